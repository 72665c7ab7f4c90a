import PyProof.Rows.All
import Wide.All
import OpenK.AllK
import Wide.FinOn
import Lean
import PyProof.EqAt
import PyProof.EqKinds
import PyProof.TupleCall
import PyProof.Rows.EqDataRows
import PyProof.DictList
import PyProof.FactsAll.dict_1
import PyProof.FactsAll.subtypes_4
import KE.KTryMore
import PyProof.WalksEnum
import PyProof.EnumMake
import PyProof.ListStr
import PyProof.TupleOfStr
import PyProof.Dict
import PyProof.ToksMono
import PyProof.StrCalls6
import PyProof.StrWalks
import PyProof.ConsumeWalk
import PyProof.CallStr
import PyProof.MeetsStr
import KE.KIntText
import PyProof.StrCalls2
import PyProof.StrOps2
import KE.KSortTup
import PyProof.WalksMore
import PyProof.TupleIter
import PyProof.SliceList
import PyProof.ListRange
import KE.KRevIter
import PyProof.ZipIter
import PyProof.ListNew
import KE.KDictSum
import KE.KDictIter
import PyProof.DictTruth
import PyProof.StrLawsIn
import PyProof.Rows.StrCut
import PySem.Challenge.RW_inkloom_k20_marks_found
set_option Elab.async false
set_option linter.all false
set_option maxRecDepth 100000
set_option compiler.extract_closed false
noncomputable section
theorem d3:1≤PySem.sizeLine:=by decide
theorem dw:2≤PySem.sizeLine:=by decide
theorem wk:3≤PySem.sizeLine:=by decide
theorem Jw:4≤PySem.sizeLine:=by decide
theorem Jx:6≤PySem.sizeLine:=by decide
open PySem.W (Frag InstAt KdkAt callWith_K cellsFrom_some codeRec_of emptyDict exmOne handedIn hasDictIn hideAll hideAll_get instObj kia_one kitOne kitx_dict kitx_list lookIn makesIn methodObj nsIn of_hideAll plainGet plainGet_of plainOver takerIn)
theorem zqT{p:Prop}[Decidable p](h:p):decide p=true:=decide_eq_true h
theorem zqF{p:Prop}[Decidable p](h: ¬p):decide p=false:=decide_eq_false h
theorem zqA{α:Type}{a b:List α}:(a++b).length=a.length+b.length:=List.length_append
theorem zqR(n:Nat):n≤n:=Nat.le_refl n
theorem zqZ(n:Nat):0≤n:=Nat.zero_le n
def zaa:=@List.length_map
def zab:=@Nat.ne_of_lt
def zac:=@Bool.and_eq_true
def zad:=@List.not_mem_nil
def zae:=@List.mem_cons
def zaf:=@List.size_toArray
def zag:=@List.append_nil
def zah:=@List.getElem?_map
def zai:=@List.mem_append
def zaj:=@List.mem_singleton
def zak:=@List.map_cons
def zal:=@List.getElem?_eq_some_iff
def zam:=@Bool.false_ne_true
def zan:=@Option.some.inj
def zao:=@List.mem_cons_of_mem
def zap:=@List.mem_cons_self
def zaq:=@Int.emod_nonneg
def zar:=@Int.emod_lt_of_pos
def zas:=@List.length_take
def zat:=@List.mem_of_getElem?
def zau:=@Nat.lt_of_lt_of_le
def zav:=@List.map_append
def zaw:=@Nat.le_trans
def zax:=@List.length_cons
def zay:=@List.mem_map
def zaz:=@List.mem_append_right
def zaA:=@Nat.lt_succ_of_lt
def zaB:=@Nat.lt_irrefl
def zaC:=@List.length_filter_le
def zaD:=@Int.le_refl
def zaE:=@List.getElem?_eq_getElem
def zaF:=@List.find?_cons
def zaG:=@Bool.not_eq_true'
def zaH:=@List.map_nil
def zaI:=@Bool.false_xor
def zaJ:=@List.take_length
def zaK:=@List.filter_cons_of_neg
def zaL:=@Int.eq_ofNat_of_zero_le
def zaM:=@Nat.le_succ
def zaN:=@Bool.false_eq_true
def zaO:=@List.length_eq_zero_iff
def zaP:=@List.map_map
def zaQ:=@List.filter_cons_of_pos
def zaR:=@List.mem_append_left
def zaS:=@List.length_drop
def zaT:=@List.lookup_cons
def zaU:=@Bool.true_xor
def zaV:=@List.getElem_mem
def zaW:=@Int.natCast_add
def zaX:=@List.mem_filter
def zaY:=@List.mem_range
def zaZ:=@Nat.lt_succ_self
def zba:=@List.all_cons
def zbb:=@List.append_assoc
def zbc:=@List.all_eq_true
def zbd:=@List.cons.inj
def zbe:=@List.pairwise_map
def zbf:=@List.take_add_one
def zbg:=@List.filter_nil
def zbh:=@Array.length_toList
def zbi:=@Bool.false_and
def zbj:=@Bool.eq_iff_iff
def zbk:=@List.any_cons
def zbl:=@List.replicate_succ
def zbm:=@List.length_singleton
def zbn:=@Bool.and_false
def zbo:=@List.take_of_length_le
def zbp:=@Nat.zero_add
def zbq:=@List.take_append_drop
def zbr:=@List.getElem_inj
def zbs:=@List.nodup_cons
def zbt:=@List.of_mem_zip
def zbu:=@Option.isSome_iff_exists
def zbv:=@List.getElem?_append_right
def zbw:=@Bool.or_false
def zbx:=@List.flatten_cons
def zby:=@Option.map_some
def zbz:=@List.getElem_of_mem
def zbA:=@List.filter_append
def zbB:=@List.getElem?_of_mem
def zbC:=@List.mem_map_of_mem
def zbD:=@List.ext_getElem?
def zbE:=@List.getElem?_set
def zbF:=@List.filterMap_cons
def zbG:=@List.getElem?_set_self
def zbH:=@List.mem_filterMap
def zbI:=@Option.ne_none_iff_exists'
def zbJ:=@Array.eq_empty_of_size_eq_zero
def zbK:=@List.drop_eq_getElem_cons
def zbL:=@List.pairwise_iff_getElem
def zbM:=@List.getLast?_append
def zbN:=@Nat.add_right_comm
namespace L2
open PySem PySem.Spec PyProof.Rows
abbrev Key:=Sum Int Str
def kN:Key->Value->Bool
 |.inl k,v=>Value.isInt k v
 |.inr x,v=>Value.isStrOf x v
def Jy(w:World):Key->Int
 |.inl k=>hashInt k
 |.inr x=>hashStr w x
theorem iy:∀{k:Key}{v:Value},kN k v=true->(∃i t,k=Sum.inl i/\v=Value.int i t)\/(∃x t,k=Sum.inr x/\v=Value.str x t)
 |.inl i,v,h=>by
  obtain⟨t,e⟩:=Value.isInt_shape (k:=i) (v:=v) h;exact .inl ⟨i,t,rfl,e⟩
 |.inr x,v,h=>by
  obtain⟨t,e⟩:=Value.isStrOf_shape (x:=x) (v:=v) h;exact .inr ⟨x,t,rfl,e⟩
theorem Jz(i:Int)(t:Tok):kN (.inl i) (.int i t)=true:=by simp[kN,Value.isInt]
theorem JA(x:Str)(t:Tok):kN (.inr x) (.str x t)=true:=by simp[kN,Value.isStrOf]
theorem JB(a b:Int):decide ((Sum.inl a:Key)=Sum.inl b)=(a==b):=by
 by_cases e:a=b
 ·subst e;simp
 ·have h:¬(Sum.inl a:Key)=Sum.inl b:=fun q=>e (Sum.inl.inj q);rw[zqF h];exact(beq_eq_false_iff_ne.mpr e).symm
theorem JC(a b:Str):decide ((Sum.inr a:Key)=Sum.inr b)=decide (a=b):=by
 by_cases e:a=b
 ·subst e;simp
 ·have h:¬(Sum.inr a:Key)=Sum.inr b:=fun q=>e (Sum.inr.inj q);rw[zqF h,zqF e]
theorem JD(a:Int)(b:Str):decide ((Sum.inl a:Key)=Sum.inr b)=false:=zqF (fun q=>nomatch q)
theorem JE(a:Str)(b:Int):decide ((Sum.inr a:Key)=Sum.inl b)=false:=zqF (fun q=>nomatch q)
def ck(prog:Program)(w:World):PySem.KeyKind prog w Key where
 is:=kN
 hash:=Jy w
 inj:=fun v a b ha hb=>by
  rcases iy ha with⟨i,t,rfl,rfl⟩|⟨x,t,rfl,rfl⟩
  ·rcases iy hb with⟨j,u,rfl,e⟩|⟨y,u,rfl,e⟩
   ·injection e with e1 _;rw[e1]
   ·exact nomatch e
  ·rcases iy hb with⟨j,u,rfl,e⟩|⟨y,u,rfl,e⟩
   ·exact nomatch e
   ·injection e with e1 _;rw[e1]
 byValue:=fun k v h=>by
  rcases iy h with⟨i,t,rfl,rfl⟩|⟨x,t,rfl,rfl⟩ <;>rfl
 pyHash:=fun hv h=>by
  rcases iy hv with⟨i,t,rfl,rfl⟩|⟨x,t,rfl,rfl⟩
  ·exact wpAny_pyHash_int h
  ·exact wpAny_pyHash_str h
 eqBool:=fun hu hv h=>by
  rcases iy hu with⟨i,t,rfl,rfl⟩|⟨x,t,rfl,rfl⟩
  ·rcases iy hv with⟨j,u,rfl,rfl⟩|⟨y,u,rfl,rfl⟩
   ·rw[JB] at h;exact wpAny_eqBool_int h
   ·rw[JD] at h;exact SeqAt.EqAt.int_str i t y u _ _ _ _ h
  ·rcases iy hv with⟨j,u,rfl,rfl⟩|⟨y,u,rfl,rfl⟩
   ·rw[JE] at h;exact SeqAt.EqAt.str_int x t j u _ _ _ _ h
   ·rw[JC] at h;exact wpAny_eqBool_str h
 «strs»:=fun k x t v h=>by
  rcases iy h with⟨i,u,rfl,e⟩|⟨y,u,rfl,e⟩
  ·exact nomatch e
  ·injection e with e1 _
   subst e1;cases v<;>rfl
theorem AQ(prog:Program)(w:World)(i:Int)(t:Tok):(ck prog w).is (.inl i) (.int i t)=true:=Jz i t
theorem AR(prog:Program)(w:World)(x:Str)(t:Tok):(ck prog w).is (.inr x) (.str x t)=true:=JA x t
inductive V where
 |aD|bl (b:Bool)|int (i:Int)|str (x:Str)|eP (b:Array UInt8)|kO (b:UInt64)|ref (a:Addr)|ty (n:String)
 deriving DecidableEq
def RelV:V->Value->Prop
 |.aD,u=>u=Value.none
 |.bl b,u=>u=Value.bool b
 |.int i,u=>∃t,u=Value.int i t
 |.str x,u=>∃t,u=Value.str x t
 |.eP b,u=>∃t,u=Value.bytes b t
 |.kO b,u=>∃t,u=Value.float b t
 |.ref a,u=>u=Value.ref a
 |.ty n,u=>u=Value.type n
abbrev Vals:List V->List Value->Prop:=Paired RelV
theorem Vals.length{xs:List V}{us:List Value}(r:Vals xs us):xs.length=us.length:=Paired.length r
theorem Vals.get:∀{xs:List V}{us:List Value}{i:Nat}{x:V},Vals xs us->xs[i]?=some x->∃u,us[i]?=some u/\RelV x u
 |_,_,_,_,.nil,e=>by simp at e
 |_,_,0,_,.cons r _,e=>by simp at e;subst e;exact⟨_,rfl,r⟩
 |_,_,i+1,x,.cons _ t,e=>by
  obtain⟨u,h1,h2⟩:=Vals.get (i:=i) (x:=x) t (by simpa using e)
  exact⟨u,by simpa using h1,h2⟩
theorem Vals.set{x:V}{u:Value}(r:RelV x u):∀{xs:List V}{us:List Value} (i:Nat),Vals xs us->Vals (xs.set i x) (us.set i u)
 |_,_,_,.nil=>.nil
 |_,_,0,.cons _ t=>.cons r t
 |_,_,i+1,.cons q t=>.cons q (Vals.set r i t)
theorem Vals.append:∀{xs ys:List V}{us ws:List Value},Vals xs us->Vals ys ws->Vals (xs++ys) (us++ws)
 |_,_,_,_,.nil,s=>s
 |_,_,_,_,.cons r t,s=>.cons r (Vals.append t s)
theorem Vals.take:∀{xs:List V}{us:List Value} (n:Nat),Vals xs us->Vals (xs.take n) (us.take n)
 |_,_,0,_=>.nil
 |_,_,_+1,.nil=>.nil
 |_,_,n+1,.cons r t=>.cons r (Vals.take n t)
theorem Vals.drop:∀{xs:List V}{us:List Value} (n:Nat),Vals xs us->Vals (xs.drop n) (us.drop n)
 |_,_,0,r=>r
 |_,_,_+1,.nil=>.nil
 |_,_,n+1,.cons _ t=>Vals.drop n t
def eQ:Option V->Option Value->Prop
 |some v,some u=>RelV v u
 |none,none=>True
 |_,_=>False
def KV{κ:Type}:List (κ×V)->List (κ×Value)->Prop:=Paired fun(p:κ×V) (q:κ×Value)=>p.1=q.1/\RelV p.2 q.2
def kV:Key->V
 |.inl i=>.int i
 |.inr x=>.str x
inductive HO where
 |lst (xs:List V)
 |tup (xs:List V)
 |dK (kvs:List (Key×V))|dT (kvs:List (List Key×V))
 |set (S:Int->Bool) (n:Nat)
 |ins (C dx:Addr) (fs:List (Str×V))
 |own (x:Addr)
 |xd (fs:List (Str×V))
 |met (f x:Addr)
 |eS (lo hi:Int)
 |aY (o:Obj) (u:HO)
 |i_ (ps:Array Value)
 |ext (φ:Heap->Prop)
abbrev Hp:=Addr->Option HO
def upd(H:Hp)(a:Addr)(o:HO):Hp:=fun b=>if b=a then some o else H b
theorem az{H:Hp}{a:Addr}{o:HO}:upd H a o a=some o:=by unfold upd;rw[if_pos rfl]
theorem av{H:Hp}{a b:Addr}{o:HO}(h:b≠a):upd H a o b=H b:=by unfold upd;rw[if_neg h]
theorem iz{H:Hp}{a b:Addr}{o u:HO}(h:H a=some o)(h':H b=some u)(d:o≠u):a≠b:=by
 intro e;subst e;rw[h] at h';exact d (zan h')
theorem aS{H:Hp}{a b:Addr}{o:HO}(h:H a=some o)(h':H b=none):a≠b:=by
 intro e;subst e;rw[h] at h';cases h'
section
variable (P:Program) (w:World)
def bI(H:Hp)(h:Heap)(a:Addr):HO->Prop
 |.lst xs=>xs.length<=sizeLine/\∃(aj:List Value) (n:Nat),Vals xs aj/\h.get? a=some {cls:=.type "list",data:=.seq aj.toArray n}
 |.tup xs=>xs.length<=sizeLine/\∃aj:List Value,Vals xs aj/\IsTup h a aj.toArray
 |.dK kvs=>kvs.length<=sizeLine/\(a==sysModules)=false/\∃vs,KV kvs vs/\h.DictOf (ck P w) a vs
 |.dT kvs=>kvs.length<=sizeLine/\(a==sysModules)=false/\∃xs:List (List Key×Addr×Value),
   Paired (fun(p:List Key×V) (q:List Key×Addr×Value)=>p.1=q.1/\H q.2.1=some (.tup<|p.1.map kV)/\RelV p.2 q.2.2) kvs xs/\
   ∃o es ep,h.get? a=some o/\o.ExactDict/\o.data=.dict es ep/\es.toList=xs.map (entryOfKey<|tupleKind<|ck P w)/\(xs.map (·.1)).Nodup
 |.set S n=>h.SetOf (intKind P w) a S n
 |.ins C dx fs=>H dx=some (.own a)/\fs.length<=1000/\dx≠a/\h.get? a=some (instObj C dx)/\
   ∃mA,h.Ns1 dx mA/\(∀f,eQ (fs.lookup f)<|mA f)/\PySem.Within mA (fs.map (·.1))
 |.own _=>∃o,h.get? a=some o
 |.xd fs=>∃mA,h.Ns1 a mA/\∀f,eQ (fs.lookup f) (mA f)
 |.eS lo hi=>∃t u v,h.get? a=some {cls:=.type "range",data:=.fields #[.int lo t,.int hi u,.int 1 v]}
 |.aY o u=>h.get? a=some o/\bI H h a u
 |.i_ ps=>h.get? a=some {cls:=.none,data:=.fields ps}
 |.met f x=>h.get? a=some (methodObj (.ref f)<|.ref x)
 |.ext φ=>φ h/\(∃o,h.get? a=some o)/\∀h1 h2:Heap,φ h1->(∀o,h1.get? a=some o->h2.get? a=some o)->φ h2
def bD(H:Hp)(h:Heap):Prop:= ∀a o,H a=some o->bI P w H h a o
end
section
variable {P:Program}{w:World}{H H':Hp}{h h':Heap}{a:Addr}{o:HO}
theorem bI.lt(x:bI P w H h a o):a<h.objs.size:=by
 cases o with
 |lst xs=>obtain⟨_,_,_,_,e⟩:=x;exact Heap.lt_size e
 |tup xs=>obtain⟨_,_,_,p⟩:=x;exact p.lt
 |dK kvs=>obtain⟨_,_,_,_,o,_,_,e,_⟩:=x;exact Heap.lt_size e
 |dT kvs=>obtain⟨_,_,_,_,o,_,_,e,_⟩:=x;exact Heap.lt_size e
 |set S n=>obtain⟨o,_,_,_,e,_⟩:=x;exact Heap.lt_size e
 |ins C dx fs=>obtain⟨_,_,_,e,_⟩:=x;exact Heap.lt_size e
 |own y=>obtain⟨_,e⟩:=x;exact Heap.lt_size e
 |xd fs=>obtain⟨_,⟨_,_,_,e,_⟩,_⟩:=x;exact Heap.lt_size e
 |eS lo hi=>obtain⟨_,_,_,e⟩:=x;exact Heap.lt_size e
 |aY ob u=>obtain⟨e,_⟩:=x;exact Heap.lt_size e
 |i_ ps=>exact Heap.lt_size (show h.get? a=some _ from x)
 |met f y=>exact Heap.lt_size (show h.get? a=some _ from x)
 |ext φ=>obtain⟨_,⟨_,e⟩,_⟩:=x;exact Heap.lt_size e
theorem Paired.bY{α β:Type}{F G:α->β->Prop}:∀{l₁:List α}{l₂:List β},Paired F l₁ l₂->(∀a b,F a b->G a b)->Paired G l₁ l₂
 |_,_,.nil,_=>.nil
 |_,_,.cons r t,f=>.cons (f _ _ r) (Paired.bY t f)
theorem bI.iA(x:bI P w H h a o)(k:∀b u,(b=a\/H b=some (.own a))->h.get? b=some u->h'.get? b=some u)
  (ho:∀b,H b=some (.own a)->H' b=some (.own a)) (ht:∀b xs,H b=some (.tup xs)->H' b=some (.tup xs)):bI P w H' h' a o:=by
 induction o with
 |lst xs=>obtain⟨z,aj,n,r,e⟩:=x;exact⟨z,aj,n,r,k _ _ (.inl rfl) e⟩
 |tup xs=>obtain⟨z,aj,r,ob,e,c⟩:=x;exact⟨z,aj,r,ob,k _ _ (.inl rfl) e,c⟩
 |dK kvs=>obtain⟨z,y,vs,r,ob,es,ep,e,c⟩:=x;exact⟨z,y,vs,r,ob,es,ep,k _ _ (.inl rfl) e,c⟩
 |dT kvs=>
  obtain⟨z,y,xs,r,ob,es,ep,e,c⟩:=x;exact⟨z,y,xs,Paired.bY r fun p q z=>⟨z.1,ht _ _ z.2.1,z.2.2⟩,ob,es,ep,k _ _ (.inl rfl) e,c⟩
 |set S n=>obtain⟨ob,es,ep,t,e,c⟩:=x;exact⟨ob,es,ep,t,k _ _ (.inl rfl) e,c⟩
 |ins C dx fs=>
  obtain⟨d,z,ne,e,mA,⟨od,es,ep,e2,c⟩,r⟩:=x;exact⟨ho _ d,z,ne,k _ _ (.inl rfl) e,mA,⟨od,es,ep,k _ _ (.inr d) e2,c⟩,r⟩
 |own y=>obtain⟨ob,e⟩:=x;exact⟨ob,k _ _ (.inl rfl) e⟩
 |xd fs=>obtain⟨mA,⟨od,es,ep,e,c⟩,r⟩:=x;exact⟨mA,⟨od,es,ep,k _ _ (.inl rfl) e,c⟩,r⟩
 |eS lo hi=>obtain⟨t,u,v,e⟩:=x;exact⟨t,u,v,k _ _ (.inl rfl) e⟩
 |aY ob u ih=>obtain⟨e,q⟩:=x;exact⟨k _ _ (.inl rfl) e,ih q⟩
 |i_ ps=>
  have e:h.get? a=some {cls:=.none,data:=.fields ps}:=x;show h'.get? a=some {cls:=.none,data:=.fields ps};exact k a _ (.inl rfl) e
 |met f y=>
  have e:h.get? a=some (methodObj (.ref f)<|.ref y):=x;show h'.get? a=some (methodObj (.ref f)<|.ref y);exact k a _ (.inl rfl) e
 |ext φ=>obtain⟨p,⟨o,e⟩,st⟩:=x;exact⟨st _ _ p fun o q=>k _ _ (.inl rfl) q,⟨o,k _ _ (.inl rfl) e⟩,st⟩
theorem bD.lt(x:bD P w H h)(e:H a=some o):a<h.objs.size:=(x a o e).lt
theorem bD.fresh(x:bD P w H h)(e:h.objs.size<=a):H a=none:=by
 cases q:H a with
 |none=>rfl
 |some u=>exact absurd (zau (x.lt q) e) (zaB _)
theorem bD.kept(x:bD P w H h)(k:∀b u,h.get? b=some u->h'.get? b=some u):bD P w H h':=fun a o e=>
 (x a o e).iA (fun b u _ q=>k b u q) (fun _ q=>q) fun _ _ q=>q
theorem bD.laid(x:bD P w H h)(k:∀b u,h.get? b=some u->h'.get? b=some u)(hp:h.objs.size<=a)(new:bI P w (upd H a o) h' a o):bD P w (upd H a o) h':=fun b u e=>by
 have hn:=x.fresh hp;by_cases hb:b=a
 ·subst hb;rw[az] at e;cases e;exact new
 ·rw[av hb] at e;exact(x b u e).iA (fun c v _ q=>k c v q) (fun c q=>by rw[av<|aS q hn];exact q) fun c xs q=>by rw[av<|aS q hn];exact q
end
def Rd(H:Hp)(a:Addr)(u:HO):Prop:=H a=some u\/∃o,H a=some (.aY o u)
theorem Rd.ok{P:Program}{w:World}{H:Hp}{h:Heap}{a:Addr}{u:HO}(r:Rd H a u)(x:bD P w H h):bI P w H h a u:=by
 rcases r with r|⟨o,r⟩
 ·exact x a u r
 ·obtain⟨_,q⟩:=x a _ r;exact q
def oq:Option HO->Prop
 |some (.lst _)=>True
 |some (.dK _)=>True
 |some (.dT _)=>True
 |some (.set _ _)=>True
 |some (.ins _ _ _)=>True
 |some (.ext _)=>True
 |_=>False
section
variable {P:Program}{w:World}{H:Hp}{h h':Heap}{x e:Addr}{o':HO}
theorem bD.write(ok:bD P w H h)(mu:oq (H x))(he:e=x\/H e=some (.own x))(k:∀b u,b≠e->h.get? b=some u->h'.get? b=some u)(ot:∃u,h'.get? e=some u)
  (new:bI P w (upd H x o') h' x o'):bD P w (upd H x o') h':=fun b u q=>by
 have AS:∀c y,H c=some (.own y)->c≠x:=fun c y r z=>by subst z;rw[r] at mu;exact mu
 have JF:∀c xs,H c=some (.tup xs)->c≠x:=fun c xs r z=>by subst z;rw[r] at mu;exact mu
 by_cases hb:b=x
 ·subst hb;rw[az] at q;cases q;exact new
 ·rw[av hb] at q;by_cases gY:b=e
  ·have q':H b=some (.own x):=by
    rcases he with z|z
    ·exact absurd (gY.trans z) hb
    ·rw[gY];exact z
   rw[q] at q';cases q';obtain⟨v,hv⟩:=ot;exact⟨v,by rw[gY];exact hv⟩
  ·refine(ok b u q).iA (fun c v hc r=>k c v ?_ r) (fun c r=>by rw[av<|AS c b r];exact r) fun c xs r=>by rw[av<|JF c xs r];exact r
   rcases hc with rfl|hc
   ·exact gY
   ·rintro rfl;rcases he with z|z
    ·exact AS c b hc z
    ·rw[hc] at z;cases z;exact hb rfl
end
structure Un (fs ex:List Addr) (H H':Hp) (h h':Heap):Prop where
 keep:∀b o,h.get? b=some o->H b=none->b∉fs->b∉ex->h'.get? b=some o
 slot:∀b o,h.get? b=some o->H b=none->b∈fs->b∉ex->∃sl,h'.get? b=some {o with slots:=sl}
 free:∀b o,h.get? b=some o->H b=none->b∉ex->H' b=none
 there:∀b o,h.get? b=some o->b∉ex->∃o',h'.get? b=some o'
 d4:∀b xs,H b=some (.tup xs)->H' b=some (.tup xs)
 dS:∀b o u,H b=some (.aY o u)->H' b=some (.aY o u)
 eT:∀b ps,H b=some (.i_ ps)->∃more,H' b=some (.i_<|ps++more)
section
variable {fs JG ex Zt:List Addr}{H H1 H2:Hp}{h h1 h2 h':Heap}{a x e:Addr}{o:HO}
theorem Un.any(u:Un fs ex H H1 h h1){b:Addr}{ob:Obj}(q:h.get? b=some ob)(n:H b=none)(hx:b∉ex):∃sl,h1.get? b=some {ob with slots:=sl}:=by
 by_cases hb:b∈fs
 ·exact u.slot b ob q n hb hx
 ·exact⟨ob.slots,u.keep b ob q n hb hx⟩
theorem Un.kept(k:∀b u,h.get? b=some u->h'.get? b=some u):Un fs ex H H h h':=
 ⟨fun b ob q _ _ _=>k b ob q,fun b ob q _ _ _=>⟨ob.slots,k b ob q⟩,fun _ _ _ n _=>n,fun b ob q _=>⟨ob,k b ob q⟩,fun _ _ q=>q,fun _ _ _ q=>q,fun _ ps q=>⟨#[],by rw[q];simp⟩⟩
theorem Un.refl:Un fs ex H H h h:=Un.kept fun _ _ q=>q
theorem Un.laid(k:∀b u,h.get? b=some u->h'.get? b=some u)(hp:h.objs.size<=a)(hn:H a=none):Un fs ex H (upd H a o) h h' where
 keep:=fun b u q _ _ _=>k b u q
 slot:=fun b u q _ _ _=>⟨u.slots,k b u q⟩
 free:=fun b u q n _=>by rw[av<|zab<|zau (Heap.lt_size q) hp];exact n
 there:=fun b u q _=>⟨u,k b u q⟩
 d4:=fun b xs q=>by rw[av<|aS q hn];exact q
 dS:=fun b u xs q=>by rw[av<|aS q hn];exact q
 eT:=fun b ps q=>⟨#[],by rw[av<|aS q hn,q];simp⟩
theorem Un.write(mu:oq (H x))(he:e=x\/H e=some (.own x))(k:∀b u,b≠e->h.get? b=some u->h'.get? b=some u)(ot:∃u,h'.get? e=some u):Un fs ex H (upd H x o) h h':=by
 have hx:∀b,H b=none->b≠x:=fun b n z=>by subst z;rw[n] at mu;exact mu
 have hb:∀b,H b=none->b≠e:=fun b n z=>by
  subst z;rcases he with r|r
  ·exact hx b n r
  ·rw[n] at r;cases r
 have hm:∀b u,H b=some u-> ¬oq (some u)->b≠x:=fun b u q nm z=>by subst z;rw[q] at mu;exact nm mu
 refine⟨fun b u q n _ _=>k b u (hb b n) q,fun b u q n _ _=>⟨u.slots,k b u (hb b n) q⟩,fun b u q n _=>by rw[av (hx b n)];exact n,fun b u q _=>?_,
  fun b xs q=>by rw[av (hm b _ q fun z=>z)];exact q,fun b u xs q=>by rw[av (hm b _ q fun z=>z)];exact q,fun b ps q=>⟨#[],by rw[av (hm b _ q fun z=>z),q];simp⟩⟩
 by_cases gY:b=e
 ·subst gY;exact ot
 ·exact⟨u,k b u gY q⟩
end
def ja(h:Heap)(H:Hp):List Addr:=(List.range h.objs.size).filter fun a=>(H a).isSome
def jL(h:Heap)(H:Hp):Heap:=hideAll h (ja h H)
theorem JH(h:Heap)(H:Hp):(jL h H).objs.size=h.objs.size:=PySem.W.hideAll_size _ _
theorem JI{h:Heap}{H:Hp}{b:Addr}{o:Obj}(e:h.get? b=some o)(n:H b=none):(jL h H).get? b=some o:=
 hideAll_get _ e fun hm=>by
  have q:(H b).isSome=true:=(zaX.mp hm).2;rw[n] at q;simp at q
theorem JJ{h:Heap}{H:Hp}{b:Addr}{o:Obj}(e:(jL h H).get? b=some o):h.get? b=some o/\H b=none:=by
 have e':h.get? b=some o:=of_hideAll (ja h H) e;refine⟨e',?_⟩;cases q:H b with
 |none=>rfl
 |some x=>
  have hm:b∈ja h H:=zaX.mpr ⟨zaY.mpr<|Heap.lt_size e',by simp[q]⟩
  have z:(jL h H).get? b=none:=PySem.W.hideAll_none (ja h H) hm;rw[z] at e;cases e
structure Mod (K:Frag) (mg:Str->Option Value) (base:Heap):Prop where
 me:K.In base
 glob:base.Ns mainGlobals mg
 blt:∃mb,base.Ns builtinsNs mb/\∀x:Str,x≠"__name__"->mb x=bootBuiltins x
 nolimit:base.NoLimit
structure Cx where
 prog:Program
 w:World
 K:Frag
 mg:Str->Option Value
 base:Heap
 A:Around
 N:List Str
 s₀:Shared
 H₀:Hp
 env:Env
 outer:List Env
 stack:List Env
 ex:List Addr
 fn:Str->Bool
 calm:Bool
 pn:List (Addr×Obj)
 xe:Value->Shared->Prop
def bg(l:List Env):List Addr:=l.filterMap (·.frame)
abbrev Cx.fs(X:Cx):List Addr:=bg X.outer
def tD(sc:Scope)(x:Str):Prop:=sc.names.lookup x=some .local\/sc.names.lookup x=some .cell\/sc.names.lookup x=some .free
def Loc(sc:Scope)(x:Str):Prop:=sc.names.lookup x=some .local\/sc.names.lookup x=some .cell
def Look(env:Env)(h:Heap)(m:Str->Option Value)(x:Str)(u:Value):Prop:=
 (env.kindOf x=some .local/\m x=some u)\/((env.kindOf x=some .cell\/env.kindOf x=some .free)/\∃c,env.cells.lookup x=some c/\h.IsCell c (some u))
structure Cx.Ok (X:Cx):Prop where
 mod:Mod X.K X.mg X.base
 kind:X.env.scope.kind=.function
 glob:X.env.globals=mainGlobals
 blt:X.env.builtins=builtinsNs
 above:X.s₀.heap.objs.size<=X.env.locals
 inj:∀x y c,X.env.cells.lookup x=some c->X.env.cells.lookup y=some c->x=y
 has:∀x,(X.env.kindOf x=some .cell\/X.env.kindOf x=some .free)->∃c,X.env.cells.lookup x=some c
 tE:∀x c,X.fn x=true->X.env.cells.lookup x=some c->X.s₀.heap.objs.size<=c
 hd:X.calm=true->X.A.handled=none
 frames:X.A.frames=some X.stack
 gZ:X.stack=X.outer\/(X.stack=X.env::X.outer/\X.env.frame=some X.env.locals)
 JK:∀b∈X.ex,b≠X.env.locals/\∀x c,X.env.cells.lookup x=some c->c≠b
 bs:∀b o,X.base.get? b=some o->X.s₀.heap.get? b=some o/\X.H₀ b=none
 kQ:X.base.objs.size<=X.s₀.heap.objs.size
 tF:∀b o,X.base.get? b=some o->b∉X.ex
 tG:∀b∈X.ex,b∉X.fs
 g4:X.s₀.heap.FunFrames X.base X.outer
 mf:∀b∈X.fs,X.H₀ b=none
structure Inv (X:Cx) (pins:List (Addr×Obj)) (σ:List (Option V)) (H:Hp) (s:Shared):Prop where
 ok:X.Ok
 os:s.os=X.s₀.os
 bare:AllBare s.gens
 base:Un X.fs X.ex X.H₀ H X.s₀.heap s.heap
 loc:∃m,s.heap.Ns X.env.locals m/\∀(i:Nat) (x:Str) (v:V),X.N[i]?=some x->σ[i]?=some (some v)->tD X.env.scope x->∃u,RelV v u/\Look X.env s.heap m x u
 cell:∀x c,X.env.cells.lookup x=some c->∃v,s.heap.IsCell c v
 free:H X.env.locals=none
 eU:∀x c,X.env.cells.lookup x=some c->H c=none
 pin:∀p∈X.pn++pins,s.heap.get? p.1=some p.2/\H p.1=none/\p.1≠X.env.locals/\p.1∉X.fs/\∀v,p.2.data≠ .cell v
 aA:bD X.prog X.w H s.heap
 len:σ.length=X.N.length
section
variable {X:Cx}{pins:List (Addr×Obj)}{σ:List (Option V)}{H H':Hp}{s:Shared}{h':Heap}
theorem Cx.Ok.JL(ok:X.Ok){b:Addr}{o:Obj}(e:X.base.get? b=some o):b∉X.fs:=fun hb=>by
 have:=(ok.g4.mem hb).1;rw[e] at this;cases this
theorem Inv.bs(I:Inv X pins σ H s):∀b o,X.base.get? b=some o->s.heap.get? b=some o/\H b=none:=fun b o e=>
 ⟨I.base.keep b o (I.ok.bs b o e).1 (I.ok.bs b o e).2 (I.ok.JL e)<|I.ok.tF b o e,I.base.free b o (I.ok.bs b o e).1 (I.ok.bs b o e).2<|I.ok.tF b o e⟩
theorem Inv.bk(I:Inv X pins σ H s):∀b o,X.base.get? b=some o->s.heap.get? b=some o:=fun b o e=>(I.bs b o e).1
theorem Inv.mod(I:Inv X pins σ H s):Mod X.K X.mg X.base:=I.ok.mod
theorem Inv.cj(I:Inv X pins σ H s):X.K.In s.heap:=I.ok.mod.me.keeps I.bk
theorem Inv.lt(I:Inv X pins σ H s):X.env.locals<s.heap.objs.size:=let ⟨_,hn,_⟩:=I.loc;hn.lt
theorem Inv.sz(I:Inv X pins σ H s):X.s₀.heap.objs.size<=s.heap.objs.size:=zaw I.ok.above (Nat.le_of_lt I.lt)
theorem Inv.AU(I:Inv X pins σ H s){a:Addr}(h:s.heap.objs.size<=a):a∉X.fs:=fun hb=>by
 obtain⟨_,o,ho,_⟩:=I.ok.g4.mem hb;exact absurd (zau (Heap.lt_size ho)<|zaw I.sz h)<|zaB _
theorem Inv.mh(I:Inv X pins σ H s):∀x c,X.env.cells.lookup x=some c->c≠X.env.locals:=fun x c e z=>by
 obtain⟨v,o,ho,hd⟩:=I.cell x c e;obtain⟨m,⟨o',es,ep,cW,qe,_⟩,_⟩:=I.loc;rw[z,cW] at ho;cases ho;rw[qe] at hd;cases hd
theorem Inv.g4(I:Inv X pins σ H s):s.heap.FunFrames X.base X.outer:=by
 have all:∀(l:List Env),(∀b∈bg l,b∈X.fs)->X.s₀.heap.FunFrames X.base l->s.heap.FunFrames X.base l:=by
  intro l
  induction l with
  |nil=>intro _ _;trivial
  |cons env r ih=>
   intro hs hl;obtain⟨hk,⟨L,o,hf,hn,ho,hd⟩,hr⟩:=hl;have hL:L∈X.fs:=hs L (by unfold bg;rw[zbF,hf];exact zap)
   obtain⟨sl,e⟩:=I.base.slot L o ho (I.ok.mf L hL) hL fun z=>I.ok.tG L z hL;exact⟨hk,⟨L,_,hf,hn,e,hd⟩,ih (fun b hb=>hs b (by unfold bg;rw[zbF,hf];exact zao _ hb)) hr⟩
 exact all X.outer (fun _ hb=>hb) I.ok.g4
theorem Inv.stack(I:Inv X pins σ H s):s.heap.FunFrames X.base X.stack:=by
 rcases I.ok.gZ with e|⟨e,hf⟩
 ·rw[e];exact I.g4
 ·rw[e];obtain⟨m,hn,_⟩:=I.loc;refine .cons (by rw[I.ok.kind];decide) hf hn ?_ I.g4
  exact Heap.get?_none_of_le<|zaw I.ok.kQ I.ok.above
theorem Inv.tH(I:Inv X pins σ H s):∀b∈bg X.stack,b∈X.env.locals::X.fs:=fun b hb=>by
 rcases I.ok.gZ with e|⟨e,hf⟩
 ·rw[e] at hb;exact zao _ hb
 ·rw[e] at hb;unfold bg at hb;rw[zbF,hf] at hb;exact hb
theorem Inv.tI(I:Inv X pins σ H s):∀b∈bg X.stack,H b=none:=fun b hb=>by
 rcases zae.mp (I.tH b hb) with e|hb
 ·rw[e];exact I.free
 ·obtain⟨_,o,ho,_⟩:=I.ok.g4.mem hb;exact I.base.free b o ho (I.ok.mf b hb) fun z=>I.ok.tG b z hb
theorem Inv.step{g':Array GenState}{t':Nat}{d':Drawn}{ch:List Addr}(I:Inv X pins σ H s)
  (eB:∀b∈ch,(b∈X.ex\/X.s₀.heap.objs.size<=b)/\b≠X.env.locals/\(∀x c,X.env.cells.lookup x=some c->c≠b)/\∀p∈X.pn++pins,p.1≠b)
  (keep:∀b o,b≠X.env.locals->b∉X.fs->b∉ch->s.heap.get? b=some o->H b=none->h'.get? b=some o)
  (slot:∀b o,b≠X.env.locals->b∈X.fs->b∉ch->s.heap.get? b=some o->H b=none->∃sl,h'.get? b=some {o with slots:=sl}) (free:∀b o,b∉ch->s.heap.get? b=some o->H b=none->H' b=none)
  (there:∀b o,b∉ch->s.heap.get? b=some o->∃o',h'.get? b=some o')
  (d4:∀b xs,H b=some (.tup xs)->H' b=some (.tup xs)) (dS:∀b o u,H b=some (.aY o u)->H' b=some (.aY o u)) (eT:∀b ps,H b=some (.i_ ps)->∃more,H' b=some (.i_<|ps++more))
  (ns:∀m,s.heap.Ns X.env.locals m->h'.Ns X.env.locals m) (aA:bD X.prog X.w H' h') (hg:AllBare g'):
  Inv X pins σ H' {s with heap:=h',gens:=g',drawn:=d',toks:=t'}:=by
 have AV:∀b o,X.s₀.heap.get? b=some o->b≠X.env.locals:=fun b o e=>zab (zau (Heap.lt_size e) I.ok.above);have tJ:∀b o,X.s₀.heap.get? b=some o->b∉X.ex->b∉ch:=fun b o e hx hb=>by
  rcases (eB b hb).1 with z|z
  ·exact hx z
  ·exact absurd (zau (Heap.lt_size e) z) (zaB _)
 have cellK:∀x c,X.env.cells.lookup x=some c->∀v,s.heap.IsCell c v->h'.IsCell c v:=fun x c e v ⟨o,ho,hd⟩=>by
  have qf:c∉ch:=fun z=>(eB c z).2.2.1 x c e rfl;by_cases hc:c∈X.fs
  ·obtain⟨sl,q⟩:=slot c o (I.mh x c e) hc qf ho (I.eU x c e);exact⟨_,q,hd⟩
  ·exact⟨o,keep c o (I.mh x c e) hc qf ho<|I.eU x c e,hd⟩
 refine⟨I.ok,I.os,hg,⟨fun b o e n hb hx=>?_,fun b o e n hb hx=>?_,fun b o e n hx=>?_,fun b o e hx=>?_,fun b xs e=>d4 b xs<|I.base.d4 b xs e,fun b o xs e=>dS b o xs<|I.base.dS b o xs e,fun b ps e=>?_⟩,?_,fun x c e=>?_,?_,fun x c e=>?_,fun p hp=>?_,aA,I.len⟩
 ·exact keep b o (AV b o e) hb (tJ b o e hx) (I.base.keep b o e n hb hx) (I.base.free b o e n hx)
 ·obtain⟨sl,e1⟩:=I.base.slot b o e n hb hx;obtain⟨wo,e2⟩:=slot b _ (AV b o e) hb (tJ b o e hx) e1 (I.base.free b o e n hx);exact⟨wo,e2⟩
 ·obtain⟨o',e1⟩:=I.base.there b o e hx;exact free b o' (tJ b o e hx) e1<|I.base.free b o e n hx
 ·obtain⟨o',e1⟩:=I.base.there b o e hx;exact there b o' (tJ b o e hx) e1
 ·obtain⟨m1,e1⟩:=I.base.eT b ps e;obtain⟨m2,e2⟩:=eT b _ e1;exact⟨m1++m2,by rw[e2,Array.append_assoc]⟩
 ·obtain⟨m,hn,hl⟩:=I.loc;refine⟨m,ns m hn,fun i x v e1 e2 e3=>?_⟩;obtain⟨u,r,l⟩:=hl i x v e1 e2 e3;refine⟨u,r,?_⟩;rcases l with l|⟨k,c,e,z⟩
  ·exact .inl l
  ·exact .inr ⟨k,c,e,cellK x c e _ z⟩
 ·obtain⟨v,z⟩:=I.cell x c e;exact⟨v,cellK x c e v z⟩
 ·obtain⟨m,⟨o,_,_,ho,_⟩,_⟩:=I.loc;exact free _ o (fun z=>(eB _ z).2.1 rfl) ho I.free
 ·obtain⟨v,o,ho,hd⟩:=I.cell x c e;exact free c o (fun z=>(eB c z).2.2.1 x c e rfl) ho<|I.eU x c e
 ·obtain⟨e,n,ne,nf,d⟩:=I.pin p hp;have qf:p.1∉ch:=fun z=>(eB p.1 z).2.2.2 p hp rfl;exact⟨keep p.1 p.2 ne nf qf e n,free p.1 p.2 qf e n,ne,nf,d⟩
theorem Inv.un{t':Nat}(I:Inv X pins σ H s)(u:Un X.fs [] H H' s.heap h')(aA:bD X.prog X.w H' h'):Inv X pins σ H' {s with heap:=h',toks:=t'}:=by
 obtain⟨m,⟨o,es,ep,ho,r⟩,_⟩:=id I.loc;obtain⟨sl,hL⟩:=u.any ho I.free (by simp)
 exact I.step (g':=s.gens) (d':=s.drawn) (ch:=[]) (fun _ z=>nomatch z) (fun b o _ hb _ e n=>u.keep b o e n hb (by simp)) (fun b o _ hb _ e n=>u.slot b o e n hb (by simp)) (fun b o _ e n=>u.free b o e n (by simp)) (fun b o _ e=>u.there b o e (by simp)) u.d4 u.dS u.eT (fun m' hm=>by
  obtain⟨o',fg,wq,cW,r'⟩:=hm;rw[ho] at cW;cases cW;exact⟨_,fg,wq,hL,r'⟩) aA I.bare
theorem Inv.call{g':Array GenState}{t':Nat}{d':Drawn}{ch:List Addr}(I:Inv X pins σ H s)(u:Un (bg X.stack) ch H H' s.heap h')(aA:bD X.prog X.w H' h')(hg:AllBare g')
  (eB:∀b∈ch,(b∈X.ex\/X.s₀.heap.objs.size<=b)/\b≠X.env.locals/\(∀x c,X.env.cells.lookup x=some c->c≠b)/\∀p∈X.pn++pins,p.1≠b):
  Inv X pins σ H' {s with heap:=h',gens:=g',drawn:=d',toks:=t'}:=by
 obtain⟨m,⟨o,es,ep,ho,r⟩,_⟩:=id I.loc;obtain⟨sl,hL⟩:=u.any ho I.free fun z=>(eB _ z).2.1 rfl;exact I.step (ch:=ch) eB (fun b o hL hb hc e n=>u.keep b o e n (fun z=>(zae.mp (I.tH b z)).elim hL hb) hc) (fun b o _ _ hc e n=>u.any e n hc) (fun b o hc e n=>u.free b o e n hc) (fun b o hc e=>u.there b o e hc) u.d4 u.dS u.eT (fun m' hm=>by
  obtain⟨o',fg,wq,cW,r'⟩:=hm;rw[ho] at cW;cases cW;exact⟨_,fg,wq,hL,r'⟩) aA hg
theorem Inv.turned{t':Nat}{it:Addr}(I:Inv X pins σ H s)(k:∀b o,b≠it->s.heap.get? b=some o->h'.get? b=some o)(hn:H it=none)(hL:it≠X.env.locals)
  (h1:it∈X.ex\/X.s₀.heap.objs.size<=it) (h2:∀x c,X.env.cells.lookup x=some c->c≠it) (h3:∀p∈X.pn++pins,p.1≠it):Inv X pins σ H {s with heap:=h',toks:=t'}:=by
 have AW:∀b u,H b=some u->b≠it:=fun b u e z=>by rw[z,hn] at e;cases e
 refine I.step (g':=s.gens) (d':=s.drawn) (ch:=[it]) (fun b hb=>?_) (fun b o _ _ hc e _=>k b o (fun z=>hc (by simp[z])) e) (fun b o _ _ hc e _=>⟨o.slots,k b o (fun z=>hc (by simp[z])) e⟩) (fun _ _ _ _ n=>n)
  (fun b o hc e=>⟨o,k b o (fun z=>hc (by simp[z])) e⟩) (fun _ _ e=>e) (fun _ _ _ e=>e) (fun b ps e=>⟨#[],by rw[e];simp⟩) (fun m hm=>?_) (fun b u e=>?_) I.bare
 ·have e:b=it:=by simpa using hb
  subst e;exact⟨h1,hL,h2,h3⟩
 ·obtain⟨o,es,ep,ho,r⟩:=hm;exact⟨o,es,ep,k _ o (Ne.symm hL) ho,r⟩
 ·refine(I.aA b u e).iA (fun c v hc q=>k c v ?_ q) (fun _ q=>q) fun _ _ q=>q;rcases hc with z|z
  ·rw[z];exact AW b u e
  ·exact AW c _ z
theorem Inv.tok(I:Inv X pins σ H s)(t:Nat):Inv X pins σ H {s with toks:=t}:=I.un (h':=s.heap) (t':=t) Un.refl I.aA
theorem Inv.kept{t':Nat}(I:Inv X pins σ H s)(k:∀b u,s.heap.get? b=some u->h'.get? b=some u):Inv X pins σ H {s with heap:=h',toks:=t'}:=I.un (Un.kept k) (I.aA.kept k)
theorem Inv.laid{a:Addr}{o:HO}{t':Nat}(I:Inv X pins σ H s)(k:∀b u,s.heap.get? b=some u->h'.get? b=some u)(hp:s.heap.objs.size<=a)(new:bI X.prog X.w (upd H a o) h' a o):
  Inv X pins σ (upd H a o) {s with heap:=h',toks:=t'}:=I.un (Un.laid k hp<|I.aA.fresh hp) (I.aA.laid k hp new)
theorem Inv.write{x e:Addr}{o:HO}{t':Nat}(I:Inv X pins σ H s)(mu:oq (H x))(he:e=x\/H e=some (.own x))(k:∀b u,b≠e->s.heap.get? b=some u->h'.get? b=some u)(ot:∃u,h'.get? e=some u)
  (new:bI X.prog X.w (upd H x o) h' x o):Inv X pins σ (upd H x o) {s with heap:=h',toks:=t'}:=I.un (Un.write mu he k ot) (I.aA.write mu he k ot new)
theorem Inv.ou{g5:List (Addr×Obj)}(I:Inv X pins σ H s)(h:∀p∈g5,s.heap.get? p.1=some p.2/\H p.1=none/\p.1≠X.env.locals/\p.1∉X.fs/\∀v,p.2.data≠ .cell v):Inv X g5 σ H s:=
 ⟨I.ok,I.os,I.bare,I.base,I.loc,I.cell,I.free,I.eU,fun p hp=>(zai.mp hp).elim (fun z=>I.pin p<|zaR _ z)<|h p,I.aA,I.len⟩
theorem AX{N:List Str}(hN:N.Nodup){i j:Nat}{x:Str}(a:N[i]?=some x)(b:N[j]?=some x):i=j:=by
 obtain⟨h1,e1⟩:=zal.mp a;obtain⟨h2,e2⟩:=zal.mp b;exact(zbr hN).mp<|e1.trans e2.symm
theorem AY{M:Model}{A:Around}{E:Value->Shared->Prop}{i:Nat}{x:Str}{v:V}{u:Value}{Q:Unit->Shared->Prop}(I:Inv X pins σ H s)(hN:X.N.Nodup)(hi:X.N[i]?=some x)(hx:Loc X.env.scope x)(r:RelV v u)
  (h:∀s',Inv X pins (σ.set i<|some v) H s'->(∃a,Heap.SameBut a s.heap s'.heap/\(a=X.env.locals\/X.env.cells.lookup x=some a))->Q () s') (hf:X.fn x=true\/X.env.scope.names.lookup x=some .local:=by first|exact .inl rfl|exact .inr rfl|assumption):wpAny M A (storeName X.env x u) Q E s:=by
 obtain⟨m,hn,hl⟩:=id I.loc;have JM:(X.env.scope.kind==.class ||(X.env.scope.kind==.module && X.env.locals !=X.env.globals))=false:=by rw[I.ok.kind];rfl
 have AZ:i<σ.length:=by rw[I.len];exact(zal.mp hi).1
 have mh:=I.mh;have tracked:∀{a:Addr}{h':Heap},(∃o,s.heap.get? a=some o/\H a=none)->Heap.SameBut a s.heap h'->bD X.prog X.w H h':=fun {a h'} ha hs b ob e=>by
  obtain⟨_,_,A7⟩:=ha;refine(I.aA b ob e).iA (fun c w' hc q=>(hs.2 c ?_).trans q) (fun _ q=>q) fun _ _ q=>q;rintro rfl;rcases hc with rfl|hc
  ·rw[A7] at e;cases e
  ·rw[A7] at hc;cases hc
 rcases hx with hk|hk
 ·refine wpAny_storeName_local hk hn (fun h' wu hs=>?_) JM;obtain⟨oL,_,_,g6,_⟩:=id hn;refine h _ ⟨I.ok,I.os,I.bare,⟨fun b o e n hb hx=>?_,fun b o e n hb hx=>?_,I.base.free,fun b o e hx=>?_,I.base.d4,I.base.dS,I.base.eT⟩,⟨_,wu,fun j y v' e1 e2 e3=>?_⟩,fun y c e=>?_,I.free,I.eU,fun p hp=>?_,tracked ⟨oL,g6,I.free⟩ hs,by simpa using I.len⟩ ⟨_,hs,.inl rfl⟩
  ·exact(hs.2 b<|zab<|zau (Heap.lt_size e) I.ok.above).trans (I.base.keep b o e n hb hx)
  ·obtain⟨sl,e1⟩:=I.base.slot b o e n hb hx;exact⟨sl,(hs.2 b<|zab<|zau (Heap.lt_size e) I.ok.above).trans e1⟩
  ·obtain⟨o',e1⟩:=I.base.there b o e hx;exact⟨o',(hs.2 b<|zab<|zau (Heap.lt_size e) I.ok.above).trans e1⟩
  ·by_cases hj:j=i
   ·subst hj;rw[hi] at e1;cases e1;rw[zbG AZ] at e2;cases e2;exact⟨u,r,.inl ⟨hk,by simp⟩⟩
   ·rw[List.getElem?_set_ne<|Ne.symm hj] at e2;obtain⟨u',r',q⟩:=hl j y v' e1 e2 e3;refine⟨u',r',?_⟩;rcases q with⟨k,e⟩|⟨k,c,e,z⟩
    ·refine .inl ⟨k,?_⟩;have:y≠x:=fun e=>hj (AX hN e1<|e ▸ hi)
     simp[this,e]
    ·exact .inr ⟨k,c,e,z.sameBut hs<|mh y c e⟩
  ·obtain⟨w',z⟩:=I.cell y c e;exact⟨w',z.sameBut hs<|mh y c e⟩
  ·obtain⟨e,n,ne,nf,d⟩:=I.pin p hp;exact⟨(hs.2 p.1 ne).trans e,n,ne,nf,d⟩
 ·have wx:X.fn x=true:=by
   rcases hf with z|z
   ·exact z
   ·rw[z] at hk;cases hk
  obtain⟨c,hc⟩:=I.ok.has x (.inl hk);obtain⟨w',z⟩:=I.cell x c hc;refine wpAny_storeName_cell I.ok.kind hk hc z<|fun h' A8 hs=>?_;obtain⟨oc,A9,JN⟩:=id z;refine h {s with heap:=h'} ⟨I.ok,I.os,I.bare,⟨fun b o e n hb hx=>?_,fun b o e n hb hx=>?_,I.base.free,fun b o e hx=>?_,I.base.d4,I.base.dS,I.base.eT⟩,⟨m,hn.sameBut hs<|Ne.symm<|mh x c hc,fun j y v' e1 e2 e3=>?_⟩,fun y c' e=>?_,I.free,I.eU,fun p hp=>?_,tracked ⟨oc,A9,I.eU x c hc⟩ hs,by simpa using I.len⟩ ⟨c,hs,.inr hc⟩
  ·exact(hs.2 b<|zab<|zau (Heap.lt_size e)<|I.ok.tE x c wx hc).trans (I.base.keep b o e n hb hx)
  ·obtain⟨sl,e1⟩:=I.base.slot b o e n hb hx;exact⟨sl,(hs.2 b<|zab<|zau (Heap.lt_size e)<|I.ok.tE x c wx hc).trans e1⟩
  ·obtain⟨o',e1⟩:=I.base.there b o e hx;exact⟨o',(hs.2 b<|zab<|zau (Heap.lt_size e)<|I.ok.tE x c wx hc).trans e1⟩
  ·by_cases hj:j=i
   ·subst hj;rw[hi] at e1;cases e1;rw[zbG AZ] at e2;cases e2;exact⟨u,r,.inr ⟨.inl hk,c,hc,A8⟩⟩
   ·rw[List.getElem?_set_ne<|Ne.symm hj] at e2;obtain⟨u',r',q⟩:=hl j y v' e1 e2 e3;refine⟨u',r',?_⟩;rcases q with q|⟨k,c',e,z'⟩
    ·exact .inl q
    ·refine .inr ⟨k,c',e,z'.sameBut hs ?_⟩;rintro rfl;exact hj<|AX hN e1<|I.ok.inj _ _ _ e hc ▸ hi
  ·by_cases A_:c'=c
   ·subst A_;exact⟨_,A8⟩
   ·obtain⟨w2,z2⟩:=I.cell y c' e;exact⟨w2,z2.sameBut hs A_⟩
  ·obtain⟨e,n,ne,nf,d⟩:=I.pin p hp;refine⟨(hs.2 p.1 ?_).trans e,n,ne,nf,d⟩;intro q;rw[q,A9] at e;have q':oc=p.2:=zan e;exact d w' (by rw[<-q'];exact JN)
theorem wy{M:Model}{A:Around}{E:Value->Shared->Prop}{i:Nat}{x:Str}{v:V}{u:Value}{Q:Unit->Shared->Prop}(I:Inv X pins σ H s)(hN:X.N.Nodup)(hi:X.N[i]?=some x)(hx:Loc X.env.scope x)(r:RelV v u)
  (h:∀s',Inv X pins (σ.set i<|some v) H s'->Q () s') (hf:X.fn x=true\/X.env.scope.names.lookup x=some .local:=by first|exact .inl rfl|exact .inr rfl|assumption):wpAny M A (storeName X.env x u) Q E s:=
 AY I hN hi hx r (fun s' I' _=>h s' I') hf
theorem Inv.wz{s':Shared}{ch:List Addr}(I:Inv X pins σ H s)(ho:s'.os=s.os)(u:Un (bg X.stack) ch H H' s.heap s'.heap)(aA:bD X.prog X.w H' s'.heap)(hg:AllBare s'.gens)
  (eB:∀b∈ch,(b∈X.ex\/X.s₀.heap.objs.size<=b)/\b≠X.env.locals/\(∀x c,X.env.cells.lookup x=some c->c≠b)/\∀p∈X.pn++pins,p.1≠b):Inv X pins σ H' s':=by
 obtain⟨h',g',d',t',o'⟩:=s';have e:o'=s.os:=ho;subst e;exact I.call (g':=g') (t':=t') (d':=d') u aA hg eB
end
abbrev XK:=Value->Option Addr->Hp->Prop
abbrev St:=List (Option V)
abbrev VK:=V->Hp->Prop
abbrev TE:=St->Hp->VK->Prop
abbrev TT:=St->Hp->(Bool->Hp->Prop)->Prop
abbrev TA:=St->Hp->(List V->Hp->Prop)->Prop
structure Ends where
 nx:St->Hp->Prop
 rt:VK
 bk:St->Hp->Prop:=fun _ _=>False
 ct:St->Hp->Prop:=fun _ _=>False
abbrev TS:=Ends->St->Hp->Prop
def EP(X:Cx)(pins:List (Addr×Obj))(σ:St)(Q:VK)(u:Value)(s':Shared):Prop:= ∃v H',Inv X pins σ H' s'/\RelV v u/\Q v H'
def TP(X:Cx)(pins:List (Addr×Obj))(σ:St)(Q:Bool->Hp->Prop)(b:Bool)(s':Shared):Prop:= ∃H',Inv X pins σ H' s'/\Q b H'
def AP(X:Cx)(pins:List (Addr×Obj))(σ:St)(Q:List V->Hp->Prop)(us:List Value)(s':Shared):Prop:= ∃vs H',Inv X pins σ H' s'/\Vals vs us/\Q vs H'
def SP(X:Cx)(pins:List (Addr×Obj))(D:Ends)(f:Flow)(s':Shared):Prop:=
 match f with
 |.next=>∃σ' H',Inv X pins σ' H' s'/\D.nx σ' H'
 |.brk=>∃σ' H',Inv X pins σ' H' s'/\D.bk σ' H'
 |.cont=>∃σ' H',Inv X pins σ' H' s'/\D.ct σ' H'
 |.ret u=>∃v σ' H',Inv X pins σ' H' s'/\RelV v u/\D.rt v H'
def PE(X:Cx)(e:Expr)(t:TE):Prop:=
 ∀(pins:List (Addr×Obj)) (s:Shared) (σ:St) (H:Hp) (Q:VK),Inv X pins σ H s->t σ H Q->wpAny (model X.prog X.w) X.A (eval e X.env) (EP X pins σ Q) X.xe s
def PT(X:Cx)(e:Expr)(t:TT):Prop:=
 ∀(pins:List (Addr×Obj)) (s:Shared) (σ:St) (H:Hp) (Q:Bool->Hp->Prop),Inv X pins σ H s->t σ H Q->wpAny (model X.prog X.w) X.A (isTrue e X.env<|eval e X.env) (TP X pins σ Q) X.xe s
def PW(X:Cx)(e:Expr)(t:TT):Prop:=
 ∀(whole:Sem Value) (pins:List (Addr×Obj)) (s:Shared) (σ:St) (H:Hp) (Q:Bool->Hp->Prop),Inv X pins σ H s->t σ H Q->wpAny (model X.prog X.w) X.A (isTrue e X.env whole) (TP X pins σ Q) X.xe s
theorem PW.pt{X:Cx}{e:Expr}{t:TT}(h:PW X e t):PT X e t:=h _
def PA(X:Cx)(es:List Expr)(t:TA):Prop:=
 ∀(pos:Pos) (pins:List (Addr×Obj)) (s:Shared) (σ:St) (H:Hp) (Q:List V->Hp->Prop),Inv X pins σ H s->t σ H Q->wpAny (model X.prog X.w) X.A (spliced<|backTo pos<|starEach es X.env) (AP X pins σ Q) X.xe s
def PS(X:Cx)(st:Stmt)(t:TS):Prop:=
 ∀(pins:List (Addr×Obj)) (s:Shared) (σ:St) (H:Hp) (D:Ends),Inv X pins σ H s->t D σ H->wpAny (model X.prog X.w) X.A (exec st X.env) (SP X pins D) X.xe s
def cJ(X:Cx)(st:List Stmt)(t:TS):Prop:=
 ∀(pins:List (Addr×Obj)) (s:Shared) (σ:St) (H:Hp) (D:Ends),Inv X pins σ H s->t D σ H->wpAny (model X.prog X.w) X.A (execs st X.env) (SP X pins D) X.xe s
theorem aF{α:Type}{t:Sem α}{Q Q':α->Shared->Prop}{M:Model}{A:Around}{E:Value->Shared->Prop}{s:Shared}(h:wpAny M A t Q E s)(hQ:∀a s,Q a s->Q' a s):wpAny M A t Q' E s:=wpAny_mono h hQ fun _ _ x=>x
section
variable {X:Cx}
def wA(i:Nat):TE:=fun σ H Q=>∃v,σ[i]?=some (some v)/\Q v H
def tC(v:V):TE:=fun _ H Q=>Q v H
theorem JO{i:Nat}{x:Str}{pos:Pos}(hN:X.N[i]?=some x)(hv:tD X.env.scope x)(hd:(x==("__debug__":Str))=false:=by decide)(gf:(x==("__classdict__":Str))=false:=by decide):PE X (.Name x pos) (wA i):=by
 intro pins s σ H Q I h;obtain⟨v,e,h⟩:=h;obtain⟨m,hn,hl⟩:=I.loc;obtain⟨u,r,l⟩:=hl i x v hN e hv;have fin:EP X pins σ Q u s:=⟨v,H,I,r,h⟩;rcases l with⟨hk,hm⟩|⟨hk,c,hc,Ba⟩
 ·exact wpAny_Name (wpAny_loadName_local I.ok.kind hk hn hm fin) hd
 ·rcases hk with hk|hk
  ·exact wpAny_Name (wpAny_loadName_cell I.ok.kind hk hc Ba fin) hd
  ·exact wpAny_Name (wpAny_loadName_free I.ok.kind hk hc Ba fin gf) hd
theorem JP{i j pos}:PE X (.Constant (.int i) j pos) (tC<|.int i):=fun _ _ _ H _ I h=>wpAny_Constant_int ⟨.int i,H,I.tok _,⟨_,rfl⟩,h⟩
theorem JQ{b j pos}:PE X (.Constant (.bool b) j pos) (tC<|.bl b):=fun _ _ _ H _ I h=>Constant_bool ⟨.bl b,H,I,rfl,h⟩
theorem JR{j pos}:PE X (.Constant .none j pos) (tC .aD):=fun _ _ _ H _ I h=>Constant_none ⟨.aD,H,I,rfl,h⟩
theorem JS{x j pos}:PE X (.Constant (.str x) j pos) (tC<|.str x):=fun _ _ _ H _ I h=>Calls.Constant_str ⟨.str x,H,I.tok _,⟨_,rfl⟩,h⟩
def Gl(X:Cx)(x:Str):Prop:=X.env.kindOf x=some .globalImplicit
theorem qg{E:Value->Shared->Prop}{pins:List (Addr×Obj)}{s:Shared}{σ:St}{H:Hp}{x:Str}{u:Value}{pos:Pos}{Q:Value->Shared->Prop}(I:Inv X pins σ H s)(hg:Gl X x)(hm:X.mg x=some u)(h:Q u s)
  (hd:(x==("__debug__":Str))=false:=by decide):wpAny (model X.prog X.w) X.A (eval (.Name x pos) X.env) Q E s:=
 Calls.Name_function_global I.ok.kind hg (Calls.loadGlobal_global (by rw[I.ok.glob];exact I.mod.glob.keeps I.bk) hm h) hd
theorem tK{E:Value->Shared->Prop}{pins:List (Addr×Obj)}{s:Shared}{σ:St}{H:Hp}{x:Str}{u:Value}{pos:Pos}{Q:Value->Shared->Prop}(I:Inv X pins σ H s)(hg:Gl X x)(hm:X.mg x=none)(hv:bootBuiltins x=some u)(h:Q u s)
  (hn:x≠"__name__":=by decide) (hd:(x==("__debug__":Str))=false:=by decide):wpAny (model X.prog X.w) X.A (eval (.Name x pos) X.env) Q E s:=by
 obtain⟨mb,h1,h2⟩:=I.mod.blt;exact Calls.Name_function_global I.ok.kind hg (Calls.loadGlobal_builtin (by rw[I.ok.glob];exact I.mod.glob.keeps I.bk) hm (by rw[I.ok.blt];exact h1.keeps I.bk) ((h2 x hn).trans hv) h) hd
theorem Bb{x:Str}{v:V}{u:Value}{pos:Pos}(hg:Gl X x)(hm:X.mg x=some u)(r:RelV v u)(hd:(x==("__debug__":Str))=false:=by decide):PE X (.Name x pos) (tC v):=
 fun _ _ _ H _ I h=>qg I hg hm ⟨v,H,I,r,h⟩ hd
theorem Bc{x:Str}{v:V}{u:Value}{pos:Pos}(hg:Gl X x)(hm:X.mg x=none)(hv:bootBuiltins x=some u)(r:RelV v u)(hn:x≠"__name__":=by decide)(hd:(x==("__debug__":Str))=false:=by decide):PE X (.Name x pos) (tC v):=
 fun _ _ _ H _ I h=>tK I hg hm hv ⟨v,H,I,r,h⟩ hn hd
variable {a b:Expr}{ta tb:TE}{pos:Pos}
def PC(X:Cx)(op:CmpOp)(a b:Expr)(t:TE):Prop:=
 ∀(pins:List (Addr×Obj)) (s:Shared) (σ:St) (H:Hp) (Q:VK),Inv X pins σ H s->t σ H Q->
  wpAny (model X.prog X.w) X.A (eval a X.env) (fun v s₁=>wpAny (model X.prog X.w) X.A (eval b X.env) (fun u s₂=>wpAny (model X.prog X.w) X.A (compareOp op v u) (EP X pins σ Q) X.xe s₂) X.xe s₁) X.xe s
def tB(t:TE):TT:=fun σ H Q=>t σ H fun x H1=>∃c,x=.bl c/\Q c H1
theorem JT{op:CmpOp}{t:TE}(h:PC X op a b t)(h1:behindInMarks op b=false:=by first|exact Zu _ (by decide) (by decide)|rfl):PT X (.Compare a [op] [b] pos) (tB t):=by
 intro pins s σ H Q I hw;refine wpAny_isTrue_Compare1 (aF (h pins s σ H _ I hw) fun v s1 h1=>aF h1 fun u s2 h2=>aF h2 fun c s3 ⟨x,H1,I1,r1,q1⟩=>?_) h1;obtain⟨d,rfl,q⟩:=q1;cases r1;exact wpAny_truthy_bool ⟨H1,I1,q⟩
variable {tA tL:TT}{rest:List Expr}
def Be(t u:TT):TT:=fun σ H Q=>t σ H fun c H1=>if c=true then u σ H1 Q else Q false H1
def Bf(t u:TT):TT:=fun σ H Q=>t σ H fun c H1=>if c=true then Q true H1 else u σ H1 Q
def Bg(t:TT):TT:=fun σ H Q=>t σ H fun c H1=>Q (!c) H1
theorem pw_and1(ha:PT X a tA):PW X (.BoolOp .And [a] pos) tA:=by
 intro wh pins s σ H Q I h;refine isTrue_and<|aF (ha pins s σ H Q I h) fun c s1 e=>?_;cases c with
 |true=>exact isTrue_and_nil e
 |false=>exact e
theorem pw_or1(ha:PT X a tA):PW X (.BoolOp .Or [a] pos) tA:=by
 intro wh pins s σ H Q I h;refine isTrue_or<|aF (ha pins s σ H Q I h) fun c s1 e=>?_;cases c with
 |false=>exact isTrue_or_nil e
 |true=>exact e
theorem pw_and(ha:PT X a tA)(hb:PW X (.BoolOp .And (b::rest) pos) tL):PW X (.BoolOp .And (a::b::rest) pos) (Be tA tL):=by
 intro wh pins s σ H Q I h;refine isTrue_and<|aF (ha pins s σ H _ I h) fun c s1 ⟨H1,I1,q1⟩=>?_;cases c with
 |true=>exact hb wh pins s1 σ H1 Q I1 q1
 |false=>exact⟨H1,I1,q1⟩
theorem pw_or(ha:PT X a tA)(hb:PW X (.BoolOp .Or (b::rest) pos) tL):PW X (.BoolOp .Or (a::b::rest) pos) (Bf tA tL):=by
 intro wh pins s σ H Q I h;refine isTrue_or<|aF (ha pins s σ H _ I h) fun c s1 ⟨H1,I1,q1⟩=>?_;cases c with
 |true=>exact⟨H1,I1,q1⟩
 |false=>exact hb wh pins s1 σ H1 Q I1 q1
theorem JU(ha:PT X a tA):PT X (.UnaryOp .Not a pos) (Bg tA):=by
 intro pins s σ H Q I h;exact isTrue_not<|ha pins s σ H (fun c H1=>Q (!c) H1) I h
def Bh(ta tb:TE):TE:=fun σ H Q=>ta σ H fun x H1=>∃c,x=.bl c/\if c=true then tb σ H1 Q else Q (.bl false) H1
def Bi(ta tb:TE):TE:=fun σ H Q=>ta σ H fun x H1=>∃c,x=.bl c/\if c=true then Q (.bl true) H1 else tb σ H1 Q
theorem Bj{op}{t:TE}(h:PE X a t):PE X (.BoolOp op [a] pos) t:=fun pins s σ H Q I hw=>BoolOp_one (h pins s σ H Q I hw)
theorem JV(ha:PE X a ta)(hb:PE X (.BoolOp .And (b::rest) pos) tb):PE X (.BoolOp .And (a::b::rest) pos) (Bh ta tb):=by
 intro pins s σ H Q I h;refine BoolOp_and<|aF (ha pins s σ H _ I h) fun v s1 ⟨x,H1,I1,r1,q1⟩=>?_;obtain⟨c,rfl,q1⟩:=q1;cases r1;refine wpAny_truthy_bool ?_;cases c with
 |true=>exact hb pins s1 σ H1 Q I1 q1
 |false=>exact⟨.bl false,H1,I1,rfl,q1⟩
theorem JW(ha:PE X a ta)(hb:PE X (.BoolOp .Or (b::rest) pos) tb):PE X (.BoolOp .Or (a::b::rest) pos) (Bi ta tb):=by
 intro pins s σ H Q I h;refine BoolOp_or<|aF (ha pins s σ H _ I h) fun v s1 ⟨x,H1,I1,r1,q1⟩=>?_;obtain⟨c,rfl,q1⟩:=q1;cases r1;refine wpAny_truthy_bool ?_;cases c with
 |false=>exact hb pins s1 σ H1 Q I1 q1
 |true=>exact⟨.bl true,H1,I1,rfl,q1⟩
def Bk(t:TT)(ta tb:TE):TE:=fun σ H Q=>t σ H fun c H1=>if c=true then ta σ H1 Q else tb σ H1 Q
theorem JX{c:Expr}(hc:PT X c tA)(ha:PE X a ta)(hb:PE X b tb):PE X (.IfExp c a b pos) (Bk tA ta tb):=by
 intro pins s σ H Q I h;refine wpAny_IfExp<|aF (hc pins s σ H _ I h) fun d s1 ⟨H1,I1,q1⟩=>?_;cases d with
 |true=>exact ha pins s1 σ H1 Q I1 q1
 |false=>exact hb pins s1 σ H1 Q I1 q1
end
def aw(K:Frag)(H:Hp)(a:Addr)(xs:List V):Prop:=
 Rd H a (.lst xs)\/
  ∃(o:Obj) (aj:Array Value) (n:Nat),K.lookup a=some o/\o.cls=.type "list"/\o.dict=none/\o.data=.seq aj n/\aj.size<=sizeLine/\Vals xs aj.toList
def aO(K:Frag)(H:Hp)(a:Addr)(xs:List V):Prop:=
 Rd H a (.tup xs)\/
  ∃(o:Obj) (aj:Array Value) (n:Nat),K.lookup a=some o/\o.cls=.type "tuple"/\o.data=.seq aj n/\aj.size<=sizeLine/\Vals xs aj.toList
def JY:Value->Option V
 |.none=>some .aD
 |.bool b=>some (.bl b)
 |.int i _=>some (.int i)
 |.str x _=>some (.str x)
 |.bytes b _=>some (.eP b)
 |.float b _=>some (.kO b)
 |.ref a=>some (.ref a)
 |.type n=>some (.ty n)
 |_=>none
theorem RelV.abs{x:V}{u:Value}(r:RelV x u):JY u=some x:=by
 cases x with
 |aD=>cases r;rfl
 |bl _=>cases r;rfl
 |int _=>obtain⟨t,rfl⟩:=r;rfl
 |str _=>obtain⟨t,rfl⟩:=r;rfl
 |eP _=>obtain⟨t,rfl⟩:=r;rfl
 |kO _=>obtain⟨t,rfl⟩:=r;rfl
 |ref _=>cases r;rfl
 |ty _=>cases r;rfl
theorem RelV.inj{x y:V}{u:Value}(r:RelV x u)(q:RelV y u):x=y:=zan (r.abs.symm.trans q.abs)
theorem Vals.inj:∀{xs ys:List V}{us:List Value},Vals xs us->Vals ys us->xs=ys
 |_,_,_,.nil,.nil=>rfl
 |_,_,_,.cons r t,.cons r' t'=>by rw[r.inj r',Vals.inj t t']
section
variable {X:Cx}{pins:List (Addr×Obj)}{σ:St}{H:Hp}{s:Shared}{a:Addr}{xs ys:List V}
theorem aw.of{K:Frag}(h:H a=some (.lst xs)):aw K H a xs:=.inl (.inl h)
theorem aO.of{K:Frag}(h:H a=some (.tup xs)):aO K H a xs:=.inl (.inl h)
theorem Inv.list(I:Inv X pins σ H s)(h:aw X.K H a xs):∃aj:List Value,Vals xs aj/\PlainL s.heap a aj.toArray/\xs.length<=sizeLine:=by
 rcases h with h|⟨o,aj,n,hk,hc,hd,hs,hz,r⟩
 ·obtain⟨z,aj,n,r,e⟩:=h.ok I.aA;exact⟨aj,r,⟨_,n,e,rfl,rfl,rfl⟩,z⟩
 ·refine⟨aj.toList,r,⟨o,n,I.cj a o hk,hc,hd,by simpa using hs⟩,?_⟩
  have e:=r.length
  simp only[zbh] at e
  omega
theorem Inv.tuple(I:Inv X pins σ H s)(h:aO X.K H a xs):∃aj:List Value,Vals xs aj/\IsTup s.heap a aj.toArray/\xs.length<=sizeLine:=by
 rcases h with h|⟨o,aj,n,hk,hc,hs,hz,r⟩
 ·obtain⟨z,aj,r,p⟩:=h.ok I.aA;exact⟨aj,r,p,z⟩
 ·refine⟨aj.toList,r,⟨o,I.cj a o hk,hc,n,by simpa using hs⟩,?_⟩
  have e:=r.length
  simp only[zbh] at e
  omega
theorem Inv.Bl(I:Inv X pins σ H s)(h:aw X.K H a xs)(h':aw X.K H a ys):xs=ys:=by
 obtain⟨aj,r,⟨o,n,e,_,_,d⟩,_⟩:=I.list h;obtain⟨gg,r',⟨o',n',e',_,_,d'⟩,_⟩:=I.list h';rw[e] at e';cases e';rw[d] at d'
 injection d' with d1 _
 have:aj=gg:=by simpa using congrArg Array.toList d1
 subst this;exact r.inj r'
end
section
variable {X:Cx}{st:Stmt}{rest:List Stmt}{t u:TS}{e:Expr}{te:TE}{pos:Pos}
def wB:TS:=fun D σ H=>D.nx σ H
def Bm(t u:TS):TS:=fun D σ H=>t {D with nx:=u D} σ H
theorem Bn:cJ X [] wB:=fun _ _ σ H _ I h=>wpAny_execs_nil ⟨σ,H,I,h⟩
theorem JZ(h1:PS X st t)(h2:cJ X rest u):cJ X (st::rest) (Bm t u):=by
 intro pins s σ H D I h;refine wpAny_execs_cons<|aF (h1 pins s σ H {D with nx:=u D} I h) fun f s1 q=>?_
 cases f with
 |next=>
  obtain⟨σ',H',I',q⟩:=q;exact h2 pins s1 σ' H' D I' q
 |ret v=>exact q
 |brk=>exact q
 |cont=>exact q
def J0:TS:=fun D σ H=>D.bk σ H
def J3:TS:=fun D σ H=>D.ct σ H
theorem Inv.quiet{pins:List (Addr×Obj)}{σ:St}{H:Hp}{s:Shared}(I:Inv X pins σ H s):interactive X.env=false:=by simp[interactive,I.ok.kind]
def Bo(te:TE):TS:=fun D σ H=>te σ H fun _ H1=>D.nx σ H1
theorem J4(he:PE X e te)(hs:swapsWith e none pos.line X.env=pure false:=by rfl):PS X (.Expr e pos) (Bo te):=by
 intro pins s σ H D I h;exact wpAny_Expr_any (aF (he pins s σ H _ I h) fun v s1 ⟨x,H1,I1,r1,q1⟩=>⟨σ,H1,I1,q1⟩) I.quiet hs
def Bp(te:TE):TS:=fun D σ H=>te σ H D.rt
theorem J5(he:PE X e te):PS X (.Return (some e) pos) (Bp te):=by
 intro pins s σ H D I h;exact wpAny_Return_some<|aF (he pins s σ H _ I h) fun v s1 ⟨x,H1,I1,r1,q1⟩=>⟨x,σ,H1,I1,r1,q1⟩
def J6:TS:=fun D _ H=>D.rt .aD H
def Bq(c:TT)(t u:TS):TS:=fun D σ H=>c σ H fun b H1=>if b=true then t D σ H1 else u D σ H1
theorem J7{c:Expr}{a b:List Stmt}{tc:TT}(hc:PT X c tc)(ha:cJ X a t)(hb:cJ X b u):PS X (.If c a b pos) (Bq tc t u):=by
 intro pins s σ H D I h;refine wpAny_If<|aF (hc pins s σ H _ I h) fun d s1 ⟨H1,I1,q1⟩=>?_;cases d with
 |true=>exact ha pins s1 σ H1 D I1 q1
 |false=>exact hb pins s1 σ H1 D I1 q1
def J8:TS:=fun _ _ _=>False
end
abbrev TG:=V->St->Hp->(St->Hp->Prop)->Prop
abbrev iB:=List V->St->Hp->(St->Hp->Prop)->Prop
def PG(X:Cx)(target:Expr)(t:TG):Prop:=
 ∀(pins:List (Addr×Obj)) (s:Shared) (σ:St) (H:Hp) (v:V) (u:Value) (Q:St->Hp->Prop),Inv X pins σ H s->RelV v u->t v σ H Q->
  wpAny (model X.prog X.w) X.A (assign target X.env u) (fun _ s'=>∃σ' H',Inv X pins σ' H' s'/\Q σ' H') X.xe s
def mi(X:Cx)(ts:List Expr)(t:iB):Prop:=
 ∀(pins:List (Addr×Obj)) (s:Shared) (σ:St) (H:Hp) (vs:List V) (us:List Value) (Q:St->Hp->Prop),Inv X pins σ H s->Vals vs us->t vs σ H Q->
  wpAny (model X.prog X.w) X.A (assignInOrder ((assignEach ts X.env).map (·.2)) us) (fun _ s'=>∃σ' H',Inv X pins σ' H' s'/\Q σ' H') X.xe s
abbrev wC:=V->V->V->Hp->(Hp->Prop)->Prop
def Br(X:Cx)(t:wC):Prop:=
 ∀(pins:List (Addr×Obj)) (s:Shared) (σ:St) (H:Hp) (o i v:V) (ov iv u:Value) (Q:Hp->Prop),Inv X pins σ H s->RelV o ov->RelV i iv->RelV v u->t o i v H Q->
  wpAny (model X.prog X.w) X.A (setItem ov iv u) (fun _ s'=>∃H',Inv X pins σ H' s'/\Q H') X.xe s
section
variable {X:Cx}{pos:Pos}
def df(i:Nat):TG:=fun v σ H Q=>Q (σ.set i<|some v) H
theorem oz{i:Nat}{x:Str}(hN:X.N.Nodup)(hi:X.N[i]?=some x)(hx:Loc X.env.scope x)(hf:X.fn x=true\/X.env.scope.names.lookup x=some .local:=by first|exact .inl rfl|exact .inr rfl|assumption):PG X (.Name x pos) (df i):=by
 intro pins s σ H v u Q I r h;exact wpAny_assign_Name<|wy I hN hi hx r (fun s' I'=>⟨_,H,I',h⟩) hf
def tM:iB:=fun vs σ H Q=>vs=[]/\Q σ H
def oA(t:TG)(u:iB):iB:=fun vs σ H Q=>∃v r,vs=v::r/\t v σ H fun σ' H'=>u r σ' H' Q
theorem wD:mi X [] tM:=by
 intro pins s σ H vs us Q I r h;obtain⟨e,h⟩:=h;subst e;cases r;exact assignInOrder_nil ⟨σ,H,I,h⟩
theorem qh{e:Expr}{es:List Expr}{t:TG}{u:iB}(h1:PG X e t)(h2:mi X es u)
  (hs:(assignEach (e::es) X.env).map (·.2)=assign e X.env::(assignEach es X.env).map (·.2):=by rfl):mi X (e::es) (oA t u):=by
 intro pins s σ H vs us Q I r h;obtain⟨v,vr,e1,h⟩:=h;subst e1;cases r with
 |cons r rr=>
  rw[hs];refine assignInOrder_cons<|aF (h1 pins s σ H _ _ _ I r h) fun _ s1 ⟨σ1,H1,I1,q1⟩=>?_;exact h2 pins s1 σ1 H1 _ _ Q I1 rr q1
def tN(K:Frag)(n:Nat)(t:iB):TG:=fun v σ H Q=>∃a xs,v=.ref a/\aO K H a xs/\xs.length=n/\t xs σ H Q
theorem Bs{es:List Expr}{k:Nat}{t:iB}{n:Nat}(hc:X.calm=true)(h:mi X es t)
  (hn:(assignEach es X.env).length=n:=by rfl) (iC:(assignEach es X.env).findIdx? (·.1)=none:=by rfl):PG X (.Tuple es k pos) (tN X.K n t):=by
 intro pins s σ H v u Q I r hw;obtain⟨a,xs,e1,hq,hl,hw⟩:=hw;subst e1;cases r;obtain⟨aj,rv,ht,hz⟩:=I.tuple hq;refine assign_Tuple_tuple (I.ok.hd hc) ht (by simp[hn,<-hl,rv.length]) iC fun h' hx=>?_
 have I1:Inv X pins σ H {s with heap:=h'}:=I.kept (t':=s.toks) fun b o e=>hx b o (zab<|Heap.lt_size e) e
 exact h pins _ σ H xs _ Q I1 (by simpa using rv) hw
def Bt(to ti:TE)(t:wC):TG:=fun v σ H Q=>to σ H fun o H1=>ti σ H1 fun i H2=>t o i v H2 fun H3=>Q σ H3
theorem J9{o i:Expr}{to ti:TE}{t:wC}(ho:PE X o to)(hi:PE X i ti)(hs:Br X t)
  (ha:∀v,assign (.Subscript o i pos) X.env v=(do
   let ov <-holding [v] (eval o X.env)
   let iv <-holding [v,ov] (eval i X.env)
   standAt pos
   holding [v,ov,iv] (setItem ov iv v)
   release [v,ov,iv] []):=by intro _;rfl):PG X (.Subscript o i pos) (Bt to ti t):=by
 intro pins s σ H v u Q I r h;rw[ha];refine wpAny_bind<|wpAny_holding<|aF (ho pins s σ H _ I h) fun ov s1 ⟨x,H1,I1,r1,q1⟩=>?_;refine wpAny_bind<|wpAny_holding<|aF (hi pins s1 σ H1 _ I1 q1) fun iv s2 ⟨y,H2,I2,r2,q2⟩=>?_;refine wpAny_bind<|wpAny_standAt<|wpAny_bind<|wpAny_holding<|aF (hs pins s2 σ H2 x y v ov iv u _ I2 r1 r2 r q2) fun _ s3 ⟨H3,I3,q3⟩=>?_;exact wpAny_release ⟨σ,H3,I3,q3⟩
def g7(te:TE)(g:TG):TS:=fun D σ H=>te σ H fun x H1=>g x σ H1 D.nx
theorem Bu{tg e:Expr}{te:TE}{g:TG}(he:PE X e te)(hg:PG X tg g)(hs:swapsWithSole [tg] e pos.line X.env=pure false:=by rfl)(hw:swappedStores [tg] e X.env=pure none:=by rfl)
  (h1:(assignEach [tg] X.env).map (·.2)=[assign tg X.env]:=by rfl):PS X (.Assign [tg] e pos) (g7 te g):=by
 intro pins s σ H D I h;refine wpAny_Assign_stores (aF (he pins s σ H _ I h) fun v s1 ⟨x,H1,I1,r1,q1⟩=>?_) hs hw;rw[h1];exact aF (hg pins s1 σ H1 x v _ I1 r1 q1) fun _ s2 q=>q
theorem J_{i:Nat}{x:Str}{e:Expr}{te:TE}{pos':Pos}(hN:X.N.Nodup)(hi:X.N[i]?=some x)(hx:Loc X.env.scope x)(he:PE X e te)(hs:swapsWith e (some<|.Name x pos') pos.line X.env=pure false:=by rfl)(hf:X.fn x=true\/X.env.scope.names.lookup x=some .local:=by first|exact .inl rfl|exact .inr rfl|assumption):
  PS X (.Assign [.Name x pos'] e pos) (g7 te<|df i):=by
 intro pins s σ H D I h;refine wpAny_Assign_Name (aF (he pins s σ H _ I h) fun v s1 ⟨y,H1,I1,r1,q1⟩=>?_) hs;exact wy I1 hN hi hx r1 (fun s2 I2=>⟨_,H1,I2,q1⟩) hf
end
section
variable {X:Cx}{pos:Pos}
def Bv(c:TT)(tb:TS):TS:=fun D σ H=>∃W:Nat->St->Hp->Prop,(∃m,W m σ H)/\∀m σ H,W m σ H->
 c σ H fun b H1=>if b=true then ∃N:St->Hp->Prop,(∀σ' H',N σ' H'->∃m',m'<m/\W m' σ' H')/\tb {D with nx:=N,ct:=N,bk:=D.nx} σ H1 else D.nx σ H1
theorem Ka{c:Expr}{body:List Stmt}{tc:TT}{tb:TS}(hp:PassesOwn (model X.prog X.w) X.A X.env X.xe)(hc:PT X c tc)(hb:cJ X body tb):PS X (.While c body [] pos) (Bv tc tb):=by
 intro pins s σ H D I h;obtain⟨W,⟨m0,w0⟩,turn⟩:=h;refine wpAny_While<|codeAny_whileLoop (fun n s'=>∃σ' H',Inv X pins σ' H' s'/\W n σ' H') ?_ m0 ⟨σ,H,I,w0⟩;rintro n s1 ⟨σ1,H1,I1,w1⟩;refine wpAny_passesOwn hp<|aF (hc pins s1 σ1 H1 _ I1<|turn n σ1 H1 w1) fun b s2 ⟨H2,I2,q2⟩=>?_;cases b with
 |true=>
  obtain⟨N,hN,q2⟩:=q2;rw[if_pos rfl];refine wpAny_passesOwn hp<|aF (hb pins s2 σ1 H2 _ I2 q2) fun f s3 q3=>?_;cases f with
  |next=>
   obtain⟨σ3,H3,I3,n3⟩:=q3;obtain⟨m',hm,w3⟩:=hN σ3 H3 n3;exact⟨m',hm,σ3,H3,I3,w3⟩
  |cont=>
   obtain⟨σ3,H3,I3,n3⟩:=q3;obtain⟨m',hm,w3⟩:=hN σ3 H3 n3;exact⟨m',hm,σ3,H3,I3,w3⟩
  |brk=>exact q3
  |ret v=>exact q3
 |false=>
  rw[if_neg zam];exact wpAny_execs_nil ⟨σ1,H2,I2,q2⟩
end
structure It where
 go:Nat->Hp->Prop
 gh:Nat->Hp->V->Hp->Prop
 stop:Nat->Hp->Prop
def g8(X:Cx)(pins:List (Addr×Obj))(H:Hp)(b:Addr):Prop:=
 H b=none/\b≠X.env.locals/\b∉X.fs/\(b∈X.ex\/X.s₀.heap.objs.size<=b)/\(∀x c,X.env.cells.lookup x=some c->c≠b)/\∀p∈X.pn++pins,p.1≠b
theorem Inv.tO{X:Cx}{pins:List (Addr×Obj)}{σ:St}{H H':Hp}{s:Shared}{b:Addr}(I:Inv X pins σ H s)(hb:s.heap.objs.size<=b)(hn:H' b=none):g8 X pins H' b:=by
 refine⟨hn,Nat.ne_of_gt<|zau I.lt hb,I.AU hb,.inr<|zaw I.sz hb,fun x c e z=>?_,fun p hp z=>?_⟩
 ·obtain⟨v,q⟩:=I.cell x c e;exact absurd (zau q.lt (by rw[z];exact hb))<|zaB _
 ·exact absurd (zau (Heap.lt_size (I.pin p hp).1) (by rw[z];exact hb)) (zaB _)
structure Turn (P:Program) (w:World) (K:Frag) (tg:Expr) (J:It) (fp:List Addr) (it:Addr) (tn:Nat->Heap->Prop):Prop where
 mem:it∈fp
 obj:∀i h,tn i h->∀b∈fp,∃o,h.get? b=some o/\∀v,o.data≠ .cell v
 keep:∀i h h',tn i h->(∀b∈fp,∀o,h.get? b=some o->h'.get? b=some o)->tn i h'
 item:∀(X:Cx),X.prog=P->X.w=w->X.K=K->X.calm=true->∀(i:Nat) (pins:List (Addr×Obj)) (s:Shared) (σ:St) (H:Hp) (E:Value->Shared->Prop),Inv X pins σ H s->(∀b∈fp,g8 X pins H b)->tn i s.heap->J.go i H->
  wpAny (model P w) X.A (pyNext (.ref it)) (fun r s1=>∃u,r=some u/\
   wpAny (model P w) X.A (letOwnedTupleGo tg (.ref it) u) (fun _ s2=>∃x H',Inv X pins σ H' s2/\RelV x u/\J.gh i H x H'/\tn (i+1) s2.heap/\∀b∈fp,H' b=none) E s1) E s
 done:∀(X:Cx),X.prog=P->X.w=w->X.K=K->X.calm=true->∀(i:Nat) (pins:List (Addr×Obj)) (s:Shared) (σ:St) (H:Hp) (E:Value->Shared->Prop),Inv X pins σ H s->(∀b∈fp,g8 X pins H b)->tn i s.heap->J.stop i H->
  wpAny (model P w) X.A (pyNext<|.ref it) (fun r s1=>r=none/\Inv X pins σ H s1) E s
 self:∀(A:Around) (i:Nat) (s:Shared) (Q:Value->Shared->Prop) (E:Value->Shared->Prop),tn i s.heap->Q (.ref it) s->wpAny (model P w) A (pyIter<|.ref it) Q E s
abbrev TI:=St->Hp->(It->Hp->Prop)->Prop
def Bw(X:Cx)(pins:List (Addr×Obj))(σ:St)(tg:Expr)(R:It->Hp->Prop)(mj:Value)(s2:Shared):Prop:=
 ∃(it:Addr) (fp:List Addr) (tn:Nat->Heap->Prop) (J:It) (H':Hp),mj=.ref it/\Inv X pins σ H' s2/\Turn X.prog X.w X.K tg J fp it tn/\tn 0 s2.heap/\(∀b∈fp,g8 X pins H' b)/\R J H'
def PI(X:Cx)(tg iter:Expr)(wi:TI):Prop:=
 ∀(pins:List (Addr×Obj)) (s:Shared) (σ:St) (H:Hp) (R:It->Hp->Prop),Inv X pins σ H s->wi σ H R->
  wpAny (model X.prog X.w) X.A (eval iter X.env) (fun v s1=>wpAny (model X.prog X.w) X.A (pyIter v) (Bw X pins σ tg R) X.xe s1) X.xe s
theorem tP{M:Model}{A:Around}{E:Value->Shared->Prop}{s:Shared}{tg:Expr}{it:Addr}{u:Value}{o:Obj}{n:String}{vs:Array Value}{Q:Unit->Shared->Prop}(ho:s.heap.get? it=some o)(hc:o.cls=.type n)(hd:o.data=.fields vs)
    (hn:["enumerate","zip","dict_itemiterator","dict_reverseitemiterator","odict_iterator","itertools.zip_longest","itertools.pairwise"].contains n=false) (hQ:Q () s):wpAny M A (letOwnedTupleGo tg (.ref it) u) Q E s:=by
  unfold letOwnedTupleGo;cases tg<;>first
    |exact wpAny_pure hQ
    | (cases u<;>first
        |exact wpAny_pure hQ
        | (refine wpAny_bind (wpAny_load ho ?_)
           rw[hc,hd];show wpAny M A (if (["enumerate","zip","dict_itemiterator","dict_reverseitemiterator","odict_iterator","itertools.zip_longest","itertools.pairwise"].contains n && vs[0]?==some (rawInt _))=true then _ else _) Q E s
           rw[if_neg (by intro h;rw[hn,zbi] at h;cases h)]
           exact wpAny_pure hQ))
def eE(K:Frag)(a:Addr):It:=
 ⟨fun i H=>∃xs x,aw K H a xs/\xs[i]?=some x,fun i H x H'=>H'=H/\∀xs,aw K H a xs->xs[i]?=some x,fun i H=>∃xs,aw K H a xs/\xs.length<=i⟩
def Kb(K:Frag)(a:Addr):It:=
 ⟨fun i H=>∃xs x,aO K H a xs/\xs[i]?=some x,fun i H x H'=>H'=H/\∀xs,aO K H a xs->xs[i]?=some x,fun i H=>∃xs,aO K H a xs/\xs.length<=i⟩
def fh(lo:Int)(n:Nat):It:=⟨fun i _=>i<n,fun i H x H'=>H'=H/\x=.int (lo+i),fun i _=>n<=i⟩
theorem tQ{P:Program}{w:World}{K:Frag}{tg:Expr}(a it:Addr):Turn P w K tg (eE K a) [it] it (fun i h=>h.IsListIter it a i) where
 mem:=by simp
 obj:=fun i h st b hb=>by
  have e:b=it:=by simpa using hb
  subst e;obtain⟨o,e,c,d⟩:=st;exact⟨o,e,fun v z=>by rw[d] at z;cases z⟩
 keep:=fun i h h' st k=>st.at fun o e=>k it (by simp) o e
 item:=by
  intro X hP hw hK hc i pins s σ H E I hf st hg;subst hP hw hK;obtain⟨xs,x,hq,hx⟩:=hg;obtain⟨aj,rv,p,hz⟩:=I.list hq;obtain⟨u,hu,ru⟩:=rv.get hx;obtain⟨f0,f1,f2,f3,f4,f5⟩:=hf it (by simp)
  refine wpAny_pyNext_list_item st p.isList (x:=u) (by simpa using hu) fun h' fi sb=>?_
  have I1:Inv X pins σ H {s with heap:=h'}:=I.turned (t':=s.toks) (fun b o hb e=>(sb.2 b hb).trans e) f0 f1 f3 f4 f5
  obtain⟨o,e,c,d⟩:=id fi;exact⟨u,rfl,tP (s:={s with heap:=h'}) e c d (by decide) ⟨x,H,I1,ru,⟨rfl,fun ys hy=>by rw[I.Bl hy hq];exact hx⟩,fi,fun b hb=>(hf b hb).1⟩⟩
 done:=by
  intro X hP hw hK hc i pins s σ H E I hf st hg;subst hP hw hK;obtain⟨xs,hq,hx⟩:=hg;obtain⟨aj,rv,p,hz⟩:=I.list hq;obtain⟨f0,f1,f2,f3,f4,f5⟩:=hf it (by simp)
  have hl:=rv.length;exact wpAny_pyNext_list_end (I.ok.hd hc) st p.isList (by simp;omega) fun h' eb=>⟨rfl,I.turned (t':=s.toks) (fun b o hb e=>eb b o hb e) f0 f1 f3 f4 f5⟩
 self:=fun _ _ _ _ _ st h=>wpAny_pyIter_listiter st h
theorem Kc{P:Program}{w:World}{K:Frag}{tg:Expr}(it:Addr)(lo:Int)(n:Nat):Turn P w K tg (fh lo n) [it] it (fun i h=>IsRangeIter h it (lo+(i:Nat)*1) ((n:Int) - (i:Nat)) 1) where
 mem:=by simp
 obj:=fun i h st b hb=>by
  have e:b=it:=by simpa using hb
  subst e;exact⟨_,st,fun v z=>by
   have z':Data.fields _=Data.cell v:=z;cases z'⟩
 keep:=fun i h h' st k=>k it (by simp) _ st
 item:=by
  intro X hP hw hK hc i pins s σ H E I hf st hg;subst hP hw hK;obtain⟨f0,f1,f2,f3,f4,f5⟩:=hf it (by simp)
  have W:=Walks.range (prog:=X.prog) (w:=X.w) (I.ok.hd hc) it lo 1 n;refine W.item i s _ _ hg st fun v h' tk hv fi kk=>?_;obtain⟨t,rfl⟩:=hv;have I1:Inv X pins σ H {s with heap:=h',toks:=tk}:=I.turned (fun b o hb e=>kk b o (by simpa using hb) e) f0 f1 f3 f4 f5
  refine⟨_,rfl,tP (s:={s with heap:=h',toks:=tk}) (n:="range_iterator") fi rfl rfl (by decide) ⟨.int<|lo+i,H,I1,⟨t,?_⟩,⟨rfl,rfl⟩,fi,fun b hb=>(hf b hb).1⟩⟩
  rw[Int.mul_one]
 done:=by
  intro X hP hw hK hc i pins s σ H E I hf st hg;subst hP hw hK;obtain⟨f0,f1,f2,f3,f4,f5⟩:=hf it (by simp)
  exact wpAny_pyNext_range_end (I.ok.hd hc) st (by have:n<=i:=hg;omega) fun h' eb=>⟨rfl,I.turned (t':=s.toks) (fun b o hb e=>eb b o hb e) f0 f1 f3 f4 f5⟩
 self:=fun _ _ _ _ _ st h=>wpAny_pyIter_rangeiter st h
section
variable {X:Cx}{tg:Expr}
def qi(K:Frag)(tl:TE):TI:=fun σ H R=>tl σ H fun x H1=>∃a,x=.ref a/\(∃xs,aw K H1 a xs)/\R (eE K a) H1
def Kd(K:Frag)(tl:TE):TI:=fun σ H R=>tl σ H fun x H1=>∃a,x=.ref a/\(∃xs,aO K H1 a xs)/\R (Kb K a) H1
theorem Ke{l:Expr}{tl:TE}(hl:PE X l tl):PI X tg l (qi X.K tl):=by
 intro pins s σ H R I h;refine aF (hl pins s σ H _ I h) fun v s1 ⟨x,H1,I1,r1,q1⟩=>?_;obtain⟨a,e,⟨xs,hq⟩,q⟩:=q1;subst e;cases r1;obtain⟨aj,rv,p,hz⟩:=I1.list hq;refine wpAny_pyIter_list p.isList ?_;refine⟨s1.heap.objs.size,[s1.heap.objs.size],_,_,H1,rfl,I1.kept (t':=s1.toks) fun b o e=>Heap.get?_push_of_some _ e,tQ a _,⟨_,Heap.get?_push_size _ rfl,rfl,rfl⟩,fun b hb=>?_,q⟩;have e:b=s1.heap.objs.size:=by simpa using hb
 subst e;exact I1.tO (zqR _)<|I1.aA.fresh<|zqR _
theorem Kf{pins:List (Addr×Obj)}{σ:St}{H:Hp}{s:Shared}{R:It->Hp->Prop}{E:Value->Shared->Prop}{lo hi:Int}{t u v:Tok}{tk:Nat}(I:Inv X pins σ H s)(h1: -(2 ^ 62)<=lo)(h2:lo<2 ^ 62)(h3: -(2 ^ 62)<=hi)(h4:hi<2 ^ 62)
  (q:R (fh lo (hi - lo).toNat) H):wpAny (model X.prog X.w) X.A (pyIter<|.ref s.heap.objs.size) (Bw X pins σ tg R) E {s with heap:=s.heap.push {cls:=.type "range",data:=.fields #[.int lo t,.int hi u,.int 1 v]},toks:=tk}:=by
 refine wpAny_pyIter_range (IsRange.new ..) (small_one h1 h2 h3 h4) ?_;have I1:Inv X pins σ H {s with heap:=s.heap.push {cls:=.type "range",data:=.fields #[.int lo t,.int hi u,.int 1 v]},toks:=tk}:=I.kept fun b o e=>Heap.get?_push_of_some _ e
 refine⟨(s.heap.push {cls:=.type "range",data:=.fields #[.int lo t,.int hi u,.int 1 v]}).objs.size,[(s.heap.push {cls:=.type "range",data:=.fields #[.int lo t,.int hi u,.int 1 v]}).objs.size],_,_,H,rfl,
  I1.kept (t':=tk) fun b o e=>Heap.get?_push_of_some _ e,Kc _ lo (hi - lo).toNat,?_,fun b hb=>?_,q⟩
 ·have e1:lo+((0:Nat):Int)*1=lo:=by simp
  have e2:(((hi - lo).toNat:Nat):Int) - ((0:Nat):Int)=Builtin.Range.rangeSize lo hi 1:=by rw[rangeSize_one];split<;>omega
  show IsRangeIter _ _ (lo+((0:Nat):Int)*1) ((((hi - lo).toNat:Nat):Int) - ((0:Nat):Int)) 1;rw[e1,e2];exact Heap.get?_push_size _ rfl
 ·have e:b=(s.heap.push {cls:=.type "range",data:=.fields #[.int lo t,.int hi u,.int 1 v]}).objs.size:=by simpa using hb
  subst e;exact I1.tO (zqR _)<|I1.aA.fresh<|zqR _
def Bx(ta:TA):TI:=fun σ H R=>ta σ H fun vs H1=>∃j:Int,vs=[.int j]/\ -(2 ^ 62)<=j/\j<2 ^ 62/\R (fh 0 j.toNat) H1
def Kg(ta:TA):TI:=fun σ H R=>ta σ H fun vs H1=>∃i j:Int,vs=[.int i,.int j]/\(-(2 ^ 62)<=i/\i<2 ^ 62/\ -(2 ^ 62)<=j/\j<2 ^ 62)/\R (fh i (j - i).toNat) H1
theorem Kh{a:Expr}{ta:TA}{p pos:Pos}(hg:Gl X "range")(hm:X.mg "range"=none)(ha:PA X [a] ta)(hs:starEach [a] X.env=[(false,eval a X.env)]:=by rfl):PI X tg (.Call (.Name "range" p) [a] [] pos) (Bx ta):=by
 intro pins s σ H R I h;refine Call_<|tK I hg hm boot_range<|PyProof.Rows.callWith_type1 (aF (ha pos pins s σ H _ I h) fun us s1 ⟨vs,H1,I1,r1,q1⟩=>?_) hs rfl;obtain⟨j,e,q1,q2,q⟩:=q1;subst e;cases r1 with
 |cons r rr=>
  cases rr;obtain⟨t,rfl⟩:=r;exact call_range_1<|Kf I1 (by omega) (by omega) q1 q2 (by simpa using q)
def tR(wi:TI)(g:TG)(tb:TS):TS:=fun D σ H=>wi σ H fun J H1=>∃W:Nat->Nat->St->Hp->Prop,(∃m,W 0 m σ H1)/\∀i m σ H,W i m σ H->
 (J.stop i H/\D.nx σ H)\/(J.go i H/\∃N:St->Hp->Prop,(∀σ' H',N σ' H'->∃m',m'<m/\W (i+1) m' σ' H')/\∀x H',J.gh i H x H'->g x σ H' fun σ2 H2=>tb {D with nx:=N,ct:=N,bk:=D.nx} σ2 H2)
def oB(fp:List Addr)(h:Heap):List (Addr×Obj):=fp.filterMap fun b=>(h.get? b).map fun o=>(b,o)
theorem tT{fp:List Addr}{h:Heap}{b:Addr}{o:Obj}(hb:b∈fp)(e:h.get? b=some o):(b,o)∈oB fp h:=zbH.mpr ⟨b,hb,by rw[e];rfl⟩
theorem Ki{fp:List Addr}{h:Heap}{p:Addr×Obj}(hp:p∈oB fp h):p.1∈fp/\h.get? p.1=some p.2:=by
 obtain⟨b,hb,e⟩:=zbH.mp hp;cases q:h.get? b with
 |none=>rw[q] at e;cases e
 |some o=>
  rw[q] at e;have e':(b,o)=p:=zan e;subst e';exact⟨hb,q⟩
theorem Inv.pinned{pins:List (Addr×Obj)}{σ:St}{H:Hp}{s:Shared}{fp:List Addr}(I:Inv X pins σ H s)(hf:∀b∈fp,g8 X pins H b)(ho:∀b∈fp,∃o,s.heap.get? b=some o/\∀v,o.data≠ .cell v):Inv X (pins++oB fp s.heap) σ H s:=
 I.ou fun p hp=>(zai.mp hp).elim (fun z=>I.pin p<|zaz _ z) fun z=>by
  obtain⟨hb,e⟩:=Ki z;obtain⟨f0,f1,f2,_⟩:=hf p.1 hb;obtain⟨o,e',d⟩:=ho p.1 hb;rw[e] at e';cases e';exact⟨e,f0,f1,f2,d⟩
theorem Inv.wF{pins pl:List (Addr×Obj)}{σ:St}{H:Hp}{s:Shared}(I:Inv X (pins++pl) σ H s):Inv X pins σ H s:=I.ou fun p hp=>I.pin p (zaz _<|zaR _ hp)
theorem By{iter:Expr}{body:List Stmt}{wi:TI}{g:TG}{tb:TS}{pos:Pos}(hp:PassesOwn (model X.prog X.w) X.A X.env X.xe)(hc:X.calm=true)(hi:PI X tg iter wi)(hg:PG X tg g)(hb:cJ X body tb)
  (hs:∀x,foldedSetIterable iter X.env x=pure x:=by intro _;rfl):PS X (.For tg iter body [] pos) (tR wi g tb):=by
 intro pins s σ H D I h;refine wpAny_For (aF (hi pins s σ H _ I h) fun v s1 h1=>aF h1 fun mj s2 h2=>?_) hs;obtain⟨it,fp,tn,J,H2,e,I2,T,qj,f2,W,⟨m0,w0⟩,turn⟩:=h2;subst e;have mm:∀{H':Hp},(∀b∈fp,H' b=none)->∀b∈fp,g8 X pins H' b:=fun hn b hb=>⟨hn b hb,(f2 b hb).2⟩;refine codeAny_forLoop_any (fun n s'=>∃i σ' H',Inv X pins σ' H' s'/\tn i s'.heap/\(∀b∈fp,H' b=none)/\W i n σ' H') ?_ m0 ⟨0,σ,H2,I2,qj,fun b hb=>(f2 b hb).1,w0⟩;rintro n s3 ⟨i,σ3,H3,I3,Bz,BA,w3⟩;rcases turn i n σ3 H3 w3 with⟨stop,qn⟩|⟨go,N,hN,step⟩
 ·refine wpAny_passesOwn hp (aF (T.done X rfl rfl rfl hc i pins s3 σ3 H3 X.xe I3 (mm BA) Bz stop) fun r s4 ⟨hr,I4⟩=>?_);subst hr;exact wpAny_execs_nil ⟨σ3,H3,I4,qn⟩
 ·refine wpAny_passesOwn hp (aF (T.item X rfl rfl rfl hc i pins s3 σ3 H3 X.xe I3 (mm BA) Bz go) fun r s4 ⟨u,hr,h4⟩=>?_);subst hr;refine wpAny_passesOwn hp<|aF h4 fun _ s5 ⟨x,H5,I5,r5,y5,mq,wG⟩=>?_;have ql:=I5.pinned (mm wG) (T.obj _ _ mq);refine wpAny_passesOwn hp<|aF (hg _ s5 σ3 H5 x u _ ql r5<|step x H5 y5) fun _ s6 ⟨σ6,H6,I6,q6⟩=>?_;refine wpAny_passesOwn hp<|aF (hb _ s6 σ6 H6 _ I6 q6) fun f s7 q7=>?_;have again:∀{σ7:St}{H7:Hp},Inv X (pins++oB fp s5.heap) σ7 H7 s7->N σ7 H7->∃m,m<n/\∃i σ' H',Inv X pins σ' H' s7/\tn i s7.heap/\(∀b∈fp,H' b=none)/\W i m σ' H':=fun {σ7 H7} I7 n7=>by
   obtain⟨m',hm,w7⟩:=hN σ7 H7 n7;refine⟨m',hm,i+1,σ7,H7,I7.wF,T.keep _ _ _ mq fun b hb o e=>(I7.pin (b,o)<|zaz _<|zaz _<|tT hb e).1,fun b hb=>?_,w7⟩;obtain⟨o,e,d⟩:=T.obj _ _ mq b hb;exact(I7.pin (b,o)<|zaz _<|zaz _<|tT hb e).2.1
  cases f with
  |next=>obtain⟨σ7,H7,I7,n7⟩:=q7;exact again I7 n7
  |cont=>obtain⟨σ7,H7,I7,n7⟩:=q7;exact again I7 n7
  |brk=>obtain⟨σ7,H7,I7,q7⟩:=q7;exact⟨σ7,H7,I7.wF,q7⟩
  |ret v=>obtain⟨x7,σ7,H7,I7,r7,q7⟩:=q7;exact⟨x7,σ7,H7,I7.wF,r7,q7⟩
end
theorem iD{K:Frag}{a:Addr}{xs:List V}{g:TG}{tb:TS}{D:Ends}{σ:St}{H:Hp}(Pv:Nat->St->Hp->Prop)(h0:Pv 0 σ H)(hl:∀i σ H,i<=xs.length->Pv i σ H->aw K H a xs)
  (hs:∀i x σ H,xs[i]?=some x->Pv i σ H->g x σ H fun σ2 H2=>tb {D with nx:=Pv (i+1),ct:=Pv (i+1),bk:=D.nx} σ2 H2) (hd:∀σ H,Pv xs.length σ H->D.nx σ H):
  ∃W:Nat->Nat->St->Hp->Prop,(∃m,W 0 m σ H)/\∀i m σ H,W i m σ H->
   ((eE K a).stop i H/\D.nx σ H)\/((eE K a).go i H/\∃N:St->Hp->Prop,(∀σ' H',N σ' H'->∃m',m'<m/\W (i+1) m' σ' H')/\∀x H',(eE K a).gh i H x H'->g x σ H' fun σ2 H2=>tb {D with nx:=N,ct:=N,bk:=D.nx} σ2 H2):=by
 refine⟨fun i m σ H=>m=xs.length - i/\i<=xs.length/\Pv i σ H,⟨xs.length,by simp,zqZ _,h0⟩,?_⟩
 rintro i m σ H ⟨rfl,hi,p⟩;have q:=hl i σ H hi p;by_cases aI:i<xs.length
 ·refine .inr ⟨⟨xs,xs[i],q,by simp[aI]⟩,Pv<|i+1,fun σ' H' p'=>⟨xs.length - (i+1),by omega,rfl,aI,p'⟩,fun x H' y=>?_⟩
  obtain⟨e,y⟩:=y;subst e;exact hs i x σ _ (y xs q) p
 ·have e:i=xs.length:=by omega
  subst e;exact .inl ⟨⟨xs,q,zqR _⟩,hd σ H p⟩
theorem wH{lo:Int}{n:Nat}{g:TG}{tb:TS}{D:Ends}{σ:St}{H:Hp}(Pv:Nat->St->Hp->Prop)(h0:Pv 0 σ H)
  (hs:∀i σ H,i<n->Pv i σ H->g (.int<|lo+i) σ H fun σ2 H2=>tb {D with nx:=Pv (i+1),ct:=Pv (i+1),bk:=D.nx} σ2 H2) (hd:∀σ H,Pv n σ H->D.nx σ H):
  ∃W:Nat->Nat->St->Hp->Prop,(∃m,W 0 m σ H)/\∀i m σ H,W i m σ H->
   ((fh lo n).stop i H/\D.nx σ H)\/((fh lo n).go i H/\∃N:St->Hp->Prop,(∀σ' H',N σ' H'->∃m',m'<m/\W (i+1) m' σ' H')/\∀x H',(fh lo n).gh i H x H'->g x σ H' fun σ2 H2=>tb {D with nx:=N,ct:=N,bk:=D.nx} σ2 H2):=by
 refine⟨fun i m σ H=>m=n - i/\i<=n/\Pv i σ H,⟨n,by simp,zqZ _,h0⟩,?_⟩
 rintro i m σ H ⟨rfl,hi,p⟩;by_cases aI:i<n
 ·refine .inr ⟨aI,Pv<|i+1,fun σ' H' p'=>⟨n - (i+1),by omega,rfl,aI,p'⟩,fun x H' y=>?_⟩
  obtain⟨e,y⟩:=y;subst e y;exact hs i σ _ aI p
 ·have e:i=n:=by omega
  subst e;exact .inl ⟨zqR _,hd σ H p⟩
abbrev R2:=V->V->Hp->VK->Prop
def aX(X:Cx)(f:Value->Value->Sem Value)(r:R2):Prop:=
 ∀(pins:List (Addr×Obj)) (s:Shared) (σ:St) (H:Hp) (x y:V) (v u:Value) (Q:VK),Inv X pins σ H s->RelV x v->RelV y u->r x y H Q->
  wpAny (model X.prog X.w) X.A (f v u) (EP X pins σ Q) X.xe s
def tU(X:Cx)(f:Value->Sem Value)(r:V->Hp->VK->Prop):Prop:=
 ∀(pins:List (Addr×Obj)) (s:Shared) (σ:St) (H:Hp) (x:V) (v:Value) (Q:VK),Inv X pins σ H s->RelV x v->r x H Q->
  wpAny (model X.prog X.w) X.A (f v) (EP X pins σ Q) X.xe s
def bQ(X:Cx)(f:Value)(r:List V->Hp->VK->Prop):Prop:=
 ∀(pins:List (Addr×Obj)) (s:Shared) (σ:St) (H:Hp) (xs:List V) (us:List Value) (Q:VK),Inv X pins σ H s->Vals xs us->r xs H Q->
  wpAny (model X.prog X.w) X.A (call f us) (EP X pins σ Q) X.xe s
def Kj(X:Cx)(r:V->Hp->(Bool->Hp->Prop)->Prop):Prop:=
 ∀(pins:List (Addr×Obj)) (s:Shared) (σ:St) (H:Hp) (x:V) (v:Value) (Q:Bool->Hp->Prop),Inv X pins σ H s->RelV x v->r x H Q->
  wpAny (model X.prog X.w) X.A (truthy v) (TP X pins σ Q) X.xe s
def d5(r:R2)(ta tb:TE):TE:=fun σ H Q=>ta σ H fun x H1=>tb σ H1 fun y H2=>r x y H2 Q
def BB(r:V->Hp->VK->Prop)(ta:TE):TE:=fun σ H Q=>ta σ H fun x H1=>r x H1 Q
def rI(C:Int->Int->Prop)(g:Int->Int->V):R2:=fun x y H Q=>∃i j,x=.int i/\y=.int j/\C i j/\Q (g i j) H
def jM(g:Int->Int->V):R2:=fun x y H Q=>∃i j,x=.int i/\y=.int j/\Q (g i j) H
def rU(g:Int->V):V->Hp->VK->Prop:=fun x H Q=>∃i,x=.int i/\Q (g i) H
section
variable {X:Cx}{a b c:Expr}{ta tb tc:TE}{pos:Pos}
theorem wI(ha:PE X a ta)(hb:PE X b tb){pins:List (Addr×Obj)}{s:Shared}{σ:St}{H:Hp}{R:V->V->Hp->Prop}(I:Inv X pins σ H s)
  (h:ta σ H fun x H1=>tb σ H1 fun y H2=>R x y H2) {Q:Value->Shared->Prop}{f:Value->Value->Sem Value}
  (hf:∀v u s2 x y H2,Inv X pins σ H2 s2->RelV x v->RelV y u->R x y H2->wpAny (model X.prog X.w) X.A (f v u) Q X.xe s2):
  wpAny (model X.prog X.w) X.A (eval a X.env) (fun v s₁=>wpAny (model X.prog X.w) X.A (eval b X.env) (fun u s₂=>wpAny (model X.prog X.w) X.A (f v u) Q X.xe s₂) X.xe s₁) X.xe s:=by
 refine aF (ha pins s σ H _ I h) fun v s1 ⟨x,H1,I1,r1,q1⟩=>?_;refine aF (hb pins s1 σ H1 _ I1 q1) fun u s2 ⟨y,H2,I2,r2,q2⟩=>?_;exact hf v u s2 x y H2 I2 r1 r2 q2
theorem Kk{op:Operator}{r:R2}(ho:aX X (binaryOp op) r)(ha:PE X a ta)(hb:PE X b tb):PE X (.BinOp a op b pos) (d5 r ta tb):=by
 intro pins s σ H Q I h;exact wpAny_BinOp<|wI ha hb I h fun v u s2 x y H2 I2 rx ry q=>ho pins s2 σ H2 x y v u Q I2 rx ry q
theorem Kl{op:UnaryOp}{r:V->Hp->VK->Prop}(ho:tU X (unaryOp op) r)(ha:PE X a ta):PE X (.UnaryOp op a pos) (BB r ta):=by
 intro pins s σ H Q I h;exact UnaryOp_<|aF (ha pins s σ H _ I h) fun v s1 ⟨x,H1,I1,r1,q1⟩=>ho pins s1 σ H1 x v Q I1 r1 q1
theorem tV{f:Value->Value->Sem Value}{C:Int->Int->Prop}{g:Int->Int->Int}
  (rule:∀(i j:Int) (t u:Tok) (s:Shared) (Q:Value->Shared->Prop) (E:Value->Shared->Prop),C i j->Q (.int (g i j) s.toks) {s with toks:=s.toks+1}->wpAny (model X.prog X.w) X.A (f (.int i t)<|.int j u) Q E s):
  aX X f (rI C fun i j=>.int (g i j)):=by
 intro pins s σ H x y v u Q I rx ry h;obtain⟨i,j,rfl,rfl,hc,q⟩:=h;obtain⟨t,rfl⟩:=rx;obtain⟨t',rfl⟩:=ry;exact rule i j t t' s _ _ hc ⟨.int<|g i j,H,I.tok _,⟨_,rfl⟩,q⟩
theorem BC{f:Value->Value->Sem Value}{g:Int->Int->Int}
  (rule:∀(i j:Int) (t u:Tok) (s:Shared) (Q:Value->Shared->Prop) (E:Value->Shared->Prop),Q (.int (g i j) s.toks) {s with toks:=s.toks+1}->wpAny (model X.prog X.w) X.A (f (.int i t)<|.int j u) Q E s):
  aX X f (jM fun i j=>.int (g i j)):=by
 intro pins s σ H x y v u Q I rx ry h;obtain⟨i,j,rfl,rfl,q⟩:=h;obtain⟨t,rfl⟩:=rx;obtain⟨t',rfl⟩:=ry;exact rule i j t t' s _ _ ⟨.int<|g i j,H,I.tok _,⟨_,rfl⟩,q⟩
theorem tW{f:Value->Value->Sem Value}{g:Int->Int->Bool}
  (rule:∀(i j:Int) (t u:Tok) (s:Shared) (Q:Value->Shared->Prop) (E:Value->Shared->Prop),Q (.bool<|g i j) s->wpAny (model X.prog X.w) X.A (f (.int i t)<|.int j u) Q E s):
  aX X f (jM fun i j=>.bl (g i j)):=by
 intro pins s σ H x y v u Q I rx ry h;obtain⟨i,j,rfl,rfl,q⟩:=h;obtain⟨t,rfl⟩:=rx;obtain⟨t',rfl⟩:=ry;exact rule i j t t' s _ _ ⟨.bl<|g i j,H,I,rfl,q⟩
def wJ(i j:Int):Prop:=0<j/\j<1073741824
def wK(i j:Int):Prop:=0<=j/\j<=1000000/\i.natAbs<2 ^ 64
def qm(i j:Int):Prop:=(-(2 ^ 64) <i/\i<2 ^ 64)\/(-(2 ^ 64) <j/\j<2 ^ 64)
theorem qm.ok{i j:Int}(h:qm i j):IntMulOk i j:=by
 rcases h with⟨h1,h2⟩|⟨h1,h2⟩
 ·exact .of_left (intBits_le_64 h1 h2)
 ·exact .of_right (intBits_le_64 h1 h2)
theorem Km:aX X (binaryOp .Add) (jM fun i j=>.int (i+j)):=BC fun _ _ _ _ _ _ _ q=>add_int q
theorem Kn:aX X (binaryOp .Sub) (jM fun i j=>.int (i - j)):=BC fun _ _ _ _ _ _ _ q=>sub_int q
theorem Ko:aX X (binaryOp .Mult) (rI qm fun i j=>.int (i*j)):=tV fun _ _ _ _ _ _ _ hc q=>mul_int q hc.ok
theorem Kp:aX X (binaryOp .FloorDiv) (rI wJ fun i j=>.int (i / j)):=tV fun i j _ _ _ _ _ hc q=>by
 have h1:(0:Int) <j:=hc.1;have h2:j<1073741824:=hc.2;exact floordiv_int (by omega) (by rw[Int.fdiv_eq_ediv_of_nonneg i (by omega)];exact q)<|.inl<|PyProof.noPylong_small (by omega)
theorem Kq:aX X (binaryOp .Mod) (rI (fun _ j=>0<j) fun i j=>.int (i % j)):=tV fun i j _ _ _ _ _ hc q=>by
 have h1:(0:Int) <j:=hc;exact mod_int' (by omega) (by rw[Int.fmod_eq_emod_of_nonneg i (by omega)];exact q)
theorem Kr:aX X (binaryOp .Pow) (rI wK fun i j=>.int (i ^ j.toNat)):=tV fun _ _ _ _ _ _ _ hc q=>pow_int_small hc.1 hc.2.1 hc.2.2 q
theorem Ks{f:Value->Sem Value}{g:Int->Int}
  (rule:∀(i:Int) (t:Tok) (s:Shared) (Q:Value->Shared->Prop) (E:Value->Shared->Prop),Q (.int (g i) s.toks) {s with toks:=s.toks+1}->wpAny (model X.prog X.w) X.A (f<|.int i t) Q E s):
  tU X f (rU fun i=>.int (g i)):=by
 intro pins s σ H x v Q I rx h;obtain⟨i,rfl,q⟩:=h;obtain⟨t,rfl⟩:=rx;exact rule i t s _ _ ⟨.int<|g i,H,I.tok _,⟨_,rfl⟩,q⟩
theorem Kt:tU X (unaryOp .USub) (rU fun i=>.int (-i)):=Ks fun _ _ _ _ _ q=>neg_int q
end
def jb:V->V->Bool
 |.aD,.aD=>true|.aD,.int _=>true|.int _,.aD=>true|.aD,.bl _=>true|.bl _,.aD=>true|.aD,.str _=>true|.str _,.aD=>true
 |.int _,.int _=>true|.bl _,.bl _=>true|.str _,.str _=>true|.eP _,.eP _=>true
 |.int _,.str _=>true|.str _,.int _=>true|.bl _,.str _=>true|.str _,.bl _=>true
 |_,_=>false
def Ku:R2:=fun x y H Q=>jb x y=true/\Q (.bl<|decide<|x=y) H
def Kv:R2:=fun x y H Q=>jb x y=true/\Q (.bl<|!decide (x=y)) H
theorem BD{i j:Int}:decide (V.int i=V.int j)=(i==j):=by
 rw[zbj]
 simp
theorem BE{i j:Bool}:decide (V.bl i=V.bl j)=(i==j):=by
 rw[zbj]
 simp
theorem g_{i j:Str}:decide (V.str i=V.str j)=(i==j):=by
 rw[zbj]
 simp
theorem BF{i j:Array UInt8}:decide (V.eP i=V.eP j)=(i.toList==j.toList):=by
 rw[zbj];cases i;cases j
 simp
section
variable {X:Cx}{a b c:Expr}{ta tb tc:TE}{pos:Pos}
theorem bK{pins:List (Addr×Obj)}{σ:St}{H:Hp}{s:Shared}{Q:VK}{k k':Bool}(I:Inv X pins σ H s)(q:Q (.bl k) H)(e:k=k'):EP X pins σ Q (.bool k') s:=by
 subst e;exact⟨.bl k,H,I,rfl,q⟩
theorem Kw:aX X (compareOp .Eq) Ku:=by
 intro pins s σ H x y v u Q I rx ry h;obtain⟨hs,q⟩:=h;cases x with
 |aD=>
  cases rx;cases y with
  |aD=>cases ry;exact PySem.EqNone.eq_none_none (bK I q (by simp))
  |bl j=>cases ry;exact PySem.EqNone.eq_none_bool (bK I q (by simp))
  |int j=>obtain⟨t',rfl⟩:=ry;exact PySem.EqNone.eq_none_int (bK I q (by simp))
  |str j=>obtain⟨t',rfl⟩:=ry;exact PySem.EqNone.eq_none_str (bK I q (by simp))
  |_=>exact absurd (show false=true from hs) zam
 |bl i=>
  cases rx;cases y with
  |aD=>cases ry;exact PySem.EqNone.eq_bool_none (bK I q (by simp))
  |bl j=>cases ry;exact eq_bool (bK I q BE)
  |str j=>obtain⟨t',rfl⟩:=ry;exact PySem.EqMixed.eq_bool_str (bK I q (by simp))
  |_=>exact absurd (show false=true from hs) zam
 |int i=>
  obtain⟨t,rfl⟩:=rx;cases y with
  |aD=>cases ry;exact PySem.EqNone.eq_int_none (bK I q (by simp))
  |int j=>obtain⟨t',rfl⟩:=ry;exact eq_int (bK I q BD)
  |str j=>obtain⟨t',rfl⟩:=ry;exact PySem.EqMixed.eq_int_str (bK I q (by simp))
  |_=>exact absurd (show false=true from hs) zam
 |str i=>
  obtain⟨t,rfl⟩:=rx;cases y with
  |aD=>cases ry;exact PySem.EqNone.eq_str_none (bK I q (by simp))
  |bl j=>cases ry;exact PySem.EqMixed.eq_str_bool (bK I q (by simp))
  |int j=>obtain⟨t',rfl⟩:=ry;exact PySem.EqMixed.eq_str_int (bK I q (by simp))
  |str j=>obtain⟨t',rfl⟩:=ry;exact eq_str (bK I q g_)
  |_=>exact absurd (show false=true from hs) zam
 |eP i=>
  obtain⟨t,rfl⟩:=rx;cases y with
  |eP j=>obtain⟨t',rfl⟩:=ry;exact PySem.W.eq_bytes (bK I q BF)
  |_=>exact absurd (show false=true from hs) zam
 |_=>cases y<;>exact absurd (show false=true from hs) zam
theorem Kx:aX X (compareOp .NotEq) Kv:=by
 intro pins s σ H x y v u Q I rx ry h;obtain⟨hs,q⟩:=h;cases x with
 |aD=>
  cases rx;cases y with
  |aD=>cases ry;exact PySem.EqNone.ne_none_none (bK I q (by simp))
  |bl j=>cases ry;exact PySem.EqNone.ne_none_bool (bK I q (by simp))
  |int j=>obtain⟨t',rfl⟩:=ry;exact PySem.EqNone.ne_none_int (bK I q (by simp))
  |str j=>obtain⟨t',rfl⟩:=ry;exact PySem.EqNone.ne_none_str (bK I q (by simp))
  |_=>exact absurd (show false=true from hs) zam
 |bl i=>
  cases rx;cases y with
  |aD=>cases ry;exact PySem.EqNone.ne_bool_none (bK I q (by simp))
  |bl j=>cases ry;exact ne_bool (bK I q<|congrArg not BE)
  |str j=>obtain⟨t',rfl⟩:=ry;exact PySem.EqMixed.ne_bool_str (bK I q (by simp))
  |_=>exact absurd (show false=true from hs) zam
 |int i=>
  obtain⟨t,rfl⟩:=rx;cases y with
  |aD=>cases ry;exact PySem.EqNone.ne_int_none (bK I q (by simp))
  |int j=>obtain⟨t',rfl⟩:=ry;exact ne_int (bK I q<|congrArg not BD)
  |str j=>obtain⟨t',rfl⟩:=ry;exact PySem.EqMixed.ne_int_str (bK I q (by simp))
  |_=>exact absurd (show false=true from hs) zam
 |str i=>
  obtain⟨t,rfl⟩:=rx;cases y with
  |aD=>cases ry;exact PySem.EqNone.ne_str_none (bK I q (by simp))
  |bl j=>cases ry;exact PySem.EqMixed.ne_str_bool (bK I q (by simp))
  |int j=>obtain⟨t',rfl⟩:=ry;exact PySem.EqMixed.ne_str_int (bK I q (by simp))
  |str j=>obtain⟨t',rfl⟩:=ry;exact ne_str (bK I q<|congrArg not g_)
  |_=>exact absurd (show false=true from hs) zam
 |eP i=>
  obtain⟨t,rfl⟩:=rx;cases y with
  |eP j=>obtain⟨t',rfl⟩:=ry;exact PySem.W.ne_bytes (bK I q<|congrArg not BF)
  |_=>exact absurd (show false=true from hs) zam
 |_=>cases y<;>exact absurd (show false=true from hs) zam
theorem Ky:aX X (compareOp .Lt) (jM fun i j=>.bl (decide<|i<j)):=tW fun _ _ _ _ _ _ _ q=>lt_int q
theorem Kz:aX X (compareOp .LtE) (jM fun i j=>.bl (decide<|i<=j)):=tW fun _ _ _ _ _ _ _ q=>le_int q
theorem KA:aX X (compareOp .Gt) (jM fun i j=>.bl (decide<|j<i)):=tW fun _ _ _ _ _ _ _ q=>gt_int q
theorem KC:aX X (compareOp .GtE) (jM fun i j=>.bl (decide<|j<=i)):=tW fun _ _ _ _ _ _ _ q=>ge_int q
theorem KD:aX X (compareOp .In) (fun x y H Q=>∃i j,x=.str i/\y=.str j/\Q (.bl<|!(Builtin.Str.occurrences j i 0 j.length 1).isEmpty) H):=by
 intro pins s σ H x y v u Q I rx ry h;obtain⟨i,j,rfl,rfl,q⟩:=h;obtain⟨t,rfl⟩:=rx;obtain⟨t',rfl⟩:=ry;exact in_str<|bK I q rfl
theorem KG:aX X (compareOp .Is) (fun x y H Q=>y=.aD/\Q (.bl<|decide<|x=.aD) H):=by
 intro pins s σ H x y v u Q I rx ry h;obtain⟨rfl,q⟩:=h;cases ry;refine is_none_gen<|bK I q ?_;cases x<;>first
  | (cases rx;rfl)
  | (obtain⟨t,rfl⟩:=rx;rfl)
theorem KH:aX X (compareOp .IsNot) (fun x y H Q=>y=.aD/\Q (.bl<|!decide (x=.aD)) H):=by
 intro pins s σ H x y v u Q I rx ry h;obtain⟨rfl,q⟩:=h;cases ry;refine isnot_none_gen<|bK I q ?_;cases x<;>first
  | (cases rx;rfl)
  | (obtain⟨t,rfl⟩:=rx;rfl)
theorem KI:aX X (compareOp .NotIn) (fun x y H Q=>∃i j,x=.str i/\y=.str j/\Q (.bl<|!(!(Builtin.Str.occurrences j i 0 j.length 1).isEmpty)) H):=by
 intro pins s σ H x y v u Q I rx ry h;obtain⟨i,j,rfl,rfl,q⟩:=h;obtain⟨t,rfl⟩:=rx;obtain⟨t',rfl⟩:=ry;exact notIn_str<|bK I q rfl
theorem aX.or{f:Value->Value->Sem Value}{r r':R2}(h:aX X f r)(h':aX X f r'):aX X f (fun x y H Q=>r x y H Q\/r' x y H Q):=by
 intro pins s σ H x y v u Q I rx ry q;rcases q with q|q
 ·exact h pins s σ H x y v u Q I rx ry q
 ·exact h' pins s σ H x y v u Q I rx ry q
theorem KJ{op:CmpOp}{r:R2}(ho:aX X (compareOp op) r)(ha:PE X a ta)(hb:PE X b tb)(hm:behindInMarks op b=false):PE X (.Compare a [op] [b] pos) (d5 r ta tb):=by
 intro pins s σ H Q I h;exact wpAny_Compare1 (wI ha hb I h fun v u s2 x y H2 I2 rx ry q=>ho pins s2 σ H2 x y v u Q I2 rx ry q) hm
def kR(t:TE):TT:=fun σ H Q=>t σ H fun x H'=>∃k,x=.bl k/\Q k H'
theorem KL{op:CmpOp}{r:R2}(ho:aX X (compareOp op) r)(ha:PE X a ta)(hb:PE X b tb)(hm:behindInMarks op b=false):PT X (.Compare a [op] [b] pos) (kR<|d5 r ta tb):=by
 intro pins s σ H Q I h;refine wpAny_isTrue_Compare1 (aF (ha pins s σ H _ I h) fun v s1 ⟨x,H1,I1,r1,q1⟩=>aF (hb pins s1 σ H1 _ I1 q1) fun u s2 ⟨y,H2,I2,r2,q2⟩=>
  aF (ho pins s2 σ H2 x y v u _ I2 r1 r2 q2) fun c s3 ⟨z,H3,I3,r3,k,e,q3⟩=>?_) hm
 subst e;cases r3;exact wpAny_truthy_bool ⟨H3,I3,q3⟩
def oC(r r':R2)(ta tb tc:TE):TE:=fun σ H Q=>ta σ H fun x H1=>tb σ H1 fun y H2=>r x y H2 fun z H3=>∃k,z=.bl k/\
 (if k=true then tc σ H3 fun w' H4=>r' y w' H4 Q else Q (.bl false) H3)
theorem KN{op bT:CmpOp}{r r':R2}(ho:aX X (compareOp op) r)(cW:aX X (compareOp bT) r')(ha:PE X a ta)(hb:PE X b tb)(hc:PE X c tc)
  (hm:lastMarks [op,bT] [b,c]=false:=by with_unfolding_all rfl):PE X (.Compare a [op,bT] [b,c] pos) (oC r r' ta tb tc):=by
 intro pins s σ H Q I h;refine Compare_chain (aF (ha pins s σ H _ I h) fun v s1 ⟨x,H1,I1,r1,q1⟩=>chain_link (aF (hb pins s1 σ H1 _ I1 q1) fun u s2 ⟨y,H2,I2,r2,q2⟩=>
  aF (ho pins s2 σ H2 x y v u _ I2 r1 r2 q2) fun d s3 ⟨z,H3,I3,r3,k,e,q3⟩=>?_)) hm
 subst e;cases r3;refine wpAny_truthy_bool ?_;cases k with
 |false=>exact ite_ff ⟨.bl false,H3,I3,rfl,q3⟩
 |true=>exact ite_tt (chain_last<|aF (hc pins s3 σ H3 _ I3 q3) fun w' s4 ⟨z',H4,I4,r4,q4⟩=>cW pins s4 σ H4 y z' u w' Q I4 r2 r4 q4)
theorem KO{op bT:CmpOp}{r r':R2}(ho:aX X (compareOp op) r)(cW:aX X (compareOp bT) r')(ha:PE X a ta)(hb:PE X b tb)(hc:PE X c tc)
  (hm:lastMarks [op,bT] [b,c]=false:=by with_unfolding_all rfl):PT X (.Compare a [op,bT] [b,c] pos) (kR<|oC r r' ta tb tc):=by
 intro pins s σ H Q I h;refine isTrue_chain (aF (ha pins s σ H _ I h) fun v s1 ⟨x,H1,I1,r1,q1⟩=>test_link (aF (hb pins s1 σ H1 _ I1 q1) fun u s2 ⟨y,H2,I2,r2,q2⟩=>
  aF (ho pins s2 σ H2 x y v u _ I2 r1 r2 q2) fun d s3 ⟨z,H3,I3,r3,k,e,q3⟩=>?_)) hm
 subst e;cases r3;refine wpAny_truthy_bool ?_;cases k with
 |false=>
  obtain⟨k',e',q'⟩:=q3;cases e';exact ite_ff ⟨H3,I3,q'⟩
 |true=>
  refine ite_tt<|test_last<|aF (hc pins s3 σ H3 _ I3 q3) fun w' s4 ⟨z',H4,I4,r4,q4⟩=>aF (cW pins s4 σ H4 y z' u w' _ I4 r2 r4 q4) fun d' s5 ⟨z2,H5,I5,r5,k2,e2,q5⟩=>?_;subst e2;cases r5;exact wpAny_truthy_bool ⟨H5,I5,q5⟩
def BG(K:Frag)(x:V)(H:Hp)(k:Bool):Prop:=
 match x with
 |.aD=>k=false
 |.bl b=>k=b
 |.int i=>k=(i !=0)
 |.str y=>y.length<=sizeLine/\k=((y.length:Int) !=0)
 |.eP y=>y.size<=sizeLine/\k=((y.size:Int) !=0)
 |.ref p=>(∃xs,aw K H p xs/\k= !xs.isEmpty)\/(∃xs,aO K H p xs/\k= !xs.isEmpty)\/∃kvs,H p=some (.dK kvs)/\k= !kvs.isEmpty
 |_=>False
theorem KP{κ:Type}{kvs:List (κ×V)}{vs:List (κ×Value)}(r:KV kvs vs):(!vs.isEmpty)= !kvs.isEmpty:=by
 cases r<;>rfl
theorem BH{xs:List V}{aj:List Value}(r:Vals xs aj):(!aj.toArray.isEmpty)= !xs.isEmpty:=by
 cases r<;>simp
theorem mr:(sizeLine:Nat) <2 ^ 63:=by rw[sizeLine_eq];decide
theorem BI:Kj X (fun x H Q=>∃k,BG X.K x H k/\Q k H):=by
 intro pins s σ H x v Q I rx h;obtain⟨k,e,q⟩:=h;have hl:=mr;have hs:sizeLine=16777216:=sizeLine_eq;cases x with
 |aD=>
  cases rx;have e':k=false:=e;subst e';exact truthy_none ⟨H,I,q⟩
 |bl b=>
  cases rx;have e':k=b:=e;subst e';exact wpAny_truthy_bool ⟨H,I,q⟩
 |int i=>
  obtain⟨t,rfl⟩:=rx;have e':k=(i !=0):=e;subst e';exact PySem.P.truthy_int ⟨H,I,q⟩
 |str y=>
  obtain⟨t,rfl⟩:=rx;obtain⟨hy,e'⟩:y.length<=sizeLine/\k=((y.length:Int) !=0):=e;subst e';exact PySem.P.truthy_str (by omega) ⟨H,I.tok _,q⟩
 |eP y=>
  obtain⟨t,rfl⟩:=rx;obtain⟨hy,e'⟩:y.size<=sizeLine/\k=((y.size:Int) !=0):=e;subst e';exact PySem.W.truthy_bytes (by omega) ⟨H,I.tok _,q⟩
 |ref p=>
  cases rx;have e':(∃xs,aw X.K H p xs/\k= !xs.isEmpty)\/(∃xs,aO X.K H p xs/\k= !xs.isEmpty)\/∃kvs,H p=some (.dK kvs)/\k= !kvs.isEmpty:=e;rcases e' with⟨xs,hx,e'⟩|⟨xs,hx,e'⟩|⟨kvs,hx,e'⟩
  ·subst e';obtain⟨aj,r,pl,hz⟩:=I.list hx;have hlen:=r.length;exact wpAny_truthy_list pl.isList (by simp only[zaf];omega) ⟨H,I.tok _,by rw[BH r];exact q⟩
  ·subst e';obtain⟨aj,r,pl,hz⟩:=I.tuple hx;have hlen:=r.length;exact truthy_tuple pl (by simp only[zaf];omega) ⟨H,I.tok _,by rw[BH r];exact q⟩
  ·subst e';obtain⟨hz,hS,vs,r,m⟩:kvs.length<=sizeLine/\(p==sysModules)=false/\∃vs,KV kvs vs/\s.heap.DictOf (ck X.prog X.w) p vs:=I.aA p _ hx;have hlen:kvs.length=vs.length:=Paired.length r;exact wpAny_truthy_dict hS m (by omega) ⟨H,I.tok _,by rw[KP r];exact q⟩
 |_=>exact(show False from e).elim
theorem KQ:aX X (binaryOp .Add) (fun x y H Q=>∃i j,x=.str i/\y=.str j/\i.length+j.length<=sizeLine/\Q (.str<|i++j) H):=by
 intro pins s σ H x y v u Q I rx ry h;obtain⟨i,j,rfl,rfl,hz,q⟩:=h;obtain⟨t,rfl⟩:=rx;obtain⟨t',rfl⟩:=ry;exact add_str (fun t' tk=>⟨.str<|i++j,H,I.tok _,⟨_,rfl⟩,q⟩) hz
theorem vals1{x:V}{us:List Value}(r:Vals [x] us):∃u,us=[u]/\RelV x u:=by
 cases r with
 |cons r1 r2=>cases r2;exact⟨_,rfl,r1⟩
theorem vals2{x y:V}{us:List Value}(r:Vals [x,y] us):∃u w',us=[u,w']/\RelV x u/\RelV y w':=by
 cases r with
 |cons r1 r2=>
  cases r2 with
  |cons r3 r4=>cases r4;exact⟨_,_,rfl,r1,r3⟩
theorem KR(hc:X.calm=true):bQ X (.builtin "max") (fun xs H Q=>∃i j,xs=[.int i,.int j]/\Q (.int (if j>i then j else i)) H):=by
 intro pins s σ H xs us Q I r h;obtain⟨i,j,rfl,q⟩:=h;obtain⟨u,w',rfl,⟨t,rfl⟩,⟨t',rfl⟩⟩:=vals2 r;refine max_two_ints (I.ok.hd hc) fun h' tk k=>⟨_,H,I.kept k,?_,q⟩;by_cases hj:j>i
 ·rw[if_pos hj,if_pos hj];exact⟨_,rfl⟩
 ·rw[if_neg hj,if_neg hj];exact⟨_,rfl⟩
theorem KS(hc:X.calm=true):bQ X (.builtin "min") (fun xs H Q=>∃i j,xs=[.int i,.int j]/\Q (.int (if j<i then j else i)) H):=by
 intro pins s σ H xs us Q I r h;obtain⟨i,j,rfl,q⟩:=h;obtain⟨u,w',rfl,⟨t,rfl⟩,⟨t',rfl⟩⟩:=vals2 r;refine min_two_ints (I.ok.hd hc) fun h' tk k=>⟨_,H,I.kept k,?_,q⟩;by_cases hj:j<i
 ·rw[if_pos hj,if_pos hj];exact⟨_,rfl⟩
 ·rw[if_neg hj,if_neg hj];exact⟨_,rfl⟩
theorem KU:bQ X (.type "int") (fun xs H Q=>(∃i,xs=[.int i]/\Q (.int i) H)\/∃k,xs=[.bl k]/\Q (.int (if k then 1 else 0)) H):=by
 intro pins s σ H xs us Q I r h;rcases h with⟨i,rfl,q⟩|⟨k,rfl,q⟩
 ·obtain⟨u,rfl,t,rfl⟩:=vals1 r;exact call_int_int ⟨.int i,H,I,⟨_,rfl⟩,q⟩
 ·obtain⟨u,rfl,r1⟩:=vals1 r;cases r1;exact call_int_bool ⟨.int (if k then 1 else 0),H,I.tok _,⟨_,rfl⟩,q⟩
def BJ(K:Frag)(x:V)(H:Hp)(n:Nat):Prop:=
 match x with
 |.str y=>y.length<=sizeLine/\n=y.length
 |.eP y=>y.size<=sizeLine/\n=y.size
 |.ref p=>(∃xs,aw K H p xs/\n=xs.length)\/∃xs,aO K H p xs/\n=xs.length
 |_=>False
theorem KW:bQ X (.builtin "len") (fun xs H Q=>∃x n,xs=[x]/\BJ X.K x H n/\Q (.int n) H):=by
 intro pins s σ H xs us Q I r h;obtain⟨x,n,rfl,e,q⟩:=h;obtain⟨u,rfl,rx⟩:=vals1 r;have hl:=mr;have hs:sizeLine=16777216:=sizeLine_eq;cases x with
 |str y=>
  obtain⟨t,rfl⟩:=rx;obtain⟨hy,e'⟩:y.length<=sizeLine/\n=y.length:=e;subst e';exact len_str (by omega) ⟨.int _,H,I.tok _,⟨_,rfl⟩,q⟩
 |eP y=>
  obtain⟨t,rfl⟩:=rx;obtain⟨hy,e'⟩:y.size<=sizeLine/\n=y.size:=e;subst e';exact PySem.W.len_bytes (by omega) ⟨.int _,H,I.tok _,⟨_,rfl⟩,q⟩
 |ref p=>
  cases rx;have e':(∃xs,aw X.K H p xs/\n=xs.length)\/∃xs,aO X.K H p xs/\n=xs.length:=e;rcases e' with⟨xs,hx,e'⟩|⟨xs,hx,e'⟩
  ·subst e';obtain⟨aj,r',pl,hz⟩:=I.list hx;have hlen:=r'.length;exact Calls.call_len_list pl.isList (by simp only[zaf];omega) ⟨.int xs.length,H,I.tok _,⟨_,by simp only[zaf];rw[hlen]⟩,q⟩
  ·subst e';obtain⟨aj,r',pl,hz⟩:=I.tuple hx;have hlen:=r'.length;exact len_tuple pl (by simp only[zaf];omega) ⟨.int xs.length,H,I.tok _,⟨_,by simp only[zaf];rw[hlen]⟩,q⟩
 |_=>exact(show False from e).elim
end
structure mw (h:Heap) (x dx C:Addr) (mA:Str->Option Value):Prop where
 obj:h.get? x=some (instObj C dx)
 ns:h.Ns1 dx mA
 ne:dx≠x
theorem KY{h:Heap}{dx:Addr}{mA:Str->Option Value}(n:h.Ns1 dx mA):∃od,h.get? dx=some od/\∀name,lookIn name od=some (mA name):=by
 obtain⟨o,es,ep,ho,hd,hk,_,hm⟩:=n;refine⟨o,ho,fun name=>?_⟩;have e:=hm name;unfold nsFind findBy at e;rw[<-Array.find?_toList] at e;unfold lookIn;rw[hd]
 dsimp only
 split
 ·rename_i y q
  rw[q] at e;exact congrArg some e
 ·rename_i q
  rw[q] at e;have a:es.toList.any (·.refKey)=false:=by
   rw[List.any_eq_false];intro y hy;obtain⟨z,t,wL⟩:=hk y (Array.mem_toList_iff.mp hy)
   simp[DictEntry.refKey,wL]
  have a':¬es.toList.any (·.refKey)=true:=by rw[a];exact zam
  rw[if_neg a'];exact congrArg some e
theorem mw.look{h:Heap}{x dx C:Addr}{mA:Str->Option Value}(I:mw h x dx C mA):∃od,InstAt h x (instObj C dx) C (some od)/\∀name,lookIn name od=some (mA name):=
 let ⟨od,ho,hl⟩:=KY I.ns
 ⟨od,⟨I.obj,rfl,rfl,ho⟩,hl⟩
section
variable {prog:Program}{w:World}{A:Around}{E:Value->Shared->Prop}{s:Shared}{K:Frag}{x dx C f:Addr}{mA:Str->Option Value}{name:Str}{v:Value}
theorem get_map{expr:Bool}{Q:Value->Shared->Prop}(X:K.In s.heap)(I:mw s.heap x dx C mA)(hg:plainGet K C name=true)(hh:hasDictIn K C=true)
  (ha:PySem.W.findIn K (.ref C) name=some none) (hv:mA name=some v) (KZ:handedIn v=true) (h:Q v {s with toks:=s.toks+1}):
  wpAny (model prog w) A (getAttr (.ref x) name expr) Q E s:=by
 obtain⟨od,J,hl⟩:=I.look;exact PySem.W.get_value X J (plainGet_of hg).1 (PySem.W.findObj_own hh ha rfl (by rw[hl,hv])) KZ h
theorem K0{pl:Sem Bool}{Q:Value×List Value->Shared->Prop}(X:K.In s.heap)(I:mw s.heap x dx C mA)(hg:plainGet K C name=true)
  (hf:PySem.W.findIn K (.ref C) name=some (some<|.ref f)) (ht:PySem.W.isFn K (.ref f)=true) (hv:mA name=none) (h:Q (.ref f,[.ref x]) s):
  wpAny (model prog w) A (getMethod (.ref x) name pl) Q E s:=by
 obtain⟨od,J,hl⟩:=I.look;exact PySem.W.method_fn X J (plainGet_of hg).1 (plainGet_of hg).2 hf (beq_iff_eq.mp ht) (by show(lookIn name od).map (·.isSome)=some false;rw[hl,hv];rfl) h
theorem K1{ns:List Str}{Q:Unit->Shared->Prop}(X:K.In s.heap)(I:mw s.heap x dx C mA)
  (hs:PySem.W.findIn K (.ref C) "__setattr__"=some (some<|.builtin "object.__setattr__")) (hp:plainOver K C=true) (ht:takerIn K C name=some none) (hh:hasDictIn K C=true)
  (hw:PySem.Within mA ns) (hsz:ns.length<=sizeLine)
  (h:∀h',mw h' x dx C (fun y=>if y=name then some v else mA y)->Heap.SameBut dx s.heap h'->Q () {s with heap:=h',toks:=s.toks+2}):
  wpAny (model prog w) A (setAttr (.ref x) name v) Q E s:=by
 obtain⟨od,J,hl⟩:=I.look;refine PySem.W.set_plain X J hs<|PySem.W.osa_open (s:={s with toks:=s.toks+1}) (r:=none) X J hp ht fun b=>?_
 obtain⟨cd,hc,qe⟩:=PySem.W.any_some hh;have hx:s.heap.get? x=some ⟨.ref C,some dx,.plain,#[]⟩:=I.obj;refine wpAny_bind<|wpAny_pure<|wpAny_bind<|wpAny_bind<|wpAny_loadPart hx<|wpAny_bind<|PySem.W.Looks.here (s:={s with toks:=s.toks+1}) (PySem.W.looks_clsIn X hc) ?_
 rw[qe];refine wpAny_pure (a:=some dx)<|wpAny_bind<|wpAny_pure<|wpAny_bind ?_;refine wpAny_nsSet1 (s:={s with toks:=s.toks+1}) I.ns fun h' qo hG=>?_
 obtain⟨oD,Zv,Zw,K2,K3,jN⟩:=qo.count (PySem.Within.cons name v hw);refine wpAny_bind<|wpAny_lookBehind K2 (by rw[K3];exact pastItsLine_dict (zaw jN (by rw[zax];omega))) ?_
 exact wpAny_pure<|h _ ⟨(hG.2 _<|Ne.symm I.ne).trans I.obj,qo,I.ne⟩ hG
theorem K4{R:Result->Shared->Prop}{vs:List Value}{kw:List (Str×Value)}(X:K.In s.heap)(hm:makesIn K C=true)
  (hi:PySem.W.findIn K (.ref C) "__init__"=some (some<|.ref f)) (hf:PySem.W.typeIn K (.ref f)=some (.type "function"))
  (h:codeAny (model prog w) (A.under (.builtin "type.__call__" ⟨.ref C::vs,kw⟩)) (.call (.ref f) ⟨.ref (s.heap.objs.size+1)::vs,kw⟩) (PySem.W.InitBack (s.heap.objs.size+1) R)
   {s with heap:=(s.heap.push emptyDict).push (instObj C s.heap.objs.size)}):
  codeAny (model prog w) A (.call (.ref C) ⟨vs,kw⟩) R s:=by
 obtain⟨hh,g,d,t,os⟩:=s;exact PySem.W.make_core (PySem.W.makes_of X hm) (PySem.W.looks_findIn X hi) (fun self=>PySem.W.bind_fn X self hf) (.inl rfl) h
end
def bq(f:Str)(v:V):List (Str×V)->List (Str×V)
 |[]=>[(f,v)]
 |(g,x)::r=>if g=f then (g,v)::r else (g,x)::bq f v r
theorem BK(f g:Str)(v:V):∀fs:List (Str×V),(bq f v fs).lookup g=if g=f then some v else fs.lookup g
 |[]=>by
  show List.lookup g [(f,v)]=_;by_cases h:g=f
  ·have hb:(g==f)=true:=beq_iff_eq.mpr h
   simp only[List.lookup,hb,if_pos h]
  ·have hb:(g==f)=false:=beq_eq_false_iff_ne.mpr h
   simp only[List.lookup,hb,if_neg h]
 |(k,x)::r=>by
  have ih:=BK f g v r;rw[show bq f v ((k,x)::r)=(if k=f then (k,v)::r else (k,x)::bq f v r) from rfl]
  by_cases hk:k=f
  ·rw[if_pos hk];by_cases h:g=k
   ·have hb:(g==k)=true:=beq_iff_eq.mpr h
    simp only[List.lookup,hb,if_pos<|h.trans hk]
   ·have hb:(g==k)=false:=beq_eq_false_iff_ne.mpr h
    simp only[List.lookup,hb,if_neg (fun e:g=f=>h (e.trans hk.symm))]
  ·rw[if_neg hk];by_cases h:g=k
   ·have hb:(g==k)=true:=beq_iff_eq.mpr h
    simp only[List.lookup,hb,if_neg (fun e:g=f=>hk (h.symm.trans e))]
   ·have hb:(g==k)=false:=beq_eq_false_iff_ne.mpr h
    simp only[List.lookup,hb]
    exact ih
theorem wM(f:Str)(v:V):∀fs:List (Str×V),f∈ (bq f v fs).map (·.1)/\∀g,g∈fs.map (·.1)->g∈ (bq f v fs).map (·.1)
 |[]=>⟨by simp[bq],fun g h=>by simp at h⟩
 |(k,x)::r=>by
  obtain⟨i1,i2⟩:=wM f v r;rw[show bq f v ((k,x)::r)=(if k=f then (k,v)::r else (k,x)::bq f v r) from rfl]
  by_cases hk:k=f
  ·rw[if_pos hk];subst hk;exact⟨by simp,fun g h=>by simpa using h⟩
  ·rw[if_neg hk];refine⟨?_,fun g h=>?_⟩
   ·rw[zak];exact zao _ i1
   ·rw[zak] at h⊢;rcases zae.mp h with e|e
    ·exact zae.mpr (.inl e)
    ·exact zao _ (i2 g e)
theorem BL(f:Str)(v:V):∀fs:List (Str×V),(bq f v fs).length<=fs.length+1
 |[]=>by simp[bq]
 |(k,x)::r=>by
  have ih:=BL f v r;rw[show bq f v ((k,x)::r)=(if k=f then (k,v)::r else (k,x)::bq f v r) from rfl]
  by_cases hk:k=f
  ·rw[if_pos hk,zax,zax];omega
  ·rw[if_neg hk,zax,zax];omega
theorem eQ.some_of{v:V}{o:Option Value}(r:eQ (some v) o):∃u,o=some u/\RelV v u:=by
 cases o with
 |none=>exact(show False from r).elim
 |some u=>exact⟨u,rfl,r⟩
theorem eQ.none_of{o:Option Value}(r:eQ none o):o=none:=by
 cases o with
 |none=>rfl
 |some u=>exact(show False from r).elim
theorem K5{v:V}{u:Value}(r:RelV v u):handedIn u=true:=by
 cases v with
 |aD=>cases (show u=Value.none from r);rfl
 |bl b=>cases (show u=Value.bool b from r);rfl
 |int i=>obtain⟨t,e⟩:=(show ∃t,u=Value.int i t from r);cases e;rfl
 |str x=>obtain⟨t,e⟩:=(show ∃t,u=Value.str x t from r);cases e;rfl
 |eP b=>obtain⟨t,e⟩:=(show ∃t,u=Value.bytes b t from r);cases e;rfl
 |kO b=>obtain⟨t,e⟩:=(show ∃t,u=Value.float b t from r);cases e;rfl
 |ref a=>cases (show u=Value.ref a from r);rfl
 |ty n=>cases (show u=Value.type n from r);rfl
section
variable {P:Program}{w:World}{H H':Hp}{h h':Heap}{a C dx:Addr}{fs JG:List (Str×V)}
theorem tX(aA:bD P w H h)(e:H a=some (.ins C dx fs)):∃mA,mw h a dx C mA/\(∀f,eQ (fs.lookup f)<|mA f)/\PySem.Within mA (fs.map (·.1))/\fs.length<=1000/\H dx=some (.own a):=by
 obtain⟨d,z,ne,ob,mA,n,r,q⟩:=(show bI P w H h a (.ins C dx fs) from aA a _ e)
 exact⟨mA,⟨ob,n,ne⟩,r,q,z,d⟩
end
structure eV (K:Frag) (C:Addr):Prop where
 pg:plainGet K C Str.empty=true
 hd:hasDictIn K C=true
 po:plainOver K C=true
 sa:PySem.W.findIn K (.ref C) "__setattr__"=some (some<|.builtin "object.__setattr__")
theorem eV.get{K:Frag}{C:Addr}(c:eV K C)(f:Str):plainGet K C f=true:=c.pg
def eW(K:Frag)(C:Addr)(f:Str):Prop:=PySem.W.findIn K (.ref C) f=some none
theorem eW.K6{K:Frag}{C:Addr}{f:Str}(n:eW K C f):takerIn K C f=some none:=by
 unfold takerIn;rw[show PySem.W.findIn K (.ref C) f=some none from n]
 rfl
structure Meth (K:Frag) (C:Addr) (m:Str) (f:Addr):Prop where
 at_:PySem.W.findIn K (.ref C) m=some (some<|.ref f)
 fn:PySem.W.isFn K (.ref f)=true
 kp:PySem.W.keepIn K (.ref f)=true
section
variable {X:Cx}{pins:List (Addr×Obj)}{σ:St}{H:Hp}{s:Shared}{a C dx:Addr}{fs:List (Str×V)}{f:Str}{v:V}{A:Around}{E:Value->Shared->Prop}
theorem K7{b:Bool}{Q:Value->Shared->Prop}(I:Inv X pins σ H s)(e:H a=some (.ins C dx fs))(c:eV X.K C)(n:eW X.K C f)(l:fs.lookup f=some v)
  (h:∀u s',Inv X pins σ H s'->RelV v u->Q u s'):wpAny (model X.prog X.w) A (getAttr (.ref a) f b) Q E s:=by
 obtain⟨mA,O,r,_,_,_⟩:=tX I.aA e;obtain⟨u,hu,ru⟩:=eQ.some_of (v:=v) (o:=mA f) (by rw[<-l];exact r f)
 exact get_map I.cj O (c.get f) c.hd n hu (K5 ru)<|h u _ (I.tok _) ru
theorem BM{m:Str}{g:Addr}{pl:Sem Bool}{Q:Value×List Value->Shared->Prop}(I:Inv X pins σ H s)(e:H a=some (.ins C dx fs))(c:eV X.K C)(k:Meth X.K C m g)(l:fs.lookup m=none)
  (h:Q (.ref g,[.ref a]) s):wpAny (model X.prog X.w) A (getMethod (.ref a) m pl) Q E s:=by
 obtain⟨mA,O,r,_,_,_⟩:=tX I.aA e;have hn:mA m=none:=eQ.none_of (by rw[<-l];exact r m)
 exact K0 I.cj O (c.get m) k.at_ k.fn hn h
theorem K8{y:V}{u:Value}{Q:Unit->Shared->Prop}(I:Inv X pins σ H s)(e:H a=some (.ins C dx fs))(c:eV X.K C)(n:eW X.K C f)(hl:fs.length<1000)(ry:RelV y u)
  (h:∀s',Inv X pins σ (upd H a<|.ins C dx<|bq f y fs) s'->Q () s'):wpAny (model X.prog X.w) A (setAttr (.ref a) f u) Q E s:=by
 obtain⟨mA,O,r,wi,_,ho⟩:=tX I.aA e;have hz:(fs.map (·.1)).length<=sizeLine:=by rw[zaa,sizeLine_eq];omega
 refine K1 I.cj O c.sa c.po n.K6 c.hd wi hz fun h' O' sb=>h _ ?_;have hd:∃o,h'.get? dx=some o:=let ⟨o,_,_,e',_⟩:=O'.ns;⟨o,e'⟩;refine I.write (x:=a) (e:=dx) (by rw[e];exact True.intro) (.inr ho) (fun b q hb z=>(sb.2 b hb).trans z) hd ?_
 refine⟨by rw[av O.ne];exact ho,?_,O.ne,O'.obj,_,O'.ns,fun g=>?_,fun g hg=>?_⟩
 ·have:=BL f y fs;omega
 ·show eQ ((bq f y fs).lookup g) (if g=f then some u else mA g)
  rw[BK];by_cases q:g=f
  ·rw[if_pos q,if_pos q];exact ry
  ·rw[if_neg q,if_neg q];exact r g
 ·by_cases q:g=f
  ·rw[q];exact(wM f y fs).1
  ·refine(wM f y fs).2 g (wi g fun z=>hg ?_);show(if g=f then some u else mA g)=none
   rw[if_neg q];exact z
theorem Inv.made(I:Inv X pins σ H s):Inv X pins σ (upd (upd H s.heap.objs.size<|.own<|s.heap.objs.size+1) (s.heap.objs.size+1)<|.ins C s.heap.objs.size [])
  {s with heap:=(s.heap.push emptyDict).push (instObj C s.heap.objs.size)}:=by
 have e1:(s.heap.push emptyDict).get? s.heap.objs.size=some emptyDict:=Heap.get?_push_size s.heap rfl;have e2:((s.heap.push emptyDict).push<|instObj C s.heap.objs.size).get? (s.heap.objs.size+1)=some (instObj C s.heap.objs.size):=by
  have:=Heap.get?_push_size (s.heap.push emptyDict) (o:=instObj C s.heap.objs.size) rfl
  rwa [Heap.size_push] at this
 have e3:(s.heap.push emptyDict).Ns s.heap.objs.size (fun _=>none):=⟨emptyDict,#[],_,e1,rfl,(fun e he=>absurd he (by simp)),fun _=>rfl⟩
 have I1:=I.laid (a:=s.heap.objs.size) (o:=.own (s.heap.objs.size+1)) (h':=s.heap.push emptyDict) (t':=s.toks) (fun b u q=>Heap.get?_push_of_some _ q) (zqR _) ⟨_,e1⟩;refine I1.laid (a:=s.heap.objs.size+1) (o:=.ins C s.heap.objs.size []) (t':=s.toks) (fun b u q=>Heap.get?_push_of_some _ q) (Nat.le_of_eq<|Heap.size_push _ _) ?_;have ne:s.heap.objs.size≠s.heap.objs.size+1:=zab (zaZ _);refine⟨by rw[av ne,az],zqZ _,ne,e2,fun _=>none,(Heap.Ns1.of_empty e3).at fun o q=>Heap.get?_push_of_some _ q,fun _=>True.intro,fun y hy=>absurd rfl hy⟩
theorem K9{prog:Program}{w:World}{env:Env}{e:Expr}{f:Str}{pos:Pos}{s:Shared}{Q:Value->Shared->Prop}(hb:attributeBase e f env (eval e env)=eval e env)
  (h:wpAny (model prog w) A (eval e env) (fun o s₁=>wpAny (model prog w) A (getAttr o f true) Q E s₁) E s):wpAny (model prog w) A (eval (.Attribute e f pos) env) Q E s:=
 Attribute_any_ h (by rw[arm_eval_Attribute,hb])
end
def tY(K:Frag)(ta:TE)(f:Str):TE:=fun σ H Q=>ta σ H fun x H1=>∃a C dx fs v,x=.ref a/\H1 a=some (.ins C dx fs)/\eV K C/\eW K C f/\fs.lookup f=some v/\Q v H1
def wN(K:Frag)(ta tv:TE)(f:Str):TS:=fun D σ H=>tv σ H fun y H1=>ta σ H1 fun x H2=>∃a C dx fs,x=.ref a/\H2 a=some (.ins C dx fs)/\eV K C/\eW K C f/\fs.length<1000/\
 D.nx σ (upd H2 a<|.ins C dx<|bq f y fs)
section
variable {X:Cx}{o e value:Expr}{f:Str}{pos pos' K_:Pos}{ta tv:TE}
theorem La(he:PE X e ta)(hb:attributeBase e f X.env (eval e X.env)=eval e X.env):PE X (.Attribute e f pos) (tY X.K ta f):=by
 intro pins s σ H Q I h;refine K9 hb<|aF (he pins s σ H _ I h) fun u s1 ⟨x,H1,I1,rx,a,C,dx,fs,v,ex,ea,c,n,l,q⟩=>?_;subst ex;obtain rfl:u=Value.ref a:=rx;exact K7 I1 ea c n l fun u' s2 I2 ru=>⟨v,H1,I2,ru,q⟩
theorem Lb(ha:PE X o ta)(hv:PE X value tv)(hs:swapsWith value (some<|.Attribute o f pos') pos.line X.env=pure false):PS X (.Assign [.Attribute o f pos'] value pos) (wN X.K ta tv f):=by
 intro pins s σ H D I h;refine plainObj_wpAny_Assign_Attribute (aF (hv pins s σ H _ I h) fun u s1 ⟨y,H1,I1,ry,q⟩=>aF (ha pins s1 σ H1 _ I1 q) fun ov s2 ⟨x,H2,I2,rx,a,C,dx,fs,ex,ea,c,n,l,q2⟩=>?_) hs;subst ex;obtain rfl:ov=Value.ref a:=rx;exact K8 I2 ea c n l ry fun s3 I3=>⟨σ,_,I3,q2⟩
end
section
variable {X:Cx}{pins:List (Addr×Obj)}{σ:St}{H:Hp}{s:Shared}{A:Around}{E:Value->Shared->Prop}{Q:Value->Shared->Prop}{c:Value}{b:Bool}
inductive hJ (K:Frag) (H:Hp):V->Value->Prop where
 |aD:hJ K H .aD (.type "NoneType")
 |bl (x:Bool):hJ K H (.bl x) (.type "bool")
 |int (i:Int):hJ K H (.int i) (.type "int")
 |str (x:Str):hJ K H (.str x) (.type "str")
 |kO (x:UInt64):hJ K H (.kO x) (.type "float")
 |lst {a:Addr}{xs:List V} (e:H a=some (.lst xs)):hJ K H (.ref a) (.type "list")
 |aY {a:Addr}{o:Obj}{xs:List V} (e:H a=some (.aY o<|.lst xs)):hJ K H (.ref a) (.type "list")
 |tup {a:Addr}{xs:List V} (e:H a=some (.tup xs)):hJ K H (.ref a) (.type "tuple")
 |dK {a:Addr}{kvs:List (Key×V)} (e:H a=some (.dK kvs)):hJ K H (.ref a) (.type "dict")
 |dT {a:Addr}{kvs:List (List Key×V)} (e:H a=some (.dT kvs)):hJ K H (.ref a) (.type "dict")
 |ins {a C dx:Addr}{fs:List (Str×V)} (e:H a=some (.ins C dx fs)) (cl:eV K C) (ha:PySem.W.findIn K (.ref C) "__class__"=some (some<|.builtin "object.__class__"))
   (hn:PySem.W.specialIn K (.builtin "object.__class__") "__get__"=some (some<|.builtin "getset_descriptor.__get__")) (kT:PySem.W.takesIn K (.builtin "object.__class__")=some true)
   (hm:PySem.W.mroIn K C (.type "object")=some true):hJ K H (.ref a) (.ref C)
theorem jO{x:V}{u t:Value}(I:Inv X pins σ H s)(rx:RelV x u)(ty:hJ X.K H x t)(e:kitOne X.K t c=some b)(h:∀tk,Q (.bool b) {s with toks:=tk}):
  wpAny (model X.prog X.w) A (call (.builtin "isinstance") [u,c]) Q E s:=by
 cases ty with
 |aD=>cases (show u=Value.none from rx);exact kia_one PySem.W.kitx_none I.cj True.intro e (fun z=>nomatch z) h
 |bl y=>cases (show u=Value.bool y from rx);exact kia_one PySem.W.kitx_bool I.cj True.intro e (fun z=>nomatch z) h
 |int i=>obtain⟨t,q⟩:=(show ∃t,u=Value.int i t from rx);cases q;exact kia_one PySem.W.kitx_int I.cj True.intro e (fun z=>nomatch z) h
 |str y=>obtain⟨t,q⟩:=(show ∃t,u=Value.str y t from rx);cases q;exact kia_one PySem.W.kitx_str I.cj True.intro e (fun z=>nomatch z) h
 |kO y=>obtain⟨t,q⟩:=(show ∃t,u=Value.float y t from rx);cases q;exact kia_one PySem.W.kitx_float I.cj True.intro e (fun z=>nomatch z) h
 | @lst a xs ea=>
  cases (show u=Value.ref a from rx)
  obtain⟨_,_,n,_,h1⟩:=(show bI X.prog X.w H s.heap a (.lst xs) from I.aA a _ ea)
  exact kia_one kitx_list I.cj ⟨_,h1,rfl⟩ e (fun z=>nomatch z) h
 | @aY a ob xs ea=>
  cases (show u=Value.ref a from rx)
  obtain⟨_,_,_,n,_,h1⟩:=(show bI X.prog X.w H s.heap a (.aY ob<|.lst xs) from I.aA a _ ea)
  exact kia_one kitx_list I.cj ⟨_,h1,rfl⟩ e (fun z=>nomatch z) h
 | @tup a xs ea=>
  cases (show u=Value.ref a from rx)
  obtain⟨_,_,_,p⟩:=(show bI X.prog X.w H s.heap a (.tup xs) from I.aA a _ ea)
  obtain⟨o,h1,h2,_⟩:=p;exact kia_one PySem.W.kitx_tuple I.cj ⟨o,h1,h2⟩ e (fun z=>nomatch z) h
 | @dK a kvs ea=>
  cases (show u=Value.ref a from rx)
  obtain⟨_,_,vs,_,p⟩:=(show bI X.prog X.w H s.heap a (.dK kvs) from I.aA a _ ea)
  obtain⟨o,es,ep,h1,h2,_⟩:=p;exact kia_one kitx_dict I.cj ⟨o,h1,h2.1⟩ e (fun z=>nomatch z) h
 | @dT a kvs ea=>
  cases (show u=Value.ref a from rx)
  obtain⟨_,_,xs,_,o,es,ep,h1,h2,_⟩:=(show bI X.prog X.w H s.heap a (.dT kvs) from I.aA a _ ea)
  exact kia_one kitx_dict I.cj ⟨o,h1,h2.1⟩ e (fun z=>nomatch z) h
 | @ins a C dx fs ea cl ha hn kT hm=>
  cases (show u=Value.ref a from rx)
  obtain⟨mA,O,_⟩:=tX I.aA ea;obtain⟨od,J,_⟩:=O.look;exact kia_one (PySem.W.kitx_own (cl.get _) cl.hd ha hn kT hm) I.cj J e (fun z=>nomatch z) h
end
structure cK (k:Nat) (A:Around):Prop where
 hd:A.handled=none
 dp:A.depth+3*k+5<recursionLimit
 un:A.units+16*k+200<cLine
theorem cK.mono{j k:Nat}{A:Around}(r:cK k A)(h:j<=k):cK j A:=⟨r.hd,by have:=r.dp;omega,by have:=r.un;omega⟩
theorem cK.deeper{k:Nat}{A:Around}(r:cK (k+1) A)(env:Env):cK k (A.deeper env):=
 ⟨r.hd,by have:=r.dp;show A.depth+1+3*k+5<_;omega,by have:=r.un;show A.units+3+16*k+200<_;omega⟩
theorem Lc{A:Around}{C:Addr}{us:List Value}{kw:List (Str×Value)}:(A.under<|.builtin "type.__call__" ⟨.ref C::us,kw⟩).depth=A.depth+1:=by
 first|rfl|simp[Around.under,Code.weight,Code.isCreation,Code.isGuard,Code.isCaller,Code.frames,Code.isFrame,guardIds]
theorem Ld{A:Around}{C:Addr}{us:List Value}{kw:List (Str×Value)}:(A.under<|.builtin "type.__call__" ⟨.ref C::us,kw⟩).units=A.units+1:=by
 first|rfl|simp[Around.under,Code.cUnits,Code.frames,Code.isFrame]
theorem cK.make{k:Nat}{A:Around}(r:cK (k+1) A)(C:Addr)(us:List Value)(kw:List (Str×Value)):cK k (A.under<|.builtin "type.__call__" ⟨.ref C::us,kw⟩):=
 ⟨r.hd,by have:=r.dp;rw[Lc];omega,by have:=r.un;rw[Ld];omega⟩
theorem cK.depth{k:Nat}{A:Around}(r:cK k A):A.depth<recursionLimit:=by have:=r.dp;omega
theorem cK.units{k:Nat}{A:Around}(r:cK k A):A.units+64<cLine:=by have:=r.un;omega
def fK:TA:=fun _ H Q=>Q [] H
def cA(ta:TE)(tr:TA):TA:=fun σ H Q=>ta σ H fun x H1=>tr σ H1 fun xs H2=>Q (x::xs) H2
section
variable {X:Cx}{e:Expr}{es:List Expr}{te:TE}{t:TA}{pos:Pos}
theorem qp:PA X [] fK:=fun _ _ _ _ H Q I h=>Calls.spliced_nil ⟨[],H,I,.nil,h⟩
theorem my(ha:PE X e te)(hr:PA X es t)(hs:starEach (e::es) X.env=(false,eval e X.env)::starEach es X.env:=by rfl):PA X (e::es) (cA te t):=by
 intro pos pins s σ H Q I h;rw[hs];show wpAny _ _ (spliced ((false,eval e X.env)::backTo pos (starEach es X.env))) _ _ s;refine Calls.spliced_cons<|aF (ha pins s σ H _ I h) fun u s1 ⟨x,H1,I1,r1,q1⟩=>?_;exact aF (hr pos pins s1 σ H1 _ I1 q1) fun us s2 ⟨xs,H2,I2,r2,q2⟩=>⟨x::xs,H2,I2,.cons r1 r2,q2⟩
def BN(t:TA):TE:=fun σ H Q=>t σ H fun xs H1=>xs.length<=sizeLine/\∀p,H1 p=none->Q (.ref p) (upd H1 p<|.tup xs)
def BO(t:TA):TE:=fun σ H Q=>t σ H fun xs H1=>xs.length<=sizeLine/\∀p,H1 p=none->Q (.ref p) (upd H1 p<|.lst xs)
theorem Le{x1}(h:PA X es t):PE X (.Tuple es x1 pos) (BN t):=by
 intro pins s σ H Q I hq;refine wpAny_Tuple_spliced<|aF (h pos pins s σ H _ I hq) fun us s1 ⟨xs,H1,I1,r,z,q⟩=>⟨by rw[<-r.length];exact z,?_⟩
 have hf:H1 s1.heap.objs.size=none:=I1.aA.fresh (zqR _);refine⟨.ref s1.heap.objs.size,upd H1 s1.heap.objs.size<|.tup xs,I1.laid (t':=s1.toks) (fun b u e=>Heap.get?_push_of_some _ e) (zqR _) ?_,rfl,q _ hf⟩;exact⟨z,us,r,⟨_,Heap.get?_push_size _ rfl,rfl,_,rfl⟩⟩
theorem Lf(h:PA X es t):PE X (.List es pos) (BO t):=by
 intro pins s σ H Q I hq;refine wpAny_List_spliced<|aF (h pos pins s σ H _ I hq) fun us s1 ⟨xs,H1,I1,r,z,q⟩=>⟨by rw[<-r.length];exact z,?_⟩
 have hf:H1 s1.heap.objs.size=none:=I1.aA.fresh (zqR _);refine⟨.ref s1.heap.objs.size,upd H1 s1.heap.objs.size<|.lst xs,I1.laid (t':=s1.toks) (fun b u e=>Heap.get?_push_of_some _ e) (zqR _) ?_,rfl,q _ hf⟩;exact⟨z,us,0,r,Heap.get?_push_size _ rfl⟩
end
abbrev Sp:=List V->Hp->VK->XK->Prop
abbrev bE:=List Env->Hp->Shared->XK->Value->Shared->Prop
structure jP (P:Program) (w:World) (K:Frag) (mg:Str->Option Value) (base:Heap) (A:Around) (outer:List Env) (s:Shared) (H:Hp):Prop where
 frames:A.frames=some outer
 mod:Mod K mg base
 bs:∀b o,base.get? b=some o->s.heap.get? b=some o/\H b=none
 kQ:base.objs.size<=s.heap.objs.size
 g4:s.heap.FunFrames base outer
 mf:∀b∈bg outer,H b=none
 aA:bD P w H s.heap
 bare:AllBare s.gens
def CE(outer:List Env)(P:Program)(w:World)(H:Hp)(s:Shared)(Q:VK)(u:Value)(s':Shared):Prop:=
 ∃v H',s'.os=s.os/\AllBare s'.gens/\Un (bg outer) [] H H' s.heap s'.heap/\bD P w H' s'.heap/\RelV v u/\Q v H'
def CR(CX:bE)(outer:List Env)(P:Program)(w:World)(H:Hp)(s:Shared)(Q:VK)(E:XK)(r:Result)(s':Shared):Prop:=
 match r with
 |.ok (.ret u)=>CE outer P w H s Q u s'
 |.ok _=>False
 |.error e=>CX outer H s E e s'
structure bZ (P:Program) (w:World) (K:Frag) (mg:Str->Option Value) (base:Heap) (CX:bE) (k:Nat) (f:Addr) (fd:FuncData) (ps:List Str) (sp:Sp):Prop where
 len:∀vs H Q E,sp vs H Q E->vs.length=ps.length
 run:∀(A:Around) (outer:List Env) (s:Shared) (H:Hp) (args:Args) (us:List Value) (vs:List V) (Q:VK) (E:XK),cK k A->jP P w K mg base A outer s H->BindsTo s fd args (ps.zip us)->Vals vs us->sp vs H Q E->
  codeAny (model P w) A (.call (.ref f) args) (CR CX outer P w H s Q E) s
theorem bZ.mono{P:Program}{w:World}{K:Frag}{mg:Str->Option Value}{base:Heap}{CX:bE}{j k:Nat}{f:Addr}{fd:FuncData}{ps:List Str}{sp:Sp}(F:bZ P w K mg base CX j f fd ps sp)(h:j<=k):
  bZ P w K mg base CX k f fd ps sp:=⟨F.len,fun A outer s H args us vs Q E hr=>F.run A outer s H args us vs Q E<|hr.mono h⟩
theorem jP.make{P:Program}{w:World}{K:Frag}{mg:Str->Option Value}{base:Heap}{A:Around}{outer:List Env}{s:Shared}{H:Hp}(e:jP P w K mg base A outer s H)(C:Addr)(us:List Value)(kw:List (Str×Value)):
  jP P w K mg base (A.under<|.builtin "type.__call__" ⟨.ref C::us,kw⟩) outer s H:=⟨by first|exact e.frames| (simpa[Around.under,Code.envs,Code.isFrame,pushEnvs] using e.frames),e.mod,e.bs,e.kQ,e.g4,e.mf,e.aA,e.bare⟩
section
variable {X:Cx}{pins:List (Addr×Obj)}{σ:St}{H:Hp}{s s':Shared}
theorem Inv.wO(I:Inv X pins σ H s):jP X.prog X.w X.K X.mg X.base X.A X.stack s H:=
 ⟨I.ok.frames,I.ok.mod,I.bs,zaw I.ok.kQ I.sz,I.stack,I.tI,I.aA,I.bare⟩
theorem Inv.after{Q:VK}{u:Value}(I:Inv X pins σ H s)(h:CE X.stack X.prog X.w H s Q u s'):EP X pins σ Q u s':=by
 obtain⟨v,H',os,bare,un,aA,r,q⟩:=h;obtain⟨hh,g,d,t,Lg⟩:=s';obtain rfl:Lg=s.os:=os;exact⟨v,H',I.call (h':=hh) (g':=g) (d':=d) (t':=t) (ch:=[]) un aA bare<|fun b z=>absurd z (by simp),r,q⟩
end
def wQ(sp:Sp)(eY:List V)(E:XK)(t:TA):TE:=fun σ H Q=>t σ H fun vs H1=>sp (vs++eY) H1 Q E
def mz(C:Addr)(m:Str)(sp:Sp)(eY:List V)(E:XK)(ta:TE)(t:TA):TE:=fun σ H Q=>ta σ H fun x H1=>∃a dx fs,x=.ref a/\H1 a=some (.ins C dx fs)/\fs.lookup m=none/\
 t σ H1 fun vs H2=>sp (x::(vs++eY)) H2 Q E
def wR(C:Addr)(sp:Sp)(eY:List V)(E:XK)(t:TA):TE:=fun σ H Q=>t σ H fun vs H1=>∀x dx,H1 x=none->H1 dx=none->dx≠x->
 sp (.ref x::(vs++eY)) (upd (upd H1 dx<|.own x) x<|.ins C dx []) (fun v H2=>v=.aD/\Q (.ref x) H2) E
def Binds(K:Frag)(fd:FuncData)(ps:List Str)(ds:List Value):Prop:=
 ∀(s:Shared) (us:List Value),K.In s.heap->(us++ds).length=ps.length->BindsTo s fd ⟨us,[]⟩ (ps.zip<|us++ds)
theorem Binds.all{K:Frag}{fd:FuncData}{ps:List Str}(h:∀us:List Value,us.length=ps.length->bindArgs fd ⟨us,[]⟩=pure (ps.zip us)):Binds K fd ps []:=fun s us _ hl=>by
 rw[zag] at hl⊢;exact .of_eq<|h us hl
def Passes(CX:bE)(X:Cx)(E:XK):Prop:= ∀(pins:List (Addr×Obj)) (σ:St) (H:Hp) (s:Shared) (e:Value) (s':Shared),Inv X pins σ H s->CX X.stack H s E e s'->X.xe e s'
section
variable {X:Cx}{CX:bE}{k:Nat}{f C:Addr}{fd:FuncData}{ps:List Str}{sp:Sp}{eY:List V}{ds:List Value}{E:XK}{x m:Str}{p pos apos:Pos}{e o:Expr}{es:List Expr}{ta:TE}{t:TA}
theorem wU{pins:List (Addr×Obj)}{σ:St}{H:Hp}{s:Shared}{Q:VK}{us:List Value}{vs:List V}(F:bZ X.prog X.w X.K X.mg X.base CX k f fd ps sp)(hr:cK k X.A)(hb:Binds X.K fd ps ds)(hd:Vals eY ds)(hx:Passes CX X E)
  (I:Inv X pins σ H s) (r:Vals vs us) (h:sp (vs++eY) H Q E):wpAny (model X.prog X.w) X.A (call (.ref f) us) (EP X pins σ Q) X.xe s:=by
 have r2:Vals (vs++eY) (us++ds):=r.append hd;have hl:(us++ds).length=ps.length:=by rw[<-r2.length];exact F.len _ _ _ _ h
 refine wpAny_call<|codeAny_mono (F.run X.A X.stack s H ⟨us,[]⟩ (us++ds) (vs++eY) Q E hr I.wO (hb s us I.cj hl) r2 h) fun r s' hq=>?_;cases r with
 |error e=>exact hx pins σ H s e s' I hq
 |ok fl=>
  cases fl with
  |ret u=>exact I.after hq
  |next=>exact False.elim hq
  |brk=>exact False.elim hq
  |cont=>exact False.elim hq
theorem Lh(F:bZ X.prog X.w X.K X.mg X.base CX k f fd ps sp)(hr:cK k X.A)(hg:Gl X x)(hm:X.mg x=some (.ref f))(hk:PySem.W.keepIn X.K (.ref f)=true)(hb:Binds X.K fd ps ds)(hd:Vals eY ds)(hx:Passes CX X E)
  (ha:PA X (e::es) t) (jQ:(x==("__debug__":Str))=false:=by decide) (he:starEach (e::es) X.env=(false,eval e X.env)::starEach es X.env:=by rfl) (hU:(backTo pos<|starEach es X.env).any (·.1)=false:=by rfl):
  PE X (.Call (.Name x p) (e::es) [] pos) (wQ sp eY E t):=by
 intro pins s σ H Q I h;refine wpAny_Call_Name_kw<|qg I hg hm ?_ jQ;refine callWith_K (h₀:=X.base) I.ok.mod.me hk (aF (ha pos pins s σ H _ I h) fun us s1 ⟨vs,H1,I1,r,q⟩=>⟨I1.cj,?_⟩) he hU;exact wU F hr hb hd hx I1 r q
structure Mk (K:Frag) (C f:Addr):Prop where
 makes:makesIn K C=true
 init:PySem.W.findIn K (.ref C) "__init__"=some (some<|.ref f)
 fn:PySem.W.isFn K (.ref f)=true
 kp:PySem.W.keepIn K (.ref C)=true
theorem Li{pins:List (Addr×Obj)}{σ:St}{H:Hp}{s:Shared}{Q:VK}{us:List Value}{vs:List V}(M:Mk X.K C f)(F:bZ X.prog X.w X.K X.mg X.base CX k f fd ps sp)(hr:cK (k+1) X.A)(hb:Binds X.K fd ps ds)(hd:Vals eY ds)
  (hx:Passes CX X E) (I:Inv X pins σ H s) (r:Vals vs us)
  (h:∀x dx,H x=none->H dx=none->dx≠x->sp (.ref x::(vs++eY)) (upd (upd H dx<|.own x) x<|.ins C dx []) (fun v H2=>v=.aD/\Q (.ref x) H2) E):
  wpAny (model X.prog X.w) X.A (call (.ref C) us) (EP X pins σ Q) X.xe s:=by
 have hq:=h (s.heap.objs.size+1) s.heap.objs.size (I.aA.fresh<|zaM _) (I.aA.fresh<|zqR _) (zab<|zaZ _);have I2:=Inv.made (C:=C) I;have r2:Vals (V.ref (s.heap.objs.size+1)::(vs++eY)) (Value.ref (s.heap.objs.size+1)::(us++ds)):=.cons rfl (r.append hd);have hl:(Value.ref (s.heap.objs.size+1)::us++ds).length=ps.length:=by
  have e:=r2.length;rw[F.len _ _ _ _ hq] at e;exact e.symm
 refine wpAny_call (K4 (f:=f) I.cj M.makes M.init (beq_iff_eq.mp M.fn) (codeAny_mono (F.run _ X.stack _ _ ⟨Value.ref (s.heap.objs.size+1)::us,[]⟩ (Value.ref (s.heap.objs.size+1)::(us++ds)) _ _ E (hr.make C us [])
  (I2.wO.make C us []) (hb _ (Value.ref (s.heap.objs.size+1)::us) I2.cj hl) r2 hq) fun r s' mB=>?_))
 cases r with
 |error e=>exact hx pins σ _ _ e s' I2 mB
 |ok fl=>
  cases fl with
  |ret u=>
   obtain⟨v,H',I3,rv,ev,q3⟩:=I2.after mB;subst ev;exact⟨rv,⟨V.ref<|s.heap.objs.size+1,H',I3,rfl,q3⟩⟩
  |next=>exact False.elim mB
  |brk=>exact False.elim mB
  |cont=>exact False.elim mB
theorem Lj(M:Mk X.K C f)(F:bZ X.prog X.w X.K X.mg X.base CX k f fd ps sp)(hr:cK (k+1) X.A)(hg:Gl X x)(hm:X.mg x=some (.ref C))(hb:Binds X.K fd ps ds)(hd:Vals eY ds)(hx:Passes CX X E)
  (ha:PA X (e::es) t) (jQ:(x==("__debug__":Str))=false:=by decide) (he:starEach (e::es) X.env=(false,eval e X.env)::starEach es X.env:=by rfl) (hU:(backTo pos<|starEach es X.env).any (·.1)=false:=by rfl):
  PE X (.Call (.Name x p) (e::es) [] pos) (wR C sp eY E t):=by
 intro pins s σ H Q I h;refine wpAny_Call_Name_kw<|qg I hg hm ?_ jQ;refine callWith_K (h₀:=X.base) I.ok.mod.me M.kp (aF (ha pos pins s σ H _ I h) fun us s1 ⟨vs,H1,I1,r,q⟩=>⟨I1.cj,?_⟩) he hU;exact Li M F hr hb hd hx I1 r q
end
structure kU (N P:List Str) (sc:Scope):Prop where
 kind:sc.kind=.function
 co:sc.isCoroutine=false
 gen:sc.isGenerator=false
 nd:N.Nodup
 pre:N.take P.length=P
 par:∀x∈P,sc.names.lookup x=some .local\/sc.names.lookup x=some .cell
 Lk:∀y∈sc.names,y.2≠ .free
theorem BP{kindOf:Str->Option NameKind}{x:Str}:∀{binds:List (Str×Value)}{m:Str->Option Value},(∀v,(x,v)∉binds)->bindL kindOf binds m x=m x
 |[],_,_=>rfl
 |(n,v)::r,m,h=>by
  unfold bindL;rw[BP fun w hw=>h w (zao _ hw)]
  split
  ·have:x≠n:=by rintro rfl;exact h v zap
   simp[this]
  ·rfl
theorem BQ{kindOf:Str->Option NameKind}{x:Str}:∀{binds:List (Str×Value)}{m:Str->Option Value},(∀v,(x,v)∉binds)->bindC kindOf binds m x=m x
 |[],_,_=>rfl
 |(n,v)::r,m,h=>by
  unfold bindC;rw[BQ fun w hw=>h w (zao _ hw)]
  split
  ·rfl
  ·have:x≠n:=by rintro rfl;exact h v zap
   simp[this]
theorem BR{kindOf:Str->Option NameKind}{x:Str}{v:Value}:∀{P:List Str}{vs:List Value}{i:Nat}{m:Str->Option Value},P.Nodup->P[i]?=some x->vs[i]?=some v->kindOf x=some .local->
  bindL kindOf (P.zip vs) m x=some v
 |[],_,_,_,_,h,_,_=>by simp at h
 |_::_,[],_,_,_,_,h,_=>by simp at h
 |p::P,w::vs,0,m,nd,h1,h2,hk=>by
  simp at h1 h2;subst h1;subst h2
  show bindL kindOf ((p,w)::P.zip vs) m p=_;unfold bindL;rw[BP fun v hv=>(zbs.mp nd).1 (zbt hv).1,if_pos hk]
  simp
 |p::P,w::vs,i+1,m,nd,h1,h2,hk=>by
  show bindL kindOf ((p,w)::P.zip vs) m x=_;unfold bindL;exact BR (i:=i) (zbs.mp nd).2 (by simpa using h1) (by simpa using h2) hk
theorem BS{kindOf:Str->Option NameKind}{x:Str}{v:Value}:∀{P:List Str}{vs:List Value}{i:Nat}{m:Str->Option Value},P.Nodup->P[i]?=some x->vs[i]?=some v->kindOf x≠some .local->
  bindC kindOf (P.zip vs) m x=some v
 |[],_,_,_,_,h,_,_=>by simp at h
 |_::_,[],_,_,_,_,h,_=>by simp at h
 |p::P,w::vs,0,m,nd,h1,h2,hk=>by
  simp at h1 h2;subst h1;subst h2
  show bindC kindOf ((p,w)::P.zip vs) m p=_;unfold bindC;rw[BQ fun v hv=>(zbs.mp nd).1 (zbt hv).1,if_neg hk]
  simp
 |p::P,w::vs,i+1,m,nd,h1,h2,hk=>by
  show bindC kindOf ((p,w)::P.zip vs) m x=_;unfold bindC;exact BS (i:=i) (zbs.mp nd).2 (by simpa using h1) (by simpa using h2) hk
def start(N:List Str)(vs:List V):St:=vs.map some++List.replicate (N.length - vs.length) none
def jR(CX:bE)(P:Program)(w:World)(K:Frag)(mg:Str->Option Value)(base:Heap)(N:List Str)(qual:Str)(scope:Scope)(f:Addr)(cd:Value)(A:Around)(outer:List Env)(s:Shared)(H:Hp)(E:XK):Cx where
 prog:=P
 w:=w
 K:=K
 mg:=mg
 base:=base
 A:=A.deeper (envOfC qual scope s.heap.objs.size f cd)
 N:=N
 s₀:=s
 H₀:=H
 env:=envOfC qual scope s.heap.objs.size f cd
 outer:=outer
 stack:=envOfC qual scope s.heap.objs.size f cd::outer
 ex:=[]
 calm:=true
 fn:=fun _=>true
 pn:=[]
 xe:=fun e s'=>wpAny (model P w) (A.deeper<|envOfC qual scope s.heap.objs.size f cd) (leaving (envOfC qual scope s.heap.objs.size f cd) e) (fun _ fM=>CX outer H s E e fM) (fun e' fM=>CX outer H s E e' fM) s'
theorem BU{sc:Scope}{n:Nat}{x:Str}(h:sc.names.lookup x=some .cell):∃c,(cellsFrom n sc.names []).lookup x=some c:=by
 have q:=cellsFrom_some sc.names n [] (.inl h);exact zbu.mp q
theorem BV{CX:bE}{P:Program}{w:World}{K:Frag}{mg:Str->Option Value}{base:Heap}{N ps:List Str}{qual:Str}{scope:Scope}{f:Addr}{cd:Value}{A:Around}{outer:List Env}{s s1:Shared}{H:Hp}{E:XK}{us:List Value}{vs:List V}
  (S:kU N ps scope) (hd:A.handled=none) (e0:jP P w K mg base A outer s H) (hl:vs.length=ps.length) (r:Vals vs us)
  (x:InCallC s s.heap.objs.size (bindL (envOfC qual scope s.heap.objs.size f cd).kindOf (ps.zip us) fun _=>none) (cellsFrom (s.heap.objs.size+1) scope.names []) (bindC (envOfC qual scope s.heap.objs.size f cd).kindOf (ps.zip us) fun _=>none) s1):
  Inv (jR CX P w K mg base N qual scope f cd A outer s H E) [] (start N vs) H s1:=by
 have hU:ps.length<=N.length:=by have:=congrArg List.length S.pre;rw[zas] at this;omega
 obtain⟨h1,tk,rfl,hk⟩:=x.done;have qq:∀b:Addr,b∉ (jR CX P w K mg base N qual scope f cd A outer s H E).ex:=fun b z=>absurd (show b∈ ([]:List Addr) from z) (by simp)
 refine⟨⟨e0.mod,S.kind,rfl,rfl,zqR _,fun y z c h1 h2=>?_,fun y hy=>?_,fun y c _ h=>?_,fun _=>hd,Around.frames_deeper e0.frames,.inr ⟨rfl,rfl⟩,fun b z=>absurd z (qq b),e0.bs,e0.kQ,fun b _ _=>qq b,fun b z=>absurd z (qq b),e0.g4,e0.mf⟩,
  rfl,e0.bare,Un.kept hk,⟨_,x.toInCall.ns,fun i y v h1 h2 h3=>?_⟩,fun y c h=>⟨_,x.cell y c h⟩,e0.aA.fresh (zqR _),fun y c h=>?_,fun p hp=>absurd (show p∈ ([]:List (Addr×Obj)) from hp) (by simp),e0.aA.kept hk,?_⟩
 ·exact name_of_addr x.apart (PySem.mem_of_lookup h1) (PySem.mem_of_lookup h2)
 ·have hy:scope.names.lookup y=some .cell\/scope.names.lookup y=some .free:=hy;rcases hy with hy|hy
  ·exact BU hy
  ·exact absurd rfl (S.Lk _<|PySem.mem_of_lookup hy)
 ·exact Nat.le_of_lt (x.above y c<|PySem.mem_of_lookup h)
 ·have hi:i<vs.length:=by
   unfold start at h2;by_cases hi:i<vs.length
   ·exact hi
   ·rw[zbv (by simpa using hi)] at h2
    rw[List.getElem?_replicate] at h2
    split at h2<;>cases h2
  have ha:vs[i]?=some v:=by
   unfold start at h2;rw[List.getElem?_append_left (by simpa using hi),zah] at h2
   cases e:vs[i]? with
   |none=>rw[e] at h2;cases h2
   |some a=>rw[e] at h2;cases h2;rfl
  obtain⟨u,hu,rv⟩:=r.get ha;have hp:ps[i]?=some y:=by
   rw[<-S.pre,List.getElem?_take_of_lt (by omega)];exact h1
  have BW:ps.Nodup:=by rw[<-S.pre];exact S.nd.sublist (List.take_sublist _ _)
  refine⟨u,rv,?_⟩;rcases S.par y (zat hp) with k|k
  ·exact .inl ⟨k,BR BW hp hu k⟩
  ·obtain⟨c,e⟩:=BU (n:=s.heap.objs.size+1) k;refine .inr ⟨.inl k,c,e,?_⟩;have q:=x.cell y c e;rw[BS BW hp hu (by show scope.names.lookup y≠_;rw[k];decide)] at q
   exact q
 ·exact e0.aA.fresh (Nat.le_of_lt<|x.above y c<|PySem.mem_of_lookup h)
 ·unfold start;show _=N.length;rw[zqA,zaa,List.length_replicate];omega
theorem Ll{CX:bE}{P:Program}{w:World}{K:Frag}{mg:Str->Option Value}{base:Heap}{k:Nat}{f:Addr}{name qual:Str}{params:Arguments}{body:List Stmt}{scope:Scope}{dV kV doc pm aT ct oc:Value}{an od:Option Addr}
  {fj:Array (Option Value)}{N ps:List Str}{sp:Sp} (lk:K.lookup f=some ⟨oc,od,.func<|PySem.W.fnOf name qual params body scope dV kV doc pm an aT ct,fj⟩) (gf:PySem.W.codeIn K aT qual=true) (S:kU N ps scope)
  (len:∀vs H Q E,sp vs H Q E->vs.length=ps.length)
  (wV:∀(A:Around) (outer:List Env) (s:Shared) (H:Hp) (vs:List V) (Q:VK) (E:XK),cK k (A.deeper (envOfC qual scope s.heap.objs.size f aT))->sp vs H Q E->
   ∃t,cJ (jR CX P w K mg base N qual scope f aT A outer s H E) body t/\t {nx:=fun _ H'=>Q .aD H',rt:=Q} (start N vs) H):
  bZ P w K mg base CX (k+1) f (PySem.W.fnOf name qual params body scope dV kV doc pm an aT ct) ps sp:=by
 refine⟨len,fun A outer s H args us vs Q E hr e0 hb r gF=>?_⟩;have hl:=len _ _ _ _ gF;have KX:K.In s.heap:=e0.mod.me.keeps fun b o e=>(e0.bs b o e).1;have lim:s.heap.NoLimit:=e0.mod.nolimit.keeps fun b o e=>(e0.bs b o e).1;have wW:∀y∈ps.zip us,scope.names.lookup y.1=some .local\/(scope.names.lookup y.1=some .cell/\((cellsFrom (s.heap.objs.size+1) scope.names []).lookup y.1).isSome=true):=fun⟨n,v⟩ hy=>by
  rcases S.par n (zbt hy).1 with q|q
  ·exact .inl q
  ·exact .inr ⟨q,cellsFrom_some _ _ _<|.inl q⟩
 refine codeAny_call_function hr.depth (KX _ _ lk) rfl S.co S.gen rfl (codeRec_of KX gf)<|hb _ _ _ _ ?_;refine wpAny_newFunctionEnv_cells S.kind wW fun env he s1 x=>?_;subst he;refine⟨lim.keeps x.toInCall.keep,codeAny_func ?_⟩;obtain⟨t,ht,hq⟩:=wV A outer s H vs Q E (hr.deeper _) gF;have I:Inv (jR CX P w K mg base N qual scope f aT A outer s H E) [] (start N vs) H s1:=BV S hr.hd e0 hl r x;refine wpAny_mono (ht [] s1 (start N vs) H _ I hq) (fun fl s' hs=>?_) fun e s' hs=>hs;have fin:∀{σ':St}{H':Hp}{v:V}{u:Value},Inv (jR CX P w K mg base N qual scope f aT A outer s H E) [] σ' H' s'->RelV v u->Q v H'->CE outer P w H s Q u s':=
  fun {σ' H' v u} J rv q=>⟨v,H',J.os,J.bare,J.base,J.aA,rv,q⟩
 cases fl with
 |ret u=>
  obtain⟨v,σ',H',J,rv,q⟩:=hs;exact fin J rv q
 |next=>
  obtain⟨σ',H',J,q⟩:=hs;exact fin (v:=V.aD) (u:=Value.none) J rfl q
 |brk=>
  obtain⟨_,_,_,q⟩:=hs;exact False.elim q
 |cont=>
  obtain⟨_,_,_,q⟩:=hs;exact False.elim q
section
variable {X:Cx}{x:Str}{p pos:Pos}{e:Expr}{es:List Expr}{t:TA}{id T:String}{r:List V->Hp->VK->Prop}
def dg(r:List V->Hp->VK->Prop)(t:TA):TE:=fun σ H Q=>t σ H fun vs H1=>r vs H1 Q
theorem kW(hc:bQ X (.builtin id) r)(hg:Gl X x)(hm:X.mg x=none)(hv:bootBuiltins x=some (.builtin id))(ha:PA X (e::es) t)(hn:x≠"__name__":=by decide)(jQ:(x==("__debug__":Str))=false:=by decide)
  (he:starEach (e::es) X.env=(false,eval e X.env)::starEach es X.env:=by rfl) (hU:(backTo pos<|starEach es X.env).any (·.1)=false:=by rfl):PE X (.Call (.Name x p) (e::es) [] pos) (dg r t):=by
 intro pins s σ H Q I h;refine wpAny_Call_Name_kw<|tK I hg hm hv ?_ hn jQ;exact PyProof.Rows.callWith_builtin1 (aF (ha pos pins s σ H _ I h) fun us s1 ⟨vs,H1,I1,r1,q1⟩=>hc pins s1 σ H1 vs us Q I1 r1 q1) he hU
theorem BX(hc:bQ X (.type T) r)(hg:Gl X x)(hm:X.mg x=none)(hv:bootBuiltins x=some (.type T))(ha:PA X (e::es) t)(hn:x≠"__name__":=by decide)(jQ:(x==("__debug__":Str))=false:=by decide)
  (he:starEach (e::es) X.env=(false,eval e X.env)::starEach es X.env:=by rfl) (hU:(backTo pos<|starEach es X.env).any (·.1)=false:=by rfl):PE X (.Call (.Name x p) (e::es) [] pos) (dg r t):=by
 intro pins s σ H Q I h;refine wpAny_Call_Name_kw<|tK I hg hm hv ?_ hn jQ;exact PyProof.Rows.callWith_type1 (aF (ha pos pins s σ H _ I h) fun us s1 ⟨vs,H1,I1,r1,q1⟩=>hc pins s1 σ H1 vs us Q I1 r1 q1) he hU
end
end L2
namespace HT
open PySem PyProof.Rows
section
variable {prog:Program}{w:World}{A:Around}{E:Value->Shared->Prop}{s:Shared}
theorem Lm{t b:Addr}{vs ws:List Value}{Q:Value->Shared->Prop}(ht:IsTup s.heap t vs.toArray)(hb:IsTup s.heap b ws.toArray)(hv:vs≠ [])
  (h1:ws=[]->Q (.ref t) s) (h2:ws≠ []->Q (.ref s.heap.objs.size) {s with heap:=s.heap.push {cls:=.type "tuple",data:=.seq (vs++ws).toArray}})
  (hsz:vs.length+ws.length<=sizeLine):wpAny (model prog w) A (binaryOp .Add (.ref t)<|.ref b) Q E s:=by
 obtain⟨⟨cls,dd,data,sl⟩,ho,hc,n,hd⟩:=id ht;obtain⟨⟨Zx,BY,data2,qr⟩,dh,BZ,n2,hd2⟩:=id hb
 simp only at hc hd BZ hd2
 subst hc hd BZ hd2;have e:vs.toArray++ws.toArray=(vs++ws).toArray:=by simp
 by_cases hw:ws=[]
 ·exact concat_meets ⟨_,ho,rfl⟩ ⟨_,dh,rfl⟩ noFill_tuple_add seq_tuple_add PySem.F.slot_tuple_add PySem.F.entry_tuple_add (PySem.F.args_tuple_add_2 _ _)
   (tuple_addW1 t b vs.toArray ws.toArray n n2 dd BY sl qr (by simpa using hv) (by simp[hw])) ⟨ho,dh,h1 hw⟩
 ·refine concat_meets ⟨_,ho,rfl⟩ ⟨_,dh,rfl⟩ noFill_tuple_add seq_tuple_add PySem.F.slot_tuple_add PySem.F.entry_tuple_add (PySem.F.args_tuple_add_2 _ _)
   (tuple_addW2 t b vs.toArray ws.toArray n n2 dd BY sl qr (by simpa using hv) (by simpa using hw) (by rw[zaf,zaf];exact hsz)) ⟨ho,dh,?_⟩
  rw[e];exact h2 hw
def aR(n d:Nat):Option Int->Nat
 |none=>d
 |some v=>if v<0 then (v+(n:Int)).toNat else min v.toNat n
theorem tZ(n d k:Nat):aR n d (some (k:Int))=min k n:=by
 show(if (k:Int) <0 then ((k:Int)+(n:Int)).toNat else min (k:Int).toNat n)=min k n
 rw[if_neg (by omega),Int.toNat_natCast]
theorem wX(n d:Nat)(hd:d<=n)(o:Option Int):aR n d o<=n:=by
 cases o with
 |none=>exact hd
 |some v=>
  show(if v<0 then (v+(n:Int)).toNat else min v.toNat n)<=n
  by_cases hv:v<0
  ·rw[if_pos hv];omega
  ·rw[if_neg hv];exact Nat.min_le_right _ _
theorem B0(v:Int)(n d:Nat):(if v<0 then max (v+(n:Int)) 0 else min v (n:Int))=((aR n d (some v):Nat):Int):=by
 show(if v<0 then max (v+(n:Int)) 0 else min v (n:Int))=(((if v<0 then (v+(n:Int)).toNat else min v.toNat n):Nat):Int)
 by_cases hv:v<0
 ·simp only[if_pos hv];omega
 ·simp only[if_neg hv];omega
theorem Ln(lo hi:Option Int)(n:Nat):Builtin.Slice.sliceAdjust lo hi 1 (n:Int)=(((aR n 0 lo:Nat):Int),((aR n n hi:Nat):Int)):=by
 have h1:¬((1:Int) <0):=by omega
 unfold Builtin.Slice.sliceAdjust
 simp only[h1,if_false]
 refine Prod.ext ?_ ?_
 ·cases lo with
  |none=>rfl
  |some v=>exact B0 v n 0
 ·cases hi with
  |none=>rfl
  |some v=>exact B0 v n n
theorem Lo(i j:Nat):Builtin.Slice.slicePlaces (i:Int) (j:Int) 1=j - i:=by
 unfold Builtin.Slice.slicePlaces;have h1:(1:Int) >0:=by omega
 simp only[h1,if_true,Int.ediv_one]
 split<;>omega
theorem B1{v:Value}{o:Option Int}{Q:Option Int->Shared->Prop}(p:IsPart v o)(h:Q o s):wpAny (model prog w) A (Builtin.Slice.slicePartIndex v) Q E s:=by
 cases p with
 |none=>exact slicePart_none h
 |int i t=>exact slicePart_int h
theorem Lp{sl:Addr}{vl vu:Value}{lo hi:Option Int}{n:Nat}{Q:Int×Int×Nat->Shared->Prop}(hs:s.heap.IsSliceOf sl vl vu .none)(pl:IsPart vl lo)(pu:IsPart vu hi)
  (h:Q (((aR n 0 lo:Nat):Int),1,aR n n hi - aR n 0 lo) s):wpAny (model prog w) A (Builtin.Slice.sliceApplied (.ref sl)<|pure (n:Int)) Q E s:=by
 obtain⟨os,qt,B2,t4⟩:=id hs;unfold Builtin.Slice.sliceApplied Builtin.Slice.sliceFields;refine wpAny_bind<|wpAny_bind<|wpAny_field qt t4 (x:=vl) rfl<|wpAny_bind<|wpAny_field qt t4 (x:=vu) rfl<|wpAny_bind<|wpAny_field qt t4 (x:=.none) rfl<|wpAny_pure ?_;refine wpAny_bind<|slicePart_none ?_;show wpAny _ _ (if ((1:Int)==0)=true then _ else _) _ _ s
 rw[if_neg (by decide)]
 refine wpAny_bind<|B1 pl<|wpAny_bind<|B1 pu<|wpAny_bind<|wpAny_pure ?_;show wpAny _ _ (match Builtin.Slice.sliceAdjust lo hi 1 (n:Int) with|(lo,hi)=>pure (lo,(1:Int),Builtin.Slice.slicePlaces lo hi 1)) _ _ s
 rw[Ln lo hi n];show wpAny _ _ (pure (((aR n 0 lo:Nat):Int),(1:Int),Builtin.Slice.slicePlaces ((aR n 0 lo:Nat):Int) ((aR n n hi:Nat):Int) 1)) _ _ s;rw[Lo];exact wpAny_pure h
theorem Lq(xs:Array Value)(i k:Nat):((List.range k).filterMap fun(m:Nat)=>xs[((i:Int)+(m:Int)*1).toNat]?).toArray=((xs.toList.drop i).take k).toArray:=by
 have e:(fun(m:Nat)=>xs[((i:Int)+(m:Int)*1).toNat]?)=fun m=>xs[i+m]?:=by
  funext m
  have:((i:Int)+(m:Int)*1).toNat=i+m:=by omega
  rw[this]
 rw[e];have:=pick_run xs i k;rw[List.filterMap_map] at this;have e2:((fun x=>xs[x]?)∘fun x=>i+x)=fun m=>xs[i+m]?:=rfl;rw[e2] at this;rw[this]
theorem Lr{t sl:Addr}{items:Array Value}{vl vu:Value}{lo hi:Option Int}{Q:Value->Shared->Prop}(ht:IsTup s.heap t items)(hs:s.heap.IsSliceOf sl vl vu .none)(pl:IsPart vl lo)(pu:IsPart vu hi)
  (hw:¬(aR items.size 0 lo=0/\aR items.size items.size hi=items.size))
  (h:Q (.ref s.heap.objs.size) {s with heap:=s.heap.push {cls:=.type "tuple",data:=.seq ((items.toList.drop<|aR items.size 0 lo).take<|aR items.size items.size hi - aR items.size 0 lo).toArray}})
  (hsz:items.size<=sizeLine):wpAny (model prog w) A (getItem (.ref t)<|.ref sl) Q E s:=by
 have t6:sizeOk (.seq ((items.toList.drop<|aR items.size 0 lo).take<|aR items.size items.size hi - aR items.size 0 lo).toArray):=by
  show((items.toList.drop<|aR items.size 0 lo).take<|aR items.size items.size hi - aR items.size 0 lo).toArray.size<=sizeLine;rw[zaf,zas,zaS,zbh];omega
 have hj:aR items.size items.size hi<=items.size:=wX _ _ (zqR _) hi;obtain⟨os,qt,B2,t4⟩:=id hs;have Ls:s.TypeIs (.ref sl) "slice":=⟨os,qt,B2⟩;unfold getItem
 try with_reducible refine wpAny_holding ?_
 first|refine wpAny_bind (wpAny_pure ?_)|skip
 refine wpAny_bind<|wpAny_sequenceKey ht.typeIs (by decide) ?_
 refine wpAny_bind (wpAny_callSpecial?_slot (name:=Str.ofString "__getitem__") ht.typeIs PyProof.Rows.slot_tuple_getitem
  (wpAny_call_entry PyProof.Rows.slot_tuple_getitem ht.typeIs entry_tuple_getitem ?_ (args_tuple_getitem _ _)))
 show wpAny _ _ (Builtin.Tuple.tupleItemsOf (.ref t) >>=_) _ _ s;refine wpAny_bind<|tupleItemsOf_ ht ?_;refine wpAny_bind<|wpAny_typeOf Ls ?_;rw[if_pos (by decide)]
 refine wpAny_bind<|Lp hs pl pu ?_;have Lu:¬((((aR items.size 0 lo:Nat):Int)==0 && (1:Int)==1 && (aR items.size items.size hi - aR items.size 0 lo)==items.size)=true):=by
  intro q;rw[zac,zac] at q;have q1:((aR items.size 0 lo:Nat):Int)=0:=eq_of_beq q.1.1;have q2:aR items.size items.size hi - aR items.size 0 lo=items.size:=eq_of_beq q.2;exact hw ⟨by omega,by omega⟩
 show wpAny _ _ (if (((aR items.size 0 lo:Nat):Int)==0 && (1:Int)==1 && (aR items.size items.size hi - aR items.size 0 lo)==items.size)=true then _ else _) _ _ s
 rw[if_neg Lu,Lq]
 first
  |exact wpAny_bind (m:=Builtin.Tuple.tupleExact _) (wpAny_newObj_type (wpAny_pure ⟨_,rfl,wpAny_pure h⟩) t6)
  |exact wpAny_bind (m:=Builtin.Tuple.tupleExact _) (wpAny_newObj_type (wpAny_bind<|wpAny_pure<|wpAny_pure ⟨_,rfl,wpAny_pure h⟩) t6)
  |exact wpAny_bind (wpAny_bind (m:=Builtin.Tuple.tupleExact _)<|wpAny_newObj_type (wpAny_pure<|wpAny_pure ⟨_,rfl,wpAny_pure h⟩) t6)
  |exact wpAny_bind (wpAny_bind (m:=Builtin.Tuple.tupleExact _)<|wpAny_newObj_type (wpAny_pure ⟨_,rfl,wpAny_pure h⟩) t6)
end
end HT
namespace L2
open PySem PySem.Spec PyProof.Rows
abbrev TO:=St->Hp->(Option Int->Hp->Prop)->Prop
def PO(X:Cx)(e:Option Expr)(t:TO):Prop:=
 ∀(pins:List (Addr×Obj)) (s:Shared) (σ:St) (H:Hp) (Q:Option Int->Hp->Prop),Inv X pins σ H s->t σ H Q->
  wpAny (model X.prog X.w) X.A (evalPart e X.env) (fun u s'=>∃o H',Inv X pins σ H' s'/\IsPart u o/\Q o H') X.xe s
def B3:TO:=fun _ H Q=>Q none H
def t9(t:TE):TO:=fun σ H Q=>t σ H fun x H1=>∃i,x=.int i/\Q (some i) H1
theorem intsAre_of{ns:List Int}:∀{us:List Value},Vals (ns.map V.int) us->IntsAre us ns:=by
 induction ns with
 |nil=>intro us r;rw[zaH] at r;cases r;exact .nil
 |cons n ns ih=>
  intro us r;rw[zak] at r;cases r with
  |cons r1 r2=>
   obtain⟨t,e⟩:=r1;subst e;exact .cons n t<|ih r2
section
variable {X:Cx}{e:Expr}{te:TE}{lo hi:Option Expr}{tl th:TO}{pos p2:Pos}
theorem Lv:PO X none B3:=by
 intro pins s σ H Q I h;rw[evalPart_none];exact wpAny_pure ⟨none,H,I,.none,h⟩
theorem Lw(h:PE X e te):PO X (some e) (t9 te):=by
 intro pins s σ H Q I hw;rw[evalPart_some];refine aF (h pins s σ H _ I hw) fun u s1 ⟨x,H1,I1,r1,q1⟩=>?_;obtain⟨i,rfl,q⟩:=q1;obtain⟨t,rfl⟩:=r1;exact⟨some i,H1,I1,.int i t,q⟩
def t_(X:Cx)(r:V->Option Int->Option Int->Hp->VK->Prop):Prop:=
 ∀(pins:List (Addr×Obj)) (s:Shared) (σ:St) (H:Hp) (x:V) (v vl vu:Value) (lo hi:Option Int) (sl:Addr) (Q:VK),Inv X pins σ H s->RelV x v->s.heap.IsSliceOf sl vl vu .none->IsPart vl lo->IsPart vu hi->r x lo hi H Q->
  ∃T id,typeLookup (.type T) "__getitem__"=pure (some<|.builtin id)/\s.TypeIs v T/\wpAny (model X.prog X.w) X.A (getItem v<|.ref sl) (EP X pins σ Q) X.xe s
def wY(r:V->Option Int->Option Int->Hp->VK->Prop)(te:TE)(tl th:TO):TE:=fun σ H Q=>te σ H fun x H1=>tl σ H1 fun l H2=>th σ H2 fun u H3=>r x l u H3 Q
theorem Lx{r:V->Option Int->Option Int->Hp->VK->Prop}(hr:t_ X r)(he:PE X e te)(hl:PO X lo tl)(hu:PO X hi th):PE X (.Subscript e (.Slice lo hi none p2) pos) (wY r te tl th):=by
 intro pins s σ H Q I h;refine Subscript_<|aF (he pins s σ H _ I h) fun v s1 ⟨x,H1,I1,r1,q1⟩=>?_;refine wpAny_Slice<|aF (hl pins s1 σ H1 _ I1 q1) fun vl s2 ⟨l,H2,I2,pl,q2⟩=>aF (hu pins s2 σ H2 _ I2 q2) fun vu s3 ⟨u,H3,I3,pu,q3⟩=>?_;rw[evalPart_none];refine wpAny_pure ?_;have I4:Inv X pins σ H3 {s3 with heap:=s3.heap.push {cls:=.type "slice",data:=.fields #[vl,vu,.none]}}:=I3.kept (t':=s3.toks) fun b ob q=>Heap.get?_push_of_some _ q
 obtain⟨T,id,hT,ht,hg⟩:=hr pins {s3 with heap:=s3.heap.push {cls:=.type "slice",data:=.fields #[vl,vu,.none]}} σ H3 x v vl vu l u s3.heap.objs.size Q I4 r1 (Heap.IsSliceOf.new ..) pl pu q3
 show wpAny (model X.prog X.w) X.A (subscriptTail e (.Slice lo hi none p2) v<|.ref s3.heap.objs.size) (EP X pins σ Q) X.xe {s3 with heap:=s3.heap.push {cls:=.type "slice",data:=.fields #[vl,vu,.none]}}
 exact tail_any (ops:=[.ref s3.heap.objs.size,v]) ht hT hg (by with_unfolding_all rfl)
def bL(xs:List V)(lo hi:Option Int):List V:=(xs.drop<|HT.aR xs.length 0 lo).take (HT.aR xs.length xs.length hi - HT.aR xs.length 0 lo)
theorem B4(xs:List V)(lo hi:Option Int):(bL xs lo hi).length<=xs.length:=by
 unfold bL;rw[zas,zaS];omega
def Ly(K:Frag):V->Option Int->Option Int->Hp->VK->Prop:=fun x lo hi H Q=>∃a xs,x=.ref a/\aO K H a xs/\
 ¬(HT.aR xs.length 0 lo=0/\HT.aR xs.length xs.length hi=xs.length)/\∀p,H p=none->Q (.ref p) (upd H p<|.tup<|bL xs lo hi)
theorem Lz:t_ X (Ly X.K):=by
 intro pins s σ H x v vl vu lo hi sl Q I rx hs pl pu h;obtain⟨a,xs,rfl,hx,hw,q⟩:=h;cases rx;obtain⟨aj,r,ht,hz⟩:=I.tuple hx;have hlen:aj.toArray.size=xs.length:=by rw[zaf];exact r.length.symm
 refine⟨"tuple",_,PyProof.Rows.slot_tuple_getitem.lookup,ht.typeIs,?_⟩;refine HT.Lr ht hs pl pu (by rw[hlen];exact hw) ?_ (by rw[hlen];exact hz)
 rw[hlen];refine⟨.ref s.heap.objs.size,_,I.laid (t':=s.toks) (o:=.tup (bL xs lo hi)) (fun b ob q=>Heap.get?_push_of_some _ q) (zqR _) ?_,rfl,q _<|I.aA.fresh<|zqR _⟩;exact⟨zaw (B4 xs lo hi) hz,_,(r.drop<|HT.aR xs.length 0 lo).take<|HT.aR xs.length xs.length hi - HT.aR xs.length 0 lo,IsTup.new _ _⟩
def B5(K:Frag):R2:=fun x y H Q=>∃a b xs ys,x=.ref a/\y=.ref b/\aO K H a xs/\aO K H b ys/\xs≠ []/\xs.length+ys.length<=sizeLine/\
 (ys=[]->Q (.ref a) H)/\(ys≠ []->∀p,H p=none->Q (.ref p) (upd H p<|.tup<|xs++ys))
theorem Vals.wZ{xs:List V}{us:List Value}(r:Vals xs us):us=[]↔xs=[]:=by
 cases r with
 |nil=>simp
 |cons _ _=>simp
theorem LA:aX X (binaryOp .Add) (B5 X.K):=by
 intro pins s σ H x y v u Q I rx ry h;obtain⟨a,b,xs,ys,rfl,rfl,ha,hb,hx,hz,q1,q2⟩:=h;cases rx;cases ry;obtain⟨aj,r1,p1,_⟩:=I.tuple ha;obtain⟨kY,r2,p2,_⟩:=I.tuple hb;refine HT.Lm p1 p2 (fun z=>hx<|r1.wZ.mp z) (fun z=>⟨.ref a,H,I,rfl,q1<|r2.wZ.mp z⟩) (fun z=>?_) (by rw[<-r1.length,<-r2.length];exact hz)
 refine⟨.ref s.heap.objs.size,_,I.laid (t':=s.toks) (o:=.tup (xs++ys)) (fun b ob q=>Heap.get?_push_of_some _ q) (zqR _) ?_,rfl,q2 (fun w=>z<|r2.wZ.mpr w) _<|I.aA.fresh<|zqR _⟩;exact⟨by rw[zqA];exact hz,_,r1.append r2,IsTup.new _ _⟩
end
def jc(n:Nat)(i:Int):Option Nat:=if 0<=i then (if i<n then some i.toNat else none) else if -(n:Int)<=i then some (i+n).toNat else none
def eZ{α:Type}(xs:List α)(i:Int):Option α:=(jc xs.length i).bind fun j=>xs[j]?
theorem B6{n:Nat}{i:Int}{j:Nat}(h:jc n i=some j):seqIndex? i n=some j/\j<n/\ -(n:Int)<=i/\i<n:=by
 unfold jc at h;by_cases h0:0<=i
 ·rw[if_pos h0] at h;by_cases h1:i<n
  ·rw[if_pos h1] at h;have e:i.toNat=j:=zan h;exact⟨by rw[seqIndex_of h0 h1,e],by omega,by omega,h1⟩
  ·rw[if_neg h1] at h;cases h
 ·rw[if_neg h0] at h;by_cases h1: -(n:Int)<=i
  ·rw[if_pos h1] at h;have e:(i+n).toNat=j:=zan h;exact⟨by rw[seqIndex_neg (by omega) h1,e],by omega,h1,by omega⟩
  ·rw[if_neg h1] at h;cases h
theorem w4{α:Type}{xs:List α}{i:Int}{v:α}(h:eZ xs i=some v):∃j,seqIndex? i xs.length=some j/\xs[j]?=some v/\j<xs.length/\ -(xs.length:Int)<=i/\i<xs.length:=by
 unfold eZ at h;cases e:jc xs.length i with
 |none=>rw[e] at h;cases h
 |some j=>
  rw[e] at h;obtain⟨h1,h2,h3,h4⟩:=B6 e;exact⟨j,h1,h,h2,h3,h4⟩
theorem iE{α:Type}{xs:List α}{j:Nat}{v:α}(h:xs[j]?=some v):eZ xs (j:Int)=some v:=by
 have hj:j<xs.length:=(zal.mp h).1;have e:jc xs.length (j:Int)=some j:=by
  unfold jc;rw[if_pos (by omega),if_pos (by omega)];simp
 unfold eZ;rw[e];exact h
theorem LB{α:Type}(xs:List α)(v:α):eZ (xs++[v]) (-1)=some v:=by
 have hl:(xs++[v]).length=xs.length+1:=by simp
 have e:jc (xs++[v]).length (-1)=some xs.length:=by
  unfold jc;rw[hl,if_neg (by decide),if_pos (by omega)]
  congr 1
  omega
 unfold eZ;rw[e];show(xs++[v])[xs.length]?=some v
 simp
def B7(b:Expr):Prop:= ∀o i,subscripted b false o i=operate [o,i] (getItem o i)
def jd(X:Cx)(r:R2):Prop:=
 ∀(value slice:Expr) (pins:List (Addr×Obj)) (s:Shared) (σ:St) (H:Hp) (x y:V) (v u:Value) (Q:VK),Inv X pins σ H s->RelV x v->RelV y u->r x y H Q->
  subscripted slice false v u=operate [v,u] (getItem v u)->wpAny (model X.prog X.w) X.A (subscriptTail value slice v u) (EP X pins σ Q) X.xe s
def qu(X:Cx)(id:String)(r:V->List V->Hp->VK->Prop):Prop:=
 ∀(pins:List (Addr×Obj)) (s:Shared) (σ:St) (H:Hp) (x:V) (xs:List V) (v:Value) (us:List Value) (Q:VK),Inv X pins σ H s->RelV x v->Vals xs us->r x xs H Q->
  wpAny (model X.prog X.w) X.A (call (.builtin id) (v::us)) (EP X pins σ Q) X.xe s
section
variable {X:Cx}{a b:Expr}{ta tb:TE}{pos:Pos}
theorem jd.or{r r':R2}(h:jd X r)(h':jd X r'):jd X (fun x y H Q=>r x y H Q\/r' x y H Q):=by
 intro value slice pins s σ H x y v u Q I rx ry q hs;rcases q with q|q
 ·exact h value slice pins s σ H x y v u Q I rx ry q hs
 ·exact h' value slice pins s σ H x y v u Q I rx ry q hs
theorem LC{r:R2}(hr:jd X r)(ha:PE X a ta)(hb:PE X b tb)(hs:B7 b):PE X (.Subscript a b pos) (d5 r ta tb):=by
 intro pins s σ H Q I h;exact Subscript_<|wI ha hb I h fun v u s2 x y H2 I2 rx ry q=>hr a b pins s2 σ H2 x y v u Q I2 rx ry q (hs _ _)
def B8(K:Frag):R2:=fun x y H Q=>∃p xs i v,x=.ref p/\y=.int i/\aw K H p xs/\eZ xs i=some v/\Q v H
def B9(K:Frag):R2:=fun x y H Q=>∃p xs i v,x=.ref p/\y=.int i/\aO K H p xs/\eZ xs i=some v/\Q v H
def B_:R2:=fun x y H Q=>∃z i c,x=.str z/\y=.int i/\z.length<=sizeLine/\eZ z.cps.toList i=some c/\Q (.str ⟨#[c]⟩) H
theorem LD:jd X (B8 X.K):=by
 intro value slice pins s σ H x y v u Q I rx ry h hs;obtain⟨p,xs,i,z,rfl,rfl,hq,he,q⟩:=h;cases rx;obtain⟨t,rfl⟩:=ry;obtain⟨aj,r,pl,hz⟩:=I.list hq;obtain⟨j,h1,h2,h3,h4,h5⟩:=w4 he;obtain⟨w,ew,e7⟩:=r.get h2;have hl:=r.length;have hn:=mr;have fin:EP X pins σ Q w s:=⟨z,H,I,e7,q⟩;by_cases h0:0<=i
 ·have hj:i.toNat=j:=by
   rw[seqIndex_of h0 h5] at h1;exact zan h1
  exact item_listR pl.isList h0 (by omega) (by rw[hj];simpa using ew) fin hs
 ·have hj:(i+(aj.toArray.size:Int)).toNat=j:=by
   rw[seqIndex_neg (by omega) h4] at h1
   rw[zaf,<-hl];exact zan h1
  exact subscriptTail_builtinR (x:=w) pl.isList.typeIs slot_list_getitem.lookup
   (wpAny_getItem_list_neg (Q:=fun r s'=>r=w/\EP X pins σ Q r s') pl.isList (by omega) (by rw[zaf] <;>omega) (by omega) (by rw[hj];simpa using ew) ⟨rfl,fin⟩) hs
theorem LF:jd X (B9 X.K):=by
 intro value slice pins s σ H x y v u Q I rx ry h hs;obtain⟨p,xs,i,z,rfl,rfl,hq,he,q⟩:=h;cases rx;obtain⟨t,rfl⟩:=ry;obtain⟨aj,r,pl,hz⟩:=I.tuple hq;obtain⟨j,h1,h2,h3,h4,h5⟩:=w4 he;obtain⟨w,ew,e7⟩:=r.get h2;have hl:=r.length;have hn:=mr;have fin:EP X pins σ Q w s:=⟨z,H,I,e7,q⟩;exact subscriptTail_builtinR (x:=w) pl.typeIs slot_tuple_getitem.lookup
  (getItem_tuple (j:=j) (Q:=fun r s'=>r=w/\EP X pins σ Q r s') pl (by omega) (by omega) (by rw[zaf,<-hl];exact h1) (by simpa using ew) ⟨rfl,fin⟩) hs
theorem LG:jd X B_:=by
 intro value slice pins s σ H x y v u Q I rx ry h hs;obtain⟨z,i,c,rfl,rfl,hz,he,q⟩:=h;obtain⟨t,rfl⟩:=rx;obtain⟨t',rfl⟩:=ry;obtain⟨j,h1,h2,h3,h4,h5⟩:=w4 he;have hl:z.cps.toList.length=z.length:=by simp[Str.length]
 rw[hl] at h1 h4 h5;have hn:=mr;exact tail_any (typeIs_str s z t) slot_str_getitem.lookup (getItem_str (c:=c) (by
  have e1:decide (i< -(2 ^ 63:Int))=false:=zqF (by omega)
  have e2:decide (i≥2 ^ 63)=false:=zqF (by omega)
  rw[e1,e2,zbw]) (by rw[h1];simpa using h2) ⟨.str ⟨#[c]⟩,H,I.tok _,⟨_,rfl⟩,q⟩) hs
theorem LH(aj:List Value)(n j:Nat)(u:Value):Obj.mapSeq (·.setIfInBounds j u) {cls:=.type "list",data:=.seq aj.toArray n}={cls:=.type "list",data:=.seq (aj.set j u).toArray n}:=by
 simp[Obj.mapSeq]
theorem Inv.lst{pins:List (Addr×Obj)}{σ:St}{H:Hp}{s:Shared}{p:Addr}{xs:List V}(I:Inv X pins σ H s)(h:H p=some (.lst xs)):
  ∃(aj:List Value) (n:Nat),Vals xs aj/\s.heap.get? p=some {cls:=.type "list",data:=.seq aj.toArray n}/\xs.length<=sizeLine:=by
 obtain⟨z,aj,n,r,e⟩:=I.aA p _ h;exact⟨aj,n,r,e,z⟩
theorem Inv.LI{pins:List (Addr×Obj)}{σ:St}{H:Hp}{s:Shared}{p:Addr}{xs ys:List V}{aj gg:List Value}{n n':Nat}{f:Obj->Obj}(I:Inv X pins σ H s)(h:H p=some (.lst xs))
  (ho:s.heap.get? p=some {cls:=.type "list",data:=.seq aj.toArray n}) (hf:f {cls:=.type "list",data:=.seq aj.toArray n}={cls:=.type "list",data:=.seq gg.toArray n'}) (r:Vals ys gg) (hz:ys.length<=sizeLine) (t:Nat):
  Inv X pins σ (upd H p<|.lst ys) {s with heap:=s.heap.update p f,toks:=t}:=by
 have e:(s.heap.update p f).get? p=some {cls:=.type "list",data:=.seq gg.toArray n'}:=by
  rw[Heap.get?_update_self f ho (by rw[hf] <;>rfl),hf]
 refine I.write (x:=p) (e:=p) (by rw[h];trivial) (.inl rfl) (fun b u hb q=>(Heap.get?_update_other _ _<|Ne.symm hb).trans q) ⟨_,e⟩ ?_
 exact⟨hz,gg,n',r,e⟩
def w5:V->V->V->Hp->(Hp->Prop)->Prop:=fun o i v H Q=>∃p xs k j,o=.ref p/\i=.int k/\H p=some (.lst xs)/\jc xs.length k=some j/\Q (upd H p<|.lst<|xs.set j v)
theorem set_list:Br X w5:=by
 intro pins s σ H o i v ov iv u Q I ro ri rv h;obtain⟨p,xs,k,j,rfl,rfl,hp,hj,q⟩:=h;cases ro;obtain⟨t,rfl⟩:=ri;obtain⟨aj,n,r,ho,hz⟩:=I.lst hp;obtain⟨h1,h2,h3,h4⟩:=B6 hj;have hl:=r.length;have hn:=mr;have I':Inv X pins σ (upd H p<|.lst<|xs.set j v) {s with heap:=s.heap.update p (Obj.mapSeq (·.setIfInBounds j u))}:=
  I.LI hp ho (LH aj n j u) (r.set rv j) (by rw[List.length_set];exact hz) s.toks
 by_cases h0:0<=k
 ·have hk:k.toNat=j:=by
   rw[seqIndex_of h0 h4] at h1;exact zan h1
  exact PySem.W.ki_setAt ho h0 (by omega) (by rw[zaf,<-hl];exact h4) (by rw[hk];exact⟨_,I',q⟩)
 ·have hk:(k+(aj.toArray.size:Int)).toNat=j:=by
   rw[seqIndex_neg (by omega) h3] at h1
   rw[zaf,<-hl];exact zan h1
  exact PySem.W.ki_setBack ho (by omega) (by rw[zaf,<-hl];exact h3) (by omega) (by rw[hk];exact⟨_,I',q⟩)
theorem w6(lo hi:Option Int)(n:Nat):(sliceBounds lo hi none n).1=((HT.aR n 0 lo:Nat):Int)/\(sliceBounds lo hi none n).2.1=((HT.aR n n hi:Nat):Int)/\(sliceBounds lo hi none n).2.2=1:=by
 refine⟨?_,?_,rfl⟩
 ·cases lo with
  |none=>simp[sliceBounds,HT.aR]
  |some i=>
   simp only[sliceBounds,HT.aR,Option.getD_none,show(1:Int) >0 by decide,if_true]
   by_cases h:i<0
   ·simp only[h,if_true] <;>omega
   ·simp only[h,if_false] <;>omega
 ·cases hi with
  |none=>simp[sliceBounds,HT.aR]
  |some i=>
   simp only[sliceBounds,HT.aR,Option.getD_none,show(1:Int) >0 by decide,if_true]
   by_cases h:i<0
   ·simp only[h,if_true] <;>omega
   ·simp only[h,if_false] <;>omega
theorem LJ(aj:List Value)(lo hi:Option Int):slicePick aj.toArray lo hi none=((aj.drop<|HT.aR aj.length 0 lo).take<|HT.aR aj.length aj.length hi - HT.aR aj.length 0 lo).toArray:=by
 obtain⟨h1,h2,h3⟩:=w6 lo hi aj.toArray.size;unfold slicePick;rw[h1,h2,h3]
 simp only[sliceRange_one,pick_run,zaf] <;>rfl
def LK(K:Frag):V->Option Int->Option Int->Hp->VK->Prop:=fun x lo hi H Q=>∃a xs,x=.ref a/\aw K H a xs/\∀p,H p=none->Q (.ref p) (upd H p<|.lst<|bL xs lo hi)
theorem LL:t_ X (LK X.K):=by
 intro pins s σ H x v vl vu lo hi sl Q I rx hs pl pu h;obtain⟨a,xs,rfl,hx,q⟩:=h;cases rx;obtain⟨aj,r,ht,hz⟩:=I.list hx;have hlen:=r.length;refine⟨"list",_,slot_list_getitem.lookup,ht.isList.typeIs,?_⟩;refine wpAny_getItem_list_slice ht.isList hs pl pu .none (by simp) ?_ (by rw[zaf] <;>omega)
 rw[LJ,<-hlen];refine⟨.ref s.heap.objs.size,_,I.laid (t':=s.toks) (o:=.lst (bL xs lo hi)) (fun b ob q=>Heap.get?_push_of_some _ q) (zqR _) ?_,rfl,q _<|I.aA.fresh<|zqR _⟩;exact⟨zaw (B4 xs lo hi) hz,_,0,(r.drop<|HT.aR xs.length 0 lo).take<|HT.aR xs.length xs.length hi - HT.aR xs.length 0 lo,Heap.get?_push_size _ rfl⟩
def gi:V->Bool
 |.aD=>true
 |.bl _=>true
 |.int _=>true
 |.str _=>true
 |_=>false
def fN:V->V->Bool
 |.aD,.aD=>true
 |.bl a,.bl b=>a==b
 |.bl a,.int b=>(if a then 1 else 0)==b
 |.int a,.bl b=>a==(if b then 1 else 0)
 |.int a,.int b=>a==b
 |.str a,.str b=>a==b
 |_,_=>false
theorem LM{A:Around}{s:Shared}{y x:V}{u v:Value}(ry:RelV y u)(rx:RelV x v)(fy:gi y=true)(fx:gi x=true):SeqAt.EqAt A s u v (fN y x):=by
 cases y with
 |aD=>
  cases ry;cases x with
  |aD=>cases rx;exact SeqAt.EqAt.same _
  |bl b=>cases rx;exact SeqAt.EqAt.none_bool b
  |int b=>obtain⟨t,rfl⟩:=rx;exact SeqAt.EqAt.none_int b t
  |str b=>obtain⟨t,rfl⟩:=rx;exact SeqAt.EqAt.none_str b t
  |_=>exact absurd (show false=true from fx) zam
 |bl a=>
  cases ry;cases x with
  |aD=>cases rx;exact SeqAt.EqAt.bool_none a
  |bl b=>cases rx;exact SeqAt.EqAt.bool_bool a b
  |int b=>obtain⟨t,rfl⟩:=rx;exact SeqAt.EqAt.bool_int a b t
  |str b=>obtain⟨t,rfl⟩:=rx;exact SeqAt.EqAt.bool_str a b t
  |_=>exact absurd (show false=true from fx) zam
 |int a=>
  obtain⟨t',rfl⟩:=ry;cases x with
  |aD=>cases rx;exact SeqAt.EqAt.int_none a t'
  |bl b=>cases rx;exact SeqAt.EqAt.int_bool a t' b
  |int b=>obtain⟨t,rfl⟩:=rx;exact SeqAt.EqAt.int_int a t' b t
  |str b=>obtain⟨t,rfl⟩:=rx;exact SeqAt.EqAt.int_str a t' b t
  |_=>exact absurd (show false=true from fx) zam
 |str a=>
  obtain⟨t',rfl⟩:=ry;cases x with
  |aD=>cases rx;exact SeqAt.EqAt.str_none a t'
  |bl b=>cases rx;exact SeqAt.EqAt.str_bool a t' b
  |int b=>obtain⟨t,rfl⟩:=rx;exact SeqAt.EqAt.str_int a t' b t
  |str b=>obtain⟨t,rfl⟩:=rx;exact SeqAt.EqAt.str_str a t' b t
  |_=>exact absurd (show false=true from fx) zam
 |_=>exact absurd (show false=true from fy) zam
def d6(x:V)(u:Value):Bool:=match u with
 |.none=>fN .aD x
 |.bool b=>fN (.bl b) x
 |.int i _=>fN (.int i) x
 |.str z _=>fN (.str z) x
 |_=>false
theorem w_{x y:V}{u:Value}(r:RelV y u)(f:gi y=true):d6 x u=fN y x:=by
 cases y with
 |aD=>cases r;rfl
 |bl b=>cases r;rfl
 |int i=>obtain⟨t,rfl⟩:=r;rfl
 |str z=>obtain⟨t,rfl⟩:=r;rfl
 |_=>exact absurd (show false=true from f) zam
theorem qv{x:V}:∀{xs:List V}{us:List Value},Vals xs us->xs.all gi=true->us.any (d6 x)=xs.any fun y=>fN y x
 |_,_,.nil,_=>rfl
 |y::xs,u::us,.cons r t,f=>by
  rw[zba,zac] at f;rw[zbk,zbk,w_ r f.1,qv t f.2]
theorem oE{A:Around}{s:Shared}{x:V}{v:Value}(rx:RelV x v)(fx:gi x=true):∀{xs:List V}{us:List Value},Vals xs us->xs.all gi=true->∀u∈us,SeqAt.EqAt A s u v (d6 x u)
 |_,_,.nil,_=>fun u hu=>by cases hu
 |y::xs,u::us,.cons r t,f=>fun u' hu=>by
  rw[zba,zac] at f;rcases zae.mp hu with rfl|hu
  ·rw[w_ r f.1];exact LM r rx f.1 fx
  ·exact oE rx fx t f.2 u' hu
def e8(x:V)(xs:List V):Bool:=xs.any fun y=>fN y x
def xa(K:Frag)(neg:Bool):R2:=fun x y H Q=>∃p xs,y=.ref p/\(aw K H p xs\/aO K H p xs)/\gi x=true/\xs.all gi=true/\Q (.bl (if neg then !e8 x xs else e8 x xs)) H
theorem LN:aX X (compareOp .In) (xa X.K false):=by
 intro pins s σ H x y v u Q I rx ry h;obtain⟨p,xs,rfl,hq,fx,fs,q⟩:=h;cases ry;rcases hq with hq|hq
 ·obtain⟨aj,r,pl,hz⟩:=I.list hq;refine SeqAt.in_listAt (d6 x) pl.isList (fun w hw=>oE rx fx r fs w (by simpa using hw)) ⟨.bl _,H,I,rfl,?_⟩
  rw[show aj.toArray.any (d6 x)=aj.any (d6 x) by simp,qv r fs]
  exact q
 ·obtain⟨aj,r,pl,hz⟩:=I.tuple hq;refine SeqAt.in_tupleAt (d6 x) pl (fun w hw=>oE rx fx r fs w (by simpa using hw)) ⟨.bl _,H,I,rfl,?_⟩
  rw[show aj.toArray.any (d6 x)=aj.any (d6 x) by simp,qv r fs]
  exact q
theorem LO:aX X (compareOp .NotIn) (xa X.K true):=by
 intro pins s σ H x y v u Q I rx ry h;obtain⟨p,xs,rfl,hq,fx,fs,q⟩:=h;cases ry;rcases hq with hq|hq
 ·obtain⟨aj,r,pl,hz⟩:=I.list hq;refine SeqAt.notIn_listAt (d6 x) pl.isList (fun w hw=>oE rx fx r fs w (by simpa using hw)) ⟨.bl _,H,I,rfl,?_⟩
  rw[show aj.toArray.any (d6 x)=aj.any (d6 x) by simp,qv r fs]
  exact q
 ·obtain⟨aj,r,pl,hz⟩:=I.tuple hq;refine SeqAt.notIn_tupleAt (d6 x) pl (fun w hw=>oE rx fx r fs w (by simpa using hw)) ⟨.bl _,H,I,rfl,?_⟩
  rw[show aj.toArray.any (d6 x)=aj.any (d6 x) by simp,qv r fs]
  exact q
theorem bQ.or{f:Value}{r r':List V->Hp->VK->Prop}(h:bQ X f r)(h':bQ X f r'):bQ X f (fun xs H Q=>r xs H Q\/r' xs H Q):=by
 intro pins s σ H xs us Q I rs q;rcases q with q|q
 ·exact h pins s σ H xs us Q I rs q
 ·exact h' pins s σ H xs us Q I rs q
theorem LP:bQ X (.type "list") (fun xs H Q=>∃p ys,xs=[.ref p]/\(aw X.K H p ys\/aO X.K H p ys)/\∀l,H l=none->Q (.ref l) (upd H l<|.lst ys)):=by
 intro pins s σ H xs us Q I r h;obtain⟨p,ys,rfl,hq,q⟩:=h;obtain⟨u,rfl,rx⟩:=vals1 r;cases rx;have fin:∀(aj:List Value),Vals ys aj->ys.length<=sizeLine->∀(h':Heap) (c':Nat),(∀b o',s.heap.get? b=some o'->h'.get? b=some o')->
   h'.get? s.heap.objs.size=some {cls:=.type "list",dict:=none,data:=.seq aj.toArray c',slots:= #[]}->EP X pins σ Q (.ref s.heap.objs.size) {s with heap:=h'}:=fun aj r' hz h' c' kp e=>
  ⟨.ref s.heap.objs.size,_,I.laid (t':=s.toks) kp (zqR _) (show bI X.prog X.w _ h' _ (.lst ys) from⟨hz,aj,c',r',e⟩),rfl,q _<|I.aA.fresh<|zqR _⟩
 rcases hq with hq|hq
 ·obtain⟨aj,r',pl,hz⟩:=I.list hq;have hlen:=r'.length;obtain⟨o,ho,hc,n,hd⟩:=pl.isList;exact call_list_seq p (.inl rfl) ho hc hd (fun h' c' kp e=>fin aj r' hz h' c' kp e) (by simp only[zaf] <;>omega)
 ·obtain⟨aj,r',pl,hz⟩:=I.tuple hq;have hlen:=r'.length;obtain⟨o,ho,hc,n,hd⟩:=pl;exact call_list_seq p (.inr rfl) ho hc hd (fun h' c' kp e=>fin aj r' hz h' c' kp e) (by simp only[zaf] <;>omega)
def ua(K:Frag)(T:String)(x:V)(H:Hp):Prop:=match x with
 |.str _=>T="str"
 |.int _=>T="int"
 |.ref p=>(T="list"/\∃xs,aw K H p xs)\/(T="tuple"/\∃o,K.lookup p=some o/\o.cls=.type "tuple"/\o.dict=none)\/
   (T="dict"/\((∃kvs,H p=some (.dK kvs))\/∃kvs,H p=some (.dT kvs)))\/(T="set"/\∃S n,H p=some (.set S n))
 |_=>False
theorem LQ{pins:List (Addr×Obj)}{σ:St}{H:Hp}{s:Shared}{T:String}{x:V}{v:Value}(I:Inv X pins σ H s)(r:RelV x v)(ty:ua X.K T x H):
  s.TypeIs v T/\∀a,v=.ref a->∃ob,s.heap.get? a=some ob/\ob.dict=none:=by
 cases x with
 |str z=>
  obtain⟨t,rfl⟩:=r;cases (show T="str" from ty)
  exact⟨typeIs_str s z t,fun _ e=>nomatch e⟩
 |int i=>
  obtain⟨t,rfl⟩:=r;cases (show T="int" from ty)
  exact⟨typeIs_int s i t,fun _ e=>nomatch e⟩
 |ref p=>
  cases r;rcases ty with⟨rfl,xs,hq⟩|⟨rfl,o,hk,hc,hd⟩|⟨rfl,hk⟩|⟨rfl,S,n,hk⟩
  ·obtain⟨aj,_,pl,_⟩:=I.list hq;refine⟨pl.isList.typeIs,fun a e=>?_⟩;cases e;obtain⟨o,n,e,c,hd,_⟩:=pl;exact⟨o,e,hd⟩
  ·refine⟨⟨o,I.cj p o hk,hc⟩,fun a e=>?_⟩;cases e;exact⟨o,I.cj _ o hk,hd⟩
  ·have z:∃o,s.heap.get? p=some o/\o.ExactDict:=by
    rcases hk with⟨kvs,hk⟩|⟨kvs,hk⟩
    ·obtain⟨_,_,_,_,o,_,_,e,ex,_⟩:=I.aA p _ hk;exact⟨o,e,ex⟩
    ·obtain⟨_,_,_,_,o,_,_,e,ex,_⟩:=I.aA p _ hk;exact⟨o,e,ex⟩
   obtain⟨o,e,ex⟩:=z;refine⟨⟨o,e,ex.1⟩,fun a e2=>?_⟩;cases e2;exact⟨o,e,ex.2.1⟩
  ·obtain⟨o,_,_,_,e,ex,_⟩:=I.aA p _ hk;refine⟨⟨o,e,ex.1⟩,fun a e2=>?_⟩;cases e2;exact⟨o,e,ex.2.1⟩
 |_=>exact False.elim ty
def LR(K:Frag)(T:String)(r:V->List V->Hp->VK->Prop)(to:TE)(t:TA):TE:=fun σ H Q=>to σ H fun x H1=>ua K T x H1/\t σ H1 fun xs H2=>r x xs H2 Q
variable {o e:Expr}{es:List Expr}{to:TE}{t:TA}{name:Str}{apos d9:Pos}{T id:String}{r:V->List V->Hp->VK->Prop}
theorem LS(pa:PlainAttrs T)(slot:Slot T name id)(LU:typeOf (.builtin id)=pure (.type "method_descriptor"))(hm:qu X id r)(ho:PE X o to)(ha:PA X (e::es) t)
  (LV:attributeBase o name X.env (eval o X.env)=eval o X.env:=by rfl)
  (LW:((backTo d9 (starEach (e::es) X.env)).all (fun x=> !x.1) && (backToKw d9 (keywordEach [] X.env)).all (fun x=>x.1.isSome)
   && decide ((e::es).length+([]:List Keyword).length+(if ([]:List Keyword).isEmpty then 0 else 1) <30))=true:=by rfl)
  (LX:(apos.endLine==d9.line)=true:=by rfl) (hs:starEach (e::es) X.env=(false,eval e X.env)::starEach es X.env:=by rfl) (LY:(backTo d9<|starEach es X.env).any (·.1)=false:=by rfl):
  PE X (.Call (.Attribute o name apos) (e::es) [] d9) (LR X.K T r to t):=by
 intro pins s σ H Q I h;refine wpAny_Call_method_late LV LW LX rfl<|aF (ho pins s σ H _ I h) fun v s1 ⟨x,H1,I1,r1,ty,q1⟩=>?_;obtain⟨h1,h2⟩:=LQ I1 r1 ty;refine⟨T,id,pa,slot,LU,h1,h2,?_⟩;have hA:=ha d9 pins s1 σ H1 _ I1 q1;rw[hs] at hA⊢;refine Calls.callWith_builtin (by show(false ||(backTo d9<|starEach es X.env).any (·.1))=false;rw[LY] <;>rfl)<|Calls.evalArgs_plain ?_
 exact aF hA fun us s2 ⟨vs,H2,I2,r2,q2⟩=>hm pins s2 σ H2 x vs v us Q I2 r1 r2 q2
end
def ub(X:Cx)(id:String)(r:V->List V->Hp->VK->Prop):Prop:=
 ∀(pins:List (Addr×Obj)) (s:Shared) (σ:St) (H:Hp) (x:V) (xs:List V) (v:Value) (us:List Value) (Q:VK),Inv X pins σ H s->RelV x v->Vals xs us->r x xs H Q->
  wpAny (model X.prog X.w) X.A (call (.builtin id) (v::us)) (EP X pins σ Q) X.xe s
theorem Vals.one:∀{x:V}{us:List Value},Vals [x] us->∃u,us=[u]/\RelV x u
 |_,_,.cons r .nil=>⟨_,rfl,r⟩
theorem Vals.zero:∀{us:List Value},Vals [] us->us=[]
 |_,.nil=>rfl
theorem Vals.dropLast{xs:List V}{us:List Value}(h:Vals xs us):Vals xs.dropLast us.dropLast:=by
 induction h with
 |nil=>exact .nil
 |cons r t ih=>
  cases t with
  |nil=>exact .nil
  |cons q t'=>exact .cons r ih
theorem Vals.rep{xs:List V}{us:List Value}(h:Vals xs us):∀k:Nat,Vals (List.replicate k xs).flatten (List.replicate k us).flatten
 | 0=>.nil
 |k+1=>by
  rw[zbl,zbl,zbx,zbx];exact Vals.append h<|Vals.rep h k
theorem LZ{α:Type}(l:List α):l.eraseIdx (l.length - 1)=l.dropLast:=by
 induction l with
 |nil=>rfl
 |cons a r ih=>
  cases r with
  |nil=>rfl
  |cons b r=>
   have e:(a::b::r).length - 1=((b::r).length - 1)+1:=by
    have h1:(a::b::r).length=r.length+2:=rfl;have h2:(b::r).length=r.length+1:=rfl;omega
   rw[e,List.eraseIdx_cons_succ,ih]
   all_goals rfl
theorem foldl_rep(aj:List Value):∀(k:Nat) (acc:List Value),
  List.foldl (fun x1 x2=>x1++x2) acc.toArray (List.replicate k aj.toArray)=(acc++(List.replicate k aj).flatten).toArray
 | 0,acc=>by simp
 |k+1,acc=>by
  have e:acc.toArray++aj.toArray=(acc++aj).toArray:=by simp
  have e2:(acc++aj)++(List.replicate k aj).flatten=acc++(List.replicate (k+1) aj).flatten:=by
   rw[zbl,zbx,zbb]
  rw[<-e2,<-foldl_rep aj k (acc++aj),<-e,zbl,List.foldl_cons]
section
variable {X:Cx}{pins:List (Addr×Obj)}{σ:St}{H:Hp}{s:Shared}{l b:Addr}{xs ys zs:List V}
theorem Inv.uc{aj gg:List Value}{n:Nat}{f:Array Value->Array Value}{t':Nat}(I:Inv X pins σ H s)(hH:H l=some (.lst xs))
  (e:s.heap.get? l=some {cls:=.type "list",data:=.seq aj.toArray n}) (hf:f aj.toArray=gg.toArray) (hv:Vals ys gg) (hz:ys.length<=sizeLine):
  Inv X pins σ (upd H l<|.lst ys) {s with heap:=s.heap.update l (Obj.mapSeq f),toks:=t'}:=by
 have q:=PySem.IsL.update e f;rw[hf] at q;refine I.write (x:=l) (e:=l) (by rw[hH];exact trivial) (.inl rfl) (fun b' u hb hu=>(Heap.get?_update_other s.heap (Obj.mapSeq f)<|Ne.symm hb).trans hu) ⟨_,q⟩ ?_
 exact⟨hz,gg,_,hv,q⟩
theorem Inv.Ca{aj:List Value}{t':Nat}(I:Inv X pins σ H s)(hv:Vals ys aj)(hz:ys.length<=sizeLine):
  Inv X pins σ (upd H s.heap.objs.size<|.lst ys) {s with heap:=s.heap.push {cls:=.type "list",data:=.seq aj.toArray},toks:=t'}:=
 I.laid (fun _ _ q=>Heap.get?_push_of_some _ q) (zqR _) ⟨hz,aj,0,hv,Heap.get?_push_size _ rfl⟩
theorem Inv.fresh(I:Inv X pins σ H s):H s.heap.objs.size=none:=I.aA.fresh (zqR _)
theorem Inv.kZ(I:Inv X pins σ H s)(hH:H l=some (.lst xs)):xs.length<=sizeLine/\∃(aj:List Value) (n:Nat),Vals xs aj/\xs.length=aj.length/\s.heap.get? l=some {cls:=.type "list",data:=.seq aj.toArray n}:=by
 obtain⟨z,aj,n,r,e⟩:=I.aA l _ hH;exact⟨z,aj,n,r,r.length,e⟩
theorem Cb{n:Nat}(h:n<=sizeLine):Builtin.List.listTooLong n=false:=by
 unfold Builtin.List.listTooLong;exact zqF (by omega)
end
section
variable {X:Cx}
def L6:V->List V->Hp->VK->Prop:=fun x vs H Q=>∃l xs y,x=.ref l/\vs=[y]/\H l=some (.lst xs)/\xs.length<sizeLine/\Q .aD (upd H l<|.lst<|xs++[y])
theorem L7:ub X "list.append" L6:=by
 intro pins s σ H x vs v us Q I rx rv h;obtain⟨l,xs,y,rfl,rfl,hH,hz,q⟩:=h;cases rx;obtain⟨u,rfl,ru⟩:=rv.one;obtain⟨z,aj,n,r,hl,e⟩:=I.kZ hH;refine call_meets F.slot_list_append ⟨_,e,rfl⟩ F.entry_list_append (F.args_list_append_2 _ _) (PySem.list_append l aj.toArray n u (by rw[zaf];omega)) ⟨e,?_⟩
 refine⟨.aD,_,I.uc (gg:=aj++[u]) hH e (by simp) (r.append<|.cons ru .nil) ?_,rfl,q⟩
 rw[zqA,zbm];omega
def L8:V->List V->Hp->VK->Prop:=fun x vs H Q=>∃l b xs zs,x=.ref l/\vs=[.ref b]/\H l=some (.lst xs)/\H b=some (.lst zs)/\xs.length+zs.length<=sizeLine/\Q .aD (upd H l<|.lst<|xs++zs)
theorem L9:ub X "list.extend" L8:=by
 intro pins s σ H x vs v us Q I rx rv h;obtain⟨l,b,xs,zs,rfl,rfl,hH,hB,hz,q⟩:=h;cases rx;obtain⟨u,rfl,ru⟩:=rv.one;cases ru;obtain⟨z,aj,n,r,hl,e⟩:=I.kZ hH;obtain⟨z2,kY,n2,r2,gG,e2⟩:=I.kZ hB;have hsz:aj.toArray.size+kY.toArray.size<=sizeLine:=by rw[zaf,zaf];omega
 have xb:¬(!aj.toArray.isEmpty && Builtin.List.listTooLong (aj.toArray.size+kY.toArray.size))=true:=by
  rw[Cb hsz,zbn];exact zam
 refine call_meets F.slot_list_extend ⟨_,e,rfl⟩ F.entry_list_extend (F.args_list_extend_2 _ _)
  (AutoSeq1.list_extend_list_list_0 l aj.toArray n b kY.toArray n2 xb (by rw[zaf];omega) (by omega)) ⟨e,e2,?_⟩
 refine⟨.aD,_,I.uc (gg:=aj++kY) hH e (by simp) (r.append r2) ?_,rfl,q⟩
 rw[zqA];omega
def L_:V->List V->Hp->VK->Prop:=fun x vs H Q=>∃l xs y,x=.ref l/\vs=[]/\H l=some (.lst xs)/\xs[xs.length - 1]?=some y/\Q y (upd H l<|.lst xs.dropLast)
theorem Ma:ub X "list.pop" L_:=by
 intro pins s σ H x vs v us Q I rx rv h;obtain⟨l,xs,y,rfl,rfl,hH,hy,q⟩:=h;cases rx;have xf:=rv.zero;subst xf;obtain⟨z,aj,n,r,hl,e⟩:=I.kZ hH;obtain⟨u,hu,ru⟩:=r.get hy;have Mb:aj.toArray[aj.toArray.size - 1]?=some u:=by
  show aj.toArray[aj.length - 1]?=some u;rw[<-Array.getElem?_toList,<-hl];exact hu
 refine call_meets F.slot_list_pop ⟨_,e,rfl⟩ F.entry_list_pop (F.args_list_pop_1 _) (MeetsSeq.list_pop_last l aj.toArray n u Mb (by rw[zaf];omega)) ⟨e,?_⟩
 refine⟨y,_,I.uc (gg:=aj.dropLast) hH e ?_ r.dropLast ?_,ru,q⟩
 ·show aj.toArray.eraseIdxIfInBounds (aj.toArray.size - 1)=aj.dropLast.toArray;rw[zaf,List.eraseIdxIfInBounds_toArray,LZ]
 ·rw[List.length_dropLast];omega
def Mc:V->List V->Hp->VK->Prop:=fun x vs H Q=>∃l xs,x=.ref l/\vs=[]/\H l=some (.lst xs)/\Q .aD (upd H l<|.lst [])
theorem Md:ub X "list.clear" Mc:=by
 intro pins s σ H x vs v us Q I rx rv h;obtain⟨l,xs,rfl,rfl,hH,q⟩:=h;cases rx;have xf:=rv.zero;subst xf;obtain⟨z,aj,n,r,hl,e⟩:=I.kZ hH;refine call_meets F.slot_list_clear ⟨_,e,rfl⟩ F.entry_list_clear (F.args_list_clear_1 _) (AutoSeq1.list_clear_list_0 l aj.toArray n (by rw[zaf];omega)) ⟨e,?_⟩
 exact⟨.aD,_,I.uc (gg:=[]) (ys:=[]) hH e rfl .nil<|zqZ _,rfl,q⟩
def Cc:R2:=fun x y H Q=>∃l b xs zs,x=.ref l/\y=.ref b/\H l=some (.lst xs)/\H b=some (.lst zs)/\xs.length+zs.length<=sizeLine/\∀p,H p=none->Q (.ref p) (upd H p<|.lst<|xs++zs)
theorem Me:aX X (binaryOp .Add) Cc:=by
 intro pins s σ H x y v u Q I rx ry h;obtain⟨l,b,xs,zs,rfl,rfl,hH,hB,hz,q⟩:=h;cases rx;cases ry;obtain⟨z,aj,n,r,hl,e⟩:=I.kZ hH;obtain⟨z2,kY,n2,r2,gG,e2⟩:=I.kZ hB;refine PySem.P.add_list e e2 ?_ (by rw[zaf,zaf];omega)
 have ea:aj.toArray++kY.toArray=(aj++kY).toArray:=by simp
 rw[ea];exact⟨.ref _,_,I.Ca (t':=s.toks) (r.append r2) (by rw[zqA];omega),rfl,q _ I.fresh⟩
def Cd:R2:=fun x y H Q=>∃l k xs,x=.ref l/\y=.int k/\H l=some (.lst xs)/\ -(2 ^ 63)<=k/\k<2 ^ 63/\xs.length*k.toNat<=sizeLine/\
 ∀p,H p=none->Q (.ref p) (upd H p<|.lst (List.replicate k.toNat xs).flatten)
theorem len_rep{α:Type}(xs:List α)(k:Nat):(List.replicate k xs).flatten.length=k*xs.length:=by
 induction k with
 |zero=>simp
 |succ k ih=>rw[zbl,zbx,zqA,ih,Nat.succ_mul,Nat.add_comm]
theorem Mf:aX X (binaryOp .Mult) Cd:=by
 intro pins s σ H x y v u Q I rx ry h;obtain⟨l,k,xs,rfl,rfl,hH,h1,h2,hz,q⟩:=h;cases rx;obtain⟨t,rfl⟩:=ry;obtain⟨z,aj,n,r,hl,e⟩:=I.kZ hH;have hlen:aj.toArray.size*k.toNat<=sizeLine:=by rw[zaf,<-hl];exact hz
 have Mg:¬aj.toArray.size*k.toNat>(2 ^ 63 - 1) / 8:=by
  have:(sizeLine:Nat)<= (2 ^ 63 - 1) / 8:=by decide
  omega
 have Mh:¬(!Builtin.List.listFitsIndex k)=true:=by
  rw[fitsIndex_both h1 h2];exact zam
 have xb:¬Builtin.List.listTooLong (aj.toArray.size*k.toNat)=true:=by
  rw[Cb hlen];exact zam
 have Mi:List.foldl (fun x1 x2=>x1++x2) #[] (List.replicate (if aj.toArray.isEmpty=true then 0 else k.toNat) aj.toArray)=(List.replicate k.toNat aj).flatten.toArray:=by
  have f0:∀m:Nat,List.foldl (fun x1 x2=>x1++x2) #[] (List.replicate m aj.toArray)=(List.replicate m aj).flatten.toArray:=fun m=>by
   have:=foldl_rep aj m [];rw[List.nil_append] at this;exact this
  rw[f0];cases aj with
  |nil=>simp
  |cons a r'=>rw[if_neg (by simp)]
 refine wpAny_binaryOp_repeat_ref (T:="list") (U:="int") (by decide) ⟨_,e,rfl⟩ (fun s'=>typeIs_int s' k t) noFill_list_mul F.fills_int_mul F.slot_int_rmul repeat_list F.slot_int_index.lookup
  (call_meets F.slot_int_rmul (typeIs_int s k t) F.entry_int_rmul (F.args_int_rmul_2 _ _) (int___rmul___int_list k t l aj.toArray n)
   ⟨e,rfl,⟨_,e,rfl⟩,call_meets F.slot_list_mul ⟨_,e,rfl⟩ F.entry_list_mul (F.args_list_mul_2 _ _) (AutoListH.list___mul___list_int_3 l aj.toArray n k t Mh Mg xb) ⟨e,?_⟩⟩)
 rw[Mi];exact⟨.ref _,_,I.Ca (t':=s.toks) (r.rep k.toNat) (by rw[len_rep,Nat.mul_comm];exact hz),rfl,q _ I.fresh⟩
end
end L2
namespace Ce
open PySem PySem.W PySem.Calls PyProof.Rows
theorem Mj{P:Params}{h:Heap}:∀(ns:List Int) (vs:List Value),WellAll P h vs (ns.map WData.int)->IntsAre vs ns:=by
 intro ns
 induction ns with
 |nil=>
  intro vs w;rw[zaH] at w;cases w;exact .nil
 |cons n ns ih=>
  intro vs w;rw[zak] at w;cases w with
  |cons a b=>
   cases a;exact .cons _ _<|ih _ b
theorem Ml{l:OpenLaw}{n:Nat}(hn:l.most=some n){P:Params}{h:Heap}{args:List WData}{vals:List Value}
  (jS:l.row.toRowW.claim.pre args=true) (xg:WellAll P h vals args):
  ∃a vs ns,vals=[Value.ref a]/\args=[WData.list<|ns.map WData.int]/\h.get? a=some {cls:=.type "list",data:=.seq vs.toArray}/\IntsAre vs ns/\ns.length<=n:=by
 have Mm:WShape.hasAll [] args [.list .int]=true:=(pre_splitW jS).1;have hc:l.pre.holds [] {args:=args}=true:=(pre_splitW jS).2;obtain⟨d,r,rfl,h1,h2⟩:=hasAllW_cons Mm;obtain rfl:=hasAllW_nil h2;obtain⟨xs,rfl,h3⟩:=hasW_list h1;obtain⟨ns,rfl⟩:=items_int h3;have hlen:ns.length<=n:=by
  unfold OpenLaw.pre at hc;have h4:(WTm.not<|.lt (.lit<|.int (n:Int))<|.len<|.arg 0).holds [] {args:=[.list<|ns.map .int]}=true:=by
   have h4:=(holds_andW hc).1;rw[hn] at h4;exact h4
  have h5:=condW_of h4 (w_not<|w_lt w_lit<|w_len_list<|w_arg rfl);rw[zaa] at h5;refine Nat.le_of_not_lt fun q=>?_;have q':(n:Int) < ((ns.length:Nat):Int):=by omega
  first
   | (rw[zqT q'] at h5;exact absurd h5 (by decide))
   | (simp at h5;omega)
 cases xg with
 |cons w1 w2=>
  cases w2;cases w1 with
  |list ho mD=>exact⟨_,_,ns,rfl,rfl,ho,Mj ns _ mD,hlen⟩
theorem Mn(l:OpenLaw)(args:List WData):l.row.toRowW.claim.post args (.bool true) args=true:=
 postW_of (r:=l.row.toRowW) (X:=(true==true))
  (show WShape.has [] (.bool true) .bool=true by first|rfl|decide|simp[WShape.has,WShape.arms,WShape.armsAll])
  (show(WTm.eq .res<|.lit<|.bool true).value [] {args:=args,res:=some (.bool true),after:=args}=some (.bool<|true==true) from w_eq_bool (w_res rfl) w_lit) rfl
theorem Mo{l:OpenLaw}{n:Nat}{q:Program}{loose:List Str}{XP:(Str->Option Value)->Heap->Prop}{YP:World->Heap->Prop}{d:DefRec}
  (hn:l.most=some n) (qw:d.params.defaults=[])
  (call:∀(w:World) (s₀ s₁:Shared) (mg mb:Str->Option Value) (fa:Addr) (o:Obj) (pm cd doc:Value) (a:Addr) (vs:List Value) (ns:List Int),
   Ground q loose [] XP w s₀ mg mb s₁.heap->YP w s₁.heap->
   s₁.heap.get? fa=some o->o.data=.func (docDef d.name d.params d.body d.scope pm cd doc)->s₁.heap.CodeRec cd d.name->mg d.name=some (.ref fa)->
   s₁.heap.get? a=some {cls:=.type "list",data:=.seq vs.toArray}->IntsAre vs ns->ns.length<=n->s₁.gens= #[]->
   codeAny (model l.prog w) callerA (.call (.ref fa) ⟨[.ref a],[]⟩) (fun r s'=>r=.ok (.ret (.bool true))/\OldK s₁.heap s'.heap/\s'.os=s₁.os/\AllBare s'.gens) s₁):
  WalkO q loose XP YP l.row.toRowW d [] (fun f vs=>PySem.call f vs):=by
 intro w s₀ s₁ mg mb G Y fa o pm cd doc dV kV ho hd gf hD jT hg args vals as jS Zy Zz xg ud;obtain rfl:dV=.none:=Dflts.none hD qw;obtain rfl:kV=.none:=Dflts.noKw hD;obtain⟨a,vs,ns,rfl,rfl,xh,hints,hlen⟩:=Ml hn jS xg;refine enter_call<|codeAny_mono (call w s₀ s₁ mg mb fa o pm cd doc a vs ns G Y ho (fd_plain hd) gf jT xh hints hlen hg) fun r s' hq=>?_;obtain⟨rfl,h2,h3,h4⟩:=hq;exact⟨.inl ⟨.bool true,.bool true,[],rfl,fun _=>rfl,.bool true,Mn l _,fun _=>⟨List.Pairwise.nil,fun _ hm=>(nomatch hm)⟩⟩,h2,h3,h4⟩
section
variable {prog:Program}{w:World}{A:Around}{E:Value->Shared->Prop}{s:Shared}{K:Frag}
end
end Ce
namespace L2
open PySem PySem.Spec PyProof.Rows
theorem Cf:∀{vs:List Value}{ns:List Int},IntsAre vs ns->Vals (ns.map V.int) vs
 |_,_,.nil=>.nil
 |_,_,.cons n t h=>.cons ⟨t,rfl⟩ (Cf h)
def xi(H:Hp):Prop:= ∀b,H b=none\/∃o xs,H b=some (.aY o<|.lst xs)
theorem Mp{P:Program}{w:World}{K:Frag}{mg mb:Str->Option Value}{CX:bE}{k:Nat}{fa a:Addr}{fd:FuncData}{x:Str}{sp:Sp}{s₁:Shared}{vs:List Value}{ns:List Int}
  (KX:K.In s₁.heap) (mE:s₁.heap.Ns mainGlobals mg) (hb:s₁.heap.Ns builtinsNs mb) (Mq:∀x:Str,x≠"__name__"->mb x=bootBuiltins x) (Mr:s₁.heap.NoLimit) (hg:s₁.gens= #[])
  (ha:s₁.heap.get? a=some {cls:=.type "list",data:=.seq vs.toArray}) (hi:IntsAre vs ns) (hl:ns.length<=sizeLine) (hr:cK k callerA)
  (F:∀base:Heap,K.In base->base.Ns mainGlobals mg->bZ P w K mg base CX k fa fd [x] sp) (Ms:∀(s:Shared) (u:Value),BindsTo s fd ⟨[u],[]⟩ [(x,u)])
  (gF:∀H:Hp,xi H->aw K H a (ns.map V.int)->sp [.ref a] H (fun v _=>v=.bl true) fun _ _ _=>False)
  (xj:∀H e s',CX [] H s₁ (fun _ _ _=>False) e s'->False):
  codeAny (model P w) callerA (.call (.ref fa) ⟨[.ref a],[]⟩) (fun r s'=>r=.ok (.ret<|.bool true)/\OldK s₁.heap s'.heap/\s'.os=s₁.os/\AllBare s'.gens) s₁:=by
 have rv:=Cf hi;have qy:=hi.length;have core:∀H:Hp,xi H->aw K H a (ns.map V.int)->bD P w H s₁.heap->(∀b,H b≠none->b=a)->(H a≠none->K.lookup a=none)->
   codeAny (model P w) callerA (.call (.ref fa) ⟨[.ref a],[]⟩) (fun r s'=>r=.ok (.ret<|.bool true)/\OldK s₁.heap s'.heap/\s'.os=s₁.os/\AllBare s'.gens) s₁:=by
  intro H hO hS aA hA hK;have mF:∀{b:Addr}{o:Obj},s₁.heap.get? b=some o->H b=none->(jL s₁.heap H).get? b=some o:=fun e n=>JI e n;have qq:∀{b:Addr}{o:Obj}{es:Array DictEntry}{ep:Nat},s₁.heap.get? b=some o->o.data=.dict es ep->H b=none:=fun {b o es ep} e d=>by
   cases q:H b with
   |none=>rfl
   |some u=>
    have e':b=a:=hA b (by rw[q];simp)
    subst e';rw[ha] at e;cases e;have d':Data.seq vs.toArray _=Data.dict es ep:=d;cases d'
  have ue:∀{b:Addr}{m:Str->Option Value},s₁.heap.Ns b m->(jL s₁.heap H).Ns b m:=fun {b m} ⟨o,es,ep,e,d,r⟩=>⟨o,es,ep,mF e<|qq e d,d,r⟩;have Cg:K.In (jL s₁.heap H):=fun b o e=>mF (KX b o e) (by
   cases q:H b with
   |none=>rfl
   |some u=>
    have e':b=a:=hA b (by rw[q];simp)
    subst e';rw[hK (by rw[q];simp)] at e;cases e)
  have hM:Mod K mg (jL s₁.heap H):=⟨Cg,ue mE,⟨mb,ue hb,Mq⟩,let ⟨mc,h1,h2⟩:=Mr;⟨mc,ue h1,h2⟩⟩;have e0:jP P w K mg (jL s₁.heap H) callerA [] s₁ H:=⟨rfl,hM,fun b o e=>JJ e,Nat.le_of_eq<|JH _ _,trivial,fun b hb=>absurd (show b∈ ([]:List Addr) from hb) (by simp),aA,.of_eq hg⟩
  refine codeAny_mono ((F _ Cg<|ue mE).run callerA [] s₁ H ⟨[.ref a],[]⟩ [.ref a] [.ref a] _ _ hr e0 (Ms s₁<|.ref a) (.cons rfl .nil)<|gF H hO hS) fun r s' h=>?_;cases r with
  |error e=>exact(xj H e s' h).elim
  |ok fl=>
   cases fl with
   |next=>exact False.elim h
   |brk=>exact False.elim h
   |cont=>exact False.elim h
   |ret u=>
    obtain⟨v,H',os,bare,un,Mt,r',q⟩:=h;have q':v=.bl true:=q;subst q';obtain rfl:u=Value.bool true:=r';refine⟨rfl,OldK.of_keep fun b o e=>?_,os,bare⟩;cases q:H b with
    |none=>exact un.keep b o e q (by intro z;exact absurd (show b∈ ([]:List Addr) from z) (by simp)) (by simp)
    |some u=>
     rcases hO b with z|⟨ob,xs,z⟩
     ·rw[q] at z;cases z
     ·have z2:=un.dS b ob _ z;obtain⟨e1,_⟩:=aA b _ z;obtain⟨e2,_⟩:=Mt b _ z2;rw[e] at e1;cases e1;exact e2
 cases hk:K.lookup a with
 |some o=>
  have e:=KX a o hk;rw[ha] at e;cases e;refine core (fun _=>none) (fun _=>.inl rfl) (.inr ⟨_,vs.toArray,_,hk,rfl,rfl,rfl,by rw[zaf,qy];exact hl,by simpa using rv⟩) (fun b u z=>by have z':(none:Option HO)=some u:=z;cases z') (fun b z=>absurd rfl z) fun z=>absurd rfl z
 |none=>
  refine core (fun b=>if b=a then some (.aY {cls:=.type "list",data:=.seq vs.toArray}<|.lst<|ns.map V.int) else none) (fun b=>?_) (.inl<|.inr ⟨{cls:=.type "list",data:=.seq vs.toArray},if_pos rfl⟩) (fun b u z=>?_) (fun b z=>?_) fun _=>hk
  ·by_cases hb:b=a
   ·exact .inr ⟨_,_,if_pos hb⟩
   ·exact .inl (if_neg hb)
  ·by_cases hb:b=a
   ·have z':=(if_pos hb).symm.trans z;cases z';subst hb;exact⟨ha,by rw[zaa];exact hl,vs,_,rv,ha⟩
   ·have z':=(if_neg hb).symm.trans z;cases z'
  ·by_cases hb:b=a
   ·exact hb
   ·exact absurd (if_neg hb) z
theorem Mu{l:PySem.W.OpenLaw}{n k:Nat}{q:Program}{loose:List Str}{XP:(Str->Option Value)->Heap->Prop}{YP:World->Heap->Prop}{d:DefRec}{K:Params->Frag}{CX:World->bE}{sp:World->Sp}{x:Str}
  (hn:l.most=some n) (qo:n<=sizeLine) (qw:d.params.defaults=[]) (hr:cK k callerA)
  (hY:∀(w:World) (h:Heap),YP w h->(K w.params).In h)
  (F:∀(w:World) (mg:Str->Option Value) (fa:Addr) (h:Heap),(K w.params).In h->h.Ns mainGlobals mg->mg d.name=some (.ref fa)->
   ∃fd:FuncData,(∀(s:Shared) (u:Value),BindsTo s fd ⟨[u],[]⟩ [(x,u)])/\
    ∀base:Heap,(K w.params).In base->base.Ns mainGlobals mg->bZ l.prog w (K w.params) mg base (CX w) k fa fd [x] (sp w))
  (gF:∀(w:World) (H:Hp) (a:Addr) (ns:List Int),ns.length<=n->xi H->aw (K w.params) H a (ns.map V.int)->sp w [.ref a] H (fun v _=>v=.bl true) fun _ _ _=>False)
  (xj:∀(w:World) (H:Hp) (s:Shared) (e:Value) (s':Shared),CX w [] H s (fun _ _ _=>False) e s'->False):
  PySem.W.WalkO q loose XP YP l.row.toRowW d [] (fun f vs=>PySem.call f vs):=by
 refine Ce.Mo hn qw fun w s₀ s₁ mg mb fa o pm cd doc a vs ns G Y ho hd gf jT xh hints hlen hg=>?_;have KX:=hY w _ Y;obtain⟨fd,hb,hF⟩:=F w mg fa _ KX G.T.g jT;exact Mp KX G.T.g G.T.b G.T.builtins G.T.nolimit hg xh hints (zaw hlen qo) hr hF hb (fun H hO hS=>gF w H a ns hlen hO hS) fun H e s'=>xj w H s₁ e s'
end L2
namespace L2
open PySem PySem.Spec PyProof.Rows
def inClass(s:Stmt)(j:Nat):Stmt:=match s with
 |.ClassDef _ _ _ body _ _ _ _ _ _ _=>body.getD j (.Pass ⟨0,0,0,0⟩)
 |_=>.Pass ⟨0,0,0,0⟩
def gj(s:Stmt):Arguments:=match s with
 |.FunctionDef _ a _ _ _ _ _ _ _ _=>a
 |_=> {posonlyargs:=[],args:=[],vararg:=none,kwonlyargs:=[],kw_defaults:=[],kwarg:=none,defaults:=[]}
def cP(s:Stmt):List Stmt:=match s with
 |.FunctionDef _ _ b _ _ _ _ _ _ _=>b
 |_=>[]
def di(s:Stmt):Scope:=match s with
 |.FunctionDef _ _ _ _ _ _ sc _ _ _=>sc
 |_=> {kind:=.function,names:=[],isGenerator:=false,isCoroutine:=false}
abbrev qz:bE:=fun _ _ _ _ _ _=>False
abbrev E0:XK:=fun _ _ _=>False
structure k6 (K:Frag) (x qual:Str) (st:Stmt) (f:Addr) (fd:FuncData):Prop where
 ex:∃(oc:Value) (od:Option Addr) (kV doc pm:Value) (an:Option Addr) (aT ct:Value) (fj:Array (Option Value)),
  fd=PySem.W.fnOf x qual (gj st) (cP st) (di st) .none kV doc pm an aT ct/\K.lookup f=some ⟨oc,od,.func fd,fj⟩/\PySem.W.codeIn K aT qual=true
 kp:PySem.W.keepIn K (.ref f)=true
section
variable {P:Program}{w:World}{K:Frag}{mg:Str->Option Value}{base:Heap}
theorem k6.binds{x qual:Str}{st:Stmt}{f:Addr}{fd:FuncData}{ps:List Str}(F:k6 K x qual st f fd)
  (h:∀(kV doc pm:Value) (an:Option Addr) (aT ct:Value) (us:List Value),us.length=ps.length->bindArgs (PySem.W.fnOf x qual (gj st) (cP st) (di st) .none kV doc pm an aT ct) ⟨us,[]⟩=pure (ps.zip us)):Binds K fd ps []:=by
 obtain⟨oc,od,kV,doc,pm,an,aT,ct,fj,rfl,lk,gf⟩:=F.ex;exact .all<|h kV doc pm an aT ct
theorem Ci{x qual:Str}{st:Stmt}{f:Addr}{oc:Value}{od an:Option Addr}{fj:Array (Option Value)}{kV doc pm aT ct:Value}(l:K.lookup f=some ⟨oc,od,.func<|PySem.W.fnOf x qual (gj st) (cP st) (di st) .none kV doc pm an aT ct,fj⟩)
  (c:PySem.W.codeIn K aT qual=true) (k:PySem.W.keepIn K (.ref f)=true):k6 K x qual st f (PySem.W.fnOf x qual (gj st) (cP st) (di st) .none kV doc pm an aT ct):=⟨⟨oc,od,kV,doc,pm,an,aT,ct,fj,rfl,l,c⟩,k⟩
end
theorem jU{A B:Prop}(h:B):if false=true then A else B:=by
 rw[if_neg zam];exact h
theorem fk{A B:Prop}(h:A):if true=true then A else B:=by
 rw[if_pos rfl];exact h
theorem cw{c A B:Prop}[Decidable c](h1:c->A)(h2:¬c->B):if c then A else B:=by
 by_cases h:c
 ·rw[if_pos h];exact h1 h
 ·rw[if_neg h];exact h2 h
def aB(H H':Hp):Prop:= ∀b o,H b=some o->H' b=some o
theorem aB.refl(H:Hp):aB H H:=fun _ _ h=>h
theorem aB.trans{H H1 H2:Hp}(a:aB H H1)(b:aB H1 H2):aB H H2:=fun c o h=>b c o (a c o h)
theorem aB.free{H H':Hp}(e:aB H H'){l:Addr}(h:H' l=Option.none):H l=Option.none:=by
 cases q:H l with
 |none=>rfl
 |some o=>
  rw[e l o q] at h;cases h
theorem aB.seq{K:Frag}{H H':Hp}{a:Addr}{xs:List V}(e:aB H H')(h:aw K H a xs):aw K H' a xs:=by
 rcases h with(h|⟨o,h⟩)|h
 ·exact .inl (.inl<|e _ _ h)
 ·exact .inl (.inr ⟨o,e _ _ h⟩)
 ·exact .inr h
section
variable {κ:Type} [DecidableEq κ]
def cB(kvs:List (κ×V))(k:κ):Option V:=(kvs.find? fun kv=>decide (kv.1=k)).map (·.2)
def putK(kvs:List (κ×V))(k:κ)(v:V):List (κ×V):=
 if (kvs.any fun kv=>decide (kv.1=k))=true then kvs.map (fun kv=>if kv.1=k then (kv.1,v) else kv) else kvs++[(k,v)]
def fm(kvs:List (κ×V))(k:κ):List (κ×V):=kvs.filter fun kv=>decide (kv.1≠k)
theorem k7{p:κ×V}{r:List (κ×V)}{k:κ}(e:p.1=k):cB (p::r) k=some p.2:=by simp[cB,zaF,e]
theorem iG{p:κ×V}{r:List (κ×V)}{k:κ}(e:¬p.1=k):cB (p::r) k=cB r k:=by simp[cB,zaF,e]
theorem qA(k:κ):∀kvs:List (κ×V),(kvs.any fun kv=>decide (kv.1=k))=(cB kvs k).isSome
 |[]=>rfl
 |p::r=>by
  rw[zbk];by_cases e:p.1=k
  ·simp only[k7 e,zqT e,Bool.true_or,Option.isSome_some]
  ·rw[iG e,zqF e,Bool.false_or];exact qA k r
theorem xk(kvs:List (κ×V))(k:κ)(v:V):(putK kvs k v).length<=kvs.length+1:=by
 unfold putK
 split
 ·rw[zaa];omega
 ·rw[zqA,zax,List.length_nil];omega
theorem qB{kvs:List (κ×V)}{k:κ}(v:V)(h:cB kvs k=none):putK kvs k v=kvs++[(k,v)]:=by
 unfold putK;rw[qA,h];exact if_neg (by decide)
theorem eQ.xl{o:Option V}{u:Option Value}(r:eQ o u):o.isSome=u.isSome:=by
 cases o with
 |none=>cases u with
  |none=>rfl
  |some _=>exact(show False from r).elim
 |some _=>cases u with
  |none=>exact(show False from r).elim
  |some _=>rfl
theorem KV.val{kvs:List (κ×V)}{vs:List (κ×Value)}(r:KV kvs vs)(k:κ):eQ (cB kvs k) (valueAt vs k):=by
 unfold KV at r
 induction r with
 |nil=>exact True.intro
 | @cons p q ps qs h t ih=>
  obtain⟨h1,h2⟩:=h;by_cases e:p.1=k
  ·have e':q.1=k:=h1.symm.trans e;have b:valueAt (q::qs) k=some q.2:=by simp[valueAt,zaF,e']
   rw[k7 e,b];exact h2
  ·have e':¬q.1=k:=fun z=>e (h1.trans z);have b:valueAt (q::qs) k=valueAt qs k:=by simp[valueAt,zaF,e']
   rw[iG e,b];exact ih
theorem KV.any{kvs:List (κ×V)}{vs:List (κ×Value)}(r:KV kvs vs)(k:κ):(kvs.any fun kv=>decide (kv.1=k))=vs.any fun kv=>decide (kv.1=k):=by
 unfold KV at r
 induction r with
 |nil=>rfl
 |cons h t ih=>rw[zbk,zbk,ih,h.1]
theorem KV.xn{kvs:List (κ×V)}{vs:List (κ×Value)}(r:KV kvs vs)(k:κ){y:V}{u:Value}(ry:RelV y u):
  KV (kvs.map fun kv=>if kv.1=k then (kv.1,y) else kv) (vs.map fun kv=>if kv.1=k then (kv.1,u) else kv):=by
 unfold KV at r⊢
 induction r with
 |nil=>exact .nil
 | @cons p q ps qs h t ih=>
  rw[zak,zak];refine .cons ?_ ih;obtain⟨h1,h2⟩:=h;by_cases e:p.1=k
  ·rw[if_pos e,if_pos<|h1.symm.trans e];exact⟨h1,ry⟩
  ·rw[if_neg e,if_neg<|fun z=>e<|h1.trans z];exact⟨h1,h2⟩
theorem KV.put{kvs:List (κ×V)}{vs:List (κ×Value)}(r:KV kvs vs)(k:κ){y:V}{u:Value}(ry:RelV y u):KV (putK kvs k y) (stored vs k u):=by
 unfold putK stored;rw[r.any k];by_cases e:(vs.any fun kv=>decide (kv.1=k))=true
 ·rw[if_pos e,if_pos e];exact r.xn k ry
 ·rw[if_neg e,if_neg e];exact Paired.snoc r ⟨rfl,ry⟩
theorem KV.drop{kvs:List (κ×V)}{vs:List (κ×Value)}(r:KV kvs vs)(k:κ):KV (fm kvs k) (without vs k):=by
 unfold KV at r⊢;unfold fm without
 induction r with
 |nil=>exact .nil
 | @cons p q ps qs h t ih=>
  obtain⟨h1,h2⟩:=h;rw[List.filter_cons,List.filter_cons];by_cases e:p.1=k
  ·have a:¬decide (p.1≠k)=true:=by simp[e]
   have b:¬decide (q.1≠k)=true:=by simp[h1.symm.trans e]
   rw[if_neg a,if_neg b];exact ih
  ·have e':¬q.1=k:=fun z=>e (h1.trans z);have a:decide (p.1≠k)=true:=by simp[e]
   have b:decide (q.1≠k)=true:=by simp[e']
   rw[if_pos a,if_pos b];exact .cons ⟨h1,h2⟩ ih
theorem KV.length{kvs:List (κ×V)}{vs:List (κ×Value)}(r:KV kvs vs):kvs.length=vs.length:=Paired.length r
theorem Mv(kvs:List (κ×V))(k:κ):(fm kvs k).length<=kvs.length:=zaC _ _
end
theorem oF{P:Program}{w:World}{k:Key}{u:Value}(r:RelV (kV k) u):(ck P w).is k u=true:=by
 cases k with
 |inl i=>obtain⟨t,e⟩:=(show ∃t,u=Value.int i t from r);subst e;exact AQ P w i t
 |inr x=>obtain⟨t,e⟩:=(show ∃t,u=Value.str x t from r);subst e;exact AR P w x t
theorem Cj{P:Program}{w:World}:∀{ks:List Key}{us:List Value},Vals (ks.map kV) us->ItemsAre (ck P w) ks us
 |[],_,r=>by rw[zaH] at r;cases r;exact .nil
 |k::ks,_,r=>by
  rw[zak] at r;cases r with
  |cons h t=>exact .cons (oF h) (Cj t)
abbrev KT(H:Hp):List (List Key×V)->List (List Key×Addr×Value)->Prop:=Paired fun p q=>p.1=q.1/\H q.2.1=some (.tup<|p.1.map kV)/\RelV p.2 q.2.2
theorem KT.val{H:Hp}{kvs:List (List Key×V)}{xs:List (List Key×Addr×Value)}(r:KT H kvs xs)(k:List Key):eQ (cB kvs k) ((atKey xs k).map (·.2)):=by
 induction r with
 |nil=>exact True.intro
 | @cons p q ps qs h t ih=>
  obtain⟨h1,_,h2⟩:=h;by_cases e:p.1=k
  ·have e':q.1=k:=h1.symm.trans e;have b:atKey (q::qs) k=some q.2:=by simp[atKey,zaF,e']
   rw[k7 e,b];exact h2
  ·have e':¬q.1=k:=fun z=>e (h1.trans z);have b:atKey (q::qs) k=atKey qs k:=by simp[atKey,zaF,e']
   rw[iG e,b];exact ih
theorem KT.xn{H:Hp}{kvs:List (List Key×V)}{xs:List (List Key×Addr×Value)}(r:KT H kvs xs)(k:List Key){y:V}{u:Value}(ry:RelV y u):
  KT H (kvs.map fun kv=>if kv.1=k then (kv.1,y) else kv) (xs.map<|putAt k u):=by
 induction r with
 |nil=>exact .nil
 | @cons p q ps qs h t ih=>
  rw[zak,zak];refine .cons ?_ ih;obtain⟨h1,h2,h3⟩:=h;unfold putAt;by_cases e:p.1=k
  ·rw[if_pos e,if_pos<|h1.symm.trans e];exact⟨h1,h2,ry⟩
  ·rw[if_neg e,if_neg<|fun z=>e<|h1.trans z];exact⟨h1,h2,h3⟩
theorem KT.put{H:Hp}{kvs:List (List Key×V)}{xs:List (List Key×Addr×Value)}(r:KT H kvs xs)(k:List Key){b:Addr}{y:V}{u:Value}(hb:H b=some (.tup<|k.map kV))(ry:RelV y u):
  KT H (putK kvs k y) (storedH xs k b u):=by
 have e:(kvs.any fun kv=>decide (kv.1=k))=(atKey xs k).isSome:=by
  rw[qA,(r.val k).xl,Option.isSome_map]
 unfold putK storedH;rw[e];by_cases q:(atKey xs k).isSome=true
 ·rw[if_pos q,if_pos q];exact r.xn k ry
 ·rw[if_neg q,if_neg q];exact Paired.snoc r ⟨rfl,hb,ry⟩
theorem KT.keeps{H H':Hp}{kvs:List (List Key×V)}{xs:List (List Key×Addr×Value)}(r:KT H kvs xs)(ht:∀b ys,H b=some (.tup ys)->H' b=some (.tup ys)):KT H' kvs xs:=
 Paired.bY r fun _ _ z=>⟨z.1,ht _ _ z.2.1,z.2.2⟩
section
variable {P:Program}{w:World}{H:Hp}{h:Heap}{a:Addr}
theorem Ck{u:HO}(ok:bD P w H h)(e:Rd H a u):bI P w H h a u:=e.ok ok
theorem qC{kvs:List (Key×V)}(ok:bD P w H h)(e:Rd H a (.dK kvs)):kvs.length<=sizeLine/\(a==sysModules)=false/\∃vs,KV kvs vs/\h.DictOf (ck P w) a vs:=
 show bI P w H h a (.dK kvs) from Ck ok e
theorem mG{kvs:List (Key×V)}(ok:bD P w H h)(e:H a=some (.dK kvs)):kvs.length<=sizeLine/\(a==sysModules)=false/\∃vs,KV kvs vs/\h.DictOf (ck P w) a vs:=qC ok (.inl e)
theorem uf{ks:List Key}(ok:bD P w H h)(e:H a=some (.tup<|ks.map kV)):(tupleKind<|ck P w).is h ks a:=by
 obtain⟨_,aj,r,o,h1,h2,n,h3⟩:=(show bI P w H h a (.tup<|ks.map kV) from ok a _ e)
 exact⟨o,aj.toArray,n,h1,h2,h3,by simpa using Cj r⟩
theorem qD{kvs:List (List Key×V)}(ok:bD P w H h)(e:Rd H a (.dT kvs)):kvs.length<=sizeLine/\(a==sysModules)=false/\
  ∃xs,KT H kvs xs/\h.DictOfH (tupleKind<|ck P w) a xs:=by
 obtain⟨z,y,xs,r,o,es,ep,h1,h2,h3,h4,h5⟩:=(show bI P w H h a (.dT kvs) from Ck ok e)
 refine⟨z,y,xs,r,o,es,ep,h1,h2,h3,h4,fun x hx=>?_,h5⟩;have all:∀{l:List (List Key×V)}{m:List (List Key×Addr×Value)},KT H l m->∀x∈m,(tupleKind<|ck P w).is h x.1 x.2.1:=by
  intro l m q
  induction q with
  |nil=>intro x hx;exact nomatch hx
  | @cons p q ps qs hq t ih=>
   intro x hx;rcases zae.mp hx with e|hx
   ·subst e;exact uf ok (by rw[<-hq.1];exact hq.2.1)
   ·exact ih x hx
 exact all r x hx
theorem Mw{kvs:List (List Key×V)}(ok:bD P w H h)(e:H a=some (.dT kvs)):kvs.length<=sizeLine/\(a==sysModules)=false/\
  ∃xs,KT H kvs xs/\h.DictOfH (tupleKind<|ck P w) a xs:=qD ok (.inl e)
end
def cm(H:Hp)(a:Addr)(y:V)(r:Option V):Prop:=
 (∃kvs k,Rd H a (.dK kvs)/\y=kV k/\r=cB kvs k)\/∃kvs k b,Rd H a (.dT kvs)/\y=.ref b/\H b=some (.tup<|k.map kV)/\r=cB kvs k
def iH(H:Hp)(a:Addr)(y v:V)(H':Hp):Prop:=
 (∃kvs k,H a=some (.dK kvs)/\y=kV k/\kvs.length<sizeLine/\H'=upd H a (.dK<|putK kvs k v))\/
 ∃kvs k b,H a=some (.dT kvs)/\y=.ref b/\H b=some (.tup<|k.map kV)/\kvs.length<sizeLine/\H'=upd H a (.dT<|putK kvs k v)
theorem cm.k{H:Hp}{a:Addr}{kvs:List (Key×V)}{k:Key}(e:H a=some (.dK kvs)):cm H a (kV k) (cB kvs k):=.inl ⟨kvs,k,.inl e,rfl,rfl⟩
theorem iH.k{H:Hp}{a:Addr}{kvs:List (Key×V)}{k:Key}{v:V}(e:H a=some (.dK kvs))(hl:kvs.length<sizeLine):iH H a (kV k) v (upd H a<|.dK<|putK kvs k v):=.inl ⟨kvs,k,e,rfl,hl,rfl⟩
section
variable {X:Cx}{pins:List (Addr×Obj)}{σ:St}{H:Hp}{s:Shared}{a:Addr}{y v:V}{u r:Value}{o:Option V}{A:Around}{E:Value->Shared->Prop}
theorem Inv.big(I:Inv X pins σ H s):sysModules<s.heap.objs.size:=by
 have h:mainGlobals<s.heap.objs.size:=(I.mod.glob.keeps I.bk).lt;exact Nat.lt_trans (by decide) h
theorem Mx{Q:Value->Shared->Prop}(hu:A.units+1<cLine)(I:Inv X pins σ H s)(g:cm H a y (some v))(ry:RelV y u)(h:∀w' s',Inv X pins σ H s'->RelV v w'->Q w' s'):
  wpAny (model X.prog X.w) A (getItem (.ref a) u) Q E s:=by
 rcases g with⟨kvs,k,e,ey,l⟩|⟨kvs,k,b,e,ey,eb,l⟩
 ·subst ey;obtain⟨z,hd,vs,rel,dd⟩:=qC I.aA e;obtain⟨w',hw,e7⟩:=eQ.some_of (v:=v) (o:=valueAt vs k) (by rw[l];exact rel.val k)
  exact wpAny_getItem_of (oF ry) dd.mapOf hw<|h w' _ (I.tok _) e7
 ·subst ey;cases (show u=Value.ref b from ry)
  obtain⟨z,hd,xs,rel,dd⟩:=qD I.aA e;obtain⟨w',hw,e7⟩:=eQ.some_of (v:=v) (o:=(atKey xs k).map (·.2)) (by rw[l];exact rel.val k)
  obtain⟨p,hp,oG⟩:=Option.map_eq_some_iff.mp hw;refine wpAny_getItem_heap (tupleKind_room_in1 hu) (uf I.aA eb) dd hp ?_;rw[oG];exact h w' _ (I.tok _) e7
theorem My{Q:Value->Shared->Prop}(hu:A.units+1<cLine)(I:Inv X pins σ H s)(g:cm H a y o)(ry:RelV y u)(h:∀s',Inv X pins σ H s'->Q (.bool<|!o.isSome) s'):
  wpAny (model X.prog X.w) A (compareOp .NotIn u<|.ref a) Q E s:=by
 rcases g with⟨kvs,k,e,ey,l⟩|⟨kvs,k,b,e,ey,eb,l⟩
 ·subst ey;obtain⟨z,hd,vs,rel,dd⟩:=qC I.aA e;refine wpAny_notIn_of (oF ry) hd dd.mapOf ?_;rw[<-(rel.val k).xl,<-l];exact h _<|I.tok _
 ·subst ey;cases (show u=Value.ref b from ry)
  obtain⟨z,hd,xs,rel,dd⟩:=qD I.aA e;refine wpAny_notIn_heap (tupleKind_room_in1 hu) (uf I.aA eb) hd dd ?_;have q:=(rel.val k).xl;rw[Option.isSome_map] at q;rw[<-q,<-l];exact h _<|I.tok _
theorem ug{h':Heap}{t':Nat}{ob:HO}(I:Inv X pins σ H s)(mu:oq (H a))(hs:Heap.SameBut a s.heap h')(he:∃q,h'.get? a=some q)(new:bI X.prog X.w (upd H a ob) h' a ob):
  Inv X pins σ (upd H a ob) {s with heap:=h',toks:=t'}:=
 I.write (x:=a) (e:=a) mu (.inl rfl) (fun b q hb z=>(hs.2 b hb).trans z) he new
theorem xo{P:Program}{w:World}{H':Hp}{h':Heap}{kvs:List (Key×V)}{vs:List (Key×Value)}(z:kvs.length<=sizeLine)(hd:(a==sysModules)=false)(rel:KV kvs vs)(dd:h'.DictOf (ck P w) a vs):
  bI P w H' h' a (.dK kvs):=⟨z,hd,vs,rel,dd⟩
theorem Mz{H':Hp}{Q:Unit->Shared->Prop}(hu:A.units+1<cLine)(I:Inv X pins σ H s)(g:iH H a y v H')(ry:RelV y u)(rv:RelV v r)(h:∀s',Inv X pins σ H' s'->Q () s'):
  wpAny (model X.prog X.w) A (setItem (.ref a) u r) Q E s:=by
 rcases g with⟨kvs,k,e,ey,l,eH⟩|⟨kvs,k,b,e,ey,eb,l,eH⟩
 ·subst ey eH;obtain⟨z,hd,vs,rel,dd⟩:=mG I.aA e;have hz:vs.length<=sizeLine:=by rw[<-rel.length];exact z
  have hl:(putK kvs k v).length<=sizeLine:=by have:=xk kvs k v;omega
  refine wpAny_setItem_pairs (hsz:=hz) (oF ry) dd fun h' je hs=>h _ ?_;have he:∃q,h'.get? a=some q:=let ⟨q,_,_,hq,_⟩:=je;⟨q,hq⟩;exact ug I (by rw[e];exact True.intro) hs he<|xo hl hd (rel.put k rv) je
 ·subst ey eH;cases (show u=Value.ref b from ry)
  obtain⟨z,hd,xs,rel,dd⟩:=Mw I.aA e;have hz:xs.length<=sizeLine:=by rw[<-Paired.length rel];exact z
  have hl:(putK kvs k v).length<=sizeLine:=by have:=xk kvs k v;omega
  refine wpAny_setItem_heap (hsz:=hz) (tupleKind_room_in1 hu) (uf I.aA eb) dd fun h' je hs=>h _ ?_;obtain⟨q,es,ep,hq,h2,h3,h4,_,h5⟩:=je;refine ug I (by rw[e];exact True.intro) hs ⟨q,hq⟩ ⟨hl,hd,_,(rel.put k eb rv).keeps fun c ys ec=>?_,q,es,ep,hq,h2,h3,h4,h5⟩
  rw[av<|iz ec e<|fun z=>nomatch z];exact ec
end
section
variable {X:Cx}{pins:List (Addr×Obj)}{σ:St}{H:Hp}{s:Shared}{a:Addr}{kvs:List (Key×V)}{k:Key}{u:Value}{A:Around}{E:Value->Shared->Prop}
theorem MA{v:V}{more:List Value}{Q:Value->Shared->Prop}(I:Inv X pins σ H s)(e:H a=some (.dK kvs))(ry:RelV (kV k) u)(l:cB kvs k=some v)(hm:more=[]\/∃x,more=[x])
  (h:∀w' s',Inv X pins σ (upd H a<|.dK<|fm kvs k) s'->RelV v w'->Q w' s'):wpAny (model X.prog X.w) A (call (.builtin "dict.pop") (.ref a::u::more)) Q E s:=by
 obtain⟨z,hd,vs,rel,dd⟩:=mG I.aA e;obtain⟨w',hw,e7⟩:=eQ.some_of (v:=v) (o:=valueAt vs k) (by rw[<-l];exact rel.val k)
 have hp:(keyPart u).isSome=true:=by
  cases k with
  |inl i=>obtain⟨t,q⟩:=(show ∃t,u=Value.int i t from ry);subst q;rfl
  |inr x=>obtain⟨t,q⟩:=(show ∃t,u=Value.str x t from ry);subst q;rfl
 have ha:argsOk "dict.pop" ⟨.ref a::u::more,[]⟩:=by
  rcases hm with q|⟨x,q⟩
  ·subst q;exact PySem.F.args_dict_pop_2 _ _
  ·subst q;exact PySem.F.args_dict_pop_3 _ _ _
 refine call_meetsIn PySem.F.slot_dict_pop dd.typeIs PySem.F.entry_dict_pop ha (meets_dict_pop_there (ck X.prog X.w) a (oF ry) more hm hp)
  ⟨vs,w',dd,by rw[<-rel.length];exact z,hw,fun h' je hs=>h w' _ ?_ e7⟩
 have he:∃q,h'.get? a=some q:=let ⟨q,_,_,hq,_⟩:=je;⟨q,hq⟩;exact ug I (by rw[e];exact True.intro) hs he<|xo (zaw (Mv kvs k) z) hd (rel.drop k) je
end
def xp(i:Expr):Prop:= ∀ov iv,subscripted i false ov iv=operate [ov,iv] (getItem ov iv)
theorem MB{prog:Program}{w:World}{A:Around}{E:Value->Shared->Prop}{s:Shared}{env:Env}{value slice:Expr}{pos:Pos}{T id:String}{Q:Value->Shared->Prop}
  (hl:typeLookup (.type T) "__getitem__"=pure (some<|.builtin id)) (hs:xp slice)
  (h:wpAny (model prog w) A (eval value env) (fun o s₁=>wpAny (model prog w) A (eval slice env) (fun i s₂=>s₂.TypeIs o T/\wpAny (model prog w) A (getItem o i) Q E s₂) E s₁) E s):
  wpAny (model prog w) A (eval (.Subscript value slice pos) env) Q E s:=by
 refine Subscript_<|wpAny_mono h (fun o s₁ h₁=>wpAny_mono h₁ (fun i s₂ h₂=>?_) fun _ _ x=>x) fun _ _ x=>x;obtain⟨hT,h₂⟩:=h₂;unfold subscriptTail;refine wpAny_bind ?_;rw[getitemInPython_of_ne hT.not_modules];refine wpAny_bind<|wpAny_specialOf hT hl ?_;have fin:wpAny (model prog w) A (subscripted slice false o i) (fun r s₃=>wpAny (model prog w) A (letTemporaryGo value o r>>=fun _=>pure r) Q E s₃) E s₂:=by
  rw[hs o i];exact wpAny_operating<|wpAny_mono h₂ (fun r s₃ h₃=>wpAny_bind<|wpAny_letTemporaryGo<|wpAny_pure h₃) fun _ _ x=>x
 first
  |exact wpAny_pure (wpAny_bind fin)
  |exact wpAny_bind (wpAny_pure<|wpAny_bind fin)
  |exact wpAny_bind fin
theorem MC{X:Cx}{pins:List (Addr×Obj)}{σ:St}{H:Hp}{s:Shared}{a:Addr}{y:V}{o:Option V}(I:Inv X pins σ H s)(g:cm H a y o):s.TypeIs (.ref a) "dict":=by
 rcases g with⟨kvs,k,e,_,_⟩|⟨kvs,k,b,e,_,_,_⟩
 ·obtain⟨_,_,vs,_,dd⟩:=qC I.aA e;exact dd.typeIs
 ·obtain⟨_,_,xs,_,dd⟩:=qD I.aA e;exact dd.typeIs
def Cm(td ty:TE):TE:=fun σ H Q=>td σ H fun x H1=>ty σ H1 fun y H2=>∃a v,x=.ref a/\cm H2 a y (some v)/\Q v H2
def Cn(ty td:TE):TE:=fun σ H Q=>ty σ H fun y H1=>td σ H1 fun x H2=>∃a o,x=.ref a/\cm H2 a y o/\Q (.bl o.isSome) H2
def xq(ty td:TE):TE:=fun σ H Q=>ty σ H fun y H1=>td σ H1 fun x H2=>∃a o,x=.ref a/\cm H2 a y o/\Q (.bl<|!o.isSome) H2
def Co(td ty tv:TE):TS:=fun D σ H=>tv σ H fun v H1=>td σ H1 fun x H2=>ty σ H2 fun y H3=>∃a H4,x=.ref a/\iH H3 a y v H4/\D.nx σ H4
section
variable {X:Cx}{o i e value:Expr}{pos pos' K_:Pos}{td ty tv:TE}
theorem MD(hu:X.A.units+1<cLine)(ho:PE X o td)(hi:PE X i ty)(hs:xp i):PE X (.Subscript o i pos) (Cm td ty):=by
 intro pins s σ H Q I h;refine MB PySem.F.slot_dict_getitem.lookup hs<|aF (ho pins s σ H _ I h) fun u s1 ⟨x,H1,I1,rx,q1⟩=>aF (hi pins s1 σ H1 _ I1 q1) fun iv s2 ⟨y,H2,I2,ry,a,v,ex,g,q2⟩=>?_;subst ex;obtain rfl:u=Value.ref a:=rx;exact⟨MC I2 g,Mx hu I2 g ry fun w' s3 I3 e7=>⟨v,H2,I3,e7,q2⟩⟩
theorem ME(hu:X.A.units+1<cLine)(hi:PE X i ty)(ho:PE X o td):PC X .NotIn i o (xq ty td):=by
 intro pins s σ H Q I h;refine aF (hi pins s σ H _ I h) fun iv s1 ⟨y,H1,I1,ry,q1⟩=>aF (ho pins s1 σ H1 _ I1 q1) fun u s2 ⟨x,H2,I2,rx,a,ov,ex,g,q2⟩=>?_;subst ex;obtain rfl:u=Value.ref a:=rx;exact My hu I2 g ry fun s3 I3=>⟨.bl<|!ov.isSome,H2,I3,rfl,q2⟩
theorem MF(hu:X.A.units+1<cLine)(ho:PE X o td)(hi:PE X i ty)(hv:PE X value tv)(hs:swapsWith value (some<|.Subscript o i pos') pos.line X.env=pure false):
  PS X (.Assign [.Subscript o i pos'] value pos) (Co td ty tv):=by
 intro pins s σ H D I h;refine wpAny_Assign_Subscript (aF (hv pins s σ H _ I h) fun r s1 ⟨v,H1,I1,rv,q1⟩=>aF (ho pins s1 σ H1 _ I1 q1) fun u s2 ⟨x,H2,I2,rx,q2⟩=>aF (hi pins s2 σ H2 _ I2 q2) fun iv s3 ⟨y,H3,I3,ry,a,H4,ex,g,q3⟩=>?_) hs;subst ex;obtain rfl:u=Value.ref a:=rx;exact Mz hu I3 g ry rv fun s4 I4=>⟨σ,H4,I4,q3⟩
end
theorem MG{P:Program}{w:World}{H:Hp}(h:Heap)(hb:sysModules<h.objs.size):bI P w H (h.push {cls:=.type "dict",data:=.dict #[]}) h.objs.size (.dK []):=
 ⟨zqZ _,beq_eq_false_iff_ne.mpr<|Ne.symm<|zab hb,[],.nil,Heap.DictOf.new h⟩
def MH:TE:=fun _ H Q=>∀p,H p=none->Q (.ref p) (upd H p<|.dT [])
def uh(H:Hp)(a:Addr):Prop:=(∃kvs,Rd H a<|.dK kvs)\/∃kvs,Rd H a (.dT kvs)
theorem MI{X:Cx}{pins:List (Addr×Obj)}{σ:St}{H:Hp}{s:Shared}{a:Addr}(I:Inv X pins σ H s)(d:uh H a):
  s.TypeIs (.ref a) "dict"/\(∀b,Value.ref a=.ref b->∃ob,s.heap.get? b=some ob/\ob.dict=none)/\(a==sysModules)=false:=by
 rcases d with⟨kvs,e⟩|⟨kvs,e⟩
 ·obtain⟨_,hd,vs,_,dd⟩:=qC I.aA e;refine⟨dd.typeIs,fun b q=>?_,hd⟩;cases q;obtain⟨ob,_,_,h1,h2,_⟩:=dd;exact⟨ob,h1,h2.2.1⟩
 ·obtain⟨_,hd,xs,_,dd⟩:=qD I.aA e;refine⟨dd.typeIs,fun b q=>?_,hd⟩;cases q;obtain⟨ob,_,_,h1,h2,_⟩:=dd;exact⟨ob,h1,h2.2.1⟩
def MJ(td ty tx:TE):TE:=fun σ H Q=>td σ H fun x H1=>∃a,x=.ref a/\uh H1 a/\ty σ H1 fun y H2=>tx σ H2 fun z H3=>∃o,cm H3 a y o/\Q (o.getD z) H3
end L2
set_option maxHeartbeats 4000000
namespace L2
open PySem PySem.Spec PyProof.Rows
section
variable {X:Cx}{pins:List (Addr×Obj)}{σ:St}{H:Hp}{s:Shared}{a:Addr}{o:HO}
theorem Inv.MK(I:Inv X pins σ H s)(hn:H a=none)(h0:X.s₀.heap.objs.size<=a)(hL:a≠X.env.locals)(hC:∀x c,X.env.cells.lookup x=some c->c≠a)
  (hp:∀p∈X.pn++pins,p.1≠a) (new:bI X.prog X.w (upd H a o) s.heap a o):Inv X pins σ (upd H a o) s:=by
 have ML:∀b u,X.s₀.heap.get? b=some u->b≠a:=fun b u e=>zab (zau (Heap.lt_size e) h0);have qE:∀b u,H b=some u->b≠a:=fun b u e=>aS e hn;refine⟨I.ok,I.os,I.bare,⟨I.base.keep,I.base.slot,fun b u e n hx=>?_,I.base.there,fun b xs e=>?_,fun b u xs e=>?_,fun b ps e=>?_⟩,I.loc,I.cell,?_,fun x c e=>?_,fun p q=>?_,fun b u e=>?_,I.len⟩
 ·rw[av<|ML b u e];exact I.base.free b u e n hx
 ·have z:=I.base.d4 b xs e;rw[av<|qE b _ z];exact z
 ·have z:=I.base.dS b u xs e;rw[av<|qE b _ z];exact z
 ·obtain⟨m,z⟩:=I.base.eT b ps e;exact⟨m,by rw[av<|qE b _ z];exact z⟩
 ·rw[av<|Ne.symm hL];exact I.free
 ·rw[av<|hC x c e];exact I.eU x c e
 ·obtain⟨z1,z2,z3⟩:=I.pin p q;exact⟨z1,by rw[av<|hp p q];exact z2,z3⟩
 ·by_cases hb:b=a
  ·subst hb;rw[az] at e;cases e;exact new
  ·rw[av hb] at e;exact(I.aA b u e).iA (fun _ _ _ q=>q) (fun c q=>by rw[av<|qE c _ q];exact q) fun c xs q=>by rw[av<|qE c _ q];exact q
end
def cX(cells:List (Str×Addr)):List (Str×NameKind)->List (Str×Addr)->List (Str×Addr)
 |[],acc=>acc
 |(n,k)::r,acc=>cX cells r (if k=.free then (n,(cells.lookup n).getD 0)::acc else acc)
theorem Cp(env:Env):∀(names:List (Str×NameKind)) (acc:List (Str×Addr)),(∀y∈names,y.2=.free->∃c,env.cells.lookup y.1=some c)->
  (forIn names acc (fun(x:Str×NameKind) (cs:List (Str×Addr))=>match x with
   |(name,kind)=>if (kind==NameKind.free)=true then do let a <-cellOf env name;pure (ForInStep.yield ((name,a)::cs)) else pure (ForInStep.yield cs)):Sem (List (Str×Addr)))=pure (cX env.cells names acc)
 |[],acc,_=>rfl
 |(n,k)::r,acc,h=>by
  have hr:=fun qF=>Cp env r qF fun y hy=>h y (zao _ hy);rw[List.forIn_cons];by_cases hk:k=.free
  ·subst hk;obtain⟨c,e⟩:=h (n,.free) zap rfl;have e':cellOf env n=pure c:=by unfold cellOf;rw[e]
   have ec:cX env.cells ((n,.free)::r) acc=cX env.cells r ((n,c)::acc):=by simp[cX,e]
   rw[ec,<-hr]
   simp[e']
  ·have hb:(k==NameKind.free)=false:=by simpa using hk
   have ec:cX env.cells ((n,k)::r) acc=cX env.cells r acc:=by simp[cX,hk]
   rw[ec,<-hr]
   simp[hb]
theorem MM{scope:Scope}{env:Env}(h:∀y∈scope.names,y.2=.free->∃c,env.cells.lookup y.1=some c):closureFor scope env=pure (cX env.cells scope.names []):=by
 have:=Cp env scope.names [] h
 simp only[closureFor]
 rw[<-this]
 simp
theorem Cq{cells:List (Str×Addr)}:∀(names:List (Str×NameKind)) (acc:List (Str×Addr)) (x:Str) (c:Addr),(cX cells names acc).lookup x=some c->(acc.lookup x=some c)\/((x,.free)∈names/\(cells.lookup x).getD 0=c)
 |[],acc,x,c,h=>.inl h
 |(n,k)::r,acc,x,c,h=>by
  simp only[cX] at h
  rcases Cq r _ x c h with z|⟨z1,z2⟩
  ·by_cases hk:k=.free
   ·subst hk
    simp only[if_true] at z
    rw[zaT] at z;by_cases hx:x==n
    ·simp only[hx] at z
     have MN:x=n:=eq_of_beq hx;subst MN;exact .inr ⟨zap,zan z⟩
    ·have mH:(x==n)=false:=by simpa using hx
     simp only[mH] at z
     exact .inl z
   ·simp only[if_neg hk] at z
    exact .inl z
  ·exact .inr ⟨zao _ z1,z2⟩
theorem xr{cells:List (Str×Addr)}:∀(names:List (Str×NameKind)) (acc:List (Str×Addr)) (x:Str),((x,NameKind.free)∈names\/∃c,acc.lookup x=some c)->∃c,(cX cells names acc).lookup x=some c
 |[],acc,x,h=>by
  rcases h with h|h
  ·cases h
  ·exact h
 |(n,k)::r,acc,x,h=>by
  simp only[cX]
  refine xr r _ x ?_;rcases h with h|⟨c,h⟩
  ·rcases zae.mp h with e|h
   ·cases e;refine .inr ?_
    simp[zaT]
   ·exact .inl h
  ·refine .inr ?_;by_cases hk:k=.free
   ·simp only[if_pos hk,zaT]
    cases hx:x==n
    ·exact⟨c,h⟩
    ·exact⟨_,rfl⟩
   ·simp only[if_neg hk];exact⟨c,h⟩
theorem Cr{env:Env}:∀(names:List (Str×NameKind)) (x:Str),
  (names.map fun(n,k)=>if (k==NameKind.free && env.scope.kind==.function && env.kindOf n==some .cell) then (n,NameKind.cell) else (n,k)).lookup x=
   (names.lookup x).map fun k=>if (k==NameKind.free && env.scope.kind==.function && env.kindOf x==some .cell) then NameKind.cell else k
 |[],_=>rfl
 |(n,k)::r,x=>by
  have ih:=Cr (env:=env) r x;show List.lookup x ((if (k==NameKind.free && env.scope.kind==.function && env.kindOf n==some .cell)=true then (n,NameKind.cell) else (n,k))::_)=_
  cases hx:x==n with
  |true=>
   have e:x=n:=eq_of_beq hx;subst e;by_cases hc:(k==NameKind.free && env.scope.kind==.function && env.kindOf x==some .cell)=true
   ·rw[if_pos hc];simp only[zaT,beq_self_eq_true,zby];rw[if_pos hc]
   ·rw[if_neg hc];simp only[zaT,beq_self_eq_true,zby];rw[if_neg hc]
  |false=>
   by_cases hc:(k==NameKind.free && env.scope.kind==.function && env.kindOf n==some .cell)=true
   ·rw[if_pos hc];simp only[zaT,hx];exact ih
   ·rw[if_neg hc];simp only[zaT,hx];exact ih
section
variable {prog:Program}{w:World}{A:Around}{R:Result->Shared->Prop}{s:Shared}
theorem MO{elt target iter:Expr}{ifs:List Expr}{scope:Scope}{pos:Pos}{it acc:Value}{env:Env}(I:Nat->Shared->Prop)
  (turn:∀n s,I n s->wpAny (model prog w) A (pyNext it) (fun r s₁=>match r with
   |none=>R (.ok .next) s₁
   |some v=>wpAny (model prog w) A (letOwnedTupleGo target it v) (fun _ Cs=>wpAny (model prog w) A (assign target env v) (fun _ s₂=>
     wpAny (model prog w) A (forIn ifs true fun c r=>if r=true then do let ok <-isTrue c env (eval c env);pure (ForInStep.yield ok) else pure (ForInStep.yield r)) (fun ok s₃=>
      if ok=true then wpAny (model prog w) A (eval elt env) (fun x s₄=>
       wpAny (model prog w) A (call (.builtin "list.append") [acc,x]) (fun _ s₅=>∃m,m<n/\I m s₅) (fun _ _=>False) s₄) (fun _ _=>False) s₃
      else ∃m,m<n/\I m s₃) (fun _ _=>False) s₂) (fun _ _=>False) Cs) (fun _ _=>False) s₁) (fun _ _=>False) s)
  (n:Nat) (h:I n s):codeAny (model prog w) A (.compLoop (.ListComp elt [⟨target,iter,ifs,0⟩] scope pos) 0 it acc env) R s:=by
 refine codeAny_loop rfl I (fun n s hI=>?_) n h;show wpAny _ A ((compTurn (.ListComp elt [⟨target,iter,ifs,0⟩] scope pos) 0 it acc env).onRaise (fun x=>do noteFrame x env;theTreesLotGoes x)) _ _ s
 refine wpAny_noted ?_;rw[compTurn_list];refine wpAny_bind<|wpAny_standAt<|wpAny_bind<|wpAny_mono (turn n s hI) (fun r s₁ h₁=>?_) fun _ _ h'=>h'.elim;cases r with
 |none=>exact wpAny_pure h₁
 |some v=>
  refine wpAny_bind<|wpAny_mono h₁ (fun _ Cs MP=>?_) fun _ _ h'=>h'.elim;refine wpAny_bind<|wpAny_mono MP (fun _ s₂ h₂=>wpAny_bind<|wpAny_mono h₂ (fun ok s₃ h₃=>?_) fun _ _ h'=>h'.elim) fun _ _ h'=>h'.elim;cases ok with
  |false=>exact wpAny_pure ⟨rfl,h₃⟩
  |true=>
   exact wpAny_bind<|wpAny_bind<|wpAny_mono h₃ (fun x s₄ h₄=>wpAny_bind<|wpAny_mono h₄ (fun _ s₅ h₅=>wpAny_pure<|wpAny_pure ⟨rfl,h₅⟩) fun _ _ h'=>h'.elim) fun _ _ h'=>h'.elim
end
def fu(X:Cx)(scope:Scope)(N:List Str)(ex:List Addr)(C:Addr)(s:Shared)(H:Hp):Cx where
 prog:=X.prog
 w:=X.w
 K:=X.K
 mg:=X.mg
 base:=X.base
 A:=X.A
 N:=N
 s₀:=s
 H₀:=H
 env:=compEnvC scope (cX X.env.cells scope.names []) C X.env
 outer:=X.stack
 stack:=X.stack
 ex:=ex
 fn:=fun _=>false
 calm:=X.calm
 pn:=[]
 xe:=fun _ _=>False
structure iI (X:Cx) (scope:Scope) (ln:List Str) (fv:List (Str×Nat)):Prop where
 kind:scope.kind=.function
 Cu:∀y∈scope.names,y.2≠ .cell
 locals:∀y∈scope.names,y.2=.local->scope.names.lookup y.1=some .local
 free:∀y∈scope.names,y.2=.free->(X.env.kindOf y.1=some .cell\/X.env.kindOf y.1=some .free)
 MQ:∀p∈fv,X.N[p.2]?=some p.1/\scope.names.lookup p.1=some .free
def bU(σ:St)(fv:List (Str×Nat)):St:=fv.map fun p=>(σ[p.2]?).join
def iJ(K:Frag):Option Nat->V->Hp->(List V->Prop)->Prop
 |none,x,_,Q=>Q [x]
 |some n,x,H,Q=>if n=102 then ∃a xs,x=.ref a/\aw K H a xs/\xs.length=2/\Q xs else ∃a xs,x=.ref a/\aO K H a xs/\xs.length=n/\Q xs
theorem MR{K:Frag}{n:Nat}{x:V}{H:Hp}{P Q:List V->Prop}(h:iJ K (some n) x H P)(k:∀xs,P xs->Q xs):iJ K (some n) x H Q:=by
 by_cases e:n=102
 ·have h:if n=102 then ∃a xs,x=.ref a/\aw K H a xs/\xs.length=2/\P xs else ∃a xs,x=.ref a/\aO K H a xs/\xs.length=n/\P xs:=h
  show if n=102 then ∃a xs,x=.ref a/\aw K H a xs/\xs.length=2/\Q xs else ∃a xs,x=.ref a/\aO K H a xs/\xs.length=n/\Q xs
  rw[if_pos e] at h⊢;obtain⟨a,xs,e1,e2,e3,q⟩:=h;exact⟨a,xs,e1,e2,e3,k _ q⟩
 ·have h:if n=102 then ∃a xs,x=.ref a/\aw K H a xs/\xs.length=2/\P xs else ∃a xs,x=.ref a/\aO K H a xs/\xs.length=n/\P xs:=h
  show if n=102 then ∃a xs,x=.ref a/\aw K H a xs/\xs.length=2/\Q xs else ∃a xs,x=.ref a/\aO K H a xs/\xs.length=n/\Q xs
  rw[if_neg e] at h⊢;obtain⟨a,xs,e1,e2,e3,q⟩:=h;exact⟨a,xs,e1,e2,e3,k _ q⟩
def jV:Option TT->TT
 |none=>fun _ H k=>k true H
 |some t=>t
def jf(K:Frag)(wi:TI)(tk:Option Nat)(fv:List (Str×Nat))(tc:Option TT)(te:TE):TE:=fun σ H Q=>
 wi σ H fun J H1=>∃W:Nat->Nat->List V->Hp->Prop,(∃m,W 0 m [] H1)/\∀i m ys H2,W i m ys H2->
  (J.stop i H2/\∀p,H2 p=none->Q (.ref p) (upd H2 p<|.lst ys))\/
  (J.go i H2/\∀x H3,J.gh i H2 x H3->iJ K tk x H3 fun xs=>
   jV tc (xs.map some++bU σ fv) H3 fun b H5=>
    if b=true then te (xs.map some++bU σ fv) H5 fun y H6=>ys.length<sizeLine/\∃m',m'<m/\W (i+1) m' (ys++[y]) H6
    else ∃m',m'<m/\W (i+1) m' ys H5)
section
variable {X:Cx}{pins:List (Addr×Obj)}{σ:St}{H:Hp}{s₂ s₃:Shared}{scope:Scope}{ln:List Str}{fv:List (Str×Nat)}{fp:List Addr}{h₁:Heap}{D C:Addr}{m:Str->Option Value}{t:Nat}
theorem iI.cells(S:iI X scope ln fv)(I:Inv X pins σ H s₂){x:Str}{c:Addr}(h:(cX X.env.cells scope.names []).lookup x=some c):X.env.cells.lookup x=some c/\(x,NameKind.free)∈scope.names:=by
 rcases Cq _ _ _ _ h with z|⟨z1,z2⟩
 ·cases z
 ·obtain⟨c',e⟩:=I.ok.has x (S.free _ z1 rfl);rw[e] at z2;have z3:c'=c:=z2;subst z3;exact⟨e,z1⟩
theorem iI.Cv(S:iI X scope ln fv)(I:Inv X pins σ H s₂):closureFor scope X.env=pure (cX X.env.cells scope.names []):=
 MM fun y hy hk=>I.ok.has y.1 (S.free y hy hk)
theorem MS(S:iI X scope ln fv)(I:Inv X pins σ H s₂)(f2:∀b∈fp,g8 X pins H b)(mI:∀b∈fp,∃o,s₂.heap.get? b=some o)
  (os:s₃.os=s₂.os) (gens:s₃.gens=s₂.gens) (k3:∀b o,s₂.heap.get? b=some o->s₃.heap.get? b=some o) (hD:D=s₂.heap.objs.size) (h3:s₃.heap.objs.size=s₂.heap.objs.size+1) (hC:C=s₃.heap.objs.size)
  (k4:∀b o,s₃.heap.get? b=some o->h₁.get? b=some o) (mE:h₁.Ns C m):
  Inv (fu X scope (ln++fv.map (·.1)) (D::fp) C s₃ H) [] (ln.map (fun _=>none)++bU σ fv) H {s₃ with heap:=h₁,toks:=t}:=by
 have cl:∀{x c},(cX X.env.cells scope.names []).lookup x=some c->X.env.cells.lookup x=some c:=fun h=>(S.cells I h).1;have MT:∀{x c},(cX X.env.cells scope.names []).lookup x=some c->c<s₂.heap.objs.size:=fun h=>by
  obtain⟨v,q⟩:=I.cell _ _ (cl h);exact q.lt
 have MU:∀b∈fp,b<s₂.heap.objs.size:=fun b hb=>by obtain⟨o,e⟩:=mI b hb;exact Heap.lt_size e
 have MV:∀b∈D::fp,b<=s₂.heap.objs.size:=fun b hb=>by
  rcases zae.mp hb with e|hb
  ·rw[e,hD];exact zqR _
  ·exact Nat.le_of_lt (MU b hb)
 have Cw:∀x,(relabel scope X.env).names.lookup x=(scope.names.lookup x).map fun k=>if (k==NameKind.free && X.env.scope.kind==.function && X.env.kindOf x==some .cell) then NameKind.cell else k:=fun x=>Cr scope.names x
 have MW:∀x,scope.names.lookup x=some .free->((relabel scope X.env).names.lookup x=some .cell\/(relabel scope X.env).names.lookup x=some .free):=fun x e=>by
  rw[Cw,e]
  simp only[zby]
  split
  ·exact .inl rfl
  ·exact .inr rfl
 have MZ:∀x,((relabel scope X.env).names.lookup x=some .cell\/(relabel scope X.env).names.lookup x=some .free)->(x,NameKind.free)∈scope.names:=fun x e=>by
  rw[Cw] at e;cases q:scope.names.lookup x with
  |none=>rw[q] at e;rcases e with e|e<;>cases e
  |some k=>
   rw[q] at e;have hm:(x,k)∈scope.names:=PySem.mem_of_lookup q
   simp only[zby] at e
   by_cases hk:k=.free
   ·rw[hk] at hm;exact hm
   ·have hb:(k==NameKind.free)=false:=by simpa using hk
    simp only[hb,zbi,zaN,if_false] at e
    rcases e with e|e
    ·exact absurd (zan e) (S.Cu _ hm)
    ·exact absurd (zan e) hk
 refine⟨⟨I.ok.mod,S.kind,I.ok.glob,I.ok.blt,Nat.le_of_eq hC.symm,fun x y c h1 h2=>I.ok.inj x y c (cl h1) (cl h2),fun x hx=>xr _ _ x (.inl (MZ x hx)),fun x c h _=>(by cases h),I.ok.hd,I.ok.frames,.inl rfl,fun b hb=>⟨?_,fun x c e=>?_⟩,fun b o e=>⟨k3 b o (I.bs b o e).1,(I.bs b o e).2⟩,?_,fun b o e hb=>?_,fun b hb hf=>?_,?_,I.tI⟩,
  rfl,?_,Un.kept fun b u e=>k4 b u e,⟨m,mE,fun i x v e1 e2 e3=>?_⟩,fun x c e=>?_,I.aA.fresh ?_,fun x c e=>I.eU x c (cl e),fun p hp=>absurd (show p∈ ([]:List (Addr×Obj)) from hp) (by simp),I.aA.kept fun b u e=>k4 b u (k3 b u e),?_⟩
 ·show b≠C;have:=MV b hb;rw[hC,h3];exact zab (Nat.lt_succ_of_le this)
 ·have q1:=MT e;rcases zae.mp hb with z|z
  ·rw[z,hD];exact zab q1
  ·exact(f2 b z).2.2.2.2.1 x c (cl e)
 ·show X.base.objs.size<=s₃.heap.objs.size;have:=zaw I.ok.kQ I.sz;lia
 ·have e2:=(I.bs b o e).1;have oH:b∈D::fp:=hb;rcases zae.mp oH with z|z
  ·have:=Heap.lt_size e2;rw[z,hD] at this;exact zaB _ this
  ·rcases (f2 b z).2.2.2.1 with q|q
   ·exact I.ok.tF b o e q
   ·exact absurd (zau (Heap.lt_size (I.ok.bs b o e).1) q) (zaB _)
 ·have Cy:b∈bg X.stack:=hf;have oH:b∈D::fp:=hb;rcases zae.mp oH with z|z
  ·rcases zae.mp (I.tH b Cy) with q|q
   ·have:=I.lt;rw[<-q,z,hD] at this;exact zaB _ this
   ·exact I.AU (by rw[z,hD];exact zqR _) q
  ·rcases zae.mp (I.tH b Cy) with q|q
   ·exact(f2 b z).2.1 q
   ·exact(f2 b z).2.2.1 q
 ·exact PySem.Heap.FunFrames.of_keeps (fun b o e _=>⟨o,k3 b o e,rfl⟩) I.stack
 ·show AllBare s₃.gens;rw[gens];exact I.bare
 ·have hi:ln.length<=i:=by
   by_cases hi:i<ln.length
   ·exfalso
    rw[List.getElem?_append_left (by simpa using hi),zah] at e2
    cases q:ln[i]? with
    |none=>rw[q] at e2;cases e2
    |some y=>rw[q] at e2;cases e2
   ·lia
  have mJ:(ln++fv.map (·.1))[i]?=some x:=e1;rw[zbv hi,zah] at mJ;rw[zbv (by simpa using hi),zaa] at e2
  unfold bU at e2;rw[zah] at e2;cases q:fv[i - ln.length]? with
  |none=>rw[q] at mJ;cases mJ
  |some p=>
   rw[q] at mJ e2;have ex:p.1=x:=zan mJ;have ev:(σ[p.2]?).join=some v:=zan e2;obtain⟨g1,g2⟩:=S.MQ p (zat q);rw[ex] at g1 g2;have M0:σ[p.2]?=some (some v):=by
    cases z:σ[p.2]? with
    |none=>rw[z] at ev;cases ev
    |some o=>rw[z] at ev;rw[show o=some v from ev]
   have hk:=S.free _ (PySem.mem_of_lookup g2) rfl;obtain⟨m2,qo,hl⟩:=I.loc;obtain⟨u,r,l⟩:=hl p.2 x v g1 M0 (by rcases hk with k|k;exact .inr (.inl k);exact .inr (.inr k))
   refine⟨u,r,.inr ?_⟩;rcases l with⟨k,_⟩|⟨_,c,ec,z⟩
   ·rcases hk with k'|k'<;>(rw[k] at k';cases k')
   ·refine⟨MW x g2,c,?_,?_⟩
    ·obtain⟨c',e'⟩:=xr (cells:=X.env.cells) scope.names [] x (.inl<|PySem.mem_of_lookup g2);have:=cl e';rw[ec] at this;cases this;exact e'
    ·obtain⟨o,ho,hd⟩:=z;exact⟨o,k4 c o<|k3 c o ho,hd⟩
 ·obtain⟨v,o,ho,hd⟩:=I.cell x c (cl e);exact⟨v,o,k4 c o<|k3 c o ho,hd⟩
 ·show s₂.heap.objs.size<=C;rw[hC,h3];exact zaM _
 ·show(ln.map (fun _=>none)++bU σ fv).length=(ln++fv.map (·.1)).length
  simp[bU]
end
structure xu (Φ:Cx->Prop) (P:Program) (w:World) (K:Frag) (tg:Expr) (J:It) (fp:List Addr) (it:Addr) (tn:Nat->Heap->Prop):Prop where
 mem:it∈fp
 obj:∀i h,tn i h->∀b∈fp,∃o,h.get? b=some o/\∀v,o.data≠ .cell v
 keep:∀i h h',tn i h->(∀b∈fp,∀o,h.get? b=some o->h'.get? b=some o)->tn i h'
 item:∀(X:Cx),X.prog=P->X.w=w->X.K=K->Φ X->∀(i:Nat) (pins:List (Addr×Obj)) (s:Shared) (σ:St) (H:Hp) (E:Value->Shared->Prop),Inv X pins σ H s->(∀b∈fp,g8 X pins H b)->tn i s.heap->J.go i H->
  wpAny (model P w) X.A (pyNext (.ref it)) (fun r s1=>∃u,r=some u/\
   wpAny (model P w) X.A (letOwnedTupleGo tg (.ref it) u) (fun _ s2=>∃x H',Inv X pins σ H' s2/\RelV x u/\J.gh i H x H'/\tn (i+1) s2.heap/\∀b∈fp,H' b=none) E s1) E s
 done:∀(X:Cx),X.prog=P->X.w=w->X.K=K->Φ X->∀(i:Nat) (pins:List (Addr×Obj)) (s:Shared) (σ:St) (H:Hp) (E:Value->Shared->Prop),Inv X pins σ H s->(∀b∈fp,g8 X pins H b)->tn i s.heap->J.stop i H->
  wpAny (model P w) X.A (pyNext<|.ref it) (fun r s1=>r=none/\Inv X pins σ H s1) E s
 self:∀(A:Around) (i:Nat) (s:Shared) (Q:Value->Shared->Prop) (E:Value->Shared->Prop),tn i s.heap->Q (.ref it) s->wpAny (model P w) A (pyIter<|.ref it) Q E s
def ui(Φ:Cx->Prop)(X:Cx)(tg iter:Expr)(wi:TI):Prop:=
 ∀(pins:List (Addr×Obj)) (s:Shared) (σ:St) (H:Hp) (R:It->Hp->Prop),Inv X pins σ H s->wi σ H R->
  wpAny (model X.prog X.w) X.A (eval iter X.env) (fun v s1=>wpAny (model X.prog X.w) X.A (pyIter v) (fun mj s2=>
   ∃(it:Addr) (fp:List Addr) (tn:Nat->Heap->Prop) (J:It) (H':Hp),mj=.ref it/\Inv X pins σ H' s2/\xu Φ X.prog X.w X.K tg J fp it tn/\tn 0 s2.heap/\(∀b∈fp,g8 X pins H' b)/\R J H') X.xe s1) X.xe s
abbrev Calm(X:Cx):Prop:=X.calm=true
theorem PI.p{X:Cx}{tg iter:Expr}{wi:TI}(h:PI X tg iter wi):ui Calm X tg iter wi:=fun pins s σ H R I q=>
 aF (h pins s σ H R I q) fun v s1 h1=>aF h1 fun mj s2 ⟨it,fp,tn,J,H',e,I',T,st,f,r⟩=>⟨it,fp,tn,J,H',e,I',⟨T.mem,T.obj,T.keep,T.item,T.done,T.self⟩,st,f,r⟩
section
variable {X:Cx}{pins:List (Addr×Obj)}{σ:St}{H:Hp}{s₂:Shared}{scope:Scope}{ln:List Str}{fv:List (Str×Nat)}{elt tg iter:Expr}{ifs:List Expr}{pos:Pos}
 {J:It}{fp:List Addr}{it:Addr}{tn:Nat->Heap->Prop}{tk:Option Nat}{tc:Option TT}{te:TE}{Qv:VK}{RR:Value->Addr->Result->Shared->Prop}{E:Value->Shared->Prop}
def uj(Ψ:Hp->Prop)(X:Cx)(scope:Scope)(ln:List Str)(fv:List (Str×Nat))(tg:Expr)(tk:Option Nat):Prop:=
 ∀(ex:List Addr) (C:Addr) (s:Shared) (H:Hp),Ψ H->∃g,PG (fu X scope (ln++fv.map (·.1)) ex C s H) tg g/\
  ∀(x:V) (pre φ:St) (H':Hp) (Q:St->Hp->Prop),pre.length=ln.length->iJ X.K tk x H' (fun xs=>xs.length=ln.length->Q (xs.map some++φ) H')->g x (pre++φ) H' Q
def qG(X:Cx)(scope:Scope)(ln:List Str)(fv:List (Str×Nat))(tg:Expr)(tk:Option Nat):Prop:=
 ∀(ex:List Addr) (C:Addr) (s:Shared) (H:Hp),∃g,PG (fu X scope (ln++fv.map (·.1)) ex C s H) tg g/\
  ∀(x:V) (pre φ:St) (H':Hp) (Q:St->Hp->Prop),pre.length=ln.length->iJ X.K tk x H' (fun xs=>xs.length=ln.length->Q (xs.map some++φ) H')->g x (pre++φ) H' Q
def qH(X:Cx)(scope:Scope)(N:List Str)(ifs:List Expr)(tc:Option TT):Prop:=
 match tc with
 |none=>ifs=[]
 |some t=>∃c,ifs=[c]/\∀(ex:List Addr) (C:Addr) (s:Shared) (H:Hp),PT (fu X scope N ex C s H) c t
theorem Cz{Φ:Cx->Prop}{Ψ:Hp->Prop}(S:iI X scope ln fv)(hc:∀Xc:Cx,Xc.A=X.A->Xc.calm=X.calm->Xc.H₀=H->Φ Xc)(hΨ:Ψ H)(hg:uj Ψ X scope ln fv tg tk)(ht:qH X scope (ln++fv.map (·.1)) ifs tc)
  (he:∀(ex:List Addr) (C:Addr) (s:Shared) (H:Hp),PE (fu X scope (ln++fv.map (·.1)) ex C s H) elt te)
  (I:Inv X pins σ H s₂) (T:xu Φ X.prog X.w X.K tg J fp it tn) (st:tn 0 s₂.heap) (f2:∀b∈fp,g8 X pins H b)
  (h:∃W:Nat->Nat->List V->Hp->Prop,(∃m,W 0 m [] H)/\∀i m ys H2,W i m ys H2->
   (J.stop i H2/\∀p,H2 p=none->Qv (.ref p) (upd H2 p<|.lst ys))\/
   (J.go i H2/\∀x H3,J.gh i H2 x H3->iJ X.K tk x H3 fun xs=>
    jV tc (xs.map some++bU σ fv) H3 fun b H5=>
     if b=true then te (xs.map some++bU σ fv) H5 fun y H6=>ys.length<sizeLine/\∃m',m'<m/\W (i+1) m' (ys++[y]) H6
     else ∃m',m'<m/\W (i+1) m' ys H5))
  (M1:∀D C H' s' m,Inv X pins σ H' s'->s'.heap.Ns C m->H' C=none->C≠X.env.locals->X.s₀.heap.objs.size<=C->(∀x c,X.env.cells.lookup x=some c->c≠C)->(∀p∈X.pn++pins,p.1≠C)->Qv (.ref D) H'->RR (.ref D) C (.ok .next) s'):
  wpAny (model X.prog X.w) X.A (newList []) (fun acc s₃=>wpAny (model X.prog X.w) X.A (newFunctionEnv scope X.env.globals (cX X.env.cells scope.names []) [] X.env.qual none .none (some X.env)) (fun CA s₄=>
   codeAny (model X.prog X.w) X.A (.compStart (.ListComp elt [⟨tg,iter,ifs,0⟩] scope pos) 0 (.ref it) acc {CA with scope:=relabel scope X.env}) (RR acc CA.locals) s₄) E s₃) E s₂:=by
 obtain⟨W,⟨m0,w0⟩,turn⟩:=h;refine wpAny_newObj_type<|wpAny_newFunctionEnv S.Cu (by intro y hy;simp at hy) (fun h₁ uk um=>?_) S.kind
 dsimp only at uk um⊢
 generalize uo:({s₂ with heap:=s₂.heap.push {cls:=.type "list",dict:=none,data:=.seq ([]:List Value).toArray}}:Shared)=s₃
 have qI:s₂.heap.push {cls:=.type "list",dict:=none,data:=.seq ([]:List Value).toArray}=s₃.heap:=by rw[<-uo]
 rw[qI] at uk um⊢;have CB:s₃.os=s₂.os:=by rw[<-uo]
 have M3:s₃.gens=s₂.gens:=by rw[<-uo]
 have mK:s₃.heap.objs.size=s₂.heap.objs.size+1:=by rw[<-qI,Heap.size_push]
 have k3:∀b o,s₂.heap.get? b=some o->s₃.heap.get? b=some o:=fun b o e=>by rw[<-qI];exact Heap.get?_push_of_some _ e
 have k4:∀b o,s₃.heap.get? b=some o->h₁.get? b=some o:=fun b o e=>um.extBut b o (zab<|Heap.lt_size e) (Heap.get?_push_of_some _ e);have gD:s₃.heap.get? s₂.heap.objs.size=some {cls:=.type "list",dict:=none,data:=.seq ([]:List Value).toArray}:=by rw[<-qI];exact Heap.get?_push_size _ rfl
 generalize eD:s₂.heap.objs.size=D at gD;generalize eC:s₃.heap.objs.size=C at uk um⊢;have uq:D≠C:=by rw[<-eD,<-eC,mK];exact zab (zaZ _)
 have mI:∀b∈fp,∃o,s₂.heap.get? b=some o:=fun b hb=>by obtain⟨o,e,_⟩:=T.obj 0 _ st b hb;exact⟨o,e⟩
 have CC:∀b∈fp,b≠D:=fun b hb=>by obtain⟨o,e⟩:=mI b hb;rw[<-eD];exact zab (Heap.lt_size e)
 have M4:∀b∈fp,b≠C:=fun b hb=>by
  obtain⟨o,e⟩:=mI b hb;have:=Heap.lt_size e;rw[<-eC,mK];exact zab (zaA this)
 generalize eX:fu X scope (ln++fv.map (·.1)) (D::fp) C s₃ H=Xc;have I4:∀t,Inv Xc [] (ln.map (fun _=>none)++bU σ fv) H {s₃ with heap:=h₁,toks:=t}:=fun t=>by
  rw[<-eX];exact MS S I f2 mI CB M3 k3 eD.symm mK eC.symm k4 uk
 have xL:Xc.env.locals=C:=by rw[<-eX];rfl
 have ur:Xc.ex=D::fp:=by rw[<-eX];rfl
 have M5:Xc.fs=bg X.stack:=by rw[<-eX];rfl
 have xP:Xc.prog=X.prog:=by rw[<-eX];rfl
 have xw:Xc.w=X.w:=by rw[<-eX];rfl
 have xK:Xc.K=X.K:=by rw[<-eX];rfl
 have xA:Xc.A=X.A:=by rw[<-eX];rfl
 have xc:Φ Xc:=hc Xc xA (by rw[<-eX];rfl) (by rw[<-eX];rfl)
 have CG:Xc.pn=[]:=by rw[<-eX];rfl
 have xv:Xc.xe=fun _ _=>False:=by rw[<-eX];rfl
 have CH:Xc.env.cells=cX X.env.cells scope.names []:=by rw[<-eX];rfl
 have xx:Xc.env=compEnvC scope (cX X.env.cells scope.names []) C X.env:=by rw[<-eX];rfl
 have cD:∀x c,Xc.env.cells.lookup x=some c->c≠D:=fun x c e=>by
  rw[CH] at e;obtain⟨v,q⟩:=I.cell x c (S.cells I e).1;rw[<-eD];exact zab q.lt
 have cF:∀x c,Xc.env.cells.lookup x=some c->∀b∈fp,c≠b:=fun x c e b hb=>by
  rw[CH] at e;exact(f2 b hb).2.2.2.2.1 x c (S.cells I e).1
 have sF:∀b∈D::fp,b∉Xc.fs:=fun b hb hf=>by
  have:=(I4 0).ok.tG b (by rw[ur];exact hb)
  exact this hf
 have mm:∀{H':Hp}{oD:Obj},(∀b∈fp,H' b=none)->∀b∈fp,g8 Xc [(D,oD)] H' b:=fun hn b hb=>
  ⟨hn b hb,by rw[xL];exact M4 b hb,sF b (zao _ hb),.inl (by rw[ur];exact zao _ hb),fun x c e=>cF x c e b hb,fun p hp=>by
   rw[CG] at hp;rcases zaj.mp (show p∈ [(D,_)] from hp) with rfl
   exact(CC b hb).symm⟩
 have loop:∀s₄:Shared,s₄={s₃ with heap:=h₁,toks:=s₃.toks+([]:List (Str×Value)).length}->
   codeAny (model X.prog X.w) X.A (.compLoop (.ListComp elt [⟨tg,iter,ifs,0⟩] scope pos) 0 (.ref it) (.ref D)<|compEnvC scope (cX X.env.cells scope.names []) C X.env) (RR (.ref D) C) s₄:=by
  rintro s₄ rfl;refine MO (fun n s'=>∃i pre ys aj nn H',Inv Xc [(D,{cls:=.type "list",data:=.seq (List.toArray aj) nn})] (pre++bU σ fv) H' s'/\pre.length=ln.length/\tn i s'.heap/\(∀b∈fp,H' b=none)/\Vals ys aj/\ys.length<=sizeLine/\W i n ys H') ?_ m0
   ⟨0,ln.map<|fun _=>none,[],[],0,H,(I4 _).ou<|fun p hp=>?_,by simp,T.keep 0 _ _ st<|fun b _ o e=>k4 b o<|k3 b o e,fun b hb=>(f2 b hb).1,.nil,zqZ _,w0⟩
  rotate_left
  ·have qJ:=zaj.mp hp;subst qJ;refine⟨k4 _ _ gD,I.aA.fresh<|Nat.le_of_eq eD,by rw[xL];exact uq,sF D zap,fun v z=>by cases z⟩
  rintro n s' ⟨i,pre,ys,aj,nn,H',I',jS,fi,CI,hv,hz,w'⟩;have ZA:=I'.pin (D,_) (zaz _ zap);rcases turn i n ys H' w' with⟨stop,qn⟩|⟨go,step⟩
  ·have td:=T.done Xc xP xw xK xc i _ s' _ H' (fun _ _=>False) I' (mm CI) fi stop;rw[xA] at td;refine aF td fun r s1 ⟨hr,I1⟩=>?_;subst hr;have xy:=I1.pin (D,_) (zaz _ zap);have b1:=I1.base;rw[M5,ur] at b1;have CJ:Xc.s₀=s₃:=by rw[<-eX];rfl
   have M6:Xc.H₀=H:=by rw[<-eX];rfl
   rw[CJ,M6] at b1;have nD:∀b o,s₂.heap.get? b=some o->b∉fp->b∉D::fp:=fun b o e hb hm=>by
    rcases zae.mp hm with z|z
    ·have:=Heap.lt_size e;rw[z,eD] at this;exact zaB _ this
    ·exact hb z
   have un:Un (bg X.stack) fp H H' s₂.heap s1.heap:=⟨fun b o e nb hb hx=>b1.keep b o (k3 b o e) nb hb (nD b o e hx),fun b o e nb hb hx=>b1.slot b o (k3 b o e) nb hb (nD b o e hx),fun b o e nb hx=>b1.free b o (k3 b o e) nb (nD b o e hx),
    fun b o e hx=>b1.there b o (k3 b o e) (nD b o e hx),b1.d4,b1.dS,b1.eT⟩
   have M7:s1.os=s₂.os:=by rw[I1.os,CJ,CB]
   have oJ:=I1.aA;rw[xP,xw] at oJ;have J1:Inv X pins σ H' s1:=I.wz M7 un oJ I1.bare fun b hb=>⟨(f2 b hb).2.2.2.1,(f2 b hb).2.1,(f2 b hb).2.2.2.2.1,(f2 b hb).2.2.2.2.2⟩;have M8:∀x c,X.env.cells.lookup x=some c->c≠D:=fun x c e=>by
    obtain⟨v,q⟩:=I.cell x c e;rw[<-eD];exact zab q.lt
   have M9:∀x c,X.env.cells.lookup x=some c->c≠C:=fun x c e=>by
    obtain⟨v,q⟩:=I.cell x c e;rw[<-eC,mK];exact zab (zaA q.lt)
   have pD:∀p∈X.pn++pins,p.1≠D:=fun p hp=>by rw[<-eD];exact zab (Heap.lt_size (I.pin p hp).1)
   have pC:∀p∈X.pn++pins,p.1≠C:=fun p hp=>by
    rw[<-eC,mK];exact zab (zaA<|Heap.lt_size (I.pin p hp).1)
   have lD:D≠X.env.locals:=by rw[<-eD];exact Nat.ne_of_gt I.lt
   have lC:C≠X.env.locals:=by
    rw[<-eC,mK];exact Nat.ne_of_gt (zaA I.lt)
   have J2:Inv X pins σ (upd H' D<|.lst ys) s1:=Inv.MK J1 xy.2.1 (by rw[<-eD];exact I.sz) lD M8 pD ⟨hz,aj,nn,hv,xy.1⟩
   obtain⟨mC,CK,_⟩:=I1.loc;rw[xL] at CK;have fC:H' C=none:=by have:=I1.free;rw[xL] at this;exact this
   exact M1 D C _ s1 mC J2 CK (by rw[av<|Ne.symm uq];exact fC) lC (by rw[<-eC,mK];exact Nat.le_succ_of_le I.sz) M9 pC<|qn D xy.2.1
  ·have ti:=T.item Xc xP xw xK xc i _ s' _ H' (fun _ _=>False) I' (mm CI) fi go;rw[xA] at ti;refine aF ti fun r s4 ⟨u,hr,h4⟩=>?_;subst hr;refine aF h4 fun _ s5 ⟨x,H5,I5,r5,y5,mq,wG⟩=>?_;have ql:=I5.pinned (mm wG) (T.obj _ _ mq);obtain⟨g,pg,gq⟩:=hg (D::fp) C s₃ H hΨ;rw[eX] at pg;have rd:=step x H5 y5;have CL:=pg _ s5 _ H5 x u (fun σ6 H6=>∃xs:List V,σ6=xs.map some++bU σ fv/\xs.length=ln.length/\H6=H5/\
     jV tc (xs.map some++bU σ fv) H5 fun b H5=>
     if b=true then te (xs.map some++bU σ fv) H5 fun y H6=>ys.length<sizeLine/\∃m',m'<n/\W (i+1) m' (ys++[y]) H6
     else ∃m',m'<n/\W (i+1) m' ys H5) ql r5 (gq x pre (bU σ fv) H5 _ jS (by
      cases tk with
      |none=>exact fun hl=>⟨_,rfl,hl,rfl,rd⟩
      |some k=>exact MR rd fun xs rd hl=>⟨xs,rfl,hl,rfl,rd⟩))
   rw[xA,xP,xw,xv,xx] at CL;refine aF CL fun _ s6 ⟨σ6,H6,I6,xs,e6,CO,eH,CQ⟩=>?_;subst e6 eH;have CT:∀{H7:Hp}{σ7:St}{s7:Shared},Inv Xc ([(D,{cls:=.type "list",data:=.seq (List.toArray aj) nn})]++oB fp s5.heap) σ7 H7 s7->tn (i+1) s7.heap/\(∀b∈fp,H7 b=none)/\s7.heap.get? D=some {cls:=.type "list",data:=.seq (List.toArray aj) nn}/\H7 D=none:=fun {H7 σ7 s7} I7=>by
    refine⟨T.keep _ _ _ mq fun b hb o e=>(I7.pin (b,o)<|zaz _<|zaz _<|tT hb e).1,fun b hb=>?_,?_,?_⟩
    ·obtain⟨o,e,d⟩:=T.obj _ _ mq b hb;exact(I7.pin (b,o)<|zaz _<|zaz _<|tT hb e).2.1
    ·exact(I7.pin (D,_)<|zaz _<|zaR _ zap).1
    ·exact(I7.pin (D,_)<|zaz _<|zaR _ zap).2.1
   have tests:wpAny (model X.prog X.w) X.A (forIn ifs true fun c r=>if r=true then do let ok <-isTrue c (compEnvC scope (cX X.env.cells scope.names []) C X.env) (eval c<|compEnvC scope (cX X.env.cells scope.names []) C X.env);pure (ForInStep.yield ok) else pure (ForInStep.yield r))
     (fun ok s7=>∃H7,Inv Xc ([(D,{cls:=.type "list",data:=.seq (List.toArray aj) nn})]++oB fp s5.heap) (xs.map some++bU σ fv) H7 s7/\
      if ok=true then te (xs.map some++bU σ fv) H7 fun y H6=>ys.length<sizeLine/\∃m',m'<n/\W (i+1) m' (ys++[y]) H6
      else ∃m',m'<n/\W (i+1) m' ys H7) (fun _ _=>False) s6:=by
    cases tc with
    |none=>
     have xB:ifs=[]:=ht;subst xB;exact wpAny_tests_nil ⟨_,I6,CQ⟩
    |some t=>
     obtain⟨c,xB,pt⟩:=(show ∃c,ifs=[c]/\∀(ex:List Addr) (C:Addr) (s:Shared) (H:Hp),PT (fu X scope (ln++fv.map (·.1)) ex C s H) c t from ht)
     subst xB;have CU:=pt (D::fp) C s₃ H;rw[eX] at CU;have q:=CU _ s6 _ _ _ I6 CQ;rw[xA,xP,xw,xv,xx] at q;exact wpAny_tests_one<|aF q fun b s7 ⟨H7,I7,q7⟩=>⟨H7,I7,q7⟩
   refine aF tests fun ok s7 ⟨H7,I7,q7⟩=>?_;cases ok with
   |false=>
    simp only[zaN,if_false] at q7⊢
    obtain⟨m',hm,w7⟩:=q7;obtain⟨t7,f7,d7,n7⟩:=CT I7;refine⟨m',hm,i+1,xs.map some,ys,aj,nn,H7,I7.ou<|fun p hp=>?_,by simpa using CO,t7,f7,hv,hz,w7⟩
    exact I7.pin p<|zaz _<|zaR _ hp
   |true=>
    simp only[if_true] at q7⊢
    have q:=he (D::fp) C s₃ H;rw[eX] at q;have q:=q _ s7 _ H7 _ I7 q7;rw[xA,xP,xw,xv,xx] at q;refine aF q fun uy s8 ⟨y,H8,I8,r8,aI,m',hm,w8⟩=>?_;obtain⟨t8,f8,d8,n8⟩:=CT I8;have hl:=hv.length;refine call_meets F.slot_list_append ⟨_,d8,rfl⟩ F.entry_list_append (F.args_list_append_2 _ _) (PySem.list_append D aj.toArray nn uy (by rw[zaf];lia)) ⟨d8,?_⟩
    have I9:∀t,Inv Xc [] (xs.map some++bU σ fv) H8 {s8 with heap:=s8.heap.update D (Obj.mapSeq (·.push uy)),toks:=t}:=fun t=>
     (I8.ou (g5:=[])<|fun p hp=>absurd hp (by simp)).turned (it:=D) (t':=t) (fun b o hb e=>(Heap.get?_update_other s8.heap (Obj.mapSeq (·.push uy))<|Ne.symm hb).trans e) n8 (by rw[xL];exact uq) (.inl (by rw[ur];exact zap)) cD
      (fun p hp=>by rw[CG] at hp;exact absurd hp (by simp))
    have g9:=PySem.IsL.update d8 (·.push uy);obtain⟨n9,M_⟩:∃n9,(s8.heap.update D (Obj.mapSeq (·.push uy))).get? D=some {cls:=.type "list",data:=.seq (aj++[uy]).toArray n9}:=
     ⟨_,by rw[show(aj++[uy]).toArray=aj.toArray.push uy by simp];exact g9⟩
    refine⟨m',hm,i+1,xs.map some,ys++[y],aj++[uy],n9,H8,(I9 _).ou<|fun p hp=>?_,by simpa using CO,?_,f8,hv.append<|.cons r8 .nil,?_,w8⟩
    ·have qJ:=zaj.mp hp;subst qJ;exact⟨M_,n8,by rw[xL];exact uq,sF D zap,fun v z=>by cases z⟩
    ·exact T.keep _ _ _ t8 fun b hb o e=>(Heap.get?_update_other s8.heap (Obj.mapSeq (·.push uy))<|Ne.symm<|CC b hb).trans e
    ·rw[zqA,zbm];lia
 have Na:tn 0 h₁:=T.keep 0 _ _ st fun b _ o e=>k4 b o (k3 b o e);have e4:({s₂ with heap:=h₁,toks:=s₂.toks+([]:List (Str×Value)).length}:Shared)={s₃ with heap:=h₁,toks:=s₃.toks+([]:List (Str×Value)).length}:=by rw[<-uo]
 exact codeAny_compStart_list (loop _ e4)<|T.self X.A 0 _ _ _ Na<|loop _ e4
end
section
variable {X:Cx}{scope:Scope}{ln:List Str}{fv:List (Str×Nat)}{elt tg iter:Expr}{ifs:List Expr}{pos:Pos}{wi:TI}{tk:Option Nat}{tc:Option TT}{te:TE}
theorem Nb{Φ:Cx->Prop}{Ψ:Hp->Prop}(S:iI X scope ln fv)(hc:∀H,Ψ H->∀Xc:Cx,Xc.A=X.A->Xc.calm=X.calm->Xc.H₀=H->Φ Xc)(hΨ:∀pins σ H s,Inv X pins σ H s->Ψ H)(hi:ui Φ X tg iter wi)(hg:uj Ψ X scope ln fv tg tk)(ht:qH X scope (ln++fv.map (·.1)) ifs tc)
  (he:∀(ex:List Addr) (C:Addr) (s:Shared) (H:Hp),PE (fu X scope (ln++fv.map (·.1)) ex C s H) elt te) (hs:∀x,foldedSetIterable iter X.env x=pure x:=by intro _;rfl):
  PE X (.ListComp elt [⟨tg,iter,ifs,0⟩] scope pos) (jf X.K wi tk fv tc te):=by
 intro pins s σ H Q I h;rw[eval_ListComp];refine wpAny_comprehension_free (use:=none) rfl hs (S.Cv I) S.kind S.locals<|aF (hi pins s σ H _ I h) fun v s1 h1=>aF h1 fun mj s2 h2=>?_;obtain⟨it,fp,tn,J,H2,e,I2,T,qj,f2,hW⟩:=h2;subst e;refine Cz (RR:=fun acc C=>compPost (model X.prog X.w) X.A X.xe none (EP X pins σ Q) acc C) S (hc H2<|hΨ _ _ _ _ I2) (hΨ _ _ _ _ I2) hg ht he I2 T qj f2 hW ?_;intro D C H' s' m I' ns hn hL h0 uu hp q;refine⟨m,ns,fun h' sb=>⟨.ref D,H',?_,rfl,q⟩⟩;exact I'.turned (it:=C) (t':=s'.toks) (fun b o hb e=>sb.extBut b o hb e) hn hL (.inr h0) uu hp
theorem CV{Φ:Cx->Prop}{Ψ:Hp->Prop}{i:Nat}{y:Str}{py qK:Pos}(hN:X.N.Nodup)(dE:X.N[i]?=some y)(hy:Loc X.env.scope y)(xC:swapsWith (.ListComp elt [⟨tg,iter,ifs,0⟩] scope pos) (some<|.Name y py) qK.line X.env=pure true)
  (S:iI X scope ln fv) (hc:∀H,Ψ H->∀Xc:Cx,Xc.A=X.A->Xc.calm=X.calm->Xc.H₀=H->Φ Xc) (hΨ:∀pins σ H s,Inv X pins σ H s->Ψ H) (hi:ui Φ X tg iter wi) (hg:uj Ψ X scope ln fv tg tk) (ht:qH X scope (ln++fv.map (·.1)) ifs tc)
  (he:∀(ex:List Addr) (C:Addr) (s:Shared) (H:Hp),PE (fu X scope (ln++fv.map (·.1)) ex C s H) elt te) (hs:∀x,foldedSetIterable iter X.env x=pure x:=by intro _;rfl)
  (hf:X.fn y=true\/X.env.scope.names.lookup y=some .local:=by first|exact .inl rfl|exact .inr rfl|assumption):
  PS X (.Assign [.Name y py] (.ListComp elt [⟨tg,iter,ifs,0⟩] scope pos) qK) (g7 (jf X.K wi tk fv tc te)<|df i):=by
 intro pins s σ H D I h;rw[exec_Assign_Name_used _ _ _ _ xC];refine wpAny_bind<|wpAny_standAt<|wpAny_bind ?_;show wpAny _ X.A (do let _ <-comprehension (.ListComp elt [⟨tg,iter,ifs,0⟩] scope pos) scope X.env _ (newList []) false (eval iter X.env) (some<|assign (.Name y py) X.env)) _ _ s
 refine wpAny_bind (wpAny_mono (wpAny_comprehension_free (use:=some (assign (.Name y py) X.env)) (Q:=fun _ s'=>SP X pins D .next s') rfl hs (S.Cv I) S.kind S.locals
  (aF (hi pins s σ H _ I h) fun v s1 h1=>aF h1 fun mj s2 h2=>?_)) (fun _ s' hq=>wpAny_pure (wpAny_pure hq)) fun _ _ e=>e)
 obtain⟨it,fp,tn,J,H2,e,I2,T,qj,f2,hW⟩:=h2;subst e;refine Cz (Qv:=fun x H1=>df i x σ H1 D.nx) (RR:=fun acc C=>compPost (model X.prog X.w) X.A X.xe (some<|assign (.Name y py) X.env) (fun _ s'=>SP X pins D .next s') acc C) S (hc H2<|hΨ _ _ _ _ I2) (hΨ _ _ _ _ I2) hg ht he I2 T qj f2 hW ?_;intro Da C H' s' m I' ns hn hL h0 uu hp q;show wpAny _ X.A (assign (.Name y py) X.env<|.ref Da) _ _ _;refine wpAny_assign_Name<|AY I' hN dE hy (v:=.ref Da) rfl (fun s4 I4 ⟨a,sb,ha⟩=>?_) hf;have Nc:C≠a:=by
  rcases ha with z|z
  ·rw[z];exact hL
  ·exact Ne.symm (uu _ _ z)
 refine⟨m,ns.sameBut sb Nc,fun h' Nd=>⟨_,H',?_,q⟩⟩;exact I4.turned (it:=C) (t':=s4.toks) (fun b o hb e=>Nd.extBut b o hb e) hn hL (.inr h0) uu hp
theorem CW(S:iI X scope ln fv)(hc:X.calm=true)(hi:PI X tg iter wi)(hg:qG X scope ln fv tg tk)(ht:qH X scope (ln++fv.map (·.1)) ifs tc)
  (he:∀(ex:List Addr) (C:Addr) (s:Shared) (H:Hp),PE (fu X scope (ln++fv.map (·.1)) ex C s H) elt te) (hs:∀x,foldedSetIterable iter X.env x=pure x:=by intro _;rfl):
  PE X (.ListComp elt [⟨tg,iter,ifs,0⟩] scope pos) (jf X.K wi tk fv tc te):=
 Nb (Φ:=Calm) (Ψ:=fun _=>True) S (fun _ _ Xc _ e _=>e.trans hc) (fun _ _ _ _ _=>trivial) hi.p (fun ex C s H _=>hg ex C s H) ht he hs
theorem Nf{i:Nat}{y:Str}{py qK:Pos}(hN:X.N.Nodup)(dE:X.N[i]?=some y)(hy:Loc X.env.scope y)(xC:swapsWith (.ListComp elt [⟨tg,iter,ifs,0⟩] scope pos) (some<|.Name y py) qK.line X.env=pure true)
  (S:iI X scope ln fv) (hc:X.calm=true) (hi:PI X tg iter wi) (hg:qG X scope ln fv tg tk) (ht:qH X scope (ln++fv.map (·.1)) ifs tc)
  (he:∀(ex:List Addr) (C:Addr) (s:Shared) (H:Hp),PE (fu X scope (ln++fv.map (·.1)) ex C s H) elt te) (hs:∀x,foldedSetIterable iter X.env x=pure x:=by intro _;rfl)
  (hf:X.fn y=true\/X.env.scope.names.lookup y=some .local:=by first|exact .inl rfl|exact .inr rfl|assumption):
  PS X (.Assign [.Name y py] (.ListComp elt [⟨tg,iter,ifs,0⟩] scope pos) qK) (g7 (jf X.K wi tk fv tc te)<|df i):=
 CV (Φ:=Calm) (Ψ:=fun _=>True) hN dE hy xC S (fun _ _ Xc _ e _=>e.trans hc) (fun _ _ _ _ _=>trivial) hi.p (fun ex C s H _=>hg ex C s H) ht he hs hf
end
section
variable {X:Cx}{scope:Scope}{fv:List (Str×Nat)}
theorem Ng{x:Str}{px:Pos}(hl:scope.names.lookup x=some .local)(mL:(x::fv.map (·.1)).Nodup):qG X scope [x] fv (.Name x px) none:=by
 intro ex C s H;have Nh:Loc (fu X scope ([x]++fv.map (·.1)) ex C s H).env.scope x:=.inl (lookup_relabel_local hl);refine⟨df 0,oz (X:=fu X scope ([x]++fv.map (·.1)) ex C s H) mL rfl Nh<|.inr<|lookup_relabel_local hl,fun v pre φ H' Q hp h=>?_⟩;obtain⟨a,rfl⟩:∃a,pre=[a]:=by
  match pre,hp with
  |[a],_=>exact⟨a,rfl⟩
 exact h rfl
theorem Ni{x y:Str}{px py pos:Pos}{k:Nat}(hc:X.calm=true)(hx:scope.names.lookup x=some .local)(hy:scope.names.lookup y=some .local)(mL:(x::y::fv.map (·.1)).Nodup):qG X scope [x,y] fv (.Tuple [.Name x px,.Name y py] k pos) (some 2):=by
 intro ex C s H;generalize eX:fu X scope ([x,y]++fv.map (·.1)) ex C s H=Xc;have xN:Xc.N=x::y::fv.map (·.1):=by rw[<-eX];rfl
 have xc:Xc.calm=true:=by rw[<-eX];exact hc
 have lx:Xc.env.scope.names.lookup x=some .local:=by rw[<-eX];exact lookup_relabel_local hx
 have ly:Xc.env.scope.names.lookup y=some .local:=by rw[<-eX];exact lookup_relabel_local hy
 have p1:PG Xc (.Name x px) (df 0):=oz (by rw[xN];exact mL) (by rw[xN];rfl) (.inl lx) (.inr lx)
 have p2:PG Xc (.Name y py) (df 1):=oz (by rw[xN];exact mL) (by rw[xN];rfl) (.inl ly) (.inr ly)
 have xK:Xc.K=X.K:=by rw[<-eX];rfl
 refine⟨tN Xc.K 2<|oA (df 0)<|oA (df 1) tM,Bs xc<|qh p1<|qh p2 wD,fun v pre φ H' Q hp h=>?_⟩;obtain⟨a,b,rfl⟩:∃a b,pre=[a,b]:=by
  match pre,hp with
  |[a,b],_=>exact⟨a,b,rfl⟩
 obtain⟨a',xs,rfl,e2,e3,q⟩:=h;obtain⟨v1,v2,rfl⟩:∃v1 v2,xs=[v1,v2]:=by
  match xs,e3 with
  |[v1,v2],_=>exact⟨v1,v2,rfl⟩
 exact⟨a',_,rfl,by rw[xK];exact e2,rfl,v1,_,rfl,v2,_,rfl,rfl,q rfl⟩
end
section
variable {X:Cx}
theorem aX.imp{f:Value->Value->Sem Value}{r r':R2}(h:aX X f r)(i:∀x y H Q,r' x y H Q->r x y H Q):aX X f r':=fun pins s σ H x y v u Q I rx ry q=>h pins s σ H x y v u Q I rx ry (i _ _ _ _ q)
theorem bQ.imp{f:Value}{r r':List V->Hp->VK->Prop}(h:bQ X f r)(i:∀xs H Q,r' xs H Q->r xs H Q):bQ X f r':=fun pins s σ H xs us Q I rv q=>h pins s σ H xs us Q I rv (i _ _ _ q)
def CY(K:Frag):R2:=fun x y H Q=>match x,y with
 |.int i,.int j=>Q (.int<|i+j) H
 |.str i,.str j=>i.length+j.length<=sizeLine/\Q (.str<|i++j) H
 |.ref l,.ref b=>Cc (.ref l) (.ref b) H Q\/B5 K (.ref l) (.ref b) H Q
 |_,_=>False
theorem Nj:aX X (binaryOp .Add) (CY X.K):=by
 refine aX.imp ((Km.or KQ).or<|Me.or LA) fun x y H Q h=>?_;cases x<;>cases y<;>first
  |exact False.elim h
  |exact .inl (.inl ⟨_,_,rfl,rfl,h⟩)
  |exact .inl (.inr ⟨_,_,rfl,rfl,h⟩)
  |exact .inr h
def jg(C:Int->Int->Prop)(g:Int->Int->V):R2:=fun x y H Q=>match x,y with
 |.int i,.int j=>C i j/\Q (g i j) H
 |_,_=>False
theorem xD{C:Int->Int->Prop}{g:Int->Int->V}(x y:V)(H:Hp)(Q:VK)(h:jg C g x y H Q):rI C g x y H Q:=by
 cases x<;>cases y<;>first
  |exact False.elim h
  |exact⟨_,_,rfl,rfl,h⟩
theorem qL{g:Int->Int->V}(x y:V)(H:Hp)(Q:VK)(h:jg (fun _ _=>True) g x y H Q):jM g x y H Q:=by
 cases x<;>cases y<;>first
  |exact False.elim h
  |exact⟨_,_,rfl,rfl,h.2⟩
def CZ:R2:=fun x y H Q=>match x,y with
 |.int i,.int j=>qm i j/\Q (.int<|i*j) H
 |.ref l,.int k=>Cd (.ref l) (.int k) H Q
 |_,_=>False
theorem Nk:aX X (binaryOp .Mult) CZ:=by
 refine aX.imp (Ko.or Mf) fun x y H Q h=>?_;cases x<;>cases y<;>first
  |exact False.elim h
  |exact .inl ⟨_,_,rfl,rfl,h⟩
  |exact .inr h
def iK(K:Frag):Operator->R2
 |.Add=>CY K
 |.Sub=>jg (fun _ _=>True) fun i j=>.int (i - j)
 |.Mult=>CZ
 |.FloorDiv=>jg wJ fun i j=>.int (i / j)
 |.Mod=>jg (fun _ j=>0<j) fun i j=>.int (i % j)
 |.Pow=>jg wK fun i j=>.int (i ^ j.toNat)
 |_=>fun _ _ _ _=>False
theorem Nl(op:Operator):aX X (binaryOp op) (iK X.K op):=by
 cases op<;>first
  |exact Nj
  |exact aX.imp Kn qL
  |exact Nk
  |exact aX.imp Kp xD
  |exact aX.imp Kq xD
  |exact aX.imp Kr xD
  |exact fun _ _ _ _ _ _ _ _ _ _ _ _ h=>False.elim h
mutual
def Is(H:Hp):PyData->V->Prop
 |.none,v=>v=.aD
 |.bool b,v=>v=.bl b
 |.int i,v=>v=.int i
 |.str x,v=>v=.str x
 |.list xs,v=>∃a vs,v=.ref a/\H a=some (.lst vs)/\IsL H xs vs
 |.tuple xs,v=>∃a vs,v=.ref a/\H a=some (.tup vs)/\IsL H xs vs
 |.dict _,_=>False
def IsL(H:Hp):List PyData->List V->Prop
 |[],vs=>vs=[]
 |d::ds,vs=>∃v r,vs=v::r/\Is H d v/\IsL H ds r
end
mutual
theorem Is.reads{pins:List (Addr×Obj)}{σ:St}{H:Hp}{s:Shared}(I:Inv X pins σ H s):∀(d:PyData) (v:V) (u:Value),Is H d v->RelV v u->∃as,Reads s.heap u d as
 |.none,v,u,h,r=>by rw[show v=.aD from h] at r;rw[show u=.none from r];exact⟨_,.none⟩
 |.bool b,v,u,h,r=>by rw[show v=.bl b from h] at r;rw[show u=.bool b from r];exact⟨_,.bool b⟩
 |.int i,v,u,h,r=>by rw[show v=.int i from h] at r;obtain⟨t,e⟩:=r;rw[e];exact⟨_,.int i t⟩
 |.str x,v,u,h,r=>by rw[show v=.str x from h] at r;obtain⟨t,e⟩:=r;rw[e];exact⟨_,.str x t⟩
 |.list xs,v,u,h,r=>by
  obtain⟨a,vs,e,hH,hl⟩:=(show ∃a vs,v=.ref a/\H a=some (.lst vs)/\IsL H xs vs by simpa only[Is] using h)
  rw[e] at r;rw[show u=.ref a from r]
  obtain⟨_,aj,n,hv,hg⟩:=I.aA a _ hH;obtain⟨as,q⟩:=IsL.reads I xs vs aj hl hv;exact⟨_,.list hg rfl rfl (by simpa using q)⟩
 |.tuple xs,v,u,h,r=>by
  obtain⟨a,vs,e,hH,hl⟩:=(show ∃a vs,v=.ref a/\H a=some (.tup vs)/\IsL H xs vs by simpa only[Is] using h)
  rw[e] at r;rw[show u=.ref a from r]
  obtain⟨_,aj,hv,o,hg,hc,n,hd⟩:=I.aA a _ hH;obtain⟨as,q⟩:=IsL.reads I xs vs aj hl hv;exact⟨_,.tuple hg hc hd (by simpa using q)⟩
 |.dict _,v,u,h,r=>by simp only[Is] at h
theorem IsL.reads{pins:List (Addr×Obj)}{σ:St}{H:Hp}{s:Shared}(I:Inv X pins σ H s):∀(ds:List PyData) (vs:List V) (us:List Value),IsL H ds vs->Vals vs us->∃as,ReadsAll s.heap us ds as
 |[],vs,us,h,r=>by
  rw[show vs=[] from h] at r
  cases r;exact⟨_,.nil⟩
 |d::ds,vs,us,h,r=>by
  obtain⟨v,q,e,h1,h2⟩:=(show ∃v r,vs=v::r/\Is H d v/\IsL H ds r by simpa only[IsL] using h)
  rw[e] at r;cases r with
  |cons r1 r2=>
   obtain⟨as,q1⟩:=Is.reads I d v _ h1 r1;obtain⟨bs,q2⟩:=IsL.reads I ds q _ h2 r2;exact⟨_,.cons q1 q2⟩
end
def Nm:V->Bool
 |.kO _=>false
 |.eP _=>false
 |_=>true
def Nn:R2:=fun x y H Q=>∃a b xs,x=.ref a/\y=.ref b/\H a=some (.lst xs)/\H b=some (.lst xs)/\xs.all Nm=true/\Q (.bl true) H
def jW(neg:Bool):R2:=fun x y H Q=>match jb x y with
 |true=>Q (.bl<|neg ^^ decide (x=y)) H
 |false=>∃d e,Is H d x/\Is H e y/\SeqAt.shaped d=true/\SeqAt.shaped e=true/\Q (.bl<|neg ^^ PyData.eqv d e) H
def Np:R2:=fun x y H Q=>jW false x y H Q\/Nn x y H Q
theorem Nq(hu:X.A.units+64<cLine):aX X (compareOp .Eq) (jW false):=by
 intro pins s σ H x y v u Q I rx ry h;unfold jW at h;by_cases hs:jb x y=true
 ·rw[hs] at h
  simp only[zaI] at h
  exact Kw pins s σ H x y v u Q I rx ry ⟨hs,h⟩
 ·rw[show jb x y=false by simpa using hs] at h
  obtain⟨d,e,h1,h2,h3,h4,q⟩:=h;rw[zaI] at q;obtain⟨as,r1⟩:=Is.reads I d x v h1 rx;obtain⟨bs,r2⟩:=Is.reads I e y u h2 ry;exact eq_dataH r1 r2 h3 h4 hu ⟨.bl _,H,I,rfl,q⟩
theorem Nr(hu:X.A.units+64<cLine):aX X (compareOp .NotEq) (jW true):=by
 intro pins s σ H x y v u Q I rx ry h;unfold jW at h;by_cases hs:jb x y=true
 ·rw[hs] at h
  simp only[zaU] at h
  exact Kx pins s σ H x y v u Q I rx ry ⟨hs,h⟩
 ·rw[show jb x y=false by simpa using hs] at h
  obtain⟨d,e,h1,h2,h3,h4,q⟩:=h;rw[zaU] at q;obtain⟨as,r1⟩:=Is.reads I d x v h1 rx;obtain⟨bs,r2⟩:=Is.reads I e y u h2 ry;exact ne_dataH r1 r2 h3 h4 hu ⟨.bl _,H,I,rfl,q⟩
def ZC(K:Frag)(H:Hp)(a:Addr):Prop:=(∃xs,aw K H a xs)\/(∃xs,aO K H a xs)\/∃kvs,H a=some (.dK kvs)
def uv(K:Frag)(neg:Bool):R2:=fun x y H Q=>match y with
 |.str j=>∃i,x=.str i/\Q (.bl (if neg then !(!(Builtin.Str.occurrences j i 0 j.length 1).isEmpty) else !(Builtin.Str.occurrences j i 0 j.length 1).isEmpty)) H
 |.ref p=>match x with
  |.ref _=>False
  |x=>xa K neg x (.ref p) H Q
 |_=>False
theorem Nt(hu:X.A.units+64<cLine):aX X (compareOp .In) (uv X.K false):=by
 intro pins s σ H x y v u Q I rx ry h;cases y with
 |str j=>
  obtain⟨i,e,q⟩:=h;exact KD pins s σ H x _ v u Q I rx ry ⟨i,j,e,rfl,q⟩
 |ref p=>
  cases x with
  |ref a=>exact False.elim h
  |_=>exact LN pins s σ H _ _ v u Q I rx ry h
 |_=>exact False.elim h
theorem Nu(hu:X.A.units+64<cLine):aX X (compareOp .NotIn) (uv X.K true):=by
 intro pins s σ H x y v u Q I rx ry h;cases y with
 |str j=>
  obtain⟨i,e,q⟩:=h;exact KI pins s σ H x _ v u Q I rx ry ⟨i,j,e,rfl,q⟩
 |ref p=>
  cases x with
  |ref a=>exact False.elim h
  |_=>exact LO pins s σ H _ _ v u Q I rx ry h
 |_=>exact False.elim h
theorem Nv{M:Model}{A:Around}{E:Value->Shared->Prop}{s:Shared}{Q:Value->Shared->Prop}{v:Value}{d:Bool}(hv:∀id,v≠ .builtin id)(h:Q (.bool<|v==.bool d) s):wpAny M A (compareOp .Is v<|.bool d) Q E s:=by
 cases v<;>first|exact wpAny_pure h|exact absurd rfl (hv _)
theorem Nw{M:Model}{A:Around}{E:Value->Shared->Prop}{s:Shared}{Q:Value->Shared->Prop}{v:Value}{d:Bool}(hv:∀id,v≠ .builtin id)(h:Q (.bool<|!(v==.bool d)) s):wpAny M A (compareOp .IsNot v<|.bool d) Q E s:=by
 cases v<;>first|exact wpAny_pure h|exact absurd rfl (hv _)
def C0:R2:=fun x y H Q=>match y with
 |.bl b=>Q (.bl<|decide<|x=.bl b) H
 |_=>y=.aD/\Q (.bl<|decide<|x=.aD) H
def C1:R2:=fun x y H Q=>match y with
 |.bl b=>Q (.bl<|!decide (x=.bl b)) H
 |_=>y=.aD/\Q (.bl<|!decide (x=.aD)) H
theorem Nx:aX X (compareOp .Is) C0:=by
 intro pins s σ H x y v u Q I rx ry h;cases y with
 |bl b=>
  cases ry;have nb:∀id,v≠ .builtin id:=fun id z=>by
   subst z;cases x<;>first
    | (obtain⟨t,e⟩:=rx;cases e;done)
    | (cases rx;done)
  refine Nv nb<|bK I (show Q (.bl<|decide<|x=.bl b) H from h) ?_
  cases x<;>first
   | (cases rx;rfl)
   | (obtain⟨t,rfl⟩:=rx;rfl)
   | (cases rx;rename_i a;cases a<;>cases b<;>rfl)
 |_=>exact KG pins s σ H x _ v u Q I rx ry h
theorem Ny:aX X (compareOp .IsNot) C1:=by
 intro pins s σ H x y v u Q I rx ry h;cases y with
 |bl b=>
  cases ry;have nb:∀id,v≠ .builtin id:=fun id z=>by
   subst z;cases x<;>first
    | (obtain⟨t,e⟩:=rx;cases e;done)
    | (cases rx;done)
  refine Nw nb<|bK I (show Q (.bl<|!decide (x=.bl b)) H from h) ?_
  cases x<;>first
   | (cases rx;rfl)
   | (obtain⟨t,rfl⟩:=rx;rfl)
   | (cases rx;rename_i a;cases a<;>cases b<;>rfl)
 |_=>exact KH pins s σ H x _ v u Q I rx ry h
def b8(K:Frag):CmpOp->R2
 |.Eq=>jW false
 |.NotEq=>jW true
 |.Lt=>jg (fun _ _=>True) fun i j=>.bl (decide<|i<j)
 |.LtE=>jg (fun _ _=>True) fun i j=>.bl (decide<|i<=j)
 |.Gt=>jg (fun _ _=>True) fun i j=>.bl (decide<|j<i)
 |.GtE=>jg (fun _ _=>True) fun i j=>.bl (decide<|j<=i)
 |.In=>uv K false
 |.NotIn=>uv K true
 |.Is=>C0
 |.IsNot=>C1
theorem oK(hu:X.A.units+64<cLine)(op:CmpOp):aX X (compareOp op) (b8 X.K op):=by
 cases op with
 |Eq=>exact Nq hu
 |NotEq=>exact Nr hu
 |Lt=>exact aX.imp Ky qL
 |LtE=>exact aX.imp Kz qL
 |Gt=>exact aX.imp KA qL
 |GtE=>exact aX.imp KC qL
 |In=>exact Nt hu
 |NotIn=>exact Nu hu
 |Is=>exact Nx
 |IsNot=>exact Ny
inductive Ty where|int|str|bool|list|tuple|dict
 deriving DecidableEq
def Ty.nm:Ty->String
 |.int=> "int" |.str=> "str" |.bool=> "bool" |.list=> "list" |.tuple=> "tuple" |.dict=> "dict"
def br(T:Ty)(x:V)(H:Hp)(Q:Bool->Prop):Prop:=match x with
 |.aD=>Q false
 |.bl _=>Q (T==.bool ||T==.int)
 |.int _=>Q (T==.int)
 |.str _=>Q (T==.str)
 |.ref a=>match H a with
  |some (.lst _)=>Q (T==.list)
  |some (.aY _<|.lst _)=>Q (T==.list)
  |some (.tup _)=>Q (T==.tuple)
  |some (.dK _)=>Q (T==.dict)
  |some (.dT _)=>Q (T==.dict)
  |_=>False
 |_=>False
theorem k8(K:Frag)(S T:Ty):kitOne K (.type S.nm) (.type T.nm)=some (S==T ||(S==.bool && T==.int)):=by
 cases S<;>cases T<;>rfl
theorem Nz(K:Frag)(T:Ty):kitOne K (.type "NoneType") (.type T.nm)=some false:=by
 cases T<;>rfl
theorem NA(hc:X.calm=true):bQ X (.builtin "sum") (fun xs H Q=>∃(p:Addr) (ns:List Int),xs=[.ref p]/\aw X.K H p (ns.map V.int)/\Q (.int ns.sum) H):=by
 intro pins s σ H xs us Q I r h;obtain⟨p,ns,rfl,hq,q⟩:=h;obtain⟨u,rfl,ru⟩:=vals1 r;cases ru;obtain⟨aj,rv,pl,hz⟩:=I.list hq;have hi:=intsAre_of rv;obtain⟨xs,hx⟩:=hi.allInts.items;have gm:s.heap.IsList p (intItems xs):=hx ▸ pl.isList;refine sum_intListG (I.ok.hd hc) gm fun h' tk t' hk=>?_;have e1:ns=xs.toList.map (·.1):=by
  rw[<-nums_intItems,<-hx];exact(show numsOf aj.toArray.toList=ns from hi.numsOf).symm
 have e2:preSum (numAt xs) xs.size=ns.sum:=by
  rw[preSum_eq,zbo (by simp),e1]
 rw[e2];exact⟨.int ns.sum,H,I.kept (t':=tk) hk,⟨t',rfl⟩,q⟩
theorem C2:∀{ts:List Str}{us:List Value},Vals (ts.map V.str) us->∃l:List (Str×Tok),us=strValues l/\l.map (·.1)=ts
 |[],_,.nil=>⟨[],rfl,rfl⟩
 |x::ts,_,.cons ⟨t,e⟩ r=>by
  obtain⟨l,e1,e2⟩:=C2 r;subst e e1;exact⟨(x,t)::l,rfl,by simp[e2]⟩
def rJoin(K:Frag):V->List V->Hp->VK->Prop:=fun x vs H Q=>∃(sep:Str) (p:Addr) (ts:List Str),x=.str sep/\vs=[.ref p]/\aw K H p (ts.map V.str)/\JoinOk sep ts=true/\Q (.str<|Txt.join sep ts) H
theorem NB:qu X "str.join" (rJoin X.K):=by
 intro pins s σ H x vs v us Q I rx rv h;obtain⟨sep,p,ts,rfl,rfl,hq,hj,q⟩:=h;obtain⟨t,rfl⟩:=rx;obtain⟨u,rfl,ru⟩:=vals1 rv;cases ru;obtain⟨aj,rv,pl,hz⟩:=I.list hq;obtain⟨l,rfl,e2⟩:=C2 rv;exact SC.join pl.isList e2 hj fun t' k=>⟨.str _,H,I.tok k,⟨t',rfl⟩,q⟩
def NC:V->List V->Hp->VK->Prop:=fun x vs H Q=>∃z y,x=.str z/\vs=[.str y]/\z.length<=sizeLine/\Q (.str<|Txt.lstripChars z y) H
theorem ND:qu X "str.lstrip" NC:=by
 intro pins s σ H x vs v us Q I rx rv h;obtain⟨z,y,rfl,rfl,hz,q⟩:=h;obtain⟨t,rfl⟩:=rx;obtain⟨u,rfl,⟨t2,rfl⟩⟩:=vals1 rv;refine call_gives F.slot_str_lstrip (typeIs_str _ _ _) F.entry_str_lstrip (F.args_str_lstrip_2 _ _) (gives_str_lstrip_chars z y t t2)<|post_val_or_made (fun _=>fits_stripped _ _ _ hz) fun t' k=>?_;exact⟨.str _,H,I.tok k,⟨t',rfl⟩,q⟩
def k9{α:Type}(xs:List α)(lo hi:Option Int):List α:=(xs.drop<|HT.aR xs.length 0 lo).take (HT.aR xs.length xs.length hi - HT.aR xs.length 0 lo)
def qM(z:Str)(lo hi:Option Int):Str:=⟨(k9 z.cps.toList lo hi).toArray⟩
theorem NF(z:Str)(lo hi:Option Int):((Builtin.Str.strSliceIndices lo hi 1 z.length).filterMap (z.cps[·]?))=k9 z.cps.toList lo hi:=by
 obtain⟨h1,h2,h3⟩:=w6 lo hi z.length;have e0:Builtin.Str.strSliceIndices lo hi 1 z.length=sliceRange (sliceBounds lo hi none z.length).1 (sliceBounds lo hi none z.length).2.1 (sliceBounds lo hi none z.length).2.2:=rfl;have hz:z.cps.toList.length=z.length:=by simp[Str.length]
 rw[e0,h1,h2,h3,sliceRange_one,pick_run];unfold k9;rw[hz]
end
section
variable {X:Cx}
def uw(K:Frag)(neg:Bool):R2:=fun x y H Q=>∃p xs d es,y=.ref p/\aw K H p xs/\Is H d x/\IsL H es xs/\SeqAt.shaped d=true/\d.depth<=60/\(∀e∈es,SeqAt.shaped e=true)/\Q (.bl<|neg ^^ es.any fun e=>PyData.eqv e d) H
open Classical in
end
def jX:HO:=.ext fun _=>True
structure ux (ob:Obj) (cls:Value) (vs:Array Value):Prop where
 cls:ob.cls=cls
 data:ob.data=.fields vs
 NG:vs[2]?=some .none
 dict:ob.dict=none
def ExcAt(H:Hp)(ea D:Addr):Prop:= ∃ob vs,H ea=some (.aY ob jX)/\ux ob (.ref D) vs
structure oM (K:Frag) (D:Addr):Prop where
 qN:PySem.W.findIn K (.ref D) "__getattribute__"=some (some<|.builtin "BaseException.__getattribute__")
 qO:PySem.W.findIn K (.ref D) "__getattr__"=some none
 hk:(PySem.W.clsIn K D).isSome=true
 ha:PySem.W.findIn K (.ref D) "__class__"=some (some<|.builtin "object.__class__")
 hn:PySem.W.specialIn K (.builtin "object.__class__") "__get__"=some (some<|.builtin "getset_descriptor.__get__")
 kT:PySem.W.takesIn K (.builtin "object.__class__")=some true
 hm:PySem.W.mroIn K D (.type "object")=some true
 hb:PySem.W.mroIn K D (.type "BaseException")=some true
def cV:V->Value
 |.ref a=>.ref a
 |.ty n=>.type n
 |_=>.none
def jh(K:Frag):List V->Hp->VK->Prop
 |[.ref ea,c],H,Q=>∃D b,ExcAt H ea D/\oM K D/\((∃C,c=.ref C)\/∃n,c=.ty n)/\kitOne K (.ref D) (cV c)=some b/\Q (.bl b) H
 |_,_,_=>False
def C3(sp:Sp)(hv:Option Addr)(t:TA):TE:=fun σ H Q=>t σ H fun vs H1=>(∃ea D,hv=some ea/\ExcAt H1 ea D)/\sp vs H1 Q E0
def xF(C:Addr)(E:XK)(t:TA):TS:=fun _ σ H=>t σ H fun vs H1=>vs.length<=sizeLine/\E (.ref C) none H1
def xG(K:Frag)(C:Addr)(i n:Nat)(th:Addr->TS)(D:Ends):XK:=fun cls _ H'=>exmOne K cls (.ref C)=some true/\
 ∀(ea:Addr) (ob:Obj) (vs:Array Value) (σ':St),H' ea=none->σ'.length=n->ux ob cls vs->th ea {nx:=fun _ _=>False,rt:=D.rt} (σ'.set i<|some<|.ref ea) (upd H' ea<|.aY ob jX)
def uz(K:Frag)(C:Addr)(i n:Nat)(tb:XK->TS)(th:Addr->TS):TS:=fun D σ H=>tb (xG K C i n th D) {nx:=D.nx,rt:=D.rt} σ H
def NH(K:Frag)(C:Addr)(i:Nat)(th:Addr->TS)(D:Ends)(σ:St):XK:=fun cls _ H'=>exmOne K cls (.ref C)=some true/\
 ∀(ea:Addr) (ob:Obj) (vs:Array Value),H' ea=none->ux ob cls vs->th ea {nx:=fun _ _=>False,rt:=D.rt} (σ.set i<|some<|.ref ea) (upd H' ea<|.aY ob jX)
def NI(K:Frag)(C:Addr)(i k:Nat)(sp:Sp)(ta:TA)(th:Addr->TS):TS:=fun D σ H=>ta σ H fun vs H1=>sp vs H1 (fun v H2=>D.nx (σ.set k<|some v) H2) (NH K C i th D σ)
inductive mM where|len|min|max|sum|int|list|tuple|abs
 deriving DecidableEq
inductive iL where|append|pop|extend|join|lstrip|starts|reverse|clear|index|find|count|C4|xH
 deriving DecidableEq
inductive IK where|list|tup|eS|NJ|zip|NK|txt|NL|NM
 deriving DecidableEq
inductive RE where
 |v (i:Nat)|c (x:V)|g (j:Nat)
 |bin (op:Operator) (a b:RE)|neg (a:RE)
 |cmp (op:CmpOp) (a b:RE)|iM (op bT:CmpOp) (a b d:RE)|C5 (op bT C6:CmpOp) (a b d f:RE)
 |and (as:List RE)|or (as:List RE)|not (a:RE)|qP (t a b:RE)
 |call (j:Nat) (as:List RE)|blt (b:mM) (as:List RE)|d_ (T:Ty) (a:RE)
 |dU (m:iL) (o:RE) (as:List RE)
 |ix (a b:RE)|sl (a:RE) (lo hi:Option RE)
 |tup (as:List RE)|lst (as:List RE)
 |comp (tk:Option Nat) (fv:List (Str×Nat)) (k:IK) (aj:List RE) (cond:Option RE) (elt:RE)
 |cC (a c:RE)|uA (j:Nat) (a:RE)|k_|same (a b:RE)
 |NN|bR (a b:RE)|C7 (a b:RE)|oN (a b:RE)|NO (o a b:RE)|inD (a b:RE)|C8 (a b:RE)
 |xt (T:Frag->TA->TE) (as:List RE)|xm (T:Frag->TE->TA->TE) (o:RE) (as:List RE)
 |fld (o:RE) (f:Str)|bo (j:Nat) (m:Str) (o:RE) (as:List RE)|make (j:Nat) (as:List RE)
structure aN where
 K:Frag
 fs:Nat->Sp
 gv:Nat->V
 E:XK
 sd:Addr->List (Key×V)->Prop
 ms:Nat->Addr×Sp
 kt:Nat->Addr×Sp
 ex:Nat->Addr
 hs:Nat->Sp
 hv:Option Addr
abbrev aN.calm(Γ:aN):aN:={Γ with E:=E0}
inductive RS where
 |asg (i:Nat) (e:RE)|jY (i:Nat) (e:RE)|set (o ix e:RE)
 |drop (e:RE)|ret (e:RE)|NP
 |ite (c:RE) (t e:List RS)
 |fO (i:Nat) (k:IK) (aj:List RE) (body:List RS)
 |oO (is:List Nat) (k:IK) (aj:List RE) (body:List RS)
 |xI (c:RE) (body:List RS)
 |pass|brk|cont|never
 |NQ (o lo hi e:RE)|gH (o:RE) (f:Str) (e:RE)
 |uB (is:List Nat) (e:RE)|dput (o i e:RE)|hV (j:Nat) (as:List RE)|xJ (n i j:Nat) (body su:List RS)|NR (k i j f:Nat) (as:List RE) (su:List RS)
 |xs (T:aN->TS)
def ji(K:Frag)(x:V)(H:Hp)(Q:Bool->Prop):Prop:=match x with
 |.aD=>Q false
 |.bl b=>Q b
 |.int i=>Q (i !=0)
 |.str y=>y.length<=sizeLine/\Q ((y.length:Int) !=0)
 |.ref p=>(∃xs,aw K H p xs/\Q (!xs.isEmpty))\/(∃xs,aO K H p xs/\Q (!xs.isEmpty))\/∃kvs,H p=some (.dK kvs)/\Q (!kvs.isEmpty)
 |_=>False
theorem C9{K:Frag}{x:V}{H:Hp}{Q:Bool->Prop}(h:ji K x H Q):∃k,BG K x H k/\Q k:=by
 cases x with
 |aD=>exact⟨_,rfl,h⟩
 |bl b=>exact⟨_,rfl,h⟩
 |int i=>exact⟨_,rfl,h⟩
 |str y=>exact⟨_,⟨h.1,rfl⟩,h.2⟩
 |ref p=>
  rcases h with⟨xs,h1,h2⟩|⟨xs,h1,h2⟩|⟨xs,h1,h2⟩
  ·exact⟨_,.inl ⟨xs,h1,rfl⟩,h2⟩
  ·exact⟨_,.inr<|.inl ⟨xs,h1,rfl⟩,h2⟩
  ·exact⟨_,.inr<|.inr ⟨xs,h1,rfl⟩,h2⟩
 |_=>exact False.elim h
def eF(K:Frag)(t:TE):TT:=fun σ H Q=>t σ H fun x H1=>ji K x H1 fun b=>Q b H1
def xO(K:Frag)(t:TE):TE:=fun σ H Q=>t σ H fun x H1=>ji K x H1 fun b=>Q (.bl<|!b) H1
def xQ:V->Hp->VK->Prop:=fun x H Q=>match x with|.int i=>Q (.int<|-i) H|_=>False
def qy(K:Frag)(x:V)(H:Hp)(Q:Nat->Prop):Prop:=match x with
 |.str y=>y.length<=sizeLine/\Q y.length
 |.ref p=>(∃xs,aw K H p xs/\Q xs.length)\/∃xs,aO K H p xs/\Q xs.length
 |_=>False
def signs(x:Str):List V:=x.cps.toList.map fun c=>V.str ⟨#[c]⟩
def C_:TE:=fun _ H Q=>∀p,H p=none->Q (.ref p) (upd H p<|.dK [])
def lg(K:Frag):mM->List V->Hp->VK->Prop
 |.len,[x],H,Q=>qy K x H fun n=>Q (.int n) H
 |.min,[.int i,.int j],H,Q=>Q (.int (if j<i then j else i)) H
 |.max,[.int i,.int j],H,Q=>Q (.int (if j>i then j else i)) H
 |.min,[.ref p],H,Q=>∃ns:List Int,aw K H p (ns.map V.int)/\ns≠ []/\∀m:Int,m∈ns->(∀n∈ns,m<=n)->Q (.int m) H
 |.max,[.ref p],H,Q=>∃ns:List Int,aw K H p (ns.map V.int)/\ns≠ []/\∀m:Int,m∈ns->(∀n∈ns,n<=m)->Q (.int m) H
 |.sum,[.ref p],H,Q=>∃ns:List Int,aw K H p (ns.map V.int)/\Q (.int ns.sum) H
 |.int,[.int i],H,Q=>Q (.int i) H
 |.int,[.bl k],H,Q=>Q (.int (if k then 1 else 0)) H
 |.list,[.ref p],H,Q=>∃ys,(aw K H p ys\/aO K H p ys)/\∀l,H l=none->Q (.ref l) (upd H l<|.lst ys)
 |.list,[.str x],H,Q=>x.length<=sizeLine/\∀l,H l=none->Q (.ref l) (upd H l<|.lst<|signs x)
 |_,_,_,_=>False
def jj(T:Ty):List V->Hp->VK->Prop
 |[x,.ty n],H,Q=>n=T.nm/\br T x H fun b=>Q (.bl b) H
 |_,_,_=>False
def xR(K:Frag):iL->V->List V->Hp->VK->Prop
 |.append,.ref l,[y],H,Q=>∃xs,H l=some (.lst xs)/\xs.length<sizeLine/\Q .aD (upd H l<|.lst<|xs++[y])
 |.pop,.ref l,[],H,Q=>∃xs y,H l=some (.lst xs)/\xs[xs.length - 1]?=some y/\Q y (upd H l<|.lst xs.dropLast)
 |.extend,.ref l,[.ref b],H,Q=>∃xs zs,H l=some (.lst xs)/\H b=some (.lst zs)/\xs.length+zs.length<=sizeLine/\Q .aD (upd H l<|.lst<|xs++zs)
 |.join,.str sep,[.ref p],H,Q=>∃ts:List Str,aw K H p (ts.map V.str)/\JoinOk sep ts=true/\Q (.str<|Txt.join sep ts) H
 |.lstrip,.str z,[.str y],H,Q=>z.length<=sizeLine/\Q (.str<|Txt.lstripChars z y) H
 |.clear,.ref l,[],H,Q=>∃xs,H l=some (.lst xs)/\Q .aD (upd H l<|.lst [])
 |.xH,.ref l,[y],H,Q=>∃xs,aw K H l xs/\gi y=true/\xs.all gi=true/\e8 y xs=true/\Q (.int (xs.findIdx (fun z=>fN z y):Nat)) H
 |_,_,_,_,_=>False
def uC:iL->String
 |.join|.lstrip|.starts|.find|.count=> "str"
 |_=> "list"
def uD(K:Frag)(m:iL)(to:TE)(t:TA):TE:=fun σ H Q=>to σ H fun x H1=>ua K (uC m) x H1/\t σ H1 fun xs H2=>xR K m x xs H2 Q
def oP(K:Frag):V->Option Int->Option Int->Hp->VK->Prop:=fun x lo hi H Q=>match x with
 |.str z=>z.length<=sizeLine/\Q (.str<|qM z lo hi) H
 |.ref a=>(∃xs,aw K H a xs/\∀p,H p=none->Q (.ref p) (upd H p<|.lst<|bL xs lo hi))\/
  (∃xs,aO K H a xs/\ ¬(HT.aR xs.length 0 lo=0/\HT.aR xs.length xs.length hi=xs.length)/\∀p,H p=none->Q (.ref p) (upd H p<|.tup<|bL xs lo hi))
 |_=>False
def mO(kvs:List (Key×V))(k:Key):Option V:=(kvs.find? fun kv=>decide (kv.1=k)).map (·.2)
def Dc(sd:Addr->List (Key×V)->Prop):R2:=fun x y H Q=>∃p kvs k v,x=.ref p/\y=kV k/\sd p kvs/\mO kvs k=some v/\Q v H
def lj(K:Frag)(sd:Addr->List (Key×V)->Prop):R2:=fun x y H Q=>B8 K x y H Q\/B9 K x y H Q\/B_ x y H Q\/Dc sd x y H Q
def NT(r r' r2:R2)(ta tb tc td:TE):TT:=fun σ H Q=>ta σ H fun x H1=>tb σ H1 fun y H2=>r x y H2 fun z H3=>∃k,z=.bl k/\
 (if k=true then tc σ H3 fun w H4=>r' y w H4 fun z2 H5=>∃k2,z2=.bl k2/\(if k2=true then td σ H5 fun u H6=>r2 w u H6 fun z3 H7=>∃k3,z3=.bl k3/\Q k3 H7 else Q false H5) else Q false H3)
def NU(K:Frag)(a b:Addr):It:=
  ⟨fun i H=>∃xs ys,aw K H a xs/\aw K H b ys/\i<xs.length/\i<ys.length,
   fun i H x H'=>∃T,H T=none/\x=.ref T/\∀xs ys u v,aw K H a xs->aw K H b ys->xs[i]?=some u->ys[i]?=some v->H'=upd H T (.tup [u,v]),
   fun i H=>∃xs ys,aw K H a xs/\aw K H b ys/\i=min xs.length ys.length⟩
def NV(K:Frag)(a:Addr):It:=
  ⟨fun i H=>∃xs,aw K H a xs/\i<xs.length,
   fun i H x H'=>∃T,H T=none/\x=.ref T/\∀xs u,aw K H a xs->xs[i]?=some u->H'=upd H T (.tup [.int (i:Nat),u]),
   fun i H=>∃xs,aw K H a xs/\i=xs.length⟩
def NW(K:Frag)(ta:TA):TI:=fun σ H R=>ta σ H fun vs H1=>∃a,vs=[.ref a]/\(∃xs,aw K H1 a xs)/\R (NV K a) H1
def NX(K:Frag)(ta:TA):TI:=fun σ H R=>ta σ H fun vs H1=>∃a b,vs=[.ref a,.ref b]/\(∃xs,aw K H1 a xs)/\(∃ys,aw K H1 b ys)/\R (NU K a b) H1
def NY(K:Frag)(a b:Addr):It:=
  ⟨fun i H=>∃xs ys,aO K H a xs/\aO K H b ys/\i<xs.length/\i<ys.length,
   fun i H x H'=>∃T,H T=none/\x=.ref T/\∀xs ys u v,aO K H a xs->aO K H b ys->xs[i]?=some u->ys[i]?=some v->H'=upd H T (.tup [u,v]),
   fun i H=>∃xs ys,aO K H a xs/\aO K H b ys/\i=min xs.length ys.length⟩
def NZ(K:Frag)(ta:TA):TI:=fun σ H R=>ta σ H fun vs H1=>∃a b,vs=[.ref a,.ref b]/\(∃xs,aO K H1 a xs)/\(∃ys,aO K H1 b ys)/\R (NY K a b) H1
def N1(z:Str):It:=⟨fun i _=>i<z.length,fun i H x H'=>H'=H/\∃c,z.cps[i]?=some c/\x=.str ⟨#[c]⟩,fun i _=>i=z.length⟩
def N2(ta:TE):TI:=fun σ H R=>ta σ H fun x H1=>∃z,x=.str z/\R (N1 z) H1
def N3(lo c:Int)(n:Nat):It:=⟨fun i _=>i<n,fun i H x H'=>H'=H/\x=.int (lo+i*c),fun i _=>n<=i⟩
def N4(ta:TA):TI:=fun σ H R=>ta σ H fun vs H1=>∃(i j c:Int) (n:Nat),vs=[.int i,.int j,.int c]/\c≠0/\Builtin.Range.small i j c=true/\Builtin.divisionGoesByPylong (j - i) c=false/\Builtin.Range.rangeSize i j c=n/\R (N3 i c n) H1
mutual
def ag(Γ:aN):RE->TE
 |.v i=>wA i
 |.c x=>tC x
 |.g j=>tC (Γ.gv j)
 |.bin op a b=>d5 (iK Γ.K op) (ag Γ a) (ag Γ b)
 |.neg a=>BB xQ (ag Γ a)
 |.cmp op a b=>d5 (b8 Γ.K op) (ag Γ a) (ag Γ b)
 |.iM op bT a b d=>oC (b8 Γ.K op) (b8 Γ.K bT) (ag Γ a) (ag Γ b) (ag Γ d)
 |.C5 _ _ _ _ _ _ _=>fun _ _ _=>False
 |.and as=>Dd Γ as
 |.or as=>De Γ as
 |.not a=>xO Γ.K (ag Γ a)
 |.qP t a b=>Bk (aU Γ t) (ag Γ a) (ag Γ b)
 |.call j as=>wQ (Γ.fs j) [] Γ.E (aL Γ as)
 |.blt b as=>dg (lg Γ.K b) (aL Γ as)
 |.d_ T a=>dg (jj T) (cA (ag Γ a)<|cA (tC<|.ty T.nm) fK)
 |.dU m o as=>uD Γ.K m (ag Γ o) (aL Γ as)
 |.ix a b=>d5 (lj Γ.K Γ.sd) (ag Γ a) (ag Γ b)
 |.sl a lo hi=>wY (oP Γ.K) (ag Γ a) (lq Γ lo) (lq Γ hi)
 |.tup as=>BN (aL Γ as)
 |.lst as=>BO (aL Γ as)
 |.comp tk fv k aj cond elt=>jf Γ.K (hX Γ k aj) tk fv (qQ Γ.calm cond) (ag Γ.calm elt)
 |.cC a c=>dg (jh Γ.K) (cA (ag Γ a)<|cA (ag Γ c) fK)
 |.k_=>C_
 |.same a b=>d5 Np (ag Γ a) (ag Γ b)
 |.inD a b=>d5 (uw Γ.K false) (ag Γ a) (ag Γ b)
 |.C8 a b=>d5 (uw Γ.K true) (ag Γ a) (ag Γ b)
 |.NN=>MH
 |.bR a b=>Cm (ag Γ a) (ag Γ b)
 |.C7 a b=>Cn (ag Γ a) (ag Γ b)
 |.oN a b=>xq (ag Γ a) (ag Γ b)
 |.NO o a b=>MJ (ag Γ o) (ag Γ a) (ag Γ b)
 |.xt T as=>T Γ.K (aL Γ as)
 |.xm T o as=>T Γ.K (ag Γ o) (aL Γ as)
 |.uA j a=>C3 (Γ.hs j) Γ.hv (cA (ag Γ a) fK)
 |.fld o f=>tY Γ.K (ag Γ o) f
 |.bo j m o as=>mz (Γ.ms j).1 m (Γ.ms j).2 [] Γ.E (ag Γ o) (aL Γ as)
 |.make j as=>wR (Γ.kt j).1 (Γ.kt j).2 [] Γ.E (aL Γ as)
def aU(Γ:aN):RE->TT
 |.not a=>Bg (aU Γ a)
 |.inD a b=>kR (d5 (uw Γ.K false) (ag Γ a)<|ag Γ b)
 |.C8 a b=>kR (d5 (uw Γ.K true) (ag Γ a)<|ag Γ b)
 |.C7 a b=>tB (Cn (ag Γ a)<|ag Γ b)
 |.oN a b=>tB (xq (ag Γ a)<|ag Γ b)
 |.and as=>Df Γ as
 |.or as=>Dg Γ as
 |.cmp op a b=>kR (d5 (b8 Γ.K op) (ag Γ a)<|ag Γ b)
 |.iM op bT a b d=>kR (oC (b8 Γ.K op) (b8 Γ.K bT) (ag Γ a) (ag Γ b)<|ag Γ d)
 |.C5 op bT C6 a b d f=>NT (b8 Γ.K op) (b8 Γ.K bT) (b8 Γ.K C6) (ag Γ a) (ag Γ b) (ag Γ d) (ag Γ f)
 |.v i=>eF Γ.K (wA i)
 |.call j as=>eF Γ.K (wQ (Γ.fs j) [] Γ.E<|aL Γ as)
 |.d_ T a=>eF Γ.K (dg (jj T)<|cA (ag Γ a)<|cA (tC<|.ty T.nm) fK)
 |.cC a c=>eF Γ.K (dg (jh Γ.K)<|cA (ag Γ a)<|cA (ag Γ c) fK)
 |.dU m o as=>eF Γ.K (uD Γ.K m (ag Γ o)<|aL Γ as)
 |.ix a b=>eF Γ.K (d5 (lj Γ.K Γ.sd) (ag Γ a)<|ag Γ b)
 |.bin op a b=>eF Γ.K (d5 (iK Γ.K op) (ag Γ a)<|ag Γ b)
 |.fld o f=>eF Γ.K (tY Γ.K (ag Γ o) f)
 |.xt T as=>eF Γ.K (T Γ.K<|aL Γ as)
 |.xm T o as=>eF Γ.K (T Γ.K (ag Γ o)<|aL Γ as)
 |.bo j m o as=>eF Γ.K (mz (Γ.ms j).1 m (Γ.ms j).2 [] Γ.E (ag Γ o)<|aL Γ as)
 |_=>fun _ _ _=>False
def aL(Γ:aN):List RE->TA
 |[]=>fK
 |a::r=>cA (ag Γ a) (aL Γ r)
def Dd(Γ:aN):List RE->TE
 |[]=>fun _ _ _=>False
 |[a]=>ag Γ a
 |a::r=>Bh (ag Γ a) (Dd Γ r)
def De(Γ:aN):List RE->TE
 |[]=>fun _ _ _=>False
 |[a]=>ag Γ a
 |a::r=>Bi (ag Γ a) (De Γ r)
def Df(Γ:aN):List RE->TT
 |[]=>fun _ _ _=>False
 |[a]=>aU Γ a
 |a::r=>Be (aU Γ a) (Df Γ r)
def Dg(Γ:aN):List RE->TT
 |[]=>fun _ _ _=>False
 |[a]=>aU Γ a
 |a::r=>Bf (aU Γ a) (Dg Γ r)
def lq(Γ:aN):Option RE->TO
 |none=>B3
 |some a=>t9 (ag Γ a)
def qQ(Γ:aN):Option RE->Option TT
 |none=>none
 |some a=>some (aU Γ a)
def hX(Γ:aN)(k:IK):List RE->TI
 |[]=>fun _ _ _=>False
 |a::r=>match k with
  |.list=>qi Γ.K (ag Γ a)
  |.tup=>Kd Γ.K (ag Γ a)
  |.eS=>Bx (cA (ag Γ a)<|aL Γ r)
  |.NJ=>Kg (cA (ag Γ a)<|aL Γ r)
  |.zip=>NX Γ.K (cA (ag Γ a)<|aL Γ r)
  |.NK=>NW Γ.K (cA (ag Γ a)<|aL Γ r)
  |.txt=>N2 (ag Γ a)
  |.NL=>NZ Γ.K (cA (ag Γ a)<|aL Γ r)
  |.NM=>N4 (cA (ag Γ a)<|aL Γ r)
end
structure bS where
 N:List Str
 sc:Scope
 fn:List Str
 gn:List Str
 bl:List Str
 mn:List Str
 kn:List Str
 en:List Str
 hn:List Str
 md:Nat
def xT(sc:Scope)(x:Str):Bool:=match sc.names.lookup x with
 |some .local=>true|some .cell=>true|some .free=>true|_=>false
def loc(sc:Scope)(x:Str):Bool:=match sc.names.lookup x with
 |some .local=>true|some .cell=>true|_=>false
def jZ(sc:Scope)(x:Str):Bool:=match sc.names.lookup x with
 |some .globalImplicit=>true|_=>false
theorem N5{sc:Scope}{x:Str}(h:xT sc x=true):tD sc x:=by
 unfold xT at h;unfold tD;cases e:sc.names.lookup x with
 |none=>rw[e] at h;cases h
 |some k=>rw[e] at h;cases k<;>first|exact .inl rfl|exact .inr (.inl rfl)|exact .inr (.inr rfl)|cases h
theorem uE{sc:Scope}{x:Str}(h:loc sc x=true):Loc sc x:=by
 unfold loc at h;unfold Loc;cases e:sc.names.lookup x with
 |none=>rw[e] at h;cases h
 |some k=>rw[e] at h;cases k<;>first|exact .inl rfl|exact .inr rfl|cases h
theorem N6{sc:Scope}{x:Str}(h:jZ sc x=true):sc.names.lookup x=some .globalImplicit:=by
 unfold jZ at h;cases e:sc.names.lookup x with
 |none=>rw[e] at h;cases h
 |some k=>rw[e] at h;cases k<;>first|rfl|cases h
structure qR where
 elt:Expr
 tg:Expr
 iter:Expr
 ifs:List Expr
 sc:Scope
def mM.nm:mM->Str
 |.len=> "len" |.min=> "min" |.max=> "max" |.sum=> "sum" |.int=> "int" |.list=> "list" |.tuple=> "tuple" |.abs=> "abs"
def iL.nm:iL->Str
 |.append=> "append" |.pop=> "pop" |.extend=> "extend" |.join=> "join" |.lstrip=> "lstrip" |.starts=> "startswith" |.reverse=> "reverse" |.clear=> "clear" |.index=> "index" |.find=> "find" |.count=> "count" |.C4=> "count" |.xH=> "index"
def mP:Expr->Bool
 |.Call (.Name _ _) [] [] _=>false
 |_=>true
def noStar:Expr->Bool
 |.Starred ..=>false
 |_=>true
def qS:Expr->Bool
 |.Set ..=>false
 |_=>true
def xU(Dh sc:Scope):Scope:=
 {Dh with names:=Dh.names.map fun(n,k)=>if (k==.free && sc.kind==.function && sc.names.lookup n==some .cell) then (n,.cell) else (n,k)}
def xV(tk:Option Nat)(tg:Expr):Option (List Str):=match tk,tg with
 |none,.Name x _=>some [x]
 |some 2,.Tuple [.Name x _,.Name y _] _ _=>some [x,y]
 |_,_=>none
def Di(S:bS)(c:qR)(ln:List Str)(fv:List (Str×Nat)):bS:={S with N:=ln++fv.map (·.1),sc:=xU c.sc S.sc,en:=[],md:=if S.md=0 then 0 else 2}
def xW(S:bS)(c:qR)(ln:List Str)(fv:List (Str×Nat)):Bool:=
 decide (c.sc.kind=.function) && c.sc.names.all (fun y=>decide<|y.2≠ .cell) && c.sc.names.all (fun y=>decide (y.2≠ .local)||decide (c.sc.names.lookup y.1=some .local))
 && c.sc.names.all (fun y=>decide (y.2≠ .free)||decide (S.sc.names.lookup y.1=some .cell)||decide (S.sc.names.lookup y.1=some .free))
 && fv.all (fun p=>decide (S.N[p.2]?=some p.1) && decide (c.sc.names.lookup p.1=some .free))
 && ln.all (fun x=>decide<|c.sc.names.lookup x=some .local) && decide ((ln++fv.map (·.1)).Nodup) && qS c.iter
end L2
set_option maxHeartbeats 400000
namespace L2
open PySem PySem.Spec PyProof.Rows
def gI(A:Around)(h:Heap):Prop:=A.handled=none\/∃e o vs,A.handled=some (.ref e)/\h.get? e=some o/\o.data=.fields vs/\vs[2]?=some .none
theorem gI.keeps{A:Around}{h h':Heap}(x:gI A h)(k:∀b o vs,h.get? b=some o->o.data=.fields vs->vs[2]?=some .none->h'.get? b=some o):gI A h':=by
 rcases x with x|⟨e,o,vs,a,b,c,d⟩
 ·exact .inl x
 ·exact .inr ⟨e,o,vs,a,k e o vs b c d,c,d⟩
theorem N7:entryFor table "proto.unchain"=some Builtin.«proto.unchain»:=entryFor_of_fast (by kernel_rfl)
section
variable {prog:Program}{w:World}{A:Around}{E:Value->Shared->Prop}{s:Shared}
theorem N_{a:Addr}{o:Obj}{vs:Array Value}{i:Nat}{v:Value}{Q:Unit->Shared->Prop}(ho:s.heap.get? a=some o)(hd:o.data=.fields vs)(hi:i<vs.size)(h:Q () {s with heap:=s.heap.update a (Obj.mapFields (·.setIfInBounds i v))}):
  wpAny (model prog w) A (updateField a i v) Q E s:=by
 unfold updateField;refine wpAny_bind<|wpAny_load ho ?_;rw[hd];show wpAny _ _ (if i<vs.size then _ else _) _ _ s
 rw[if_pos hi];exact wpAny_update ho h
theorem Oa{α:Type}{a:Addr}{o:Obj}{vs:Array Value}{Q:α->Shared->Prop}(hh:gI A s.heap)(ho:s.heap.get? a=some o)(hd:o.data=.fields vs)(h2:2<vs.size)(gp:∀e,A.handled=some (.ref e)->e≠a)
  (hE:∀h',Heap.SameBut a s.heap h'->(∃o',h'.get? a=some o'/\o'.cls=o.cls)->E (.ref a) {s with heap:=h'}):wpAny (model prog w) A (raiseNew (.ref a):Sem α) Q E s:=by
 unfold raiseNew;refine wpAny_bind<|wpAny_handled ?_;rcases hh with hh|⟨e,oe,ve,hh,he,Ob,Oc⟩
 ·rw[hh];exact wpAny_bind<|wpAny_pure<|wpAny_throw<|hE s.heap (Heap.SameBut.refl ..) ⟨o,ho,rfl⟩
 ·rw[hh];have ne:e≠a:=gp e hh;have hb:((Value.ref e) !=(Value.ref a))=true:=by
   simp only[bne_iff_ne,ne_eq,Value.ref.injEq]
   exact ne
  dsimp only
  rw[if_pos hb];refine wpAny_bind<|wpAny_holding<|wpAny_runValue<|codeAny_builtin N7 ?_;unfold Builtin.«proto.unchain»
  dsimp only
  refine wpAny_bind<|wpAny_field he Ob Oc ?_;rw[if_pos (by rfl)]
  refine wpAny_bind<|wpAny_pure<|wpAny_pure ?_
  dsimp only
  refine wpAny_bind<|N_ ho hd h2 ?_;refine wpAny_throw<|hE _ (Heap.SameBut.update ..) ⟨_,Heap.get?_update_self _ ho<|Obj.isFreed_of_fields<|Obj.data_mapFields hd _,Obj.cls_mapFields ..⟩
theorem Dj{it:Addr}{f:Obj->Obj}{Qf:Fin->Shared->Prop}{Q:Option Value->Shared->Prop}(hh:gI A s.heap)(hn:∀vs:Array Value,¬ ∃o,s.heap.get? it=some o/\o.data=.fields vs/\vs[2]?=some .none)
  (hQ:∀h',Heap.ExtBut it s.heap h'->Q none {s with heap:=h'}):
  wpAny (model prog w) A.in1 Builtin.SmallTypes.stopIteration Qf (fun e s'=>wpAny (model prog w) A (do let b <-isInstance e (.type "StopIteration");if b=true then pure none else throw e) Q E s') {s with heap:=s.heap.update it f}:=by
 show wpAny _ _ (newExc (.type "StopIteration") [] >>=_) _ _ _;refine wpAny_bind ?_
 simp only[newExc,newTuple]
 refine wpAny_bind<|wpAny_newObj_type ?_ (by size_fits)
 refine wpAny_bind (m:=firstArgMember _ _)<|wpAny_of_eq (a:=Value.none) (by first|rfl| (simp only[firstArgMember];rfl)) ?_
 refine wpAny_newObj_type ?_ (by size_fits)
 dsimp only
 have lt:∀b o,s.heap.get? b=some o->b≠it->(s.heap.update it f).get? b=some o:=fun b o e hb=>(Heap.get?_update_other _ _<|Ne.symm hb).trans e;have uF:gI A.in1 (((s.heap.update it f).push {cls:=.type "tuple",data:=.seq ([]:List Value).toArray}).push
   {cls:=.type "StopIteration",data:=.fields (#[.ref (s.heap.update it f).objs.size,.none,.none,.none,.bool false,.none]++ownMembersOf (.type "StopIteration") [])}):=by
  rcases hh with hh|⟨e,oe,ve,h1,h2,h3,h4⟩
  ·exact .inl hh
  ·refine .inr ⟨e,oe,ve,h1,Heap.get?_push_of_some _<|Heap.get?_push_of_some _<|lt e oe h2 fun z=>?_,h3,h4⟩;subst z;exact hn ve ⟨oe,h2,h3,h4⟩
 refine Oa uF (Heap.get?_push_size _ rfl) rfl (zau (show 2<6 by decide) (by rw[Array.size_append];exact Nat.le_add_right 6 _)) (fun e he=>?_)<|fun h' sb ⟨o',q1,q2⟩=>?_
 ·rcases hh with hh|⟨e',oe,ve,h1,h2,h3,h4⟩
  ·rw[show A.in1.handled=none from hh] at he;cases he
  ·rw[show A.in1.handled=_ from h1] at he
   cases he;have:=Heap.lt_size h2;refine zab<|zau this ?_;rw[Heap.size_push,Heap.size_update];exact zaM _
 ·refine wpAny_bind (wpAny_isInstance (T:="StopIteration") (b:=true) ⟨_,q1,q2⟩ isSubtype_stop ?_);refine wpAny_pure<|hQ _ fun b o hb e=>?_;have e3:=lt b o e hb;have e4:=Heap.get?_push_of_some {cls:=.type "StopIteration",data:=.fields (#[.ref (s.heap.update it f).objs.size,.none,.none,.none,.bool false,.none]++ownMembersOf (.type "StopIteration") [])} (Heap.get?_push_of_some {cls:=.type "tuple",data:=.seq ([]:List Value).toArray} e3);refine(sb.2 b<|zab<|zau (Heap.lt_size e3) ?_).trans e4;rw[Heap.size_push];exact zaM _
theorem Od{it l:Addr}{i:Nat}{items}{Q:Option Value->Shared->Prop}(hh:gI A s.heap)
  (hit:s.heap.IsListIter it l i) (hl:s.heap.IsList l items) (hx:items[i]?=none)
  (hQ:∀h',Heap.ExtBut it s.heap h'->Q none {s with heap:=h'}):wpAny (model prog w) A (pyNext<|.ref it) Q E s:=by
 obtain⟨o,ho,hc,hd⟩:=id hit;obtain⟨ol,xX,_,nl,lr⟩:=hl;unfold pyNext;refine wpAny_bind (wpAny_attempt (wpAny_callSpecial?_slot (name:=Str.ofString "__next__") hit.typeIs slot_listiter_next
  (wpAny_call_entry slot_listiter_next hit.typeIs entry_listiter_next ?_ (args_listiter_next _))))
 show wpAny _ _ (field (.ref it) 0>>=_) _ _ s;refine wpAny_bind<|wpAny_field ho hd (x:=.ref l) rfl ?_;show wpAny _ _ (if (Value.ref l==Value.none)=true then _ else _) _ _ s
 rw[if_neg (show ¬((Value.ref l==Value.none)=true) from zam)]
 show wpAny _ _ (field (.ref it) 1>>=_) _ _ s;refine wpAny_bind<|wpAny_field ho hd (x:=.int i 0) rfl ?_;show wpAny _ _ (seqItems? (.ref l) >>=_) _ _ s;refine wpAny_bind<|wpAny_seqItems xX lr ?_
 simp only[Int.toNat_natCast,hx]
 refine wpAny_bind<|wpAny_rule<|wpAny_bind<|wpAny_setField ho hd (by simp) ?_
 exact Dj hh (fun vs z=>by obtain⟨o',h1,h2,h3⟩:=z;rw[ho] at h1;cases h1;rw[hd] at h2;cases h2;cases h3) hQ
theorem Oe{it t:Addr}{i:Nat}{items}{Q:Option Value->Shared->Prop}(hh:gI A s.heap)
  (hit:IsTupIter s.heap it t i) (ht:IsTup s.heap t items) (hx:items[i]?=none)
  (hQ:∀h',Heap.ExtBut it s.heap h'->Q none {s with heap:=h'}):wpAny (model prog w) A (pyNext<|.ref it) Q E s:=by
 obtain⟨o,ho,hc,hd⟩:=id hit;obtain⟨ol,xX,_,nl,lr⟩:=ht;unfold pyNext;refine wpAny_bind (wpAny_attempt (wpAny_callSpecial?_slot (name:=Str.ofString "__next__") hit.typeIs slot_tupleiter_next
  (wpAny_call_entry slot_tupleiter_next hit.typeIs entry_tupleiter_next ?_ (args_tupleiter_next _))))
 show wpAny _ _ (field (.ref it) 0>>=_) _ _ s;refine wpAny_bind<|wpAny_field ho hd (x:=.ref t) rfl ?_;show wpAny _ _ (if (Value.ref t==Value.none)=true then _ else _) _ _ s
 rw[if_neg (show ¬((Value.ref t==Value.none)=true) from zam)]
 show wpAny _ _ (field (.ref it) 1>>=_) _ _ s;refine wpAny_bind<|wpAny_field ho hd (x:=.int i 0) rfl ?_;show wpAny _ _ (seqItems? (.ref t) >>=_) _ _ s;refine wpAny_bind<|wpAny_seqItems xX lr ?_
 simp only[Int.toNat_natCast,hx]
 refine wpAny_bind<|wpAny_rule<|wpAny_bind<|wpAny_setField ho hd (by simp) ?_
 exact Dj hh (fun vs z=>by obtain⟨o',h1,h2,h3⟩:=z;rw[ho] at h1;cases h1;rw[hd] at h2;cases h2;cases h3) hQ
theorem Of{t:Addr}{items:Array Value}{Q:List Value->Shared->Prop}(hh:gI A s.heap)(ht:IsTup s.heap t items)
  (hQ:∀h',Heap.ExtBut s.heap.objs.size s.heap h'->Q items.toList {s with heap:=h'}):wpAny (model prog w) A (unpackItems (.ref t) items.size none) Q E s:=by
 have aI:t≠s.heap.objs.size:=by obtain⟨o,ho,_⟩:=ht;exact zab (Heap.lt_size ho)
 unfold unpackItems;refine wpAny_bind ?_
 ·unfold notIterableAtAll;refine wpAny_bind<|wpAny_specialOf ht.typeIs slot_tuple_iter.lookup ?_;refine wpAny_pure ?_
  simp only[zaN,if_false]
  refine wpAny_bind<|wpAny_holding<|iter_tuple ht ?_;refine wpAny_bind<|wpAny_holding<|draw_tuple aI items.size 0 _ _ ⟨_,Heap.get?_push_size _ rfl,rfl,rfl⟩ (ht.push _) (by lia) fun h₁ qT j2=>?_
  have mD:List.take items.size (List.drop 0 items.toList)=items.toList:=by
   rw[List.drop_zero];exact zbo (by simp)
  rw[mD];rw[if_neg (by simp)]
  have xY:IsTup h₁ t items:=(ht.push _).extBut j2.extBut aI;have Og:gI A h₁:=hh.keeps fun b o vs e _ _=>j2.extBut b o (zab<|Heap.lt_size e) (Heap.get?_push_of_some _ e);refine wpAny_bind<|wpAny_holding<|Oe Og qT xY (by simp) fun h₂ xZ=>?_
  simp only[Option.isSome_none,zaN,if_false]
  refine wpAny_pure<|hQ h₂ fun b o hb e=>xZ b o hb (j2.extBut b o hb<|Heap.get?_push_of_some _ e)
theorem Oh{env:Env}{elts:List Expr}{x1}{pos:Pos}{t:Addr}{items:Array Value}{Q:Unit->Shared->Prop}(hh:gI A s.heap)(ht:IsTup s.heap t items)
  (hn:(assignEach elts env).length=items.size) (x_:(assignEach elts env).findIdx? (·.1)=none)
  (h:∀h',Heap.ExtBut s.heap.objs.size s.heap h'->wpAny (model prog w) A (assignInOrder ((assignEach elts env).map (·.2)) items.toList) Q E {s with heap:=h'}):
  wpAny (model prog w) A (assign (.Tuple elts x1 pos) env<|.ref t) Q E s:=by
 rw[assign_Tuple];refine wpAny_bind<|wpAny_standAt ?_;unfold unpack;rw[hn,x_];exact wpAny_bind<|wpAny_holding<|Of hh ht h
end
end L2
set_option maxHeartbeats 1000000
namespace L2
open PySem PySem.Spec PyProof.Rows PySem.W
section
variable {prog:Program}{w:World}{A:Around}{E:Value->Shared->Prop}{s:Shared}{K:Frag}{x D:Addr}{ox:Obj}
theorem Oi{Q:Option Value->Shared->Prop}(X:K.In s.heap)(I:InstAt s.heap x ox D none)(qN:findIn K (.ref D) "__getattribute__"=some (some<|.builtin "BaseException.__getattribute__"))(qO:findIn K (.ref D) "__getattr__"=some none)
  (hk:(clsIn K D).isSome=true) (ha:findIn K (.ref D) "__class__"=some (some<|.builtin "object.__class__")) (hn:specialIn K (.builtin "object.__class__") "__get__"=some (some<|.builtin "getset_descriptor.__get__")) (kT:takesIn K (.builtin "object.__class__")=some true)
  (hm:mroIn K D (.type "object")=some true) (hb:mroIn K D (.type "BaseException")=some true)
  (h:Q (some<|.ref D) {s with toks:=s.toks+1}):wpAny (model prog w) A (getAttr? (.ref x) "__class__") Q E s:=by
 have hf:findObj K D none "__class__"=some (.bind (.builtin "getset_descriptor.__get__")<|.builtin "object.__class__"):=by
  obtain⟨cd,hc⟩:=zbu.mp hk;unfold findObj;rw[hc,Option.bind_some,ha,Option.bind_some]
  simp only[hn,kT,Option.bind_some]
 obtain⟨hh,g,d,t,os⟩:=s;have L0:=I.type (M:=model prog w);have L1:=looks_findIn (M:=model prog w) X qN;have L2:=looks_findIn (M:=model prog w) X qO;have L3:=looks_find (M:=model prog w) X I hf;unfold getAttr? getAttrBy? getAttrBy;refine wpAny_bind<|wpAny_mkText<|wpAny_bind<|wpAny_attempt<|wpAny_holding<|wpAny_bind<|L0.at<|wpAny_bind<|L1.at ?_;have Oj:(Value.builtin "BaseException.__getattribute__"==Value.builtin "object.__getattribute__")=false:=by decide+kernel
 show wpAny _ _ (if (onTheHeap (Value.ref D) && Value.builtin "BaseException.__getattribute__"==Value.builtin "object.__getattribute__")=true then _ else _) _ _ _
 rw[Oj,zbn,if_neg (by decide)]
 unfold getAttrByItsOwn hookBefore;refine wpAny_bind<|L2.at ?_;refine wpAny_bind<|wpAny_attempt<|wpAny_holding ?_;show wpAny _ _ (boundAndCalled _ _ _) _ _ _;unfold boundAndCalled;rw[F.excAttr_ValueError.ga.bind<|.ref x];refine wpAny_bind<|wpAny_pure ?_;refine wpAny_call<|codeAny_call_builtin F.excAttr_ValueError.ga.plain F.entry_bexc_ga ?_;have L4:=looks_mroIn (M:=model prog w) X hb;have mQ:builtinKind "BaseException.__getattribute__"=some .slot:=by decide+kernel
 have Ol:splitId "BaseException.__getattribute__"=some ("BaseException","__getattribute__"):=by decide+kernel
 have ZD:=F.args_bexc_ga (.ref x) (.str "__class__" t)
 simp only[checkBuiltinCall,mQ,Ol]
 have L5:Looks (model prog w) hh (isInstance (.ref x)<|.type "BaseException") true:=L0.andThen L4;refine wpAny_bind<|L5.at ?_
 repeat (any_goals (first|assumption|(with_reducible refine wpAny_loadPart_at I.at_ ?_;rw[I.cls];refine wpAny_pure (wpAny_bind<|L3.at ?_))|wp_step))
 refine class_get (s:=⟨hh,g,d,t+1,os⟩) (ox:=ox) (od:=none) X I hm ?_;exact wpAny_pure<|wpAny_pure<|wpAny_pure h
theorem Om(qN:findIn K (.ref D) "__getattribute__"=some (some<|.builtin "BaseException.__getattribute__"))(qO:findIn K (.ref D) "__getattr__"=some none)
  (hk:(clsIn K D).isSome=true) (ha:findIn K (.ref D) "__class__"=some (some<|.builtin "object.__class__")) (hn:specialIn K (.builtin "object.__class__") "__get__"=some (some<|.builtin "getset_descriptor.__get__")) (kT:takesIn K (.builtin "object.__class__")=some true)
  (hm:mroIn K D (.type "object")=some true) (hb:mroIn K D (.type "BaseException")=some true):KitX K (.ref x) (.ref D) (fun h=>InstAt h x ox D none) where
 ty:=fun _ _ _ I=>I.type
 it:=fun _ _ X _=>by
  obtain⟨Oo,jN⟩:=zbu.mp hk;unfold clsIn at jN
  split at jN
  ·rename_i c' d' Oq wo ho
   intro A' Q' E' s' k q;unfold isType loadHead;exact wpAny_bind<|wpAny_loadPart (k _ _<|X _ _ ho)<|wpAny_pure q
  ·cases jN
 ne:=fun h tp dd aj n sl X Ot=>by
  obtain⟨Oo,jN⟩:=zbu.mp hk;refine Bool.eq_false_iff.mpr fun q=>?_;have e:D=tp:=Value.ref.inj (beq_iff_eq.mp q);subst e;unfold clsIn at jN
  split at jN
  ·rename_i c' d' Oq wo ho
   have z:=(X _ _ ho).symm.trans Ot;cases z
  ·cases jN
 ca:=fun X I k=>Oi X I qN qO hk ha hn kT hm hb k
end
end L2
set_option maxHeartbeats 400000
namespace L2
open PySem PySem.Spec PyProof.Rows
inductive bB (J:Shared->Prop) {α:Type}:Sem α->Prop
 |pure (a:α):bB J (.pure a)
 |raise (e:Value):bB J (.raise e)
 |unsupported (w:String):bB J (.unsupported w)
 |rule {t:String}{k:Unit->Sem α}:bB J (k ())->bB J (.rule t k)
 |load {a:Addr}{p:Option Value}{k:Obj->Sem α}:(∀o,bB J<|k o)->bB J (.load a p k)
 |update {a:Addr}{p:Option Value}{f:Obj->Obj}{k:Unit->Sem α}:(∀s,J s->J {s with heap:=s.heap.update a f})->bB J (k ())->bB J (.update a p f k)
 |alloc {o:Obj}{k:Addr->Sem α}:(∀s,J s->J {s with heap:=s.heap.push o})->(∀a,bB J<|k a)->bB J (.alloc o k)
 |stack {k:List (Code×Pos)->Sem α}:(∀t,bB J<|k t)->bB J (.stack k)
theorem Ou{M:Model}{Γ:PySem.Ctx}{J:Shared->Prop}{α:Type}{t:Sem α}(kt:bB J t):∀{Q:α->Pos->Shared->Prop}{E:Value->Pos->Shared->Prop}{p:Pos}{s:Shared},J s->Sem.wp M Γ t Q E p s->
  Sem.wp M Γ t (fun a p s=>Q a p s/\J s) (fun e p s=>E e p s/\J s) p s:=by
 induction kt with
 |pure a=>intro Q E p s j h;rw[Sem.wp] at h⊢;exact⟨h,j⟩
 |raise e=>intro Q E p s j h;rw[Sem.wp] at h⊢;exact⟨h,j⟩
 |unsupported w=>intro Q E p s j h;rw[Sem.wp] at h;exact h.elim
 |rule _ ih=>intro Q E p s j h;rw[Sem.wp] at h⊢;exact ih j h
 |load _ ih=>intro Q E p s j h;rw[Sem.wp] at h⊢;obtain⟨o,e,h⟩:=h;exact⟨o,e,ih o j h⟩
 |update f _ ih=>intro Q E p s j h;rw[Sem.wp] at h⊢;exact⟨h.1,ih (f _ j) h.2⟩
 |alloc f _ ih=>intro Q E p s j h;rw[Sem.wp] at h⊢;exact ih _ (f _ j) h
 |stack _ ih=>intro Q E p s j h;rw[Sem.wp] at h⊢;exact ih _ j h
theorem qU{M:Model}{A:Around}{J:Shared->Prop}{α:Type}{t:Sem α}{Q:α->Shared->Prop}{E:Value->Shared->Prop}{s:Shared}(k:bB J t)(j:J s)(h:wpAny M A t Q E s):
  wpAny M A t (fun a s=>Q a s/\J s) (fun e s=>E e s/\J s) s:=fun Γ p hΓ=>Ou k j (h Γ p hΓ)
def dz(e:Addr)(s:Shared):Prop:= ∃o vs,s.heap.get? e=some o/\o.data=.fields vs/\vs[2]?=some .none/\o.dict=none
theorem Ov(f:Array Value->Array Value)(o:Obj):(Obj.mapFields f o).dict=o.dict:=by
 unfold Obj.mapFields
 split<;>rfl
theorem Ow{e a:Addr}{i:Nat}{v:Value}(hi:i≠2)(s:Shared)(j:dz e s):dz e {s with heap:=s.heap.update a (Obj.mapFields (·.setIfInBounds i v))}:=by
 obtain⟨o,vs,h1,h2,h3,h4⟩:=j;by_cases z:a=e
 ·subst z;have d:=Obj.data_mapFields h2 (·.setIfInBounds i v);exact⟨_,_,Heap.get?_update_self _ h1<|Obj.isFreed_of_fields d,d,by rw[Array.getElem?_setIfInBounds_ne hi];exact h3,(Ov _ _).trans h4⟩
 ·exact⟨o,vs,(Heap.get?_update_other _ _ z).trans h1,h2,h3,h4⟩
theorem Ox{e a:Addr}{f:Obj->Obj}(hf:∀o,(f o).data=o.data/\(f o).dict=o.dict)(s:Shared)(j:dz e s):dz e {s with heap:=s.heap.update a f}:=by
 obtain⟨o,vs,h1,h2,h3,h4⟩:=j;by_cases z:a=e
 ·subst z;exact⟨_,vs,Heap.get?_update_self _ h1<|Obj.isFreed_of_fields<|(hf o).1.trans h2,(hf o).1.trans h2,h3,(hf o).2.trans h4⟩
 ·exact⟨o,vs,(Heap.get?_update_other _ _ z).trans h1,h2,h3,h4⟩
theorem Oy{e:Addr}{ob:Obj}(s:Shared)(j:dz e s):dz e {s with heap:=s.heap.push ob}:=by
 obtain⟨o,vs,h1,h2,h3,h4⟩:=j;exact⟨o,vs,Heap.get?_push_of_some _ h1,h2,h3,h4⟩
theorem bB.bind{J:Shared->Prop}{α β:Type}{t:Sem α}{f:α->Sem β}(kt:bB J t)(h:∀a,bB J<|f a):bB J (t>>=f):=by
 show bB J (t.bind f)
 induction kt with
 |pure a=>exact h a
 |raise e=>exact .raise e
 |unsupported w=>exact .unsupported w
 |rule _ ih=>exact .rule ih
 |load _ ih=>exact .load ih
 |update g _ ih=>exact .update g ih
 |alloc g _ ih=>exact .alloc g ih
 |stack _ ih=>exact .stack ih
section
variable {e:Addr}
theorem ya{a:Addr}:bB (dz e) (load a):=.load fun o=>.pure o
theorem yb{v x:Value}{i:Nat}(hi:i≠2):bB (dz e) (setField v i x):=by
 unfold setField
 split
 ·rename_i a
  unfold updateField;refine ya.bind fun o=>?_
  split
  ·split
   ·exact .update (fun s j=>Ow hi s j) (.pure ())
   ·exact .unsupported _
  ·exact .unsupported _
 ·exact .unsupported _
theorem Oz{v:Value}:bB (dz e) (fieldsOf v):=by
 unfold fieldsOf
 split
 ·refine ya.bind fun o=>?_
  split
  ·exact .pure _
  ·exact .unsupported _
 ·exact .unsupported _
theorem uG{v:Value}{i:Nat}:bB (dz e) (field v i):=by
 unfold field;refine Oz.bind fun vs=>?_
 split
 ·exact .pure _
 ·exact .unsupported _
theorem yc{v:Value}{f:Option Addr}:bB (dz e) (setFlight v f):=by
 unfold setFlight;refine uG.bind fun tb=>?_
 split
 ·exact yb (by decide)
 ·exact .pure _
theorem yd:bB (dz e) stack:=.stack fun t=>.pure t
theorem OA{ty:String}{vs:List Value}:bB (dz e) (newFields ty vs):=by
 unfold newFields newObj newObjAsIs;show bB (dz e) (if vs.toArray.size>sizeLine+2 then (unsupported "record:memory" >>=_) else _)
 split
 ·exact .unsupported _
 ·exact bB.bind (.alloc (fun s j=>Oy s j) fun a=>.pure a) fun a=>.pure _
theorem OB{f:Addr}{b:Bool}:bB (dz e) (entryPlaceOf f b):=by
 unfold entryPlaceOf;refine yd.bind fun ZE=>?_
 split
 ·exact .pure _
 ·exact .pure _
theorem Dk:∀l:List Env,bB (dz e) (readyFrames l)
 |[]=>.pure _
 |env::outer=>by
  unfold readyFrames
  split
  ·refine ya.bind fun o=>?_
   split
   ·exact .pure _
   ·refine bB.bind ?_ fun im=>bB.bind ?_ fun bk=>bB.bind (.update (fun s j=>Ox (by intro o;exact⟨rfl,rfl⟩) s j)<|.pure ()) fun _=>Dk outer
    ·unfold behindIsImport
     split
     ·exact .pure _
     ·split
      ·exact .pure _
      ·exact uG.bind fun _=>.pure _
    ·unfold keptBack
     split
     ·split
      ·exact .pure _
      ·unfold underTheClaimsCaller;exact bB.bind (yd.bind fun _=>.pure _) fun _=>.pure _
     ·exact .pure _
  ·exact .unsupported _
theorem OC{env:Env}:bB (dz e) (PySem.frameOf env):=by
 unfold PySem.frameOf frameEnvs;refine bB.bind (yd.bind fun _=>.pure _) fun l=>?_;refine bB.bind ?_ fun r=>?_
 ·unfold frameObject
  split
  ·exact .pure _
  ·exact(Dk _).bind fun _=>.pure _
 ·split
  ·exact .pure _
  ·exact .unsupported _
theorem Dl{v:Value}{env:Env}:bB (dz e) (noteFrame v env):=by
 unfold noteFrame
 split
 ·rename_i x d hq
  refine uG.bind fun hd=>?_;have tail:bB (dz e) (do let a <-PySem.frameOf env;let pl <-entryPlaceOf d (hd !=.none);let b <-EntryCells.newEntry hd a .none (rawInt d) .none pl;setField v 1 b):=
   OC.bind fun a=>OB.bind fun pl=>bB.bind OA fun b=>yb (by decide)
  dsimp only
  split
  ·refine uG.bind fun x=>?_
   split
   ·exact .pure _
   ·exact(yb (by decide)).bind fun _=>tail
  ·exact tail
 ·exact .unsupported _
theorem Dm{v:Value}{env:Env}:bB (dz e) (leaving env v):=by
 unfold leaving;exact Dl.bind fun _=>yc
end
end L2
set_option maxHeartbeats 4000000
namespace L2
open PySem PySem.Spec PyProof.Rows
theorem bI.uH{P:Program}{w:World}{H:Hp}{h:Heap}{a:Addr}{o:HO}(x:bI P w H h a o):∃ob,h.get? a=some ob:=by
 cases o with
 |lst xs=>obtain⟨_,_,_,_,e⟩:=x;exact⟨_,e⟩
 |tup xs=>obtain⟨_,_,_,ob,e,_⟩:=x;exact⟨_,e⟩
 |dK kvs=>obtain⟨_,_,_,_,o,_,_,e,_⟩:=x;exact⟨_,e⟩
 |dT kvs=>obtain⟨_,_,_,_,o,_,_,e,_⟩:=x;exact⟨_,e⟩
 |set S n=>obtain⟨o,_,_,_,e,_⟩:=x;exact⟨_,e⟩
 |ins C dx fs=>obtain⟨_,_,_,e,_⟩:=x;exact⟨_,e⟩
 |own y=>obtain⟨_,e⟩:=x;exact⟨_,e⟩
 |xd fs=>obtain⟨_,⟨_,_,_,e,_⟩,_⟩:=x;exact⟨_,e⟩
 |eS lo hi=>obtain⟨_,_,_,e⟩:=x;exact⟨_,e⟩
 |aY ob u=>obtain⟨e,_⟩:=x;exact⟨_,e⟩
 |i_ ps=>exact⟨_,(show h.get? a=some _ from x)⟩
 |met f y=>exact⟨_,(show h.get? a=some _ from x)⟩
 |ext φ=>obtain⟨_,⟨_,e⟩,_⟩:=x;exact⟨_,e⟩
theorem bD.uI{P:Program}{w:World}{H:Hp}{h h':Heap}(ok:bD P w H h)(k:∀b u,H b≠none->h.get? b=some u->h'.get? b=some u):bD P w H h':=fun a o e=>
 (ok a o e).iA (fun b u hb hu=>k b u (by
  rcases hb with rfl|hb
  ·rw[e];exact Option.some_ne_none _
  ·rw[hb];exact Option.some_ne_none _) hu) (fun _ z=>z) (fun _ _ z=>z)
def dW(P:Program)(w:World):bE:=fun outer H s E e s'=>∃(ea:Addr) (cls:Value) (t:Addr) (B:Heap) (H':Hp),
 e=.ref ea/\s'.os=s.os/\AllBare s'.gens/\Un (bg outer) [] H H' s.heap s'.heap/\bD P w H' s'.heap/\Heap.FlyingW B outer ea cls (.ref t) s'.heap/\dz ea s'/\H' ea=none/\
 (∀b,H' b≠none->∀o,s'.heap.get? b=some o->B.get? b=some o)/\(∀b o,s.heap.get? b=some o->b∉bg outer->∀o',s'.heap.get? b=some o'->B.get? b=some o')/\E cls none H'
theorem uJ{P:Program}{w:World}{outer:List Env}{H:Hp}{s:Shared}{e:Value}{s':Shared}(h:dW P w outer H s E0 e s'):False:=by
 obtain⟨_,_,_,_,_,_,_,_,_,_,_,_,_,_,_,h⟩:=h;exact h
section
variable {P:Program}{w:World}{K:Frag}{mg:Str->Option Value}{base:Heap}{N:List Str}{qual:Str}{scope:Scope}{f:Addr}{cd:Value}{A:Around}{outer:List Env}{s₀:Shared}{H₀:Hp}{E:XK}
theorem OD:Passes (dW P w) (jR (dW P w) P w K mg base N qual scope f cd A outer s₀ H₀ E) E:=by
 intro pins σ H s e s' I hx;obtain⟨ea,cls,t,B,H',rfl,os,bare,u,aA,fl,qW,j3,c1,c2,hE⟩:=hx;have qX:=I.ok.frames;have hL:s₀.heap.objs.size<= (envOfC qual scope s₀.heap.objs.size f cd).locals:=I.ok.above;have nL:∀b o,s₀.heap.get? b=some o->b∉bg outer->b∉bg (envOfC qual scope s₀.heap.objs.size f cd::outer):=fun b o hb hn hm=>by
  have ye:b∈ (envOfC qual scope s₀.heap.objs.size f cd).locals::bg outer:=hm;rcases zae.mp ye with rfl|z
  ·exact absurd (Heap.lt_size hb) (Nat.not_lt.mpr hL)
  ·exact hn z
 have gZ:∀b∈bg (envOfC qual scope s₀.heap.objs.size f cd::outer),H' b=none:=fun b hb=>by
  obtain⟨o,ho,_⟩:=(I.stack.mem hb).2;exact u.free b o ho (I.tI b hb) zad
 refine wpAny_mono (qU Dm qW<|wpAny_leaves_onW (Q:=fun _ fM=>∃h',fM={s' with heap:=h'}/\Heap.FlyingW B outer ea cls (.ref t) h'/\s'.heap.UpToSlots h') (E:=fun _ _=>False) qX rfl fl fun h' hZ up=>⟨h',rfl,hZ,up⟩)
  (fun _ fM hq=>?_) (fun _ _ z=>z.1.elim)
 obtain⟨⟨h',rfl,hZ,up⟩,yf⟩:=hq;have into:∀b o,s.heap.get? b=some o->b∉bg (envOfC qual scope s₀.heap.objs.size f cd::outer)->∀o',s'.heap.get? b=some o'->h'.get? b=some o':=fun b o hb hn o' cW=>hZ.1 b o' (c2 b o hb hn o' cW);have ja:∀b o,H' b≠none->s'.heap.get? b=some o->h'.get? b=some o:=fun b o hb ho=>hZ.1 b o (c1 b hb o ho);have fz:∀b∈bg (envOfC qual scope s₀.heap.objs.size f cd::outer),∀o,s'.heap.get? b=some o->∃sl,h'.get? b=some {o with slots:=sl}:=fun b hb o ho=>by
  obtain⟨o1,dA,hd⟩:=(fl.2.2.1.mem hb).2;rw[ho] at dA;cases dA;exact up b o ho hd
 refine⟨ea,cls,t,B,H',rfl,os.trans I.os,bare,⟨fun b o q n hn _=>?_,fun b o q n hn _=>?_,fun b o q n _=>?_,fun b o q _=>?_,fun b xs q=>u.d4 b xs (I.base.d4 b xs q),fun b o v q=>u.dS b o v (I.base.dS b o v q),fun b ps q=>?_⟩,
  aA.uI (fun b o hb ho=>ja b o hb ho),hZ,yf,j3,fun b hb o ho=>?_,fun b o q hn o' cW=>?_,hE⟩
 ·have q1:=I.base.keep b o q n hn zad;have n1:=I.base.free b o q n zad;have h9:=nL b o q hn;exact into b o q1 h9 o<|u.keep b o q1 n1 h9 zad
 ·obtain⟨sl,q1⟩:=I.base.slot b o q n hn zad;have n1:=I.base.free b o q n zad;have h9:b∈bg (envOfC qual scope s₀.heap.objs.size f cd::outer):=zao _ hn;obtain⟨qr,q2⟩:=u.slot b _ q1 n1 h9 zad;obtain⟨yg,q3⟩:=fz b h9 _ q2;exact⟨yg,q3⟩
 ·obtain⟨o1,q1⟩:=I.base.there b o q zad;exact u.free b o1 q1 (I.base.free b o q n zad) zad
 ·obtain⟨o1,q1⟩:=I.base.there b o q zad;obtain⟨o2,q2⟩:=u.there b o1 q1 zad;by_cases hm:b∈bg (envOfC qual scope s₀.heap.objs.size f cd::outer)
  ·obtain⟨sl,q3⟩:=fz b hm o2 q2;exact⟨_,q3⟩
  ·exact⟨o2,into b o1 q1 hm o2 q2⟩
 ·obtain⟨m1,e1⟩:=I.base.eT b ps q;obtain⟨m2,e2⟩:=u.eT b _ e1;exact⟨m1++m2,by rw[e2,Array.append_assoc]⟩
 ·obtain⟨dh,hH⟩:=zbI.mp hb;obtain⟨o2,q2⟩:=(aA b dh hH).uH;have q3:=ja b o2 hb q2;have iN:h'.get? b=some o:=ho;rw[q3] at iN;cases iN;exact c1 b hb _ q2
 ·obtain⟨o1,q1⟩:=I.base.there b o q zad;obtain⟨o2,q2⟩:=u.there b o1 q1 zad;have h9:=nL b o q hn;have q3:=into b o1 q1 h9 o2 q2;have iN:h'.get? b=some o':=cW;rw[q3] at iN;cases iN;exact c2 b o1 q1 h9 _ q2
def Raises(X:Cx)(E:XK):Prop:= ∀(pins:List (Addr×Obj)) (σ:St) (H:Hp) (s:Shared) (h':Heap) (e:Addr) (cls:Value) (vs:List Value),Inv X pins σ H s->Heap.MadeExcOf s.heap h' e cls vs->E cls none H->X.xe (.ref e) {s with heap:=h'}
theorem OE:Raises (jR (dW P w) P w K mg base N qual scope f cd A outer s₀ H₀ E) E:=by
 intro pins σ H s h1 e cls vs I hx hE;have qX:=I.ok.frames;have hL:s₀.heap.objs.size<= (envOfC qual scope s₀.heap.objs.size f cd).locals:=I.ok.above;have nL:∀b o,s₀.heap.get? b=some o->b∉bg outer->b∉bg (envOfC qual scope s₀.heap.objs.size f cd::outer):=fun b o hb hn hm=>by
  have ye:b∈ (envOfC qual scope s₀.heap.objs.size f cd).locals::bg outer:=hm;rcases zae.mp ye with rfl|z
  ·exact absurd (Heap.lt_size hb) (Nat.not_lt.mpr hL)
  ·exact hn z
 have qY:∀env∈ (envOfC qual scope s₀.heap.objs.size f cd::outer),∀b,env.frame=some b->b∈bg (envOfC qual scope s₀.heap.objs.size f cd::outer):=fun env he b hb=>zbH.mpr ⟨env,he,hb⟩;have qW:dz e {s with heap:=h1}:=by
  obtain⟨t,ht,_,_⟩:=hx.there;exact⟨_,_,ht,rfl,rfl,rfl⟩
 refine wpAny_mono (qU Dm qW (wpAny_leaves_madeW (Q:=fun _ fM=>∃h' t,fM={s with heap:=h'}/\Heap.FlyingW (hideAll s.heap (bg (envOfC qual scope s₀.heap.objs.size f cd::outer))) outer e cls (.ref t) h'/\h1.UpToSlots h') (E:=fun _ _=>False)
  qX rfl (fun b o q=>of_hideAll _ q) (PySem.W.funFrames_hide I.stack qY) hx fun h' t hZ _ _ up=>⟨h',t,rfl,hZ,up⟩)) (fun _ fM hq=>?_) (fun _ _ z=>z.1.elim)
 obtain⟨⟨h',t,rfl,hZ,up⟩,yf⟩:=hq;have into:∀b o,s.heap.get? b=some o->b∉bg (envOfC qual scope s₀.heap.objs.size f cd::outer)->h'.get? b=some o:=fun b o hb hn=>hZ.1 b o (hideAll_get _ hb hn);have qZ:∀b,H b≠none->b∉bg (envOfC qual scope s₀.heap.objs.size f cd::outer):=fun b hb hm=>hb (I.tI b hm);have fz:∀b∈bg (envOfC qual scope s₀.heap.objs.size f cd::outer),∀o,s.heap.get? b=some o->∃sl,h'.get? b=some {o with slots:=sl}:=fun b hb o ho=>by
  obtain⟨o1,dA,hd⟩:=(I.stack.mem hb).2;rw[ho] at dA;cases dA;exact up b o (hx.keeps b o ho) hd
 refine⟨e,cls,t,_,H,rfl,I.os,I.bare,⟨fun b o q n hn _=>?_,fun b o q n hn _=>?_,fun b o q n _=>I.base.free b o q n zad,fun b o q _=>?_,I.base.d4,I.base.dS,I.base.eT⟩,
  I.aA.uI (fun b o hb ho=>into b o ho (qZ b hb)),hZ,yf,?_,fun b hb o ho=>?_,fun b o q hn o' cW=>?_,hE⟩
 ·exact into b o (I.base.keep b o q n hn zad) (nL b o q hn)
 ·obtain⟨sl,q1⟩:=I.base.slot b o q n hn zad;obtain⟨yg,q3⟩:=fz b (zao _ hn) _ q1;exact⟨yg,q3⟩
 ·obtain⟨o1,q1⟩:=I.base.there b o q zad;by_cases hm:b∈bg (envOfC qual scope s₀.heap.objs.size f cd::outer)
  ·obtain⟨sl,q3⟩:=fz b hm o1 q1;exact⟨_,q3⟩
  ·exact⟨o1,into b o1 q1 hm⟩
 ·cases q:H e with
  |none=>rfl
  |some ho=>
   obtain⟨o2,q2⟩:=(I.aA e ho q).uH;rw[hx.new] at q2;cases q2
 ·obtain⟨dh,hH⟩:=zbI.mp hb;obtain⟨o2,q2⟩:=(I.aA b dh hH).uH;have q3:=into b o2 q2 (qZ b hb);have iN:h'.get? b=some o:=ho;rw[q3] at iN;cases iN;exact hideAll_get _ q2<|qZ b hb
 ·obtain⟨o1,q1⟩:=I.base.there b o q zad;have h9:=nL b o q hn;have q3:=into b o1 q1 h9;have iN:h'.get? b=some o':=cW;rw[q3] at iN;cases iN;exact hideAll_get _ q1 h9
end
section
variable {X:Cx}
theorem OF{x:Str}{C:Addr}{bm:List Value}{B newId oQ:String}{e:Expr}{es:List Expr}{t:TA}{np d9 pos:Pos}{E:XK}(hc:X.calm=true)(O:OwnCls x C bm newId X.mg X.base)(FB:ExcBaseFacts B newId oQ bm)(yh:Gl X x)
  (hd:(x==("__debug__":Str))=false) (ha:PA X (e::es) t) (hs:starEach (e::es) X.env=(false,eval e X.env)::starEach es X.env) (h1:(backTo d9<|starEach es X.env).any (·.1)=false) (hR:Raises X E):
  PS X (.Raise (some<|.Call (.Name x np) (e::es) [] d9) none pos) (xF C E t):=by
 intro pins s σ H D I h;obtain⟨tl,N,nm,q,bs,hdct,sn,sub,ab,col,dd,k0,k1,k2,k3,k5,mN,hC,hN,uK,T⟩:=O.obj;have hg:PE X (.Name x np) (tC<|.ref C):=Bb yh O.bound rfl hd;refine wpAny_Raise_call_subT (C:=C) (nm:=nm) (q:=q) (N:=N) (bs:=bs) (bm:=tl) (hdct:=hdct) (sn:=sn) (sub:=sub) (ab:=ab) (col:=col) (dd:=dd) (k0:=k0) (k1:=k1) (k2:=k2) (k3:=k3) (k5:=k5)
  FB (mN:=mN) (T.hasType FB.hasBase) (I.ok.hd hc) (by rw[hs];show(false ||(backTo d9<|starEach es X.env).any (·.1))=false;rw[h1];rfl) uK
  (aF (hg pins s σ H (fun v H1=>v=.ref C/\xF C E t D σ H1) I ⟨rfl,h⟩) fun f s1 ⟨v,H1,I1,r1,ev,q1⟩=>?_)
 subst ev;obtain rfl:f=Value.ref C:=r1;refine⟨rfl,?_⟩;have hA:=ha d9 pins s1 σ H1 _ I1 q1;rw[hs] at hA⊢;refine Calls.evalArgs_plain<|aF hA fun us s2 ⟨vs,H2,I2,r2,hl,q2⟩=>⟨rfl,?_,I2.bk _ _ hC,hN.keeps I2.bk,T.keeps I2.bk,fun h' e' hm=>hR pins σ H2 s2 h' e' _ _ I2 hm q2⟩;have:=r2.length;show us.length<=sizeLine;lia
end
theorem Dp{P:Program}{w:World}{l:List Env}{H H':Hp}{h h1 h' B:Heap}(u:Un (bg l) [] H H' h h1)(aA:bD P w H' h1)(fr:h1.FunFrames B l)
  (c1:∀b,H' b≠none->∀o,h1.get? b=some o->B.get? b=some o) (c2:∀b o,h.get? b=some o->b∉bg l->∀o',h1.get? b=some o'->B.get? b=some o') (st:B.StaysIn h') (up:h1.UpToSlots h'):
  Un (bg l) [] H H' h h'/\bD P w H' h'/\(∀b,H' b≠none->∀o,h'.get? b=some o->B.get? b=some o)/\(∀b o,h.get? b=some o->b∉bg l->∀o',h'.get? b=some o'->B.get? b=some o'):=by
 have ja:∀b o,H' b≠none->h1.get? b=some o->h'.get? b=some o:=fun b o hb ho=>st b o (c1 b hb o ho);have into:∀b o,h.get? b=some o->b∉bg l->∀o',h1.get? b=some o'->h'.get? b=some o':=fun b o hb hn o' cW=>st b o' (c2 b o hb hn o' cW);have fz:∀b∈bg l,∀o,h1.get? b=some o->∃sl,h'.get? b=some {o with slots:=sl}:=fun b hb o ho=>by
  obtain⟨o1,dA,hd⟩:=(fr.mem hb).2;rw[ho] at dA;cases dA;exact up b o ho hd
 refine⟨⟨fun b o q n hn _=>into b o q hn o<|u.keep b o q n hn zad,fun b o q n hn _=>?_,u.free,fun b o q _=>?_,u.d4,u.dS,u.eT⟩,aA.uI<|fun b o hb ho=>ja b o hb ho,fun b hb o ho=>?_,fun b o q hn o' cW=>?_⟩
 ·obtain⟨sl,q1⟩:=u.slot b o q n hn zad;obtain⟨qr,q2⟩:=fz b hn _ q1;exact⟨qr,q2⟩
 ·obtain⟨o1,q1⟩:=u.there b o q zad;by_cases hm:b∈bg l
  ·obtain⟨sl,q3⟩:=fz b hm o1 q1;exact⟨_,q3⟩
  ·exact⟨o1,into b o q hm o1 q1⟩
 ·obtain⟨dh,hH⟩:=zbI.mp hb;obtain⟨o2,q2⟩:=(aA b dh hH).uH;have q3:=ja b o2 hb q2;rw[q3] at ho;cases ho;exact c1 b hb _ q2
 ·obtain⟨o2,q2⟩:=u.there b o q zad;have q3:=into b o q hn o2 q2;rw[q3] at cW;cases cW;exact c2 b o q hn _ q2
def Cx.alt(X:Cx)(A:Around)(calm:Bool)(pn:List (Addr×Obj))(xe:Value->Shared->Prop):Cx:={X with A:=A,calm:=calm,pn:=pn,xe:=xe}
theorem Inv.alt{X:Cx}{pins g5 mU:List (Addr×Obj)}{σ:St}{H:Hp}{s:Shared}{A':Around}{oR:Bool}{yi:Value->Shared->Prop}(I:Inv X pins σ H s)(hf:A'.frames=X.A.frames)(hc:oR=true->A'.handled=none)(hp:∀p∈mU++g5,p∈X.pn++pins):
  Inv (X.alt A' oR mU yi) g5 σ H s where
 ok:=⟨I.ok.mod,I.ok.kind,I.ok.glob,I.ok.blt,I.ok.above,I.ok.inj,I.ok.has,I.ok.tE,hc,hf.trans I.ok.frames,I.ok.gZ,I.ok.JK,I.ok.bs,I.ok.kQ,I.ok.tF,I.ok.tG,I.ok.g4,I.ok.mf⟩
 os:=I.os
 bare:=I.bare
 base:=I.base
 loc:=I.loc
 cell:=I.cell
 free:=I.free
 eU:=I.eU
 pin:=fun p h=>I.pin p (hp p h)
 aA:=I.aA
 len:=I.len
theorem Inv.yj{X:Cx}{pins g5 mU:List (Addr×Obj)}{σ:St}{H:Hp}{s:Shared}{A':Around}{oR:Bool}{yi:Value->Shared->Prop}(ok:X.Ok)(I:Inv (X.alt A' oR mU yi) g5 σ H s)(hp:∀p∈X.pn++pins,p∈mU++g5):
  Inv X pins σ H s where
 ok:=ok
 os:=I.os
 bare:=I.bare
 base:=I.base
 loc:=I.loc
 cell:=I.cell
 free:=I.free
 eU:=I.eU
 pin:=fun p h=>I.pin p (hp p h)
 aA:=I.aA
 len:=I.len
theorem OG{P:Program}{w:World}{H:Hp}{h:Heap}{ea:Addr}{ob:Obj}(h1:h.get? ea=some ob):bI P w H h ea (.aY ob jX):=
 ⟨h1,trivial,⟨ob,h1⟩,fun _ _ _ _=>trivial⟩
theorem bD.more{P:Program}{w:World}{H:Hp}{h:Heap}{a:Addr}{o:HO}(ok:bD P w H h)(ha:H a=none)(x:bI P w (upd H a o) h a o):bD P w (upd H a o) h:=fun b u e=>by
 by_cases z:b=a
 ·subst z;rw[az] at e;cases e;exact x
 ·rw[av z] at e;exact(ok b u e).iA (fun _ _ _ q=>q) (fun c q=>by rw[av<|aS q ha];exact q) (fun c xs q=>by rw[av<|aS q ha];exact q)
section
variable {X:Cx}
theorem Inv.OH{pins:List (Addr×Obj)}{σ:St}{H:Hp}{s:Shared}{h':Heap}{m':Str->Option Value}{tk:Nat}(I:Inv X pins σ H s)(hn:h'.Ns X.env.locals m')(sb:Heap.SameBut X.env.locals s.heap h'):
  Inv X pins (List.replicate X.N.length none) H {s with heap:=h',toks:=tk} where
 ok:=I.ok
 os:=I.os
 bare:=I.bare
 base:=by
  have ne:∀b o,X.s₀.heap.get? b=some o->b≠X.env.locals:=fun b o q z=>by
   rw[z] at q;exact absurd (Heap.lt_size q)<|Nat.not_lt.mpr I.ok.above
  refine⟨fun b o q n hn hx=>(sb.2 b<|ne b o q).trans<|I.base.keep b o q n hn hx,fun b o q n hn hx=>?_,I.base.free,fun b o q hx=>?_,I.base.d4,I.base.dS,I.base.eT⟩
  ·obtain⟨sl,e⟩:=I.base.slot b o q n hn hx;exact⟨sl,(sb.2 b<|ne b o q).trans e⟩
  ·obtain⟨o',e⟩:=I.base.there b o q hx;exact⟨o',(sb.2 b<|ne b o q).trans e⟩
 loc:=⟨m',hn,fun i x v h1 h2=>by
  rw[List.getElem?_replicate] at h2
  split at h2<;>cases h2⟩
 cell:=fun x c h=>by
  obtain⟨v,o,e,d⟩:=I.cell x c h;refine⟨v,o,(sb.2 c<|fun z=>?_).trans e,d⟩;obtain⟨m,⟨o2,es,ep,e2,d2,_⟩,_⟩:=I.loc;rw[z,e2] at e;cases e;rw[d] at d2;cases d2
 free:=I.free
 eU:=I.eU
 pin:=fun p hp=>by
  obtain⟨a,b,c,d,e⟩:=I.pin p hp;exact⟨(sb.2 _ c).trans a,b,c,d,e⟩
 aA:=I.aA.uI fun b u hb hu=>(sb.2 b<|fun z=>hb (by rw[z];exact I.free)).trans hu
 len:=List.length_replicate
theorem OI{x n:Str}{C:Addr}{i:Nat}{body:List Stmt}{b₀:Stmt}{yk:List Stmt}{tb:XK->TS}{th:Addr->TS}{np uL pos:Pos}(iC:X.stack=X.env::X.outer)(qX:X.env.frame=some X.env.locals)(hex:X.ex=[])
  (yh:Gl X x) (hd:(x==("__debug__":Str))=false) (jT:X.mg x=some (.ref C)) (nd:X.N.Nodup) (hN:X.N[i]?=some n) (ud:X.env.scope.names.lookup n=some .local)
  (hb:∀(pn:List (Addr×Obj)) (xe:Value->Shared->Prop) (E:XK),PassesOwn (model X.prog X.w) X.A X.env xe->Passes (dW X.prog X.w) (X.alt X.A X.calm pn xe) E->cJ (X.alt X.A X.calm pn xe) body (tb E))
  (hh:∀(ea:Addr) (pn:List (Addr×Obj)),cJ (X.alt (X.A.mark<|some<|.ref ea) false pn fun _ _=>False) (b₀::yk)<|th ea):
  PS X (.Try body [.ExceptHandler (some<|.Name x np) (some n) (b₀::yk) uL] [] [] pos) (uz X.K C i X.N.length tb th):=by
 intro pins s σ H D I h;refine wpAny_Try_except ?_;have P1:Passes (dW X.prog X.w) (X.alt X.A X.calm (X.pn++pins) fun e s₁=>wpAny (model X.prog X.w) X.A (noteFrame e X.env) (fun _ s₂=>wpAny (model X.prog X.w) X.A (setFlight e none) (fun _ s₃=>wpAny (model X.prog X.w) X.A (handleBy e X.env [.ExceptHandler (some<|.Name x np) (some n) (b₀::yk) uL]) (SP X pins D) X.xe s₃) X.xe s₂) X.xe s₁) (xG X.K C i X.N.length th D):=by
  intro g5 σ' H1 s1 e' s' I1 hx;obtain⟨ea,cls,t,B,H',rfl,os,bare,u,aA,fl,qW,j3,c1,c2,hm,OJ⟩:=hx;have OK:X.A.frames=some (X.env::X.outer):=by rw[I.ok.frames,iC]
  have hZ:Heap.FlyingW B (X.env::X.outer) ea cls (.ref t) s'.heap:=by rw[<-iC];exact fl
  refine wpAny_mono (qU Dl qW<|wpAny_looks_onW (Q:=fun _ fM=>∃h',fM={s' with heap:=h'}/\Heap.HeldW B (X.env::X.outer) ea cls (.ref t) X.env.locals h'/\s'.heap.UpToSlots h') (E:=fun _ _=>False) OK qX hZ fun h4 oS yl=>⟨h4,rfl,oS,yl⟩)
   (fun _ s4 hq=>?_) (fun _ _ z=>z.1.elim)
  obtain⟨⟨h4,rfl,oS,yl⟩,OL⟩:=hq;refine wpAny_mono (qU yc OL<|wpAny_landsW (s:={s' with heap:=h4}) (Q:=fun _ fM=>∃h',fM={s' with heap:=h'}/\Heap.FlyingW B (X.env::X.outer) ea cls (.ref t) h'/\h4.UpToSlots h') (E:=fun _ _=>False) oS fun h5 oT ym=>⟨h5,rfl,oT,ym⟩)
   (fun _ s5 hq=>?_) (fun _ _ z=>z.1.elim)
  obtain⟨⟨h5,rfl,OM,ym⟩,ON⟩:=hq;have oT:Heap.FlyingW B X.stack ea cls (.ref t) h5:=by rw[iC];exact OM
  obtain⟨u5,Dq,OO,OP⟩:=Dp (l:=X.stack) u aA fl.2.2.1 c1 c2 oT.1 (yl.trans ym);obtain⟨oe,ws,OQ,OR,ZF,ZG⟩:=oT.first
  have I5:=I1.wz (s':={s' with heap:=h5}) (ch:=[]) os u5 Dq bare (fun b z=>absurd z zad)
  refine wpAny_handleBy_cons (codeAny_handlers_test ?_) (by intro q;cases q)
  have ql:Inv (X.alt (X.A.mark<|some<|.ref ea) false (X.pn++pins) fun _ _=>False) [] σ' H' {s' with heap:=h5}:=I5.alt (A':=X.A.mark (some<|.ref ea)) (oR:=false) (mU:=X.pn++pins) (g5:=[]) rfl (fun z=>nomatch z) (fun p hp=>zai.mpr<|.inl (by rw[zag] at hp;exact hp))
  refine qg ql yh jT ?_ hd;have LT:PySem.W.Looks (model X.prog X.w) h5 (typeOf<|.ref ea) cls:=by
   subst OR;exact(PySem.W.Looks.ld OQ).andThen .now
  refine(PySem.W.exm_one I5.cj LT hm).here ?_;refine codeAny_handlers_suite_as ?_;refine wpAny_mono (qU yc ON<|lands_againW (s:={s' with heap:=h5}) (Q:=fun _ fM=>∃h',fM={s' with heap:=h'}/\Heap.FlyingW B X.stack ea cls (.ref t) h'/\h5.UpToSlots h') (E:=fun _ _=>False) oT fun h6 oU yn=>⟨h6,rfl,oU,yn⟩)
   (fun _ s6 hq=>?_) (fun _ _ z=>z.1.elim)
  obtain⟨⟨h6,rfl,oU,yn⟩,OS⟩:=hq;obtain⟨u6,OT,ZH,OU⟩:=Dp (l:=X.stack) u5 Dq oT.2.2.1 OO OP oU.1 yn;obtain⟨oV,Dr,uM,OV,yo,_⟩:=oU.first
  have OW:ux oV cls Dr:=by
   obtain⟨o',ZI,q1,q2,q3,q4⟩:=OS;have jk:h6.get? ea=some o':=q1;rw[uM] at jk;cases jk;rw[yo] at q2;cases q2;exact⟨OV,yo,q3,q4⟩
  have ne1:s1.heap.get? ea=none:=by
   cases q:s1.heap.get? ea with
   |none=>rfl
   |some o1=>
    by_cases Ds:ea∈bg X.stack
    ·obtain⟨o2,dh,hd2⟩:=(oU.2.2.1.mem Ds).2;rw[uM] at dh;cases dh;exact(hd2 _ yo).elim
    ·have:=OU ea o1 q Ds oV uM;rw[oU.2.1] at this;cases this
  have u7:Un (bg X.stack) [] H1 (upd H' ea (.aY oV jX)) s1.heap h6:=⟨u6.keep,u6.slot,fun b o q n hx=>by
    rw[av (fun z=>by rw[z,ne1] at q;cases q)];exact u6.free b o q n hx,u6.there,fun b xs q=>by
    have q':=u6.d4 b xs q;rw[av<|aS q' j3];exact q',fun b o v q=>by
    have q':=u6.dS b o v q;rw[av<|aS q' j3];exact q',fun b ps q=>by
    obtain⟨more,q'⟩:=u6.eT b ps q;exact⟨more,by rw[av (aS q' j3)];exact q'⟩⟩
  have OX:bD X.prog X.w (upd H' ea<|.aY oV jX) h6:=OT.more j3 (OG uM);have I7:=I1.wz (s':={s' with heap:=h6}) (ch:=[]) os u7 OX bare (fun b z=>absurd z zad)
  have I8:Inv (X.alt (X.A.mark<|some<|.ref ea) false (X.pn++pins) fun _ _=>False) [] σ' (upd H' ea<|.aY oV jX) {s' with heap:=h6}:=I7.alt (A':=X.A.mark (some<|.ref ea)) (oR:=false) (mU:=X.pn++pins) (g5:=[]) rfl (fun z=>nomatch z) (fun p hp=>zai.mpr<|.inl (by rw[zag] at hp;exact hp))
  refine wy (X:=X.alt (X.A.mark<|some<|.ref ea) false (X.pn++pins) fun _ _=>False) (v:=.ref ea) I8 nd hN (.inl ud) rfl (fun s9 I9=>?_)<|.inr ud;refine wpAny_mono (hh ea (X.pn++pins) [] s9 _ _ {nx:=fun _ _=>False,rt:=D.rt} I9<|OJ ea oV Dr σ' j3 I1.len OW) (fun f OY hs=>?_) fun _ _ z=>z.elim;cases f with
  |next=>obtain⟨_,_,_,z⟩:=hs;exact z.elim
  |brk=>obtain⟨_,_,_,z⟩:=hs;exact z.elim
  |cont=>obtain⟨_,_,_,z⟩:=hs;exact z.elim
  |ret v=>
   obtain⟨v',OZ,Dt,O0,r,q⟩:=hs;have Du:Inv X pins OZ Dt OY:=O0.yj I.ok (fun p hp=>by simpa using hp)
   obtain⟨m,hn,_⟩:=Du.loc;refine wpAny_nameGoes ud hn (by rw[I.ok.kind];rfl) fun h' m' wu sb=>?_
   exact⟨v',_,Dt,Du.OH wu sb,r,q⟩
 refine wpAny_mono (hb _ _ _ PassesOwn.looking P1 [] s σ H {nx:=D.nx,rt:=D.rt} (I.alt rfl I.ok.hd (fun p hp=>by simpa using hp)) h) (fun f s1 hs=>?_) fun e' s' hx=>hx
 cases f with
 |next=>
  obtain⟨σ',H',I',q⟩:=hs;exact Bn pins s1 σ' H' D (I'.yj I.ok (fun p hp=>by simpa using hp)) q
 |brk=>obtain⟨_,_,_,z⟩:=hs;exact z.elim
 |cont=>obtain⟨_,_,_,z⟩:=hs;exact z.elim
 |ret v=>
  obtain⟨v',σ',H',I',r,q⟩:=hs;exact⟨v',σ',H',I'.yj I.ok (fun p hp=>by simpa using hp),r,q⟩
end
def fP(A:Around)(H:Hp):Prop:= ∃e D,A.handled=some (.ref e)/\ExcAt H e D
def Hd(X:Cx):Prop:=fP X.A X.H₀
theorem ExcAt.keeps{H H':Hp}{e D:Addr}(h:ExcAt H e D)(k:∀b o u,H b=some (.aY o u)->H' b=some (.aY o u)):ExcAt H' e D:=by
 obtain⟨ob,vs,h1,h2⟩:=h;exact⟨ob,vs,k _ _ _ h1,h2⟩
theorem fP.keeps{A:Around}{H H':Hp}(h:fP A H)(k:∀b o u,H b=some (.aY o u)->H' b=some (.aY o u)):fP A H':=by
 obtain⟨e,D,h1,h2⟩:=h;exact⟨e,D,h1,h2.keeps k⟩
theorem fP.lr{P:Program}{w:World}{A:Around}{H:Hp}{h:Heap}(x:fP A H)(ok:bD P w H h):gI A h:=by
 obtain⟨e,D,h1,ob,vs,h2,h3⟩:=x;exact .inr ⟨e,ob,vs,h1,(ok e _ h2).1,h3.data,h3.NG⟩
section
variable {X:Cx}{pins:List (Addr×Obj)}{σ:St}{H:Hp}{s:Shared}
theorem Hd.at(h:Hd X)(I:Inv X pins σ H s):fP X.A H:=fP.keeps h I.base.dS
theorem Hd.lr(h:Hd X)(I:Inv X pins σ H s):gI X.A s.heap:=(h.at I).lr I.aA
end
theorem O1{P:Program}{w:World}{K:Frag}{tg:Expr}(a it:Addr):xu Hd P w K tg (eE K a) [it] it (fun i h=>h.IsListIter it a i) where
 mem:=by simp
 obj:=(tQ (P:=P) (w:=w) (K:=K) (tg:=tg) a it).obj
 keep:=(tQ (P:=P) (w:=w) (K:=K) (tg:=tg) a it).keep
 item:=by
  intro X hP hw hK hc i pins s σ H E I hf st hg;subst hP hw hK;obtain⟨xs,x,hq,hx⟩:=hg;obtain⟨aj,rv,p,hz⟩:=I.list hq;obtain⟨u,hu,ru⟩:=rv.get hx;obtain⟨f0,f1,f2,f3,f4,f5⟩:=hf it (by simp)
  refine wpAny_pyNext_list_item st p.isList (x:=u) (by simpa using hu) fun h' fi sb=>?_
  have I1:Inv X pins σ H {s with heap:=h'}:=I.turned (t':=s.toks) (fun b o hb e=>(sb.2 b hb).trans e) f0 f1 f3 f4 f5
  obtain⟨o,e,c,d⟩:=id fi;exact⟨u,rfl,tP (s:={s with heap:=h'}) e c d (by decide) ⟨x,H,I1,ru,⟨rfl,fun ys hy=>by rw[I.Bl hy hq];exact hx⟩,fi,fun b hb=>(hf b hb).1⟩⟩
 done:=by
  intro X hP hw hK hc i pins s σ H E I hf st hg;subst hP hw hK;obtain⟨xs,hq,hx⟩:=hg;obtain⟨aj,rv,p,hz⟩:=I.list hq;obtain⟨f0,f1,f2,f3,f4,f5⟩:=hf it (by simp)
  have hl:=rv.length;exact Od (hc.lr I) st p.isList (by simp;lia) fun h' eb=>⟨rfl,I.turned (t':=s.toks) (fun b o hb e=>eb b o hb e) f0 f1 f3 f4 f5⟩
 self:=(tQ (P:=P) (w:=w) (K:=K) (tg:=tg) a it).self
section
variable {X:Cx}{tg:Expr}
theorem O2{l:Expr}{tl:TE}(hl:PE X l tl):ui Hd X tg l (qi X.K tl):=by
 intro pins s σ H R I h;refine aF (hl pins s σ H _ I h) fun v s1 ⟨x,H1,I1,r1,q1⟩=>?_;obtain⟨a,e,⟨xs,hq⟩,q⟩:=q1;subst e;cases r1;obtain⟨aj,rv,p,hz⟩:=I1.list hq;refine wpAny_pyIter_list p.isList ?_;refine⟨s1.heap.objs.size,[s1.heap.objs.size],_,_,H1,rfl,I1.kept (t':=s1.toks) fun b o e=>Heap.get?_push_of_some _ e,O1 a _,⟨_,Heap.get?_push_size _ rfl,rfl,rfl⟩,fun b hb=>?_,q⟩;have e:b=s1.heap.objs.size:=by simpa using hb
 subst e;exact I1.tO (zqR _)<|I1.aA.fresh<|zqR _
theorem O3{pos:Pos}{es:List Expr}{k:Nat}{t:iB}{n:Nat}(hd:Hd X)(h:mi X es t)
  (hn:(assignEach es X.env).length=n:=by rfl) (iC:(assignEach es X.env).findIdx? (·.1)=none:=by rfl):PG X (.Tuple es k pos) (tN X.K n t):=by
 intro pins s σ H v u Q I r hw;obtain⟨a,xs,e1,hq,hl,hw⟩:=hw;subst e1;cases r;obtain⟨aj,rv,ht,hz⟩:=I.tuple hq;refine Oh (hd.lr I) ht (by simp[hn,<-hl,rv.length]) iC fun h' hx=>?_
 have I1:Inv X pins σ H {s with heap:=h'}:=I.kept (t':=s.toks) fun b o e=>hx b o (zab<|Heap.lt_size e) e
 exact h pins _ σ H xs _ Q I1 (by simpa using rv) hw
theorem O4{scope:Scope}{fv:List (Str×Nat)}{x y:Str}{px py pos:Pos}{k:Nat}(hx:scope.names.lookup x=some .local)(hy:scope.names.lookup y=some .local)(mL:(x::y::fv.map (·.1)).Nodup):uj (fP X.A) X scope [x,y] fv (.Tuple [.Name x px,.Name y py] k pos) (some 2):=by
 intro ex C s H hH;generalize eX:fu X scope ([x,y]++fv.map (·.1)) ex C s H=Xc;have xN:Xc.N=x::y::fv.map (·.1):=by rw[<-eX];rfl
 have xd:Hd Xc:=by rw[<-eX];exact hH
 have lx:Xc.env.scope.names.lookup x=some .local:=by rw[<-eX];exact lookup_relabel_local hx
 have ly:Xc.env.scope.names.lookup y=some .local:=by rw[<-eX];exact lookup_relabel_local hy
 have p1:PG Xc (.Name x px) (df 0):=oz (by rw[xN];exact mL) (by rw[xN];rfl) (.inl lx) (.inr lx)
 have p2:PG Xc (.Name y py) (df 1):=oz (by rw[xN];exact mL) (by rw[xN];rfl) (.inl ly) (.inr ly)
 have xK:Xc.K=X.K:=by rw[<-eX];rfl
 refine⟨tN Xc.K 2<|oA (df 0)<|oA (df 1) tM,O3 xd<|qh p1<|qh p2 wD,fun v pre φ H' Q hp h=>?_⟩;obtain⟨a,b,rfl⟩:∃a b,pre=[a,b]:=by
  match pre,hp with
  |[a,b],_=>exact⟨a,b,rfl⟩
 obtain⟨a',xs,rfl,e2,e3,q⟩:=h;obtain⟨v1,v2,rfl⟩:∃v1 v2,xs=[v1,v2]:=by
  match xs,e3 with
  |[v1,v2],_=>exact⟨v1,v2,rfl⟩
 exact⟨a',_,rfl,by rw[xK];exact e2,rfl,v1,_,rfl,v2,_,rfl,rfl,q rfl⟩
theorem O5{X:Cx}:∀H,fP X.A H->∀Xc:Cx,Xc.A=X.A->Xc.calm=X.calm->Xc.H₀=H->Hd Xc:=fun H h Xc a _ b=>by
 show fP Xc.A Xc.H₀;rw[a,b];exact h
theorem O6:bQ X (.builtin "isinstance") (jh X.K):=by
 intro pins s σ H xs us Q I r h
 match xs,h with
 |[.ref ea,c],h=>
  obtain⟨D,b,⟨ob,vs,h1,h2⟩,hC,hc,hk,hq⟩:=h;cases r with
  |cons r1 r=>
   cases r with
   |cons r2 r=>
    cases r
    rename_i u1 u2
    cases (show u1=Value.ref ea from r1)
    have e2:u2=cV c:=by
     rcases hc with⟨C,rfl⟩|⟨n,rfl⟩
     ·exact r2
     ·exact r2
    subst e2;have at_:=(I.aA ea _ h1).1;have inst:InstAt s.heap ea ob D none:=⟨at_,h2.cls,by unfold PySem.W.notCls;rw[h2.data],by rw[h2.dict];trivial⟩
    exact kia_one (Om hC.qN hC.qO hC.hk hC.ha hC.hn hC.kT hC.hm hC.hb) I.cj inst hk (fun z=>nomatch z) fun tk=>⟨.bl b,H,I.tok tk,rfl,hq⟩
end
structure fQ (k:Nat) (A:Around):Prop where
 dp:A.depth+3*k+5<recursionLimit
 un:A.units+16*k+200<cLine
theorem cK.h{k:Nat}{A:Around}(r:cK k A):fQ k A:=⟨r.dp,r.un⟩
theorem fQ.mark{k:Nat}{A:Around}(r:fQ k A)(v:Option Value):fQ k (A.mark v):=⟨r.dp,r.un⟩
theorem fQ.deeper{k:Nat}{A:Around}(r:fQ (k+1) A)(env:Env):fQ k (A.deeper env):=
 ⟨by have:=r.dp;show A.depth+1+3*k+5<_;lia,by have:=r.un;show A.units+3+16*k+200<_;lia⟩
theorem fQ.depth{k:Nat}{A:Around}(r:fQ k A):A.depth<recursionLimit:=by have:=r.dp;lia
theorem fQ.units{k:Nat}{A:Around}(r:fQ k A):A.units+64<cLine:=by have:=r.un;lia
def O7(outer:List Env)(P:Program)(w:World)(H:Hp)(s:Shared)(Q:VK)(r:Result)(s':Shared):Prop:=
 match r with
 |.ok (.ret u)=>CE outer P w H s Q u s'
 |_=>False
structure mV (P:Program) (w:World) (K:Frag) (mg:Str->Option Value) (base:Heap) (k:Nat) (f:Addr) (fd:FuncData) (ps:List Str) (sp:Sp):Prop where
 len:∀vs H Q E,sp vs H Q E->vs.length=ps.length
 run:∀(A:Around) (outer:List Env) (s:Shared) (H:Hp) (args:Args) (us:List Value) (vs:List V) (Q:VK),fQ k A->fP A H->jP P w K mg base A outer s H->BindsTo s fd args (ps.zip us)->Vals vs us->sp vs H Q E0->
  codeAny (model P w) A (.call (.ref f) args) (O7 outer P w H s Q) s
theorem mV.mono{P:Program}{w:World}{K:Frag}{mg:Str->Option Value}{base:Heap}{j k:Nat}{f:Addr}{fd:FuncData}{ps:List Str}{sp:Sp}(F:mV P w K mg base j f fd ps sp)(h:j<=k):mV P w K mg base k f fd ps sp:=
 ⟨F.len,fun A outer s H args us vs Q hr=>F.run A outer s H args us vs Q ⟨by have:=hr.dp;lia,by have:=hr.un;lia⟩⟩
def uN(CX:bE)(P:Program)(w:World)(K:Frag)(mg:Str->Option Value)(base:Heap)(N:List Str)(qual:Str)(scope:Scope)(f:Addr)(cd:Value)(A:Around)(outer:List Env)(s:Shared)(H:Hp):Cx:=
 (jR CX P w K mg base N qual scope f cd {A with handled:=none} outer s H E0).alt (A.deeper<|envOfC qual scope s.heap.objs.size f cd) false [] fun _ _=>False
theorem O8{CX:bE}{P:Program}{w:World}{K:Frag}{mg:Str->Option Value}{base:Heap}{k:Nat}{f:Addr}{name qual:Str}{params:Arguments}{body:List Stmt}{scope:Scope}{dV kV doc pm aT ct oc:Value}{an od:Option Addr}
  {fj:Array (Option Value)}{N ps:List Str}{sp:Sp} (lk:K.lookup f=some ⟨oc,od,.func<|PySem.W.fnOf name qual params body scope dV kV doc pm an aT ct,fj⟩) (gf:PySem.W.codeIn K aT qual=true) (S:kU N ps scope)
  (len:∀vs H Q E,sp vs H Q E->vs.length=ps.length)
  (wV:∀(A:Around) (outer:List Env) (s:Shared) (H:Hp) (vs:List V) (Q:VK),fQ k (A.deeper (envOfC qual scope s.heap.objs.size f aT))->fP A H->sp vs H Q E0->
   ∃t,cJ (uN CX P w K mg base N qual scope f aT A outer s H) body t/\t {nx:=fun _ H'=>Q .aD H',rt:=Q} (start N vs) H):
  mV P w K mg base (k+1) f (PySem.W.fnOf name qual params body scope dV kV doc pm an aT ct) ps sp:=by
 refine⟨len,fun A outer s H args us vs Q hr hh e0 hb r gF=>?_⟩;have hl:=len _ _ _ _ gF;have KX:K.In s.heap:=e0.mod.me.keeps fun b o e=>(e0.bs b o e).1;have lim:s.heap.NoLimit:=e0.mod.nolimit.keeps fun b o e=>(e0.bs b o e).1;have wW:∀y∈ps.zip us,scope.names.lookup y.1=some .local\/(scope.names.lookup y.1=some .cell/\((cellsFrom (s.heap.objs.size+1) scope.names []).lookup y.1).isSome=true):=fun⟨n,v⟩ hy=>by
  rcases S.par n (zbt hy).1 with q|q
  ·exact .inl q
  ·exact .inr ⟨q,cellsFrom_some _ _ _<|.inl q⟩
 refine codeAny_call_function hr.depth (KX _ _ lk) rfl S.co S.gen rfl (codeRec_of KX gf)<|hb _ _ _ _ ?_;refine wpAny_newFunctionEnv_cells S.kind wW fun env he s1 x=>?_;subst he;refine⟨lim.keeps x.toInCall.keep,codeAny_func ?_⟩;obtain⟨t,ht,hq⟩:=wV A outer s H vs Q (hr.deeper _) hh gF;have O9:jP P w K mg base {A with handled:=none} outer s H:=⟨e0.frames,e0.mod,e0.bs,e0.kQ,e0.g4,e0.mf,e0.aA,e0.bare⟩
 have I0:Inv (jR CX P w K mg base N qual scope f aT {A with handled:=none} outer s H E0) [] (start N vs) H s1:=BV S rfl O9 hl r x
 have I:Inv (uN CX P w K mg base N qual scope f aT A outer s H) [] (start N vs) H s1:=I0.alt rfl (fun z=>nomatch z) (fun p hp=>hp);refine wpAny_mono (ht [] s1 (start N vs) H _ I hq) (fun fl s' hs=>?_) fun e s' hs=>hs.elim;have fin:∀{σ':St}{H':Hp}{v:V}{u:Value},Inv (uN CX P w K mg base N qual scope f aT A outer s H) [] σ' H' s'->RelV v u->Q v H'->CE outer P w H s Q u s':=
  fun {σ' H' v u} J rv q=>⟨v,H',J.os,J.bare,J.base,J.aA,rv,q⟩
 cases fl with
 |ret u=>
  obtain⟨v,σ',H',J,rv,q⟩:=hs;exact fin J rv q
 |next=>
  obtain⟨σ',H',J,q⟩:=hs;exact fin (v:=V.aD) (u:=Value.none) J rfl q
 |brk=>
  obtain⟨_,_,_,q⟩:=hs;exact False.elim q
 |cont=>
  obtain⟨_,_,_,q⟩:=hs;exact False.elim q
theorem O_{CX:bE}{P:Program}{w:World}{K:Frag}{mg:Str->Option Value}{base:Heap}{N:List Str}{qual:Str}{scope:Scope}{f:Addr}{cd:Value}{A:Around}{outer:List Env}{s:Shared}{H:Hp}(h:fP A H):Hd (uN CX P w K mg base N qual scope f cd A outer s H):=h
section
variable {X:Cx}{k:Nat}{f:Addr}{fd:FuncData}{ps:List Str}{sp:Sp}{x:Str}{p pos:Pos}{e:Expr}{ta:TE}{hv:Option Addr}
theorem Pa(F:mV X.prog X.w X.K X.mg X.base k f fd ps sp)(hr:fQ k X.A)(hg:Gl X x)(hm:X.mg x=some (.ref f))(hk:PySem.W.keepIn X.K (.ref f)=true)(hb:Binds X.K fd ps [])(hh:∀e,hv=some e->X.A.handled=some (.ref e))
  (ha:PE X e ta) (hs:noStar e=true) (jQ:(x==("__debug__":Str))=false):PE X (.Call (.Name x p) [e] [] pos) (C3 sp hv<|cA ta fK):=by
 intro pins s σ H Q I h;have he:starEach [e] X.env=(false,eval e X.env)::starEach [] X.env:=by cases e<;>first|rfl|cases hs
 refine wpAny_Call_Name_kw<|qg I hg hm ?_ jQ;have hA:PA X [e] (cA ta fK):=my ha qp he;refine callWith_K (h₀:=X.base) I.ok.mod.me hk (aF (hA pos pins s σ H _ I h) fun us s1 ⟨vs,H1,I1,r,⟨ea,D,h1,h2⟩,q⟩=>⟨I1.cj,?_⟩) he rfl;have r2:Vals vs us:=r;have hl:us.length=ps.length:=by rw[<-r2.length];exact F.len _ _ _ _ q
 have oH:=hb s1 us I1.cj (by rw[zag];exact hl)
 rw[zag] at oH;refine wpAny_call<|codeAny_mono (F.run X.A X.stack s1 H1 ⟨us,[]⟩ us vs Q hr ⟨ea,D,hh ea h1,h2⟩ I1.wO oH r2 q) fun r s' hq=>?_;cases r with
 |error e=>exact False.elim hq
 |ok fl=>
  cases fl with
  |ret u=>exact I1.after hq
  |next=>exact False.elim hq
  |brk=>exact False.elim hq
  |cont=>exact False.elim hq
end
def Dv(CX:bE)(X:Cx)(x:Str)(sp:Sp):Prop:=
 ∃k f fd ps,bZ X.prog X.w X.K X.mg X.base CX k f fd ps sp/\cK k X.A/\X.mg x=some (.ref f)/\PySem.W.keepIn X.K (.ref f)=true/\Binds X.K fd ps []
def uO(CX:bE)(X:Cx)(C:Addr)(m:Str)(sp:Sp):Prop:=
 eV X.K C/\∃k f fd ps,Meth X.K C m f/\bZ X.prog X.w X.K X.mg X.base CX k f fd ps sp/\cK k X.A/\Binds X.K fd ps []
def Dw(CX:bE)(X:Cx)(x:Str)(C:Addr)(sp:Sp):Prop:=
 ∃k f fd ps,Mk X.K C f/\bZ X.prog X.w X.K X.mg X.base CX k f fd ps sp/\cK (k+1) X.A/\X.mg x=some (.ref C)/\Binds X.K fd ps []
def Dx(X:Cx)(x:Str)(sp:Sp):Prop:=
 ∃k f fd ps,mV X.prog X.w X.K X.mg X.base k f fd ps sp/\fQ k X.A/\X.mg x=some (.ref f)/\PySem.W.keepIn X.K (.ref f)=true/\Binds X.K fd ps []
def Dy(X:Cx)(x:Str)(C:Addr):Prop:= ∃bm B newId oQ,OwnCls x C bm newId X.mg X.base/\ExcBaseFacts B newId oQ bm
structure Good (CX:bE) (S:bS) (Γ:aN) (X:Cx):Prop where
 N:X.N=S.N
 sc:X.env.scope=S.sc
 K:X.K=Γ.K
 calm:S.md=0->X.calm=true
 units:X.A.units+64<cLine
 fns:S.md=0->∀j x,S.fn[j]?=some x->Dv CX X x (Γ.fs j)
 jl:∀j x,S.gn[j]?=some x->∃u,X.mg x=some u/\RelV (Γ.gv j) u
 dF:∀x,S.bl.contains x=true->X.mg x=none
 pass:Passes CX X Γ.E
 jm:∀outer H s e s',CX outer H s E0 e s'->False
 j4:∀p kvs,Γ.sd p kvs->∀h:Heap,X.K.In h->∃vs,KV kvs vs/\h.DictOf (ck X.prog X.w) p vs
 j5:S.md=0->∀j m,S.mn[j]?=some m->uO CX X (Γ.ms j).1 m (Γ.ms j).2
 lA:S.md=0->∀j x,S.kn[j]?=some x->Dw CX X x (Γ.kt j).1 (Γ.kt j).2
 cL:∀j x,S.en[j]?=some x->Dy X x (Γ.ex j)
 j6:∀j x,S.hn[j]?=some x->Dx X x (Γ.hs j)
 lB:∀e,Γ.hv=some e->X.A.handled=some (.ref e)
 mX:S.md=1->Hd X
theorem uP{S:bS}(h:(if S.md=0 then 0 else 2)=0):S.md=0:=by
 split at h
 ·assumption
 ·cases h
section
variable {CX:bE}{S:bS}{Γ:aN}{X:Cx}
theorem Good.inner(G:Good CX S Γ X)(c:qR)(ln:List Str)(fv:List (Str×Nat))(ex:List Addr)(C:Addr)(s:Shared)(H:Hp):
  Good CX (Di S c ln fv) Γ.calm (fu X c.sc (ln++fv.map (·.1)) ex C s H) where
 N:=rfl
 sc:=by
  show relabel c.sc X.env=xU c.sc S.sc;rw[<-G.sc];rfl
 K:=G.K
 calm:=fun h=>G.calm (uP h)
 units:=G.units
 fns:=fun m j x h=>G.fns (uP m) j x h
 jl:=G.jl
 dF:=G.dF
 pass:=fun _ _ _ _ _ _ _ h=>(G.jm _ _ _ _ _ h).elim
 jm:=G.jm
 j4:=G.j4
 j5:=fun z j m h=>G.j5 (uP z) j m h
 lA:=fun z j x h=>G.lA (uP z) j x h
 cL:=fun j x h=>by simp[Di] at h
 j6:=fun j x h=>G.j6 j x h
 lB:=fun e h=>G.lB e h
 mX:=fun h=>by
  have h':(if S.md=0 then 0 else 2)=1:=h
  split at h'<;>cases h'
theorem Good.gl(G:Good CX S Γ X){x:Str}(h:jZ S.sc x=true):Gl X x:=by
 show X.env.scope.names.lookup x=_;rw[G.sc];exact N6 h
theorem cY{e:Expr}{es:List Expr}{env:Env}(h:noStar e=true):starEach (e::es) env=(false,eval e env)::starEach es env:=by
 cases e<;>first|rfl|cases h
theorem mF{o:Expr}{x:Str}{env:Env}(h:mP o=true):attributeBase o x env (eval o env)=eval o env:=by
 unfold attributeBase
 split
 ·cases h
 ·rfl
theorem oX{e:Expr}{env:Env}(h:qS e=true):∀x,foldedSetIterable e env x=pure x:=by
 intro x;cases e<;>first|rfl|cases h
def dG(es:List Expr):Bool:=es.all noStar
theorem fS(env:Env)(pos:Pos):∀(es:List Expr),dG es=true->(backTo pos<|starEach es env).any (·.1)=false
 |[],h=>rfl
 |e::es,h=>by
  simp only[dG,zba,zac] at h
  rw[cY h.1];have ih:=fS env pos es h.2;show(false ||(backTo pos<|starEach es env).any (·.1))=false;rw[ih];rfl
theorem uQ(env:Env)(pos:Pos):∀(es:List Expr),dG es=true->(backTo pos<|starEach es env).all (fun x=> !x.1)=true
 |[],h=>rfl
 |e::es,h=>by
  simp only[dG,zba,zac] at h
  rw[cY h.1];have ih:=uQ env pos es h.2;show(!false && (backTo pos<|starEach es env).all (fun x=> !x.1))=true;rw[ih];rfl
theorem b9{e:Expr}{es:List Expr}(h:dG (e::es)=true):noStar e=true/\dG es=true:=by
 simp only[dG,zba,zac] at h
 exact h
theorem uR(G:Good CX S Γ X){c:qR}{ln:List Str}{fv:List (Str×Nat)}(h:xW S c ln fv=true):
  iI X c.sc ln fv/\(∀x∈ln,c.sc.names.lookup x=some .local)/\(ln++fv.map (·.1)).Nodup/\qS c.iter=true:=by
 simp only[xW,zac,decide_eq_true_eq,zbc,Bool.or_eq_true] at h
 obtain⟨⟨⟨⟨⟨⟨⟨h1,h2⟩,h3⟩,h4⟩,h5⟩,h6⟩,h7⟩,h8⟩:=h;refine⟨⟨h1,fun y hy=>h2 y hy,fun y hy hl=>?_,fun y hy hf=>?_,fun p hp=>?_⟩,h6,h7,h8⟩
 ·rcases h3 y hy with z|z
  ·exact absurd hl z
  ·exact z
 ·show X.env.scope.names.lookup y.1=_\/X.env.scope.names.lookup y.1=_;rw[G.sc];rcases h4 y hy with(z|z)|z
  ·exact absurd hf z
  ·exact .inl z
  ·exact .inr z
 ·rw[G.N];exact h5 p hp
theorem yp(hc:X.calm=true){c:qR}{tk:Option Nat}{ln:List Str}{fv:List (Str×Nat)}(h:xV tk c.tg=some ln)(hl:∀x∈ln,c.sc.names.lookup x=some .local)(hn:(ln++fv.map (·.1)).Nodup):
  qG X c.sc ln fv c.tg tk:=by
 unfold xV at h
 split at h
 ·rename_i x p he
  cases h;rw[he];exact Ng (hl x (by simp)) hn
 ·rename_i x p y q k pos he
  cases h;rw[he];exact Ni hc (hl x (by simp)) (hl y (by simp)) hn
 ·cases h
theorem Pb{xs:List V}{H:Hp}{Q:VK}{K:Frag}(h:lg K .int xs H Q):(∃i,xs=[.int i]/\Q (.int i) H)\/∃k,xs=[.bl k]/\Q (.int (if k then 1 else 0)) H:=by
 match xs,h with
 |[.int i],h=>exact .inl ⟨i,rfl,h⟩
 |[.bl k],h=>exact .inr ⟨k,rfl,h⟩
theorem Pc{K:Frag}{x:V}{H:Hp}{Q:Nat->Prop}(h:qy K x H Q):∃n,BJ K x H n/\Q n:=by
 match x,h with
 |.str y,h=>exact⟨_,⟨h.1,rfl⟩,h.2⟩
 |.ref p,.inl ⟨xs,a,b⟩=>exact⟨_,.inl ⟨xs,a,rfl⟩,b⟩
 |.ref p,.inr ⟨xs,a,b⟩=>exact⟨_,.inr ⟨xs,a,rfl⟩,b⟩
inductive Pd (X:Cx) (b:mM):Prop where
 |fn (id:String) (hv:bootBuiltins b.nm=some (.builtin id)) (hc:bQ X (.builtin id) (lg X.K b))
 |ty (T:String) (hv:bootBuiltins b.nm=some (.type T)) (hc:bQ X (.type T) (lg X.K b))
theorem boot_min:bootBuiltins "min"=some (.builtin "min"):=by decide+kernel
theorem boot_max:bootBuiltins "max"=some (.builtin "max"):=by decide+kernel
theorem boot_abs:bootBuiltins "abs"=some (.builtin "abs"):=by decide+kernel
theorem boot_sum:bootBuiltins "sum"=some (.builtin "sum"):=by decide+kernel
theorem Dz:bootBuiltins "isinstance"=some (.builtin "isinstance"):=by decide+kernel
theorem Pe:bootBuiltins "int"=some (.type "int"):=by decide+kernel
theorem DA:bootBuiltins "list"=some (.type "list"):=by decide+kernel
theorem Pf:bootBuiltins "tuple"=some (.type "tuple"):=by decide+kernel
theorem yq(f:Nat->Int)(lt:Nat->Nat->Bool)(h:∀i j,lt i j=decide (f i<f j)):∀n,argBest lt n<=n/\∀i,i<=n->f (argBest lt n)<=f i
 | 0=>⟨zqR _,fun i hi=>by
   obtain rfl:i=0:=by lia
   exact zaD _⟩
 |n+1=>by
  obtain⟨a,b⟩:=yq f lt h n;have e:argBest lt (n+1)=if lt (n+1) (argBest lt n)=true then n+1 else argBest lt n:=rfl
  rw[e,h]
  split
  ·rename_i q
   have q:=of_decide_eq_true q;refine⟨zqR _,fun i hi=>?_⟩;by_cases z:i=n+1
   ·rw[z];exact zaD _
   ·have:=b i (by lia);lia
  ·rename_i q
   have q:¬f (n+1) <f (argBest lt n):=fun z=>q (zqT z);refine⟨by lia,fun i hi=>?_⟩
   by_cases z:i=n+1
   ·rw[z];lia
   ·exact b i (by lia)
theorem DB{xs:Array (Int×Tok)}{i:Nat}(h:i<xs.size):numAt xs i=xs[i].1:=by
 unfold numAt;rw[Array.getElem?_eq_getElem h];rfl
theorem DC{xs:Array (Int×Tok)}{i:Nat}(h:i<xs.size):numAt xs i∈xs.toList.map (·.1):=by
 rw[DB h];exact zay.mpr ⟨xs[i],by simp,rfl⟩
theorem DD{xs:Array (Int×Tok)}{n:Int}(h:n∈xs.toList.map (·.1)):∃i,i<xs.size/\n=numAt xs i:=by
 obtain⟨y,hy,rfl⟩:=zay.mp h;obtain⟨i,hi,rfl⟩:=zbz hy;have dE:i<xs.size:=by simpa using hi
 exact⟨i,dE,by rw[DB dE];simp⟩
theorem DE{pins:List (Addr×Obj)}{σ:St}{H:Hp}{s:Shared}{p:Addr}{ns:List Int}(I:Inv X pins σ H s)(hq:aw X.K H p (ns.map V.int)):∃xs:Array (Int×Tok),s.heap.IsList p (intItems xs)/\ns=xs.toList.map (·.1):=by
 obtain⟨aj,rv,pl,hz⟩:=I.list hq;have hi:=intsAre_of rv;obtain⟨xs,hx⟩:=hi.allInts.items;refine⟨xs,hx ▸ pl.isList,?_⟩;rw[<-nums_intItems,<-hx];exact(show numsOf aj.toArray.toList=ns from hi.numsOf).symm
theorem Pg(hc:X.calm=true):bQ X (.builtin "min") (fun xs H Q=>∃(p:Addr) (ns:List Int),xs=[.ref p]/\aw X.K H p (ns.map V.int)/\ns≠ []/\∀m:Int,m∈ns->(∀n∈ns,m<=n)->Q (.int m) H):=by
 intro pins s σ H xs us Q I r h;obtain⟨p,ns,rfl,hq,gp,q⟩:=h;obtain⟨u,rfl,ru⟩:=vals1 r;cases ru;obtain⟨xs,hl,rfl⟩:=DE I hq;have sz:0<xs.size:=Nat.pos_of_ne_zero fun z=>gp (by rw[zbJ z];rfl)
 refine min_intList (I.ok.hd hc) hl sz fun v h' tk hv hk=>?_;obtain⟨t,rfl⟩:=intItems_at hv;obtain⟨b1,b2⟩:=yq (numAt xs) (fun i j=>decide<|numAt xs i<numAt xs j) (fun _ _=>rfl) (xs.size - 1);refine⟨.int _,H,I.kept (t':=tk) hk,⟨t,rfl⟩,q _ (DC (by lia)) fun n hn=>?_⟩
 obtain⟨i,hi,rfl⟩:=DD hn;exact b2 i (by lia)
theorem Ph(hc:X.calm=true):bQ X (.builtin "max") (fun xs H Q=>∃(p:Addr) (ns:List Int),xs=[.ref p]/\aw X.K H p (ns.map V.int)/\ns≠ []/\∀m:Int,m∈ns->(∀n∈ns,n<=m)->Q (.int m) H):=by
 intro pins s σ H xs us Q I r h;obtain⟨p,ns,rfl,hq,gp,q⟩:=h;obtain⟨u,rfl,ru⟩:=vals1 r;cases ru;obtain⟨xs,hl,rfl⟩:=DE I hq;have sz:0<xs.size:=Nat.pos_of_ne_zero fun z=>gp (by rw[zbJ z];rfl)
 refine max_intList (I.ok.hd hc) hl sz fun v h' tk hv hk=>?_;obtain⟨t,rfl⟩:=intItems_at hv;obtain⟨b1,b2⟩:=yq (fun i=> - numAt xs i) (fun i j=>decide<|numAt xs i>numAt xs j) (fun i j=>decide_eq_decide.mpr (by lia)) (xs.size - 1)
 refine⟨.int _,H,I.kept (t':=tk) hk,⟨t,rfl⟩,q _ (DC (by lia)) fun n hn=>?_⟩
 obtain⟨i,hi,rfl⟩:=DD hn;have:=b2 i (by lia)
 lia
theorem Pj{x:Str}{acc:Array Value}(h:ItemsOf (SignAt x) acc x.cps.size):Vals (signs x) acc.toList:=by
 have go:∀(l:List Nat) (us:List Value),us.length=l.length->(∀(j:Nat) (v:Value),us[j]?=some v->∃(c:Nat) (t:Tok),l[j]?=some c/\v=Value.str ⟨#[c]⟩ t)->Vals (l.map fun c=>V.str ⟨#[c]⟩) us:=by
  intro l
  induction l with
  |nil=>
   intro us hl _;rw[zaO.mp hl];exact .nil
  |cons c l ih=>
   intro us hl hv;cases us with
   |nil=>cases hl
   |cons u us=>
    obtain⟨c',t,e1,e2⟩:=hv 0 u rfl;have mJ:c=c':=by simpa using e1
    subst mJ;exact .cons ⟨t,e2⟩ (ih us (by simpa using hl) fun j v hj=>by
     obtain⟨c2,t2,g1,g2⟩:=hv (j+1) v (by simpa using hj)
     exact⟨c2,t2,by simpa using g1,g2⟩)
 refine go x.cps.toList acc.toList ?_ fun j v hj=>?_
 ·have:=h.1;simpa using this
 ·obtain⟨c,t,e1,e2⟩:=h.2 j v (by simpa using hj)
  exact⟨c,t,by simpa using e1,e2⟩
theorem Pk(x:Str):(signs x).length=x.length:=by simp[signs,Str.length]
theorem Pl(hc:X.calm=true):bQ X (.type "list") (fun xs H Q=>∃x,xs=[.str x]/\x.length<=sizeLine/\∀l,H l=none->Q (.ref l) (upd H l<|.lst<|signs x)):=by
 intro pins s σ H xs us Q I r h;obtain⟨x,rfl,hx,q⟩:=h;obtain⟨u,rfl,t,rfl⟩:=vals1 r;refine call_list_str (I.ok.hd hc) x t (fun h' tk qF c' hk e mY=>?_) hx;have rv:=Pj mY;exact⟨.ref s.heap.objs.size,_,I.laid (t':=tk) hk (zqR _) (show bI X.prog X.w _ h' _ (.lst<|signs x) from⟨by rw[Pk];exact hx,qF.toList,c',rv,by simpa using e⟩),rfl,q _<|I.aA.fresh<|zqR _⟩
theorem Pn{pos:Pos}:PE X (.Dict [] [] pos) C_:=fun pins s σ H Q I h=>by
 have big:sysModules<s.heap.objs.size:=Nat.lt_trans (by decide) (I.mod.glob.keeps I.bk).lt
 have ok:bI X.prog X.w (upd H s.heap.objs.size<|.dK []) (s.heap.push {cls:=.type "dict",data:=.dict #[]}) s.heap.objs.size (.dK []):=
  ⟨zqZ _,beq_eq_false_iff_ne.mpr<|Ne.symm<|zab big,[],.nil,Heap.DictOf.new s.heap⟩
 exact wpAny_Dict_empty ⟨.ref s.heap.objs.size,_,I.laid (t':=s.toks) (fun _ _ q=>Heap.get?_push_of_some _ q) (zqR _) ok,rfl,h _<|I.aA.fresh<|zqR _⟩
theorem Po(hc:X.calm=true)(b:mM):Pd X b:=by
 cases b with
 |len=>exact .fn "len" boot_len (bQ.imp KW fun xs H Q h=>by
   rcases xs with _|⟨x,_|⟨_,_⟩⟩ <;>(try exact False.elim h)
   obtain⟨n,h1,h2⟩:=Pc (Q:=fun n=>Q (.int n) H) h;exact⟨x,n,rfl,h1,h2⟩)
 |min=>exact .fn "min" boot_min (bQ.imp ((KS hc).or (Pg hc)) fun xs H Q h=>by
   match xs,h with
   |[.int i,.int j],h=>exact .inl ⟨i,j,rfl,h⟩
   |[.ref p],⟨ns,h1,h2,h3⟩=>exact .inr ⟨p,ns,rfl,h1,h2,h3⟩)
 |max=>exact .fn "max" boot_max (bQ.imp ((KR hc).or (Ph hc)) fun xs H Q h=>by
   match xs,h with
   |[.int i,.int j],h=>exact .inl ⟨i,j,rfl,h⟩
   |[.ref p],⟨ns,h1,h2,h3⟩=>exact .inr ⟨p,ns,rfl,h1,h2,h3⟩)
 |sum=>exact .fn "sum" boot_sum (bQ.imp (NA hc) fun xs H Q h=>by
   rcases xs with _|⟨x,_|⟨_,_⟩⟩ <;>(try exact False.elim h) <;>cases x<;>(try exact False.elim h)
   obtain⟨ns,h1,h2⟩:=h;exact⟨_,ns,rfl,h1,h2⟩)
 |abs=>exact .fn "abs" boot_abs fun _ _ _ _ xs _ _ _ _ h=>by rcases xs with _|⟨y0,_|⟨y1,_⟩⟩ <;>first|exact False.elim h| (cases y0<;>exact False.elim h)
 |int=>exact .ty "int" Pe (bQ.imp KU fun xs H Q h=>Pb h)
 |list=>exact .ty "list" DA (bQ.imp (LP.or (Pl hc)) fun xs H Q h=>by
   rcases xs with _|⟨x,_|⟨_,_⟩⟩ <;>(try exact False.elim h) <;>cases x<;>(try exact False.elim h)
   ·exact .inr ⟨_,rfl,h.1,h.2⟩
   ·obtain⟨ys,h1,h2⟩:=h;exact .inl ⟨_,ys,rfl,h1,h2⟩)
 |tuple=>exact .ty "tuple" Pf fun _ _ _ _ xs _ _ _ _ h=>by rcases xs with _|⟨y0,_|⟨y1,_⟩⟩ <;>first|exact False.elim h| (cases y0<;>exact False.elim h)
structure Pp (X:Cx) (m:iL) (id:String):Prop where
 pa:PlainAttrs (uC m)
 slot:Slot (uC m) m.nm id
 ty:typeOf (.builtin id)=pure (.type "method_descriptor")
 mt:qu X id (xR X.K m)
theorem Pq{P:Program}{w:World}{k:Key}{u:Value}(r:RelV (kV k) u):(ck P w).is k u=true:=by
 cases k with
 |inl i=>obtain⟨t,e⟩:=(show ∃t,u=Value.int i t from r);subst e;exact AQ P w i t
 |inr x=>obtain⟨t,e⟩:=(show ∃t,u=Value.str x t from r);subst e;exact AR P w x t
theorem Pr{kvs:List (Key×V)}{vs:List (Key×Value)}(r:KV kvs vs)(k:Key){v:V}(h:mO kvs k=some v):∃u,valueAt vs k=some u/\RelV v u:=by
 unfold KV at r
 induction r with
 |nil=>cases h
 | @cons p q ps qs hh t ih=>
  obtain⟨h1,h2⟩:=hh;by_cases e:p.1=k
  ·have e':q.1=k:=h1.symm.trans e;have b:valueAt (q::qs) k=some q.2:=by simp[valueAt,zaF,e']
   have a:mO (p::ps) k=some p.2:=by simp[mO,zaF,e]
   rw[a] at h;cases h;exact⟨_,b,h2⟩
  ·have e':¬q.1=k:=fun z=>e (h1.trans z);have b:valueAt (q::qs) k=valueAt qs k:=by simp[valueAt,zaF,e']
   have a:mO (p::ps) k=mO ps k:=by simp[mO,zaF,e]
   rw[a] at h;rw[b];exact ih h
theorem Pu{sd:Addr->List (Key×V)->Prop}(yr:∀p kvs,sd p kvs->∀h:Heap,X.K.In h->∃vs,KV kvs vs/\h.DictOf (ck X.prog X.w) p vs):jd X (Dc sd):=by
 intro value slice pins s σ H x y v u Q I rx ry h hs;obtain⟨p,kvs,k,z,rfl,rfl,hq,he,q⟩:=h;cases rx;obtain⟨vs,r,dd⟩:=yr p kvs hq s.heap I.cj;obtain⟨w,ew,e7⟩:=Pr r k he;exact subscriptTail_builtinR (x:=w) dd.mapOf.typeIs PySem.F.slot_dict_getitem.lookup
  (wpAny_getItem_of (Q:=fun r s'=>r=w/\EP X pins σ Q r s') (Pq ry) dd.mapOf ew ⟨rfl,z,H,I.tok _,e7,q⟩) hs
theorem Pw{sd:Addr->List (Key×V)->Prop}(yr:∀p kvs,sd p kvs->∀h:Heap,X.K.In h->∃vs,KV kvs vs/\h.DictOf (ck X.prog X.w) p vs):jd X (lj X.K sd):=LD.or (LF.or<|LG.or<|Pu yr)
theorem Px:qu X "list.index" (fun x vs H Q=>∃(l:Addr) (y:V) (xs:List V),x=.ref l/\vs=[y]/\aw X.K H l xs/\gi y=true/\xs.all gi=true/\e8 y xs=true/\Q (.int (xs.findIdx (fun z=>fN z y):Nat)) H):=by
 intro pins s σ H x vs v us Q I rx rv h;obtain⟨l,y,xs,rfl,rfl,hq,fy,fs,qY,q⟩:=h;cases rx;obtain⟨u,rfl,ru⟩:=vals1 rv;obtain⟨aj,r,⟨⟨cls,dd,data,sl⟩,n,ho,hc,ZJ,hd⟩,hz⟩:=I.list hq
 simp only at hc hd
 subst hc hd;have hlen:=r.length;have e:∀j (h1:j<aj.length) (h2:j<xs.length),d6 y aj[j]=fN xs[j] y:=fun j h1 h2=>by
  obtain⟨w,e1,r1⟩:=r.get (i:=j) (x:=xs[j]) (by simp[h2])
  have e2:=zaE h1;rw[e1] at e2;rw[<-zan e2];exact w_ r1<|zbc.mp fs _<|zaV h2
 have hj:xs.findIdx (fun z=>fN z y) <xs.length:=List.findIdx_lt_length.mpr (List.any_eq_true.mp qY);have hn:=mr;refine call_meets PySem.F.slot_list_index ⟨_,ho,rfl⟩ PySem.F.entry_list_index (PySem.F.args_list_index_2 _ _)
  (PySem.SeqAt.list_indexAt l aj.toArray n dd sl u (d6 y) (xs.findIdx fun z=>fN z y) (by simp;lia) (by lia) ?_ ?_) ⟨ho,fun z Py=>oE ru fy r fs z (by simpa using Py),⟨.int _,H,I.tok _,⟨_,rfl⟩,q⟩⟩
 ·show d6 y aj[xs.findIdx fun z=>fN z y]=true;rw[e _ (by lia) hj]
  exact List.findIdx_getElem (w:=hj)
 ·intro j Pz aI;show d6 y aj[j]=false;rw[e j (by simpa using Pz) (by lia)]
  simpa using List.not_of_lt_findIdx aI
theorem PB(m:iL):∃id,Pp X m id:=by
 cases m with
 |append=>exact⟨_,F.plainAttrs_list,F.slot_list_append,F.type_list_append,fun pins s σ H x xs v us Q I rx rv h=>by
   cases x<;>(try exact False.elim h) <;>rcases xs with _|⟨y0,_|⟨_,_⟩⟩ <;>(try exact False.elim h)
   obtain⟨zs,h1,h2,h3⟩:=h;exact L7 pins s σ H _ _ v us Q I rx rv ⟨_,zs,_,rfl,rfl,h1,h2,h3⟩⟩
 |pop=>exact⟨_,F.plainAttrs_list,F.slot_list_pop,F.type_list_pop,fun pins s σ H x xs v us Q I rx rv h=>by
   cases x<;>(try exact False.elim h) <;>rcases xs with _|⟨_,_⟩ <;>(try exact False.elim h)
   obtain⟨zs,y,h1,h2,h3⟩:=h;exact Ma pins s σ H _ _ v us Q I rx rv ⟨_,zs,y,rfl,rfl,h1,h2,h3⟩⟩
 |extend=>exact⟨_,F.plainAttrs_list,F.slot_list_extend,F.type_list_extend,fun pins s σ H x xs v us Q I rx rv h=>by
   cases x<;>(try exact False.elim h) <;>rcases xs with _|⟨y0,_|⟨_,_⟩⟩ <;>(try exact False.elim h) <;>cases y0<;>(try exact False.elim h)
   obtain⟨ys,zs,h1,h2,h3,h4⟩:=h;exact L9 pins s σ H _ _ v us Q I rx rv ⟨_,_,ys,zs,rfl,rfl,h1,h2,h3,h4⟩⟩
 |join=>exact⟨_,F.plainAttrs_str,F.slot_str_join,F.type_str_join,fun pins s σ H x xs v us Q I rx rv h=>by
   cases x<;>(try exact False.elim h) <;>rcases xs with _|⟨y0,_|⟨_,_⟩⟩ <;>(try exact False.elim h) <;>cases y0<;>(try exact False.elim h)
   obtain⟨ts,h1,h2,h3⟩:=h;exact NB pins s σ H _ _ v us Q I rx rv ⟨_,_,ts,rfl,rfl,h1,h2,h3⟩⟩
 |lstrip=>exact⟨_,F.plainAttrs_str,F.slot_str_lstrip,F.type_str_lstrip,fun pins s σ H x xs v us Q I rx rv h=>by
   cases x<;>(try exact False.elim h) <;>rcases xs with _|⟨y0,_|⟨_,_⟩⟩ <;>(try exact False.elim h) <;>cases y0<;>(try exact False.elim h)
   obtain⟨h1,h2⟩:=h;exact ND pins s σ H _ _ v us Q I rx rv ⟨_,_,rfl,rfl,h1,h2⟩⟩
 |starts=>exact⟨_,F.plainAttrs_str,F.slot_str_startswith,F.type_str_startswith,fun _ _ _ _ x xs _ _ _ _ _ _ h=>by cases x<;>rcases xs with _|⟨y0,_|⟨y1,_⟩⟩ <;>first|exact False.elim h| (cases y0<;>exact False.elim h)⟩
 |find=>exact⟨_,F.plainAttrs_str,F.slot_str_find,F.type_str_find,fun _ _ _ _ x xs _ _ _ _ _ _ h=>by cases x<;>rcases xs with _|⟨y0,_|⟨y1,_⟩⟩ <;>first|exact False.elim h| (cases y0<;>exact False.elim h)⟩
 |count=>exact⟨_,F.plainAttrs_str,F.slot_str_count,F.type_str_count,fun _ _ _ _ x xs _ _ _ _ _ _ h=>by cases x<;>rcases xs with _|⟨y0,_|⟨y1,_⟩⟩ <;>first|exact False.elim h| (cases y0<;>exact False.elim h)⟩
 |reverse=>exact⟨_,F.plainAttrs_list,F.slot_list_reverse,F.type_list_reverse,fun _ _ _ _ x xs _ _ _ _ _ _ h=>by cases x<;>rcases xs with _|⟨y0,_|⟨y1,_⟩⟩ <;>first|exact False.elim h| (cases y0<;>exact False.elim h)⟩
 |index=>exact⟨_,F.plainAttrs_list,F.slot_list_index,F.type_list_index,fun _ _ _ _ x xs _ _ _ _ _ _ h=>by cases x<;>rcases xs with _|⟨y0,_|⟨y1,_⟩⟩ <;>first|exact False.elim h| (cases y0<;>exact False.elim h)⟩
 |C4=>exact⟨_,F.plainAttrs_list,F.slot_list_count,F.type_list_count,fun _ _ _ _ x xs _ _ _ _ _ _ h=>by cases x<;>rcases xs with _|⟨y0,_|⟨y1,_⟩⟩ <;>first|exact False.elim h| (cases y0<;>exact False.elim h)⟩
 |xH=>exact⟨_,F.plainAttrs_list,F.slot_list_index,F.type_list_index,fun pins s σ H x xs v us Q I rx rv h=>by
   cases x<;>(try exact False.elim h) <;>rcases xs with _|⟨y0,_|⟨_,_⟩⟩ <;>(try exact False.elim h)
   obtain⟨zs,h1,h2,h3,h4,h5⟩:=h;exact Px pins s σ H _ _ v us Q I rx rv ⟨_,_,zs,rfl,rfl,h1,h2,h3,h4,h5⟩⟩
 |clear=>exact⟨_,F.plainAttrs_list,F.slot_list_clear,F.type_list_clear,fun pins s σ H x xs v us Q I rx rv h=>by
   cases x<;>(try exact False.elim h) <;>rcases xs with _|⟨_,_⟩ <;>(try exact False.elim h)
   obtain⟨zs,h1,h2⟩:=h;exact Md pins s σ H _ _ v us Q I rx rv ⟨_,zs,rfl,rfl,h1,h2⟩⟩
theorem PD{pins:List (Addr×Obj)}{σ:St}{H:Hp}{s:Shared}{T:Ty}{x:V}{u:Value}{Qb:Bool->Prop}{Q:Value->Shared->Prop}{E:Value->Shared->Prop}(I:Inv X pins σ H s)(rx:RelV x u)(h:br T x H Qb)
  (hq:∀b tk,Qb b->Q (.bool b) {s with toks:=tk}):wpAny (model X.prog X.w) X.A (call (.builtin "isinstance") [u,.type T.nm]) Q E s:=by
 match x,rx,h with
 |.aD,rx,h=>exact jO I rx (.aD) (Nz _ T) fun tk=>hq _ _ h
 |.bl b,rx,h=>exact jO I rx (.bl b) (k8 X.K .bool T) fun tk=>hq _ _ (by cases T<;>exact h)
 |.int i,rx,h=>exact jO I rx (.int i) (k8 X.K .int T) fun tk=>hq _ _ (by cases T<;>exact h)
 |.str i,rx,h=>exact jO I rx (.str i) (k8 X.K .str T) fun tk=>hq _ _ (by cases T<;>exact h)
 |.ref a,rx,h=>
  cases e:H a with
  |none=>simp only[br,e] at h
  |some o=>
   match o,e with
   |.lst xs,e=>simp only[br,e] at h;exact jO I rx (.lst e) (k8 X.K .list T) fun tk=>hq _ _ (by cases T<;>exact h)
   |.aY ob (.lst xs),e=>simp only[br,e] at h;exact jO I rx (.aY e) (k8 X.K .list T) fun tk=>hq _ _ (by cases T<;>exact h)
   |.tup xs,e=>simp only[br,e] at h;exact jO I rx (.tup e) (k8 X.K .tuple T) fun tk=>hq _ _ (by cases T<;>exact h)
   |.dK xs,e=>simp only[br,e] at h;exact jO I rx (.dK e) (k8 X.K .dict T) fun tk=>hq _ _ (by cases T<;>exact h)
   |.dT xs,e=>simp only[br,e] at h;exact jO I rx (.dT e) (k8 X.K .dict T) fun tk=>hq _ _ (by cases T<;>exact h)
   |.set _ _,e=>simp only[br,e] at h
   |.ins _ _ _,e=>simp only[br,e] at h
   |.own _,e=>simp only[br,e] at h
   |.xd _,e=>simp only[br,e] at h
   |.met _ _,e=>simp only[br,e] at h
   |.eS _ _,e=>simp only[br,e] at h
   |.i_ _,e=>simp only[br,e] at h
   |.ext _,e=>simp only[br,e] at h
   |.aY ob (.tup xs),e=>simp only[br,e] at h
   |.aY ob (.dK xs),e=>simp only[br,e] at h
   |.aY ob (.dT xs),e=>simp only[br,e] at h
   |.aY ob (.set _ _),e=>simp only[br,e] at h
   |.aY ob (.ins _ _ _),e=>simp only[br,e] at h
   |.aY ob (.own _),e=>simp only[br,e] at h
   |.aY ob (.xd _),e=>simp only[br,e] at h
   |.aY ob (.met _ _),e=>simp only[br,e] at h
   |.aY ob (.eS _ _),e=>simp only[br,e] at h
   |.aY ob (.i_ _),e=>simp only[br,e] at h
   |.aY ob (.ext _),e=>simp only[br,e] at h
   |.aY ob (.aY _ _),e=>simp only[br,e] at h
theorem PF(T:Ty):bootBuiltins (Str.ofString T.nm)=some (.type T.nm):=by cases T<;>decide+kernel
theorem PH(T:Ty):bQ X (.builtin "isinstance") (jj T):=by
 intro pins s σ H xs us Q I r h
 match xs,r,h with
 |[x,.ty n],r,⟨e,h⟩=>
  subst e;obtain⟨u,w',rfl,ru,e7⟩:=vals2 r;cases e7;exact PD I ru h fun b tk hb=>⟨.bl b,H,I.tok tk,rfl,hb⟩
theorem PJ{T:Ty}{a:Expr}{ta:TE}{p q pos:Pos}(ha:PE X a ta)(hs:noStar a=true)(hg:Gl X "isinstance")(hm:X.mg "isinstance"=none)(PK:Gl X (Str.ofString T.nm))(PL:X.mg (Str.ofString T.nm)=none):
  PE X (.Call (.Name "isinstance" p) [a,.Name (Str.ofString T.nm) q] [] pos) (dg (jj T)<|cA ta<|cA (tC<|.ty T.nm) fK):=by
 have hT:PE X (.Name (Str.ofString T.nm) q) (tC<|.ty T.nm):=Bc PK PL (PF T) rfl (by cases T<;>decide) (by cases T<;>decide)
 exact kW (PH T) hg hm Dz (my ha (my hT qp rfl)<|cY hs) (by decide) (by decide) (cY hs) rfl
end
section
variable {X:Cx}
theorem PM:t_ X (oP X.K):=by
 intro pins s σ H x v vl vu lo hi sl Q I rx hs pl pu h
 match x,rx,h with
 |.ref a,rx,.inl ⟨xs,h1,h2⟩=>exact LL pins s σ H _ v vl vu lo hi sl Q I rx hs pl pu ⟨a,xs,rfl,h1,h2⟩
 |.ref a,rx,.inr ⟨xs,h1,h2,h3⟩=>exact Lz pins s σ H _ v vl vu lo hi sl Q I rx hs pl pu ⟨a,xs,rfl,h1,h2,h3⟩
 |.str z,rx,⟨h1,h2⟩=>
  obtain⟨t,rfl⟩:=rx;obtain⟨l,el,ml⟩:∃l:Option (Int×Tok),vl=partValue l/\l.map (·.1)=lo:=by
   cases pl with
   |none=>exact⟨none,rfl,rfl⟩
   |int i t=>exact⟨some (i,t),rfl,rfl⟩
  obtain⟨u,eu,mu⟩:∃u:Option (Int×Tok),vu=partValue u/\u.map (·.1)=hi:=by
   cases pu with
   |none=>exact⟨none,rfl,rfl⟩
   |int i t=>exact⟨some (i,t),rfl,rfl⟩
  subst el eu;refine⟨"str",_,F.slot_str_getitem.lookup,typeIs_str _ _ _,?_⟩;refine wpAny_getItem_str_slice (l:=l) (u:=u) (st:=none) hs rfl ?_;obtain⟨b1,b2,b3⟩:=w6 lo hi z.length;have hp:slicePicked z l u none=(List.range<|HT.aR z.length z.length hi - HT.aR z.length 0 lo).map (HT.aR z.length 0 lo+ ·):=by
   show Builtin.Str.strSliceIndices (l.map (·.1)) (u.map (·.1)) 1 z.length=_;rw[ml,mu];have e0:Builtin.Str.strSliceIndices lo hi 1 z.length=sliceRange (sliceBounds lo hi none z.length).1 (sliceBounds lo hi none z.length).2.1 (sliceBounds lo hi none z.length).2.2:=rfl;rw[e0,b1,b2,b3,sliceRange_one]
  have hc:((slicePicked z l u none).filterMap (z.cps[·]?))=k9 z.cps.toList lo hi:=by
   show(Builtin.Str.strSliceIndices (l.map (·.1)) (u.map (·.1)) 1 z.length).filterMap (z.cps[·]?)=_;rw[ml,mu,NF]
  have hz:z.cps.toList.length=z.length:=by simp[Str.length]
  have hA:=HT.wX z.length 0 (zqZ _) lo;have hB:=HT.wX z.length z.length (zqR _) hi;unfold sliceMade;refine post_val_or_made (fun _=>?_) fun t' k=>?_
  ·show(List.toArray ((slicePicked z l u none).filterMap (z.cps[·]?))).size<=sizeLine;rw[hc,zaf];have:(k9 z.cps.toList lo hi).length<=z.cps.toList.length:=by unfold k9;simp only[zas,zaS];lia
   lia
  ·have e:(if (((none:Option (Int×Tok)).map (·.1)).getD 1==1 && (slicePicked z l u none).length==z.length)=true then z else ⟨((slicePicked z l u none).filterMap (z.cps[·]?)).toArray⟩)=qM z lo hi:=by
    split
    ·rename_i hq
     simp only[zac,beq_iff_eq] at hq
     have PN:=hq.2;rw[hp,zaa,List.length_range] at PN;have a0:HT.aR z.length 0 lo=0:=by lia
     have b0:HT.aR z.length z.length hi=z.length:=by lia
     unfold qM k9;rw[hz,a0,b0,<-hz,Nat.sub_zero,List.drop_zero,zaJ]
    ·rw[hc];rfl
   rw[e];exact⟨.str _,H,I.tok k,⟨t',rfl⟩,h2⟩
theorem PQ:tU X (unaryOp .USub) xQ:=by
 intro pins s σ H x v Q I rx h
 match x,rx,h with
 |.int i,rx,h=>exact Kt pins s σ H _ v Q I rx ⟨i,rfl,h⟩
theorem PR{a:Expr}{ta:TE}{pos:Pos}(ha:PE X a ta):PE X (.UnaryOp .Not a pos) (xO X.K ta):=by
 intro pins s σ H Q I h;refine UnaryOp_<|aF (ha pins s σ H _ I h) fun v s1 ⟨x,H1,I1,r1,q1⟩=>not_of ?_;exact aF (BI pins s1 σ H1 x v (fun b H2=>Q (.bl<|!b) H2) I1 r1<|C9 q1) fun b s2 ⟨H2,I2,q2⟩=>⟨.bl<|!b,H2,I2,rfl,q2⟩
theorem q8{a:Expr}{ta:TE}(ha:PE X a ta)(he:∀whole,isTrue a X.env whole=(do let v <-whole;standAt a.pos;holding [v] (truthy v))):PT X a (eF X.K ta):=by
 intro pins s σ H Q I h;exact isTrue_plain (aF (ha pins s σ H _ I h) fun v s1 ⟨x,H1,I1,r1,q1⟩=>BI pins s1 σ H1 x v Q I1 r1 (C9 q1))<|he _
theorem PU{m:iL}{o e:Expr}{es:List Expr}{to:TE}{t:TA}{apos d9:Pos}(ho:PE X o to)(ha:PA X (e::es) t)(hb:mP o=true)(hl:(apos.endLine==d9.line)=true)(hn:(e::es).length<29)
  (hs:starEach (e::es) X.env=(false,eval e X.env)::starEach es X.env) (h1:(backTo d9<|starEach es X.env).any (·.1)=false) (h2:(backTo d9<|starEach (e::es) X.env).all (fun x=> !x.1)=true):
  PE X (.Call (.Attribute o m.nm apos) (e::es) [] d9) (uD X.K m to t):=by
 obtain⟨id,M⟩:=PB (X:=X) m;exact LS M.pa M.slot M.ty M.mt ho ha (mF hb) (by
  rw[h2];show(true && true && decide ((e::es).length+0+0<30))=true;rw[zqT (by lia)];rfl) hl hs h1
end
section
variable {X:Cx}{CX:bE}
theorem DF{o:Expr}{m:Str}{apos pos:Pos}{args:List Expr}{Q:Value->Shared->Prop}{E:Value->Shared->Prop}{A:Around}{s:Shared}{env:Env}{prog:Program}{w:World}
  (hb:mP o=true) (hl:(apos.endLine==pos.line)=true) (hn:args.length<29) (hf:(backTo pos<|starEach args env).all (fun x=> !x.1)=true)
  (h:wpAny (model prog w) A (eval o env) (fun ov s1=>∀pl,wpAny (model prog w) A (getMethod ov m pl) (fun fx s2=>wpAny (model prog w) A (callWith pos fx.1 fx.2 (backTo pos<|starEach args env)<|backToKw pos<|keywordEach [] env) Q E s2) E s1) E s):
  wpAny (model prog w) A (eval (.Call (.Attribute o m apos) args [] pos) env) Q E s:=by
 have PV:methodCallForm (args.length+0) (backTo pos<|starEach args env) (backToKw pos<|keywordEach [] env)=true:=by
  show((backTo pos<|starEach args env).all (fun x=> !x.1) && true && decide (args.length+0+0<30))=true;rw[hf,zqT (by lia)];rfl
 have line:methodCallPos true o env apos pos=pure pos:=by unfold methodCallPos;simp[hl]
 rw[arm_eval_Call,mF hb];refine wpAny_bind<|wpAny_mono h (fun ov s1 h1=>wpAny_bind<|wpAny_standAt ?_) fun _ _ e=>e;unfold methodCall;rw[show([]:List Keyword).length=0 from rfl,PV]
 refine wpAny_bind<|wpAny_holding<|wpAny_mono (h1 _) (fun fx s2 h2=>?_) fun _ _ e=>e;exact wpAny_bind<|wpAny_of_eq line h2
theorem PX{o e:Expr}{es:List Expr}{to:TE}{t:TA}{apos pos:Pos}{C:Addr}{m:Str}{sp:Sp}{E:XK}(M:uO CX X C m sp)(hx:Passes CX X E)(ho:PE X o to)(ha:PA X (e::es) t)(hb:mP o=true)(hl:(apos.endLine==pos.line)=true)(hn:(e::es).length<29)
  (hs:starEach (e::es) X.env=(false,eval e X.env)::starEach es X.env) (h1:(backTo pos<|starEach es X.env).any (·.1)=false) (h2:(backTo pos<|starEach (e::es) X.env).all (fun x=> !x.1)=true):
  PE X (.Call (.Attribute o m apos) (e::es) [] pos) (mz C m sp [] E to t):=by
 obtain⟨c,k,f,fd,ps,hm,F,hr,q9⟩:=M;intro pins s σ H Q I h;refine DF hb hl hn h2<|aF (ho pins s σ H _ I h) fun u s1 ⟨x,H1,I1,rx,a,dx,fs,ex,ea,l,q⟩=>fun pl=>?_;subst ex;obtain rfl:u=Value.ref a:=rx;refine BM I1 ea c hm l ?_;refine callWith_K (first:=[.ref a]) (h₀:=X.base) I.ok.mod.me hm.kp (aF (ha pos pins s1 σ H1 _ I1 q) fun us s2 ⟨vs,H2,I2,r,q2⟩=>⟨I2.cj,?_⟩) hs h1
 exact wU (us:=.ref a::us) (vs:=.ref a::vs) F hr q9 .nil hx I2 (.cons rfl r) q2
theorem PY{o:Expr}{to:TE}{apos pos:Pos}{C:Addr}{m:Str}{sp:Sp}{E:XK}(M:uO CX X C m sp)(hx:Passes CX X E)(ho:PE X o to)(hb:mP o=true)(hl:(apos.endLine==pos.line)=true):
  PE X (.Call (.Attribute o m apos) [] [] pos) (mz C m sp [] E to fK):=by
 obtain⟨c,k,f,fd,ps,hm,F,hr,q9⟩:=M;intro pins s σ H Q I h;refine DF hb hl (by decide) rfl<|aF (ho pins s σ H _ I h) fun u s1 ⟨x,H1,I1,rx,a,dx,fs,ex,ea,l,q⟩=>fun pl=>?_
 subst ex;obtain rfl:u=Value.ref a:=rx;refine BM I1 ea c hm l ?_;exact PySem.W.callWith_K0 (first:=[.ref a]) I1.cj hm.kp<|wU (us:=[.ref a]) (vs:=[.ref a]) F hr q9 .nil hx I1 (.cons rfl .nil) q
end
section
variable {prog:Program}{w:World}{A:Around}{E:Value->Shared->Prop}{s:Shared}
theorem DG{it l:Addr}{items:Array Value}(gp:l≠it):∀(n i:Nat) (s:Shared) (Q:List Value->Shared->Prop),s.heap.IsListIter it l i->s.heap.IsList l items->i+n<=items.size->
  (∀h',h'.IsListIter it l (i+n)->Heap.SameBut it s.heap h'->Q ((items.toList.drop i).take n) {s with heap:=h'})->wpAny (model prog w) A (draw (.ref it) n) Q E s
 | 0,i,s,Q,hit,_,_,hQ=>by
  show wpAny _ _ (pure []) Q E s;exact wpAny_pure (by simpa using hQ s.heap hit (Heap.SameBut.refl ..))
 |n+1,i,s,Q,hit,ht,hle,hQ=>by
  have aI:i<items.size:=by lia
  show wpAny _ _ (pyNext (.ref it) >>=_) Q E s;refine wpAny_bind<|wpAny_pyNext_list_item hit ht (x:=items[i]) (by simp[aI]) fun h₁ qT j2=>?_
  refine wpAny_bind<|wpAny_holding<|DG gp n (i+1) _ _ qT (ht.extBut j2.extBut gp) (by lia) fun h₂ PZ P4=>wpAny_pure ?_
  have hd:items.toList.drop i=items[i]::items.toList.drop (i+1):=by simp[zbK,aI]
  have:=hQ h₂ (by rw[show i+(n+1)=i+1+n by lia];exact PZ) (j2.trans P4)
  rw[hd,List.take_succ_cons] at this;exact this
theorem P5{t:Addr}{items:Array Value}{Q:List Value->Shared->Prop}(hh:A.handled=none)(ht:s.heap.IsList t items)
  (hQ:∀h',Heap.ExtBut s.heap.objs.size s.heap h'->Q items.toList {s with heap:=h'}):wpAny (model prog w) A (unpackItems (.ref t) items.size none) Q E s:=by
 have aI:t≠s.heap.objs.size:=by obtain⟨o,ho,_⟩:=ht;exact zab (Heap.lt_size ho)
 unfold unpackItems;refine wpAny_bind ?_
 ·unfold notIterableAtAll;refine wpAny_bind<|wpAny_specialOf ht.typeIs slot_list_iter.lookup ?_;refine wpAny_pure ?_
  simp only[zaN,if_false]
  refine wpAny_bind<|wpAny_holding<|wpAny_pyIter_list ht ?_;refine wpAny_bind<|wpAny_holding<|DG aI items.size 0 _ _ ⟨_,Heap.get?_push_size _ rfl,rfl,rfl⟩ (ht.push _) (by lia) fun h₁ qT j2=>?_
  have mD:List.take items.size (List.drop 0 items.toList)=items.toList:=by
   rw[List.drop_zero];exact zbo (by simp)
  rw[mD];rw[if_neg (by simp)]
  have xY:h₁.IsList t items:=(ht.push _).extBut j2.extBut aI;refine wpAny_bind<|wpAny_holding<|wpAny_pyNext_list_end hh qT xY (by simp) fun h₂ xZ=>?_
  simp only[Option.isSome_none,zaN,if_false]
  refine wpAny_pure<|hQ h₂ fun b o hb e=>xZ b o hb (j2.extBut b o hb<|Heap.get?_push_of_some _ e)
theorem P6{env:Env}{elts:List Expr}{x1}{pos:Pos}{t:Addr}{items:Array Value}{Q:Unit->Shared->Prop}(hh:A.handled=none)(ht:s.heap.IsList t items)
  (hn:(assignEach elts env).length=items.size) (x_:(assignEach elts env).findIdx? (·.1)=none)
  (h:∀h',Heap.ExtBut s.heap.objs.size s.heap h'->wpAny (model prog w) A (assignInOrder ((assignEach elts env).map (·.2)) items.toList) Q E {s with heap:=h'}):
  wpAny (model prog w) A (assign (.Tuple elts x1 pos) env<|.ref t) Q E s:=by
 rw[assign_Tuple];refine wpAny_bind<|wpAny_standAt ?_;unfold unpack;rw[hn,x_];exact wpAny_bind<|wpAny_holding<|P5 hh ht h
end
def mZ(K:Frag)(n:Nat)(t:iB):TG:=fun v σ H Q=>∃a xs,v=.ref a/\(aO K H a xs\/aw K H a xs)/\xs.length=n/\t xs σ H Q
theorem DH{X:Cx}{es:List Expr}{k:Nat}{t:iB}{n:Nat}{pos:Pos}(hc:X.calm=true)(h:mi X es t)
  (hn:(assignEach es X.env).length=n) (iC:(assignEach es X.env).findIdx? (·.1)=none):PG X (.Tuple es k pos) (mZ X.K n t):=by
 intro pins s σ H v u Q I r hw;obtain⟨a,xs,e1,hq,hl,hw⟩:=hw;rcases hq with hq|hq
 ·exact Bs hc h hn iC pins s σ H v u Q I r ⟨a,xs,e1,hq,hl,hw⟩
 ·subst e1;cases r;obtain⟨aj,rv,ht,hz⟩:=I.list hq;refine P6 (I.ok.hd hc) ht.isList (by simp[hn,<-hl,rv.length]) iC fun h' hx=>?_
  have I1:Inv X pins σ H {s with heap:=h'}:=I.kept (t':=s.toks) fun b o e=>hx b o (zab<|Heap.lt_size e) e
  exact h pins _ σ H xs _ Q I1 (by simpa using rv) hw
def lE:List Nat->iB
 |[]=>tM
 |i::r=>oA (df i) (lE r)
def P7(to:TE)(tl th:TO):TG:=fun v σ H Q=>to σ H fun o H1=>tl σ H1 fun i H2=>th σ H2 fun j H3=>∃l b xs ys a c,o=.ref l/\v=.ref b/\i=some a/\j=some c/\H3 l=some (.lst xs)/\H3 b=some (.lst ys)/\l≠b/\
 0<=a/\a<=c/\c<=xs.length/\xs.length+ys.length<=sizeLine/\Q σ (upd H3 l<|.lst<|xs.take a.toNat++ys++xs.drop c.toNat)
mutual
def aV(Γ:aN):RS->TS
 |.asg i e=>g7 (ag Γ e) (df i)
 |.jY i e=>g7 (ag Γ e) (df i)
 |.set o ix e=>g7 (ag Γ e) (Bt (ag Γ o) (ag Γ ix) w5)
 |.dput o i e=>Co (ag Γ o) (ag Γ i) (ag Γ e)
 |.drop e=>Bo (ag Γ e)
 |.ret e=>Bp (ag Γ e)
 |.NP=>J6
 |.ite c t e=>Bq (aU Γ c) (aC Γ t) (aC Γ e)
 |.fO i k aj body=>tR (hX Γ k aj) (df i) (aC Γ body)
 |.oO is k aj body=>tR (hX Γ k aj) (mZ Γ.K is.length<|lE is) (aC Γ body)
 |.xI c body=>Bv (aU Γ c) (aC Γ body)
 |.pass=>wB
 |.brk=>J0
 |.cont=>J3
 |.never=>J8
 |.NQ o lo hi e=>g7 (ag Γ e) (P7 (ag Γ o) (t9<|ag Γ lo)<|t9<|ag Γ hi)
 |.gH o f e=>wN Γ.K (ag Γ o) (ag Γ e) f
 |.uB is e=>g7 (ag Γ e) (mZ Γ.K is.length<|lE is)
 |.hV j as=>xF (Γ.ex j) Γ.E (aL Γ as)
 |.xJ n i j body su=>fun D σ H=>∃C,Γ.gv j=.ref C/\uz Γ.K C i n (fun E=>aC {Γ with E:=E} body) (fun ea=>aC {Γ with E:=E0,hv:=some ea} su) D σ H
 |.NR k i j f as su=>fun D σ H=>∃C,Γ.gv j=.ref C/\NI Γ.K C i k (Γ.fs f) (aL {Γ with E:=E0} as) (fun ea=>aC {Γ with E:=E0,hv:=some ea} su) D σ H
 |.xs T=>T Γ
def aC(Γ:aN):List RS->TS
 |[]=>wB
 |s::r=>Bm (aV Γ s) (aC Γ r)
end
def q_:Expr->Bool
 |.Slice ..=>false|_=>true
def rf:Expr->Bool
 |.ListComp ..=>false|.SetComp ..=>false|.DictComp ..=>false|_=>true
def uS(sc:Scope)(x:Str)(line:Nat)(s:Scope)(p:Pos):Bool:=
 decide (sc.kind=.function) && decide (sc.names.lookup x=some .local) && (line==p.line) && !(s.names.any fun(n,k)=>n==x && (k==.local ||k==.cell))
def m6(N:List Str)(sc:Scope):List Nat->List Str->Bool
 |[],xs=>xs.isEmpty
 |i::r,xs=>match xs with
  |[]=>false
  |x::t=>decide (N[i]?=some x) && loc sc x && m6 N sc r t
structure cz (CX:bE) (S:bS) (Γ:aN) (X:Cx):Prop extends Good CX S Γ X where
 nd:S.N.Nodup
 jn:∀x,X.fn x=true
 own:PassesOwn (model X.prog X.w) X.A X.env X.xe
 lF:X.env.scope.kind=.function
 rs:∀(j:Nat) (x:Str),S.en[j]?=some x->Raises X Γ.E
 gZ:X.stack=X.env::X.outer
 fz:X.env.frame=some X.env.locals
 m7:X.ex=[]
 m_:CX=dW X.prog X.w
def qV(S:bS)(i:Nat)(x:Str):Bool:=decide (S.N[i]?=some x) && xT S.sc x && !(x==("__debug__":Str)) && !(x==("__classdict__":Str))
def kG(S:bS)(j:Nat)(x:Str):Bool:=decide (S.gn[j]?=some x) && jZ S.sc x && !(x==("__debug__":Str))
def kF(S:bS)(j:Nat)(x:Str):Bool:=decide (S.fn[j]?=some x) && jZ S.sc x && !(x==("__debug__":Str))
def kK(S:bS)(j:Nat)(x:Str):Bool:=decide (S.kn[j]?=some x) && jZ S.sc x && !(x==("__debug__":Str))
def kB(S:bS)(x y:Str):Bool:=decide (x=y) && jZ S.sc x && S.bl.contains x
def kM(o:Expr)(m:Str)(x:Str)(n:Nat)(a c:Pos):Bool:=decide (x=m) && mP o && (a.endLine==c.line) && decide (n<29)
def kL(S:bS)(i:Nat)(x:Str):Bool:=decide (S.N[i]?=some x) && loc S.sc x
section
variable {CX:bE}{S:bS}{Γ:aN}{X:Cx}{e e2 a b c d:Expr}{es:List Expr}{x:Str}{p q pos:Pos}{r ra rb rc:RE}{rs:List RE}{i j:Nat}
theorem aa(G:Good CX S Γ X)(h:qV S i x=true:=by kernel_rfl):PE X (.Name x p) (ag Γ<|.v i):=by
 simp only[qV,zac,decide_eq_true_eq,zaG] at h
 exact JO (by rw[G.N];exact h.1.1.1) (by rw[G.sc];exact N5 h.1.1.2) h.1.2 h.2
theorem ao{v:Int}{k:Nat}:PE X (.Constant (.int v) k p) (ag Γ<|.c<|.int v):=JP
theorem aG{v:Str}{k:Nat}:PE X (.Constant (.str v) k p) (ag Γ<|.c<|.str v):=JS
theorem e9{v:Bool}{k:Nat}:PE X (.Constant (.bool v) k p) (ag Γ<|.c<|.bl v):=JQ
theorem oY{k:Nat}:PE X (.Constant .none k p) (ag Γ<|.c .aD):=JR
theorem fA(G:Good CX S Γ X)(h:kG S j x=true:=by kernel_rfl):PE X (.Name x p) (ag Γ<|.g j):=by
 simp only[kG,zac,decide_eq_true_eq,zaG] at h
 obtain⟨u,hm,r⟩:=G.jl j x h.1.1;exact Bb (G.gl h.1.2) hm r h.2
theorem aE{op:Operator}(G:Good CX S Γ X)(ha:PE X a (ag Γ ra))(hb:PE X b (ag Γ rb)):PE X (.BinOp a op b p) (ag Γ<|.bin op ra rb):=by
 show PE X _ (d5 (iK Γ.K op) (ag Γ ra)<|ag Γ rb);rw[<-G.K];exact Kk (Nl op) ha hb
theorem jo(ha:PE X a (ag Γ ra)):PE X (.UnaryOp .USub a p) (ag Γ<|.neg ra):=Kl PQ ha
theorem dB{op:CmpOp}(G:Good CX S Γ X)(ha:PE X a (ag Γ ra))(hb:PE X b (ag Γ rb))(hm:behindInMarks op b=false:=by kernel_rfl):PE X (.Compare a [op] [b] p) (ag Γ<|.cmp op ra rb):=by
 show PE X _ (d5 (b8 Γ.K op) (ag Γ ra)<|ag Γ rb);rw[<-G.K];exact KJ (oK G.units op) ha hb hm
theorem P8{op bT:CmpOp}(G:Good CX S Γ X)(ha:PE X a (ag Γ ra))(hb:PE X b (ag Γ rb))(hc:PE X c (ag Γ rc))(hm:lastMarks [op,bT] [b,c]=false:=by kernel_rfl):PE X (.Compare a [op,bT] [b,c] p) (ag Γ<|.iM op bT ra rb rc):=by
 show PE X _ (oC (b8 Γ.K op) (b8 Γ.K bT) (ag Γ ra) (ag Γ rb)<|ag Γ rc);rw[<-G.K];exact KN (oK G.units op) (oK G.units bT) ha hb hc hm
theorem gJ(h:PE X e (ag Γ r)):PE X (.BoolOp .And [e] p) (ag Γ<|.and [r]):=Bj h
theorem fU{r2:RE}(h:PE X e (ag Γ r))(t:PE X (.BoolOp .And (e2::es) p) (ag Γ<|.and (r2::rs))):PE X (.BoolOp .And (e::e2::es) p) (ag Γ<|.and (r::r2::rs)):=JV h t
theorem P9(h:PE X e (ag Γ r)):PE X (.BoolOp .Or [e] p) (ag Γ<|.or [r]):=Bj h
theorem P_{r2:RE}(h:PE X e (ag Γ r))(t:PE X (.BoolOp .Or (e2::es) p) (ag Γ<|.or (r2::rs))):PE X (.BoolOp .Or (e::e2::es) p) (ag Γ<|.or (r::r2::rs)):=JW h t
theorem yt(G:Good CX S Γ X)(ha:PE X a (ag Γ ra)):PE X (.UnaryOp .Not a p) (ag Γ<|.not ra):=by
 show PE X _ (xO Γ.K<|ag Γ ra);rw[<-G.K];exact PR ha
theorem DI(hc:PT X c (aU Γ rc))(ha:PE X a (ag Γ ra))(hb:PE X b (ag Γ rb)):PE X (.IfExp c a b p) (ag Γ<|.qP rc ra rb):=JX hc ha hb
theorem uT:PE X (.Dict [] [] p) (ag Γ .k_):=Pn
theorem ak:PA X [] (aL Γ []):=qp
theorem ae(h:PE X e (ag Γ r))(t:PA X es (aL Γ rs))(hs:noStar e=true:=by kernel_rfl):PA X (e::es) (aL Γ (r::rs)):=my h t (cY hs)
theorem aM(G:Good CX S Γ X)(hA:PA X (e::es) (aL Γ (r::rs)))(h:kF S j x=true:=by kernel_rfl)(hn:dG (e::es)=true:=by kernel_rfl)(hq:S.md=0:=by rfl):PE X (.Call (.Name x p) (e::es) [] pos) (ag Γ<|.call j (r::rs)):=by
 simp only[kF,zac,decide_eq_true_eq,zaG] at h
 obtain⟨k,f,fd,ps,F,hr,hm,hk,hb⟩:=G.fns hq j x h.1.1;exact Lh F hr (G.gl h.1.2) hm hk hb .nil G.pass hA h.2 (cY (b9 hn).1)<|fS _ _ es (b9 hn).2
theorem rg(G:Good CX S Γ X)(hA:PA X (e::es) (aL Γ (r::rs)))(h:kK S j x=true:=by kernel_rfl)(hn:dG (e::es)=true:=by kernel_rfl)(hq:S.md=0:=by rfl):PE X (.Call (.Name x p) (e::es) [] pos) (ag Γ<|.make j (r::rs)):=by
 simp only[kK,zac,decide_eq_true_eq,zaG] at h
 obtain⟨k,f,fd,ps,M,F,hr,hm,hb⟩:=G.lA hq j x h.1.1;exact Lj M F hr (G.gl h.1.2) hm hb .nil G.pass hA h.2 (cY (b9 hn).1)<|fS _ _ es (b9 hn).2
theorem cM{t:mM}(G:Good CX S Γ X)(hA:PA X (e::es) (aL Γ (r::rs)))(h:kB S x t.nm=true:=by kernel_rfl)(hn:dG (e::es)=true:=by kernel_rfl)(hq:S.md=0:=by rfl):PE X (.Call (.Name x p) (e::es) [] pos) (ag Γ<|.blt t (r::rs)):=by
 simp only[kB,zac,decide_eq_true_eq] at h
 obtain⟨⟨rfl,h2⟩,h3⟩:=h;have n1:t.nm≠"__name__":=by cases t<;>decide
 have n2:(t.nm==("__debug__":Str))=false:=by cases t<;>decide
 show PE X _ (dg (lg Γ.K t)<|aL Γ (r::rs));rw[<-G.K];cases Po (X:=X) (G.calm hq) t with
 |fn id hv hc=>exact kW hc (G.gl h2) (G.dF _ h3) hv hA n1 n2 (cY (b9 hn).1) (fS _ _ es (b9 hn).2)
 |ty T hv hc=>exact BX hc (G.gl h2) (G.dF _ h3) hv hA n1 n2 (cY (b9 hn).1) (fS _ _ es (b9 hn).2)
theorem jq{T:Ty}{y:Str}(G:Good CX S Γ X)(ha:PE X a (ag Γ ra))(h:kB S x "isinstance"=true:=by kernel_rfl)(h2:kB S y (Str.ofString T.nm)=true:=by kernel_rfl)(hs:noStar a=true:=by kernel_rfl):PE X (.Call (.Name x p) [a,.Name y q] [] pos) (ag Γ<|.d_ T ra):=by
 simp only[kB,zac,decide_eq_true_eq] at h h2
 obtain⟨⟨rfl,g2⟩,g3⟩:=h;obtain⟨⟨rfl,k2⟩,k3⟩:=h2;exact PJ ha hs (G.gl g2) (G.dF _ g3) (G.gl k2)<|G.dF _ k3
theorem fV(G:Good CX S Γ X)(ha:PE X a (ag Γ ra))(hb:PE X b (ag Γ rb))(h:kB S x "isinstance"=true:=by kernel_rfl)(hn:dG [a,b]=true:=by kernel_rfl):PE X (.Call (.Name x p) [a,b] [] pos) (ag Γ<|.cC ra rb):=by
 simp only[kB,zac,decide_eq_true_eq] at h
 obtain⟨⟨rfl,g2⟩,g3⟩:=h;show PE X _ (dg (jh Γ.K)<|cA (ag Γ ra)<|cA (ag Γ rb) fK);rw[<-G.K];exact kW O6 (G.gl g2) (G.dF _ g3) Dz (my ha (my hb qp<|cY (b9 (b9 hn).2).1)<|cY (b9 hn).1) (by decide) (by decide) (cY (b9 hn).1)<|fS _ _ _ (b9 hn).2
theorem Qa{n:String}(G:Good CX S Γ X)(hv:bootBuiltins (Str.ofString n)=some (.type n))(h1:Str.ofString n≠"__name__")(h2:(Str.ofString n==("__debug__":Str))=false)(h:kB S x (Str.ofString n)=true:=by kernel_rfl):PE X (.Name x p) (ag Γ<|.c<|.ty n):=by
 simp only[kB,zac,decide_eq_true_eq] at h
 obtain⟨⟨rfl,g2⟩,g3⟩:=h;exact Bc (G.gl g2) (G.dF _ g3) hv rfl h1 h2
def kH(S:bS)(j:Nat)(x:Str):Bool:=decide (S.hn[j]?=some x) && jZ S.sc x && !(x==("__debug__":Str))
theorem Qc(G:Good CX S Γ X)(ha:PE X a (ag Γ ra))(h:kH S j x=true:=by kernel_rfl)(hs:noStar a=true:=by kernel_rfl):PE X (.Call (.Name x p) [a] [] pos) (ag Γ<|.uA j ra):=by
 simp only[kH,zac,decide_eq_true_eq,zaG] at h
 obtain⟨k,f,fd,ps,F,hr,hm,hk,hb⟩:=G.j6 j x h.1.1;exact Pa F hr (G.gl h.1.2) hm hk hb G.lB ha hs h.2
theorem gK{m:iL}{o:Expr}{ro:RE}{ap:Pos}(G:Good CX S Γ X)(ho:PE X o (ag Γ ro))(hA:PA X (e::es) (aL Γ (r::rs)))(h:kM o m.nm x (es.length+1) ap pos=true:=by kernel_rfl)(hn:dG (e::es)=true:=by kernel_rfl):PE X (.Call (.Attribute o x ap) (e::es) [] pos) (ag Γ<|.dU m ro (r::rs)):=by
 simp only[kM,zac,decide_eq_true_eq] at h
 obtain⟨⟨⟨rfl,h2⟩,h3⟩,h4⟩:=h;show PE X _ (uD Γ.K m (ag Γ ro)<|aL Γ (r::rs));rw[<-G.K];exact PU ho hA h2 h3 h4 (cY (b9 hn).1) (fS _ _ es (b9 hn).2)<|uQ _ _ (e::es) hn
theorem cp{f:Str}{ro:RE}(G:Good CX S Γ X)(ho:PE X a (ag Γ ro))(h:mP a=true:=by kernel_rfl):PE X (.Attribute a f p) (ag Γ<|.fld ro f):=by
 show PE X _ (tY Γ.K (ag Γ ro) f);rw[<-G.K];exact La ho<|mF h
theorem j7{m:Str}{o:Expr}{ro:RE}{ap:Pos}(G:Good CX S Γ X)(ho:PE X o (ag Γ ro))(h:(kM o m m 0 ap pos && decide (S.mn[j]?=some m))=true:=by kernel_rfl)(hq:S.md=0:=by rfl):PE X (.Call (.Attribute o m ap) [] [] pos) (ag Γ<|.bo j m ro []):=by
 simp only[kM,zac,decide_eq_true_eq] at h
 obtain⟨⟨⟨⟨-,h2⟩,h3⟩, -⟩,h5⟩:=h;exact PY (G.j5 hq j _ h5) G.pass ho h2 h3
theorem cQ{m:Str}{o:Expr}{ro:RE}{ap:Pos}(G:Good CX S Γ X)(ho:PE X o (ag Γ ro))(hA:PA X (e::es) (aL Γ (r::rs)))(h:(kM o m m (es.length+1) ap pos && decide (S.mn[j]?=some m))=true:=by kernel_rfl)(hn:dG (e::es)=true:=by kernel_rfl)(hq:S.md=0:=by rfl):PE X (.Call (.Attribute o m ap) (e::es) [] pos) (ag Γ<|.bo j m ro (r::rs)):=by
 simp only[kM,zac,decide_eq_true_eq] at h
 obtain⟨⟨⟨⟨-,h2⟩,h3⟩,h4⟩,h5⟩:=h;exact PX (G.j5 hq j _ h5) G.pass ho hA h2 h3 h4 (cY (b9 hn).1) (fS _ _ es (b9 hn).2)<|uQ _ _ (e::es) hn
theorem Qd(h:q_ b=true):B7 b:=fun o i=>by cases b<;>first|rfl|cases h
theorem bf(G:Good CX S Γ X)(ha:PE X a (ag Γ ra))(hb:PE X b (ag Γ rb))(h:q_ b=true:=by kernel_rfl):PE X (.Subscript a b p) (ag Γ<|.ix ra rb):=by
 show PE X _ (d5 (lj Γ.K Γ.sd) (ag Γ ra)<|ag Γ rb);rw[<-G.K];exact LC (Pw G.j4) ha hb<|Qd h
theorem Qe(h:q_ b=true):xp b:=fun ov iv=>by cases b<;>first|rfl|cases h
theorem dj(G:Good CX S Γ X)(ha:PE X a (ag Γ ra))(hb:PE X b (ag Γ rb))(h:q_ b=true:=by kernel_rfl):PE X (.Subscript a b p) (ag Γ<|.bR ra rb):=
 MD (by have:=G.units;lia) ha hb (Qe h)
theorem DJ(G:Good CX S Γ X)(ha:PE X a (ag Γ ra))(hb:PE X b (ag Γ rb))(hm:behindInMarks .NotIn b=false:=by kernel_rfl):PT X (.Compare a [.NotIn] [b] p) (aU Γ<|.oN ra rb):=
 JT (ME (by have:=G.units;lia) ha hb) hm
theorem rj{lo hi:Option Expr}{rl rh:Option RE}(G:Good CX S Γ X)(ha:PE X a (ag Γ ra))(hl:PO X lo (lq Γ rl))(hh:PO X hi (lq Γ rh)):PE X (.Subscript a (.Slice lo hi none q) p) (ag Γ<|.sl ra rl rh):=by
 show PE X _ (wY (oP Γ.K) (ag Γ ra) (lq Γ rl)<|lq Γ rh);rw[<-G.K];exact Lx PM ha hl hh
theorem DK:PO X none (lq Γ none):=Lv
theorem lG(ha:PE X a (ag Γ ra)):PO X (some a) (lq Γ<|some ra):=Lw ha
theorem b_{k}(hA:PA X es (aL Γ rs)):PE X (.Tuple es k p) (ag Γ<|.tup rs):=Le hA
theorem bJ(hA:PA X es (aL Γ rs)):PE X (.List es p) (ag Γ<|.lst rs):=Lf hA
def rm(CX:bE)(S:bS)(Γ:aN)(cond:Option RE)(ifs:List Expr):Prop:=match cond with
 |none=>ifs=[]
 |some r=>∃e0,ifs=[e0]/\∀X,Good CX S Γ X->PT X e0 (aU Γ r)
theorem rn:rm CX S Γ none []:=rfl
theorem oZ(h:∀X,Good CX S Γ X->PT X e (aU Γ r)):rm CX S Γ (some r) [e]:=⟨e,rfl,h⟩
def kC(S:bS)(tk:Option Nat)(tg iter:Expr)(sc:Scope)(k:IK)(ln:List Str)(fv:List (Str×Nat)):Bool:=decide (xV tk tg=some ln) && (decide (k≠ .zip)||tk.isSome) && xW S ⟨.Constant .none 0 ⟨0,0,0,0⟩,tg,iter,[],sc⟩ ln fv
abbrev cS(S:bS)(sc:Scope)(ln:List Str)(fv:List (Str×Nat)):bS:={S with N:=ln++fv.map (·.1),sc:=xU sc S.sc,en:=[],md:=if S.md=0 then 0 else 2}
theorem nc{tk:Option Nat}{fv:List (Str×Nat)}{k:IK}{aj:List RE}{cond:Option RE}{elt:RE}{el tg iter:Expr}{ifs:List Expr}{sc:Scope}{ln:List Str}(G:Good CX S Γ X)(h:kC S tk tg iter sc k ln fv=true)(hi:PI X tg iter (hX Γ k aj))
  (hc:rm CX (cS S sc ln fv) Γ.calm cond ifs) (he:∀X,Good CX (cS S sc ln fv) Γ.calm X->PE X el (ag Γ.calm elt)) (hq:S.md=0:=by rfl):PE X (.ListComp el [⟨tg,iter,ifs,0⟩] sc p) (ag Γ<|.comp tk fv k aj cond elt):=by
 simp only[kC,zac,decide_eq_true_eq] at h
 obtain⟨⟨h1,h2⟩,h3⟩:=h;obtain⟨o1,o2,o3,o4⟩:=uR (c:=⟨.Constant .none 0 ⟨0,0,0,0⟩,tg,iter,[],sc⟩) G h3;show PE X _ (jf Γ.K (hX Γ k aj) tk fv (qQ Γ.calm cond)<|ag Γ.calm elt);rw[<-G.K];refine CW o1 (G.calm hq) hi (yp (c:=⟨.Constant .none 0 ⟨0,0,0,0⟩,tg,iter,[],sc⟩) (G.calm hq) h1 o2 o3) ?_ (fun ex C s H=>he _<|G.inner ⟨.Constant .none 0 ⟨0,0,0,0⟩,tg,iter,[],sc⟩ ln fv ex C s H)<|oX o4;cases cond with
 |none=>exact hc
 |some r=>
  obtain⟨e0,q,hq⟩:=hc;exact⟨e0,q,fun ex C s H=>hq _<|G.inner ⟨.Constant .none 0 ⟨0,0,0,0⟩,tg,iter,[],sc⟩ ln fv ex C s H⟩
theorem dJ(h:PT X a (aU Γ ra)):PT X (.UnaryOp .Not a p) (aU Γ<|.not ra):=JU h
theorem yu(h:PT X e (aU Γ r)):PW X (.BoolOp .And [e] p) (aU Γ<|.and [r]):=pw_and1 h
theorem yv{r2:RE}(h:PT X e (aU Γ r))(t:PW X (.BoolOp .And (e2::es) p) (aU Γ<|.and (r2::rs))):PW X (.BoolOp .And (e::e2::es) p) (aU Γ<|.and (r::r2::rs)):=pw_and h t
theorem j8(h:PT X e (aU Γ r)):PW X (.BoolOp .Or [e] p) (aU Γ<|.or [r]):=pw_or1 h
theorem gL{r2:RE}(h:PT X e (aU Γ r))(t:PW X (.BoolOp .Or (e2::es) p) (aU Γ<|.or (r2::rs))):PW X (.BoolOp .Or (e::e2::es) p) (aU Γ<|.or (r::r2::rs)):=pw_or h t
theorem ba{op:CmpOp}(G:Good CX S Γ X)(ha:PE X a (ag Γ ra))(hb:PE X b (ag Γ rb))(hm:behindInMarks op b=false:=by kernel_rfl):PT X (.Compare a [op] [b] p) (aU Γ<|.cmp op ra rb):=by
 show PT X _ (kR<|d5 (b8 Γ.K op) (ag Γ ra)<|ag Γ rb);rw[<-G.K];exact KL (oK G.units op) ha hb hm
theorem DL{op bT:CmpOp}(G:Good CX S Γ X)(ha:PE X a (ag Γ ra))(hb:PE X b (ag Γ rb))(hc:PE X c (ag Γ rc))(hm:lastMarks [op,bT] [b,c]=false:=by kernel_rfl):PT X (.Compare a [op,bT] [b,c] p) (aU Γ<|.iM op bT ra rb rc):=by
 show PT X _ (kR<|oC (b8 Γ.K op) (b8 Γ.K bT) (ag Γ ra) (ag Γ rb)<|ag Γ rc);rw[<-G.K];exact KO (oK G.units op) (oK G.units bT) ha hb hc hm
theorem Qg(G:Good CX S Γ X)(h:PE X (.Name x p) (ag Γ<|.v i)):PT X (.Name x p) (aU Γ<|.v i):=by
 show PT X _ (eF Γ.K<|ag Γ<|.v i);rw[<-G.K];exact q8 h fun _=>rfl
theorem fB(G:Good CX S Γ X)(h:PE X (.Call a es [] p) (ag Γ<|.call j rs)):PT X (.Call a es [] p) (aU Γ<|.call j rs):=by
 show PT X _ (eF Γ.K<|ag Γ<|.call j rs);rw[<-G.K];exact q8 h fun _=>rfl
theorem DM(G:Good CX S Γ X)(h:PE X (.Call a es [] p) (ag Γ<|.cC ra rb)):PT X (.Call a es [] p) (aU Γ<|.cC ra rb):=by
 show PT X _ (eF Γ.K<|ag Γ<|.cC ra rb);rw[<-G.K];exact q8 h fun _=>rfl
theorem yw{T:Ty}(G:Good CX S Γ X)(h:PE X (.Call a es [] p) (ag Γ<|.d_ T ra)):PT X (.Call a es [] p) (aU Γ<|.d_ T ra):=by
 show PT X _ (eF Γ.K<|ag Γ<|.d_ T ra);rw[<-G.K];exact q8 h fun _=>rfl
theorem eh{tg:Expr}(G:Good CX S Γ X)(ha:PE X a (ag Γ ra)):PI X tg a (hX Γ .list [ra]):=by
 show PI X tg a (qi Γ.K<|ag Γ ra);rw[<-G.K];exact Ke ha
theorem rq{tg:Expr}(G:Good CX S Γ X)(ha:PE X a (ag Γ ra))(h:kB S x "range"=true:=by kernel_rfl)(hs:noStar a=true:=by kernel_rfl):PI X tg (.Call (.Name x p) [a] [] pos) (hX Γ .eS [ra]):=by
 simp only[kB,zac,decide_eq_true_eq] at h
 obtain⟨⟨rfl,h2⟩,h3⟩:=h;exact Kh (G.gl h2) (G.dF _ h3) (my ha qp<|cY hs)<|cY hs
end
section
variable {CX:bE}{S:bS}{Γ:aN}{X:Cx}{e a b c v:Expr}{es:List Expr}{x:Str}{p q pos:Pos}{r ra rb rc:RE}{i j:Nat}{st:Stmt}{DN:List Stmt}{s:RS}{ss t u:List RS}
theorem uU{v:Expr}{t:Option Expr}{l:Nat}{env:Env}(h:rf v=true):swapsWith v t l env=pure false:=by
 cases v<;>first|rfl|cases h
theorem Qh{v:Expr}{x:Str}{p:Pos}{l:Nat}{env:Env}(h:env.kindOf x=some .cell):swapsWith v (some<|.Name x p) l env=pure false:=by
 cases v<;>first
  |rfl
  |(unfold swapsWith;simp only[h];have q:(some NameKind.cell==some NameKind.local)=false:=rfl;simp only[q,zbn,zbi])
theorem DO{v o i:Expr}{p:Pos}{l:Nat}{env:Env}:swapsWith v (some<|.Subscript o i p) l env=pure false:=by
 cases v<;>rfl
theorem Qi{v o i:Expr}{p:Pos}{env:Env}:swappedStores [.Subscript o i p] v env=pure none:=by
 cases v<;>rfl
theorem cz.name(G:cz CX S Γ X)(h:kL S i x=true):PG X (.Name x p) (df i):=by
 simp only[kL,zac,decide_eq_true_eq] at h
 exact oz (by rw[G.N];exact G.nd) (by rw[G.N];exact h.1) (by rw[G.sc];exact uE h.2)<|.inl<|G.jn x
theorem au:cJ X [] (aC Γ []):=Bn
theorem ai(h:PS X st (aV Γ s))(t:cJ X DN (aC Γ ss)):cJ X (st::DN) (aC Γ (s::ss)):=JZ h t
theorem aK(G:cz CX S Γ X)(he:PE X v (ag Γ r))(h:kL S i x=true:=by kernel_rfl)(hc:(rf v ||decide (S.sc.names.lookup x=some .cell))=true:=by kernel_rfl):PS X (.Assign [.Name x p] v q) (aV Γ<|.asg i r):=by
 simp only[kL,zac,decide_eq_true_eq,Bool.or_eq_true] at h hc
 refine J_ (by rw[G.N];exact G.nd) (by rw[G.N];exact h.1) (by rw[G.sc];exact uE h.2) he ?_<|.inl<|G.jn x
 rcases hc with h4|h4
 ·exact uU h4
 ·exact Qh (by show X.env.scope.names.lookup x=_;rw[G.sc];exact h4)
theorem yx{tk:Option Nat}{fv:List (Str×Nat)}{k:IK}{aj:List RE}{cond:Option RE}{elt:RE}{el tg iter:Expr}{ifs:List Expr}{sc:Scope}{ln:List Str}{pc:Pos}(G:cz CX S Γ X)(h0:kL S i x=true)(hs:uS S.sc x p.line sc pc=true)(h:kC S tk tg iter sc k ln fv=true)(hi:PI X tg iter (hX Γ k aj))
  (hc:rm CX (cS S sc ln fv) Γ.calm cond ifs) (he:∀X,Good CX (cS S sc ln fv) Γ.calm X->PE X el (ag Γ.calm elt)) (hq:S.md=0:=by rfl):PS X (.Assign [.Name x p] (.ListComp el [⟨tg,iter,ifs,0⟩] sc pc) q) (aV Γ<|.jY i<|.comp tk fv k aj cond elt):=by
 simp only[kC,kL,uS,zac,decide_eq_true_eq,beq_iff_eq,zaG] at h h0 hs
 obtain⟨⟨h1,h2⟩,h3⟩:=h;obtain⟨o1,o2,o3,o4⟩:=uR (c:=⟨.Constant .none 0 ⟨0,0,0,0⟩,tg,iter,[],sc⟩) G.toGood h3;show PS X _ (g7 (jf Γ.K (hX Γ k aj) tk fv (qQ Γ.calm cond)<|ag Γ.calm elt)<|df i);rw[<-G.K];refine Nf (by rw[G.N];exact G.nd) (by rw[G.N];exact h0.1) (by rw[G.sc];exact uE h0.2) ?_ o1 (G.calm hq) hi (yp (c:=⟨.Constant .none 0 ⟨0,0,0,0⟩,tg,iter,[],sc⟩) (G.calm hq) h1 o2 o3) ?_ (fun ex C s H=>he _<|G.toGood.inner ⟨.Constant .none 0 ⟨0,0,0,0⟩,tg,iter,[],sc⟩ ln fv ex C s H) (oX o4)<|.inl<|G.jn x
 ·have e1:X.env.kindOf x=some .local:=by show X.env.scope.names.lookup x=_;rw[G.sc];exact hs.1.1.2
  have e2:X.env.blockKind=.function:=by unfold Env.blockKind;rw[G.lF];rfl
  unfold swapsWith
  simp only[e1,e2,hs.1.2,hs.2]
  show pure (true && true && (pc.line==pc.line) && !false)=pure true;rw[beq_self_eq_true];rfl
 ·cases cond with
  |none=>exact hc
  |some r=>
   obtain⟨e0,q,hq⟩:=hc;exact⟨e0,q,fun ex C s H=>hq _<|G.toGood.inner ⟨.Constant .none 0 ⟨0,0,0,0⟩,tg,iter,[],sc⟩ ln fv ex C s H⟩
theorem Qj{fv:List (Str×Nat)}{cond:Option RE}{elt:RE}{el iter:Expr}{ifs:List Expr}{sc:Scope}{n1 n2:Str}{p1 p2 tp:Pos}{kt}{pc:Pos}(G:cz CX S Γ X)(h0:kL S i x=true)(hs:uS S.sc x p.line sc pc=true)(h:kC S (some 2) (.Tuple [.Name n1 p1,.Name n2 p2] kt tp) iter sc .list [n1,n2] fv=true)(hi:PE X iter (ag Γ ra))
  (hc:rm CX (cS S sc [n1,n2] fv) Γ.calm cond ifs) (he:∀X,Good CX (cS S sc [n1,n2] fv) Γ.calm X->PE X el (ag Γ.calm elt)) (hq:S.md=1:=by rfl):PS X (.Assign [.Name x p] (.ListComp el [⟨.Tuple [.Name n1 p1,.Name n2 p2] kt tp,iter,ifs,0⟩] sc pc) q) (aV Γ<|.jY i<|.comp (some 2) fv .list [ra] cond elt):=by
 simp only[kC,kL,uS,zac,decide_eq_true_eq,beq_iff_eq,zaG] at h h0 hs
 obtain⟨⟨h1,h2⟩,h3⟩:=h;obtain⟨o1,o2,o3,o4⟩:=uR (c:=⟨.Constant .none 0 ⟨0,0,0,0⟩,.Tuple [.Name n1 p1,.Name n2 p2] kt tp,iter,[],sc⟩) G.toGood h3;show PS X _ (g7 (jf Γ.K (qi Γ.K<|ag Γ ra) (some 2) fv (qQ Γ.calm cond)<|ag Γ.calm elt)<|df i);rw[<-G.K];have hH:Hd X:=G.mX hq;refine CV (Φ:=Hd) (Ψ:=fP X.A) (by rw[G.N];exact G.nd) (by rw[G.N];exact h0.1) (by rw[G.sc];exact uE h0.2) ?_ o1 O5 (fun _ _ _ _ I=>hH.at I) (O2 hi) (O4 (o2 n1 (by simp)) (o2 n2 (by simp)) o3) ?_ (fun ex C s H=>he _<|G.toGood.inner ⟨.Constant .none 0 ⟨0,0,0,0⟩,.Tuple [.Name n1 p1,.Name n2 p2] kt tp,iter,[],sc⟩ [n1,n2] fv ex C s H) (oX o4)<|.inl<|G.jn x
 ·have e1:X.env.kindOf x=some .local:=by show X.env.scope.names.lookup x=_;rw[G.sc];exact hs.1.1.2
  have e2:X.env.blockKind=.function:=by unfold Env.blockKind;rw[G.lF];rfl
  unfold swapsWith
  simp only[e1,e2,hs.1.2,hs.2]
  show pure (true && true && (pc.line==pc.line) && !false)=pure true;rw[beq_self_eq_true];rfl
 ·cases cond with
  |none=>exact hc
  |some r=>
   obtain⟨e0,q,hq⟩:=hc;exact⟨e0,q,fun ex C s H=>hq _<|G.toGood.inner ⟨.Constant .none 0 ⟨0,0,0,0⟩,.Tuple [.Name n1 p1,.Name n2 p2] kt tp,iter,[],sc⟩ [n1,n2] fv ex C s H⟩
theorem DP(he:PE X v (ag Γ r))(ha:PE X a (ag Γ ra))(hb:PE X b (ag Γ rb))(h:q_ b=true:=by kernel_rfl):PS X (.Assign [.Subscript a b p] v q) (aV Γ<|.set ra rb r):=
 Bu he (J9 ha hb set_list (by intro w;cases b<;>first|rfl|cases h)) (by exact DO (o:=a) (i:=b) (p:=p) (l:=q.line) (env:=X.env)) Qi rfl
theorem o5(G:cz CX S Γ X)(he:PE X v (ag Γ r))(ha:PE X a (ag Γ ra))(hb:PE X b (ag Γ rb)):PS X (.Assign [.Subscript a b p] v q) (aV Γ<|.dput ra rb r):=
 MF (by have:=G.toGood.units;lia) ha hb he (by exact DO (o:=a) (i:=b) (p:=p) (l:=q.line) (env:=X.env))
theorem jr{f:Str}(G:cz CX S Γ X)(ho:PE X a (ag Γ ra))(he:PE X v (ag Γ r))(h:rf v=true:=by kernel_rfl):PS X (.Assign [.Attribute a f p] v q) (aV Γ<|.gH ra f r):=by
 show PS X _ (wN Γ.K (ag Γ ra) (ag Γ r) f);rw[<-G.K];exact Lb ho he<|uU h
theorem dm(he:PE X v (ag Γ r))(h:rf v=true:=by kernel_rfl):PS X (.Expr v p) (aV Γ<|.drop r):=J4 he (uU h)
theorem aP(he:PE X v (ag Γ r)):PS X (.Return (some v) p) (aV Γ<|.ret r):=J5 he
theorem a_{as bs:List Stmt}(hc:PT X c (aU Γ rc))(ha:cJ X as (aC Γ t))(hb:cJ X bs (aC Γ u)):PS X (.If c as bs p) (aV Γ<|.ite rc t u):=J7 hc ha hb
theorem Qk{as:List Stmt}(G:cz CX S Γ X)(hc:PT X c (aU Γ rc))(ha:cJ X as (aC Γ t)):PS X (.While c as [] p) (aV Γ<|.xI rc t):=Ka G.own hc ha
theorem js{k:IK}{aj:List RE}{iter:Expr}{as:List Stmt}(G:cz CX S Γ X)(hi:PI X (.Name x p) iter (hX Γ k aj))(ha:cJ X as (aC Γ t))(h:kL S i x=true:=by kernel_rfl)(hs:qS iter=true:=by kernel_rfl)(hq:S.md=0:=by rfl):PS X (.For (.Name x p) iter as [] q) (aV Γ<|.fO i k aj t):=
 By G.own (G.calm hq) hi (G.name h) ha (oX hs)
theorem yy(G:cz CX S Γ X):∀(is:List Nat) (xs:List (Str×Pos)),m6 S.N S.sc is (xs.map (·.1))=true->
  mi X (xs.map fun y=>.Name y.1 y.2) (lE is)/\(assignEach (xs.map fun y=>Expr.Name y.1 y.2) X.env).length=is.length/\(assignEach (xs.map fun y=>Expr.Name y.1 y.2) X.env).findIdx? (·.1)=none
 |[],xs,h=>by
  simp only[m6,List.isEmpty_iff,List.map_eq_nil_iff] at h
  subst h;exact⟨wD,rfl,rfl⟩
 |i::r,[],h=>by simp only[zaH,m6] at h;cases h
 |i::r,y::t,h=>by
  simp only[zak,m6,zac] at h
  obtain⟨i1,i2,i3⟩:=yy G r t h.2;refine⟨qh (G.name (by simp only[kL,zac];exact h.1)) i1 rfl,?_,?_⟩
  ·show(assignEach _ X.env).length+1=r.length+1;rw[i2]
  ·show List.findIdx? (·.1) ((false,assign (.Name y.1 y.2) X.env)::assignEach _ X.env)=none;rw[List.findIdx?_cons,i3];rfl
theorem uV{is:List Nat}{k:IK}{aj:List RE}{iter:Expr}{as:List Stmt}{kt}{tp:Pos}(xs:List (Str×Pos))(G:cz CX S Γ X)(hi:PI X (.Tuple (xs.map fun y=>.Name y.1 y.2) kt tp) iter (hX Γ k aj))(ha:cJ X as (aC Γ t))(h:m6 S.N S.sc is (xs.map (·.1))=true:=by kernel_rfl)(hs:qS iter=true:=by kernel_rfl)(hq:S.md=0:=by rfl):
  PS X (.For (.Tuple (xs.map fun y=>.Name y.1 y.2) kt tp) iter as [] q) (aV Γ<|.oO is k aj t):=by
 obtain⟨i1,i2,i3⟩:=yy G is xs h;show PS X _ (tR (hX Γ k aj) (mZ Γ.K is.length<|lE is)<|aC Γ t);rw[<-G.K];exact By G.own (G.calm hq) hi (DH (G.calm hq) i1 i2 i3) ha<|oX hs
def Ql:Expr->Bool
 |.Tuple ..=>false|_=>true
theorem Qm{is:List Nat}{kt}{tp:Pos}(xs:List (Str×Pos))(G:cz CX S Γ X)(he:PE X v (ag Γ r))(h:m6 S.N S.sc is (xs.map (·.1))=true:=by kernel_rfl)(hc:(rf v && Ql v)=true:=by kernel_rfl)(hq:S.md=0:=by rfl):
  PS X (.Assign [.Tuple (xs.map fun y=>.Name y.1 y.2) kt tp] v q) (aV Γ<|.uB is r):=by
 simp only[zac] at hc
 obtain⟨i1,i2,i3⟩:=yy G is xs h;show PS X _ (g7 (ag Γ r)<|mZ Γ.K is.length<|lE is);rw[<-G.K];refine Bu he (DH (G.calm hq) i1 i2 i3) (by show swapsWith v (some<|.Tuple (xs.map fun y=>Expr.Name y.1 y.2) kt tp) q.line X.env=pure false;exact uU hc.1) ?_ rfl
 have h2:=hc.2;cases v<;>first|rfl|cases h2
def kX(S:bS)(j:Nat)(x:Str):Bool:=decide (S.en[j]?=some x) && jZ S.sc x && !(x==("__debug__":Str))
theorem jt{rs:List RE}{np d9:Pos}(G:cz CX S Γ X)(hA:PA X (e::es) (aL Γ (r::rs)))(h:kX S j x=true:=by kernel_rfl)(hn:dG (e::es)=true:=by kernel_rfl)(hq:S.md=0:=by rfl):PS X (.Raise (some<|.Call (.Name x np) (e::es) [] d9) none pos) (aV Γ<|.hV j (r::rs)):=by
 simp only[kX,zac,decide_eq_true_eq,zaG] at h
 obtain⟨bm,B,newId,oQ,O,FB⟩:=G.cL j x h.1.1;exact OF (G.calm hq) O FB (G.gl h.1.2) h.2 hA (cY (b9 hn).1) (fS _ _ es (b9 hn).2)<|G.rs j x h.1.1
abbrev tS(S:bS):bS:={S with en:=[]}
abbrev hS(S:bS):bS:={S with en:=[],md:=2}
theorem cz.Qn(G:cz CX S Γ X)(pn:List (Addr×Obj))(xe:Value->Shared->Prop)(E:XK)(ho:PassesOwn (model X.prog X.w) X.A X.env xe)(hp:Passes (dW X.prog X.w) (X.alt X.A X.calm pn xe) E):
  cz CX (tS S) {Γ with E:=E} (X.alt X.A X.calm pn xe):=
 {N:=G.N,sc:=G.sc,K:=G.K,calm:=G.calm,units:=G.units,fns:=G.fns,jl:=G.jl,dF:=G.dF,pass:=by rw[G.m_];exact hp,jm:=G.jm,j4:=G.j4,j5:=G.j5,lA:=G.lA,
  cL:=fun _ _ h=>(by simp at h),j6:=G.j6,lB:=G.lB,mX:=G.mX,nd:=G.nd,jn:=G.jn,own:=ho,lF:=G.lF,rs:=fun _ _ h=>(by simp at h),gZ:=G.gZ,fz:=G.fz,m7:=G.m7,m_:=G.m_}
theorem cz.held(G:cz CX S Γ X)(ea:Addr)(pn:List (Addr×Obj)):
  cz CX (hS S) {Γ with E:=E0,hv:=some ea} (X.alt (X.A.mark<|some<|.ref ea) false pn fun _ _=>False):=
 {N:=G.N,sc:=G.sc,K:=G.K,calm:=fun h=>(nomatch h),units:=G.units,fns:=fun h=>(nomatch h),jl:=G.jl,dF:=G.dF,pass:=fun _ _ _ _ _ _ _ h=>(G.jm _ _ _ _ _ h).elim,jm:=G.jm,j4:=G.j4,j5:=fun h=>(nomatch h),lA:=fun h=>(nomatch h),
  cL:=fun _ _ h=>(by simp at h),j6:=fun j x h=>(by
   obtain⟨k,f,fd,ps,F,r,m⟩:=G.j6 j x h;exact⟨k,f,fd,ps,F,r.mark _,m⟩),
  lB:=fun e h=>(by cases h;rfl),mX:=fun h=>(nomatch h),nd:=G.nd,jn:=G.jn,own:=PassesOwn.never,lF:=G.lF,rs:=fun _ _ h=>(by simp at h),gZ:=G.gZ,fz:=G.fz,m7:=G.m7,m_:=G.m_}
theorem Qo{n:Nat}{y:Str}{np uL:Pos}{body su:List Stmt}{b₀:Stmt}{rb rz:List RS}(G:cz CX S Γ X)(h:kG S j x=true)(hn:(decide (S.N.length=n) && decide (S.N[i]?=some y) && decide (S.sc.names.lookup y=some .local))=true)
  (hb:∀{Γ:aN}{X:Cx},cz CX (tS S) Γ X->cJ X body (aC Γ rb)) (hs:∀{Γ:aN}{X:Cx},cz CX (hS S) Γ X->cJ X (b₀::su) (aC Γ rz)):
  PS X (.Try body [.ExceptHandler (some<|.Name x np) (some y) (b₀::su) uL] [] [] pos) (aV Γ<|.xJ n i j rb rz):=by
 simp only[kG,zac,decide_eq_true_eq,zaG] at h hn
 obtain⟨u,hm,hu⟩:=G.jl j x h.1.1;intro pins s σ H D I q;obtain⟨C,e,q⟩:=(show ∃C,Γ.gv j=.ref C/\uz Γ.K C i n (fun E=>aC {Γ with E:=E} rb) (fun ea=>aC {Γ with E:=E0,hv:=some ea} rz) D σ H from q)
 rw[e] at hu;have Qp:u=.ref C:=hu;subst Qp;have hl:X.N.length=n:=by rw[G.N];exact hn.1.1
 have q':uz X.K C i X.N.length (fun E=>aC {Γ with E:=E} rb) (fun ea=>aC {Γ with E:=E0,hv:=some ea} rz) D σ H:=by rw[G.K,hl];exact q
 exact OI (tb:=fun E=>aC {Γ with E:=E} rb) (th:=fun ea=>aC {Γ with E:=E0,hv:=some ea} rz) G.gZ G.fz G.m7 (G.gl h.1.2) h.2 hm (by rw[G.N];exact G.nd) (by rw[G.N];exact hn.1.2) (by rw[G.sc];exact hn.2)
  (fun pn xe E ho hp=>hb<|G.Qn pn xe E ho hp) (fun ea pn=>hs<|G.held ea pn) pins s σ H D I q'
end
section
variable {P:Program}{w:World}{K:Frag}{mg:Str->Option Value}{base:Heap}
def ju(P:Program)(w:World)(K:Frag)(mg:Str->Option Value)(base:Heap)(k:Nat)(x:Str)(sp:Sp):Prop:=
 ∃f fd ps,bZ P w K mg base (dW P w) k f fd ps sp/\mg x=some (.ref f)/\PySem.W.keepIn K (.ref f)=true/\Binds K fd ps []
theorem ju.mono{j k:Nat}{x:Str}{sp:Sp}(h:ju P w K mg base j x sp)(hk:j<=k):ju P w K mg base k x sp:=by
 obtain⟨f,fd,ps,F,r⟩:=h;exact⟨f,fd,ps,F.mono hk,r⟩
def lH(tab:List (Str×Sp))(j:Nat):Sp:=match tab[j]? with
 |some p=>p.2
 |none=>fun _ _ _ _=>False
def ng(tab:List (Str×V))(j:Nat):V:=match tab[j]? with
 |some p=>p.2
 |none=>.aD
structure rA (mg:Str->Option Value) (p:Str×V):Prop where
 ex:∃u,mg p.1=some u/\RelV p.2 u
def jv(tab:List (Str×Addr×Sp))(j:Nat):Addr×Sp:=match tab[j]? with
 |some p=>p.2
 |none=>(0,fun _ _ _ _=>False)
def uW(tab:List (Str×Addr))(j:Nat):Addr:=match tab[j]? with
 |some p=>p.2
 |none=>0
abbrev aJ(K:Frag)(tab:List (Str×Sp))(gt:List (Str×V))(dk:List (Addr×List (Key×V)):=[])(mt kt:List (Str×Addr×Sp):=[])(et:List (Str×Addr):=[])(ht:List (Str×Sp):=[])(E:XK:=E0):aN:=
 {K:=K,fs:=lH tab,gv:=ng gt,E:=E,sd:=fun p kvs=>(p,kvs)∈dk,ms:=jv mt,kt:=jv kt,ex:=uW et,hs:=lH ht,hv:=none}
def fD(P:Program)(w:World)(K:Frag)(mg:Str->Option Value)(base:Heap)(k:Nat)(p:Str×Addr×Sp):Prop:=
 eV K p.2.1/\∃f fd ps,Meth K p.2.1 p.1 f/\bZ P w K mg base (dW P w) k f fd ps p.2.2/\Binds K fd ps []
def fE(P:Program)(w:World)(K:Frag)(mg:Str->Option Value)(base:Heap)(k:Nat)(p:Str×Addr×Sp):Prop:=
 ∃j f fd ps,j+1<=k/\Mk K p.2.1 f/\bZ P w K mg base (dW P w) j f fd ps p.2.2/\mg p.1=some (.ref p.2.1)/\Binds K fd ps []
theorem fD.mono{j k:Nat}{p:Str×Addr×Sp}(h:fD P w K mg base j p)(hk:j<=k):fD P w K mg base k p:=by
 obtain⟨c,f,fd,ps,m,F,b⟩:=h;exact⟨c,f,fd,ps,m,F.mono hk,b⟩
theorem fE.mono{j k:Nat}{p:Str×Addr×Sp}(h:fE P w K mg base j p)(hk:j<=k):fE P w K mg base k p:=by
 obtain⟨i,f,fd,ps,m,r⟩:=h;exact⟨i,f,fd,ps,zaw m hk,r⟩
def DQ(P:Program)(w:World)(K:Frag)(q:Addr×List (Key×V)):Prop:= ∀h:Heap,K.In h->∃vs,KV q.2 vs/\h.DictOf (ck P w) q.1 vs
abbrev o6(N:List Str)(sc:Scope)(tab:List Str)(gt:List Str)(bl:List Str)(mn kn:List Str:=[])(en hn:List Str:=[])(md:Nat:=0):bS:={N:=N,sc:=sc,fn:=tab,gn:=gt,bl:=bl,mn:=mn,kn:=kn,en:=en,hn:=hn,md:=md}
def uX(mg:Str->Option Value)(base:Heap)(p:Str×Addr):Prop:= ∃bm B newId oQ,OwnCls p.1 p.2 bm newId mg base/\ExcBaseFacts B newId oQ bm
def lI(P:Program)(w:World)(K:Frag)(mg:Str->Option Value)(base:Heap)(k:Nat)(x:Str)(sp:Sp):Prop:=
 ∃f fd ps,mV P w K mg base k f fd ps sp/\mg x=some (.ref f)/\PySem.W.keepIn K (.ref f)=true/\Binds K fd ps []
theorem lI.mono{P:Program}{w:World}{K:Frag}{mg:Str->Option Value}{base:Heap}{j k:Nat}{x:Str}{sp:Sp}(h:lI P w K mg base j x sp)(hk:j<=k):lI P w K mg base k x sp:=by
 obtain⟨f,fd,ps,F,r⟩:=h;exact⟨f,fd,ps,F.mono hk,r⟩
theorem Qq{x qual:Str}{st:Stmt}{f:Addr}{fd:FuncData}{N ps:List Str}{k:Nat}{sp:Sp}(F:k6 K x qual st f fd)(S:kU N ps (di st))
  (tab:List (Str×Sp)) (gt:List (Str×V)) (bl:List Str) (mt kt:List (Str×Addr×Sp)) (et:List (Str×Addr)) (ht:List (Str×Sp)) (body:List RS)
  (hm:∀{CX:bE}{Γ:aN}{X:Cx},cz CX (o6 N (di st) (tab.map (·.1)) (gt.map (·.1)) bl (mt.map (·.1)) (kt.map (·.1)) (et.map (·.1)) (ht.map (·.1))) Γ X->cJ X (cP st) (aC Γ body))
  (yz:∀p∈tab,ju P w K mg base k p.1 p.2) (nh:∀p∈gt,rA mg p) (ni:∀y∈bl,mg y=none) (dk:List (Addr×List (Key×V))) (yA:∀q∈dk,DQ P w K q)
  (yB:∀p∈mt,fD P w K mg base k p) (yC:∀p∈kt,fE P w K mg base k p) (het:∀p∈et,uX mg base p) (yD:∀p∈ht,lI P w K mg base k p.1 p.2)
  (len:∀vs H Q E,sp vs H Q E->vs.length=ps.length)
  (nj:∀vs H Q E,sp vs H Q E->aC (aJ K tab gt dk mt kt et ht E) body {nx:=fun _ H'=>Q .aD H',rt:=Q} (start N vs) H):bZ P w K mg base (dW P w) (k+1) f fd ps sp:=by
 obtain⟨oc,od,kV,doc,pm,an,aT,ct,fj,rfl,lk,gf⟩:=F.ex;refine Ll lk gf S len fun A outer s H vs Q E hr gF=>⟨_,hm (CX:=dW P w) (Γ:=aJ K tab gt dk mt kt et ht E) ?_,nj vs H Q E gF⟩;refine {N:=rfl,sc:=rfl,K:=rfl,calm:=fun _=>rfl,units:=hr.units,fns:=fun _ j y hj=>?_,jl:=fun j y hj=>?_,dF:=fun y hy=>?_,pass:=OD,jm:=fun _ _ _ _ _ h=>uJ h,j4:=fun p kvs h=>yA _ h,j5:=fun _ j y hj=>?_,lA:=fun _ j y hj=>?_,cL:=fun j y hj=>?_,j6:=fun j y hj=>?_,lB:=fun _ h=>(nomatch h),mX:=fun h=>(nomatch h),nd:=S.nd,jn:=fun _=>rfl,own:=PassesOwn.leaving,lF:=S.kind,rs:=fun _ _ _=>OE,gZ:=rfl,fz:=rfl,m7:=rfl,m_:=rfl}
 ·have bw:(tab.map (·.1))[j]?=some y:=hj;rw[zah] at bw;cases q:tab[j]? with
  |none=>rw[q] at bw;cases bw
  |some p=>
   rw[q] at bw;have e:p.1=y:=zan bw;obtain⟨f',nk,nq,F',m',k',b'⟩:=yz p (zat q);have es:lH tab j=p.2:=by unfold lH;rw[q]
   show Dv (dW P w) _ y (lH tab j);rw[es,<-e];exact⟨k,f',nk,nq,F',hr,m',k',b'⟩
 ·have bw:(gt.map (·.1))[j]?=some y:=hj;rw[zah] at bw;cases q:gt[j]? with
  |none=>rw[q] at bw;cases bw
  |some p=>
   rw[q] at bw;have e:p.1=y:=zan bw;obtain⟨u,h1,h2⟩:=(nh p<|zat q).ex;have es:ng gt j=p.2:=by unfold ng;rw[q]
   show ∃u,mg y=some u/\RelV (ng gt j) u;rw[es,<-e];exact⟨u,h1,h2⟩
 ·exact ni y (by simpa using hy)
 ·have bw:(mt.map (·.1))[j]?=some y:=hj;rw[zah] at bw;cases q:mt[j]? with
  |none=>rw[q] at bw;cases bw
  |some p=>
   rw[q] at bw;have e:p.1=y:=zan bw;obtain⟨c,f',nk,nq,m',F',b'⟩:=yB p (zat q);have es:jv mt j=p.2:=by unfold jv;rw[q]
   show uO (dW P w) _ (jv mt j).1 y (jv mt j).2;rw[es,<-e];exact⟨c,k,f',nk,nq,m',F',hr,b'⟩
 ·have bw:(kt.map (·.1))[j]?=some y:=hj;rw[zah] at bw;cases q:kt[j]? with
  |none=>rw[q] at bw;cases bw
  |some p=>
   rw[q] at bw;have e:p.1=y:=zan bw;obtain⟨i,f',nk,nq,hi,m',F',g',b'⟩:=yC p (zat q);have es:jv kt j=p.2:=by unfold jv;rw[q]
   show Dw (dW P w) _ y (jv kt j).1 (jv kt j).2;rw[es,<-e];exact⟨i,f',nk,nq,m',F',hr.mono hi,g',b'⟩
 ·have bw:(et.map (·.1))[j]?=some y:=hj;rw[zah] at bw;cases q:et[j]? with
  |none=>rw[q] at bw;cases bw
  |some p=>
   rw[q] at bw;have e:p.1=y:=zan bw;have es:uW et j=p.2:=by unfold uW;rw[q]
   show Dy _ y (uW et j);rw[es,<-e];exact het p<|zat q
 ·have bw:(ht.map (·.1))[j]?=some y:=hj;rw[zah] at bw;cases q:ht[j]? with
  |none=>rw[q] at bw;cases bw
  |some p=>
   rw[q] at bw;have e:p.1=y:=zan bw;obtain⟨f',nk,nq,F',m',k',b'⟩:=yD p (zat q);have es:lH ht j=p.2:=by unfold lH;rw[q]
   show Dx _ y (lH ht j);rw[es,<-e];exact⟨k,f',nk,nq,F',hr.h,m',k',b'⟩
end
section
variable {P:Program}{w:World}{K:Frag}{mg:Str->Option Value}{base:Heap}{x qual:Str}{st:Stmt}{f:Addr}{fd:FuncData}{N ps:List Str}{k:Nat}{sp:Sp}
theorem Qr(F:k6 K x qual st f fd)(S:kU N ps (di st))(jT:mg x=some (.ref f))(hb:Binds K fd ps [])
  (gt:List (Str×V)) (bl:List Str) (body:List RS)
  (hm:∀{CX:bE}{Γ:aN}{X:Cx},cz CX (o6 N (di st) [] (gt.map (·.1)) bl (md:=1)) Γ X->cJ X (cP st) (aC Γ body))
  (nh:∀p∈gt,rA mg p) (ni:∀y∈bl,mg y=none) (len:∀vs H Q E,sp vs H Q E->vs.length=ps.length)
  (nj:∀vs H Q,sp vs H Q E0->aC (aJ K [] gt) body {nx:=fun _ H'=>Q .aD H',rt:=Q} (start N vs) H):lI P w K mg base (k+1) x sp:=by
 obtain⟨oc,od,kV,doc,pm,an,aT,ct,fj,rfl,lk,gf⟩:=F.ex;refine⟨f,_,ps,O8 (CX:=dW P w) lk gf S len fun A outer s H vs Q hr hh gF=>⟨_,hm (CX:=dW P w) (Γ:=aJ K [] gt) ?_,nj vs H Q gF⟩,jT,F.kp,hb⟩;refine {N:=rfl,sc:=rfl,K:=rfl,calm:=fun h=>(nomatch h),units:=hr.units,fns:=fun h=>(nomatch h),jl:=fun j y hj=>?_,dF:=fun y hy=>?_,pass:=fun _ _ _ _ _ _ _ h=>(uJ h).elim,jm:=fun _ _ _ _ _ h=>uJ h,j4:=fun p kvs h=>(nomatch h),j5:=fun h=>(nomatch h),lA:=fun h=>(nomatch h),cL:=fun j y hj=>(nomatch hj),j6:=fun j y hj=>(nomatch hj),lB:=fun _ h=>(nomatch h),mX:=fun _=>O_ hh,nd:=S.nd,jn:=fun _=>rfl,own:=PassesOwn.never,lF:=S.kind,rs:=fun _ _ hj=>(nomatch hj),gZ:=rfl,fz:=rfl,m7:=rfl,m_:=rfl}
 ·have bw:(gt.map (·.1))[j]?=some y:=hj;rw[zah] at bw;cases q:gt[j]? with
  |none=>rw[q] at bw;cases bw
  |some p=>
   rw[q] at bw;have e:p.1=y:=zan bw;obtain⟨u,h1,h2⟩:=(nh p<|zat q).ex;have es:ng gt j=p.2:=by unfold ng;rw[q]
   show ∃u,mg y=some u/\RelV (ng gt j) u;rw[es,<-e];exact⟨u,h1,h2⟩
 ·exact ni y (by simpa using hy)
theorem bZ.top{k:Nat}(F:bZ P w K mg base (dW P w) k f fd ps sp):bZ P w K mg base qz k f fd ps (fun vs H Q _=>sp vs H Q E0):=
 ⟨fun vs H Q E h=>F.len vs H Q E0 h,fun A outer s H args us vs Q E hr e0 hb hv hs=>codeAny_mono (F.run A outer s H args us vs Q E0 hr e0 hb hv hs) fun r s' h=>by
  cases r with
  |error e=>exact(uJ h).elim
  |ok fl=>cases fl<;>exact h⟩
end
section
variable {Γ:aN}{D:Ends}{σ:St}{H:Hp}{r:List RS}{Q:VK}
theorem Qs{i:Nat}{e:RE}(h:ag Γ e σ H fun x H1=>aC Γ r D (σ.set i<|some x) H1):aC Γ (.asg i e::r) D σ H:=h
theorem Qt{i:Nat}{e:RE}(h:ag Γ e σ H fun x H1=>aC Γ r D (σ.set i<|some x) H1):aC Γ (.jY i e::r) D σ H:=h
theorem Qu{c:RE}{t e:List RS}(h:aU Γ c σ H fun b H1=>if b=true then aC Γ t {D with nx:=aC Γ r D} σ H1 else aC Γ e {D with nx:=aC Γ r D} σ H1):aC Γ (.ite c t e::r) D σ H:=h
end
end L2
variable {σ:L2.St}{H H' H2:L2.Hp}{Γ:L2.aN}{a e o:L2.RE}{Q:L2.VK}{v:L2.V}{i j n:Nat}{xs:List L2.V}{lo ln ll C d:PySem.Addr}{as:List L2.RE}{fv:List (PySem.Str×Nat)}{y:PySem.Str}{D:L2.Ends}
namespace L2.B
open PySem PySem.Spec PyProof.Rows
def j9:List Str:=["thing"]
noncomputable def DR:List RS:=
 [.ret<|.and [(.d_ .int<|.v 0),(.not<|.d_ .bool<|.v 0)]]
def af:List Str:=[]
def DS:List Str:=["isinstance","int","bool"]
def yE:List Str:=["thing","words"]
noncomputable def yF:List RS:=
 [.ret<|.and [(.d_ .str<|.v 0),(.cmp .In (.v 0)<|.v 1)]]
def DT:List Str:=["isinstance","str"]
noncomputable def yG:List RS:=
 [.ret<|.and [(.d_ .str<|.v 0),(.cmp .Eq (.dU .lstrip (.v 0) [.g 0])<|.c<|.str "")]]
def Qw:List Str:=["SIGNS"]
noncomputable def uY:List RS:=
 [.ite (.or [(.not (.d_ .tuple (.v 0))),(.cmp .NotEq (.blt .len [.v 0]) (.c (.int 2)))]) [.ret (.c (.bl false))] [],
 .ite (.call 0 [(.ix (.v 0)<|.c<|.int 0),(.tup [(.c<|.str "keep")])]) [.ret<|.and [(.call 1 [(.ix (.v 0)<|.c<|.int 1)]),(.cmp .GtE (.ix (.v 0)<|.c<|.int 1)<|.c<|.int 1)]] [],
 .ret (.and [(.call 0 [(.ix (.v 0) (.c (.int 0))),(.tup [(.c (.str "cut")),(.c (.str "put"))])]),(.call 2 [(.ix (.v 0) (.c (.int 1)))]),(.cmp .NotEq (.ix (.v 0) (.c (.int 1))) (.c (.str "")))])]
def Qx:List Str:=["is_word","is_whole","is_text"]
def Qy:List Str:=["isinstance","tuple","len"]
def DU:List Str:=["word","ahead"]
noncomputable def DV:List RS:=
 [.ret<|.and [(.cmp .NotEq (.v 0)<|.v 1),(.not<|.and [(.cmp .Eq (.v 1)<|.c<|.str "cut"),(.cmp .Eq (.v 0)<|.c<|.str "put")])]]
def DW:List Str:=["change","ahead","part"]
noncomputable def DX:List RS:=
 [.ite (.not (.d_ .list (.v 0))) [.hV 0 [(.c (.str "a change is a list"))]] [],
 .asg 1 (.c<|.str ""),
 .fO 2 .list [.v 0] [.ite (.not (.call 0 [.v 2])) [.hV 0 [(.c (.str "a part is a keep of 1 sign or more, or a cut or put of a text that is not empty"))]] [],
  .ite (.not<|.call 1 [(.ix (.v 2)<|.c<|.int 0),.v 1]) [.hV 0 [(.c<|.str "neighbours have two words, and no put stands right behind a cut")]] [],
  .asg 1 (.ix (.v 2) (.c (.int 0)))]]
def Qz:List Str:=["is_part","may_follow"]
def QC:List Str:=["isinstance","list"]
def QD:List Str:=["BadChange"]
def DY:List Str:=["_law_script","_law_k"]
noncomputable def DZ:List RS:=
 [.ite (.cmp .Lt (.v 1) (.blt .len [.v 0])) [.ret (.ix (.v 0) (.v 1))] [],
 .ret (.c (.int 0))]
def e_:List Str:=["len"]
def D0:List Str:=["_law_cell","_law_k","_law_number"]
noncomputable def D1:List RS:=
 [.asg 2 (.bin .Mod (.bin .Add (.bin .Add (.bin .Mult (.v 0) (.c (.int 48271))) (.bin .Mult (.c (.int 7919)) (.v 1))) (.c (.int 11))) (.c (.int 1000003))),
 .ret (.bin .Mod (.bin .Mult (.bin .Mod (.bin .Mult (.v 2) (.v 2)) (.c (.int 1000003))) (.v 2)) (.c (.int 1000003)))]
def D3:List Str:=["_law_cell","_law_size_here","_law_some"]
noncomputable def D4:List RS:=
 [.asg 2 (.c (.str " !\"#$&'()*+,-./0123456789:;<=>?@ABCDEFGHIJKLMNOPQRSTUVWXYZ[\\]^_`")),
 .asg 2 (.bin .Add (.v 2)<|.c<|.str "abcdefghijklmnopqrstuvwxyz{|}~\n"),
 .ite (.cmp .Eq (.bin .Mod (.v 0)<|.c<|.int 3)<|.c<|.int 0) [.asg 2<|.c<|.str "ab\n"] [],
 .ret (.dU .join (.c (.str "")) [(.comp none [("_law_some",2),("_law_cell",0)] .eS [.v 1] none (.ix (.v 1) (.bin .Mod (.bin .FloorDiv (.call 0 [.v 2,.v 0]) (.c (.int 7))) (.blt .len [.v 1]))))])]
def lJ:List Str:=["_law_mixed"]
def h_:List Str:=["range","len"]
def D5:List Str:=["_law_cell"]
noncomputable def D6:List RS:=
 [.ite (.cmp .Eq (.bin .Mod (.v 0) (.c (.int 8))) (.c (.int 1))) [.ret (.bin .Mod (.bin .FloorDiv (.v 0) (.c (.int 8))) (.c (.int 401)))] [],
 .ret (.bin .Mod (.bin .FloorDiv (.v 0) (.c (.int 8))) (.c (.int 25)))]
def D7:List Str:=["_law_cell","_law_text_here","_law_many","_law_parts_here","_law_at","_law_k","_law_number","_law_size_here","_law_left"]
noncomputable def D8:List RS:=
 [.asg 3 (.lst []),
 .asg 4 (.c<|.int 0),
 .fO 5 .eS [.v 2] [.asg 6 (.call 0 [.v 0,(.bin .Add (.c (.int 50)) (.v 5))]),
  .asg 7 (.ix (.lst [(.c<|.int 1),(.c<|.int 2),(.c<|.int 0),(.c<|.int 3),(.c<|.int 5),(.c<|.int 40)])<|.bin .Mod (.bin .FloorDiv (.v 6)<|.c<|.int 4)<|.c<|.int 6),
  .asg 8 (.blt .min [.v 7,(.bin .Sub (.blt .len [.v 1])<|.v 4)]),
  .ite (.cmp .Eq (.bin .Mod (.v 6)<|.c<|.int 4)<|.c<|.int 3) [.drop<|.dU .append (.v 3) [(.tup [(.c<|.str "put"),(.call 1 [.v 6,.v 7])])]] [.ite (.cmp .Eq (.bin .Mod (.v 6)<|.c<|.int 4)<|.c<|.int 2) [.drop<|.dU .append (.v 3) [(.tup [(.c<|.str "cut"),(.sl (.v 1) (some<|.v 4)<|some<|.bin .Add (.v 4)<|.v 8)])]] [.drop<|.dU .append (.v 3) [(.tup [(.c<|.str "keep"),.v 8])]]],
  .ite (.cmp .Lt (.bin .Mod (.v 6) (.c (.int 4))) (.c (.int 3))) [.asg 4 (.bin .Add (.v 4) (.v 8))] []],
 .ret (.bin .Add (.v 3) (.lst [(.tup [(.c (.str "keep")),(.bin .Sub (.blt .len [.v 1]) (.v 4))])]))]
def QE:List Str:=["_law_mixed","_law_text"]
def QF:List Str:=["range","min","len"]
def yH:List Str:=["_law_parts_here","_law_rows","_law_word","_law_thing","_law_found","_law_put","_law_cut","_law_keep","_law_some"]
noncomputable def D9:List RS:=
 [.asg 1 (.lst [(.lst [(.c (.str "")),(.c (.str "")),(.c (.int 0))])]),
 .oO [2,3] .list [.v 0] [.ite (.cmp .Eq (.v 2) (.c (.str "keep"))) [.set (.ix (.v 1) (.neg (.c (.int 1)))) (.c (.int 2)) (.bin .Add (.ix (.ix (.v 1) (.neg (.c (.int 1)))) (.c (.int 2))) (.v 3))] [.ite (.cmp .NotEq (.v 3) (.c (.str ""))) [.ite (.cmp .Gt (.ix (.ix (.v 1) (.neg (.c (.int 1)))) (.c (.int 2))) (.c (.int 0))) [.drop (.dU .append (.v 1) [(.lst [(.c (.str "")),(.c (.str "")),(.c (.int 0))])])] [],
    .set (.ix (.v 1) (.neg (.c (.int 1)))) (.blt .int [(.cmp .Eq (.v 2) (.c (.str "cut")))]) (.bin .Add (.ix (.ix (.v 1) (.neg (.c (.int 1)))) (.blt .int [(.cmp .Eq (.v 2) (.c (.str "cut")))])) (.v 3))] []]],
 .asg 4 (.lst []),
 .oO [5,6,7] .list [.v 1] [.asg 8 (.lst [(.tup [(.c (.str "put")),.v 5]),(.tup [(.c (.str "cut")),.v 6]),(.tup [(.c (.str "keep")),.v 7])]),
  .asg 4 (.bin .Add (.v 4) (.comp none [] .list [.v 8] (some (.and [(.cmp .NotEq (.ix (.v 0) (.c (.int 1))) (.c (.str ""))),(.cmp .NotEq (.ix (.v 0) (.c (.int 1))) (.c (.int 0)))])) (.v 0)))],
 .ret (.v 4)]
def QG:List Str:=["int"]
def D_:List Str:=["_law_cell","_law_text_here","_law_many"]
noncomputable def Ea:List RS:=
 [.ret<|.call 0 [(.call 1 [.v 0,.v 1,.v 2])]]
def QH:List Str:=["_law_neat","_law_parts"]
def yI:List Str:=["_law_text_here","_law_change_here","_law_found_here","_law_at","_law_word_here","_law_thing"]
noncomputable def Eb:List RS:=
 [.asg 2 (.c (.str "")),
 .asg 3 (.c<|.int 0),
 .oO [4,5] .list [.v 1] [.ite (.cmp .Eq (.v 4) (.c (.str "put"))) [.asg 2 (.bin .Add (.v 2) (.v 5))] [.ite (.cmp .Eq (.v 4) (.c (.str "cut"))) [.asg 3 (.bin .Add (.v 3) (.blt .len [.v 5]))] [.asg 2 (.bin .Add (.v 2) (.sl (.v 0) (some (.v 3)) (some (.bin .Add (.v 3) (.v 5))))),
    .asg 3 (.bin .Add (.v 3) (.v 5))]]],
 .ret (.v 2)]
def iO:List Str:=["_law_e","_law_some","_law_found_here"]
noncomputable def dX:List RS:=
 [.asg 1 (.lst [(.tup [(.c (.str "text")),(.cC (.v 0) (.g 0))]),(.tup [(.c (.str "change")),(.cC (.v 0) (.g 1))]),(.tup [(.c (.str "fit")),(.cC (.v 0) (.g 2))])]),
 .asg 1 (.bin .Add (.v 1)<|.lst [(.tup [(.c<|.str "place"),(.cC (.v 0)<|.g 3)]),(.tup [(.c<|.str "side"),(.cC (.v 0)<|.g 4)]),(.tup [(.c<|.str "mark"),(.cC (.v 0)<|.g 5)])]),
 .asg 1 (.bin .Add (.v 1)<|.lst [(.tup [(.c<|.str "node"),(.cC (.v 0)<|.g 6)]),(.tup [(.c<|.str "cursor"),(.cC (.v 0)<|.g 7)])]),
 .asg 1 (.bin .Add (.v 1)<|.lst [(.tup [(.c<|.str "deed"),(.cC (.v 0)<|.g 8)]),(.tup [(.c<|.str "letter"),(.cC (.v 0)<|.g 9)])]),
 .asg 1 (.bin .Add (.v 1)<|.lst [(.tup [(.c<|.str "gone"),(.cC (.v 0)<|.g 10)]),(.tup [(.c<|.str "hand"),(.cC (.v 0)<|.g 11)]),(.tup [(.c<|.str "note"),(.cC (.v 0)<|.g 12)])]),
 .jY 2 (.comp (some 2) [] .list [.v 1] (some<|.v 1)<|.v 0),
 .ite (.or [(.not<|.cC (.v 0)<|.g 13),(.not<|.cC (.v 0)<|.c<|.ty "ValueError")]) [.drop<|.dU .append (.v 2) [(.c<|.str "bare")]] [],
 .ret (.dU .join (.c (.str "/")) [.v 2])]
def j_:List Str:=["BadText","BadChange","BadFit","NoPlace","BadSide","NoMark","NoNode","NoCursor","BadDeed","BadLetter","NoLetter","NoHand","NoNote","InkError"]
def ka:List Str:=["isinstance","ValueError"]
def Ec:List Str:=["thing","least","most"]
noncomputable def Ed:List RS:=
 [.ret<|.and [(.call 0 [.v 0]),(.iM .LtE .LtE (.v 1) (.v 0)<|.v 2)]]
def yJ:List Str:=["is_whole"]
def yK:List Str:=["_law_found_here"]
noncomputable def Ee:List RS:=
 [.ret<|.and [(.d_ .int<|.v 0),(.not<|.d_ .bool<|.v 0)]]
end L2.B
namespace L2
open PySem PySem.Spec PyProof.Rows
section
variable {X:Cx}
def yL(K:Frag):List V->Hp->VK->Prop:=fun xs H Q=>∃(p:Addr) (bs:List Bool),xs=[.ref p]/\aw K H p (bs.map V.bl)/\Q (.bl<|bs.all id) H
theorem Ef:∀{bs:List Bool}{us:List Value},Vals (bs.map V.bl) us->us=bs.map Value.bool
 |[],_,.nil=>rfl
 |b::r,_,.cons e t=>by
  have e':_=Value.bool b:=e;rw[zak,<-Ef t,e']
theorem all_range(bs:List Bool):((List.range bs.length).all fun i=>(bs[i]?).getD true)=bs.all id:=by
 rw[zbj,zbc,zbc]
 constructor
 ·intro h b hb;obtain⟨i,hi,rfl⟩:=zbz hb;have:=h i (zaY.mpr hi)
  simpa[hi] using this
 ·intro h i hi;have hi:=zaY.mp hi;have:=h _ (zaV hi)
  simpa[hi] using this
theorem QI(hc:X.calm=true):bQ X (.builtin "all") (yL X.K):=by
 intro pins s σ H xs us Q I r h;obtain⟨p,bs,rfl,hq,q⟩:=h;obtain⟨u,rfl,ru⟩:=vals1 r;cases ru;obtain⟨aj,rv,pl,hz⟩:=I.list hq;have e:=Ef rv;subst e;have aI: @LT.lt Nat _ p s.heap.objs.size:=by obtain⟨_,e,_⟩:=pl.isList;exact Heap.lt_size e
 refine call_all_walk<|wpAny_pyIter_list pl.isList ?_;refine⟨s.heap.objs.size,[s.heap.objs.size,p],[s.heap.objs.size],(bs.map Value.bool).toArray.size,_,_,fun i=>(bs[i]?).getD true,rfl,
  Walks.list (A:=X.A.in1) (I.ok.hd hc) _ p (zab aI) _,⟨⟨_,Heap.get?_push_size _ rfl,rfl,rfl⟩,pl.isList.push _⟩,fun i v s' Q' E' hP hQ=>?_,fun h' tk hk=>?_⟩
 ·have rB:(bs.map Value.bool)[i]?=some v:=by simpa using hP
  rw[zah] at rB;cases eb:bs[i]? with
  |none=>rw[eb] at rB;cases rB
  |some b=>
   rw[eb] at rB;cases rB;have Eg:Q' ((bs[i]?).getD true) s':=hQ;rw[eb] at Eg;exact wpAny_truthy_bool Eg
 ·have e:((List.range (bs.map Value.bool).toArray.size).all fun i=>(bs[i]?).getD true)=bs.all id:=by
   have e0:(bs.map Value.bool).toArray.size=bs.length:=by simp
   rw[e0];exact all_range bs
  rw[e];refine⟨.bl _,H,I.kept (t':=tk) fun b o e=>?_,rfl,q⟩;exact hk b o (fun hm=>by rw[zaj.mp hm] at e;exact zaB _ (Heap.lt_size e))<|Heap.get?_push_of_some _ e
theorem boot_all:bootBuiltins "all"=some (.builtin "all"):=by decide+kernel
end
def rC:Frag->TA->TE:=fun K t=>dg (yL K) t
section
variable {CX:bE}{S:bS}{Γ:aN}{X:Cx}{e e2 a b c d:Expr}{es:List Expr}{x:Str}{p q pos:Pos}{r ra rb rc:RE}{rs:List RE}{i j:Nat}
theorem Eh(G:Good CX S Γ X)(hA:PA X (e::es) (aL Γ (r::rs)))(h:kB S x "all"=true:=by kernel_rfl)(hn:dG (e::es)=true:=by kernel_rfl)(hq:S.md=0:=by rfl):PE X (.Call (.Name x p) (e::es) [] pos) (ag Γ<|.xt rC (r::rs)):=by
 simp only[kB,zac,decide_eq_true_eq] at h
 obtain⟨⟨rfl,h2⟩,h3⟩:=h;show PE X _ (dg (yL Γ.K)<|aL Γ (r::rs));rw[<-G.K];exact kW (QI<|G.calm hq) (G.gl h2) (G.dF _ h3) boot_all hA (by decide) (by decide) (cY (b9 hn).1)<|fS _ _ es (b9 hn).2
theorem QJ{T:Frag->TA->TE}(G:Good CX S Γ X)(h:PE X (.Call a es [] p) (ag Γ<|.xt T rs)):PT X (.Call a es [] p) (aU Γ<|.xt T rs):=by
 show PT X _ (eF Γ.K<|ag Γ<|.xt T rs);rw[<-G.K];exact q8 h fun _=>rfl
end
end L2
namespace L2.B
open PySem PySem.Spec PyProof.Rows
end L2.B
namespace L2
open PySem PySem.Spec PyProof.Rows
section
variable {X:Cx}
end
section
variable {X:Cx}
end
end L2
namespace L2.B
open PySem PySem.Spec PyProof.Rows
end L2.B
namespace L2.yM
open PySem PySem.W PyProof.Rows
structure Ord (n:Nat) (lt:Nat->Nat->Bool):Prop where
 aQ:∀i j,i<n->j<n->i≠j->lt i j=true\/lt j i=true
 QK:∀i j,i<n->j<n->lt i j=true->lt j i=false
 tr:∀i j k,i<n->j<n->k<n->lt i j=true->lt j k=true->lt i k=true
def at'(p:Array Nat)(i:Nat):Nat:=p.getD i 0
structure Pm (n:Nat) (p:Array Nat):Prop where
 sz:p.size=n
 pm:p.toList.Perm (List.range n)
theorem rD{p:Array Nat}(h:i<p.size):at' p i=p[i]:=by simp[at',Array.getD,h]
theorem rE{p q:Array Nat}(h:p[i]?=q[j]?):at' p i=at' q j:=by
 unfold at';rw[Array.getD_eq_getD_getElem?,Array.getD_eq_getD_getElem?,h]
section
variable {n:Nat}{lt:Nat->Nat->Bool}{p:Array Nat}
theorem Pm.inR(P:Pm n p)(h:i<n):at' p i<n:=by
 have hs:i<p.size:=by rw[P.sz];exact h
 rw[rD hs];have hm:p[i]∈p.toList:=by simp
 exact zaY.mp<|P.pm.subset hm
theorem Pm.ne(P:Pm n p)(hi:i<n)(hj:j<n)(h:i≠j):at' p i≠at' p j:=by
 have hs:i<p.size:=by rw[P.sz];exact hi
 have cZ:j<p.size:=by rw[P.sz];exact hj
 rw[rD hs,rD cZ];have nd:p.toList.Nodup:=P.pm.nodup_iff.mpr List.nodup_range;intro e;have e2:p.toList[i]'(by simpa using hs)=p.toList[j]'(by simpa using cZ):=by simpa using e
 exact h<|(zbr nd).mp e2
theorem Pm.perm(P:Pm n p){q:Array Nat}(h:q.Perm p):Pm n q:=⟨by rw[h.size_eq,P.sz],h.toList.trans P.pm⟩
def Up(lt:Nat->Nat->Bool)(p:Array Nat)(k:Nat):Prop:= ∀i j,i<j->j<k->lt (at' p i) (at' p j)=true
def Dn(lt:Nat->Nat->Bool)(p:Array Nat)(k:Nat):Prop:= ∀i j,i<j->j<k->lt (at' p j) (at' p i)=true
theorem Up.snoc(O:Ord n lt)(P:Pm n p){k:Nat}(U:Up lt p k)(hk:k<n)(h1:1<=k)(h:lt (at' p k) (at' p<|k - 1)=false):Up lt p (k+1):=by
 intro i j iP hj;by_cases e:j=k
 ·subst e;have l1:lt (at' p<|j - 1) (at' p j)=true:=by
   rcases O.aQ _ _ (P.inR (i:=j - 1) (by lia)) (P.inR hk) (P.ne (by lia) hk (by lia)) with z|z
   ·exact z
   ·rw[z] at h;cases h
  by_cases e2:i=j - 1
  ·rw[e2];exact l1
  ·exact O.tr _ _ _ (P.inR (by lia)) (P.inR (by lia)) (P.inR hk) (U i (j - 1) (by lia) (by lia)) l1
 ·exact U i j iP (by lia)
theorem Dn.snoc(O:Ord n lt)(P:Pm n p){k:Nat}(U:Dn lt p k)(hk:k<n)(h1:1<=k)(h:lt (at' p k) (at' p<|k - 1)=true):Dn lt p (k+1):=by
 intro i j iP hj;by_cases e:j=k
 ·subst e;by_cases e2:i=j - 1
  ·rw[e2];exact h
  ·exact O.tr _ _ _ (P.inR hk) (P.inR (by lia)) (P.inR (by lia)) h (U i (j - 1) (by lia) (by lia))
 ·exact U i j iP (by lia)
theorem Up.one:Up lt p 1:=fun i j iP hj=>by lia
variable {cmp:Nat->Nat->(Bool->Shared->Prop)->Shared->Prop}{R:Shared->Prop}
def lK(n:Nat)(lt:Nat->Nat->Bool)(cmp:Nat->Nat->(Bool->Shared->Prop)->Shared->Prop)(R:Shared->Prop):Prop:=
 ∀i j (C:Bool->Shared->Prop),i<n->j<n->i≠j->(∀s,R s->C (lt i j) s)->∀s,R s->cmp i j C s
def TR(cmp:Nat->Nat->(Bool->Shared->Prop)->Shared->Prop)(R:Shared->Prop){α:Type}(t:KasT α)(P:α->Prop):Prop:= ∀Q:α->Shared->Prop,(∀a s,P a->R s->Q a s)->∀s,R s->t.kasWp cmp Q s
theorem TR.ret{α:Type}{a:α}{P:α->Prop}(h:P a):TR cmp R (.ret a) P:=fun Q q s r=>q a s h r
theorem TR.ask{α:Type}{i j:Nat}{k:Bool->KasT α}{P:α->Prop}(A:lK n lt cmp R)(hi:i<n)(hj:j<n)(ne:i≠j)(h:TR cmp R (k<|lt i j) P):TR cmp R (.ask i j k) P:=fun Q q s r=>A i j _ hi hj ne (fun s' r'=>h Q q s' r') s r
theorem TR.bind{α β:Type}{t:KasT α}{f:α->KasT β}{P1:α->Prop}{P:β->Prop}(h:TR cmp R t P1)(h2:∀a,P1 a->TR cmp R (f a) P):TR cmp R (t.bind f) P:=fun Q q s r=>by
 rw[KasT.kasWp_bind];exact h _ (fun a s' p1 r'=>h2 a p1 Q q s' r') s r
theorem TR.mono{α:Type}{t:KasT α}{P P':α->Prop}(h:TR cmp R t P)(hp:∀a,P a->P' a):TR cmp R t P':=fun Q q s r=>h Q (fun a s' pa r'=>q a s' (hp a pa) r') s r
theorem yN(O:Ord n lt)(A:lK n lt cmp R)(P:Pm n p):∀(f k:Nat),1<=k->k+f=n->Up lt p k->TR cmp R (kas_asc p f k) fun m=>k<=m/\m<=n/\Up lt p m/\(m=n\/lt (at' p m) (at' p<|m - 1)=true)
 | 0,k,h1,h2,U=>TR.ret ⟨zqR _,by lia,U,.inl (by lia)⟩
 |f+1,k,h1,h2,U=>by
  refine TR.ask A (P.inR (by lia)) (P.inR (by lia)) (P.ne (by lia) (by lia) (by lia)) ?_
  cases hc:lt (p.getD k 0) (p.getD (k - 1) 0) with
  |true=>exact TR.ret ⟨zqR _,by lia,U,.inr hc⟩
  |false=>exact(yN O A P f (k+1) (by lia) (by lia)<|U.snoc O P (by lia) h1 hc).mono fun m ⟨a,b,c,d⟩=>⟨by lia,b,c,d⟩
theorem Ei(O:Ord n lt)(A:lK n lt cmp R)(P:Pm n p):∀(f k:Nat),1<=k->k+f=n->Dn lt p k->TR cmp R (kas_desc f p k 0) fun r=>r.1=p/\r.2.2=0/\k<=r.2.1/\r.2.1<=n/\Dn lt p r.2.1
 | 0,k,h1,h2,U=>TR.ret ⟨rfl,rfl,zqR _,by show k<=n;lia,U⟩
 |f+1,k,h1,h2,U=>by
  refine TR.ask A (P.inR (by lia)) (P.inR (by lia)) (P.ne (by lia) (by lia) (by lia)) ?_
  cases hc:lt (p.getD k 0) (p.getD (k - 1) 0) with
  |true=>
   exact(Ei O A P f (k+1) (by lia) (by lia)<|U.snoc O P (by lia) h1 hc).mono fun r ⟨a,b,c,d,e⟩=>⟨a,b,by lia,d,e⟩
  |false=>
   have l1:lt (p.getD (k - 1) 0) (p.getD k 0)=true:=by
    rcases O.aQ _ _ (P.inR (i:=k - 1) (by lia)) (P.inR (i:=k) (by lia)) (P.ne (by lia) (by lia) (by lia)) with z|z
    ·exact z
    ·have z':lt (p.getD k 0) (p.getD (k - 1) 0)=true:=z;rw[z'] at hc;cases hc
   show TR cmp R (.ask (p.getD (k - 1) 0) (p.getD k 0) fun d=>if d=true then .ret (p,k,0) else kas_desc f p (k+1) (0+1)) _
   refine TR.ask A (P.inR (by lia)) (P.inR (by lia)) (P.ne (by lia) (by lia) (by lia)) ?_
   rw[l1];exact TR.ret ⟨rfl,rfl,zqR _,by show k<=n;lia,U⟩
theorem Ej{p:Array Nat}{m:Nat}(hm:m<=p.size):at' (kas_rev p 0 m) i=if i<m then at' p (m - 1 - i) else at' p i:=by
 have e:=getElem?_mirror_all (xs:=p) (i:=0) hm i;by_cases h:i<m
 ·rw[if_pos ⟨zqZ _,h⟩,show 0+m - 1 - i=m - 1 - i by lia] at e
  rw[if_pos h];exact rE e
 ·rw[if_neg fun z=>h z.2] at e;rw[if_neg h];exact rE e
theorem Dn.rev{m:Nat}(hm:m<=p.size)(U:Dn lt p m):Up lt (kas_rev p 0 m) m:=by
 intro i j iP hj;rw[Ej hm,Ej hm,if_pos (by lia),if_pos hj]
 exact U (m - 1 - j) (m - 1 - i) (by lia) (by lia)
theorem Pm.rev(P:Pm n p)(m:Nat):Pm n (kas_rev p 0 m):=P.perm (mirror_perm _ _ _ _)
def Good(n:Nat)(lt:Nat->Nat->Bool)(r:Nat×Array Nat):Prop:=1<=r.1/\r.1<=n/\Pm n r.2/\Up lt r.2 r.1
theorem QL(O:Ord n lt)(A:lK n lt cmp R)(P:Pm n p)(hn:1<=n):TR cmp R (kas_count n p) (Good n lt):=by
 refine TR.bind (yN O A P (n - 1) 1 (zqR _) (by lia) Up.one) fun m ⟨h1,h2,U,h3⟩=>?_
 by_cases e:m=n
 ·rw[if_pos (by simp[e])]
  exact TR.ret ⟨h1,h2,P,U⟩
 ·rw[if_neg (by simp[e])]
  have hd:lt (at' p m) (at' p<|m - 1)=true:=by rcases h3 with h|h;exact absurd h e;exact h
  by_cases g:m>1
  ·rw[if_pos g];refine TR.ask A (P.inR (by lia)) (P.inR (by lia)) (P.ne (by lia) (by lia) (by lia)) ?_
   have c:=U 0 (m - 1) (by lia) (by lia)
   have c':lt (p.getD 0 0) (p.getD (m - 1) 0)=true:=c;rw[c'];exact TR.ret ⟨h1,h2,P,U⟩
  ·rw[if_neg g];have em:m=1:=by lia
   subst em;have D2:Dn lt p 2:=by
    intro i j iP hj;have e1:i=0:=by lia
    have e2:j=1:=by lia
    subst e1 e2;exact hd
   refine TR.bind (Ei O A P (n - (1+1)) (1+1) (by lia) (by lia) D2) fun r ⟨a,b,c,d,f⟩=>?_
   rw[if_neg (by lia),a]
   have U2:=f.rev (by rw[P.sz];exact d)
   refine TR.bind (yN O A (P.rev r.2.1) (n - r.2.1) r.2.1 (by lia) (by lia) U2) fun m2 ⟨a1,a2,a3,a4⟩=>?_
   exact TR.ret ⟨by show 1<=m2;lia,a2,P.rev _,a3⟩
theorem yO(O:Ord n lt)(A:lK n lt cmp R)(P:Pm n p){k:Nat}(hk:k<n)(U:Up lt p k):∀(f l r:Nat),r<=k->l<=r->r - l<=f->(∀i,i<l->lt (at' p i) (at' p k)=true)->(∀i,r<=i->i<k->lt (at' p k) (at' p i)=true)->
  TR cmp R (kas_place p k f l r) fun m=>m<=k/\(∀i,i<m->lt (at' p i) (at' p k)=true)/\∀i,m<=i->i<k->lt (at' p k) (at' p i)=true
 | 0,l,r,h1,h2,h3,ha,hb=>TR.ret ⟨by lia,ha,fun i hi=>hb i (by lia)⟩
 |f+1,l,r,h1,h2,h3,ha,hb=>by
  unfold kas_place;by_cases e:l≥r
  ·rw[if_pos e];exact TR.ret ⟨by lia,ha,fun i hi=>hb i (by lia)⟩
  ·rw[if_neg e];have hm:(l+r) / 2<k:=by lia
   refine TR.ask A (P.inR hk) (P.inR (by lia)) (P.ne hk (by lia) (by lia)) ?_
   cases hc:lt (p.getD k 0) (p.getD ((l+r) / 2) 0) with
   |true=>
    refine yO O A P hk U f l ((l+r) / 2) (by lia) (by lia) (by lia) ha fun i hi Ek=>?_
    by_cases e2:i=(l+r) / 2
    ·rw[e2];exact hc
    ·exact O.tr _ _ _ (P.inR hk) (P.inR (by lia)) (P.inR (by lia)) hc (U _ i (by lia) Ek)
   |false=>
    have l1:lt (at' p<|(l+r) / 2) (at' p k)=true:=by
     rcases O.aQ _ _ (P.inR (i:=(l+r) / 2) (by lia)) (P.inR hk) (P.ne (by lia) hk (by lia)) with z|z
     ·exact z
     ·have z':lt (p.getD k 0) (p.getD ((l+r) / 2) 0)=true:=z;rw[z'] at hc;cases hc
    refine yO O A P hk U f ((l+r) / 2+1) r h1 (by lia) (by lia) (fun i hi=>?_) hb
    by_cases e2:i=(l+r) / 2
    ·rw[e2];exact l1
    ·exact O.tr _ _ _ (P.inR (by lia)) (P.inR (by lia)) (P.inR hk) (U i _ (by lia) (by lia)) l1
theorem El{p:Array Nat}{k m:Nat}(hk:k<p.size)(hm:m<=k):at' (bubble p k<|k - m) i=if i=m then at' p k else if m<i/\i<=k then at' p (i - 1) else at' p i:=by
 have e:=getElem?_bubble hk (k - m) (by lia) i
 rw[show k - (k - m)=m by lia] at e
 by_cases h:i=m
 ·rw[if_pos h] at e⊢;exact rE e
 ·rw[if_neg h] at e⊢;by_cases g:m<i/\i<=k
  ·rw[if_pos g] at e⊢;exact rE e
  ·rw[if_neg g] at e⊢;exact rE e
theorem Em(O:Ord n lt)(A:lK n lt cmp R):∀(f k:Nat) (p:Array Nat),Pm n p->k+f=n->Up lt p k->TR cmp R (kas_bin f p k) fun q=>Pm n q/\Up lt q n
 | 0,k,p,P,h,U=>TR.ret ⟨P,by rw[show n=k by lia];exact U⟩
 |f+1,k,p,P,h,U=>by
  have hk:k<n:=by lia
  refine TR.bind (yO O A P hk U k 0 k (zqR _) (zqZ _) (by lia) (fun i hi=>by lia) (fun i hi Ek=>by lia)) fun m ⟨hm,ha,hb⟩=>?_
  refine Em O A f (k+1) _ (P.perm<|bubble_perm _ _ _) (by lia) ?_
  intro i j iP hj;have hs:k<p.size:=by rw[P.sz];exact hk
  rw[El hs hm,El hs hm];by_cases e1:i=m
  ·rw[if_pos e1,if_neg (by lia),if_pos (by lia)]
   exact hb (j - 1) (by lia) (by lia)
  ·rw[if_neg e1];by_cases e2:j=m
   ·rw[if_pos e2,if_neg (by lia)]
    exact ha i (by lia)
   ·rw[if_neg e2];by_cases e3:m<i/\i<=k
    ·rw[if_pos e3,if_pos (by lia)]
     exact U (i - 1) (j - 1) (by lia) (by lia)
    ·rw[if_neg e3];by_cases e4:m<j/\j<=k
     ·rw[if_pos e4];exact U i (j - 1) (by lia) (by lia)
     ·rw[if_neg e4];exact U i j iP (by lia)
theorem QM(O:Ord n lt)(A:lK n lt cmp R)(hn:1<=n):TR cmp R (kas_sort n) fun q=>Pm n q/\Up lt q n:=by
 have P0:Pm n (List.toArray<|List.range n):=⟨by simp,List.Perm.refl _⟩
 refine TR.bind (QL O A P0 hn) fun r ⟨h1,h2,P,U⟩=>?_;by_cases e:r.1<n
 ·rw[if_pos e,show max r.1 1=r.1 by lia]
  exact Em O A _ _ _ P (by lia) U
 ·rw[if_neg e];exact TR.ret ⟨P,by rw[show n=r.1 by lia];exact U⟩
end
end L2.yM
namespace L2
open PySem PySem.Spec PyProof.Rows PySem.W L2.yM
section
variable {X:Cx}
theorem yP:bootBuiltins "sorted"=some (.builtin "sorted"):=by decide+kernel
end
end L2
namespace L2
open PySem PySem.Spec PyProof.Rows
end L2
namespace L2.B
open PySem PySem.Spec PyProof.Rows
end L2.B
namespace L2
open PySem PySem.Spec PyProof.Rows
def rF:List (TE×TE)->St->Hp->(List (V×V)->Hp->Prop)->Prop
 |[],_,H,Q=>Q [] H
 |(tk,tv)::r,σ,H,Q=>tk σ H fun x H1=>tv σ H1 fun y H2=>rF r σ H2 fun ps H3=>Q ((x,y)::ps) H3
abbrev VV:List (V×V)->List (Value×Value)->Prop:=Paired fun p q=>RelV p.1 q.1/\RelV p.2 q.2
def lL(X:Cx)(pos:Pos)(keys:List (Option Expr))(values:List Expr)(kb:List (TE×TE)):Prop:=
 ∀(pins:List (Addr×Obj)) (s:Shared) (σ:St) (H:Hp) (Q:List (V×V)->Hp->Prop),Inv X pins σ H s->rF kb σ H Q->
  wpAny (model X.prog X.w) X.A (evalPairs<|pairTrees keys values X.env pos) (fun vs s'=>∃ps H',Inv X pins σ H' s'/\VV ps vs/\Q ps H') X.xe s
theorem QN{X:Cx}{pos:Pos}:lL X pos [] [] []:=fun pins s σ H Q I h=>pairTrees_nil_walk ⟨[],H,I,.nil,h⟩
theorem QO{X:Cx}{pos:Pos}{k v:Expr}{ks:List (Option Expr)}{vs:List Expr}{tk tv:TE}{kb:List (TE×TE)}(hk:PE X k tk)(hv:PE X v tv)(hr:lL X pos ks vs kb):
  lL X pos (some k::ks) (v::vs) ((tk,tv)::kb):=fun pins s σ H Q I h=>
 pairTrees_cons_walk (aF (hk pins s σ H _ I h) fun u s1 ⟨x,H1,I1,rx,q1⟩=>aF (hv pins s1 σ H1 _ I1 q1) fun w2 s2 ⟨y,H2,I2,ry,q2⟩=>
  aF (hr pins s2 σ H2 _ I2 q2) fun ws s3 ⟨ps,H3,I3,rel,q3⟩=>⟨(x,y)::ps,H3,I3,.cons ⟨rx,ry⟩ rel,q3⟩)
def ia(kvs more:List (Key×V)):List (Key×V):=more.foldl (fun acc kv=>putK acc kv.1 kv.2) kvs
theorem KV.merge:∀{more:List (Key×V)}{rs:List (Key×Value)}{kvs:List (Key×V)}{vs:List (Key×Value)},KV more rs->KV kvs vs->KV (ia kvs more) (merged vs rs):=by
 intro more rs kvs vs r;unfold KV at r
 induction r generalizing kvs vs with
 |nil=>intro q;exact q
 | @cons p q ps qs h t ih=>
  intro r0;have e:KV (putK kvs p.1 p.2) (stored vs q.1 q.2):=by
   have:=r0.put p.1 h.2;rw[<-h.1];exact this
  exact ih e
theorem En:∀(more kvs:List (Key×V)),(ia kvs more).length<=kvs.length+more.length
 |[],kvs=>by show kvs.length<=kvs.length+0;omega
 |p::r,kvs=>by
  have h1:=En r (putK kvs p.1 p.2);have h2:=xk kvs p.1 p.2;show(ia (putK kvs p.1 p.2) r).length<=_;rw[zax];omega
theorem Eo{P:Program}{w:World}:∀{kvs:List (Key×V)}{ws:List (Value×Value)},VV (kvs.map fun kv=>(kV kv.1,kv.2)) ws->∃rs,Carries (ck P w) ws rs/\KV kvs rs
 |[],_,r=>by rw[zaH] at r;cases r;exact⟨[],True.intro,.nil⟩
 |p::kvs,_,r=>by
  rw[zak] at r;cases r with
  | @cons a b as bs h t=>
   obtain⟨rs,c,q⟩:=Eo (P:=P) (w:=w) t;obtain⟨b1,b2⟩:=b;exact⟨(p.1,b2)::rs,⟨oF h.1,rfl,c⟩,.cons ⟨rfl,h.2⟩ q⟩
def yQ(kb:List (TE×TE)):TE:=fun σ H Q=>∀p,H p=none->rF kb σ (upd H p<|.dK []) fun ps H2=>H2 p=some (.dK [])/\∃kvs:List (Key×V),ps=kvs.map (fun kv=>(kV kv.1,kv.2))/\kvs.length<=15/\Q (.ref p) (upd H2 p<|.dK<|ia [] kvs)
theorem QP{X:Cx}{pos:Pos}{keys:List (Option Expr)}{values:List Expr}{kb:List (TE×TE)}(h:lL X pos keys values kb)(mD:keys.all (·.isSome)=true)(hl:keys.length=values.length)(h0:keys≠ [])
  (QR:keys.length<=15):PE X (.Dict keys values pos) (yQ kb):=by
 intro pins s σ H Q I q;have hn:=I.aA.fresh (zqR s.heap.objs.size);have I1:=I.laid (a:=s.heap.objs.size) (o:=.dK []) (h':=s.heap.push {cls:=.type "dict",data:=.dict #[]}) (t':=s.toks) (fun _ _ q=>Heap.get?_push_of_some _ q) (zqR _) (MG s.heap I.big);refine wpAny_Dict_walk (knd:=ck X.prog X.w) mD hl h0 QR<|aF (h pins _ σ _ _ I1<|q _ hn) fun ws s2 ⟨ps,H2,I2,rel,e,kvs,ep,lk,q2⟩=>?_;subst ep;obtain⟨rs,c,rk⟩:=Eo (P:=X.prog) (w:=X.w) rel;obtain⟨z,hd,ZK,r0,dd⟩:=mG I2.aA e;cases r0;refine⟨rs,c,dd,fun h' je hs=>⟨.ref s.heap.objs.size,_,?_,rfl,q2⟩⟩;have hz:(ia [] kvs).length<=sizeLine:=by
  have h1:=En kvs [];rw[List.length_nil] at h1;rw[sizeLine_eq];omega
 have he:∃q,h'.get? s.heap.objs.size=some q:=let ⟨q,_,_,hq,_⟩:=je;⟨q,hq⟩;exact ug I2 (by rw[e];exact True.intro) hs he<|xo hz hd (rk.merge .nil) je
def nr:List (Key×V)->List V
 |[]=>[]
 |kv::r=>kV kv.1::kv.2::nr r
def nu:List (V×V)->List V
 |[]=>[]
 |p::r=>p.1::p.2::nu r
def o7:Frag->TA->TE:=fun _ t σ H Q=>∀p,H p=none->t σ (upd H p<|.dK []) fun vs H2=>H2 p=some (.dK [])/\∃kvs:List (Key×V),vs=nr kvs/\kvs.length<=15/\Q (.ref p) (upd H2 p<|.dK<|ia [] kvs)
def lM(Γ:aN):List RE->List (TE×TE)
 |a::b::r=>(ag Γ a,ag Γ b)::lM Γ r
 |_=>[]
theorem yR{Γ:aN}{σ:St}:∀(rs:List RE) (H:Hp) (Q:List V->Hp->Prop),rs.length % 2=0->aL Γ rs σ H Q=rF (lM Γ rs) σ H fun ps H2=>Q (nu ps) H2
 |[],H,Q,_=>rfl
 |[a],H,Q,e=>absurd e (by show ¬(1 % 2=0);decide)
 |a::b::r,H,Q,e=>by
  have e':r.length % 2=0:=by
   have:(r.length+1+1) % 2=0:=e;lia
  show(ag Γ a σ H fun x H1=>ag Γ b σ H1 fun y H2=>aL Γ r σ H2 fun vs H3=>Q (x::y::vs) H3)=ag Γ a σ H fun x H1=>ag Γ b σ H1 fun y H2=>rF (lM Γ r) σ H2 fun ps H3=>Q (x::y::nu ps) H3
  congr 1
  funext x H1
  congr 1
  funext y H2
  exact yR r H2 (fun vs H3=>Q (x::y::vs) H3) e'
theorem uZ:∀(ps:List (V×V)) (kvs:List (Key×V)),nu ps=nr kvs↔ps=kvs.map fun kv=>(kV kv.1,kv.2)
 |[],[]=>⟨fun _=>rfl,fun _=>rfl⟩
 |[],kv::r=>⟨(fun h=>by cases h),(fun h=>by cases h)⟩
 |p::ps,[]=>⟨(fun h=>by cases h),(fun h=>by cases h)⟩
 |p::ps,kv::r=>by
  constructor
  ·intro h;have h1:p.1=kV kv.1:=(zbd h).1;have h2:p.2=kv.2:=(zbd (zbd h).2).1;have h3:=(uZ ps r).mp (zbd (zbd h).2).2;rw[h3,zak,<-h1,<-h2]
  ·intro h;rw[zak] at h;obtain⟨h1,h2⟩:=zbd h;show p.1::p.2::nu ps=kV kv.1::kv.2::nr r;rw[(uZ ps r).mpr h2,h1]
theorem QS{K:Frag}(rs:List RE)(e:rs.length % 2=0):o7 K (aL Γ rs)=yQ (lM Γ rs):=by
 funext σ H Q
 unfold o7 yQ
 apply propext
 constructor
 ·intro h p hp;have:=h p hp;rw[yR rs _ _ e] at this;have e2:(fun(ps:List (V×V)) (H2:Hp)=>H2 p=some (.dK [])/\∃kvs:List (Key×V),nu ps=nr kvs/\kvs.length<=15/\Q (.ref p) (upd H2 p<|.dK<|ia [] kvs))=fun ps H2=>H2 p=some (.dK [])/\∃kvs:List (Key×V),ps=kvs.map (fun kv=>(kV kv.1,kv.2))/\kvs.length<=15/\Q (.ref p) (upd H2 p<|.dK<|ia [] kvs):=by
   funext ps H2
   simp only[uZ]
  rw[e2] at this;exact this
 ·intro h p hp;have:=h p hp;rw[yR rs _ _ e];have e2:(fun(ps:List (V×V)) (H2:Hp)=>H2 p=some (.dK [])/\∃kvs:List (Key×V),nu ps=nr kvs/\kvs.length<=15/\Q (.ref p) (upd H2 p<|.dK<|ia [] kvs))=fun ps H2=>H2 p=some (.dK [])/\∃kvs:List (Key×V),ps=kvs.map (fun kv=>(kV kv.1,kv.2))/\kvs.length<=15/\Q (.ref p) (upd H2 p<|.dK<|ia [] kvs):=by
   funext ps H2
   simp only[uZ]
  rw[e2];exact this
section
variable {CX:bE}{S:bS}{Γ:aN}{X:Cx}{pos:Pos}{k v:Expr}{ks:List (Option Expr)}{vs:List Expr}{rk rv:RE}{rs:List RE}
theorem QU:lL X pos [] [] (lM Γ []):=QN
theorem yS(hk:PE X k (ag Γ rk))(hv:PE X v (ag Γ rv))(h:lL X pos ks vs (lM Γ rs)):lL X pos (some k::ks) (v::vs) (lM Γ (rk::rv::rs)):=QO hk hv h
def Ep(keys:List (Option Expr))(values:List Expr)(rs:List RE):Bool:=keys.all (·.isSome) && decide (keys.length=values.length) && decide (keys.length≠0) && decide (keys.length<=15) && decide (rs.length % 2=0)
theorem QV(hp:lL X pos ks vs (lM Γ rs))(h:Ep ks vs rs=true:=by kernel_rfl):PE X (.Dict ks vs pos) (ag Γ<|.xt o7 rs):=by
 simp only[Ep,zac,decide_eq_true_eq] at h
 obtain⟨⟨⟨⟨h1,h2⟩,h3⟩,h4⟩,h5⟩:=h;show PE X _ (o7 Γ.K<|aL Γ rs);rw[QS rs h5];exact QP hp h1 h2 (fun z=>h3 (by rw[z];rfl)) h4
end
end L2
namespace L2.B
open PySem PySem.Spec PyProof.Rows
end L2.B
namespace L2
open PySem PySem.Spec PyProof.Rows
end L2
namespace L2.B
open PySem PySem.Spec PyProof.Rows
end L2.B
namespace L2
open PySem PySem.Spec PyProof.Rows PySem.W
theorem Er{P:Program}{w:World}{k:Key}{u:Value}(h:(ck P w).is k u=true):RelV (kV k) u:=by
 cases k with
 |inl i=>
  rcases iy (show kN (.inl i) u=true from h) with⟨j,t,e,rfl⟩|⟨x,t,e,rfl⟩
  ·cases e;exact⟨t,rfl⟩
  ·cases e
 |inr x=>
  rcases iy (show kN (.inr x) u=true from h) with⟨j,t,e,rfl⟩|⟨y,t,e,rfl⟩
  ·cases e
  ·cases e;exact⟨t,rfl⟩
theorem yT{P:Program}{w:World}:∀{kvs:List (Key×V)}{vs:List (Key×Value)}{l:List Value},KV kvs vs->l.length=vs.length->(∀(j:Nat) (v:Value),l[j]?=some v->∃k x,vs[j]?=some (k,x)/\(ck P w).is k v=true)->Vals (kvs.map fun p=>kV p.1) l
 |[],[],[],_,_,_=>.nil
 |p::r,q::s,u::us,h,hl,hp=>by
  cases h with
  |cons h1 h2=>
   obtain⟨k,x,e,hk⟩:=hp 0 u rfl;cases e;refine .cons ?_<|yT (P:=P) (w:=w) h2 (by simpa using hl) fun j v hj=>?_
   ·have:=Er hk;have e1:p.1=k:=h1.1;show RelV (kV p.1) u;rw[e1];exact this
   ·obtain⟨k',x',e',mQ⟩:=hp (j+1) v (by simpa using hj)
    exact⟨k',x',by simpa using e',mQ⟩
 |[],[],_::_,_,hl,_=>by simp at hl
 |_::_,_::_,[],_,hl,_=>by simp at hl
def rG(K:Frag):List V->Hp->VK->Prop:=fun xs H Q=>∃p kvs,xs=[.ref p]/\H p=some (.dK kvs)/\∀l,H l=none->Q (.ref l) (upd H l<|.lst<|kvs.map fun p=>kV p.1)
def o8(K:Frag):List V->Hp->VK->Prop:=fun xs H Q=>∃p kvs,∃ns:List Int,xs=[.ref p]/\H p=some (.dK kvs)/\(kvs.map fun p=>kV p.1)=ns.map V.int/\ns.length<64/\
 ∀l,∀ms:List Int,H l=none->ms.Perm ns->ms.Pairwise (· <= ·)->Q (.ref l) (upd H l<|.lst<|ms.map V.int)
theorem yU:∀{vs:List Value}{ns:List Int},IntsAre vs ns->Vals (ns.map V.int) vs
 |_,_,.nil=>.nil
 |_,_,.cons _ _ h=>.cons ⟨_,rfl⟩ (yU h)
section
variable {X:Cx}
theorem QW(hc:X.calm=true):bQ X (.type "list") (rG X.K):=by
 intro pins s σ H xs us Q I r h;obtain⟨p,kvs,rfl,hp,q⟩:=h;obtain⟨u,rfl,ru⟩:=vals1 r;cases ru;obtain⟨hz,hd,vs,kv,dd⟩:=mG I.aA hp;obtain⟨ep,yV⟩:=dd.dictAt;have hl:=kv.length;refine kdl_call (kdl_dict (knd:=ck X.prog X.w) (kvs:=vs) (ep:=ep) hd) (I.ok.hd hc) yV (by omega) fun h' tk qF c' hk e mY=>?_
 exact⟨.ref s.heap.objs.size,_,I.laid (t':=tk) hk (zqR _) (show bI X.prog X.w _ h' _ (.lst<|kvs.map fun p=>kV p.1) from⟨by rw[zaa];exact hz,qF.toList,c',yT kv (by simpa using mY.1)<|fun j v hj=>mY.2 j v (by simpa using hj),by simpa using e⟩),rfl,q _<|I.aA.fresh<|zqR _⟩
theorem QX(hc:X.calm=true):bQ X (.builtin "sorted") (o8 X.K):=by
 intro pins s σ H xs us Q I r h;obtain⟨p,kvs,ns,rfl,hp,mE,cE,q⟩:=h;obtain⟨u,rfl,ru⟩:=vals1 r;cases ru;obtain⟨hz,hd,vs,kv,dd⟩:=mG I.aA hp;obtain⟨ep,yV⟩:=dd.dictAt;have hl:=kv.length;have ZL:kvs.length=ns.length:=by have:=congrArg List.length mE;simpa using this
 refine Calls.call_function_entry kind_sorted plain_sorted entry_sorted (args_sorted1 _) ?_;unfold Builtin.«sorted»;refine wpAny_bind (m:=checkCount "sorted" 1 1 _)<|wpAny_pure ?_;refine wpAny_bind<|kdu_collect (A:=X.A.in1) (kdl_dict (knd:=ck X.prog X.w) (kvs:=vs) (ep:=ep) hd) (I.ok.hd hc) yV (by omega) fun h' tk acc hk mY=>?_
 have vk:=yT (P:=X.prog) (w:=X.w) (l:=acc.toList) kv (by simpa using mY.1) (fun j v hj=>mY.2 j v (by simpa using hj))
 rw[mE] at vk;have hI:=intsAre_of vk;have ZM:acc.toList.length=ns.length:=by rw[<-Vals.length vk,zaa]
 refine wpAny_bind<|wpAny_newList ?_ (by omega)
 have g6:(h'.push<|seqObj "list" acc.toList.toArray 0).get? h'.objs.size=some (seqObj "list" acc.toList.toArray 0):=Heap.get?_push_size _ rfl;show wpAny _ _ _ _ _ {s with heap:=h'.push (seqObj "list" acc.toList.toArray 0),toks:=tk}
 refine wpAny_bind<|wpAny_holding<|wpAny_call_entry slot_list_sort ⟨_,g6,rfl⟩ entry_list_sort (list_sort_tree g6 hI (by omega) fun out ms a1 a2 a3=>⟨_,rfl,?_⟩)<|args_list_sort _
 obtain⟨e,he⟩:=sortedHeap_at (out:=out) g6;have I1:Inv X pins σ H {s with heap:=h',toks:=tk}:=I.kept (t':=tk) hk
 refine wpAny_pure ⟨_,rfl,.ref h'.objs.size,_,I1.laid (t':=tk) (fun b o eb=>?_) (zqR _) (show bI X.prog X.w _ _ _ (.lst<|ms.map V.int) from⟨by rw[zaa,a2.length_eq];omega,out.toList,e,yU a1,by simpa using he⟩),rfl,q _ ms (I1.aA.fresh<|zqR _) a2 a3⟩
 have hb:h'.get? b=some o:=eb;have aI:=Heap.lt_size hb;rw[sortedHeap_old (zab aI) (by rw[size_push'];exact zaA aI)]
 exact Heap.get?_push_of_some _ hb
end
def u_:Frag->TA->TE:=fun K t=>dg (rG K) t
def o9:Frag->TA->TE:=fun K t=>dg (o8 K) t
section
variable {CX:bE}{S:bS}{Γ:aN}{X:Cx}{e:Expr}{es:List Expr}{x:Str}{p pos:Pos}{r:RE}{rs:List RE}
theorem Es(G:Good CX S Γ X)(hA:PA X (e::es) (aL Γ (r::rs)))(h:kB S x "list"=true:=by kernel_rfl)(hn:dG (e::es)=true:=by kernel_rfl)(hq:S.md=0:=by rfl):PE X (.Call (.Name x p) (e::es) [] pos) (ag Γ<|.xt u_ (r::rs)):=by
 simp only[kB,zac,decide_eq_true_eq] at h
 obtain⟨⟨rfl,h2⟩,h3⟩:=h;show PE X _ (dg (rG Γ.K)<|aL Γ (r::rs));rw[<-G.K];exact BX (QW<|G.calm hq) (G.gl h2) (G.dF _ h3) DA hA (by decide) (by decide) (cY (b9 hn).1)<|fS _ _ es (b9 hn).2
theorem va(G:Good CX S Γ X)(hA:PA X (e::es) (aL Γ (r::rs)))(h:kB S x "sorted"=true:=by kernel_rfl)(hn:dG (e::es)=true:=by kernel_rfl)(hq:S.md=0:=by rfl):PE X (.Call (.Name x p) (e::es) [] pos) (ag Γ<|.xt o9 (r::rs)):=by
 simp only[kB,zac,decide_eq_true_eq] at h
 obtain⟨⟨rfl,h2⟩,h3⟩:=h;show PE X _ (dg (o8 Γ.K)<|aL Γ (r::rs));rw[<-G.K];exact kW (QX<|G.calm hq) (G.gl h2) (G.dF _ h3) (by decide+kernel) hA (by decide) (by decide) (cY (b9 hn).1)<|fS _ _ es (b9 hn).2
end
end L2
namespace L2.B
open PySem PySem.Spec PyProof.Rows
def yW:List Str:=["self","size"]
noncomputable def yX:List RS:=
 [.ite (.or [(.not (.call 0 [.v 1])),(.cmp .Lt (.v 1) (.c (.int 0)))]) [.hV 0 [(.c (.str "a text has no such number of signs"))]] [],
 .gH (.v 0) "signs" (.v 1),
 .gH (.v 0) "given" (.c<|.int 0),
 .gH (.v 0) "stands" .k_]
def vb:List Str:=["NoPlace"]
def Et:List Str:=["self","sided","number"]
noncomputable def Eu:List RS:=
 [.asg 2 (.fld (.v 0) "given"),
 .dput (.fld (.v 0) "stands") (.v 2) (.v 1),
 .gH (.v 0) "given" (.bin .Add (.v 2)<|.c<|.int 1),
 .ret (.v 2)]
def ib:List Str:=["self","number"]
noncomputable def yY:List RS:=
 [.ite (.or [(.not (.call 0 [.v 1])),(.oN (.v 1) (.fld (.v 0) "stands"))]) [.hV 0 [(.c (.str "there is none of that number"))]] [],
 .ret (.bR (.fld (.v 0) "stands") (.v 1))]
def QY:List Str:=["NoMark"]
def vc:List Str:=["self"]
noncomputable def Ew:List RS:=
 [.ret<|.xt o9 [(.fld (.v 0) "stands")]]
def Ex:List Str:=["sorted"]
noncomputable def Ey:List RS:=
 [.ret<|.fld (.v 0) "signs"]
def Ez:List Str:=["self","change","track","number"]
noncomputable def EA:List RS:=
 [.asg 2 (.make 0 [.v 1]),
 .ite (.cmp .NotEq (.fld (.v 2) "over")<|.fld (.v 0) "signs") [.hV 0 [(.c<|.str "the change is over a text of another number of signs")]] [],
 .fO 3 .list [(.xt u_ [(.fld (.v 0) "stands")])] [.dput (.fld (.v 0) "stands") (.v 3)<|.comp (some 2) [("track",2)] .list [(.bR (.fld (.v 0) "stands")<|.v 3)] none<|.tup [(.bo 0 "lead" (.v 2) [.v 0,.v 1]),.v 1]],
 .gH (.v 0) "signs" (.fld (.v 2) "gives")]
def yZ:List Str:=["list"]
def EB:List Str:=["lead"]
def EC:List Str:=["Track"]
def QZ:List Str:=["BadFit"]
def rH:List Str:=["self","place","side"]
noncomputable def y2:List RS:=
 [.ite (.not (.call 0 [.v 1,(.c (.int 0)),(.bo 0 "size" (.v 0) [])])) [.hV 0 [(.c (.str "the text has no such place"))]] [],
 .drop (.call 1 [.v 2]),
 .ret (.bo 1 "keep" (.v 0) [(.lst [(.tup [.v 1,.v 2])])])]
def ED:List Str:=["is_between","need_side"]
def Q0:List Str:=["size","keep"]
noncomputable def y3:List RS:=
 [.ret<|.ix (.ix (.bo 0 "stand" (.v 0) [.v 1])<|.c<|.int 0)<|.c<|.int 0]
def y4:List Str:=["stand"]
noncomputable def y6:List RS:=
 [.ret<|.ix (.ix (.bo 0 "stand" (.v 0) [.v 1])<|.c<|.int 0)<|.c<|.int 1]
structure jw (K:Frag) (C:Addr):Prop where
 cl:eV K C
 vd:eW K C "signs"
 y7:eW K C "given"
 jx:eW K C "stands"
def EE:List Str:=["row","most","least","beyond","middle"]
noncomputable def EF:List RS:=
 [.asg 2 (.c (.int 0)),
 .asg 3 (.blt .len [.v 0]),
 .xI (.cmp .Lt (.v 2) (.v 3)) [.asg 4 (.bin .FloorDiv (.bin .Add (.v 2) (.v 3)) (.c (.int 2))),
  .ite (.cmp .LtE (.ix (.v 0) (.v 4)) (.v 1)) [.asg 2 (.bin .Add (.v 4) (.c (.int 1)))] [.asg 3 (.v 4)]],
 .ret (.v 2)]
def EG:List Str:=["side"]
noncomputable def EH:List RS:=
 [.ite (.not<|.call 0 [.v 0,.g 0]) [.hV 0 [(.c<|.str "a side is left or right")]] []]
def Q2:List Str:=["is_word"]
def Q3:List Str:=["SIDES"]
def Q4:List Str:=["BadSide"]
def EI:List Str:=["self","change","old","new","word","what"]
noncomputable def EJ:List RS:=
 [.drop (.call 0 [.v 1]),
 .gH (.v 0) "olds" (.lst []),
 .gH (.v 0) "news" (.lst []),
 .gH (.v 0) "lengths" (.lst []),
 .asg 2 (.c<|.int 0),
 .asg 3 (.c<|.int 0),
 .oO [4,5] .list [.v 1] [.ite (.cmp .Eq (.v 4) (.c (.str "put"))) [.asg 3 (.bin .Add (.v 3) (.blt .len [.v 5]))] [.ite (.cmp .Eq (.v 4) (.c (.str "cut"))) [.asg 2 (.bin .Add (.v 2) (.blt .len [.v 5]))] [.drop (.dU .append (.fld (.v 0) "olds") [.v 2]),
    .drop (.dU .append (.fld (.v 0) "news") [.v 3]),
    .drop (.dU .append (.fld (.v 0) "lengths") [.v 5]),
    .asg 2 (.bin .Add (.v 2)<|.v 5),
    .asg 3 (.bin .Add (.v 3) (.v 5))]]],
 .gH (.v 0) "over" (.v 2),
 .gH (.v 0) "gives" (.v 3)]
def Q5:List Str:=["need_change"]
def vf:List Str:=["self","place","run"]
noncomputable def EK:List RS:=
 [.asg 2 (.bin .Sub (.call 0 [(.fld (.v 0) "olds"),(.bin .Sub (.v 1) (.c (.int 1)))]) (.c (.int 1))),
 .ite (.cmp .Lt (.v 2)<|.c<|.int 0) [.ret<|.c<|.int 0] [],
 .ret (.bin .Add (.ix (.fld (.v 0) "news") (.v 2)) (.blt .min [(.ix (.fld (.v 0) "lengths") (.v 2)),(.bin .Sub (.v 1) (.ix (.fld (.v 0) "olds") (.v 2)))]))]
def EL:List Str:=["many_upto"]
def Q6:List Str:=["min"]
noncomputable def EM:List RS:=
 [.asg 2 (.bin .Sub (.call 0 [(.fld (.v 0) "olds"),.v 1]) (.c (.int 1))),
 .ite (.and [(.cmp .GtE (.v 2)<|.c<|.int 0),(.cmp .Lt (.v 1)<|.bin .Add (.ix (.fld (.v 0) "olds")<|.v 2)<|.ix (.fld (.v 0) "lengths")<|.v 2)]) [.ret<|.bin .Sub (.bin .Add (.ix (.fld (.v 0) "news")<|.v 2)<|.v 1)<|.ix (.fld (.v 0) "olds")<|.v 2] [],
 .ret (.qP (.cmp .Lt (.bin .Add (.v 2) (.c (.int 1))) (.blt .len [(.fld (.v 0) "news")])) (.ix (.fld (.v 0) "news") (.bin .Add (.v 2) (.c (.int 1)))) (.fld (.v 0) "gives"))]
noncomputable def EN:List RS:=
 [.ret<|.qP (.cmp .Eq (.v 2)<|.c<|.str "left") (.bo 0 "to_left" (.v 0) [.v 1])<|.bo 1 "to_right" (.v 0) [.v 1]]
def Q7:List Str:=["to_left","to_right"]
def EO:List Str:=["change","place","side","track"]
noncomputable def ER:List RS:=
 [.asg 3 (.make 0 [.v 0]),
 .ite (.not<|.call 0 [.v 1,(.c<|.int 0),(.fld (.v 3) "over")]) [.hV 0 [(.c<|.str "the text has no such place")]] [],
 .drop (.call 1 [.v 2]),
 .ret (.bo 0 "lead" (.v 3) [.v 1,.v 2])]
structure lN (K:Frag) (C:Addr):Prop where
 cl:eV K C
 nv:eW K C "olds"
 o_:eW K C "news"
 vg:eW K C "lengths"
 y8:eW K C "over"
 y9:eW K C "gives"
end L2.B
namespace L2
open PySem PySem.Spec PyProof.Rows
def ES(od:Obj)(kvs:List (Key×V))(d:Addr):It:=
 ⟨fun i H=>H d=some (.aY od<|.dK kvs)/\i<kvs.length,fun i H x H'=>H'=H/\∃p,kvs[i]?=some p/\x=kV p.1,fun i H=>H d=some (.aY od<|.dK kvs)/\i=kvs.length⟩
def y_(ta:TA):TI:=fun σ H R=>ta σ H fun xs H1=>∃d kvs,xs=[.ref d]/\H1 d=some (.dK kvs)/\∀od,R (ES od kvs d) (upd H1 d<|.aY od<|.dK kvs)
theorem KV.get{kvs:List (Key×V)}{vs:List (Key×Value)}(h:KV kvs vs):∀{i:Nat}{p:Key×V},kvs[i]?=some p->∃q,vs[i]?=some q/\p.1=q.1:=by
 induction h with
 |nil=>intro i p e;simp at e
 |cons r t ih=>
  intro i p e;cases i with
  |zero=>simp at e;subst e;exact⟨_,by simp,r.1⟩
  |succ i=>exact ih (by simpa using e)
theorem Q8{P:Program}{w:World}{K:Frag}{tg:Expr}{od:Obj}{kvs:List (Key×V)}{vs:List (Key×Value)}{it:Addr}{ep:Nat}(ha:KdkAt (ck P w) od vs ep)(kv:KV kvs vs)(gp:d≠it):
  Turn P w K tg (ES od kvs d) [it] it (fun i h=>h.IsKeyIter it d i vs.length ep) where
 mem:=by simp
 obj:=fun i h st b hb=>by
  have e:b=it:=by simpa using hb
  subst e;obtain⟨o,e,c,d⟩:=st;exact⟨o,e,fun v z=>by rw[d] at z;cases z⟩
 keep:=fun i h h' st k=>st.at fun o e=>k it (by simp) o e
 item:=by
  intro X hP hw hK hc i pins s σ H E I hf st hg;subst hP hw hK;obtain⟨hd,hi⟩:=hg;obtain⟨f0,f1,f2,f3,f4,f5⟩:=hf it (by simp)
  have za:s.heap.get? d=some od:=(I.aA d _ hd).1;have hx:kvs[i]?=some kvs[i]:=by simp[hi]
  obtain⟨⟨qk,qx⟩,hq,hk⟩:=kv.get hx;refine wpAny_pyNext_dict_item st (ha.dictAt za) hq fun key h' wL ET cZ=>?_;have I1:Inv X pins σ H {s with heap:=h'}:=I.turned (t':=s.toks) (fun b o hb e=>cZ.extBut b o hb e) f0 f1 f3 f4 f5
  obtain⟨o,e,c,d'⟩:=id ET;have r:=Er wL;rw[show qk=kvs[i].fst from hk.symm] at r
  exact⟨key,rfl,tP (s:={s with heap:=h'}) e c d' (by decide) ⟨_,H,I1,r,⟨rfl,_,hx,rfl⟩,ET,fun b hb=>(hf b hb).1⟩⟩
 done:=by
  intro X hP hw hK hc i pins s σ H E I hf st hg;subst hP hw hK;obtain⟨hd,hi⟩:=hg;obtain⟨f0,f1,f2,f3,f4,f5⟩:=hf it (by simp)
  have za:s.heap.get? d=some od:=(I.aA d _ hd).1;have hl:=kv.length;exact wpAny_pyNext_dict_end (I.ok.hd hc) st (ha.dictAt za) (by simp;omega) fun h' eb=>⟨rfl,I.turned (t':=s.toks) (fun b o hb e=>eb b o hb e) f0 f1 f3 f4 f5⟩
 self:=fun _ _ _ _ _ st h=>wpAny_pyIter_keyiter st h
section
variable {X:Cx}{pins:List (Addr×Obj)}{σ:St}{H:Hp}{s:Shared}{d:Addr}{kvs pb:List (Key×V)}{od:Obj}
theorem Inv.freeze(I:Inv X pins σ H s)(hd:H d=some (.dK kvs))(ho:s.heap.get? d=some od):Inv X pins σ (upd H d<|.aY od<|.dK kvs) s:=by
 have mu:oq (H d):=by rw[hd];trivial
 refine I.un (t':=s.toks) (Un.write (e:=d) mu (.inl rfl) (fun _ _ _ q=>q) ⟨_,ho⟩)<|I.aA.write (e:=d) mu (.inl rfl) (fun _ _ _ q=>q) ⟨_,ho⟩ ⟨ho,(I.aA d _ hd).iA (fun _ _ _ q=>q) (fun b q=>?_) fun b xs q=>?_⟩
 ·rw[av<|iz q hd (by intro z;cases z)];exact q
 ·rw[av<|iz q hd (by intro z;cases z)];exact q
theorem Inv.Q9{H0:Hp}{s0:Shared}(I0:Inv X pins σ H0 s0)(h0:H0 d=some (.dK pb))(I:Inv X pins σ H s)(hd:H d=some (.aY od<|.dK kvs)):Inv X pins σ (upd H d<|.dK kvs) s:=by
 have nn:∀b,H b=none->b≠d:=fun b n z=>by rw[z,hd] at n;cases n
 refine⟨I.ok,I.os,I.bare,⟨I.base.keep,I.base.slot,fun b o e n hx=>?_,I.base.there,fun b xs e=>?_,fun b o u e=>?_,fun b ps e=>?_⟩,I.loc,I.cell,?_,fun x c e=>?_,fun p hp=>?_,fun b o e=>?_,I.len⟩
 ·have:=I.base.free b o e n hx;rw[av<|nn b this];exact this
 ·have:=I.base.d4 b xs e;rw[av<|iz this hd (by intro z;cases z)];exact this
 ·have h1:=I.base.dS b o u e;have h2:=I0.base.dS b o u e;rw[av (fun z=>by rw[z,h0] at h2;cases h2)];exact h1
 ·obtain⟨m,q⟩:=I.base.eT b ps e;exact⟨m,by rw[av<|iz q hd (by intro z;cases z)];exact q⟩
 ·rw[av<|nn _ I.free];exact I.free
 ·rw[av<|nn _<|I.eU x c e];exact I.eU x c e
 ·obtain⟨h1,h2,h3⟩:=I.pin p hp;exact⟨h1,by rw[av<|nn _ h2];exact h2,h3⟩
 ·have ho:∀c,H b=some o\/b=d->H c=some (.own b)->upd H d (.dK kvs) c=some (.own b):=fun c _ q=>by rw[av<|iz q hd (by intro z;cases z)];exact q
  by_cases hb:b=d
  ·subst hb;rw[az] at e;cases e;exact(I.aA b _ hd).2.iA (fun _ _ _ q=>q) (fun c q=>by rw[av<|iz q hd (by intro z;cases z)];exact q) fun c xs q=>by rw[av<|iz q hd (by intro z;cases z)];exact q
  ·rw[av hb] at e;exact(I.aA b o e).iA (fun _ _ _ q=>q) (fun c q=>by rw[av<|iz q hd (by intro z;cases z)];exact q) fun c xs q=>by rw[av<|iz q hd (by intro z;cases z)];exact q
theorem Q_{tg l:Expr}{tl:TE}(hl:PE X l tl):PI X tg l (y_<|cA tl fK):=by
 intro pins s σ H R I h;refine aF (hl pins s σ H _ I h) fun v s1 ⟨x,H1,I1,r1,q1⟩=>?_;obtain⟨d,kvs,e,hd,q⟩:=q1
 simp only[List.cons.injEq,and_true] at e
 subst e;cases r1;obtain⟨hz,hy,vs,kv,dd⟩:=mG I1.aA hd;obtain⟨od,es,ep,ho,rr⟩:=dd;have ha:KdkAt (ck X.prog X.w) od vs ep:=⟨es,rr⟩;refine wpAny_pyIter_dict hy (ha.dictAt ho) ?_;have aI:=Heap.lt_size ho;have I2:Inv X pins σ (upd H1 d<|.aY od<|.dK kvs) s1:=I1.freeze hd ho;refine⟨s1.heap.objs.size,[s1.heap.objs.size],_,_,upd H1 d<|.aY od<|.dK kvs,rfl,I2.kept (t':=s1.toks) fun b o e=>Heap.get?_push_of_some _ e,Q8 ha kv<|zab aI,⟨_,Heap.get?_push_size _ rfl,rfl,rfl⟩,fun b hb=>?_,q od⟩;have e:b=s1.heap.objs.size:=by simpa using hb
 subst e;exact I2.tO (zqR _)<|I2.aA.fresh<|zqR _
end
def zb(fv:List (Str×Nat))(elt:RE):Frag->TA->TE:=fun K ta σ H Q=>∀Γ:aN,Γ.K=K->jf K (y_ ta) none fv none (ag Γ elt) σ H fun v H2=>∃d od kvs pb,H d=some (.dK pb)/\H2 d=some (.aY od<|.dK kvs)/\Q v (upd H2 d<|.dK kvs)
section
variable {CX:bE}{S:bS}{Γ:aN}{X:Cx}{p:Pos}{ra:RE}
theorem Ra{elt:RE}{el iter tg:Expr}{sc:Scope}{ln:List Str}(G:Good CX S Γ X)(h:kC S none tg iter sc .list ln fv=true)(hi:PE X iter (ag Γ ra))
  (he:∀X,Good CX (cS S sc ln fv) Γ.calm X->PE X el (ag Γ.calm elt)) (hq:S.md=0:=by rfl):PE X (.ListComp el [⟨tg,iter,[],0⟩] sc p) (ag Γ<|.xt (zb fv elt) [ra]):=by
 simp only[kC,zac,decide_eq_true_eq] at h
 obtain⟨⟨h1,h2⟩,h3⟩:=h;obtain⟨o1,o2,o3,o4⟩:=uR (c:=⟨.Constant .none 0 ⟨0,0,0,0⟩,tg,iter,[],sc⟩) G h3;have hp:PE X (.ListComp el [⟨tg,iter,[],0⟩] sc p) (jf X.K (y_<|cA (ag Γ ra) fK) none fv none<|ag Γ.calm elt):=
  CW o1 (G.calm hq) (Q_ hi) (yp (c:=⟨.Constant .none 0 ⟨0,0,0,0⟩,tg,iter,[],sc⟩) (G.calm hq) h1 o2 o3) rfl (fun ex C s H=>he _<|G.inner ⟨.Constant .none 0 ⟨0,0,0,0⟩,tg,iter,[],sc⟩ ln fv ex C s H) (oX o4)
 intro pins s σ H Q I hh;have uF:=hh Γ.calm rfl;rw[<-G.K] at uF;refine aF (hp pins s σ H _ I uF) fun v s1 ⟨x,H1,I1,r1,d,od,kvs,pb,e0,e1,q⟩=>?_;exact⟨x,_,I.Q9 e0 I1 e1,r1,q⟩
end
end L2
namespace L2
open PySem PySem.Spec PyProof.Rows PySem.W
def vh(K:Frag):List V->Hp->VK->Prop:=fun xs H Q=>∃p kvs,xs=[.ref p]/\H p=some (.dK kvs)/\Q (.int (kvs.length:Nat)) H
section
variable {X:Cx}
theorem Rb:bQ X (.builtin "len") (vh X.K):=by
 intro pins s σ H xs us Q I r h;obtain⟨p,kvs,rfl,hp,q⟩:=h;obtain⟨u,rfl,ru⟩:=vals1 r;cases ru;obtain⟨hz,hd,vs,kv,dd⟩:=mG I.aA hp;have hl:=kv.length;have hs:=sizeLine_eq;refine call_len_dict (knd:=ck X.prog X.w) hd dd (by rw[<-hl];have:kvs.length<=sizeLine:=hz;omega) ?_
 exact⟨.int (kvs.length:Nat),H,(I.tok _),⟨_,by rw[hl]⟩,q⟩
end
def vi:Frag->TA->TE:=fun K t=>dg (vh K) t
section
variable {CX:bE}{S:bS}{Γ:aN}{X:Cx}{e:PySem.Expr}{es:List PySem.Expr}{x:Str}{p pos:Pos}{r:RE}{rs:List RE}
theorem Rc:bootBuiltins "len"=some (.builtin "len"):=by decide+kernel
theorem EU(G:Good CX S Γ X)(hA:PA X (e::es) (aL Γ (r::rs)))(h:kB S x "len"=true:=by kernel_rfl)(hn:dG (e::es)=true:=by kernel_rfl):PE X (.Call (.Name x p) (e::es) [] pos) (ag Γ<|.xt vi (r::rs)):=by
 simp only[kB,zac,decide_eq_true_eq] at h
 obtain⟨⟨rfl,h2⟩,h3⟩:=h;show PE X _ (dg (vh Γ.K)<|aL Γ (r::rs));rw[<-G.K];exact kW Rb (G.gl h2) (G.dF _ h3) Rc hA (by decide) (by decide) (cY (b9 hn).1)<|fS _ _ es (b9 hn).2
end
def EV(a:Addr):List V->Hp->VK->Prop
 |[y]=>fun H Q=>∃kvs k v,H a=some (.dK kvs)/\y=kV k/\cB kvs k=some v/\Q v (upd H a<|.dK<|fm kvs k)
 |_=>fun _ _=>False
def vj:Frag->TE->TA->TE:=fun _ to ta σ H Q=>to σ H fun x H1=>∃a,x=.ref a/\uh H1 a/\ta σ H1 fun ys H2=>EV a ys H2 Q
section
variable {CX:bE}{S:bS}{Γ:aN}{X:Cx}{e o:PySem.Expr}{x:Str}{ap pos:Pos}{r ro:RE}
theorem EW(G:Good CX S Γ X)(ho:PE X o (ag Γ ro))(he:PE X e (ag Γ r))(h:kM o "pop" x 1 ap pos=true:=by kernel_rfl)(hn:dG [e]=true:=by kernel_rfl):PE X (.Call (.Attribute o x ap) [e] [] pos) (ag Γ<|.xm vj ro [r]):=by
 simp only[kM,zac,decide_eq_true_eq] at h
 obtain⟨⟨⟨rfl,h2⟩,h3⟩,h4⟩:=h;intro pins s σ H Q I q;have Rf:((backTo pos<|starEach [e] X.env).all (fun x=> !x.1) && (backToKw pos<|keywordEach [] X.env).all (fun x=>x.1.isSome) && decide (([e]:List PySem.Expr).length+([]:List Keyword).length+(if ([]:List Keyword).isEmpty then 0 else 1) <30))=true:=by rw[uQ _ _ [e] hn];rfl
 have tr:backTo pos (starEach [e] X.env)=[(false,eval e X.env)]:=by rw[cY (b9 hn).1];rfl
 refine wpAny_Call_method (mF h2) Rf h3 PySem.F.plainAttrs_dict PySem.F.slot_dict_pop PySem.F.type_dict_pop<|aF (ho pins s σ H _ I q) fun u s1 w=>?_;obtain⟨x,H1,I1,rx,a,ex,d,q1⟩:=w;subst ex;cases (show u=Value.ref a from rx)
 obtain⟨t1,t2,_⟩:=MI I1 d;refine⟨t1,t2,?_⟩;rw[tr];refine Calls.callWith_builtin rfl<|Calls.evalArgs_plain<|Calls.spliced_cons<|aF (he pins s1 σ H1 _ I1 q1) fun iv s2 w2=>Calls.spliced_nil ?_;obtain⟨y,H2,I2,ry,kvs,k,v,ea,ey,l,q2⟩:=w2;subst ey;exact MA I2 ea ry l (.inl rfl) fun w' s3 I3 e7=>⟨v,_,I3,e7,q2⟩
end
end L2
namespace L2.P2
open PySem PySem.Spec PyProof.Rows PySem.W L2.yM L2
abbrev T2:=Int×Int
def dn(a b:T2):Bool:=decide (a.1<b.1)||(a.1==b.1 && decide (a.2<b.2))
def lO(ts:List T2)(i j:Nat):Bool:=dn (ts.getD i (0,0)) (ts.getD j (0,0))
theorem pd{a b:T2}:dn a b=true↔a.1<b.1\/(a.1=b.1/\a.2<b.2):=by
 unfold dn;simp
theorem Rg{a b c:T2}(h1:dn a b=true)(h2:dn b c=true):dn a c=true:=by
 rw[pd] at*;lia
theorem Rh{a b:T2}(h:dn a b=true):dn b a=false:=by
 cases e:dn b a with
 |false=>rfl
 |true=>rw[pd] at*;lia
theorem Rj{a b:T2}(h:a≠b):dn a b=true\/dn b a=true:=by
 rw[pd,pd];obtain⟨a1,a2⟩:=a;obtain⟨b1,b2⟩:=b;have:¬(a1=b1/\a2=b2):=fun⟨x,y⟩=>h (by rw[x,y])
 simp only
 lia
theorem Rk{ts:List T2}(nd:ts.Nodup):Ord ts.length (lO ts) where
 aQ i j hi hj ne:=by
  unfold lO;refine Rj ?_;have e1:ts.getD i (0,0)=ts[i]:=by simp[hi]
  have e2:ts.getD j (0,0)=ts[j]:=by simp[hj]
  rw[e1,e2];exact fun e=>ne<|(zbr nd).mp e
 QK i j _ _ h:=Rh h
 tr i j k _ _ _ h1 h2:=Rg h1 h2
def TupAt(h:Heap)(v:Value)(t:T2):Prop:= ∃a o n t1 t2,v=.ref a/\h.get? a=some o/\o.cls=.type "tuple"/\o.data=.seq #[.int t.1 t1,.int t.2 t2] n
theorem TupAt.kept{h h':Heap}{v:Value}{t:T2}(x:TupAt h v t)(k:∀b o,h.get? b=some o->o.cls=.type "tuple"->h'.get? b=some o):TupAt h' v t:=by
 obtain⟨a,o,n,t1,t2,rfl,e,c,d⟩:=x;exact⟨a,o,n,t1,t2,rfl,k _ _ e c,c,d⟩
section
variable {prog:Program}{w:World}{A:Around}{E:Value->Shared->Prop}{s:Shared}{vs:List Value}{ts:List T2}
theorem EX:∀{vs:List Value}{ts:List T2},Paired (TupAt s.heap) vs ts->∃fs,KatTups s.heap vs fs/\fs.length=ts.length/\∀v∈fs,∃n t,v=.int n t
 |[],[],.nil=>⟨[],KatTups.nil,rfl,fun v h=>by cases h⟩
 |v::vs,t::ts,.cons x r=>by
  obtain⟨a,o,n,t1,t2,rfl,e,c,d⟩:=x;obtain⟨fs,k,l,f⟩:=EX r;refine⟨.int t.1 t1::fs,KatTups.cons e c d (by simp) k,by rw[zax,zax,l],fun v hv=>?_⟩
  rcases zae.mp hv with rfl|hv
  ·exact⟨_,_,rfl⟩
  ·exact f v hv
theorem zc{h:Heap}:∀{vs:List Value}{ts:List T2},Paired (TupAt h) vs ts->∀i,i<ts.length->TupAt h (vs.getD i Value.none) (ts.getD i (0,0))
 |[],[],_,i,hi=>absurd hi (Nat.not_lt_zero _)
 |v::vs,t::ts,.cons x r,0,_=>x
 |v::vs,t::ts,.cons x r,i+1,hi=>zc r i (by simpa using hi)
theorem Rl{x y:Value}{a b:T2}{Q:Bool->Shared->Prop}(hx:TupAt s.heap x a)(hy:TupAt s.heap y b)(q:Q (dn a b) s):wpAny (model prog w) A (keyLt' (tuples' true) x y) Q E s:=by
 obtain⟨ax,ox,n,u1,u2,rfl,ex,cx,dx⟩:=hx;obtain⟨ay,oy,m,v1,v2,rfl,ey,cy,dy⟩:=hy;refine kat_lt ex dx ey dy ?_;have lt:∀{p r:Int}{t u:Tok}{Q:Bool->Shared->Prop},Q (decide<|p<r) s->wpAny (model prog w) A (oneLt' false (.int p t) (.int r u)) Q (fun _ _=>False) s:=fun h=>kat_one _ _ (PyProof.Rows.lt_int h);refine kat_cons<|wpAny_eqBool_int<|kat_go (fun e=>kat_yes ?_) fun e=>kat_no (oneLt_int ?_)
 ·have e1:a.1=b.1:=by simpa using e
  refine kat_cons<|wpAny_eqBool_int<|kat_go (fun e=>kat_yes<|kat_nil ?_) fun e=>kat_no (lt ?_)
  ·have e2:a.2=b.2:=by simpa using e
   have:dn a b=false:=by unfold dn;simp[e1,e2]
   rw[this] at q;exact q
  ·have:dn a b=decide (a.2<b.2):=by unfold dn;simp[e1]
   rw[this] at q;exact q
 ·have e1:¬a.1=b.1:=by simpa using e
  have:dn a b=decide (a.1<b.1):=by unfold dn;simp[e1]
  rw[this] at q;exact q
def rJ(vs:List Value)(p:Array Nat):List Value:=p.toList.map fun i=>vs.getD i Value.none
theorem Rm{a:Addr}{P:PySem.Fin->Shared->Prop}(ho:s.heap.get? a=some (seqObj "list" vs.toArray n))(ht:Paired (TupAt s.heap) vs ts)(nd:ts.Nodup)(cE:vs.length<64)
  (h:∀p,Pm ts.length p->Up (lO ts) p ts.length->P (.done<|.ret .none) {s with heap:=sortedHeap s.heap a vs (rJ vs p).toArray}):
  wpAny (model prog w) A (Builtin.«list.sort» ⟨[.ref a],[]⟩) P E s:=by
 have hlen:vs.length=ts.length:=Paired.length ht;rw[list_sort_plain];have ha:a<s.heap.objs.size:=Heap.lt_size ho;refine wpAny_bind<|listItems_at ho rfl ?_;refine wpAny_bind<|listUpdate_at ho rfl ?_ (by rw[zaf,sizeLine_eq];lia)<|zqZ _
 obtain⟨e1,dA⟩:∃e1,(s.heap.update a<|Obj.mapSeq fun _=> #[]).get? a=some (seqObj "list" #[] e1):=⟨_,get?_update_seq ho<|fun _=> #[]⟩;refine wpAny_bind<|seqEpoch_at dA rfl ?_;refine wpAny_bind<|wpAny_newTuple ?_ (by show vs.length<=_;rw[sizeLine_eq];lia)
 refine wpAny_bind<|wpAny_newList ?_<|zqZ _;refine wpAny_holding ?_;have lP:(((s.heap.update a<|Obj.mapSeq fun _=> #[]).push<|seqObj "tuple" vs.toArray 0).push<|seqObj "list" #[] 0).get? a=some (seqObj "list" #[] e1):=by
  rw[Heap.get?_push_ne _ _ _ (by rw[size_push',Heap.size_update];exact zab (zaA ha)),Heap.get?_push_ne _ _ _ (by rw[Heap.size_update];exact zab ha)]
  exact dA
 have keep:∀b o,s.heap.get? b=some o->o.cls=.type "tuple"->(((s.heap.update a<|Obj.mapSeq fun _=> #[]).push<|seqObj "tuple" vs.toArray 0).push<|seqObj "list" #[] 0).get? b=some o:=fun b o e c=>by
  have hb:b≠a:=fun z=>by
   subst z;rw[ho] at e;cases e;exact absurd c (by show Value.type "list"≠Value.type "tuple";decide+kernel)
  have aI:b<s.heap.objs.size:=Heap.lt_size e;rw[Heap.get?_push_ne _ _ _ (by rw[size_push',Heap.size_update];exact zab (zaA aI)),Heap.get?_push_ne _ _ _ (by rw[Heap.size_update];exact zab aI),Heap.get?_update_ne _ _ _ _ hb]
  exact e
 show wpAny (model prog w) A _ P E {s with heap:=((s.heap.update a<|Obj.mapSeq fun _=> #[]).push<|seqObj "tuple" vs.toArray 0).push (seqObj "list" #[] 0)}
 dsimp only
 have hsz:vs.toArray.size=vs.length:=by simp
 by_cases h2:vs.toArray.size<2
 ·rw[if_pos h2,if_pos h2];refine wpAny_bind<|wpAny_pure ?_;rw[StateT.run_pure];refine wpAny_bind<|wpAny_pure ?_
  dsimp only
  refine wpAny_bind<|seqEpoch_at lP rfl ?_;refine wpAny_bind<|listUpdate_at lP rfl ?_ (hsz2:=by rw[Array.size_map];show(pairsOf vs).size<=_;rw[pairsOf_size,sizeLine_eq];lia)
  simp only[bne_self_eq_false,zaN,if_false]
  refine wpAny_pure ?_;have h':=h (List.toArray<|List.range ts.length) ⟨by simp,List.Perm.refl _⟩ (fun i j iP hj=>by lia)
  have e:(arrOf<|SortSt.mk' general' (vs.toArray.zip vs.toArray) #[] 7 none).map (·.2)=(rJ vs<|List.toArray<|List.range ts.length).toArray:=by
   have hz:(vs.toArray.zip vs.toArray).size=ts.length:=by rw[<-hlen];simp
   have hr:=kas_range (vs.toArray.zip vs.toArray);rw[hz] at hr;exact kat_snds (ks:=vs) (vs:=vs) (st:=SortSt.mk' general' (vs.toArray.zip vs.toArray) #[] 7 none) rfl hr.symm
  rw[e];exact h'
 ·rw[if_neg h2,if_neg h2];have kc:Paired (TupAt<|((s.heap.update a<|Obj.mapSeq fun _=> #[]).push<|seqObj "tuple" vs.toArray 0).push<|seqObj "list" #[] 0) vs ts:=L2.Paired.bY ht fun v t x=>x.kept keep;obtain⟨fs,kt,kl,kf⟩:=EX (s:={s with heap:=((s.heap.update a<|Obj.mapSeq fun _=> #[]).push<|seqObj "tuple" vs.toArray 0).push (seqObj "list" #[] 0)}) kc
  refine wpAny_bind<|kat_kind kt (by lia) (T:=.type "int") (fun v hv=>?_) (by rfl) ?_
  ·obtain⟨k,t,rfl⟩:=kf v hv;exact Looks.now
  have as:lK ts.length (lO ts) (kas_ask prog w A (tuples' true) vs) (fun z=>z={s with heap:=((s.heap.update a<|Obj.mapSeq fun _=> #[]).push<|seqObj "tuple" vs.toArray 0).push (seqObj "list" #[] 0)}):=by
   rintro i j C hi hj ne hC z rfl;exact Rl (zc kc i hi) (zc kc j hj)<|hC _ rfl
  have Rn:=QM (Rk nd) as (by lia)
  refine wpAny_bind (wpAny_mono (kat_run (κ:=tuples' true) (ks:=vs) (Q:=fun fi s'=>∃p,Pm ts.length p/\Up (lO ts) p ts.length/\arrOf fi=p.map (kas_item (vs.toArray.zip vs.toArray))/\failedOf fi=none/\s'={s with heap:=((s.heap.update a (Obj.mapSeq fun _=> #[])).push (seqObj "tuple" vs.toArray 0)).push (seqObj "list" #[] 0)})
   (G:=fun p s'=>(Pm ts.length p/\Up (lO ts) p ts.length)/\s'={s with heap:=((s.heap.update a<|Obj.mapSeq fun _=> #[]).push<|seqObj "tuple" vs.toArray 0).push (seqObj "list" #[] 0)})
   rfl (by lia) cE (fun p fi s' a1 a2 a3 a4=>⟨p,a4.1.1,a4.1.2,a2,a3,a4.2⟩) (by rw[hlen];exact Rn _ (fun p s' hp hs=>⟨hp,hs⟩) _ rfl)) ?_ fun _ _ e=>e)
  rintro⟨⟨⟩,fi⟩ s' ⟨p,pm,up,Ro,hf,rfl⟩
  dsimp only
  have Rp:=kat_snds (ks:=vs) (vs:=vs) rfl Ro;rw[Rp];refine wpAny_bind<|seqEpoch_at lP rfl ?_;refine wpAny_bind<|listUpdate_at lP rfl ?_ (hsz2:=by rw[zaf,zaa,zbh,pm.sz,sizeLine_eq];lia)
  rw[hf]
  simp only[bne_self_eq_false,zaN,if_false]
  exact wpAny_pure<|h p pm up
theorem Rq{l:Addr}{Q:Value->Shared->Prop}(hl:s.heap.IsList l vs.toArray)(ht:Paired (TupAt s.heap) vs ts)(nd:ts.Nodup)(cE:vs.length<64)
  (h:∀p,Pm ts.length p->Up (lO ts) p ts.length->Q (.ref<|s.heap.objs.size+1) {s with heap:=sortedAll s.heap vs (rJ vs p).toArray}):
  wpAny (model prog w) A (call (.builtin "sorted") [.ref l]) Q E s:=by
 refine Calls.call_function_entry kind_sorted plain_sorted entry_sorted (args_sorted1 _) ?_;unfold Builtin.«sorted»;refine wpAny_bind (m:=checkCount "sorted" 1 1 _)<|wpAny_pure ?_;refine wpAny_bind<|collect_list hl ?_ (by rw[sizeLine_eq];lia)
 refine wpAny_bind<|wpAny_newList ?_ (by rw[sizeLine_eq];lia)
 have hsz:((s.heap.push<|seqObj "list" #[] 0).update s.heap.objs.size (Obj.mapSeq (· ++vs.toArray))).objs.size=s.heap.objs.size+1:=by
  rw[Heap.size_update,size_push']
 have g6:(((s.heap.push<|seqObj "list" #[] 0).update s.heap.objs.size (Obj.mapSeq (· ++vs.toArray))).push<|seqObj "list" vs.toArray 0).get? (s.heap.objs.size+1)=some (seqObj "list" vs.toArray 0):=by
  rw[<-hsz];exact Heap.get?_push_size _ rfl
 have keep:∀b o,s.heap.get? b=some o->o.cls=.type "tuple"->(((s.heap.push<|seqObj "list" #[] 0).update s.heap.objs.size (Obj.mapSeq (· ++vs.toArray))).push<|seqObj "list" vs.toArray 0).get? b=some o:=fun b o q _=>by
  have aI:b<s.heap.objs.size:=Heap.lt_size q;rw[Heap.get?_push_ne _ _ _ (by rw[hsz];exact zab (zaA aI)),Heap.get?_update_ne _ _ _ _<|zab aI,Heap.get?_push_ne _ _ _<|zab aI]
  exact q
 show wpAny _ _ _ _ _ {s with heap:=((s.heap.push<|seqObj "list" #[] 0).update s.heap.objs.size (Obj.mapSeq (· ++vs.toArray))).push (seqObj "list" vs.toArray 0)}
 rw[hsz];refine wpAny_bind<|wpAny_holding<|wpAny_call_entry slot_list_sort ⟨_,g6,rfl⟩ entry_list_sort (Rm g6 (L2.Paired.bY ht fun v t x=>x.kept keep) nd cE fun p a1 a2=>⟨_,rfl,?_⟩)<|args_list_sort _;exact wpAny_pure ⟨_,rfl,h p a1 a2⟩
end
def V2(H:Hp)(v:V)(t:T2):Prop:= ∃a,v=.ref a/\H a=some (.tup [.int t.1,.int t.2])
def vm(K:Frag):List V->Hp->VK->Prop:=fun xs H Q=>∃(p:Addr) (vs:List V) (ts:List T2),xs=[.ref p]/\aw K H p vs/\Paired (V2 H) vs ts/\ts.Nodup/\ts.length<64/\
 ∀(q:Addr) (zs:List V) (us:List T2),H q=none->Paired (V2 H) zs us->us.Perm ts->us.Pairwise (fun a b=>dn a b=true)->Q (.ref q) (upd H q<|.lst zs)
section
variable {X:Cx}
theorem EY:∀{vs:List V}{aj:List Value},Vals vs aj->∀i,RelV (vs.getD i .aD) (aj.getD i Value.none)
 |[],[],.nil,i=>rfl
 |v::vs,u::us,.cons x r,0=>x
 |v::vs,u::us,.cons x r,i+1=>EY r i
theorem EZ{vs:List V}{aj:List Value}(h:Vals vs aj):∀l:List Nat,Vals (l.map fun i=>vs.getD i .aD) (l.map fun i=>aj.getD i Value.none)
 |[]=>.nil
 |i::l=>.cons (EY h i) (EZ h l)
theorem E1{H:Hp}:∀{vs:List V}{ts:List T2},Paired (V2 H) vs ts->∀i,i<ts.length->V2 H (vs.getD i .aD) (ts.getD i (0,0))
 |[],[],_,i,hi=>absurd hi (Nat.not_lt_zero _)
 |v::vs,t::ts,.cons x r,0,_=>x
 |v::vs,t::ts,.cons x r,i+1,hi=>E1 r i (by simpa using hi)
theorem E2{H:Hp}{vs:List V}{ts:List T2}(h:Paired (V2 H) vs ts):∀l:List Nat,(∀i∈l,i<ts.length)->Paired (V2 H) (l.map fun i=>vs.getD i .aD) (l.map fun i=>ts.getD i (0,0))
 |[],_=>.nil
 |i::l,hl=>.cons (E1 h i<|hl i<|.head _) (E2 h l fun j hj=>hl j (.tail _ hj))
theorem Rr(ts:List T2):((List.range ts.length).map fun i=>ts.getD i (0,0))=ts:=by
 refine List.ext_getElem (by simp) fun i h1 h2=>?_
 have Rt:i<ts.length:=h2
 simp[Rt]
theorem E3{pins:List (Addr×Obj)}{σ:St}{H:Hp}{s:Shared}(I:Inv X pins σ H s):∀{vs:List V}{aj:List Value}{ts:List T2},Vals vs aj->Paired (V2 H) vs ts->Paired (TupAt s.heap) aj ts
 |[],[],[],_,_=>.nil
 |v::vs,u::us,t::ts,.cons x r,.cons y r'=>by
  refine .cons ?_<|E3 I r r';obtain⟨a,rfl,ha⟩:=y;cases x;obtain⟨_,aj,rv,o,e,c,n,d⟩:=I.aA a _ ha;obtain⟨u1,r1,rfl,x1,rv⟩:∃u r,aj=u::r/\RelV (.int t.1) u/\Vals [.int t.2] r:=by cases rv with|cons x r=>exact⟨_,_,rfl,x,r⟩
  obtain⟨u2,r2,rfl,x2,rv⟩:∃u r,r1=u::r/\RelV (.int t.2) u/\Vals [] r:=by cases rv with|cons x r=>exact⟨_,_,rfl,x,r⟩
  cases rv;obtain⟨t1,rfl⟩:=x1;obtain⟨t2,rfl⟩:=x2;exact⟨a,o,n,t1,t2,rfl,e,c,d⟩
theorem Ru:bQ X (.builtin "sorted") (vm X.K):=by
 intro pins s σ H xs us Q I r h;obtain⟨p,vs,ts,rfl,hq,h3,nd,cE,q⟩:=h;obtain⟨u,rfl,ru⟩:=vals1 r;cases ru;obtain⟨aj,rv,pl,hz⟩:=I.list hq;have l1:=rv.length;have l2:=Paired.length h3;refine Rq pl.isList (E3 I rv h3) nd (by lia) fun pr pm up=>?_
 obtain⟨e,he⟩:=sortedAll_at s.heap aj (rJ aj pr).toArray;have ZN:pr.toList.length=ts.length:=by rw[zbh,pm.sz]
 have qY:∀i∈pr.toList,i<ts.length:=fun i hi=>zaY.mp (pm.pm.subset hi);refine⟨.ref<|s.heap.objs.size+1,_,I.laid (t':=s.toks) (fun b o e=>sortedAll_old e) (zaM _) (show bI X.prog X.w _ _ _ (.lst<|pr.toList.map fun i=>vs.getD i .aD) from⟨by rw[zaa];lia,rJ aj pr,e,EZ rv _,he⟩),rfl,?_⟩
 refine q _ _ (pr.toList.map fun i=>ts.getD i (0,0)) (I.aA.fresh<|zaM _) (E2 h3 _ qY) ?_ ?_
 ·have:=pm.pm.map fun i=>ts.getD i ((0,0):T2)
  rwa [Rr] at this
 ·rw[zbe];rw[zbL];intro i j hi hj iP;have dE:i<pr.size:=by simpa using hi
  have bw:j<pr.size:=by simpa using hj
  have:=up i j iP (by rw[<-pm.sz];exact bw)
  rw[rD dE,rD bw] at this
  simpa[lO] using this
theorem yP:bootBuiltins "sorted"=some (.builtin "sorted"):=by decide+kernel
end
def vn:Frag->TA->TE:=fun K t=>dg (vm K) t
section
variable {CX:bE}{S:bS}{Γ:aN}{X:Cx}{e:Expr}{es:List Expr}{x:Str}{p pos:Pos}{r:RE}{rs:List RE}
theorem E4(G:Good CX S Γ X)(h:kB S x "sorted"=true)(hn:dG (e::es)=true)(hA:PA X (e::es) (aL Γ (r::rs))):PE X (.Call (.Name x p) (e::es) [] pos) (ag Γ<|.xt vn (r::rs)):=by
 simp only[kB,zac,decide_eq_true_eq] at h
 obtain⟨⟨rfl,h2⟩,h3⟩:=h;show PE X _ (dg (vm Γ.K)<|aL Γ (r::rs));rw[<-G.K];exact kW Ru (G.gl h2) (G.dF _ h3) yP hA (by decide) (by decide) (cY (b9 hn).1)<|fS _ _ es (b9 hn).2
end
end L2.P2
namespace L2
open PySem PySem.Spec PyProof.Rows PySem.W
def vo(K:Frag):List V->Hp->VK->Prop:=fun xs H Q=>∃p,∃ns:List Int,xs=[.ref p]/\aw K H p (ns.map V.int)/\ns.length<64/\
 ∀l,∀ms:List Int,H l=none->ms.Perm ns->ms.Pairwise (· <= ·)->Q (.ref l) (upd H l<|.lst<|ms.map V.int)
section
variable {X:Cx}
theorem Rv:bQ X (.builtin "sorted") (vo X.K):=by
 intro pins s σ H xs us Q I r h;obtain⟨p,ns,rfl,hq,cE,q⟩:=h;obtain⟨u,rfl,ru⟩:=vals1 r;cases ru;obtain⟨aj,rv,pl,hz⟩:=I.list hq;have l1:=rv.length;rw[zaa] at l1;have hI:=intsAre_of rv;have hs:=sizeLine_eq;refine Calls.call_function_entry kind_sorted plain_sorted entry_sorted (args_sorted1 _) ?_;unfold Builtin.«sorted»;refine wpAny_bind (m:=checkCount "sorted" 1 1 _)<|wpAny_pure ?_;refine wpAny_bind<|collect_list pl.isList ?_ (by omega)
 refine wpAny_bind<|wpAny_newList ?_ (by omega)
 have hsz:((s.heap.push<|seqObj "list" #[] 0).update s.heap.objs.size (Obj.mapSeq (· ++aj.toArray))).objs.size=s.heap.objs.size+1:=by
  rw[Heap.size_update,size_push']
 have g6:(((s.heap.push<|seqObj "list" #[] 0).update s.heap.objs.size (Obj.mapSeq (· ++aj.toArray))).push<|seqObj "list" aj.toArray 0).get? (s.heap.objs.size+1)=some (seqObj "list" aj.toArray 0):=by
  rw[<-hsz];exact Heap.get?_push_size _ rfl
 show wpAny _ _ _ _ _ {s with heap:=((s.heap.push<|seqObj "list" #[] 0).update s.heap.objs.size (Obj.mapSeq (· ++aj.toArray))).push (seqObj "list" aj.toArray 0)}
 rw[hsz];refine wpAny_bind<|wpAny_holding<|wpAny_call_entry slot_list_sort ⟨_,g6,rfl⟩ entry_list_sort (list_sort_tree g6 hI (by omega) fun out ms a1 a2 a3=>⟨_,rfl,?_⟩)<|args_list_sort _
 obtain⟨e,he⟩:=sortedHeap_at (out:=out) g6;refine wpAny_pure ⟨_,rfl,.ref<|s.heap.objs.size+1,_,I.laid (t':=s.toks) (fun b o eb=>?_) (zaM _) (show bI X.prog X.w _ _ _ (.lst<|ms.map V.int) from⟨by rw[zaa,a2.length_eq];omega,out.toList,e,yU a1,by simpa using he⟩),rfl,q _ ms (I.aA.fresh<|zaM _) a2 a3⟩
 have aI:=Heap.lt_size eb;have hb:(((s.heap.push<|seqObj "list" #[] 0).update s.heap.objs.size (Obj.mapSeq (· ++aj.toArray))).push<|seqObj "list" aj.toArray 0).get? b=some o:=by
  rw[Heap.get?_push_ne _ _ _ (by rw[hsz];exact zab (zaA aI)),Heap.get?_update_ne _ _ _ _<|zab aI,Heap.get?_push_ne _ _ _<|zab aI]
  exact eb
 rw[sortedHeap_old (zab<|zaA aI) (by rw[size_push',hsz];exact zaA (zaA aI))]
 exact hb
end
def zd:Frag->TA->TE:=fun K t=>dg (vo K) t
section
variable {CX:bE}{S:bS}{Γ:aN}{X:Cx}{e:PySem.Expr}{es:List PySem.Expr}{x:Str}{p pos:Pos}{r:RE}{rs:List RE}
theorem Rw(G:Good CX S Γ X)(hA:PA X (e::es) (aL Γ (r::rs)))(h:kB S x "sorted"=true:=by kernel_rfl)(hn:dG (e::es)=true:=by kernel_rfl):PE X (.Call (.Name x p) (e::es) [] pos) (ag Γ<|.xt zd (r::rs)):=by
 simp only[kB,zac,decide_eq_true_eq] at h
 obtain⟨⟨rfl,h2⟩,h3⟩:=h;show PE X _ (dg (vo Γ.K)<|aL Γ (r::rs));rw[<-G.K];exact kW Rv (G.gl h2) (G.dF _ h3) yP hA (by decide) (by decide) (cY (b9 hn).1)<|fS _ _ es (b9 hn).2
end
end L2
namespace L2.ny
open PySem PySem.Spec PyProof.Rows L2.B
def bp(i:Nat):Stmt:=(PySem.Challenge.pw_inkloom_k20_marks_found.main.body).getD i (.Pass ⟨0,0,0,0⟩)
def E5:Stmt:=bp 17
abbrev bz(s:Stmt)(k:Nat):Stmt:=(cP s).getD k (.Pass ⟨0,0,0,0⟩)
abbrev bA(b:List RS)(k:Nat):RS:=b.getD k (.ret<|.c .aD)
abbrev MX(N:List Str)(s:Stmt)(f g l mn kn en hn:List Str)(b:List RS)(md:Nat):Prop:= ∀{CX:bE}{Γ:aN}{X:Cx},cz CX (o6 N (di s) f g l mn kn en hn md) Γ X->cJ X (cP s) (aC Γ b)
abbrev MY(N:List Str)(s:Stmt)(f g l mn kn en hn:List Str)(b:List RS)(md k:Nat):Prop:= ∀{CX:bE}{Γ:aN}{X:Cx},cz CX (o6 N (di s) f g l mn kn en hn md) Γ X->PS X (bz s k) (aV Γ<|bA b k)
theorem Rx:MX j9 E5 af af DS af af af af DR 0:=fun G=>have g:=G.toGood;(ai (aP<|fU (jq g<|aa g)<|gJ<|yt g<|jq g<|aa g) au)
def E6:Stmt:=bp 18
theorem Ry:MX Ec E6 yJ af af af af af af Ed 0:=fun G=>have g:=G.toGood;(ai (aP<|fU (aM g<|ae (aa g) ak)<|gJ<|P8 g (aa g) (aa g)<|aa g) au)
def E7:Stmt:=bp 19
theorem Rz:MX yE E7 af af DT af af af af yF 0:=fun G=>have g:=G.toGood;(ai (aP<|fU (jq g<|aa g)<|gJ<|dB g (aa g)<|aa g) au)
def E8:Stmt:=bp 20
theorem RA:MX j9 E8 af Qw DT af af af af yG 0:=fun G=>have g:=G.toGood;(ai (aP<|fU (jq g<|aa g)<|gJ<|dB g (gK g (aa g)<|ae (fA g) ak) aG) au)
def E9:Stmt:=bp 22
theorem RB:MX j9 E9 Qx af Qy af af af af uY 0:=fun G=>have g:=G.toGood;(ai (a_ (PW.pt<|gL (dJ<|yw g<|jq g<|aa g)<|j8<|ba g (cM g<|ae (aa g) ak) ao) (ai (aP e9) au) au)<|ai (a_ (fB g<|aM g<|ae (bf g (aa g) ao)<|ae (b_<|ae aG ak) ak) (ai (aP<|fU (aM g<|ae (bf g (aa g) ao) ak)<|gJ<|dB g (bf g (aa g) ao) ao) au) au)<|ai (aP<|fU (aM g<|ae (bf g (aa g) ao)<|ae (b_<|ae aG<|ae aG ak) ak)<|fU (aM g<|ae (bf g (aa g) ao) ak)<|gJ<|dB g (bf g (aa g) ao) aG) au)
def E_:Stmt:=bp 23
theorem RC:MX DU E_ af af af af af af af DV 0:=fun G=>have g:=G.toGood;(ai (aP<|fU (dB g (aa g)<|aa g)<|gJ<|yt g<|fU (dB g (aa g) aG)<|gJ<|dB g (aa g) aG) au)
def Fb:Stmt:=bp 24
theorem RD:MX DW Fb Qz af QC af af QD af DX 0:=fun G=>have g:=G.toGood;(ai (a_ (dJ<|yw g<|jq g<|aa g) (ai (jt G<|ae aG ak) au) au)<|ai (aK G aG)<|ai (js G (eh g<|aa g)<|ai (a_ (dJ<|fB g<|aM g<|ae (aa g) ak) (ai (jt G<|ae aG ak) au) au)<|ai (a_ (dJ<|fB g<|aM g<|ae (bf g (aa g) ao)<|ae (aa g) ak) (ai (jt G<|ae aG ak) au) au)<|ai (aK G<|bf g (aa g) ao) au) au)
def Fc:Stmt:=bp 26
theorem RF:MX EE Fc af af e_ af af af af EF 0:=fun G=>have g:=G.toGood;(ai (aK G ao)<|ai (aK G<|cM g<|ae (aa g) ak)<|ai (Qk G (ba g (aa g)<|aa g)<|ai (aK G<|aE g (aE g (aa g)<|aa g) ao)<|ai (a_ (ba g (bf g (aa g)<|aa g)<|aa g) (ai (aK G<|aE g (aa g) ao) au)<|ai (aK G<|aa g) au) au)<|ai (aP<|aa g) au)
def Fd:Stmt:=bp 29
theorem RG:MX EG Fd Q2 Q3 af af af Q4 af EH 0:=fun G=>have g:=G.toGood;(ai (a_ (dJ<|fB g<|aM g<|ae (aa g)<|ae (fA g) ak) (ai (jt G<|ae aG ak) au) au) au)
def Fe:Stmt:=inClass (bp 30) 0
theorem RH:MX EI Fe Q5 af e_ af af af af EJ 0:=fun G=>have g:=G.toGood;(ai (dm<|aM g<|ae (aa g) ak)<|ai (jr G (aa g)<|bJ ak)<|ai (jr G (aa g)<|bJ ak)<|ai (jr G (aa g)<|bJ ak)<|ai (aK G ao)<|ai (aK G ao)<|ai (uV [(_,_),(_,_)] G (eh g<|aa g)<|ai (a_ (ba g (aa g) aG) (ai (aK G<|aE g (aa g)<|cM g<|ae (aa g) ak) au)<|ai (a_ (ba g (aa g) aG) (ai (aK G<|aE g (aa g)<|cM g<|ae (aa g) ak) au)<|ai (dm<|gK g (cp g<|aa g)<|ae (aa g) ak)<|ai (dm<|gK g (cp g<|aa g)<|ae (aa g) ak)<|ai (dm<|gK g (cp g<|aa g)<|ae (aa g) ak)<|ai (aK G<|aE g (aa g)<|aa g)<|ai (aK G<|aE g (aa g)<|aa g) au) au) au)<|ai (jr G (aa g)<|aa g)<|ai (jr G (aa g)<|aa g) au)
def Ff:Stmt:=inClass (bp 30) 1
theorem RJ:MX vf Ff EL af Q6 af af af af EK 0:=fun G=>have g:=G.toGood;(ai (aK G<|aE g (aM g<|ae (cp g<|aa g)<|ae (aE g (aa g) ao) ak) ao)<|ai (a_ (ba g (aa g) ao) (ai (aP ao) au) au)<|ai (aP<|aE g (bf g (cp g<|aa g)<|aa g)<|cM g<|ae (bf g (cp g<|aa g)<|aa g)<|ae (aE g (aa g)<|bf g (cp g<|aa g)<|aa g) ak) au)
def Fg:Stmt:=inClass (bp 30) 2
theorem RK:MX vf Fg EL af e_ af af af af EM 0:=fun G=>have g:=G.toGood;(ai (aK G<|aE g (aM g<|ae (cp g<|aa g)<|ae (aa g) ak) ao)<|ai (a_ (PW.pt<|yv (ba g (aa g) ao)<|yu<|ba g (aa g)<|aE g (bf g (cp g<|aa g)<|aa g)<|bf g (cp g<|aa g)<|aa g) (ai (aP<|aE g (aE g (bf g (cp g<|aa g)<|aa g)<|aa g)<|bf g (cp g<|aa g)<|aa g) au) au)<|ai (aP<|DI (ba g (aE g (aa g) ao)<|cM g<|ae (cp g<|aa g) ak) (bf g (cp g<|aa g)<|aE g (aa g) ao)<|cp g<|aa g) au)
def Fh:Stmt:=inClass (bp 30) 3
theorem RL:MX rH Fh af af af Q7 af af af EN 0:=fun G=>have g:=G.toGood;(ai (aP<|DI (ba g (aa g) aG) (cQ g (aa g)<|ae (aa g) ak)<|cQ g (aa g)<|ae (aa g) ak) au)
def Fi:Stmt:=bp 31
theorem RM:MX EO Fi ED af af EB EC vb af ER 0:=fun G=>have g:=G.toGood;(ai (aK G<|rg g<|ae (aa g) ak)<|ai (a_ (dJ<|fB g<|aM g<|ae (aa g)<|ae ao<|ae (cp g<|aa g) ak) (ai (jt G<|ae aG ak) au) au)<|ai (dm<|aM g<|ae (aa g) ak)<|ai (aP<|cQ g (aa g)<|ae (aa g)<|ae (aa g) ak) au)
def Fj:Stmt:=inClass (bp 33) 0
theorem Fl:MX yW Fj yJ af af af af vb af yX 0:=fun G=>have g:=G.toGood;(ai (a_ (PW.pt<|gL (dJ<|fB g<|aM g<|ae (aa g) ak)<|j8<|ba g (aa g) ao) (ai (jt G<|ae aG ak) au) au)<|ai (jr G (aa g)<|aa g)<|ai (jr G (aa g) ao)<|ai (jr G (aa g) uT) au)
def Fm:Stmt:=inClass (bp 33) 1
theorem RN:MX Et Fm af af af af af af af Eu 0:=fun G=>have g:=G.toGood;(ai (aK G<|cp g<|aa g)<|ai (o5 G (aa g) (cp g<|aa g)<|aa g)<|ai (jr G (aa g)<|aE g (aa g) ao)<|ai (aP<|aa g) au)
def Fn:Stmt:=inClass (bp 33) 2
theorem Fo:MX ib Fn yJ af af af af QY af yY 0:=fun G=>have g:=G.toGood;(ai (a_ (PW.pt<|gL (dJ<|fB g<|aM g<|ae (aa g) ak)<|j8<|DJ g (aa g)<|cp g<|aa g) (ai (jt G<|ae aG ak) au) au)<|ai (aP<|dj g (cp g<|aa g)<|aa g) au)
noncomputable def ze:List RS:=
 [.drop (.bo 0 "stand" (.v 0) [.v 1]),
 .drop (.xm vj (.fld (.v 0) "stands") [.v 1])]
def Fp:Stmt:=inClass (bp 33) 3
theorem Fq:MX ib Fp af af af y4 af af af ze 0:=fun G=>have g:=G.toGood;(ai (dm<|cQ g (aa g)<|ae (aa g) ak)<|ai (dm<|EW g (cp g<|aa g)<|aa g) au)
def Fs:Stmt:=inClass (bp 33) 4
theorem RO:MX vc Fs af af Ex af af af af Ew 0:=fun G=>have g:=G.toGood;(ai (aP<|va g<|ae (cp g<|aa g) ak) au)
def Ft:Stmt:=inClass (bp 33) 5
theorem RP:MX vc Ft af af af af af af af Ey 0:=fun G=>have g:=G.toGood;(ai (aP<|cp g<|aa g) au)
def Fu:Stmt:=inClass (bp 33) 6
theorem RQ:MX Ez Fu af af yZ EB EC QZ af EA 0:=fun G=>have g:=G.toGood;(ai (aK G<|rg g<|ae (aa g) ak)<|ai (a_ (ba g (cp g<|aa g)<|cp g<|aa g) (ai (jt G<|ae aG ak) au) au)<|ai (js G (eh g<|Es g<|ae (cp g<|aa g) ak)<|ai (o5 G (nc (ln:=["place","side"]) g (by kernel_rfl) (eh g<|dj g (cp g<|aa g)<|aa g) rn<|fun _ g=>(b_<|ae (cQ g (aa g)<|ae (aa g)<|ae (aa g) ak)<|ae (aa g) ak)) (cp g<|aa g)<|aa g) au)<|ai (jr G (aa g)<|cp g<|aa g) au)
def Fv:Stmt:=inClass (bp 34) 0
theorem Fw:MX rH Fv ED af af Q0 af vb af y2 0:=fun G=>have g:=G.toGood;(ai (a_ (dJ<|fB g<|aM g<|ae (aa g)<|ae ao<|ae (j7 g<|aa g) ak) (ai (jt G<|ae aG ak) au) au)<|ai (dm<|aM g<|ae (aa g) ak)<|ai (aP<|cQ g (aa g)<|ae (bJ<|ae (b_<|ae (aa g)<|ae (aa g) ak) ak) ak) au)
def Fx:Stmt:=inClass (bp 34) 1
theorem Fy:MX ib Fx af af af y4 af af af y3 0:=fun G=>have g:=G.toGood;(ai (aP<|bf g (bf g (cQ g (aa g)<|ae (aa g) ak) ao) ao) au)
def Fz:Stmt:=inClass (bp 34) 2
theorem FA:MX ib Fz af af af y4 af af af y6 0:=fun G=>have g:=G.toGood;(ai (aP<|bf g (bf g (cQ g (aa g)<|ae (aa g) ak) ao) ao) au)
def zf:List Str:=["self","begin","end","found"]
noncomputable def zg:List RS:=
 [.ite (.or [(.not (.call 0 [.v 1,(.c (.int 0)),(.bo 0 "size" (.v 0) [])])),(.not (.call 0 [.v 2,.v 1,(.bo 0 "size" (.v 0) [])]))]) [.hV 0 [(.c (.str "marks are sought from a place of the text to one that is no less"))]] [],
 .jY 3 (.comp none [("self",0),("begin",1),("end",2)] .list [(.bo 1 "numbers" (.v 0) [])] (some<|.iM .LtE .LtE (.v 2) (.bo 2 "place" (.v 1) [.v 0])<|.v 3)<|.tup [(.bo 2 "place" (.v 1) [.v 0]),.v 0]),
 .ret (.comp (some 2) [] .list [(.xt P2.vn [.v 3])] none (.v 1))]
def RT:List Str:=["is_between"]
def RU:List Str:=["size","numbers","place"]
def FC:Stmt:=inClass (bp 34) 3
theorem FD:MX zf FC RT af Ex RU af vb af zg 0:=fun G=>have g:=G.toGood;(ai (a_ (PW.pt<|gL (dJ<|fB g<|aM g<|ae (aa g)<|ae ao<|ae (j7 g<|aa g) ak)<|j8<|dJ<|fB g<|aM g<|ae (aa g)<|ae (aa g)<|ae (j7 g<|aa g) ak) (ai (jt G<|ae aG ak) au) au)<|ai (yx (ln:=["number"]) G (by kernel_rfl) (by kernel_rfl) (by kernel_rfl) (eh g<|j7 g<|aa g) (oZ fun _ g=>(DL g (aa g) (cQ g (aa g)<|ae (aa g) ak)<|aa g))<|fun _ g=>(b_<|ae (cQ g (aa g)<|ae (aa g) ak)<|ae (aa g) ak))<|ai (aP<|nc (ln:=["place","number"]) g (by kernel_rfl) (eh g<|P2.E4 g (by kernel_rfl) (by kernel_rfl)<|ae (aa g) ak) rn<|fun _ g=>(aa g)) au)
def FE:Stmt:=bp 36
theorem RV:MX DY FE af af e_ af af af af DZ 0:=fun G=>have g:=G.toGood;(ai (a_ (ba g (aa g)<|cM g<|ae (aa g) ak) (ai (aP<|bf g (aa g)<|aa g) au) au)<|ai (aP ao) au)
def yK:List Str:=["_law_found"]
def FF:Stmt:=bp 37
theorem RW:MX yK FF af af DS af af af af Ee 0:=fun G=>have g:=G.toGood;(ai (aP<|fU (jq g<|aa g)<|gJ<|yt g<|jq g<|aa g) au)
def FG:Stmt:=bp 38
theorem RX:MX D0 FG af af af af af af af D1 0:=fun G=>have g:=G.toGood;(ai (aK G<|aE g (aE g (aE g (aE g (aa g) ao)<|aE g ao<|aa g) ao) ao)<|ai (aP<|aE g (aE g (aE g (aE g (aa g)<|aa g) ao)<|aa g) ao) au)
def FH:Stmt:=bp 39
theorem RY:MX D3 FH lJ af h_ af af af af D4 0:=fun G=>have g:=G.toGood;(ai (aK G aG)<|ai (aK G<|aE g (aa g) aG)<|ai (a_ (ba g (aE g (aa g) ao) ao) (ai (aK G aG) au) au)<|ai (aP<|gK g aG<|ae (nc (ln:=["_law_k"]) g (by kernel_rfl) (rq g<|aa g) rn<|fun _ g=>(bf g (aa g)<|aE g (aE g (aM g<|ae (aa g)<|ae (aa g) ak) ao)<|cM g<|ae (aa g) ak)) ak) au)
def FI:Stmt:=bp 40
theorem RZ:MX D5 FI af af af af af af af D6 0:=fun G=>have g:=G.toGood;(ai (a_ (ba g (aE g (aa g) ao) ao) (ai (aP<|aE g (aE g (aa g) ao) ao) au) au)<|ai (aP<|aE g (aE g (aa g) ao) ao) au)
def FJ:Stmt:=bp 41
theorem R0:MX D7 FJ QE af QF af af af af D8 0:=fun G=>have g:=G.toGood;(ai (aK G<|bJ ak)<|ai (aK G ao)<|ai (js G (rq g<|aa g)<|ai (aK G<|aM g<|ae (aa g)<|ae (aE g ao<|aa g) ak)<|ai (aK G<|bf g (bJ<|ae ao<|ae ao<|ae ao<|ae ao<|ae ao<|ae ao ak)<|aE g (aE g (aa g) ao) ao)<|ai (aK G<|cM g<|ae (aa g)<|ae (aE g (cM g<|ae (aa g) ak)<|aa g) ak)<|ai (a_ (ba g (aE g (aa g) ao) ao) (ai (dm<|gK g (aa g)<|ae (b_<|ae aG<|ae (aM g<|ae (aa g)<|ae (aa g) ak) ak) ak) au)<|ai (a_ (ba g (aE g (aa g) ao) ao) (ai (dm<|gK g (aa g)<|ae (b_<|ae aG<|ae (rj g (aa g) (lG<|aa g)<|lG<|aE g (aa g)<|aa g) ak) ak) au)<|ai (dm<|gK g (aa g)<|ae (b_<|ae aG<|ae (aa g) ak) ak) au) au)<|ai (a_ (ba g (aE g (aa g) ao) ao) (ai (aK G<|aE g (aa g)<|aa g) au) au) au)<|ai (aP<|aE g (aa g)<|bJ<|ae (b_<|ae aG<|ae (aE g (cM g<|ae (aa g) ak)<|aa g) ak) ak) au)
def yH:List Str:=["_law_parts_here","_law_rows","_law_word_here","_law_thing","_law_found","_law_put","_law_cut","_law_keep","_law_some"]
def FK:Stmt:=bp 42
theorem R1:MX yH FK af af QG af af af af D9 0:=fun G=>have g:=G.toGood;(ai (aK G<|bJ<|ae (bJ<|ae aG<|ae aG<|ae ao ak) ak)<|ai (uV [(_,_),(_,_)] G (eh g<|aa g)<|ai (a_ (ba g (aa g) aG) (ai (DP (aE g (bf g (bf g (aa g)<|jo ao) ao)<|aa g) (bf g (aa g)<|jo ao) ao) au)<|ai (a_ (ba g (aa g) aG) (ai (a_ (ba g (bf g (bf g (aa g)<|jo ao) ao) ao) (ai (dm<|gK g (aa g)<|ae (bJ<|ae aG<|ae aG<|ae ao ak) ak) au) au)<|ai (DP (aE g (bf g (bf g (aa g)<|jo ao)<|cM g<|ae (dB g (aa g) aG) ak)<|aa g) (bf g (aa g)<|jo ao)<|cM g<|ae (dB g (aa g) aG) ak) au) au) au) au)<|ai (aK G<|bJ ak)<|ai (uV [(_,_),(_,_),(_,_)] G (eh g<|aa g)<|ai (aK G<|bJ<|ae (b_<|ae aG<|ae (aa g) ak)<|ae (b_<|ae aG<|ae (aa g) ak)<|ae (b_<|ae aG<|ae (aa g) ak) ak)<|ai (aK G<|aE g (aa g)<|nc (ln:=["_law_part"]) g (by kernel_rfl) (eh g<|aa g) (oZ fun _ g=>(PW.pt<|yv (ba g (bf g (aa g) ao) aG)<|yu<|ba g (bf g (aa g) ao) ao))<|fun _ g=>(aa g)) au)<|ai (aP<|aa g) au)
def FL:Stmt:=bp 43
theorem R3:MX D_ FL QH af af af af af af Ea 0:=fun G=>have g:=G.toGood;(ai (aP<|aM g<|ae (aM g<|ae (aa g)<|ae (aa g)<|ae (aa g) ak) ak) au)
def yI:List Str:=["_law_text_here","_law_change_here","_law_found","_law_at","_law_word_here","_law_thing"]
def FN:Stmt:=bp 44
theorem R4:MX yI FN af af e_ af af af af Eb 0:=fun G=>have g:=G.toGood;(ai (aK G aG)<|ai (aK G ao)<|ai (uV [(_,_),(_,_)] G (eh g<|aa g)<|ai (a_ (ba g (aa g) aG) (ai (aK G<|aE g (aa g)<|aa g) au)<|ai (a_ (ba g (aa g) aG) (ai (aK G<|aE g (aa g)<|cM g<|ae (aa g) ak) au)<|ai (aK G<|aE g (aa g)<|rj g (aa g) (lG<|aa g)<|lG<|aE g (aa g)<|aa g)<|ai (aK G<|aE g (aa g)<|aa g) au) au) au)<|ai (aP<|aa g) au)
def iO:List Str:=["_law_e","_law_some","_law_found"]
def ez:Stmt:=bp 45
theorem R5:MY iO ez af j_ ka af af af af dX 1 0:=by
 intro CX Γ X G;have g:=G.toGood;show PS X (.Assign [.Name "_law_some" _] _ _) (aV Γ<|.asg 1 _)
 with_reducible exact(aK G<|bJ<|ae (b_<|ae aG<|ae (fV g (aa g)<|fA g) ak)<|ae (b_<|ae aG<|ae (fV g (aa g)<|fA g) ak)<|ae (b_<|ae aG<|ae (fV g (aa g)<|fA g) ak) ak)
theorem R6:MY iO ez af j_ ka af af af af dX 1 1:=by
 intro CX Γ X G;have g:=G.toGood;show PS X (.Assign [.Name "_law_some" _] _ _) (aV Γ<|.asg 1 _)
 with_reducible exact(aK G<|aE g (aa g)<|bJ<|ae (b_<|ae aG<|ae (fV g (aa g)<|fA g) ak)<|ae (b_<|ae aG<|ae (fV g (aa g)<|fA g) ak)<|ae (b_<|ae aG<|ae (fV g (aa g)<|fA g) ak) ak)
theorem R7:MY iO ez af j_ ka af af af af dX 1 2:=by
 intro CX Γ X G;have g:=G.toGood;show PS X (.Assign [.Name "_law_some" _] _ _) (aV Γ<|.asg 1 _)
 with_reducible exact(aK G<|aE g (aa g)<|bJ<|ae (b_<|ae aG<|ae (fV g (aa g)<|fA g) ak)<|ae (b_<|ae aG<|ae (fV g (aa g)<|fA g) ak) ak)
theorem R8:MY iO ez af j_ ka af af af af dX 1 3:=by
 intro CX Γ X G;have g:=G.toGood;show PS X (.Assign [.Name "_law_some" _] _ _) (aV Γ<|.asg 1 _)
 with_reducible exact(aK G<|aE g (aa g)<|bJ<|ae (b_<|ae aG<|ae (fV g (aa g)<|fA g) ak)<|ae (b_<|ae aG<|ae (fV g (aa g)<|fA g) ak) ak)
theorem R9:MY iO ez af j_ ka af af af af dX 1 4:=by
 intro CX Γ X G;have g:=G.toGood;show PS X (.Assign [.Name "_law_some" _] _ _) (aV Γ<|.asg 1 _)
 with_reducible exact(aK G<|aE g (aa g)<|bJ<|ae (b_<|ae aG<|ae (fV g (aa g)<|fA g) ak)<|ae (b_<|ae aG<|ae (fV g (aa g)<|fA g) ak)<|ae (b_<|ae aG<|ae (fV g (aa g)<|fA g) ak) ak)
theorem R_:MY iO ez af j_ ka af af af af dX 1 5:=fun G=>have g:=G.toGood;(Qj G (by kernel_rfl) (by kernel_rfl) (by kernel_rfl) (aa g) (oZ fun _ g=>(Qg g<|aa g))<|fun _ g=>(aa g))
theorem Sa:MY iO ez af j_ ka af af af af dX 1 6:=fun G=>have g:=G.toGood;(a_ (PW.pt<|gL (dJ<|DM g<|fV g (aa g)<|fA g)<|j8<|dJ<|DM g<|fV g (aa g)<|Qa g (by decide+kernel) (by decide) (by decide)) (ai (dm<|gK g (aa g)<|ae aG ak) au) au)
theorem Sb:MY iO ez af j_ ka af af af af dX 1 7:=by
 intro CX Γ X G;have g:=G.toGood;show PS X (.Return (some _) _) (aV Γ<|.ret _)
 with_reducible exact(aP<|gK g aG<|ae (aa g) ak)
theorem Se:MX iO ez af j_ ka af af af af dX 1:=by
 intro CX Γ X G;have e:cP ez=[bz ez 0,bz ez 1,bz ez 2,bz ez 3,bz ez 4,bz ez 5,bz ez 6,bz ez 7]:=by kernel_rfl
 have e2:dX=[bA dX 0,bA dX 1,bA dX 2,bA dX 3,bA dX 4,bA dX 5,bA dX 6,bA dX 7]:=by kernel_rfl
 rw[e,e2]
 with_reducible exact ai (R5 G) (ai (R6 G)<|ai (R7 G)<|ai (R8 G)<|ai (R9 G)<|ai (R_ G)<|ai (Sa G)<|ai (Sb G)<|au)
def FO:List Str:=["_law_cell","_law_size_here"]
noncomputable def FP:List RS:=
 [.ret<|.ix (.lst [(.c<|.int 0),.v 1,(.bin .Mod (.call 0 [.v 0,(.c<|.int 7)])<|.bin .Add (.v 1)<|.c<|.int 1),(.bin .Mod (.call 0 [.v 0,(.c<|.int 9)])<|.bin .Add (.v 1)<|.c<|.int 1)])<|.bin .Mod (.v 0)<|.c<|.int 4]
def FQ:Stmt:=bp 46
theorem Sf:MX FO FQ lJ af af af af af af FP 0:=fun G=>have g:=G.toGood;(ai (aP<|bf g (bJ<|ae ao<|ae (aa g)<|ae (aE g (aM g<|ae (aa g)<|ae ao ak)<|aE g (aa g) ao)<|ae (aE g (aM g<|ae (aa g)<|ae ao ak)<|aE g (aa g) ao) ak)<|aE g (aa g) ao) au)
def rK:List Str:=["_law_cell","_law_beyond","_law_more","_law_some"]
noncomputable def kd:List RS:=
 [.asg 2 (.call 0 [.v 0,(.c (.int 2))]),
 .asg 3 (.lst [(.neg<|.c<|.int 1),.v 1,(.c<|.bl true),.c .aD,(.c<|.str "0"),(.lst [(.c<|.int 0)]),(.tup [(.c<|.int 0)]),.k_,(.bin .Add (.v 1)<|.v 2),(.c<|.bl false),(.bin .Sub (.neg<|.c<|.int 1)<|.v 2)]),
 .ret (.ix (.v 3) (.bin .Mod (.v 0) (.c (.int 11))))]
def ke:Stmt:=bp 47
theorem Sg:MY rK ke lJ af af af af af af kd 0 0:=by
 intro CX Γ X G;have g:=G.toGood;show PS X (.Assign [.Name "_law_more" _] _ _) (aV Γ<|.asg 2 _)
 with_reducible exact(aK G<|aM g<|ae (aa g)<|ae ao ak)
theorem Sh:MY rK ke lJ af af af af af af kd 0 1:=by
 intro CX Γ X G;have g:=G.toGood;show PS X (.Assign [.Name "_law_some" _] _ _) (aV Γ<|.asg 3 _)
 with_reducible exact(aK G<|bJ<|ae (jo ao)<|ae (aa g)<|ae e9<|ae oY<|ae aG<|ae (bJ<|ae ao ak)<|ae (b_<|ae ao ak)<|ae uT<|ae (aE g (aa g)<|aa g)<|ae e9<|ae (aE g (jo ao)<|aa g) ak)
theorem Si:MY rK ke lJ af af af af af af kd 0 2:=by
 intro CX Γ X G;have g:=G.toGood;show PS X (.Return (some _) _) (aV Γ<|.ret _)
 with_reducible exact(aP<|bf g (aa g)<|aE g (aa g) ao)
theorem Sj:MX rK ke lJ af af af af af af kd 0:=by
 intro CX Γ X G;have e:cP ke=[bz ke 0,bz ke 1,bz ke 2]:=by kernel_rfl
 have e2:kd=[bA kd 0,bA kd 1,bA kd 2]:=by kernel_rfl
 rw[e,e2]
 with_reducible exact ai (Sg G) (ai (Sh G)<|ai (Si G)<|au)
def FR:List Str:=["_law_marks","_law_way","_law_one","_law_other","_law_e"]
noncomputable def FT:List RS:=
 [.xJ 5 4 0 [.ite (.cmp .Eq (.v 1) (.c (.int 0))) [.drop (.make 0 [.v 2])] [.ite (.cmp .Lt (.v 1) (.c (.int 3))) [.drop (.bo 0 "add" (.v 0) [.v 2,.v 3])] [.ite (.cmp .Eq (.v 1) (.c (.int 3))) [.drop (.bo 1 "drop" (.v 0) [.v 2])] [.ite (.cmp .Eq (.v 1) (.c (.int 4))) [.drop (.bo 2 "place" (.v 0) [.v 2])] [.ite (.cmp .Eq (.v 1) (.c (.int 5))) [.drop (.bo 3 "side" (.v 0) [.v 2])] [.drop (.bo 4 "within" (.v 0) [.v 2,.v 3])]]]]]] [.ret (.uA 0 (.v 4))],
 .ret (.c (.str ""))]
def Sk:List Str:=["InkError"]
def Sl:List Str:=["add","drop","place","side","within"]
def gM:List Str:=["Marks"]
def Sm:List Str:=["_law_word"]
def FU:Stmt:=bp 48
theorem Sn:MX FR FU af Sk af Sl gM af Sm FT 0:=fun G=>have g:=G.toGood;(ai (Qo G (by kernel_rfl) (by kernel_rfl) (fun G=>(fun g=>(ai (a_ (ba g (aa g) ao) (ai (dm<|rg g<|ae (aa g) ak) au)<|ai (a_ (ba g (aa g) ao) (ai (dm<|cQ g (aa g)<|ae (aa g)<|ae (aa g) ak) au)<|ai (a_ (ba g (aa g) ao) (ai (dm<|cQ g (aa g)<|ae (aa g) ak) au)<|ai (a_ (ba g (aa g) ao) (ai (dm<|cQ g (aa g)<|ae (aa g) ak) au)<|ai (a_ (ba g (aa g) ao) (ai (dm<|cQ g (aa g)<|ae (aa g) ak) au)<|ai (dm<|cQ g (aa g)<|ae (aa g)<|ae (aa g) ak) au) au) au) au) au) au)) G.toGood)<|fun G=>(fun g=>(ai (aP<|Qc g<|aa g) au)) G.toGood)<|ai (aP aG) au)
def ic:List Str:=["_law_marks","_law_own","_law_size_here","_law_cell","_law_way","_law_odd_here","_law_lost","_law_none","_law_side","_law_number"]
noncomputable def cR:List RS:=
 [.asg 4 (.bin .Mod (.v 3) (.c (.int 9))),
 .asg 5 (.call 0 [(.bin .FloorDiv (.v 3)<|.c<|.int 9),(.bin .Add (.v 2)<|.c<|.int 1)]),
 .jY 6 (.comp none [("_law_own",1)] .eS [(.bin .Add (.bR (.v 1)<|.c<|.str "begun")<|.c<|.int 1)] (some<|.oN (.v 0)<|.bR (.v 1)<|.c<|.str "rows")<|.v 0),
 .ite (.cmp .Eq (.v 4) (.c (.int 0))) [.asg 7 (.ix (.lst [(.neg (.c (.int 1))),(.c (.bl true)),.c .aD,(.c (.str "3")),(.lst [(.c (.int 3))]),(.tup [(.c (.int 3))]),.k_,(.c (.bl false)),(.neg (.bin .Pow (.c (.int 10)) (.c (.int 20))))]) (.bin .Mod (.bin .FloorDiv (.v 3) (.c (.int 9))) (.c (.int 9)))),
  .ret (.cmp .Eq (.call 1 [.v 0,(.c (.int 0)),.v 7,(.c (.int 0))]) (.c (.str "place")))] [],
 .ite (.cmp .Eq (.v 4)<|.c<|.int 1) [.ret<|.cmp .Eq (.call 1 [.v 0,(.c<|.int 1),.v 5,(.ix (.lst [(.c<|.str "left"),(.c<|.str "right"),(.c<|.str "Left"),.c .aD])<|.bin .Mod (.bin .FloorDiv (.v 3)<|.c<|.int 99)<|.c<|.int 4)])<|.c<|.str "place"] [],
 .ite (.cmp .Eq (.v 4) (.c (.int 2))) [.asg 8 (.ix (.lst [(.c (.str "Left")),(.c (.str "")),.c .aD,(.c (.bl true)),(.c (.int 1)),(.lst [(.c (.str "left"))]),(.tup [(.c (.str "left"))]),(.c (.str "rights"))]) (.bin .Mod (.bin .FloorDiv (.v 3) (.c (.int 9))) (.c (.int 8)))),
  .ret (.cmp .Eq (.call 1 [.v 0,(.c (.int 2)),(.call 2 [(.bin .FloorDiv (.v 3) (.c (.int 72))),.v 2]),.v 8]) (.c (.str "side")))] [],
 .ite (.cmp .Lt (.v 4) (.c (.int 6))) [.asg 9 (.ix (.v 6) (.bin .Mod (.bin .FloorDiv (.v 3) (.c (.int 18))) (.blt .len [.v 6]))),
  .ite (.cmp .Eq (.bin .Mod (.bin .FloorDiv (.v 3)<|.c<|.int 9)<|.c<|.int 2)<|.c<|.int 1) [.asg 9<|.call 0 [(.bin .FloorDiv (.v 3)<|.c<|.int 18),(.bR (.v 1)<|.c<|.str "begun")]] [],
  .ret (.cmp .Eq (.call 1 [.v 0,.v 4,.v 9,(.c (.int 0))]) (.c (.str "mark")))] [],
 .ite (.cmp .Eq (.v 4)<|.c<|.int 6) [.ret<|.cmp .Eq (.call 1 [.v 0,(.c<|.int 6),.v 5,.v 2])<|.c<|.str "place"] [],
 .ite (.cmp .Eq (.v 4)<|.c<|.int 7) [.ret<|.cmp .Eq (.call 1 [.v 0,(.c<|.int 6),(.c<|.int 0),.v 5])<|.c<|.str "place"] [],
 .ret (.or [(.cmp .Eq (.v 2) (.c (.int 0))),(.cmp .Eq (.call 1 [.v 0,(.c (.int 6)),.v 2,(.bin .Mod (.call 3 [.v 3,(.c (.int 5))]) (.v 2))]) (.c (.str "place")))])]
def iQ:List Str:=["_law_odd","_law_told","_law_place","_law_mixed"]
def dq:Stmt:=bp 49
theorem So:MY ic dq iQ af h_ af af af af cR 0 0:=by
 intro CX Γ X G;have g:=G.toGood;show PS X (.Assign [.Name "_law_way" _] _ _) (aV Γ<|.asg 4 _)
 with_reducible exact(aK G<|aE g (aa g) ao)
theorem Sq:MY ic dq iQ af h_ af af af af cR 0 1:=by
 intro CX Γ X G;have g:=G.toGood;show PS X (.Assign [.Name "_law_odd_here" _] _ _) (aV Γ<|.asg 5 _)
 with_reducible exact(aK G<|aM g<|ae (aE g (aa g) ao)<|ae (aE g (aa g) ao) ak)
theorem Sr:MY ic dq iQ af h_ af af af af cR 0 2:=fun G=>have g:=G.toGood;(yx (ln:=["_law_number"]) G (by kernel_rfl) (by kernel_rfl) (by kernel_rfl) (rq g<|aE g (dj g (aa g) aG) ao) (oZ fun _ g=>(DJ g (aa g)<|dj g (aa g) aG))<|fun _ g=>(aa g))
theorem Ss:MY ic dq iQ af h_ af af af af cR 0 3:=by
 intro CX Γ X G;have g:=G.toGood;show PS X (.If _ _ _ _) (aV Γ<|.ite _ _ _);refine a_ ?_ ?_ ?_
 ·exact(ba g (aa g) ao)
 ·refine ai ?_ ?_
  ·show PS X (.Assign [.Name "_law_none" _] _ _) (aV Γ<|.asg 7 _)
   with_reducible exact(aK G<|bf g (bJ<|ae (jo ao)<|ae e9<|ae oY<|ae aG<|ae (bJ<|ae ao ak)<|ae (b_<|ae ao ak)<|ae uT<|ae e9<|ae (jo<|aE g ao ao) ak)<|aE g (aE g (aa g) ao) ao)
  refine ai ?_ ?_
  ·show PS X (.Return (some _) _) (aV Γ<|.ret _)
   with_reducible exact(aP<|dB g (aM g<|ae (aa g)<|ae ao<|ae (aa g)<|ae ao ak) aG)
  exact au
 ·exact au
theorem Su:MY ic dq iQ af h_ af af af af cR 0 4:=by
 intro CX Γ X G;have g:=G.toGood;show PS X (.If _ _ _ _) (aV Γ<|.ite _ _ _);refine a_ ?_ ?_ ?_
 ·exact(ba g (aa g) ao)
 ·refine ai ?_ ?_
  ·show PS X (.Return (some _) _) (aV Γ<|.ret _)
   with_reducible exact(aP<|dB g (aM g<|ae (aa g)<|ae ao<|ae (aa g)<|ae (bf g (bJ<|ae aG<|ae aG<|ae aG<|ae oY ak)<|aE g (aE g (aa g) ao) ao) ak) aG)
  exact au
 ·exact au
theorem Sv:MY ic dq iQ af h_ af af af af cR 0 5:=by
 intro CX Γ X G;have g:=G.toGood;show PS X (.If _ _ _ _) (aV Γ<|.ite _ _ _);refine a_ ?_ ?_ ?_
 ·exact(ba g (aa g) ao)
 ·refine ai ?_ ?_
  ·show PS X (.Assign [.Name "_law_side" _] _ _) (aV Γ<|.asg 8 _)
   with_reducible exact(aK G<|bf g (bJ<|ae aG<|ae aG<|ae oY<|ae e9<|ae ao<|ae (bJ<|ae aG ak)<|ae (b_<|ae aG ak)<|ae aG ak)<|aE g (aE g (aa g) ao) ao)
  refine ai ?_ ?_
  ·show PS X (.Return (some _) _) (aV Γ<|.ret _)
   with_reducible exact(aP<|dB g (aM g<|ae (aa g)<|ae ao<|ae (aM g<|ae (aE g (aa g) ao)<|ae (aa g) ak)<|ae (aa g) ak) aG)
  exact au
 ·exact au
theorem Sw:MY ic dq iQ af h_ af af af af cR 0 6:=by
 intro CX Γ X G;have g:=G.toGood;show PS X (.If _ _ _ _) (aV Γ<|.ite _ _ _);refine a_ ?_ ?_ ?_
 ·exact(ba g (aa g) ao)
 ·refine ai ?_ ?_
  ·show PS X (.Assign [.Name "_law_number" _] _ _) (aV Γ<|.asg 9 _)
   with_reducible exact(aK G<|bf g (aa g)<|aE g (aE g (aa g) ao)<|cM g<|ae (aa g) ak)
  refine ai ?_ ?_
  ·show PS X (.If _ _ _ _) (aV Γ<|.ite _ _ _);refine a_ ?_ ?_ ?_
   ·exact(ba g (aE g (aE g (aa g) ao) ao) ao)
   ·refine ai ?_ ?_
    ·show PS X (.Assign [.Name "_law_number" _] _ _) (aV Γ<|.asg 9 _)
     with_reducible exact(aK G<|aM g<|ae (aE g (aa g) ao)<|ae (dj g (aa g) aG) ak)
    exact au
   ·exact au
  refine ai ?_ ?_
  ·show PS X (.Return (some _) _) (aV Γ<|.ret _)
   with_reducible exact(aP<|dB g (aM g<|ae (aa g)<|ae (aa g)<|ae (aa g)<|ae ao ak) aG)
  exact au
 ·exact au
theorem Sx:MY ic dq iQ af h_ af af af af cR 0 7:=by
 intro CX Γ X G;have g:=G.toGood;show PS X (.If _ _ _ _) (aV Γ<|.ite _ _ _);refine a_ ?_ ?_ ?_
 ·exact(ba g (aa g) ao)
 ·refine ai ?_ ?_
  ·show PS X (.Return (some _) _) (aV Γ<|.ret _)
   with_reducible exact(aP<|dB g (aM g<|ae (aa g)<|ae ao<|ae (aa g)<|ae (aa g) ak) aG)
  exact au
 ·exact au
theorem Sy:MY ic dq iQ af h_ af af af af cR 0 8:=by
 intro CX Γ X G;have g:=G.toGood;show PS X (.If _ _ _ _) (aV Γ<|.ite _ _ _);refine a_ ?_ ?_ ?_
 ·exact(ba g (aa g) ao)
 ·refine ai ?_ ?_
  ·show PS X (.Return (some _) _) (aV Γ<|.ret _)
   with_reducible exact(aP<|dB g (aM g<|ae (aa g)<|ae ao<|ae ao<|ae (aa g) ak) aG)
  exact au
 ·exact au
theorem Sz:MY ic dq iQ af h_ af af af af cR 0 9:=by
 intro CX Γ X G;have g:=G.toGood;show PS X (.Return (some _) _) (aV Γ<|.ret _)
 with_reducible exact(aP<|P_ (dB g (aa g) ao)<|P9<|dB g (aM g<|ae (aa g)<|ae ao<|ae (aa g)<|ae (aE g (aM g<|ae (aa g)<|ae ao ak)<|aa g) ak) aG)
theorem SA:MX ic dq iQ af h_ af af af af cR 0:=by
 intro CX Γ X G;have e:cP dq=[bz dq 0,bz dq 1,bz dq 2,bz dq 3,bz dq 4,bz dq 5,bz dq 6,bz dq 7,bz dq 8,bz dq 9]:=by kernel_rfl
 have e2:cR=[bA cR 0,bA cR 1,bA cR 2,bA cR 3,bA cR 4,bA cR 5,bA cR 6,bA cR 7,bA cR 8,bA cR 9]:=by kernel_rfl
 rw[e,e2]
 with_reducible exact ai (So G) (ai (Sq G)<|ai (Sr G)<|ai (Ss G)<|ai (Su G)<|ai (Sv G)<|ai (Sw G)<|ai (Sx G)<|ai (Sy G)<|ai (Sz G)<|au)
def FV:List Str:=["_law_marks","_law_rows","_law_begin","_law_end","_law_due","_law_turn","_law_found"]
noncomputable def FW:List RS:=
 [.jY 4 (.comp none [("_law_begin",2),("_law_end",3)] .list [(.xt P2.vn [(.xt (zb [("_law_rows",1)] (.tup [(.ix (.bR (.v 1) (.v 0)) (.c (.int 0))),.v 0])) [.v 1])])] (some (.iM .LtE .LtE (.v 1) (.ix (.v 0) (.c (.int 0))) (.v 2))) (.ix (.v 0) (.c (.int 1)))),
 .fO 5 .eS [(.c (.int 2))] [.asg 6 (.bo 0 "within" (.v 0) [.v 2,.v 3]),
  .ite (.or [(.not<|.d_ .list<|.v 6),(.cmp .NotEq (.v 6)<|.v 4),(.not<|.xt rC [(.comp none [] .list [.v 6] none<|.call 0 [.v 0])])]) [.ret<|.c<|.bl false] [],
  .drop (.dU .append (.v 6) [(.neg (.c (.int 1)))])],
 .ret (.c (.bl true))]
def SE:List Str:=["_law_whole"]
def SF:List Str:=["sorted","range","isinstance","list","all"]
def SH:List Str:=["within"]
def FX:Stmt:=bp 50
theorem SI:MX FV FX SE af SF SH af af af FW 0:=fun G=>have g:=G.toGood;(ai (yx (ln:=["_law_pair"]) G (by kernel_rfl) (by kernel_rfl) (by kernel_rfl) (eh g<|P2.E4 g (by kernel_rfl) (by kernel_rfl)<|ae (Ra (ln:=["_law_number"]) g (by kernel_rfl) (aa g)<|fun _ g=>(b_<|ae (bf g (dj g (aa g)<|aa g) ao)<|ae (aa g) ak)) ak) (oZ fun _ g=>(DL g (aa g) (bf g (aa g) ao)<|aa g))<|fun _ g=>(bf g (aa g) ao))<|ai (js G (rq g ao)<|ai (aK G<|cQ g (aa g)<|ae (aa g)<|ae (aa g) ak)<|ai (a_ (PW.pt<|gL (dJ<|yw g<|jq g<|aa g)<|gL (ba g (aa g)<|aa g)<|j8<|dJ<|QJ g<|Eh g<|ae (nc (ln:=["_law_number"]) g (by kernel_rfl) (eh g<|aa g) rn<|fun _ g=>(aM g<|ae (aa g) ak)) ak) (ai (aP e9) au) au)<|ai (dm<|gK g (aa g)<|ae (jo ao) ak) au)<|ai (aP e9) au)
def FY:List Str:=["_law_marks","_law_rows","_law_cell","_law_some","_law_first","_law_number","_law_place_here"]
noncomputable def FZ:List RS:=
 [.asg 3 (.xt o9 [.v 1]),
 .asg 4 (.bin .Mod (.call 0 [.v 2,(.c<|.int 17)])<|.blt .max [(.c<|.int 1),(.blt .len [.v 3])]),
 .fO 5 .list [(.bin .Add (.sl (.v 3) (some (.v 4)) none) (.sl (.v 3) none (some (.v 4))))] [.asg 6 (.bo 0 "place" (.v 0) [.v 5]),
  .ite (.or [(.not (.call 1 [.v 6])),(.cmp .NotEq (.v 6) (.ix (.bR (.v 1) (.v 5)) (.c (.int 0)))),(.cmp .NotEq (.bo 1 "side" (.v 0) [.v 5]) (.ix (.bR (.v 1) (.v 5)) (.c (.int 1))))]) [.ret (.c (.bl false))] []],
 .fO 5 .list [.v 3] [.ite (.not<|.call 2 [.v 0,.v 1,(.ix (.bR (.v 1)<|.v 5)<|.c<|.int 0),(.ix (.bR (.v 1)<|.v 5)<|.c<|.int 0)]) [.ret<|.c<|.bl false] []],
 .ret (.c (.bl true))]
def SJ:List Str:=["_law_mixed","_law_whole","_law_within"]
def SK:List Str:=["sorted","max","len"]
def SM:List Str:=["place","side"]
def F0:Stmt:=bp 51
theorem SN:MX FY F0 SJ af SK SM af af af FZ 0:=fun G=>have g:=G.toGood;(ai (aK G<|va g<|ae (aa g) ak)<|ai (aK G<|aE g (aM g<|ae (aa g)<|ae ao ak)<|cM g<|ae ao<|ae (cM g<|ae (aa g) ak) ak)<|ai (js G (eh g<|aE g (rj g (aa g) (lG<|aa g) DK)<|rj g (aa g) DK<|lG<|aa g)<|ai (aK G<|cQ g (aa g)<|ae (aa g) ak)<|ai (a_ (PW.pt<|gL (dJ<|fB g<|aM g<|ae (aa g) ak)<|gL (ba g (aa g)<|bf g (dj g (aa g)<|aa g) ao)<|j8<|ba g (cQ g (aa g)<|ae (aa g) ak)<|bf g (dj g (aa g)<|aa g) ao) (ai (aP e9) au) au) au)<|ai (js G (eh g<|aa g)<|ai (a_ (dJ<|fB g<|aM g<|ae (aa g)<|ae (aa g)<|ae (bf g (dj g (aa g)<|aa g) ao)<|ae (bf g (dj g (aa g)<|aa g) ao) ak) (ai (aP e9) au) au) au)<|ai (aP e9) au)
def F1:List Str:=["_law_marks","_law_rows","_law_size_here","_law_cell","_law_way","_law_told_here","_law_pair"]
noncomputable def F2:List RS:=
 [.ite (.cmp .Eq (.v 4) (.c (.int 0))) [.ret (.and [(.call 0 [(.bo 0 "size" (.v 0) [])]),(.cmp .Eq (.bo 0 "size" (.v 0) []) (.v 2))])] [],
 .ite (.cmp .Eq (.v 4) (.c (.int 1))) [.asg 5 (.bo 1 "numbers" (.v 0) []),
  .ret (.and [(.d_ .list (.v 5)),(.cmp .Eq (.v 5) (.xt o9 [.v 1])),(.xt rC [(.comp none [] .list [.v 5] none (.call 0 [.v 0]))])])] [],
 .ite (.cmp .Eq (.v 4)<|.c<|.int 2) [.ret<|.call 1 [.v 0,.v 1,.v 3]] [],
 .asg 6 (.xt zd [(.lst [(.bin .Mod (.call 2 [.v 3,(.c<|.int 11)])<|.bin .Add (.v 2)<|.c<|.int 1),(.bin .Mod (.call 2 [.v 3,(.c<|.int 13)])<|.bin .Add (.v 2)<|.c<|.int 1)])]),
 .ret (.and [(.call 3 [.v 0,.v 1,(.ix (.v 6) (.c (.int 0))),(.ix (.v 6) (.c (.int 1)))]),(.call 3 [.v 0,.v 1,(.c (.int 0)),.v 2])])]
def SO:List Str:=["_law_whole","_law_places","_law_mixed","_law_within"]
def SQ:List Str:=["isinstance","list","sorted","all"]
def SR:List Str:=["size","numbers"]
def F3:Stmt:=bp 52
theorem SS:MX F1 F3 SO af SQ SR af af af F2 0:=fun G=>have g:=G.toGood;(ai (a_ (ba g (aa g) ao) (ai (aP<|fU (aM g<|ae (j7 g<|aa g) ak)<|gJ<|dB g (j7 g<|aa g)<|aa g) au) au)<|ai (a_ (ba g (aa g) ao) (ai (aK G<|j7 g<|aa g)<|ai (aP<|fU (jq g<|aa g)<|fU (dB g (aa g)<|va g<|ae (aa g) ak)<|gJ<|Eh g<|ae (nc (ln:=["_law_number"]) g (by kernel_rfl) (eh g<|aa g) rn<|fun _ g=>(aM g<|ae (aa g) ak)) ak) au) au)<|ai (a_ (ba g (aa g) ao) (ai (aP<|aM g<|ae (aa g)<|ae (aa g)<|ae (aa g) ak) au) au)<|ai (aK G<|Rw g<|ae (bJ<|ae (aE g (aM g<|ae (aa g)<|ae ao ak)<|aE g (aa g) ao)<|ae (aE g (aM g<|ae (aa g)<|ae ao ak)<|aE g (aa g) ao) ak) ak)<|ai (aP<|fU (aM g<|ae (aa g)<|ae (aa g)<|ae (bf g (aa g) ao)<|ae (bf g (aa g) ao) ak)<|gJ<|aM g<|ae (aa g)<|ae (aa g)<|ae ao<|ae (aa g) ak) au)
def F4:List Str:=["_law_marks","_law_rows","_law_size_here","_law_cell","_law_first","_law_step","_law_k"]
noncomputable def zh:List RS:=
 [.asg 4 (.bin .Mod (.call 0 [.v 3,(.c (.int 15))]) (.c (.int 4))),
 .asg 5 (.ix (.lst [(.c<|.int 1),(.c<|.int 3)])<|.bin .Mod (.bin .FloorDiv (.call 0 [.v 3,(.c<|.int 15)])<|.c<|.int 4)<|.c<|.int 2),
 .fO 6 .eS [(.c<|.int 5)] [.ite (.not<|.call 1 [.v 0,.v 1,.v 2,.v 3,(.bin .Mod (.bin .Add (.v 4)<|.bin .Mult (.v 6)<|.v 5)<|.c<|.int 4)]) [.ret<|.c<|.bl false] []],
 .ret (.c (.bl true))]
def SU:List Str:=["_law_mixed","_law_asked"]
def SV:List Str:=["range"]
def F5:Stmt:=bp 53
theorem SW:MX F4 F5 SU af SV af af af af zh 0:=fun G=>have g:=G.toGood;(ai (aK G<|aE g (aM g<|ae (aa g)<|ae ao ak) ao)<|ai (aK G<|bf g (bJ<|ae ao<|ae ao ak)<|aE g (aE g (aM g<|ae (aa g)<|ae ao ak) ao) ao)<|ai (js G (rq g ao)<|ai (a_ (dJ<|fB g<|aM g<|ae (aa g)<|ae (aa g)<|ae (aa g)<|ae (aa g)<|ae (aE g (aE g (aa g)<|aE g (aa g)<|aa g) ao) ak) (ai (aP e9) au) au) au)<|ai (aP e9) au)
def zi:List Str:=["_law_marks","_law_size_here","_law_cell","_law_told_here","_law_way","_law_before"]
noncomputable def rL:List RS:=
 [.fO 4 .list [(.ix (.lst [(.lst []),(.lst [(.c (.int 0))]),(.lst [(.c (.int 1))]),(.lst [(.c (.int 0)),(.c (.int 1))]),(.lst [(.c (.int 1)),(.c (.int 0))])]) (.bin .Mod (.call 0 [.v 2,(.c (.int 19))]) (.c (.int 5))))] [.ite (.cmp .Eq (.v 4) (.c (.int 0))) [.asg 5 (.bo 0 "within" (.v 0) [(.c (.int 0)),.v 1])] [.asg 5 (.bo 1 "numbers" (.v 0) [])],
  .drop (.dU .append (.v 3) [(.tup [.v 5,(.blt .list [.v 5])])])]]
def F6:List Str:=["within","numbers"]
def rM:Stmt:=bp 54
theorem SX:MY zi rM lJ af yZ F6 af af af rL 0 0:=by
 intro CX Γ X G;have g:=G.toGood;show PS X (.For (.Name _ _) (.Subscript (.List _ _) _ _) _ _ _) (aV Γ<|.fO 4 .list [(.ix (.lst _) _)] _)
 with_reducible refine js G (eh g<|bf g ?_ ?_) ?_ (hq:=by kernel_rfl)
 ·with_reducible exact(bJ<|ae (bJ ak)<|ae (bJ<|ae ao ak)<|ae (bJ<|ae ao ak)<|ae (bJ<|ae ao<|ae ao ak)<|ae (bJ<|ae ao<|ae ao ak) ak)
 ·with_reducible exact(aE g (aM g (ae (aa g)<|ae ao ak) (hq:=by kernel_rfl)) ao)
 refine ai ?_ ?_
 ·exact(a_ (ba g (aa g) ao) (ai (aK G<|cQ g (aa g)<|ae ao<|ae (aa g) ak) au)<|ai (aK G<|j7 g<|aa g) au)
 refine ai ?_ ?_
 ·exact(dm<|gK g (aa g)<|ae (b_<|ae (aa g)<|ae (cM g<|ae (aa g) ak) ak) ak)
 exact au
theorem SY:MX zi rM lJ af yZ F6 af af af rL 0:=by
 intro CX Γ X G;have e:cP rM=[bz rM 0]:=by kernel_rfl
 have e2:rL=[bA rL 0]:=by kernel_rfl
 rw[e,e2]
 with_reducible exact ai (SX G) (au)
def F7:List Str:=["_law_marks","_law_own","_law_size_here","_law_cell","_law_side","_law_place_here","_law_number"]
noncomputable def zj:List RS:=
 [.asg 4 (.ix (.lst [(.c (.str "left")),(.c (.str "right"))]) (.bin .Mod (.v 3) (.c (.int 2)))),
 .asg 5 (.call 0 [(.bin .FloorDiv (.v 3)<|.c<|.int 2),.v 2]),
 .asg 6 (.bo 0 "add" (.v 0) [.v 5,.v 4]),
 .dput (.bR (.v 1)<|.c<|.str "rows") (.bR (.v 1)<|.c<|.str "begun") (.tup [.v 5,.v 4]),
 .dput (.v 1) (.c<|.str "begun") (.bin .Add (.bR (.v 1)<|.c<|.str "begun")<|.c<|.int 1),
 .ret (.and [(.call 1 [.v 6]),(.cmp .Eq (.v 6) (.bin .Sub (.bR (.v 1) (.c (.str "begun"))) (.c (.int 1))))])]
def S8:List Str:=["_law_place","_law_whole"]
def S9:List Str:=["add"]
def F8:Stmt:=bp 55
theorem S_:MX F7 F8 S8 af af S9 af af af zj 0:=fun G=>have g:=G.toGood;(ai (aK G<|bf g (bJ<|ae aG<|ae aG ak)<|aE g (aa g) ao)<|ai (aK G<|aM g<|ae (aE g (aa g) ao)<|ae (aa g) ak)<|ai (aK G<|cQ g (aa g)<|ae (aa g)<|ae (aa g) ak)<|ai (o5 G (b_<|ae (aa g)<|ae (aa g) ak) (dj g (aa g) aG)<|dj g (aa g) aG)<|ai (o5 G (aE g (dj g (aa g) aG) ao) (aa g) aG)<|ai (aP<|fU (aM g<|ae (aa g) ak)<|gJ<|dB g (aa g)<|aE g (dj g (aa g) aG) ao) au)
def iR:List Str:=["_law_marks","_law_own","_law_cell","_law_rows","_law_text_here","_law_number","_law_change_here","_law_place_here","_law_side"]
noncomputable def dC:List RS:=
 [.asg 3 (.bR (.v 1) (.c (.str "rows"))),
 .asg 4 (.bR (.v 1)<|.c<|.str "text"),
 .ite (.cmp .Lt (.bin .Mod (.v 2)<|.c<|.int 9)<|.c<|.int 4) [.ret<|.call 0 [.v 0,.v 1,(.blt .len [.v 4]),(.bin .FloorDiv (.v 2)<|.c<|.int 9)]] [],
 .ite (.and [(.cmp .Lt (.bin .Mod (.v 2) (.c (.int 9))) (.c (.int 6))),(.cmp .Gt (.xt vi [.v 3]) (.c (.int 0)))]) [.asg 5 (.ix (.xt o9 [.v 3]) (.bin .Mod (.bin .FloorDiv (.v 2) (.c (.int 9))) (.xt vi [.v 3]))),
  .drop (.xm vj (.v 3) [.v 5]),
  .ret (.cmp .Is (.bo 0 "drop" (.v 0) [.v 5]) (.c .aD))] [],
 .ite (.cmp .Eq (.bin .Mod (.v 2)<|.c<|.int 9)<|.c<|.int 8) [.ret<|.call 1 [.v 0,.v 1,(.blt .len [.v 4]),(.bin .FloorDiv (.v 2)<|.c<|.int 9)]] [],
 .asg 6 (.call 2 [.v 2,.v 4,(.bin .Mod (.call 3 [.v 2,(.c<|.int 3)])<|.c<|.int 9)]),
 .dput (.v 1) (.c<|.str "text") (.call 4 [.v 4,.v 6]),
 .fO 5 .list [(.xt u_ [.v 3])] [.uB [7,8] (.bR (.v 3) (.v 5)),
  .dput (.v 3) (.v 5) (.tup [(.call 5 [.v 6,.v 7,.v 8]),.v 8])],
 .ret (.cmp .Is (.bo 1 "changed" (.v 0) [(.blt .list [.v 6])]) (.c .aD))]
def jy:List Str:=["_law_added","_law_refused","_law_change","_law_mixed","_law_done","moved"]
def jz:List Str:=["len","sorted","list"]
def jA:List Str:=["drop","changed"]
def dN:Stmt:=bp 56
theorem Ta:MY iR dN jy af jz jA af af af dC 0 0:=by
 intro CX Γ X G;have g:=G.toGood;show PS X (.Assign [.Name "_law_rows" _] _ _) (aV Γ<|.asg 3 _)
 with_reducible exact(aK G<|dj g (aa g) aG)
theorem Tb:MY iR dN jy af jz jA af af af dC 0 1:=by
 intro CX Γ X G;have g:=G.toGood;show PS X (.Assign [.Name "_law_text_here" _] _ _) (aV Γ<|.asg 4 _)
 with_reducible exact(aK G<|dj g (aa g) aG)
theorem Tc:MY iR dN jy af jz jA af af af dC 0 2:=fun G=>have g:=G.toGood;(a_ (ba g (aE g (aa g) ao) ao) (ai (aP<|aM g<|ae (aa g)<|ae (aa g)<|ae (cM g<|ae (aa g) ak)<|ae (aE g (aa g) ao) ak) au) au)
theorem Td:MY iR dN jy af jz jA af af af dC 0 3:=fun G=>have g:=G.toGood;(a_ (PW.pt<|yv (ba g (aE g (aa g) ao) ao)<|yu<|ba g (EU g<|ae (aa g) ak) ao) (ai (aK G<|bf g (va g<|ae (aa g) ak)<|aE g (aE g (aa g) ao)<|EU g<|ae (aa g) ak)<|ai (dm<|EW g (aa g)<|aa g)<|ai (aP<|dB g (cQ g (aa g)<|ae (aa g) ak) oY) au) au)
theorem Te:MY iR dN jy af jz jA af af af dC 0 4:=fun G=>have g:=G.toGood;(a_ (ba g (aE g (aa g) ao) ao) (ai (aP<|aM g<|ae (aa g)<|ae (aa g)<|ae (cM g<|ae (aa g) ak)<|ae (aE g (aa g) ao) ak) au) au)
theorem Tf:MY iR dN jy af jz jA af af af dC 0 5:=by
 intro CX Γ X G;have g:=G.toGood;show PS X (.Assign [.Name "_law_change_here" _] _ _) (aV Γ<|.asg 6 _)
 with_reducible exact(aK G<|aM g<|ae (aa g)<|ae (aa g)<|ae (aE g (aM g<|ae (aa g)<|ae ao ak) ao) ak)
theorem Tg:MY iR dN jy af jz jA af af af dC 0 6:=fun G=>have g:=G.toGood;(o5 G (aM g<|ae (aa g)<|ae (aa g) ak) (aa g) aG)
theorem Th:MY iR dN jy af jz jA af af af dC 0 7:=fun G=>have g:=G.toGood;(js G (eh g<|Es g<|ae (aa g) ak)<|ai (Qm [(_,_),(_,_)] G<|dj g (aa g)<|aa g)<|ai (o5 G (b_<|ae (aM g<|ae (aa g)<|ae (aa g)<|ae (aa g) ak)<|ae (aa g) ak) (aa g)<|aa g) au)
theorem Ti:MY iR dN jy af jz jA af af af dC 0 8:=by
 intro CX Γ X G;have g:=G.toGood;show PS X (.Return (some _) _) (aV Γ<|.ret _)
 with_reducible exact(aP<|dB g (cQ g (aa g)<|ae (cM g<|ae (aa g) ak) ak) oY)
theorem Tj:MX iR dN jy af jz jA af af af dC 0:=by
 intro CX Γ X G;have e:cP dN=[bz dN 0,bz dN 1,bz dN 2,bz dN 3,bz dN 4,bz dN 5,bz dN 6,bz dN 7,bz dN 8]:=by kernel_rfl
 have e2:dC=[bA dC 0,bA dC 1,bA dC 2,bA dC 3,bA dC 4,bA dC 5,bA dC 6,bA dC 7,bA dC 8]:=by kernel_rfl
 rw[e,e2]
 with_reducible exact ai (Ta G) (ai (Tb G)<|ai (Tc G)<|ai (Td G)<|ai (Te G)<|ai (Tf G)<|ai (Tg G)<|ai (Th G)<|ai (Ti G)<|au)
def gN:List Str:=["_law_script","_law_text_here","_law_marks","_law_own","_law_told_here","_law_cell","_law_far","_law_other"]
noncomputable def cN:List RS:=
 [.asg 1 (.call 0 [(.call 1 [.v 0,(.c (.int 1))]),(.call 2 [(.call 1 [.v 0,(.c (.int 0))])])]),
 .asg 2 (.make 0 [(.blt .len [.v 1])]),
 .asg 3 (.xt o7 [(.c<|.str "rows"),.k_,(.c<|.str "begun"),(.c<|.int 0),(.c<|.str "text"),.v 1]),
 .ite (.not<|.call 3 [.v 2,(.bR (.v 3)<|.c<|.str "rows"),(.blt .len [.v 1]),(.c<|.int 0)]) [.ret<|.c<|.bl false] [],
 .asg 4 (.lst []),
 .fO 5 .list [(.sl (.v 0) (some (.c (.int 2))) (some (.c (.int 26))))] [.drop (.call 4 [.v 2,(.blt .len [(.bR (.v 3) (.c (.str "text")))]),.v 5,.v 4]),
  .ite (.or [(.not (.call 5 [.v 2,.v 3,.v 5])),(.not (.call 3 [.v 2,(.bR (.v 3) (.c (.str "rows"))),(.blt .len [(.bR (.v 3) (.c (.str "text")))]),.v 5]))]) [.ret (.c (.bl false))] []],
 .ite (.cmp .NotEq (.comp (some 2) [] .list [.v 4] (some<|.cmp .NotEq (.v 0)<|.v 1)<|.v 0)<|.lst []) [.ret<|.c<|.bl false] [],
 .asg 6 (.bin .Add (.bin .Pow (.c<|.int 10)<|.c<|.int 12)<|.call 6 [(.call 1 [.v 0,(.c<|.int 0)]),(.c<|.int 17)]),
 .asg 7 (.make 0 [.v 6]),
 .ite (.or [(.cmp .NotEq (.bo 0 "add" (.v 7) [.v 6,(.c<|.str "right")])<|.c<|.int 0),(.cmp .NotEq (.bo 0 "add" (.v 7) [(.c<|.int 0),(.c<|.str "left")])<|.c<|.int 1),(.cmp .NotEq (.bo 1 "within" (.v 7) [(.c<|.int 1),.v 6])<|.lst [(.c<|.int 0)]),(.cmp .NotEq (.bo 2 "size" (.v 7) [])<|.v 6)]) [.ret<|.c<|.bl false] [],
 .ret (.call 3 [.v 2,(.bR (.v 3) (.c (.str "rows"))),(.blt .len [(.bR (.v 3) (.c (.str "text")))]),(.c (.int 1))])]
def ie:List Str:=["_law_text","_law_cell_at","_law_size","_law_stands","_law_kept","_law_deed","_law_mixed"]
def ig:List Str:=["add","within","size"]
def cT:Stmt:=bp 57
theorem Tn:MY gN cT ie af e_ ig gM af af cN 0 0:=by
 intro CX Γ X G;have g:=G.toGood;show PS X (.Assign [.Name "_law_text_here" _] _ _) (aV Γ<|.asg 1 _)
 with_reducible exact(aK G<|aM g<|ae (aM g<|ae (aa g)<|ae ao ak)<|ae (aM g<|ae (aM g<|ae (aa g)<|ae ao ak) ak) ak)
theorem To:MY gN cT ie af e_ ig gM af af cN 0 1:=by
 intro CX Γ X G;have g:=G.toGood;show PS X (.Assign [.Name "_law_marks" _] _ _) (aV Γ<|.asg 2 _)
 with_reducible exact(aK G<|rg g<|ae (cM g<|ae (aa g) ak) ak)
theorem Tp:MY gN cT ie af e_ ig gM af af cN 0 2:=by
 intro CX Γ X G;have g:=G.toGood;show PS X (.Assign [.Name "_law_own" _] _ _) (aV Γ<|.asg 3 _)
 with_reducible exact(aK G<|QV<|yS aG uT<|yS aG ao<|yS aG (aa g) QU)
theorem Tq:MY gN cT ie af e_ ig gM af af cN 0 3:=fun G=>have g:=G.toGood;(a_ (dJ<|fB g<|aM g<|ae (aa g)<|ae (dj g (aa g) aG)<|ae (cM g<|ae (aa g) ak)<|ae ao ak) (ai (aP e9) au) au)
theorem Tr:MY gN cT ie af e_ ig gM af af cN 0 4:=by
 intro CX Γ X G;have g:=G.toGood;show PS X (.Assign [.Name "_law_told_here" _] _ _) (aV Γ<|.asg 4 _)
 with_reducible exact(aK G<|bJ ak)
theorem Ts:MY gN cT ie af e_ ig gM af af cN 0 5:=fun G=>have g:=G.toGood;(js G (eh g<|rj g (aa g) (lG ao)<|lG ao)<|ai (dm<|aM g<|ae (aa g)<|ae (cM g<|ae (dj g (aa g) aG) ak)<|ae (aa g)<|ae (aa g) ak)<|ai (a_ (PW.pt<|gL (dJ<|fB g<|aM g<|ae (aa g)<|ae (aa g)<|ae (aa g) ak)<|j8<|dJ<|fB g<|aM g<|ae (aa g)<|ae (dj g (aa g) aG)<|ae (cM g<|ae (dj g (aa g) aG) ak)<|ae (aa g) ak) (ai (aP e9) au) au) au)
theorem Tt:MY gN cT ie af e_ ig gM af af cN 0 6:=fun G=>have g:=G.toGood;(a_ (ba g (nc (ln:=["_law_one","_law_other"]) g (by kernel_rfl) (eh g<|aa g) (oZ fun _ g=>(ba g (aa g)<|aa g))<|fun _ g=>(aa g))<|bJ ak) (ai (aP e9) au) au)
theorem Tu:MY gN cT ie af e_ ig gM af af cN 0 7:=by
 intro CX Γ X G;have g:=G.toGood;show PS X (.Assign [.Name "_law_far" _] _ _) (aV Γ<|.asg 6 _)
 with_reducible exact(aK G<|aE g (aE g ao ao)<|aM g<|ae (aM g<|ae (aa g)<|ae ao ak)<|ae ao ak)
theorem Tv:MY gN cT ie af e_ ig gM af af cN 0 8:=by
 intro CX Γ X G;have g:=G.toGood;show PS X (.Assign [.Name "_law_other" _] _ _) (aV Γ<|.asg 7 _)
 with_reducible exact(aK G<|rg g<|ae (aa g) ak)
theorem Tw:MY gN cT ie af e_ ig gM af af cN 0 9:=fun G=>have g:=G.toGood;(a_ (PW.pt<|gL (ba g (cQ g (aa g)<|ae (aa g)<|ae aG ak) ao)<|gL (ba g (cQ g (aa g)<|ae ao<|ae aG ak) ao)<|gL (ba g (cQ g (aa g)<|ae ao<|ae (aa g) ak)<|bJ<|ae ao ak)<|j8<|ba g (j7 g<|aa g)<|aa g) (ai (aP e9) au) au)
theorem Tx:MY gN cT ie af e_ ig gM af af cN 0 10:=by
 intro CX Γ X G;have g:=G.toGood;show PS X (.Return (some _) _) (aV Γ<|.ret _)
 with_reducible exact(aP<|aM g<|ae (aa g)<|ae (dj g (aa g) aG)<|ae (cM g<|ae (dj g (aa g) aG) ak)<|ae ao ak)
theorem Tz:MX gN cT ie af e_ ig gM af af cN 0:=by
 intro CX Γ X G;have e:cP cT=[bz cT 0,bz cT 1,bz cT 2,bz cT 3,bz cT 4,bz cT 5,bz cT 6,bz cT 7,bz cT 8,bz cT 9,bz cT 10]:=by kernel_rfl
 have e2:cN=[bA cN 0,bA cN 1,bA cN 2,bA cN 3,bA cN 4,bA cN 5,bA cN 6,bA cN 7,bA cN 8,bA cN 9,bA cN 10]:=by kernel_rfl
 rw[e,e2]
 with_reducible exact ai (Tn G) (ai (To G)<|ai (Tp G)<|ai (Tq G)<|ai (Tr G)<|ai (Ts G)<|ai (Tt G)<|ai (Tu G)<|ai (Tv G)<|ai (Tw G)<|ai (Tx G)<|au)
end L2.ny
namespace L2.B
open PySem PySem.Spec PyProof.Rows
def ij(H H':Hp):Prop:= ∀b xs,H b=some (.tup xs)->H' b=some (.tup xs)
theorem dO(h:aB H H'):ij H H':=fun b xs e=>h b _ e
theorem sameNew{p:Addr}{o:HO}(h:H p=none):aB H (upd H p o):=fun b u e=>by rw[av<|aS e h];exact e
def cf(c:Addr)(H H':Hp):Prop:= ∀b o,H b=some o->b≠c->H' b=some o
theorem cf.upd{c:Addr}{o:HO}:cf c H (upd H c o):=fun b u e n=>by rw[av n];exact e
theorem sameBut{c:Addr}{H1:Hp}(a:aB H H1)(b:cf c H1 H2):cf c H H2:=fun d o e n=>b d o (a d o e) n
theorem F9{c:Addr}{H1:Hp}(a:aB H H1)(hc:H c=none)(b:cf c H1 H2):aB H H2:=fun d o e=>b d o (a d o e) (aS e hc)
theorem cf.d4{c:Addr}(h:cf c H H')(hc:H c=some (.lst xs)):ij H H':=fun b ys e=>h b _ e (fun z=>by rw[z,hc] at e;cases e)
theorem iF{c:Bool}{A B:Prop}(q:B)(h:c=false:=by first|rfl|decide):if c=true then A else B:=by
 rw[h];exact jU q
theorem iT{c:Bool}{A B:Prop}(q:A)(h:c=true:=by first|rfl|decide):if c=true then A else B:=by
 rw[h];exact fk q
inductive Pt where|keep (n:Int)|put (s:Str)|cut (s:Str)
 deriving DecidableEq
def Pt.word:Pt->Str|.keep _=> "keep" |.put _=> "put" |.cut _=> "cut"
def Pt.val:Pt->V|.keep n=>.int n|.put s=>.str s|.cut s=>.str s
def lQ(H:Hp)(v:V)(p:Pt):Prop:= ∃a,v=.ref a/\H a=some (.tup [.str p.word,p.val])
abbrev bO(H:Hp):List V->List Pt->Prop:=Paired (lQ H)
theorem lQ.mono{p:Pt}(t:ij H H')(h:lQ H v p):lQ H' v p:=by
 obtain⟨a,e,h⟩:=h;exact⟨a,e,t _ _ h⟩
theorem bO.mono{H H':Hp}(t:ij H H'):∀{vs:List V}{ps:List Pt},bO H vs ps->bO H' vs ps
 |_,_,.nil=>.nil
 |_,_,.cons h r=>.cons (h.mono t) (bO.mono t r)
theorem bO.get{H:Hp}:∀{vs:List V}{ps:List Pt}{i:Nat}{v:V},bO H vs ps->vs[i]?=some v->∃p,ps[i]?=some p/\lQ H v p
 |_,_,i,v,.nil,e=>by simp at e
 |_,_,0,v,.cons h r,e=>by simp at e;subst e;exact⟨_,rfl,h⟩
 |_,_,i+1,v,.cons h r,e=>by
  obtain⟨p,a,b⟩:=bO.get (i:=i) r (by simpa using e)
  exact⟨p,by simpa using a,b⟩
theorem bO.snoc{vs:List V}{ps:List Pt}{p:Pt}(h:bO H vs ps)(q:lQ H v p):bO H (vs++[v]) (ps++[p]):=Paired.snoc h q
def jB:Sp:=fun vs H Q E=>∃i,vs=[.int i]/\Q (.bl true) H
def rN(w a:Str):Bool:=w !=a && !(a=="cut" && w=="put")
def F_:Sp:=fun vs H Q E=>∃w a,vs=[.str w,.str a]/\Q (.bl<|rN w a) H
theorem TB{i j:Str}:decide (V.str i=V.str j)=(i==j):=g_
theorem TC{K:Frag}(vs:List V)(H:Hp)(Q:VK)(E:XK)(h:F_ vs H Q E):aC (aJ K [] [] (E:=E)) DV {nx:=fun _ H'=>Q .aD H',rt:=Q} (start DU vs) H:=by
 obtain⟨w,a,rfl,q⟩:=h;refine⟨_,rfl,_,rfl,_,rfl,?_⟩;unfold rN at q;refine cw (fun h=>?_)<|fun h=>?_
 ·rw[zaU,g_] at h;have e:(w !=a)=true:=h;rw[e] at q;refine⟨_,rfl,_,rfl,?_⟩;refine cw (fun h2=>?_)<|fun h2=>?_
  ·rw[zaI,g_] at h2;rw[h2] at q;refine⟨_,rfl,?_⟩;show Q (.bl<|!(false ^^ decide (V.str w=V.str "put"))) H;rw[zaI,g_];exact q
  ·rw[zaI,g_] at h2;have e2:(a=="cut")=false:=by simpa using h2
   rw[e2] at q;exact q
 ·rw[zaU,g_] at h;have e:(w !=a)=false:=by simpa using h
  rw[e] at q;exact q
def Ga:Pt->Prop|.keep _=>True|.put s=>s.length<=1000000|.cut s=>s.length<=1000000
theorem cq(h:n<=1000000):n<=sizeLine:=zaw h (by decide)
theorem dr(h:n<=1000000):n<sizeLine:=Nat.lt_of_le_of_lt h (by decide)
def cell(ns:List Int)(k:Nat):Int:=ns.getD k 0
def rO(K:Frag):Sp:=fun vs H Q E=>∃(a:Addr) (ns:List Int) (k:Int),vs=[.ref a,.int k]/\aw K H a (ns.map V.int)/\0<=k/\Q (.int<|cell ns k.toNat) H
theorem TF{K:Frag}(vs:List V)(H:Hp)(Q:VK)(E:XK)(h:rO K vs H Q E):aC (aJ K [] [] (E:=E)) DZ {nx:=fun _ H'=>Q .aD H',rt:=Q} (start DY vs) H:=by
 obtain⟨a,ns,k,rfl,ha,hk,q⟩:=h;refine⟨_,rfl,_,rfl,.inl ⟨_,ha,trivial,_,rfl,?_⟩⟩;rw[zaa];refine cw (fun h=>?_)<|fun h=>?_
 ·have aI:k< (ns.length:Int):=of_decide_eq_true h;refine⟨_,rfl,_,rfl,.inl ⟨_,_,_,_,rfl,rfl,ha,?_,q⟩⟩;have e:=iE (xs:=ns.map V.int) (j:=k.toNat) (v:=.int (cell ns k.toNat)) (by
   have:k.toNat<ns.length:=by lia
   simp[cell,this])
  rw[show((k.toNat:Nat):Int)=k by lia] at e
  exact e
 ·have ZO:¬k< (ns.length:Int):=fun z=>h (zqT z);have e:cell ns k.toNat=0:=by
   have z:ns[k.toNat]?=none:=List.getElem?_eq_none_iff.mpr (by lia)
   unfold cell;rw[List.getD_eq_getElem?_getD,z];rfl
  rw[e] at q;exact q
theorem zk:(0:Int) <1000003:=by decide
def mixed(c k:Int):Int:=let n:=(c*48271+7919*k+11) % 1000003;n*n % 1000003*n % 1000003
def c_:Sp:=fun vs H Q E=>∃c k,vs=[.int c,.int k]/\Q (.int<|mixed c k) H
theorem TH{K:Frag}(vs:List V)(H:Hp)(Q:VK)(E:XK)(h:c_ vs H Q E):aC (aJ K [] [] (E:=E)) D1 {nx:=fun _ H'=>Q .aD H',rt:=Q} (start D0 vs) H:=by
 obtain⟨c,k,rfl,q⟩:=h;have h0:∀z:Int,0<=z % 1000003/\z % 1000003<1000003:=fun z=>⟨zaq _ (by decide),zar _ (by decide)⟩
 have h1:=h0 (c*48271+7919*k+11);have h2:=h0 ((c*48271+7919*k+11) % 1000003* ((c*48271+7919*k+11) % 1000003));refine⟨_,rfl,.inr ⟨by decide,by decide⟩,_,rfl,.inl ⟨by decide,by decide⟩,zk,?_⟩
 refine⟨_,rfl,_,rfl,.inl ⟨by lia,by lia⟩,zk,_,rfl,.inl ⟨by lia,by lia⟩,zk,?_⟩
 exact q
theorem zl(c k:Int):0<=mixed c k/\mixed c k<1000003:=⟨zaq _ (by decide),zar _ (by decide)⟩
def SG:Str:=" !\"#$&'()*+,-./0123456789:;<=>?@ABCDEFGHIJKLMNOPQRSTUVWXYZ[\\]^_`abcdefghijklmnopqrstuvwxyz{|}~\n"
def good(x:Str):Prop:=x.length<=1000000/\∀c∈x.cps.toList,SG.cps.contains c=true
theorem takeWhile_all{α:Type}(p:α->Bool):∀l:List α,(∀c∈l,p c=true)->l.takeWhile p=l
 |[],_=>rfl
 |c::l,h=>by rw[List.takeWhile_cons,h c zap,takeWhile_all p l fun d hd=>h d (zao _ hd)];rfl
theorem TJ(x y:Str)(h:∀c∈x.cps.toList,y.cps.contains c=true):Txt.lstripChars x y="":=by
 have e0:stripLo y.cps.contains true x=x.length:=by
  unfold stripLo;rw[if_pos rfl,takeWhile_all _ _ h]
  simp[Str.length]
 have e1:stripHi y.cps.contains false x x.length=x.length:=rfl;unfold Txt.lstripChars Txt.stripBy stripSame stripped;rw[e0,e1]
 split
 ·rename_i hq
  simp only[zac,beq_iff_eq] at hq
  have:x.cps= #[]:=zbJ hq.1;obtain⟨c⟩:=x;have e:c= #[]:=this;subst e
  rfl
 ·show(⟨x.cps.extract x.length x.length⟩:Str)=_;have:x.cps.extract x.length x.length= #[]:=by simp[Str.length]
  rw[this];rfl
theorem vp{a:Addr}{T:Ty}{k:Bool->Prop}(h:H a=some (.tup xs))(q:k (T==.tuple)):br T (.ref a) H k:=by
 show(match H a with|some (.lst _)=>k (T==.list)|some (.aY _<|.lst _)=>k (T==.list)|some (.tup _)=>k (T==.tuple)|some (.dK _)=>k (T==.dict)|some (.dT _)=>k (T==.dict)|_=>False)
 rw[h];exact q
theorem rP{a:Addr}{T:Ty}{k:Bool->Prop}(h:H a=some (.lst xs))(q:k (T==.list)):br T (.ref a) H k:=by
 show(match H a with|some (.lst _)=>k (T==.list)|some (.aY _<|.lst _)=>k (T==.list)|some (.tup _)=>k (T==.tuple)|some (.dK _)=>k (T==.dict)|some (.dT _)=>k (T==.dict)|_=>False)
 rw[h];exact q
abbrev gS:List (Str×V):=[("SIGNS",.str SG)]
def TK:Sp:=fun vs H Q E=>∃x,vs=[.str x]/\good x/\Q (.bl true) H
theorem TL{K:Frag}(vs:List V)(H:Hp)(Q:VK)(E:XK)(h:TK vs H Q E):aC (aJ K [] gS (E:=E)) yG {nx:=fun _ H'=>Q .aD H',rt:=Q} (start j9 vs) H:=by
 obtain⟨x,rfl,hx,q⟩:=h;refine⟨_,rfl,rfl,_,rfl,fk ⟨_,rfl,rfl,cq hx.1,?_⟩⟩;show Q (.bl<|false ^^ decide (V.str (Txt.lstripChars x SG)=V.str "")) H;rw[TJ x SG hx.2,zqT rfl];exact q
def il:Pt->Prop|.keep n=>1<=n|.put s=>good s/\s≠"" |.cut s=>good s/\s≠""
def TM(K:Frag):Sp:=fun vs H Q E=>∃w p xs,vs=[.str w,.ref p]/\aO K H p xs/\xs.all gi=true/\Q (.bl<|e8 (.str w) xs) H
theorem TN{K:Frag}(vs:List V)(H:Hp)(Q:VK)(E:XK)(h:TM K vs H Q E):aC (aJ K [] [] (E:=E)) yF {nx:=fun _ H'=>Q .aD H',rt:=Q} (start yE vs) H:=by
 obtain⟨w,p,xs,rfl,hp,hf,q⟩:=h;exact⟨_,rfl,rfl,_,rfl,fk ⟨_,rfl,_,rfl,p,xs,rfl,.inr hp,rfl,hf,q⟩⟩
def zm:Sp:=fun vs H Q E=>∃v p,vs=[v]/\lQ H v p/\il p/\∀H',aB H H'->Q (.bl true) H'
def chainOk:Str->List Pt->Bool
 |_,[]=>true
 |a,p::r=>rN p.word a && chainOk p.word r
def nA(a:Str)(ps:List Pt):Nat->Str
 | 0=>a
 |i+1=>match ps[i]? with|some p=>p.word|none=> ""
theorem Gb:∀(ps:List Pt) (a:Str) (i:Nat) (p:Pt),chainOk a ps=true->ps[i]?=some p->rN p.word (nA a ps i)=true
 |[],_,_,_,_,h=>by simp at h
 |q::r,a,0,p,h,e=>by
  simp only[chainOk,zac] at h
  simp at e;subst e;exact h.1
 |q::r,a,i+1,p,h,e=>by
  simp only[chainOk,zac] at h
  have e':r[i]?=some p:=by simpa using e
  have ih:=Gb r q.word i p h.2 e';cases i with
  |zero=>simpa[nA] using ih
  |succ i=>simpa[nA] using ih
abbrev TQ:List (Str×Sp):=[("is_part",zm),("may_follow",F_)]
def Gd:Sp:=fun vs H Q E=>∃a xs ps,vs=[.ref a]/\H a=some (.lst xs)/\bO H xs ps/\(∀p∈ps,il p)/\chainOk "" ps=true/\∀H',aB H H'->Q .aD H'
theorem TU{K:Frag}{et:List (Str×Addr)}(vs:List V)(H:Hp)(Q:VK)(E:XK)(h:Gd vs H Q E):aC (aJ K TQ [] (et:=et) (E:=E)) DX {nx:=fun _ H'=>Q .aD H',rt:=Q} (start DW vs) H:=by
 obtain⟨a,xs,ps,rfl,ha,dP,aA,eB,q⟩:=h;refine⟨_,rfl,rfl,rP ha ⟨_,rfl,a,rfl,⟨_,aw.of ha⟩,iD (K:=K) (a:=a) (xs:=xs) (fun i σ H2=>∃v,σ=[some (.ref a),some (.str (nA "" ps i)),v]/\aB H H2) ⟨none,rfl,aB.refl _⟩
  (fun i σ H2 _ ⟨_,_,s2⟩=>aw.of (s2 _ _ ha)) ?_ ?_⟩⟩
 ·rintro i x σ H2 hi ⟨v,rfl,s2⟩;obtain⟨p,hp,rQ⟩:=dP.get hi;obtain⟨b,rfl,hb⟩:=rQ.mono (dO s2);refine⟨_,rfl,_,p,rfl,⟨b,rfl,hb⟩,aA p<|zat hp,fun H3 s3=>?_⟩;refine⟨_,rfl,.inr<|.inl ⟨_,_,_,_,rfl,rfl,aO.of<|s3 _ _ hb,rfl,_,rfl,p.word,_,rfl,?_⟩⟩;have e:=Gb ps "" i p eB hp;show(fun c H1=>if (!c)=true then _ else _) (rN p.word<|nA "" ps i) H3
  rw[e];refine⟨_,rfl,.inr<|.inl ⟨_,_,_,_,rfl,rfl,aO.of<|s3 _ _ hb,rfl,some<|.ref b,?_,s2.trans s3⟩⟩;show[some<|V.ref a,some<|V.str p.word,some<|V.ref b]=_;have e2:nA "" ps (i+1)=p.word:=by simp only[nA,hp]
  rw[e2]
 ·rintro σ H2 ⟨v,rfl,s2⟩;exact q H2 s2
theorem TV{p:Pt}(h:il p):Ga p:=by
 cases p with
 |keep n=>trivial
 |put s=>exact h.1.1
 |cut s=>exact h.1.1
theorem TX{α:Type}(p:α->Bool)(l:List α)(i:Nat)(v:α)(h:l[i]?=some v):(l.take<|i+1).filter p=(l.take i).filter p++(if p v then [v] else []):=by
 rw[zbf,h,zbA];cases hp:p v<;>simp[hp]
def cat(ts:List Str):Str:=Txt.join "" ts
def sz(ts:List Str):Nat:=(ts.map Str.length).sum
theorem ofString_empty:(Str.ofString "")=⟨#[]⟩:=rfl
theorem pe(ts:List Str):(cat ts).cps.toList=(ts.map fun t=>t.cps.toList).flatten:=by
 have e:(Str.ofString "").cps= #[]:=rfl;cases ts with
 |nil=>rfl
 |cons t r=>
  show(r.foldl (fun acc p=>acc++(Str.ofString "").cps++p.cps) t.cps).toList=_;rw[e];have go:∀(r:List Str) (acc:Array Nat),(r.foldl (fun acc p=>acc++ #[]++p.cps) acc).toList=acc.toList++(r.map fun t=>t.cps.toList).flatten:=by
   intro r
   induction r with
   |nil=>intro acc;simp
   |cons q r ih=>
    intro acc;show(r.foldl (fun acc p=>acc++ #[]++p.cps)<|acc++ #[]++q.cps).toList=_;rw[ih];simp
  rw[go];simp
theorem jC{x:Str}(h:x.cps.toList=y.cps.toList):x=y:=by
 obtain⟨x⟩:=x;obtain⟨y⟩:=y;exact congrArg Str.mk<|Array.toList_inj.mp h
theorem app_list(x y:Str):(x++y).cps.toList=x.cps.toList++y.cps.toList:=by
 show(x.cps++y.cps).toList=_
 simp
theorem TY(a b:List Str):cat (a++b)=cat a++cat b:=jC (by rw[app_list,pe,pe,pe];simp)
theorem TZ(x:Str):cat [x]=x:=jC (by rw[pe];simp)
theorem len_list(x:Str):x.length=x.cps.toList.length:=by simp[Str.length]
theorem Ge(ts:List Str):(cat ts).length=sz ts:=by
 rw[len_list,pe,List.length_flatten];unfold sz;rw[zaP]
 congr 1
theorem Gf(x:Str):x++(Str.ofString "")=x:=jC (by rw[app_list];simp[ofString_empty])
theorem pf(x:Str):(Str.ofString "")++x=x:=jC (by rw[app_list];simp[ofString_empty])
theorem joinOk_of{ts:List Str}(h:sz ts<=1000000):JoinOk "" ts=true:=by
 have go:∀(l:List Str) (n:Nat),l.foldl (· + ·.length+(Str.ofString "").length) n=n+sz l:=by
  intro l
  induction l with
  |nil=>intro n;rfl
  |cons t r ih=>
   intro n;show r.foldl _ (n+t.length+0)=_;rw[ih];show n+t.length+0+sz r=n+(t.length+sz r);lia
 unfold JoinOk;have e:ts.toArray.foldl (· + ·.length+(Str.ofString "").length) 0=sz ts:=by
  rw[List.foldl_toArray,go,zbp]
 rw[e];show(!decide (sz ts>sizeLine))=true;rw[zqF (by have:=cq h;lia)]
 rfl
def txt(mk:Str->Pt)(x:Str):List Pt:=if x="" then [] else [mk x]
def fF(ch:List Pt)(T_ Ua:List Str):List Pt:=ch++txt .put (cat T_)++txt .cut (cat Ua)
def iS(ch:List Pt)(n:Int):List Pt:=match ch.getLast? with
 |some (.keep m)=>ch.dropLast++[.keep<|n+m]
 |_=>ch++[.keep n]
abbrev NS:=List Pt×List Str×List Str
def fW:NS->Pt->NS
 |(ch,p,c),.put s=>(ch,p++[s],c)
 |(ch,p,c),.cut s=>(ch,p,c++[s])
 |(ch,p,c),.keep n=>if 0<n then (iS (fF ch p c) n,[],[]) else (ch,p,c)
def Gg(ps:List Pt):List Pt:=let s:=ps.foldl fW ([],[],[]);fF s.1 s.2.1 s.2.2
def eG:Pt->Nat|.keep _=>0|.put s=>s.length|.cut s=>s.length
def aQ(ps:List Pt):Nat:=(ps.map eG).sum
theorem Gh(ps:List Pt)(i:Nat):aQ (ps.take i)<=aQ ps:=by
 have:aQ ps=aQ (ps.take i)+aQ (ps.drop i):=by
  unfold aQ;rw[<-List.sum_append,<-zav,zbq]
 lia
theorem Ub{ps:List Pt}{p:Pt}(h:ps[i]?=some p):aQ (ps.take<|i+1)=aQ (ps.take i)+eG p:=by
 rw[zbf,h]
 simp[aQ]
theorem Uc{α β:Type}{f:β->α->β}{b:β}{l:List α}{i:Nat}{p:α}(h:l[i]?=some p):(l.take<|i+1).foldl f b=f ((l.take i).foldl f b) p:=by
 rw[zbf,h,List.foldl_append]
 rfl
theorem Gi(mk:Str->Pt)(x:Str):(txt mk x).length<=1:=by unfold txt;split<;>simp
theorem Gj(ch:List Pt)(p c:List Str):(fF ch p c).length<=ch.length+2:=by
 unfold fF;have:=Gi .put (cat p);have:=Gi .cut (cat c)
 simp only[zqA]
 lia
theorem Ud(ch:List Pt)(n:Int):(iS ch n).length<=ch.length+1:=by
 unfold iS
 split
 ·simp only[zqA,List.length_dropLast,zbm];lia
 ·simp
def A1:Str:=" !\"#$&'()*+,-./0123456789:;<=>?@ABCDEFGHIJKLMNOPQRSTUVWXYZ[\\]^_`"
def A2:Str:="abcdefghijklmnopqrstuvwxyz{|}~\n"
def A3:Str:="ab\n"
def vq(al:Str):Prop:=0<al.length/\al.length<=1000/\∀c∈al.cps.toList,SG.cps.contains c=true
theorem Gk{al:Str}(h:(decide (0<al.length) && decide (al.length<=1000) && al.cps.toList.all fun c=>SG.cps.contains c)=true):vq al:=by
 simp only[zac,decide_eq_true_eq,zbc] at h
 exact⟨h.1.1,h.1.2,h.2⟩
theorem Ue:vq (A1++A2):=Gk (by decide+kernel)
theorem zo:vq A3:=Gk (by decide+kernel)
theorem Ug:A1.length+A2.length<=sizeLine:=by decide+kernel
abbrev Gm:List (Str×Sp):=[("_law_mixed",c_)]
def vt:Sp:=fun vs H Q E=>∃c n,vs=[.int c,.int n]/\0<=n/\n<=1000/\∀x H',good x->x.length=n.toNat->aB H H'->Q (.str x) H'
def zp(t:Str):Prop:=t.length=1/\∀c∈t.cps.toList,SG.cps.contains c=true
theorem vv:∀(ts:List Str),(∀t∈ts,zp t)->sz ts=ts.length
 |[],_=>rfl
 |t::r,h=>by
  show t.length+sz r=r.length+1;rw[(h t zap).1,vv r fun q hq=>h q (zao _ hq)];lia
theorem Uh{ts:List Str}(h:∀t∈ts,zp t)(hl:ts.length<=1000):good (cat ts):=by
 refine⟨by rw[Ge,vv ts h];lia,fun c hc=>?_⟩
 rw[pe,List.mem_flatten] at hc;obtain⟨l,hl,hc⟩:=hc;obtain⟨t,ht,rfl⟩:=zay.mp hl;exact(h t ht).2 c hc
theorem Ui{K:Frag}(vs:List V)(H:Hp)(Q:VK)(E:XK)(h:vt vs H Q E):aC (aJ K Gm [] (E:=E)) D4 {nx:=fun _ H'=>Q .aD H',rt:=Q} (start D3 vs) H:=by
 obtain⟨c,n,rfl,Uj,h9,k⟩:=h;have fin:∀(al:Str),vq al->aC (aJ K Gm [] (E:=E)) [.ret<|.dU .join (.c<|.str "") [(.comp none [("_law_some",2),("_law_cell",0)] .eS [.v 1] none<|.ix (.v 1)<|.bin .Mod (.bin .FloorDiv (.call 0 [.v 2,.v 0])<|.c<|.int 7)<|.blt .len [.v 1])]]
   {nx:=fun _ H'=>Q .aD H',rt:=Q} [some<|.int c,some<|.int n,some<|.str al] H:=by
  intro al ho;refine⟨rfl,_,rfl,n,rfl,by lia,by lia,fun i m ys H2=>m=n.toNat - i/\i<=n.toNat/\H2=H/\∃ts:List Str,ys=ts.map V.str/\ts.length=i/\∀t∈ts,zp t,⟨_,rfl,zqZ _,rfl,[],rfl,rfl,fun t ht=>by cases ht⟩,?_⟩
  rintro i m ys H2 ⟨rfl,hi,rfl,ts,rfl,hl,vw⟩;by_cases aI:i<n.toNat
  ·refine .inr ⟨aI,?_⟩;rintro x H3 ⟨rfl,rfl⟩;refine⟨_,rfl,_,rfl,_,rfl,_,_,rfl,⟨by decide,by decide⟩,_,rfl,cq (by have:=ho.2.1;lia),(by show(0:Int) < (al.length:Int);have:=ho.1;lia),?_⟩
   have hm:=zl c (0+(i:Int));have Uk:0<=mixed c (0+(i:Int)) / 7 % (al.length:Int):=zaq _ (by have:=ho.1;lia)
   have Ul:mixed c (0+(i:Int)) / 7 % (al.length:Int) < (al.length:Int):=zar _ (by have:=ho.1;lia)
   obtain⟨j,ej⟩:∃j,j=mixed c (0+(i:Int)) / 7 % (al.length:Int):=⟨_,rfl⟩;rw[<-ej] at Uk Ul;have Gn:j.toNat<al.cps.toList.length:=by rw[<-len_list];lia
   refine .inr<|.inr<|.inl ⟨al,j,al.cps.toList[j.toNat],rfl,(by rw[ej]),cq (by have:=ho.2.1;lia),?_,?_,n.toNat - (i+1),by lia,rfl,aI,rfl,ts++[⟨#[al.cps.toList[j.toNat]]⟩],(by rw[zav];rfl),by simp[hl],?_⟩
   ·have e:=iE (xs:=al.cps.toList) (j:=j.toNat) (v:=al.cps.toList[j.toNat]) (by simp[Gn])
    rw[show((j.toNat:Nat):Int)=j by lia] at e
    exact e
   ·rw[zaa];exact dr (by lia)
   ·intro t ht;rcases zai.mp ht with z|z
    ·exact vw t z
    ·rw[zaj.mp z];refine⟨rfl,fun d hd=>?_⟩;have:d=al.cps.toList[j.toNat]:=by simpa using hd
     rw[this];exact ho.2.2 _<|zaV Gn
  ·have dQ:i=n.toNat:=by lia
   refine .inl ⟨by show n.toNat<=i;lia,fun p hp=>?_⟩
   refine⟨ts,aw.of az,joinOk_of (by rw[vv ts vw];lia),?_⟩
   exact k (cat ts) _ (Uh vw (by lia)) (by rw[Ge,vv ts vw,hl,dQ])<|sameNew hp
 refine⟨_,rfl,Ug,_,rfl,(by show(0:Int) <3;decide),_,rfl,?_⟩
 refine cw (fun h=>?_)<|fun h=>?_
 ·exact fin A3 zo
 ·exact fin (A1++A2) Ue
def fX:Pt->Prop|.keep n=>0<=n|.put s=>good s/\s.length<=100000|.cut s=>good s/\s.length<=100000
abbrev Row:=Str×Str×Int
def iU(r:Row):List V:=[.str r.1,.str r.2.1,.int r.2.2]
def Gp(H:Hp)(v:V)(r:Row):Prop:= ∃b,v=.ref b/\H b=some (.lst<|iU r)
abbrev kg(H:Hp):List V->List Row->Prop:=Paired (Gp H)
theorem kg.mono{H H':Hp}:∀{vs:List V}{ps:List Row},kg H vs ps->(∀v∈vs,∀b,v=.ref b->∀o,H b=some o->H' b=some o)->kg H' vs ps
 |_,_,.nil,_=>.nil
 |_,_,.cons ⟨b,e,h⟩ r,k=>.cons ⟨b,e,k _ zap b e _ h⟩ (kg.mono r fun v hv=>k v (zao _ hv))
theorem kg.get{H:Hp}:∀{vs:List V}{ps:List Row}{i:Nat}{v:V},kg H vs ps->vs[i]?=some v->∃p,ps[i]?=some p/\Gp H v p
 |_,_,i,v,.nil,e=>by simp at e
 |_,_,0,v,.cons h r,e=>by simp at e;subst e;exact⟨_,rfl,h⟩
 |_,_,i+1,v,.cons h r,e=>by
  obtain⟨p,a,b⟩:=kg.get (i:=i) r (by simpa using e)
  exact⟨p,by simpa using a,b⟩
def aW:List Row×Row->Pt->List Row×Row
 |(pre,r),.keep n=>(pre,(r.1,r.2.1,r.2.2+n))
 |(pre,r),.put s=>if s="" then (pre,r) else if 0<r.2.2 then (pre++[r],(Str.ofString ""++s,"",0)) else (pre,(r.1++s,r.2.1,r.2.2))
 |(pre,r),.cut s=>if s="" then (pre,r) else if 0<r.2.2 then (pre++[r],("",Str.ofString ""++s,0)) else (pre,(r.1,r.2.1++s,r.2.2))
def dt(r:Row):List Pt:=txt .put r.1++txt .cut r.2.1++(if r.2.2=0 then [] else [.keep r.2.2])
def bV(rows:List Row):List Pt:=(rows.map dt).flatten
def ph(ps:List Pt):List Row:=let s:=ps.foldl aW ([],("","",0));s.1++[s.2]
def jD(ps:List Pt):List Pt:=bV (ph ps)
structure ip (H H2:Hp) (R:Addr) (rs:List V) (b:Addr) (pre:List Row) (r:Row):Prop where
 same:aB H H2
 lst:H2 R=some (.lst<|rs++[.ref b])
 fr:H R=none
 rows:kg H2 rs pre
 last:H2 b=some (.lst<|iU r)
 fb:H b=none
 bg:∀v∈rs,∀x,v=.ref x->H x=none/\x≠b/\x≠R
 ne:b≠R
theorem rR(xs:List V)(v:V):eZ (xs++[v]) (-1)=some v:=LB xs v
theorem ip.set{R b:Addr}{rs:List V}{pre:List Row}{r r':Row}(S:ip H H2 R rs b pre r):ip H (upd H2 b<|.lst<|iU r') R rs b pre r' where
 same:=F9 S.same S.fb cf.upd
 lst:=by rw[av S.ne.symm];exact S.lst
 fr:=S.fr
 rows:=S.rows.mono fun v hv x e o h=>by rw[av (S.bg v hv x e).2.1];exact h
 last:=az
 fb:=S.fb
 bg:=S.bg
 ne:=S.ne
theorem ip.grow{R b t:Addr}{rs:List V}{pre:List Row}{r r':Row}(S:ip H H2 R rs b pre r)(ht:H2 t=none):
  ip H (upd (upd H2 t<|.lst<|iU r') R<|.lst<|rs++[.ref b]++[.ref t]) R (rs++[.ref b]) t (pre++[r]) r':=by
 have vx:t≠R:=fun z=>by rw[z,S.lst] at ht;cases ht
 have Um:b≠t:=aS S.last ht;have kk:∀x o,H2 x=some o->x≠R->upd (upd H2 t<|.lst<|iU r') R (.lst<|rs++[.ref b]++[.ref t]) x=some o:=fun x o e n=>by rw[av n,av<|aS e ht];exact e
 exact {
  same:=fun x o e=>kk x o (S.same x o e) (aS e S.fr)
  lst:=az
  fr:=S.fr
  rows:=Paired.snoc (S.rows.mono fun v hv x e o h=>kk x o h (S.bg v hv x e).2.2) ⟨b,rfl,kk b _ S.last S.ne⟩
  last:=by rw[av vx,az]
  fb:=S.same.free ht
  bg:=fun v hv x e=>by
   rcases zai.mp hv with z|z
   ·obtain⟨h1,h2,h3⟩:=S.bg v z x e;refine⟨h1,fun q=>?_,h3⟩;obtain⟨i,hi⟩:=zbB z;obtain⟨p,_,y,e',hy⟩:=S.rows.get hi;rw[e] at e';cases e';rw[q,ht] at hy;cases hy
   ·rw[zaj.mp z] at e;cases e;exact⟨S.fb,Um,S.ne⟩
  ne:=vx}
abbrev Dn(Q:VK):Ends:={nx:=fun _ H'=>Q .aD H',rt:=Q}
abbrev bM(sp:Sp)(Γ:XK->aN)(b:List RS)(N:List Str):Prop:= ∀vs H Q E,sp vs H Q E->aC (Γ E) b (Dn Q) (start N vs) H
def Gq:Sp:=fun vs H Q E=>∃a xs ps,vs=[.ref a]/\H a=some (.lst xs)/\bO H xs ps/\ps.length<=100000/\aQ ps<=100000/\
 ∀b H' ys,aB H H'->H b=none->H' b=some (.lst ys)->bO H' ys (jD ps)->Q (.ref b) H'
theorem vy{K:Frag}{R b:Addr}{rs:List V}{pre:List Row}{r r':Row}{a:Addr}{w s:Str}{x4 x5 x6 x7 x8:Option V}(S:ip H H2 R rs b pre r)(i:Nat)(hi:i<2)
  (hw:(if (w=="cut")=true then 1 else 0:Int)=(i:Int)) (o:Str) (ho:(iU r)[i]?=some (.str o)) (hr:(iU r).set i (.str<|o++s)=iU r') (hs:o.length+s.length<=sizeLine)
  (k:∀H3,ip H H3 R rs b pre r'->D.nx [some<|.ref a,some<|.ref R,some<|.str w,some<|.str s,x4,x5,x6,x7,x8] H3):
  aV (aJ K [] [] (E:=E)) (.set (.ix (.v 1)<|.neg<|.c<|.int 1) (.blt .int [(.cmp .Eq (.v 2)<|.c<|.str "cut")])<|.bin .Add (.ix (.ix (.v 1)<|.neg<|.c<|.int 1)<|.blt .int [(.cmp .Eq (.v 2)<|.c<|.str "cut")])<|.v 3) D
   [some<|.ref a,some<|.ref R,some<|.str w,some<|.str s,x4,x5,x6,x7,x8] H2:=by
 have lb:aw K H2 b (iU r):=aw.of S.last;have ei:(if (false ^^ decide (V.str w=V.str "cut"))=true then 1 else 0:Int)=(i:Int):=by rw[zaI,g_];exact hw
 refine⟨_,rfl,.inl ⟨_,_,_,_,rfl,rfl,aw.of S.lst,rR _ _,_,rfl,?_⟩⟩;show lj K (aJ K [] [] (E:=E)).sd (.ref b) (.int (if (false ^^ decide (V.str w=V.str "cut"))=true then 1 else 0)) H2 _
 rw[ei];refine .inl ⟨b,_,_,_,rfl,rfl,lb,iE ho,_,rfl,hs,_,rfl,.inl ⟨_,_,_,_,rfl,rfl,aw.of S.lst,rR _ _,_,rfl,?_⟩⟩;show w5 (.ref b) (.int (if (false ^^ decide (V.str w=V.str "cut"))=true then 1 else 0)) (.str<|o++s) H2 _
 rw[ei];refine⟨b,iU r,(i:Int),i,rfl,rfl,S.last,?_,?_⟩
 ·unfold jc;rw[if_pos (by lia),if_pos (by show(i:Int) < ((3:Nat):Int);lia)]
  simp
 ·rw[hr];exact k _ S.set
theorem Uo{rows:List Row}{r:Row}(h:rows[i]?=some r):bV (rows.take<|i+1)=bV (rows.take i)++dt r:=by
 unfold bV;rw[zbf,h]
 simp
theorem Gr{K:Frag}{R b:Addr}{rs:List V}{pre:List Row}{r:Row}{a:Addr}{w s:Str}{x4 x5 x6 x7 x8:Option V}(S:ip H H2 R rs b pre r)(p:Pt)(hp:(p=.put s/\w="put")\/(p=.cut s/\w="cut"))
  (hs:s.length<=100000) (h1:r.1.length<=100000) (h2:r.2.1.length<=100000) (hn:rs.length<=100000)
  (k:∀H3 pj b',ip H H3 R pj b' (aW (pre,r) p).1 (aW (pre,r) p).2->pj.length<=rs.length+1->D.nx [some<|.ref a,some<|.ref R,some<|.str w,some<|.str s,x4,x5,x6,x7,x8] H3):
  aC (aJ K [] [] (E:=E)) [.ite (.cmp .NotEq (.v 3) (.c (.str ""))) [.ite (.cmp .Gt (.ix (.ix (.v 1) (.neg (.c (.int 1)))) (.c (.int 2))) (.c (.int 0))) [.drop (.dU .append (.v 1) [(.lst [(.c (.str "")),(.c (.str "")),(.c (.int 0))])])] [],
    .set (.ix (.v 1) (.neg (.c (.int 1)))) (.blt .int [(.cmp .Eq (.v 2) (.c (.str "cut")))]) (.bin .Add (.ix (.ix (.v 1) (.neg (.c (.int 1)))) (.blt .int [(.cmp .Eq (.v 2) (.c (.str "cut")))])) (.v 3))] []] D
   [some<|.ref a,some<|.ref R,some<|.str w,some<|.str s,x4,x5,x6,x7,x8] H2:=by
 refine⟨_,rfl,_,rfl,?_⟩;rw[zaU,g_];refine cw (fun h=>?_)<|fun h=>?_
 ·have ne:s≠"":=by simpa using h
  refine⟨_,rfl,.inl ⟨_,_,_,_,rfl,rfl,aw.of S.lst,rR _ _,.inl ⟨_,_,_,_,rfl,rfl,aw.of S.last,rfl,trivial,_,rfl,?_⟩⟩⟩;have line:∀n:Nat,n<=100000->n+s.length<=sizeLine:=fun n hn=>cq (by lia)
  have e0:(Str.ofString "").length=0:=rfl;refine cw (fun h=>?_)<|fun h=>?_
  ·have hk:0<r.2.2:=of_decide_eq_true h;refine⟨_,rfl,.inl ⟨rfl,_,aw.of S.lst⟩,wk,fun t ht=>?_⟩;have vx:R≠t:=aS S.lst ht;refine⟨_,(by rw[av vx];exact S.lst),dr (by rw[zqA,zbm];lia),?_⟩
   have S':=S.grow (r':=((Str.ofString "",Str.ofString "",0):Row)) ht;rcases hp with⟨rfl,rfl⟩|⟨rfl,rfl⟩
   ·have es:aW (pre,r) (.put s)=(pre++[r],((Str.ofString ""++s,Str.ofString "",0):Row)):=by show(if s="" then _ else if 0<r.2.2 then _ else _)=_;rw[if_neg ne,if_pos hk]
    rw[es] at k;exact vy S' 0 (by lia) rfl "" rfl rfl (line _ (by rw[e0];lia)) fun H3 S3=>k H3 _ t S3 (by simp)
   ·have es:aW (pre,r) (.cut s)=(pre++[r],((Str.ofString "",Str.ofString ""++s,0):Row)):=by show(if s="" then _ else if 0<r.2.2 then _ else _)=_;rw[if_neg ne,if_pos hk]
    rw[es] at k;exact vy S' 1 (by lia) rfl "" rfl rfl (line _ (by rw[e0];lia)) fun H3 S3=>k H3 _ t S3 (by simp)
  ·have hk:¬0<r.2.2:=fun z=>h (zqT z);rcases hp with⟨rfl,rfl⟩|⟨rfl,rfl⟩
   ·have es:aW (pre,r) (.put s)=(pre,(r.1++s,r.2.1,r.2.2)):=by show(if s="" then _ else if 0<r.2.2 then _ else _)=_;rw[if_neg ne,if_neg hk]
    rw[es] at k;exact vy S 0 (by lia) rfl r.1 rfl rfl (line _ h1) fun H3 S3=>k H3 _ b S3 (by lia)
   ·have es:aW (pre,r) (.cut s)=(pre,(r.1,r.2.1++s,r.2.2)):=by show(if s="" then _ else if 0<r.2.2 then _ else _)=_;rw[if_neg ne,if_neg hk]
    rw[es] at k;exact vy S 1 (by lia) rfl r.2.1 rfl rfl (line _ h2) fun H3 S3=>k H3 _ b S3 (by lia)
 ·have e:s="":=by simpa using h
  have es:aW (pre,r) p=(pre,r):=by
   rcases hp with⟨rfl,rfl⟩|⟨rfl,rfl⟩
   ·show(if s="" then _ else _)=_;rw[if_pos e]
   ·show(if s="" then _ else _)=_;rw[if_pos e]
  rw[es] at k;exact k H2 rs b S (by lia)
theorem iV(x y:Str):(x++y).length=x.length+y.length:=by rw[len_list,app_list,zqA,<-len_list,<-len_list]
theorem Uq(pre:List Row)(r:Row)(p:Pt)(n:Nat)(h1:r.1.length<=n)(h2:r.2.1.length<=n):(aW (pre,r) p).2.1.length<=n+eG p/\(aW (pre,r) p).2.2.1.length<=n+eG p:=by
 have e0:(Str.ofString "").length=0:=rfl;cases p with
 |keep m=>exact⟨by show r.1.length<=n+0;lia,by show r.2.1.length<=n+0;lia⟩
 |put s=>
  show(if s="" then (pre,r) else if 0<r.2.2 then (pre++[r],((Str.ofString ""++s,Str.ofString "",0):Row)) else (pre,(r.1++s,r.2.1,r.2.2))).2.1.length<=n+s.length/\
   (if s="" then (pre,r) else if 0<r.2.2 then (pre++[r],((Str.ofString ""++s,Str.ofString "",0):Row)) else (pre,(r.1++s,r.2.1,r.2.2))).2.2.1.length<=n+s.length
  split
  ·exact⟨by show r.1.length<=_;lia,by show r.2.1.length<=_;lia⟩
  ·split
   ·exact⟨by show(Str.ofString ""++s).length<=_;rw[iV,e0];lia,by show(Str.ofString "").length<=_;rw[e0];lia⟩
   ·exact⟨by show(r.1++s).length<=_;rw[iV];lia,by show r.2.1.length<=_;lia⟩
 |cut s=>
  show(if s="" then (pre,r) else if 0<r.2.2 then (pre++[r],((Str.ofString "",Str.ofString ""++s,0):Row)) else (pre,(r.1,r.2.1++s,r.2.2))).2.1.length<=n+s.length/\
   (if s="" then (pre,r) else if 0<r.2.2 then (pre++[r],((Str.ofString "",Str.ofString ""++s,0):Row)) else (pre,(r.1,r.2.1++s,r.2.2))).2.2.1.length<=n+s.length
  split
  ·exact⟨by show r.1.length<=_;lia,by show r.2.1.length<=_;lia⟩
  ·split
   ·exact⟨by show(Str.ofString "").length<=_;rw[e0];lia,by show(Str.ofString ""++s).length<=_;rw[iV,e0];lia⟩
   ·exact⟨by show r.1.length<=_;lia,by show(r.2.1++s).length<=_;rw[iV];lia⟩
theorem Gs{op:CmpOp}{x:V}(h:b8 Γ.K op x v H Q):ag Γ (.c v) σ H fun y H2=>b8 Γ.K op x y H2 Q:=h
theorem Gu{K:Frag}{x y:V}(hs:jb x y=true)(q:Q (.bl<|true ^^ decide (x=y)) H):b8 K .NotEq x y H Q:=by
 show jW true x y H Q;unfold jW;rw[hs];exact q
theorem Ur{K:Frag}{H1:Hp}{l t1 t2 t3:Addr}{r:Row}{Q1:VK}(hl:H1 l=some (.lst [.ref t1,.ref t2,.ref t3]))(h1:H1 t1=some (.tup [.str "put",.str r.1]))(h2:H1 t2=some (.tup [.str "cut",.str r.2.1]))(h3:H1 t3=some (.tup [.str "keep",.int r.2.2]))
  (hσ:σ[8]?=some (some<|.ref l)) (k:∀p ys,H1 p=none->bO H1 ys (dt r)->ys.length<=3->Q1 (.ref p) (upd H1 p<|.lst ys)):
  ag (aJ K [] [] (E:=E)) (.comp none [] .list [.v 8] (some<|.and [(.cmp .NotEq (.ix (.v 0)<|.c<|.int 1)<|.c<|.str ""),(.cmp .NotEq (.ix (.v 0)<|.c<|.int 1)<|.c<|.int 0)])<|.v 0) σ H1 Q1:=by
 have gm:aw K H1 l [.ref t1,.ref t2,.ref t3]:=aw.of hl
 let nB:Nat->List Pt:=fun i=>match i with| 0=>[]| 1=>txt .put r.1| 2=>txt .put r.1++txt .cut r.2.1|_=>dt r
 refine⟨_,hσ,l,rfl,⟨_,gm⟩,fun i m ys H2=>m=3 - i/\i<=3/\H2=H1/\bO H1 ys (nB i)/\ys.length<=i,⟨_,rfl,zqZ _,rfl,.nil,zqR _⟩,?_⟩;rintro i m ys H2 ⟨rfl,hi,rfl,fY,rS⟩;have small:ys.length<sizeLine:=dr (by lia)
 have go:∀(t:Addr) (p:Pt) (j:Nat),H2 t=some (.tup [.str p.word,p.val])->i=j->j<3->(nB (j+1)=nB j++[p]/\p.val≠ .str ""/\p.val≠ .int 0\/nB (j+1)=nB j/\(p.val=.str ""\/p.val=.int 0))->
   (∃s,p.val=.str s)\/(∃n,p.val=.int n)->
   jV (qQ (aJ K [] [] (E:=E)).calm<|some<|.and [(.cmp .NotEq (.ix (.v 0)<|.c<|.int 1)<|.c<|.str ""),(.cmp .NotEq (.ix (.v 0)<|.c<|.int 1)<|.c<|.int 0)]) ([V.ref t].map some++bU σ []) H2 fun b H5=>
    if b=true then ag (aJ K [] [] (E:=E)).calm (.v 0) ([V.ref t].map some++bU σ []) H5 fun y H6=>ys.length<sizeLine/\∃m',m'<3 - i/\m'=3 - (i+1)/\i+1<=3/\H6=H2/\bO H2 (ys++[y]) (nB<|i+1)/\(ys++[y]).length<=i+1
    else ∃m',m'<3 - i/\m'=3 - (i+1)/\i+1<=3/\H5=H2/\bO H2 ys (nB<|i+1)/\ys.length<=i+1:=by
  intro t p j ht ej hj hc hv;subst ej;have Us:jb p.val (.str "")=true:=by rcases hv with⟨s,e⟩|⟨n,e⟩ <;>rw[e] <;>rfl
  have Ut:jb p.val (.int 0)=true:=by rcases hv with⟨s,e⟩|⟨n,e⟩ <;>rw[e] <;>rfl
  refine⟨_,rfl,.inr<|.inl ⟨_,_,_,_,rfl,rfl,aO.of ht,rfl,Gs<|Gu Us ⟨_,rfl,?_⟩⟩⟩;by_cases q1:p.val=.str ""
  ·rw[zqT q1];rcases hc with⟨_,z,_⟩|⟨e,_⟩
   ·exact absurd q1 z
   ·exact⟨3 - (i+1),by lia,rfl,by lia,rfl,by rw[e];exact fY,by lia⟩
  ·rw[zqF q1];refine⟨_,rfl,.inr<|.inl ⟨_,_,_,_,rfl,rfl,aO.of ht,rfl,Gs<|Gu Ut ⟨_,rfl,?_⟩⟩⟩;by_cases q2:p.val=.int 0
   ·rw[zqT q2];rcases hc with⟨_,_,z⟩|⟨e,_⟩
    ·exact absurd q2 z
    ·exact⟨3 - (i+1),by lia,rfl,by lia,rfl,by rw[e];exact fY,by lia⟩
   ·rw[zqF q2];rcases hc with⟨e,_,_⟩|⟨_,z⟩
    ·refine⟨_,rfl,small,3 - (i+1),by lia,rfl,by lia,rfl,?_,by simp;lia⟩
     rw[e];exact bO.snoc fY ⟨t,rfl,ht⟩
    ·rcases z with z|z
     ·exact absurd z q1
     ·exact absurd z q2
 have tx:∀(mk:Str->Pt) (x:Str) (l:List Pt),(mk x).val=.str x->(l++txt mk x=l++[mk x]/\(mk x).val≠ .str ""/\(mk x).val≠ .int 0\/l++txt mk x=l/\((mk x).val=.str ""\/(mk x).val=.int 0)):=by
  intro mk x l hv;unfold txt;by_cases e:x=""
  ·rw[if_pos e];exact .inr ⟨by simp,.inl (by rw[hv,e])⟩
  ·rw[if_neg e];exact .inl ⟨rfl,by rw[hv];exact fun z=>e (by injection z),by rw[hv];exact fun z=>by cases z⟩
 by_cases aI:i<3
 ·refine .inr ⟨⟨_,[V.ref t1,V.ref t2,V.ref t3][i],gm,by simp[aI]⟩,?_⟩
  rintro x H3 ⟨rfl,hx⟩;have mH:=hx _ gm;have:i=0\/i=1\/i=2:=by lia
  rcases this with rfl|rfl|rfl
  ·have ex:x=.ref t1:=by simpa using mH.symm
   subst ex;exact go t1 (.put r.1) 0 h1 rfl (by lia) (tx .put r.1 [] rfl)<|.inl ⟨_,rfl⟩
  ·have ex:x=.ref t2:=by simpa using mH.symm
   subst ex;exact go t2 (.cut r.2.1) 1 h2 rfl (by lia) (tx .cut r.2.1 _ rfl)<|.inl ⟨_,rfl⟩
  ·have ex:x=.ref t3:=by simpa using mH.symm
   subst ex;refine go t3 (.keep r.2.2) 2 h3 rfl (by lia) ?_<|.inr ⟨_,rfl⟩
   by_cases e:r.2.2=0
   ·refine .inr ⟨?_,.inr (by show V.int r.2.2=_;rw[e])⟩
    show dt r=txt .put r.1++txt .cut r.2.1;unfold dt;rw[if_pos e,zag]
   ·refine .inl ⟨?_,?_,?_⟩
    ·show dt r=txt .put r.1++txt .cut r.2.1++[.keep r.2.2];unfold dt;rw[if_neg e]
    ·intro z;have z':V.int r.2.2=V.str "":=z;cases z'
    ·intro z;have z':V.int r.2.2=V.int 0:=z
     injection z' with z'
     exact e z'
 ·have dQ:i=3:=by lia
  subst dQ;refine .inl ⟨⟨_,gm,by simp⟩,fun p hp=>?_⟩
  exact k p ys hp fY rS
theorem Uu{K:Frag}(vs:List V)(H:Hp)(Q:VK)(E:XK)(h:Gq vs H Q E):aC (aJ K [] [] (E:=E)) D9 {nx:=fun _ H'=>Q .aD H',rt:=Q} (start yH vs) H:=by
 obtain⟨a,xs,ps,rfl,ha,dP,hl,ht,k⟩:=h;have hlen:=Paired.length dP;refine⟨wk,fun b0 zq=>⟨d3,fun R hR=>?_⟩⟩;have Gv:b0≠R:=fun z=>by rw[<-z,az] at hR;cases hR
 have fR:H R=none:=(sameNew zq).free hR;have S0:ip H (upd (upd H b0<|.lst [.str "",.str "",.int 0]) R<|.lst [.ref b0]) R [] b0 [] ((Str.ofString "",Str.ofString "",0):Row):=
  {same:=(sameNew zq).trans (sameNew hR),lst:=az,fr:=fR,rows:=.nil,last:=(by rw[av Gv,az];rfl),fb:=zq,bg:=(fun v hv=>by cases hv),ne:=Gv}
 refine⟨_,rfl,a,rfl,⟨_,aw.of (S0.same _ _ ha)⟩,iD (K:=K) (a:=a) (xs:=xs) (fun i σ H2=>∃u v rs b pre r,σ=[some (.ref a),some (.ref R),u,v,none,none,none,none,none]/\ip H H2 R rs b pre r/\
   (ps.take i).foldl aW ([],((Str.ofString "",Str.ofString "",0):Row))=(pre,r)/\rs.length<=i/\r.1.length<=aQ (ps.take i)/\r.2.1.length<=aQ (ps.take i))
  ⟨none,none,[],b0,[],_,rfl,S0,rfl,zqR _,zqZ _,zqZ _⟩ (fun i σ H2 _ ⟨_,_,_,_,_,_,_,S,_⟩=>aw.of (S.same _ _ ha)) ?_ ?_⟩
 ·rintro i x σ H2 hi ⟨u,v,rs,b,pre,r,rfl,S,ef,l1,l2,l3⟩;obtain⟨pt,iW,rQ⟩:=dP.get hi;obtain⟨t,rfl,hb⟩:=rQ.mono (dO S.same);have dE:i<ps.length:=(zal.mp iW).1;have zr:(ps.take<|i+1).foldl aW ([],((Str.ofString "",Str.ofString "",0):Row))=aW (pre,r) pt:=by rw[Uc iW,ef]
  have et:=Ub iW;have tb:=Gh ps i;have ZP:=Gh ps (i+1);have sl:=Uq pre r pt _ l2 l3;refine⟨t,_,rfl,.inl<|aO.of hb,rfl,_,_,rfl,_,_,rfl,rfl,?_⟩;refine⟨_,rfl,_,rfl,?_⟩;cases pt with
  |keep n=>
   refine⟨_,rfl,.inl ⟨_,_,_,_,rfl,rfl,aw.of S.lst,rR _ _,.inl ⟨_,_,_,_,rfl,rfl,aw.of S.last,rfl,_,rfl,_,rfl,.inl ⟨_,_,_,_,rfl,rfl,aw.of S.lst,rR _ _,b,iU r,2,2,rfl,rfl,S.last,rfl,?_⟩⟩⟩⟩;refine⟨_,_,rs,b,pre,(r.1,r.2.1,r.2.2+n),rfl,S.set (r':=(r.1,r.2.1,r.2.2+n)),zr,by lia,?_,?_⟩
   ·show r.1.length<=_;lia
   ·show r.2.1.length<=_;lia
  |put s=>
   refine Gr S (.put s) (.inl ⟨rfl,rfl⟩) ?_ (by lia) (by lia) (by lia) fun H3 pj b' S' Uv=>⟨_,_,pj,b',_,_,rfl,S',zr,by lia,by lia,by lia⟩
   have:eG (.put s)=s.length:=rfl;lia
  |cut s=>
   refine Gr S (.cut s) (.inr ⟨rfl,rfl⟩) ?_ (by lia) (by lia) (by lia) fun H3 pj b' S' Uv=>⟨_,_,pj,b',_,_,rfl,S',zr,by lia,by lia,by lia⟩
   have:eG (.cut s)=s.length:=rfl;lia
 ·rintro σ Hm ⟨u,v,rs,b,pre,r,rfl,S,ef,l1,l2,l3⟩;have e:ps.take xs.length=ps:=zbo (by lia)
  rw[e] at ef;have Uw:ph ps=pre++[r]:=by
   show(ps.foldl aW ([],((Str.ofString "",Str.ofString "",0):Row))).1++[(ps.foldl aW ([],((Str.ofString "",Str.ofString "",0):Row))).2]=_;rw[ef]
  have Gw:kg Hm (rs++[.ref b]) (ph ps):=by rw[Uw];exact Paired.snoc S.rows ⟨b,rfl,S.last⟩
  have zt:=Paired.length Gw;refine⟨zqZ _,fun f0 zu=>?_⟩;refine⟨_,rfl,R,rfl,⟨_,aw.of (sameNew zu _ _ S.lst)⟩,iD (K:=K) (a:=R) (xs:=rs++[.ref b]) (fun i σ H2=>∃f ys p5 p6 p7 p8,σ=[some (.ref a),some (.ref R),u,v,some (.ref f),p5,p6,p7,p8]/\aB Hm H2/\H f=none/\H2 f=some (.lst ys)/\bO H2 ys (bV ((ph ps).take i))/\ys.length<=3*i)
   ⟨f0,[],none,none,none,none,rfl,sameNew zu,S.same.free zu,az,.nil,zqR _⟩ (fun i σ H2 _ ⟨_,_,_,_,_,_,_,s2,_⟩=>aw.of (s2 _ _ S.lst)) ?_ ?_⟩
  ·rintro i x σ H2 hi ⟨f,ys,p5,p6,p7,p8,rfl,s2,ff,zv,fY,rS⟩;obtain⟨row,Ux,w,rfl,hw⟩:=Gw.get hi;have Uy:=s2 _ _ hw;have dE:i< (rs++[V.ref b]).length:=(zal.mp hi).1;have ZQ:rs.length<=100000:=by lia
   have Gx:i<=100000:=by simp only[zqA,zbm] at dE;lia
   refine⟨w,_,rfl,.inr<|aw.of Uy,rfl,_,_,rfl,_,_,rfl,_,_,rfl,rfl,?_⟩;refine⟨_,rfl,dw,fun t1 kh=>⟨_,rfl,dw,fun t2 kc=>⟨_,rfl,dw,fun t3 rT=>⟨wk,fun l gm=>?_⟩⟩⟩⟩;have c1:t1≠t2:=fun z=>by rw[<-z,az] at kc;cases kc
   have Gy:t1≠t3:=fun z=>by rw[<-z,av c1,az] at rT;cases rT
   have Gz:t2≠t3:=fun z=>by rw[<-z,az] at rT;cases rT
   have Uz:t1≠l:=fun z=>by rw[<-z,av Gy,av c1,az] at gm;cases gm
   have UA:t2≠l:=fun z=>by rw[<-z,av Gz,az] at gm;cases gm
   have UB:t3≠l:=fun z=>by rw[<-z,az] at gm;cases gm
   have s3:=((sameNew (o:=.tup [.str "put",.str row.1]) kh).trans<|sameNew (o:=.tup [.str "cut",.str row.2.1]) kc).trans ((sameNew (o:=.tup [.str "keep",.int row.2.2]) rT).trans<|sameNew (o:=.lst [.ref t1,.ref t2,.ref t3]) gm);refine⟨_,rfl,Ur (r:=row) (l:=l) (t1:=t1) (t2:=t2) (t3:=t3) az (by rw[av Uz,av Gy,av c1,az]) (by rw[av UA,av Gz,az]) (by rw[av UB,az]) rfl fun p zs hp GA ZR=>?_⟩
   generalize qI:upd (upd (upd (upd H2 t1<|.tup [.str "put",.str row.1]) t2<|.tup [.str "cut",.str row.2.1]) t3<|.tup [.str "keep",.int row.2.2]) l (.lst [.ref t1,.ref t2,.ref t3])=H3 at s3 hp GA;have GB:=s3 _ _ zv;have UC:upd H3 p (.lst zs) f=some (.lst ys):=by rw[av<|aS GB hp];exact GB
   refine .inl ⟨f,p,ys,zs,rfl,rfl,UC,az,cq (by lia),fun q hq=>?_⟩
   have s5:aB Hm (upd (upd H3 p<|.lst zs) q<|.lst<|ys++zs):=s2.trans (s3.trans<|(sameNew hp).trans<|sameNew hq);have t5:ij H3 (upd (upd H3 p<|.lst zs) q<|.lst<|ys++zs):=dO ((sameNew hp).trans<|sameNew hq);refine⟨q,ys++zs,_,_,_,_,rfl,s5,S.same.free<|(s2.trans<|s3.trans<|sameNew hp).free hq,az,?_,by rw[zqA];lia⟩
   rw[Uo Ux];have app:∀{vs:List V}{as:List Pt}{ws:List V}{bs:List Pt}{G:Hp},bO G vs as->bO G ws bs->bO G (vs++ws) (as++bs):=fun {vs as ws bs G} h1 h2=>by
    induction h1 with
    |nil=>exact h2
    |cons a _ ih=>exact .cons a ih
   exact app ((fY.mono<|dO s3).mono t5)<|GA.mono t5
  ·rintro σ H2 ⟨f,ys,p5,p6,p7,p8,rfl,s2,ff,zv,fY,rS⟩;have e2:(ph ps).take (rs++[V.ref b]).length=ph ps:=zbo (by lia)
   rw[e2] at fY;exact⟨_,rfl,k f H2 ys (S.same.trans s2) ff zv fY⟩
theorem vz(a b:List Row):bV (a++b)=bV a++bV b:=by simp[bV]
theorem rV(r:Row):bV [r]=dt r:=by simp[bV]
theorem zw{r:Row}(h:0<r.2.2):dt r=txt .put r.1++txt .cut r.2.1++[.keep r.2.2]:=by
 unfold dt;rw[if_neg (by lia)]
theorem GC{r:Row}(h:r.2.2=0):dt r=txt .put r.1++txt .cut r.2.1:=by
 unfold dt;rw[if_pos h,zag]
def GD:Pt->Bool|.keep _=>true|_=>false
theorem UD{ch:List Pt}{n:Int}(h:∀p,ch.getLast?=some p->GD p=false):iS ch n=ch++[.keep n]:=by
 unfold iS
 split
 ·rename_i m e
  have:=h _ e;cases this
 ·rfl
theorem UE(ch:List Pt)(m n:Int):iS (ch++[.keep m]) n=ch++[.keep<|n+m]:=by
 unfold iS;rw[zbM]
 simp
theorem txt_nil(mk:Str->Pt):txt mk ""=[]:=if_pos rfl
theorem iX{mk:Str->Pt}{x:Str}(h:x≠""):txt mk x=[mk x]:=if_neg h
theorem UG{pre:List Row}{r:Row}(h:pre≠ []->r.1≠""\/r.2.1≠""):∀p,(bV pre++txt .put r.1++txt .cut r.2.1).getLast?=some p->GD p=false:=by
 intro p hp;by_cases h2:r.2.1=""
 ·rw[h2,txt_nil,zag] at hp;by_cases h1:r.1=""
  ·rw[h1,txt_nil,zag] at hp;by_cases jS:pre=[]
   ·rw[jS] at hp
    simp[bV] at hp
   ·rcases h jS with z|z
    ·exact absurd h1 z
    ·exact absurd h2 z
  ·rw[iX h1,zbM] at hp
   simp at hp;subst hp;rfl
 ·rw[iX h2,zbM] at hp
  simp at hp;subst hp;rfl
def Rel(s:NS)(t:List Row×Row):Prop:=
 (∀x∈t.1,0<x.2.2)/\(t.1≠ []->t.2.1≠""\/t.2.2.1≠"")/\0<=t.2.2.2/\
  ((t.2.2.2=0/\s.1=bV t.1/\cat s.2.1=t.2.1/\cat s.2.2=t.2.2.1)\/(0<t.2.2.2/\s.1=bV (t.1++[t.2])/\cat s.2.1=""/\cat s.2.2=""))
theorem pk(a:List Str)(s:Str):cat (a++[s])=cat a++s:=by rw[TY,TZ]
theorem UH{s:NS}{t:List Row×Row}{p:Pt}(R:Rel s t)(hp:fX p):Rel (fW s p) (aW t p):=by
 obtain⟨ch,pu,cu⟩:=s;obtain⟨pre,r⟩:=t;obtain⟨r1,r2,r3,r4⟩:=R
 simp only at r1 r2 r3 r4
 cases p with
 |keep n=>
  have Uj:0<=n:=hp;by_cases hn:0<n
  ·have e1:fW (ch,pu,cu) (.keep n)=(iS (fF ch pu cu) n,[],[]):=if_pos hn;rw[e1];refine⟨r1,r2,by show 0<=r.2.2+n;lia,.inr ⟨by show 0<r.2.2+n;lia,?_,rfl,rfl⟩⟩
   show iS (fF ch pu cu) n=bV (pre++[(r.1,r.2.1,r.2.2+n)]);rw[vz,rV,zw (r:=(r.1,r.2.1,r.2.2+n)) (by show 0<r.2.2+n;lia)]
   rcases r4 with⟨k0,e2,e3,e4⟩|⟨k0,e2,e3,e4⟩
   ·have ea:fF ch pu cu=bV pre++txt .put r.1++txt .cut r.2.1:=by unfold fF;rw[e2,e3,e4]
    rw[ea,UD<|UG r2];show _=bV pre++(txt .put r.1++txt .cut r.2.1++[.keep<|r.2.2+n]);rw[k0,Int.zero_add];simp
   ·have ea:fF ch pu cu=bV pre++(txt .put r.1++txt .cut r.2.1)++[.keep r.2.2]:=by
     unfold fF;rw[e2,e3,e4,txt_nil,txt_nil,zag,zag,vz,rV,zw k0];simp
    rw[ea,UE];show _=bV pre++(txt .put r.1++txt .cut r.2.1++[.keep<|r.2.2+n]);rw[Int.add_comm n];simp
  ·have e0:n=0:=by lia
   have e1:fW (ch,pu,cu) (.keep n)=(ch,pu,cu):=if_neg hn;have e2:aW (pre,r) (.keep n)=(pre,r):=by show(pre,(r.1,r.2.1,r.2.2+n))=_;rw[e0,Int.add_zero]
   rw[e1,e2];exact⟨r1,r2,r3,r4⟩
 |put x=>
  show Rel (ch,pu++[x],cu) (aW (pre,r)<|.put x);by_cases hx:x=""
  ·have e2:aW (pre,r) (.put x)=(pre,r):=if_pos hx;rw[e2];refine⟨r1,r2,r3,?_⟩;have e:cat (pu++[x])=cat pu:=by rw[pk,hx];exact Gf _
   show _\/_
   simp only[e]
   exact r4
  ·by_cases hk:0<r.2.2
   ·have e2:aW (pre,r) (.put x)=(pre++[r],((Str.ofString ""++x,Str.ofString "",0):Row)):=by show(if x="" then _ else if 0<r.2.2 then _ else _)=_;rw[if_neg hx,if_pos hk]
    rw[e2];rcases r4 with⟨k0,_⟩|⟨_,e5,e3,e4⟩
    ·lia
    ·refine⟨fun y hy=>?_,fun _=>.inl (by rw[pf];exact hx),zaD _,.inl ⟨rfl,e5,?_,e4⟩⟩
     ·rcases zai.mp hy with z|z
      ·exact r1 y z
      ·rw[zaj.mp z];exact hk
     ·show cat (pu++[x])=_;rw[pk,e3]
   ·have e2:aW (pre,r) (.put x)=(pre,(r.1++x,r.2.1,r.2.2)):=by show(if x="" then _ else if 0<r.2.2 then _ else _)=_;rw[if_neg hx,if_neg hk]
    rw[e2];rcases r4 with⟨k0,e5,e3,e4⟩|⟨k0,_⟩
    ·refine⟨r1,fun _=>.inl ?_,r3,.inl ⟨k0,e5,?_,e4⟩⟩
     ·intro z;have:=congrArg Str.length z;rw[iV] at this;have l0:(Str.ofString "").length=0:=rfl;rw[l0] at this;have lR:x.length=0:=by lia
      exact hx<|jC (by rw[len_list] at lR;rw[zaO.mp lR];rfl)
     ·show cat (pu++[x])=_;rw[pk,e3]
    ·lia
 |cut x=>
  show Rel (ch,pu,cu++[x]) (aW (pre,r)<|.cut x);by_cases hx:x=""
  ·have e2:aW (pre,r) (.cut x)=(pre,r):=if_pos hx;rw[e2];refine⟨r1,r2,r3,?_⟩;have e:cat (cu++[x])=cat cu:=by rw[pk,hx];exact Gf _
   show _\/_
   simp only[e]
   exact r4
  ·by_cases hk:0<r.2.2
   ·have e2:aW (pre,r) (.cut x)=(pre++[r],((Str.ofString "",Str.ofString ""++x,0):Row)):=by show(if x="" then _ else if 0<r.2.2 then _ else _)=_;rw[if_neg hx,if_pos hk]
    rw[e2];rcases r4 with⟨k0,_⟩|⟨_,e5,e3,e4⟩
    ·lia
    ·refine⟨fun y hy=>?_,fun _=>.inr (by rw[pf];exact hx),zaD _,.inl ⟨rfl,e5,e3,?_⟩⟩
     ·rcases zai.mp hy with z|z
      ·exact r1 y z
      ·rw[zaj.mp z];exact hk
     ·show cat (cu++[x])=_;rw[pk,e4]
   ·have e2:aW (pre,r) (.cut x)=(pre,(r.1,r.2.1++x,r.2.2)):=by show(if x="" then _ else if 0<r.2.2 then _ else _)=_;rw[if_neg hx,if_neg hk]
    rw[e2];rcases r4 with⟨k0,e5,e3,e4⟩|⟨k0,_⟩
    ·refine⟨r1,fun _=>.inr ?_,r3,.inl ⟨k0,e5,e3,?_⟩⟩
     ·intro z;have:=congrArg Str.length z;rw[iV] at this;have l0:(Str.ofString "").length=0:=rfl;rw[l0] at this;have lR:x.length=0:=by lia
      exact hx<|jC (by rw[len_list] at lR;rw[zaO.mp lR];rfl)
     ·show cat (cu++[x])=_;rw[pk,e4]
    ·lia
theorem GF:∀(ps:List Pt) (s:NS) (t:List Row×Row),Rel s t->(∀p∈ps,fX p)->Rel (ps.foldl fW s) (ps.foldl aW t)
 |[],s,t,R,_=>R
 |p::r,s,t,R,h=>GF r _ _ (UH R<|h p zap) fun q hq=>h q (zao _ hq)
theorem UI(ps:List Pt)(h:∀p∈ps,fX p):Rel (ps.foldl fW ([],[],[])) (ps.foldl aW ([],((Str.ofString "",Str.ofString "",0):Row))):=
 GF ps _ _ ⟨(fun x hx=>by cases hx),fun z=>absurd rfl z,zaD _,.inl ⟨rfl,rfl,rfl,rfl⟩⟩ h
theorem UJ(ps:List Pt)(h:∀p∈ps,fX p):Gg ps=jD ps:=by
 obtain⟨r1,r2,r3,r4⟩:=UI ps h;show fF _ _ _=bV (_++[_]);generalize ps.foldl fW ([],[],[])=s at r4⊢;generalize ps.foldl aW ([],((Str.ofString "",Str.ofString "",0):Row))=t at r1 r2 r3 r4⊢;unfold fF;rcases r4 with⟨k0,e5,e3,e4⟩|⟨k0,e5,e3,e4⟩
 ·rw[e5,e3,e4,vz,rV,GC k0];simp
 ·rw[e5,e3,e4,txt_nil,txt_nil];simp
def sg(x:Str):Prop:= ∀c∈x.cps.toList,SG.cps.contains c=true
theorem vA{x:Str}(a:sg x)(b:sg y):sg (x++y):=fun c hc=>by
 rw[app_list] at hc;rcases zai.mp hc with z|z
 ·exact a c z
 ·exact b c z
theorem lS:sg (Str.ofString ""):=fun c hc=>by cases hc
def iY(r:Row):Nat:=r.1.length+r.2.1.length
structure RI (n:Nat) (t:List Row×Row):Prop where
 pos:∀x∈t.1,0<x.2.2
 nn:0<=t.2.2.2
 s1:∀x∈t.1++[t.2],sg x.1/\sg x.2.1
 tl:∀x∈ (t.1++[t.2]).tail,x.1≠""\/x.2.1≠""
 aQ:((t.1++[t.2]).map iY).sum=n
theorem GG{x:Str}(h:x≠""):x++y≠"":=fun z=>by
 have:=congrArg Str.length z;rw[iV] at this;have l0:(Str.ofString "").length=0:=rfl;rw[l0] at this;have lR:x.length=0:=by lia
 exact h<|jC (by rw[len_list] at lR;rw[zaO.mp lR];rfl)
theorem GH{α:Type}(l:List α)(a:α):(l++[a]).tail=if l=[] then [] else l.tail++[a]:=by
 cases l with
 |nil=>rfl
 |cons b r=>simp
theorem zx{m:Nat}{pre:List Row}{r r':Row}(I:RI n (pre,r))(h0:0<=r'.2.2)(h1:sg r'.1/\sg r'.2.1)(h2:(r.1≠""->r'.1≠"")/\(r.2.1≠""->r'.2.1≠""))(h3:iY r'=iY r+m):RI (n+m) (pre,r'):=by
 refine⟨I.pos,h0,fun x hx=>?_,fun x hx=>?_,?_⟩
 ·rcases zai.mp hx with z|z
  ·exact I.s1 x (zaR _ z)
  ·rw[zaj.mp z];exact h1
 ·have t1:=I.tl
  simp only at t1 hx
  rw[GH] at hx t1;by_cases hp:pre=[]
  ·rw[if_pos hp] at hx;cases hx
  ·rw[if_neg hp] at hx t1;rcases zai.mp hx with z|z
   ·exact t1 x (zaR _ z)
   ·rw[zaj.mp z];rcases t1 r (by simp) with q|q
    ·exact .inl (h2.1 q)
    ·exact .inr (h2.2 q)
 ·have:=I.aQ
  simp only[zav,List.sum_append,zak,zaH,List.sum_cons,List.sum_nil] at this⊢
  lia
theorem GI{m:Nat}{pre:List Row}{r r':Row}(I:RI n (pre,r))(hk:0<r.2.2)(h0:0<=r'.2.2)(h1:sg r'.1/\sg r'.2.1)(h2:r'.1≠""\/r'.2.1≠"")(h3:iY r'=m):RI (n+m) (pre++[r],r'):=by
 refine⟨fun x hx=>?_,h0,fun x hx=>?_,fun x hx=>?_,?_⟩
 ·rcases zai.mp hx with z|z
  ·exact I.pos x z
  ·rw[zaj.mp z];exact hk
 ·rcases zai.mp hx with z|z
  ·exact I.s1 x z
  ·rw[zaj.mp z];exact h1
 ·have t1:=I.tl
  simp only at t1 hx
  rw[GH,if_neg (by simp)] at hx
  rcases zai.mp hx with z|z
  ·exact t1 x z
  ·rw[zaj.mp z];exact h2
 ·have:=I.aQ
  simp only[zav,List.sum_append,zak,zaH,List.sum_cons,List.sum_nil] at this⊢
  lia
theorem UK{t:List Row×Row}{p:Pt}(I:RI n t)(hp:fX p):RI (n+eG p) (aW t p):=by
 obtain⟨pre,r⟩:=t;have hs:=I.s1 r (by simp)
 have GJ:0<=r.2.2:=I.nn;have e0:(Str.ofString "").length=0:=rfl;cases p with
 |keep m=>exact zx I (by show 0<=r.2.2+m;have:0<=m:=hp;lia) hs ⟨fun z=>z,fun z=>z⟩ rfl
 |put x=>
  have gx:sg x:=hp.1.2;by_cases hx:x=""
  ·have e2:aW (pre,r) (.put x)=(pre,r):=if_pos hx;have e3:eG (.put x)=0:=by show x.length=0;rw[hx];rfl
   rw[e2,e3];exact I
  ·by_cases hk:0<r.2.2
   ·have e2:aW (pre,r) (.put x)=(pre++[r],((Str.ofString ""++x,Str.ofString "",0):Row)):=by show(if x="" then _ else if 0<r.2.2 then _ else _)=_;rw[if_neg hx,if_pos hk]
    rw[e2];refine GI I hk (zaD _) ⟨vA lS gx,lS⟩ (.inl (by rw[pf];exact hx)) ?_
    show(Str.ofString ""++x).length+(Str.ofString "").length=x.length;rw[iV,e0];lia
   ·have e2:aW (pre,r) (.put x)=(pre,(r.1++x,r.2.1,r.2.2)):=by show(if x="" then _ else if 0<r.2.2 then _ else _)=_;rw[if_neg hx,if_neg hk]
    rw[e2];refine zx I GJ ⟨vA hs.1 gx,hs.2⟩ ⟨GG,fun z=>z⟩ ?_;show(r.1++x).length+r.2.1.length=r.1.length+r.2.1.length+x.length;rw[iV];lia
 |cut x=>
  have gx:sg x:=hp.1.2;by_cases hx:x=""
  ·have e2:aW (pre,r) (.cut x)=(pre,r):=if_pos hx;have e3:eG (.cut x)=0:=by show x.length=0;rw[hx];rfl
   rw[e2,e3];exact I
  ·by_cases hk:0<r.2.2
   ·have e2:aW (pre,r) (.cut x)=(pre++[r],((Str.ofString "",Str.ofString ""++x,0):Row)):=by show(if x="" then _ else if 0<r.2.2 then _ else _)=_;rw[if_neg hx,if_pos hk]
    rw[e2];refine GI I hk (zaD _) ⟨lS,vA lS gx⟩ (.inr (by rw[pf];exact hx)) ?_
    show(Str.ofString "").length+(Str.ofString ""++x).length=x.length;rw[iV,e0];lia
   ·have e2:aW (pre,r) (.cut x)=(pre,(r.1,r.2.1++x,r.2.2)):=by show(if x="" then _ else if 0<r.2.2 then _ else _)=_;rw[if_neg hx,if_neg hk]
    rw[e2];refine zx I GJ ⟨hs.1,vA hs.2 gx⟩ ⟨fun z=>z,GG⟩ ?_;show r.1.length+(r.2.1++x).length=r.1.length+r.2.1.length+x.length;rw[iV];lia
theorem zy:∀(ps:List Pt) (n:Nat) (t:List Row×Row),RI n t->(∀p∈ps,fX p)->RI (n+aQ ps) (ps.foldl aW t)
 |[],n,t,I,_=>I
 |p::r,n,t,I,h=>by
  have:=zy r _ _ (UK I<|h p zap) fun q hq=>h q (zao _ hq);have e:n+eG p+aQ r=n+aQ (p::r):=by show _=n+(eG p+aQ r);lia
  rw[e] at this;exact this
theorem GK{r:Row}{a:Str}{rest:List Pt}(ha:a=""\/(a="keep"/\(r.1≠""\/r.2.1≠"")))(hk:0<r.2.2)(h:chainOk "keep" rest=true):chainOk a (dt r++rest)=true:=by
 rw[zw hk];by_cases h1:r.1="" <;>by_cases h2:r.2.1=""
 ·rw[h1,h2,txt_nil,txt_nil];rcases ha with rfl|⟨_,z|z⟩
  ·exact h
  ·exact absurd h1 z
  ·exact absurd h2 z
 ·rw[h1,txt_nil,iX h2];rcases ha with rfl|⟨rfl,_⟩ <;>exact h
 ·rw[h2,txt_nil,iX h1];rcases ha with rfl|⟨rfl,_⟩ <;>exact h
 ·rw[iX h1,iX h2];rcases ha with rfl|⟨rfl,_⟩ <;>exact h
theorem chain_last{r:Row}{a:Str}(ha:a=""\/(a="keep"/\(r.1≠""\/r.2.1≠"")))(hk:0<=r.2.2):chainOk a (dt r)=true:=by
 by_cases h0:0<r.2.2
 ·have:=GK (rest:=[]) ha h0 rfl;rw[zag] at this;exact this
 ·rw[GC (by lia)]
  by_cases h1:r.1="" <;>by_cases h2:r.2.1=""
  ·rw[h1,h2,txt_nil,txt_nil];rfl
  ·rw[h1,txt_nil,iX h2];rcases ha with rfl|⟨rfl,_⟩ <;>rfl
  ·rw[h2,txt_nil,iX h1];rcases ha with rfl|⟨rfl,_⟩ <;>rfl
  ·rw[iX h1,iX h2];rcases ha with rfl|⟨rfl,_⟩ <;>rfl
theorem GN:∀(pre:List Row) (r:Row) (a:Str),(∀x∈pre,0<x.2.2)->0<=r.2.2->(a=""\/(a="keep"/\∀x,(pre++[r]).head?=some x->x.1≠""\/x.2.1≠""))->(∀x∈ (pre++[r]).tail,x.1≠""\/x.2.1≠"")->
  chainOk a (bV<|pre++[r])=true
 |[],r,a,_,hk,ha,_=>by
  rw[List.nil_append,rV];exact chain_last (ha.imp id fun⟨x,y⟩=>⟨x,y r rfl⟩) hk
 |q::pre,r,a,hp,hk,ha,ht=>by
  have e:bV (q::pre++[r])=dt q++bV (pre++[r]):=by simp[bV]
  rw[e];refine GK (ha.imp id fun⟨x,y⟩=>⟨x,y q rfl⟩) (hp q zap) ?_;refine GN pre r "keep" (fun x hx=>hp x<|zao _ hx) hk (.inr ⟨rfl,fun x hx=>ht x ?_⟩) fun x hx=>ht x (List.mem_of_mem_tail hx);show x∈pre++[r];exact List.mem_of_mem_head? hx
theorem UL{r:Row}{p:Pt}(hs:sg r.1/\sg r.2.1)(hl:iY r<=1000000)(hk:0<=r.2.2)(h:p∈dt r):il p:=by
 unfold dt txt at h;unfold iY at hl;rcases zai.mp h with h|h
 ·rcases zai.mp h with h|h
  ·split at h
   ·cases h
   ·rename_i ne
    rw[zaj.mp h];exact⟨⟨by lia,hs.1⟩,ne⟩
  ·split at h
   ·cases h
   ·rename_i ne
    rw[zaj.mp h];exact⟨⟨by lia,hs.2⟩,ne⟩
 ·split at h
  ·cases h
  ·rw[zaj.mp h];show 1<=r.2.2;lia
theorem UM(r:Row):aQ (dt r)=iY r:=by
 have t1:∀(mk:Str->Pt) (x:Str),(∀y,eG (mk y)=y.length)->aQ (txt mk x)=x.length:=by
  intro mk x h;unfold txt;by_cases e:x=""
  ·rw[if_pos e,e];rfl
  ·rw[if_neg e];show eG (mk x)+0=_;rw[h,Nat.add_zero]
 have ta:∀a b:List Pt,aQ (a++b)=aQ a+aQ b:=fun a b=>by simp[aQ]
 unfold dt iY;rw[ta,ta,t1 .put _ fun _=>rfl,t1 .cut _ fun _=>rfl]
 split
 ·rfl
 ·rfl
theorem zz:∀rows:List Row,aQ (bV rows)=(rows.map iY).sum
 |[]=>rfl
 |r::rows=>by
  have e:bV (r::rows)=dt r++bV rows:=by simp[bV]
  have ta:∀a b:List Pt,aQ (a++b)=aQ a+aQ b:=fun a b=>by simp[aQ]
  rw[e,ta,UM,zz rows];rfl
theorem UN{l:List Row}{x:Row}(h:x∈l):iY x<= (l.map iY).sum:=by
 induction l with
 |nil=>cases h
 |cons a l ih=>
  rw[zak,List.sum_cons];rcases zae.mp h with rfl|h
  ·lia
  ·have:=ih h;lia
theorem UO(ps:List Pt)(h:∀p∈ps,fX p)(ht:aQ ps<=100000):chainOk "" (jD ps)=true/\(∀p∈jD ps,il p)/\aQ (jD ps)<=100000:=by
 have I:=zy ps 0 ([],((Str.ofString "",Str.ofString "",0):Row)) ⟨(fun x hx=>by cases hx),zaD _,(fun x hx=>by rw[zaj.mp hx];exact⟨lS,lS⟩),(fun x hx=>by cases hx),rfl⟩ h
 rw[zbp] at I;have e:jD ps=bV ((ps.foldl aW ([],((Str.ofString "",Str.ofString "",0):Row))).1++[(ps.foldl aW ([],((Str.ofString "",Str.ofString "",0):Row))).2]):=rfl;rw[e];generalize ps.foldl aW ([],((Str.ofString "",Str.ofString "",0):Row))=t at I;refine⟨GN t.1 t.2 "" I.pos I.nn (.inl rfl) I.tl,fun p hp=>?_,by rw[zz,I.aQ];exact ht⟩
 unfold bV at hp;rw[List.mem_flatten] at hp;obtain⟨l,hl,hp⟩:=hp;obtain⟨x,hx,rfl⟩:=zay.mp hl;have hle:=UN hx;rw[I.aQ] at hle;refine UL (I.s1 x hx) (by lia) ?_ hp
 rcases zai.mp hx with z|z
 ·have:=I.pos x z;lia
 ·rw[zaj.mp z];exact I.nn
theorem UP(ps:List Pt):(Gg ps).length<=3*ps.length+2:=by
 have go:∀(l:List Pt) (s:NS),(l.foldl fW s).1.length<=s.1.length+3*l.length:=by
  intro l
  induction l with
  |nil=>intro s;simp
  |cons p l ih=>
   intro s;have h1:=ih (fW s p);have h2:(fW s p).1.length<=s.1.length+3:=by
    obtain⟨ch,pu,cu⟩:=s;cases p with
    |keep n=>
     by_cases hn:0<n
     ·have e1:fW (ch,pu,cu) (.keep n)=(iS (fF ch pu cu) n,[],[]):=if_pos hn;rw[e1];have:=Gj ch pu cu;have:=Ud (fF ch pu cu) n;show(iS (fF ch pu cu) n).length<=ch.length+3;lia
     ·have e1:fW (ch,pu,cu) (.keep n)=(ch,pu,cu):=if_neg hn;rw[e1];show ch.length<=ch.length+3;lia
    |put x=>show ch.length<=ch.length+3;lia
    |cut x=>show ch.length<=ch.length+3;lia
   rw[List.foldl_cons,zax];lia
 have h1:=go ps ([],[],[]);have h2:=Gj (ps.foldl fW ([],[],[])).1 (ps.foldl fW ([],[],[])).2.1 (ps.foldl fW ([],[],[])).2.2;show(fF _ _ _).length<=_
 simp only[List.length_nil] at h1
 lia
def zA:Pt->Prop|.keep _=>True|.put s=>sg s|.cut s=>sg s
def Pt.zB:Pt->Pt|.keep n=>.keep n|.put s=>.cut s|.cut s=>.put s
def GO(ps:List Pt):List Pt:=ps.map Pt.zB
theorem UQ(ps:List Pt)(h:∀p∈ps,fX p):RI (aQ ps) (ps.foldl aW ([],((Str.ofString "",Str.ofString "",0):Row))):=by
 have I:=zy ps 0 ([],((Str.ofString "",Str.ofString "",0):Row)) ⟨(fun x hx=>by cases hx),zaD _,(fun x hx=>by rw[zaj.mp hx];exact⟨lS,lS⟩),(fun x hx=>by cases hx),rfl⟩ h
 rwa [zbp] at I
inductive Run:List Nat->List Pt->List Nat->Prop
 |nil:Run [] [] []
 |keep {a l r:List Nat}{n:Int}{ps:List Pt}:n=a.length->Run l ps r->Run (a++l) (.keep n::ps) (a++r)
 |put {s:Str}{l r:List Nat}{ps:List Pt}:Run l ps r->Run l (.put s::ps) (s.cps.toList++r)
 |cut {s:Str}{l r:List Nat}{ps:List Pt}:Run l ps r->Run (s.cps.toList++l) (.cut s::ps) r
theorem Run.zB{l r:List Nat}{ps:List Pt}(h:Run l ps r):Run r (GO ps) l:=by
 induction h with
 |nil=>exact .nil
 |keep e _ ih=>exact .keep e ih
 |put _ ih=>exact .cut ih
 |cut _ ih=>exact .put ih
theorem Run.app{l l' r r':List Nat}{ps qs:List Pt}(h:Run l ps r)(h':Run l' qs r'):Run (l++l') (ps++qs) (r++r'):=by
 induction h with
 |nil=>exact h'
 |keep e _ ih=>rw[zbb,zbb];exact .keep e ih
 |put _ ih=>rw[zbb];exact .put ih
 |cut _ ih=>rw[zbb];exact .cut ih
def nC(r:Row)(l q:List Nat):Prop:= ∃k:List Nat,r.2.2=k.length/\l=r.2.1.cps.toList++k/\q=r.1.cps.toList++k
inductive kj:List Row->List Nat->List Nat->Prop
 |nil:kj [] [] []
 |snoc {rs:List Row}{r:Row}{l q l' q':List Nat}:kj rs l q->nC r l' q'->kj (rs++[r]) (l++l') (q++q')
theorem GP{s:Str}:Run [] (txt .put s) s.cps.toList:=by
 by_cases h:s=""
 ·rw[h,txt_nil];exact .nil
 ·rw[iX h];have:=Run.put (s:=s) Run.nil
  rwa [zag] at this
theorem UR{s:Str}:Run s.cps.toList (txt .cut s) []:=by
 have:=(GP (s:=s)).zB;have e:GO (txt .put s)=txt .cut s:=by
  unfold txt;split<;>rfl
 rwa [e] at this
theorem nC.run{r:Row}{l q:List Nat}(h:nC r l q):Run l (dt r) q:=by
 obtain⟨k,hk,rfl,rfl⟩:=h;have h3:Run k (if r.2.2=0 then [] else [.keep r.2.2]) k:=by
  split
  ·rename_i h
   have:k=[]:=zaO.mp (by lia)
   rw[this];exact .nil
  ·have:=Run.keep (a:=k) hk Run.nil
   rwa [zag] at this
 have:=((GP (s:=r.1)).app<|UR (s:=r.2.1)).app h3
 simpa[dt] using this
theorem kj.run{rs:List Row}{l q:List Nat}(h:kj rs l q):Run l (bV rs) q:=by
 induction h with
 |nil=>exact .nil
 |snoc _ h2 ih=>rw[vz,rV];exact ih.app h2.run
def One:Pt->List Nat->List Nat->Prop
 |.keep n,l,q=>l=q/\n=l.length
 |.put s,l,q=>l=[]/\q=s.cps.toList
 |.cut s,l,q=>l=s.cps.toList/\q=[]
theorem GQ{p:Pt}{l q:List Nat}{ps:List Pt}(h:Run l (p::ps) q):∃l1 l2 q1 q2,l=l1++l2/\q=q1++q2/\Run l2 ps q2/\
  One p l1 q1:=by
 cases h with
 |keep e h=>exact⟨_,_,_,_,rfl,rfl,h,rfl,e⟩
 |put h=>exact⟨[],_,_,_,rfl,rfl,h,rfl,rfl⟩
 |cut h=>exact⟨_,_,[],_,rfl,rfl,h,rfl,rfl⟩
theorem US{pre:List Row}{r:Row}{p:Pt}{l0 q0 l1 q1 l2 q2:List Nat}(h0:kj pre l0 q0)(h1:nC r l1 q1)
  (hp:One p l2 q2):
  ∃nE nF iZ jk,kj (aW (pre,r) p).1 nE nF/\nC (aW (pre,r) p).2 iZ jk/\l0++l1++l2=nE++iZ/\q0++q1++q2=nF++jk:=by
 cases p with
 |keep n=>
  obtain⟨rfl,rfl⟩:=hp;obtain⟨k,hk,rfl,rfl⟩:=h1;refine⟨l0,q0,_,_,h0,⟨k++l2,?_,rfl,rfl⟩,by simp[aW],by simp[aW]⟩
  show r.2.2+(l2.length:Int)=_;rw[hk,zqA];simp
 |put s=>
  obtain⟨rfl,rfl⟩:=hp;by_cases hs:s=""
  ·have e:aW (pre,r) (.put s)=(pre,r):=by simp only[aW,if_pos hs]
   rw[e];refine⟨l0,q0,l1,q1,h0,h1,by simp,?_⟩
   rw[hs];show q0++q1++(Str.ofString "").cps.toList=_;rw[ofString_empty];simp
  ·by_cases hk:0<r.2.2
   ·have e:aW (pre,r) (.put s)=(pre++[r],((Str.ofString ""++s,"",0):Row)):=by simp only[aW,if_neg hs,if_pos hk]
    rw[e];refine⟨_,_,[],s.cps.toList,h0.snoc h1,⟨[],rfl,rfl,?_⟩,by simp,by simp⟩
    show s.cps.toList=(Str.ofString ""++s).cps.toList++[];rw[pf];simp
   ·have e:aW (pre,r) (.put s)=(pre,(r.1++s,r.2.1,r.2.2)):=by simp only[aW,if_neg hs,if_neg hk]
    rw[e];obtain⟨k,mQ,rfl,rfl⟩:=h1;have:k=[]:=zaO.mp (by lia)
    subst this;refine⟨l0,q0,r.2.1.cps.toList,r.1.cps.toList++s.cps.toList,h0,⟨[],mQ,by simp,by simp[app_list]⟩,by simp,by simp⟩
 |cut s=>
  obtain⟨rfl,rfl⟩:=hp;by_cases hs:s=""
  ·have e:aW (pre,r) (.cut s)=(pre,r):=by simp only[aW,if_pos hs]
   rw[e];refine⟨l0,q0,l1,q1,h0,h1,?_,by simp⟩
   rw[hs];show l0++l1++(Str.ofString "").cps.toList=_;rw[ofString_empty];simp
  ·by_cases hk:0<r.2.2
   ·have e:aW (pre,r) (.cut s)=(pre++[r],(("",Str.ofString ""++s,0):Row)):=by simp only[aW,if_neg hs,if_pos hk]
    rw[e];refine⟨_,_,s.cps.toList,[],h0.snoc h1,⟨[],rfl,?_,rfl⟩,by simp,by simp⟩
    show s.cps.toList=(Str.ofString ""++s).cps.toList++[];rw[pf];simp
   ·have e:aW (pre,r) (.cut s)=(pre,(r.1,r.2.1++s,r.2.2)):=by simp only[aW,if_neg hs,if_neg hk]
    rw[e];obtain⟨k,mQ,rfl,rfl⟩:=h1;have:k=[]:=zaO.mp (by lia)
    subst this;refine⟨l0,q0,r.2.1.cps.toList++s.cps.toList,r.1.cps.toList,h0,⟨[],mQ,by simp[app_list],by simp⟩,by simp,by simp⟩
theorem GR:∀(ps:List Pt) (pre:List Row) (r:Row) (l0 q0 l1 q1 l2 q2:List Nat),kj pre l0 q0->nC r l1 q1->Run l2 ps q2->
  ∃nE nF iZ jk,kj (ps.foldl aW (pre,r)).1 nE nF/\nC (ps.foldl aW (pre,r)).2 iZ jk/\l0++l1++l2=nE++iZ/\q0++q1++q2=nF++jk
 |[],pre,r,l0,q0,l1,q1,l2,q2,h0,h1,h2=>by
  cases h2;exact⟨l0,q0,l1,q1,h0,h1,by simp,by simp⟩
 |p::ps,pre,r,l0,q0,l1,q1,l2,q2,h0,h1,h2=>by
  obtain⟨a,b,c,d,rfl,rfl,h3,h4⟩:=GQ h2;obtain⟨nE,nF,iZ,jk,g0,g1,e1,e2⟩:=US h0 h1 h4;obtain⟨UT,UU,UW,UX,f0,f1,e3,e4⟩:=GR ps _ _ nE nF iZ jk b d g0 g1 h3;refine⟨UT,UU,UW,UX,f0,f1,?_,?_⟩
  ·rw[<-e3,<-e1];simp
  ·rw[<-e4,<-e2];simp
theorem UY{ps:List Pt}{l q:List Nat}(h:Run l ps q):Run l (jD ps) q:=by
 obtain⟨l0,q0,l1,q1,h0,h1,e1,e2⟩:=GR ps [] ("","",0) [] [] [] [] l q .nil ⟨[],rfl,rfl,rfl⟩ h;have:=(h0.snoc h1).run;rw[<-e1,<-e2] at this;exact this
def zC:Sp:=fun vs H Q E=>∃c,vs=[.int c]/\∀n,0<=n->n<=400->Q (.int n) H
theorem UZ{K:Frag}(vs:List V)(H:Hp)(Q:VK)(E:XK)(h:zC vs H Q E):aC (aJ K [] [] (E:=E)) D6 {nx:=fun _ H'=>Q .aD H',rt:=Q} (start D5 vs) H:=by
 obtain⟨c,rfl,q⟩:=h;refine⟨_,rfl,by show(0:Int) <8;decide,_,rfl,?_⟩
 refine cw (fun _=>?_)<|fun _=>?_
 ·exact⟨_,rfl,⟨by decide,by decide⟩,by show(0:Int) <401;decide,q _ (zaq _ (by decide)) (by have:=zar (c / 8) (show(0:Int) <401 by decide);lia)⟩
 ·exact⟨_,rfl,⟨by decide,by decide⟩,by show(0:Int) <25;decide,q _ (zaq _ (by decide)) (by have:=zar (c / 8) (show(0:Int) <25 by decide);lia)⟩
theorem GS{x:Str}{a b c:List Nat}(h:x.cps.toList=a++(b++c))(n:Int)(hn:n=b.length):qM x (some (a.length:Int)) (some<|(a.length:Int)+n)=⟨b.toArray⟩:=by
 have e1:(a.length:Int)+n=((a.length+b.length:Nat):Int):=by rw[hn];simp
 unfold qM k9;rw[e1,HT.tZ,HT.tZ,h];have l1:(a++(b++c)).length=a.length+(b.length+c.length):=by simp
 rw[l1];have m1:min a.length (a.length+(b.length+c.length))=a.length:=by lia
 have m2:min (a.length+b.length) (a.length+(b.length+c.length))=a.length+b.length:=by lia
 rw[m1,m2,List.drop_left,show a.length+b.length - a.length=b.length by lia,List.take_left]
theorem U0(j:Int)(h0:0<=j)(h1:j<6):∃n:Int,eZ [V.int 1,V.int 2,V.int 0,V.int 3,V.int 5,V.int 40] j=some (.int n)/\0<=n/\n<=40:=by
 obtain rfl|rfl|rfl|rfl|rfl|rfl:j=0\/j=1\/j=2\/j=3\/j=4\/j=5:=by lia
 all_goals exact⟨_,rfl,by decide,by decide⟩
theorem zD(a b:List Pt):aQ (a++b)=aQ a+aQ b:=by simp[aQ]
abbrev U1:List (Str×Sp):=[("_law_mixed",c_),("_law_text",vt)]
theorem U3(ps:List Pt)(h:∀p∈ps,fX p):aQ (jD ps)=aQ ps:=by
 have I:=UQ ps h;have e:jD ps=bV ((ps.foldl aW ([],((Str.ofString "",Str.ofString "",0):Row))).1++[(ps.foldl aW ([],((Str.ofString "",Str.ofString "",0):Row))).2]):=rfl;rw[e,zz,I.aQ]
theorem i0{k:Str}{r:List (Str×V)}:((k,v)::r).lookup k=some v:=by simp[List.lookup]
theorem da{k j:Str}{r:List (Str×V)}(h:¬k=j):((j,v)::r).lookup k=r.lookup k:=by
 have:(k==j)=false:=by simpa using h
 simp[List.lookup,this]
theorem GU{k:Str}{w:V}{r:List (Str×V)}:bq k v ((k,w)::r)=(k,v)::r:=by simp[bq]
theorem gu{k j:Str}{w:V}{r:List (Str×V)}(h:¬j=k):bq k v ((j,w)::r)=(j,w)::bq k v r:=by simp[bq,h]
def i4:Nat->Nat->List (Nat×Nat)->Prop
 |_,_,[]=>True
 |a,b,x::r=>a<=x.1/\b<=x.2/\i4 (x.1+1) (x.2+1) r
theorem i4.low:∀{a b a' b':Nat}{ks:List (Nat×Nat)},i4 a b ks->a'<=a->b'<=b->i4 a' b' ks
 |_,_,_,_,[],_,_,_=>trivial
 |_,_,_,_,_::_,h,h1,h2=>⟨zaw h1 h.1,zaw h2 h.2.1,h.2.2⟩
def eI:Nat->List (Nat×Nat)->Nat->Nat
 |acc,[],_=>acc
 |acc,x::r,p=>if x.1<p then eI (x.2+1) r p else acc
def mR(g:Nat):List (Nat×Nat)->Nat->Nat
 |[],_=>g
 |x::r,p=>if p<=x.1 then x.2 else mR g r p
theorem GV:∀{acc:Nat}{ks:List (Nat×Nat)}{g p:Nat},acc<=g->(∀x∈ks,x.2<g)->eI acc ks p<=g
 |_,[],_,_,h,_=>h
 |acc,x::r,g,p,h,hg=>by
  simp only[eI]
  split
  ·exact GV (hg x zap) fun y hy=>hg y (zao _ hy)
  ·exact h
theorem GW:∀{ks:List (Nat×Nat)}{g p:Nat},(∀x∈ks,x.2<g)->mR g ks p<=g
 |[],_,_,_=>zqR _
 |x::r,g,p,h=>by
  simp only[mR]
  split
  ·have:=h x zap;lia
  ·exact GW fun y hy=>h y (zao _ hy)
def gO(o n:Nat):Nat->List (Nat×Nat)
 | 0=>[]
 |k+1=>(o,n)::gO (o+1) (n+1) k
def cL:List (Nat×Nat×Nat)->List (Nat×Nat)
 |[]=>[]
 |x::r=>gO x.1 x.2.1 x.2.2++cL r
def eJ:Nat->Nat->List (Nat×Nat×Nat)->Prop
 |_,_,[]=>True
 |a,b,x::r=>a<=x.1/\b<=x.2.1/\1<=x.2.2/\eJ (x.1+x.2.2) (x.2.1+x.2.2) r
theorem GX:∀(k o n:Nat) {r:List (Nat×Nat)},i4 (o+k) (n+k) r->i4 o n (gO o n k++r)
 | 0,o,n,r,h=>h
 |k+1,o,n,r,h=>⟨zqR _,zqR _,GX k (o+1) (n+1) (by rw[zbN o 1 k,zbN n 1 k];exact h)⟩
theorem vB:∀{rs:List (Nat×Nat×Nat)}{a b:Nat},eJ a b rs->i4 a b (cL rs)
 |[],_,_,_=>trivial
 |x::r,a,b,h=>(GX x.2.2 x.1 x.2.1<|vB h.2.2.2).low h.1 h.2.1
theorem GY:∀{acc p:Nat}{ks:List (Nat×Nat)}{a b:Nat},i4 a b ks->p<=a->eI acc ks p=acc
 |_,_,[],_,_,_,_=>rfl
 |acc,p,x::r,a,b,h,hp=>by
  simp only[eI]
  rw[if_neg (by have:=h.1;lia)]
theorem GZ:∀(k o n acc p:Nat) (r:List (Nat×Nat)) {b:Nat},i4 (o+k) b r->o<p->p<=o+k->eI acc (gO o n k++r) p=n+(p - o)
 | 0,o,n,acc,p,r,_,_,h1,h2=>by lia
 |k+1,o,n,acc,p,r,b,h,h1,h2=>by
  show(if o<p then eI (n+1) (gO (o+1) (n+1) k++r) p else acc)=_
  rw[if_pos h1];have h':i4 (o+1+k) b r:=by rw[zbN o 1 k];exact h
  by_cases q:o+1<p
  ·rw[GZ k (o+1) (n+1) (n+1) p r h' q (by lia)];lia
  ·obtain rfl:p=o+1:=by lia
   cases k with
   |zero=>
    show eI (n+1) r (o+1)=_;rw[GY h<|zqR _];lia
   |succ k=>
    show(if o+1<o+1 then _ else n+1)=_
    rw[if_neg (by lia)];lia
theorem G0:∀(k o n acc p:Nat) (r:List (Nat×Nat)),o+(k+1) <p->eI acc (gO o n (k+1)++r) p=eI (n+(k+1)) r p
 | 0,o,n,acc,p,r,h=>by
  show(if o<p then eI (n+1) r p else acc)=_
  rw[if_pos (by lia)]
 |k+1,o,n,acc,p,r,h=>by
  show(if o<p then eI (n+1) (gO (o+1) (n+1) (k+1)++r) p else acc)=_
  rw[if_pos (by lia),G0 k (o+1) (n+1) (n+1) p r (by lia),show n+1+(k+1)=n+(k+1+1) by lia]
theorem G1:∀(k o n g p:Nat) (r:List (Nat×Nat)),mR g (gO o n (k+1)++r) p=if p<o+(k+1) then (if p<o then n else n+(p - o)) else mR g r p
 | 0,o,n,g,p,r=>by
  show(if p<=o then n else mR g r p)=_
  by_cases h:p<=o
  ·rw[if_pos h,if_pos (by lia)]
   split<;>lia
  ·rw[if_neg h,if_neg (by lia)]
 |k+1,o,n,g,p,r=>by
  show(if p<=o then n else mR g (gO (o+1) (n+1) (k+1)++r) p)=_
  rw[G1 k (o+1) (n+1) g p r];by_cases h:p<=o
  ·rw[if_pos h,if_pos (by lia)]
   split<;>lia
  ·rw[if_neg h];by_cases h2:p<o+(k+1+1)
   ·rw[if_pos (by lia),if_pos h2,if_neg (by lia),if_neg (by lia)];lia
   ·rw[if_neg (by lia),if_neg h2]
def bF(q:Nat->Bool)(rs:List (Nat×Nat×Nat)):Nat:=(rs.filter fun x=>q x.1).length
def km(acc:Nat)(rs:List (Nat×Nat×Nat))(p:Nat):Nat:=match bF (fun o=>decide<|o<p) rs with
 | 0=>acc
 |c+1=>match rs[c]? with
  |some x=>x.2.1+min x.2.2 (p - x.1)
  |none=>acc
theorem zE(q:Nat->Bool)(x:Nat×Nat×Nat)(r:List (Nat×Nat×Nat)):bF q (x::r)=(if q x.1 then 1 else 0)+bF q r:=by
 unfold bF;by_cases h:q x.1=true
 ·rw[zaQ (by exact h),if_pos h,zax];lia
 ·rw[zaK (by exact h),if_neg h];lia
theorem rW{q:Nat->Bool}:∀{rs:List (Nat×Nat×Nat)}{a b:Nat},eJ a b rs->(∀o,a<=o->q o=false)->bF q rs=0
 |[],_,_,_,_=>rfl
 |x::r,a,b,h,hq=>by
  rw[zE,hq x.1 h.1,rW h.2.2.2 fun o ho=>hq o (by have:=h.1;lia)]
  rfl
theorem zF(q:Nat->Bool)(rs:List (Nat×Nat×Nat)):bF q rs<=rs.length:=zaC _ _
theorem G3:∀{rs:List (Nat×Nat×Nat)}{acc a p:Nat},eJ a acc rs->km acc rs p=eI acc (cL rs) p
 |[],_,_,_,_=>rfl
 |x::r,acc,a,p,h=>by
  obtain⟨o,n,k⟩:=x;have h4:eJ (o+k) (n+k) r:=h.2.2.2;have hk:1<=k:=h.2.2.1;show km acc ((o,n,k)::r) p=eI acc (gO o n k++cL r) p;by_cases h1:o<p
  ·have e1:bF (fun o=>decide<|o<p) ((o,n,k)::r)=bF (fun o=>decide<|o<p) r+1:=by
    rw[zE,if_pos (by simpa using h1)];lia
   by_cases h2:p<=o+k
   ·have e2:bF (fun o=>decide<|o<p) r=0:=rW h4 fun o' ho=>by simp;lia
    rw[GZ k o n acc p (cL r) (vB h4) h1 h2];unfold km;rw[e1,e2];show n+min k (p - o)=_;lia
   ·obtain⟨k',rfl⟩:∃k',k=k'+1:=⟨k - 1,by lia⟩
    rw[G0 k' o n acc p (cL r) (by lia),<-G3 (acc:=n+(k'+1)) h4]
    unfold km;rw[e1];show(match ((o,n,k'+1)::r)[bF (fun o=>decide<|o<p) r]? with|some x=>x.2.1+min x.2.2 (p - x.1)|none=>acc)=_
    cases e3:bF (fun o=>decide<|o<p) r with
    |zero=>
     show n+min (k'+1) (p - o)=n+(k'+1);lia
    |succ c=>
     have hc:=zF (fun o=>decide<|o<p) r;have g:r[c]?=some (r[c]'(by lia)):=zaE _
     rw[List.getElem?_cons_succ];show(match r[c]? with|some x=>_|none=>_)=(match r[c]? with|some x=>_|none=>_)
     rw[g]
  ·have e1:bF (fun o=>decide<|o<p) ((o,n,k)::r)=0:=rW (a:=o) (b:=n) ⟨zqR _,zqR _,hk,h4⟩ fun o' ho=>by simp;lia
   have i:=vB (rs:=(o,n,k)::r) h;unfold km;rw[e1];show acc=eI acc (cL ((o,n,k)::r)) p;have i2:i4 o n (cL ((o,n,k)::r)):=vB (rs:=(o,n,k)::r) ⟨zqR _,zqR _,hk,h4⟩;rw[GY i2 (by lia)]
def i5(g:Nat)(rs:List (Nat×Nat×Nat))(c:Nat):Nat:=match rs[c]? with
 |some x=>x.2.1
 |none=>g
def ko(g:Nat)(rs:List (Nat×Nat×Nat))(p:Nat):Nat:=match bF (fun o=>decide<|o<=p) rs with
 | 0=>i5 g rs 0
 |c+1=>match rs[c]? with
  |some x=>if p<x.1+x.2.2 then x.2.1+(p - x.1) else i5 g rs (c+1)
  |none=>g
theorem G4:∀{rs:List (Nat×Nat×Nat)}{g a b p:Nat},eJ a b rs->ko g rs p=mR g (cL rs) p
 |[],_,_,_,_,_=>rfl
 |x::r,g,a,b,p,h=>by
  obtain⟨o,n,k⟩:=x;have h4:eJ (o+k) (n+k) r:=h.2.2.2;have hk:1<=k:=h.2.2.1;obtain⟨k',rfl⟩:∃k',k=k'+1:=⟨k - 1,by lia⟩
  show ko g ((o,n,k'+1)::r) p=mR g (gO o n (k'+1)++cL r) p;rw[G1];by_cases h1:o<=p
  ·have e1:bF (fun o=>decide<|o<=p) ((o,n,k'+1)::r)=bF (fun o=>decide<|o<=p) r+1:=by
    rw[zE,if_pos (by simpa using h1)];lia
   by_cases h2:p<o+(k'+1)
   ·have e2:bF (fun o=>decide<|o<=p) r=0:=rW h4 fun o' ho=>by simp;lia
    rw[if_pos h2,if_neg (by lia)]
    unfold ko;rw[e1,e2];show(if p<o+(k'+1) then n+(p - o) else _)=_
    rw[if_pos h2]
   ·rw[if_neg h2,<-G4 (g:=g) h4];unfold ko;rw[e1];show(match ((o,n,k'+1)::r)[bF (fun o=>decide<|o<=p) r]? with|some x=>if p<x.1+x.2.2 then x.2.1+(p - x.1) else i5 g ((o,n,k'+1)::r) (bF (fun o=>decide<|o<=p) r+1)|none=>g)=_
    cases e3:bF (fun o=>decide<|o<=p) r with
    |zero=>
     show(if p<o+(k'+1) then _ else i5 g ((o,n,k'+1)::r) 1)=i5 g r 0
     rw[if_neg h2];rfl
    |succ c=>rfl
  ·have e1:bF (fun o=>decide<|o<=p) ((o,n,k'+1)::r)=0:=rW (a:=o) (b:=n) ⟨zqR _,zqR _,hk,h4⟩ fun o' ho=>by simp;lia
   rw[if_pos (by lia),if_pos (by lia)]
   unfold ko;rw[e1]
   rfl
def dv(xs:List Int)(most:Int):Nat:=(xs.filter fun x=>decide (x<=most)).length
def vC(xs:List Int):Prop:=xs.Pairwise (· <= ·)
theorem G5(xs:List Int)(most:Int):dv xs most<=xs.length:=zaC _ _
theorem G6(a b:List Int)(most:Int):dv (a++b) most=dv a most+dv b most:=by simp[dv]
theorem U4{xs:List Int}{most:Int}(h:∀x∈xs,x<=most):dv xs most=xs.length:=by
 unfold dv;rw[List.filter_eq_self.mpr fun x hx=>by simpa using h x hx]
theorem U5{xs:List Int}{most:Int}(h:∀x∈xs,most<x):dv xs most=0:=by
 unfold dv;rw[zaO,List.filter_eq_nil_iff];intro x hx;have:=h x hx
 simp;lia
theorem U6{xs:List Int}{most x:Int}{m:Nat}(h:vC xs)(g:xs[m]?=some x)(hx:x<=most):m+1<=dv xs most:=by
 have hm:=(zal.mp g).1;have e:xs=xs.take (m+1)++xs.drop (m+1):=(zbq _ _).symm;have a:∀y∈xs.take (m+1),y<=most:=by
  intro y hy;obtain⟨j,hj,rfl⟩:=zbz hy;rw[zas] at hj;rw[List.getElem_take];have e2:xs[m]=x:=(zal.mp g).2;by_cases q:j=m
  ·subst q;lia
  ·have:=zbL.mp h j m (by lia) hm (by lia)
   lia
 have:dv xs most=dv (xs.take<|m+1) most+dv (xs.drop<|m+1) most:=by rw[<-G6,<-e]
 rw[this,U4 a,zas];lia
theorem G7{xs:List Int}{most x:Int}{m:Nat}(h:vC xs)(g:xs[m]?=some x)(hx:¬x<=most):dv xs most<=m:=by
 have hm:=(zal.mp g).1;have e:xs=xs.take m++xs.drop m:=(zbq _ _).symm;have a:∀y∈xs.drop m,most<y:=by
  intro y hy;obtain⟨j,hj,rfl⟩:=zbz hy;rw[zaS] at hj;rw[List.getElem_drop];have e2:xs[m]=x:=(zal.mp g).2;by_cases q:j=0
  ·subst q;simp;lia
  ·have:=zbL.mp h m (m+j) hm (by lia) (by lia)
   lia
 have:dv xs most=dv (xs.take m) most+dv (xs.drop m) most:=by rw[<-G6,<-e]
 have l:=G5 (xs.take m) most;rw[this,U5 a];rw[zas] at l;lia
end L2.B
variable {ov:Int}{ps:List L2.B.Pt}{vs:List L2.V}{ea:PySem.Addr}
namespace L2.B
open PySem PySem.Spec PyProof.Rows
def bx:List Pt->Nat->Nat->List (Nat×Nat×Nat)
 |[],_,_=>[]
 |.keep k::r,o,n=>(o,n,k.toNat)::bx r (o+k.toNat) (n+k.toNat)
 |.put s::r,o,n=>bx r o (n+s.length)
 |.cut s::r,o,n=>bx r (o+s.length) n
def bt:List Pt->Nat
 |[]=>0
 |.keep k::r=>k.toNat+bt r
 |.put _::r=>bt r
 |.cut s::r=>s.length+bt r
def bh:List Pt->Nat
 |[]=>0
 |.keep k::r=>k.toNat+bh r
 |.put s::r=>s.length+bh r
 |.cut _::r=>bh r
theorem eJ.low{rs:List (Nat×Nat×Nat)}{a b a' b':Nat}(i:eJ a b rs)(h1:a'<=a)(h2:b'<=b):eJ a' b' rs:=by
 cases rs with
 |nil=>trivial
 |cons x r=>exact⟨zaw h1 i.1,zaw h2 i.2.1,i.2.2⟩
theorem rX:∀(ps:List Pt) (o n:Nat),(∀p∈ps,il p)->eJ o n (bx ps o n)
 |[],_,_,_=>trivial
 |.keep k::r,o,n,h=>⟨zqR _,zqR _,by have:(1:Int)<=k:=h _ zap;show 1<=k.toNat;lia,rX r _ _ fun p hp=>h p (zao _ hp)⟩
 |.put s::r,o,n,h=>(rX r o (n+s.length) fun p hp=>h p (zao _ hp)).low (zqR _) (Nat.le_add_right _ _)
 |.cut s::r,o,n,h=>(rX r (o+s.length) n fun p hp=>h p (zao _ hp)).low (Nat.le_add_right _ _) (zqR _)
theorem vD:∀(a b:List Pt) (o n:Nat),bx (a++b) o n=bx a o n++bx b (o+bt a) (n+bh a)
 |[],b,o,n=>by simp[bx,bt,bh]
 |.keep k::r,b,o,n=>by
  have ih:=vD r b (o+k.toNat) (n+k.toNat)
  simp only[List.cons_append,bx,bt,bh,ih,Nat.add_assoc]
 |.put s::r,b,o,n=>by
  have ih:=vD r b o (n+s.length)
  simp only[List.cons_append,bx,bt,bh,ih,Nat.add_assoc]
 |.cut s::r,b,o,n=>by
  have ih:=vD r b (o+s.length) n
  simp only[List.cons_append,bx,bt,bh,ih,Nat.add_assoc]
theorem U7(a b:List Pt):bt (a++b)=bt a+bt b:=by
 induction a with
 |nil=>simp[bt]
 |cons p r ih=>cases p<;>simp[bt,ih] <;>lia
theorem U8(a b:List Pt):bh (a++b)=bh a+bh b:=by
 induction a with
 |nil=>simp[bh]
 |cons p r ih=>cases p<;>simp[bh,ih] <;>lia
theorem pq:∀(ps:List Pt) (o n:Nat),(bx ps o n).length<=ps.length
 |[],_,_=>zqR _
 |.keep k::r,o,n=>by simp only[bx,zax];have:=pq r (o+k.toNat) (n+k.toNat);lia
 |.put s::r,o,n=>by simp only[bx,zax];have:=pq r o (n+s.length);lia
 |.cut s::r,o,n=>by simp only[bx,zax];have:=pq r (o+s.length) n;lia
def t3(lo ln ll:Addr):List (Str×V):=[("olds",.ref lo),("news",.ref ln),("lengths",.ref ll)]
def t5(lo ln ll:Addr)(ov gv:Int):List (Str×V):=[("olds",.ref lo),("news",.ref ln),("lengths",.ref ll),("over",.int ov),("gives",.int gv)]
theorem U9:bq "lengths" (.ref ll) (bq "news" (.ref ln)<|bq "olds" (.ref lo) [])=t3 lo ln ll:=by
 have e1:bq "olds" (V.ref lo) []=[(("olds":Str),V.ref lo)]:=rfl;have e2:bq "news" (V.ref ln) []=[(("news":Str),V.ref ln)]:=rfl;unfold t3;rw[e1,gu (by decide+kernel),e2,gu (by decide+kernel),gu (by decide+kernel)]
 rfl
theorem U_{gv:Int}:bq "gives" (.int gv) (bq "over" (.int ov)<|t3 lo ln ll)=t5 lo ln ll ov gv:=by
 have e1:bq "over" (V.int ov) []=[(("over":Str),V.int ov)]:=rfl;unfold t3 t5;rw[gu (by decide+kernel),gu (by decide+kernel),gu (by decide+kernel),gu (by decide+kernel),gu (by decide+kernel),e1,gu (by decide+kernel),gu (by decide+kernel)]
 rfl
theorem Va:(t3 lo ln ll).lookup ("olds":Str)=some (V.ref lo):=i0
theorem Vb:(t3 lo ln ll).lookup ("news":Str)=some (V.ref ln):=(da (by decide+kernel)).trans i0
theorem Vc:(t3 lo ln ll).lookup ("lengths":Str)=some (V.ref ll):=(da (by decide+kernel)).trans ((da (by decide+kernel)).trans i0)
theorem rY{gv:Int}:(t5 lo ln ll ov gv).lookup ("olds":Str)=some (V.ref lo):=i0
theorem vE{gv:Int}:(t5 lo ln ll ov gv).lookup ("news":Str)=some (V.ref ln):=(da (by decide+kernel)).trans i0
theorem G8{gv:Int}:(t5 lo ln ll ov gv).lookup ("lengths":Str)=some (V.ref ll):=(da (by decide+kernel)).trans ((da (by decide+kernel)).trans i0)
theorem G9{gv:Int}:(t5 lo ln ll ov gv).lookup ("over":Str)=some (V.int ov):=(da (by decide+kernel)).trans ((da (by decide+kernel)).trans<|(da (by decide+kernel)).trans i0)
theorem G_{gv:Int}:(t5 lo ln ll ov gv).lookup ("gives":Str)=some (V.int gv):=(da (by decide+kernel)).trans ((da (by decide+kernel)).trans<|(da (by decide+kernel)).trans<|(da (by decide+kernel)).trans i0)
theorem vF{gv:Int}{m:Str}(h1:¬m="olds")(h2:¬m="news")(h3:¬m="lengths")(h4:¬m="over")(h5:¬m="gives"):(t5 lo ln ll ov gv).lookup m=none:=
 (da h1).trans ((da h2).trans<|(da h3).trans<|(da h4).trans<|(da h5).trans rfl)
abbrev oI(rs:List (Nat×Nat×Nat)):List V:=(rs.map fun x=>((x.1:Nat):Int)).map V.int
abbrev nI(rs:List (Nat×Nat×Nat)):List V:=(rs.map fun x=>((x.2.1:Nat):Int)).map V.int
abbrev kI(rs:List (Nat×Nat×Nat)):List V:=(rs.map fun x=>((x.2.2:Nat):Int)).map V.int
structure nG (C:Addr) (H:Hp) (p dx lo ln ll:Addr) (rs:List (Nat×Nat×Nat)) (ov gv:Nat):Prop where
 ob:H p=some (.ins C dx<|t5 lo ln ll ov gv)
 ol:H lo=some (.lst<|oI rs)
 nw:H ln=some (.lst<|nI rs)
 le:H ll=some (.lst<|kI rs)
abbrev Vd:List (Str×Sp):=[("need_change",Gd)]
def rZ(C:Addr):Sp:=fun vs H Q E=>∃(p dx a:Addr) (xs:List V) (ps:List Pt),vs=[.ref p,.ref a]/\H p=some (.ins C dx [])/\H a=some (.lst xs)/\bO H xs ps/\(∀q∈ps,il q)/\chainOk "" ps=true/\ps.length<=1000/\
 ∀(lo ln ll:Addr) (H':Hp),nG C H' p dx lo ln ll (bx ps 0 0) (bt ps) (bh ps)->(∀b o,H b=some o->b≠p->H' b=some o)->Q .aD H'
theorem Ve{K:Frag}(T:lN K C)(vs:List V)(H:Hp)(Q:VK)(E:XK)(h:rZ C vs H Q E):aC (aJ K Vd [] (E:=E)) EJ {nx:=fun _ H'=>Q .aD H',rt:=Q} (start EI vs) H:=by
 obtain⟨p,dx,a,xs,ps,rfl,hp,ha,dP,aA,eB,hl,k⟩:=h;have lx:=Paired.length dP;refine⟨_,rfl,a,xs,ps,rfl,ha,dP,aA,eB,fun H1 s1=>?_⟩;have r6:=s1 _ _ hp;refine⟨zqZ _,fun lo f1=>?_⟩;have jE:p≠lo:=aS r6 f1;refine⟨_,rfl,p,C,dx,[],rfl,(by rw[av jE];exact r6),T.cl,T.nv,(by show 0<1000;decide),?_⟩
 refine⟨zqZ _,fun ln f2=>?_⟩;have lT:p≠ln:=fun z=>by rw[<-z,az] at f2;cases f2
 have r9:lo≠ln:=fun z=>by rw[<-z,av jE.symm,az] at f2;cases f2
 refine⟨_,rfl,p,C,dx,_,rfl,(by rw[av lT,az]),T.cl,T.o_,(by show 1<1000;decide),?_⟩
 refine⟨zqZ _,fun ll f3=>?_⟩;have nH:p≠ll:=fun z=>by rw[<-z,az] at f3;cases f3
 have vG:ln≠ll:=fun z=>by rw[<-z,av lT.symm,az] at f3;cases f3
 have vH:lo≠ll:=fun z=>by rw[<-z,av jE.symm,av r9,av jE.symm,az] at f3;cases f3
 refine⟨_,rfl,p,C,dx,_,rfl,(by rw[av nH,az]),T.cl,T.vg,(by show 2<1000;decide),?_⟩
 have fb:H1 ln=none:=by
  rw[av lT.symm,av r9.symm] at f2;exact f2
 have ff:H1 ll=none:=by
  rw[av nH.symm,av vG.symm,av nH.symm,av vH.symm] at f3;exact f3
 generalize r_:upd (upd (upd (upd (upd (upd H1 lo<|.lst []) p<|.ins C dx<|bq "olds" (.ref lo) []) ln<|.lst []) p<|.ins C dx<|bq "news" (.ref ln)<|bq "olds" (.ref lo) []) ll<|.lst []) p (.ins C dx<|bq "lengths" (.ref ll)<|bq "news" (.ref ln)<|bq "olds" (.ref lo) [])=H2;have Vf:H2 p=some (.ins C dx<|t3 lo ln ll):=by
  rw[<-r_,az];exact congrArg (fun l=>some<|HO.ins C dx l) U9
 have Vg:H2 lo=some (.lst []):=by rw[<-r_,av jE.symm,av vH,av jE.symm,av r9,av jE.symm,az]
 have Vh:H2 ln=some (.lst []):=by rw[<-r_,av lT.symm,av vG,av lT.symm,az]
 have Vi:H2 ll=some (.lst []):=by rw[<-r_,av nH.symm,az]
 have b2:∀b o,H1 b=some o->b≠p->H2 b=some o:=fun b o e bF=>by
  rw[<-r_,av bF,av<|aS e ff,av bF,av<|aS e fb,av bF,av<|aS e f1];exact e
 have Ha:p≠a:=iz hp ha (by intro z;cases z)
 have fZ:=s1 _ _ ha;have nJ:=b2 _ _ fZ Ha.symm;have fr:∀{H3:Hp},(∀b o,H2 b=some o->b≠p->b≠lo->b≠ln->b≠ll->H3 b=some o)->∀b o,H1 b=some o->b≠p->H3 b=some o:=fun {H3} h b o e bF=>h b o (b2 b o e bF) bF (aS e f1) (aS e fb) (aS e ff);have Vj:∀{H3:Hp},(∀b o,H1 b=some o->b≠p->H3 b=some o)->ij H H3:=fun {H3} h b zs e=>h b _ (s1 _ _ e) (fun z=>by rw[z,hp] at e;cases e)
 refine⟨_,rfl,a,rfl,⟨_,aw.of nJ⟩,iD (K:=K) (a:=a) (xs:=xs) (fun i σ H3=>∃(u u':Option V),σ=[some (.ref p),some (.ref a),some (.int ((bt (ps.take i):Nat):Int)),some (.int ((bh (ps.take i):Nat):Int)),u,u']/\(∀b o,H2 b=some o->b≠p->b≠lo->b≠ln->b≠ll->H3 b=some o)/\
   H3 p=some (.ins C dx (t3 lo ln ll))/\H3 lo=some (.lst (oI (bx (ps.take i) 0 0)))/\H3 ln=some (.lst (nI (bx (ps.take i) 0 0)))/\H3 ll=some (.lst (kI (bx (ps.take i) 0 0))))
  ⟨none,none,rfl,fun b o e _ _ _ _=>e,Vf,Vg,Vh,Vi⟩ (fun i σ H3 _ ⟨_,_,_,b3,_⟩=>aw.of (fr b3 _ _ fZ Ha.symm)) ?_ ?_⟩
 ·rintro i y σ H3 hi ⟨u,u',rfl,b3,f6,nK,pA,pB⟩;obtain⟨pt,iW,rQ⟩:=dP.get hi;obtain⟨c,rfl,Vk⟩:=rQ.mono (Vj<|fr b3);have oJ:=aA pt (zat iW);have dE:i<ps.length:=(zal.mp iW).1;have et:ps.take (i+1)=ps.take i++[pt]:=by rw[zbf,iW];rfl
  have er:bx (ps.take<|i+1) 0 0=bx (ps.take i) 0 0++bx [pt] (bt<|ps.take i) (bh<|ps.take i):=by
   rw[et,vD,zbp,zbp]
  have eo:bt (ps.take<|i+1)=bt (ps.take i)+bt [pt]:=by rw[et,U7]
  have eg:bh (ps.take<|i+1)=bh (ps.take i)+bh [pt]:=by rw[et,U8]
  have rl:=pq (ps.take i) 0 0;rw[zas] at rl;refine⟨c,_,rfl,.inl<|aO.of Vk,rfl,_,_,rfl,_,_,rfl,rfl,?_⟩;cases pt with
  |put s=>
   refine⟨_,rfl,_,rfl,_,rfl,_,rfl,cq oJ.1.1,?_⟩;refine⟨some<|.str "put",some<|.str s,?_,b3,f6,?_,?_,?_⟩
   ·rw[eo,eg];show[_,_,_,some<|V.int<|(bh (ps.take i):Int)+(s.length:Int),_,_]=_;rw[show bt [Pt.put s]=0 from rfl,show bh [Pt.put s]=s.length from rfl,Nat.add_zero,zaW]
    rfl
   ·rw[er,show bx [Pt.put s] (bt<|ps.take i) (bh<|ps.take i)=[] from rfl,zag];exact nK
   ·rw[er,show bx [Pt.put s] (bt<|ps.take i) (bh<|ps.take i)=[] from rfl,zag];exact pA
   ·rw[er,show bx [Pt.put s] (bt<|ps.take i) (bh<|ps.take i)=[] from rfl,zag];exact pB
  |cut s=>
   refine⟨_,rfl,_,rfl,_,rfl,_,rfl,_,rfl,_,rfl,cq oJ.1.1,?_⟩;refine⟨some<|.str "cut",some<|.str s,?_,b3,f6,?_,?_,?_⟩
   ·rw[eo,eg];show[_,_,some<|V.int<|(bt (ps.take i):Int)+(s.length:Int),_,_,_]=_;rw[show bt [Pt.cut s]=s.length from rfl,show bh [Pt.cut s]=0 from rfl,Nat.add_zero,zaW]
    rfl
   ·rw[er,show bx [Pt.cut s] (bt<|ps.take i) (bh<|ps.take i)=[] from rfl,zag];exact nK
   ·rw[er,show bx [Pt.cut s] (bt<|ps.take i) (bh<|ps.take i)=[] from rfl,zag];exact pA
   ·rw[er,show bx [Pt.cut s] (bt<|ps.take i) (bh<|ps.take i)=[] from rfl,zag];exact pB
  |keep n=>
   have hn:(1:Int)<=n:=oJ;obtain⟨m,rfl⟩:=zaL (show(0:Int)<=n by lia)
   refine⟨_,rfl,_,rfl,_,rfl,_,rfl,?_⟩;refine⟨_,rfl,p,C,dx,_,_,rfl,f6,T.cl,T.nv,Va,.inl ⟨rfl,_,aw.of nK⟩,_,rfl,_,nK,dr (by simp;lia),?_⟩
   have Hb:upd H3 lo (.lst<|oI (bx (ps.take i) 0 0)++[V.int (bt (ps.take i):Int)]) p=some (.ins C dx<|t3 lo ln ll):=by rw[av jE];exact f6
   have Hc:upd H3 lo (.lst<|oI (bx (ps.take i) 0 0)++[V.int (bt (ps.take i):Int)]) ln=some (.lst<|nI<|bx (ps.take i) 0 0):=by rw[av r9.symm];exact pA
   refine⟨_,rfl,p,C,dx,_,_,rfl,Hb,T.cl,T.o_,Vb,.inl ⟨rfl,_,aw.of Hc⟩,_,rfl,_,Hc,dr (by simp;lia),?_⟩
   have He:upd (upd H3 lo<|.lst<|oI (bx (ps.take i) 0 0)++[V.int (bt (ps.take i):Int)]) ln (.lst<|nI (bx (ps.take i) 0 0)++[V.int (bh (ps.take i):Int)]) p=some (.ins C dx<|t3 lo ln ll):=by rw[av lT];exact Hb
   have Hf:upd (upd H3 lo<|.lst<|oI (bx (ps.take i) 0 0)++[V.int (bt (ps.take i):Int)]) ln (.lst<|nI (bx (ps.take i) 0 0)++[V.int (bh (ps.take i):Int)]) ll=some (.lst<|kI<|bx (ps.take i) 0 0):=by rw[av vG.symm,av vH.symm];exact pB
   refine⟨_,rfl,p,C,dx,_,_,rfl,He,T.cl,T.vg,Vc,.inl ⟨rfl,_,aw.of Hf⟩,_,rfl,_,Hf,dr (by simp;lia),?_⟩
   refine⟨_,rfl,_,rfl,?_⟩;refine⟨_,rfl,_,rfl,?_⟩;have ek:bx [Pt.keep (m:Int)] (bt<|ps.take i) (bh<|ps.take i)=[(bt<|ps.take i,bh<|ps.take i,m)]:=rfl;refine⟨some<|.str "keep",some<|.int m,?_,fun b o e n1 n2 n3 n4=>?_,?_,?_,?_,?_⟩
   ·rw[eo,eg];show[_,_,some<|V.int<|(bt (ps.take i):Int)+(m:Int),some<|V.int<|(bh (ps.take i):Int)+(m:Int),_,_]=_;rw[show bt [Pt.keep (m:Int)]=m from rfl,show bh [Pt.keep (m:Int)]=m from rfl,zaW,zaW]
    rfl
   ·rw[av n4,av n3,av n2];exact b3 b o e n1 n2 n3 n4
   ·rw[av nH];exact He
   ·rw[av vH,av r9,az,er,ek];simp[oI]
   ·rw[av vG,az,er,ek];simp[nI]
   ·rw[az,er,ek];simp[kI];rfl
 ·rintro σ H3 ⟨u,u',rfl,b3,f6,nK,pA,pB⟩;rw[lx,zaJ] at nK pA pB⊢;refine⟨_,rfl,_,rfl,p,C,dx,_,rfl,f6,T.cl,T.y8,(by show 3<1000;decide),?_⟩
  refine⟨_,rfl,_,rfl,p,C,dx,_,rfl,az,T.cl,T.y9,(by show 4<1000;decide),?_⟩
  refine k lo ln ll _ ⟨?_,?_,?_,?_⟩ fun b o e bF=>?_
  ·rw[az];exact congrArg (fun l=>some<|HO.ins C dx l) U_
  ·rw[av jE.symm,av jE.symm];exact nK
  ·rw[av lT.symm,av lT.symm];exact pA
  ·rw[av nH.symm,av nH.symm];exact pB
  ·rw[av bF,av bF];exact fr b3 b o (s1 _ _ e) bF
theorem cU{K:Frag}{sd:Addr->List (Key×V)->Prop}{a:Addr}{i:Int}(h:H a=some (.lst xs))(e:eZ xs i=some v)(q:Q v H):lj K sd (.ref a) (.int i) H Q:=
 .inl ⟨_,_,_,_,rfl,rfl,aw.of h,e,q⟩
def Hg:Sp:=fun vs H Q E=>∃(a:Addr) (xs:List Int) (most:Int),vs=[.ref a,.int most]/\H a=some (.lst<|xs.map V.int)/\vC xs/\Q (.int<|dv xs most) H
theorem Vl{K:Frag}(vs:List V)(H:Hp)(Q:VK)(E:XK)(h:Hg vs H Q E):aC (aJ K [] [] (E:=E)) EF {nx:=fun _ H'=>Q .aD H',rt:=Q} (start EE vs) H:=by
 obtain⟨a,xs,most,rfl,ha,hr,q⟩:=h;have hc:=G5 xs most;refine⟨_,rfl,.inl ⟨_,aw.of ha,?_⟩⟩;rw[zaa];refine⟨fun m σ H'=>∃(lo hi:Nat) (w:Option V),m=hi - lo/\σ=[some (.ref a),some (.int most),some (.int lo),some (.int hi),w]/\lo<=dv xs most/\dv xs most<=hi/\hi<=xs.length/\H'=H,
  ⟨_,0,xs.length,none,rfl,rfl,zqZ _,hc,zqR _,rfl⟩,?_⟩
 rintro m σ H' ⟨lo,hi,w,rfl,rfl,h1,h2,h3,rfl⟩;refine⟨_,rfl,_,rfl,trivial,_,rfl,?_⟩;refine cw (fun h=>?_)<|fun h=>?_
 ·have aI:(lo:Int) < (hi:Int):=of_decide_eq_true h;refine⟨_,fun σ' ZS q=>q,?_⟩;refine⟨_,rfl,_,rfl,⟨by decide,by decide⟩,?_⟩
  have hk:(lo+hi) / 2<xs.length:=by lia
  generalize ZT:(lo+hi) / 2=k at hk;have hm:((lo:Int)+(hi:Int)) / 2=(k:Int):=by lia
  show aC _ _ _ [some<|V.ref a,some<|V.int most,some<|V.int lo,some<|V.int hi,some<|V.int<|((lo:Int)+(hi:Int)) / 2] _;rw[hm];have gk:xs[k]?=some xs[k]:=zaE hk;have ik:eZ (xs.map V.int) (k:Int)=some (.int xs[k]):=iE (by rw[zah,gk];rfl)
  refine⟨_,rfl,_,rfl,cU ha ik ⟨_,rfl,trivial,_,rfl,?_⟩⟩;refine cw (fun g=>?_)<|fun g=>?_
  ·have hle:xs[k]<=most:=of_decide_eq_true g;exact⟨_,rfl,hi - (k+1),by lia,k+1,hi,some<|V.int k,rfl,rfl,U6 hr gk hle,h2,h3,rfl⟩
  ·have hle:¬xs[k]<=most:=fun z=>g (zqT z);exact⟨_,rfl,k - lo,by lia,lo,k,some<|V.int k,rfl,rfl,h1,G7 hr gk hle,by lia,rfl⟩
 ·have hle:¬(lo:Int) < (hi:Int):=fun z=>h (zqT z);have e:dv xs most=lo:=by lia
  rw[e] at q;exact⟨_,rfl,q⟩
theorem zG(rs:List (Nat×Nat×Nat))(most:Int)(q:Nat->Bool)(h:∀o:Nat,decide ((o:Int)<=most)=q o):dv (rs.map fun x=>((x.1:Nat):Int)) most=bF q rs:=by
 unfold dv bF;rw[List.filter_map,zaa]
 congr 1
 exact List.filter_congr fun x _=>h x.1
theorem Hh:∀{rs:List (Nat×Nat×Nat)}{a b:Nat},eJ a b rs->∀y∈rs.map (fun x=>((x.1:Nat):Int)),(a:Int)<=y
 |[],_,_,_,y,hy=>by cases hy
 |x::r,a,b,h,y,hy=>by
  rcases zae.mp hy with rfl|z
  ·have:=h.1;show(a:Int)<= (x.1:Int);lia
  ·have:=Hh h.2.2.2 y z;have:=h.1;lia
theorem vI:∀{rs:List (Nat×Nat×Nat)}{a b:Nat},eJ a b rs->vC (rs.map fun x=>((x.1:Nat):Int))
 |[],_,_,_=>List.Pairwise.nil
 |x::r,a,b,h=>List.Pairwise.cons (fun y hy=>by have:=Hh h.2.2.2 y hy;show(x.1:Int)<=y;lia) (vI h.2.2.2)
theorem Hi{rs:List (Nat×Nat×Nat)}{most:Int}{q:Nat->Bool}{c:Nat}{x:Nat×Nat×Nat}(hi:eJ 0 0 rs)(hq:∀o:Nat,decide ((o:Int)<=most)=q o)(e:bF q rs=c+1)(g:rs[c]?=some x):(x.1:Int)<=most:=by
 apply Decidable.byContradiction
 intro h;have:=G7 (vI hi) (show(rs.map fun x=>((x.1:Nat):Int))[c]?=some (x.1:Int) by rw[zah,g];rfl) h
 rw[zG rs most q hq,e] at this;lia
theorem Vm{acc p:Nat}{rs:List (Nat×Nat×Nat)}(h:bF (fun o=>decide<|o<p) rs=0):km acc rs p=acc:=by unfold km;rw[h]
theorem Vn{acc p c:Nat}{rs:List (Nat×Nat×Nat)}{x:Nat×Nat×Nat}(h:bF (fun o=>decide<|o<p) rs=c+1)(g:rs[c]?=some x):km acc rs p=x.2.1+min x.2.2 (p - x.1):=by
 unfold km;rw[h];show(match rs[c]? with|some x=>x.2.1+min x.2.2 (p - x.1)|none=>acc)=_
 rw[g]
theorem Vo{g p:Nat}{rs:List (Nat×Nat×Nat)}(h:bF (fun o=>decide<|o<=p) rs=0):ko g rs p=i5 g rs 0:=by unfold ko;rw[h]
theorem Vp{g p c:Nat}{rs:List (Nat×Nat×Nat)}{x:Nat×Nat×Nat}(h:bF (fun o=>decide<|o<=p) rs=c+1)(e:rs[c]?=some x):ko g rs p=if p<x.1+x.2.2 then x.2.1+(p - x.1) else i5 g rs (c+1):=by
 unfold ko;rw[h];show(match rs[c]? with|some x=>if p<x.1+x.2.2 then x.2.1+(p - x.1) else i5 g rs (c+1)|none=>g)=_
 rw[e]
theorem zH{rs:List (Nat×Nat×Nat)}{c:Nat}{i:Int}{x:Nat×Nat×Nat}(g:rs[c]?=some x)(h:i=c):eZ (oI rs) i=some (.int (x.1:Nat)):=by
 rw[h];exact iE (by simp[oI,g])
theorem zI{rs:List (Nat×Nat×Nat)}{c:Nat}{i:Int}{x:Nat×Nat×Nat}(g:rs[c]?=some x)(h:i=c):eZ (nI rs) i=some (.int (x.2.1:Nat)):=by
 rw[h];exact iE (by simp[nI,g])
theorem Hj{rs:List (Nat×Nat×Nat)}{c:Nat}{i:Int}{x:Nat×Nat×Nat}(g:rs[c]?=some x)(h:i=c):eZ (kI rs) i=some (.int (x.2.2:Nat)):=by
 rw[h];exact iE (by simp[kI,g])
abbrev zJ:List (Str×Sp):=[("many_upto",Hg)]
def Hk(C:Addr):Sp:=fun vs H Q E=>∃(p dx lo ln ll:Addr) (rs:List (Nat×Nat×Nat)) (ov gv pl:Nat),vs=[.ref p,.int pl]/\nG C H p dx lo ln ll rs ov gv/\eJ 0 0 rs/\Q (.int (eI 0 (cL rs) pl:Nat)) H
theorem Vq{K:Frag}(T:lN K C)(vs:List V)(H:Hp)(Q:VK)(E:XK)(h:Hk C vs H Q E):aC (aJ K zJ [] (E:=E)) EK {nx:=fun _ H'=>Q .aD H',rt:=Q} (start vf vs) H:=by
 obtain⟨p,dx,lo,ln,ll,rs,ov,gv,pl,rfl,S,hi,q⟩:=h;refine⟨_,rfl,p,C,dx,_,_,rfl,S.ob,T.cl,T.nv,rY,_,rfl,trivial,lo,_,_,rfl,S.ol,vI hi,?_⟩;have hq:∀o:Nat,decide ((o:Int)<= (pl:Int) - 1)=(fun o=>decide<|o<pl) o:=fun o=>by simp only[decide_eq_decide];lia
 rw[zG rs _ _ hq];rw[<-G3 hi] at q;have hb:=zF (fun o=>decide<|o<pl) rs;cases e:bF (fun o=>decide<|o<pl) rs with
 |zero=>
  rw[Vm e] at q;exact⟨trivial,_,rfl,trivial,_,rfl,q⟩
 |succ c=>
  rw[e] at hb;have gc:rs[c]?=some (rs[c]'(by lia)):=zaE _
  generalize hx:rs[c]'(by lia)=x at gc
  have Vr:=Hi hi hq e gc;rw[Vn e gc] at q;have hc:((c+1:Nat):Int) - 1=(c:Int):=by lia
  refine⟨trivial,_,rfl,trivial,_,rfl,iF ?_ (by simp)⟩
  refine⟨_,rfl,p,C,dx,_,_,rfl,S.ob,T.cl,T.o_,vE,_,rfl,cU S.nw (zI gc hc) ?_⟩;refine⟨_,rfl,p,C,dx,_,_,rfl,S.ob,T.cl,T.vg,G8,_,rfl,cU S.le (Hj gc hc) ?_⟩;refine⟨_,rfl,_,rfl,p,C,dx,_,_,rfl,S.ob,T.cl,T.nv,rY,_,rfl,cU S.ol (zH gc hc) ?_⟩;refine⟨trivial,?_⟩;show Q (V.int<|(x.2.1:Int)+(if (pl:Int) - (x.1:Int) < (x.2.2:Int) then (pl:Int) - (x.1:Int) else (x.2.2:Int))) H
  have ee:((x.2.1:Int)+(if (pl:Int) - (x.1:Int) < (x.2.2:Int) then (pl:Int) - (x.1:Int) else (x.2.2:Int)))=((x.2.1+min x.2.2 (pl - x.1):Nat):Int):=by
   split<;>lia
  rw[ee];exact q
def Hl(C:Addr):Sp:=fun vs H Q E=>∃(p dx lo ln ll:Addr) (rs:List (Nat×Nat×Nat)) (ov gv pl:Nat),vs=[.ref p,.int pl]/\nG C H p dx lo ln ll rs ov gv/\eJ 0 0 rs/\rs.length<=1000000/\Q (.int (mR gv (cL rs) pl:Nat)) H
theorem Vs{K:Frag}(T:lN K C)(vs:List V)(H:Hp)(Q:VK)(E:XK)(h:Hl C vs H Q E):aC (aJ K zJ [] (E:=E)) EM {nx:=fun _ H'=>Q .aD H',rt:=Q} (start vf vs) H:=by
 obtain⟨p,dx,lo,ln,ll,rs,ov,gv,pl,rfl,S,hi,hl,q⟩:=h;refine⟨_,rfl,p,C,dx,_,_,rfl,S.ob,T.cl,T.nv,rY,_,rfl,lo,_,_,rfl,S.ol,vI hi,?_⟩;have hq:∀o:Nat,decide ((o:Int)<= (pl:Int))=(fun o=>decide<|o<=pl) o:=fun o=>by simp only[decide_eq_decide];lia
 rw[zG rs _ _ hq];rw[<-G4 hi] at q;have hb:=zF (fun o=>decide<|o<=pl) rs;have nx:∀c:Nat,Q (.int (i5 gv rs c:Nat)) H->ag (aJ K zJ [] (E:=E)) (.qP (.cmp .Lt (.bin .Add (.v 2)<|.c<|.int 1)<|.blt .len [(.fld (.v 0) "news")]) (.ix (.fld (.v 0) "news")<|.bin .Add (.v 2)<|.c<|.int 1)<|.fld (.v 0) "gives") [some<|.ref p,some<|.int pl,some<|.int<|(c:Int) - 1] H Q:=by
  intro c q;have hc:(c:Int) - 1+1=(c:Int):=by lia
  refine⟨_,rfl,_,rfl,p,C,dx,_,_,rfl,S.ob,T.cl,T.o_,vE,.inl ⟨_,aw.of S.nw,trivial,_,rfl,?_⟩⟩;refine cw (fun g=>?_)<|fun g=>?_
  ·have g:=of_decide_eq_true g;rw[zaa,zaa] at g;have gc:rs[c]?=some (rs[c]'(by lia)):=zaE _
   refine⟨_,rfl,p,C,dx,_,_,rfl,S.ob,T.cl,T.o_,vE,_,rfl,cU S.nw (zI gc hc) ?_⟩;unfold i5 at q;rw[gc] at q;exact q
  ·have g:¬(c:Int) - 1+1< ((nI rs).length:Int):=fun z=>g (zqT z);rw[zaa,zaa] at g;have gc:rs[c]?=none:=List.getElem?_eq_none (by lia)
   unfold i5 at q;rw[gc] at q;exact⟨_,rfl,p,C,dx,_,_,rfl,S.ob,T.cl,T.y9,G_,q⟩
 cases e:bF (fun o=>decide<|o<=pl) rs with
 |zero=>
  rw[Vo e] at q;exact⟨trivial,_,rfl,trivial,_,rfl,nx 0 q⟩
 |succ c=>
  rw[e] at hb;have gc:rs[c]?=some (rs[c]'(by lia)):=zaE _
  generalize hx:rs[c]'(by lia)=x at gc
  have Vr:=Hi hi hq e gc;rw[Vp e gc] at q;have hc:((c+1:Nat):Int) - 1=(c:Int):=by lia
  refine⟨trivial,_,rfl,trivial,_,rfl,iT ?_ (by simp)⟩
  refine⟨_,rfl,_,rfl,p,C,dx,_,_,rfl,S.ob,T.cl,T.nv,rY,_,rfl,cU S.ol (zH gc hc) ?_⟩;refine⟨_,rfl,p,C,dx,_,_,rfl,S.ob,T.cl,T.vg,G8,_,rfl,cU S.le (Hj gc hc) ?_⟩;refine⟨trivial,_,rfl,?_⟩;refine cw (fun g=>?_)<|fun g=>?_
  ·have g:=of_decide_eq_true g;rw[if_pos (by lia)] at q
   refine⟨_,rfl,p,C,dx,_,_,rfl,S.ob,T.cl,T.o_,vE,_,rfl,cU S.nw (zI gc hc) ?_⟩;refine⟨_,rfl,_,rfl,p,C,dx,_,_,rfl,S.ob,T.cl,T.nv,rY,_,rfl,cU S.ol (zH gc hc) ?_⟩;refine⟨trivial,?_⟩;show Q (V.int<|(x.2.1:Int)+(pl:Int) - (x.1:Int)) H;rw[show(x.2.1:Int)+(pl:Int) - (x.1:Int)=((x.2.1+(pl - x.1):Nat):Int) by lia]
   exact q
  ·have g:¬(pl:Int) < (x.1:Int)+(x.2.2:Int):=fun z=>g (zqT z);rw[if_neg (by lia)] at q
   exact nx (c+1) q
def mv(s:Str)(ps:List Pt)(p:Nat):Nat:=if s="left" then eI 0 (cL<|bx ps 0 0) p else mR (bh ps) (cL<|bx ps 0 0) p
def se(s:Str)(rs:List (Nat×Nat×Nat))(gv p:Nat):Nat:=if s="left" then eI 0 (cL rs) p else mR gv (cL rs) p
def pE(C:Addr):Sp:=fun vs H Q E=>∃(p dx lo ln ll:Addr) (rs:List (Nat×Nat×Nat)) (ov gv pl:Nat) (s:Str),vs=[.ref p,.int pl,.str s]/\nG C H p dx lo ln ll rs ov gv/\eJ 0 0 rs/\rs.length<=1000000/\Q (.int (se s rs gv pl:Nat)) H
theorem Vt{K:Frag}(T:lN K C)(vs:List V)(H:Hp)(Q:VK)(E:XK)(h:pE C vs H Q E):aC (aJ K [] [] [] [("to_left",C,Hk C),("to_right",C,Hl C)] (E:=E)) EN {nx:=fun _ H'=>Q .aD H',rt:=Q} (start rH vs) H:=by
 obtain⟨p,dx,lo,ln,ll,rs,ov,gv,pl,s,rfl,S,hi,hl,q⟩:=h;unfold se at q;refine⟨_,rfl,_,rfl,?_⟩;rw[TB];by_cases e:s="left"
 ·rw[if_pos e] at q;refine iT ?_ (by simpa using e)
  exact⟨_,rfl,p,dx,_,rfl,S.ob,vF (by decide+kernel) (by decide+kernel) (by decide+kernel) (by decide+kernel) (by decide+kernel),_,rfl,p,dx,lo,ln,ll,rs,ov,gv,pl,rfl,S,hi,q⟩
 ·rw[if_neg e] at q;refine iF ?_ (by simpa using e)
  exact⟨_,rfl,p,dx,_,rfl,S.ob,vF (by decide+kernel) (by decide+kernel) (by decide+kernel) (by decide+kernel) (by decide+kernel),_,rfl,p,dx,lo,ln,ll,rs,ov,gv,pl,rfl,S,hi,hl,q⟩
def Hn(K:Frag)(p:Addr)(xs:List V):Prop:= ∀H,aO K H p xs
abbrev SD:List V:=[.str "left",.str "right"]
def zK:Sp:=fun vs H Q E=>∃s:Str,vs=[.str s]/\(s="left"\/s="right")/\Q .aD H
def zL:Sp:=fun vs H Q E=>∃i lo hi,vs=[.int i,.int lo,.int hi]/\lo<=i/\i<=hi/\Q (.bl true) H
abbrev Vu:List (Str×Sp):=[("is_between",zL),("need_side",zK)]
def zM:Sp:=fun vs H Q E=>∃(a:Addr) (xs:List V) (ps:List Pt) (pl:Nat) (s:Str),vs=[.ref a,.int pl,.str s]/\H a=some (.lst xs)/\bO H xs ps/\(∀q∈ps,il q)/\chainOk "" ps=true/\ps.length<=1000/\pl<=bt ps/\(s="left"\/s="right")/\
 ∀H',aB H H'->Q (.int (mv s ps pl:Nat)) H'
theorem Vv{K:Frag}{et:List (Str×Addr)}(T:lN K C)(vs:List V)(H:Hp)(Q:VK)(E:XK)(h:zM vs H Q E):aC (aJ K Vu [] [] [("lead",C,pE C)] [("Track",C,rZ C)] (et:=et) (E:=E)) ER {nx:=fun _ H'=>Q .aD H',rt:=Q} (start EO vs) H:=by
 obtain⟨a,xs,ps,pl,s,rfl,ha,dP,aA,eB,hl,hp,hs,q⟩:=h;refine⟨_,rfl,fun x dx hx hd gp=>?_⟩;have s1:aB H (upd (upd H dx<|.own x) x<|.ins C dx []):=fun b o e=>by rw[av<|aS e hx,av<|aS e hd];exact e
 refine⟨x,dx,a,xs,ps,rfl,az,s1 _ _ ha,dP.mono<|dO s1,aA,eB,hl,fun lo ln ll H' S b1=>⟨rfl,?_⟩⟩;have s2:aB H H':=fun b o e=>b1 b o (s1 b o e) (aS e hx);refine⟨_,rfl,_,rfl,x,C,dx,_,_,rfl,S.ob,T.cl,T.y8,G9,_,_,_,rfl,by lia,by lia,?_⟩
 refine⟨_,rfl,s,rfl,hs,?_⟩;refine⟨_,rfl,x,dx,_,rfl,S.ob,vF (by decide+kernel) (by decide+kernel) (by decide+kernel) (by decide+kernel) (by decide+kernel),_,rfl,_,rfl,?_⟩
 have rl:=pq ps 0 0;exact⟨x,dx,lo,ln,ll,_,_,_,pl,s,rfl,S,rX ps 0 0 aA,by lia,q H' s2⟩
theorem Vw{T:Ty}{P Q:Bool->Prop}(h:br T v H P)(i:∀b,P b->Q b):br T v H Q:=by
 cases v with
 |ref a=>
  unfold br at h⊢
  simp only at h⊢
  split at h
  all_goals first|exact i _ h|exact h.elim
 |aD=>exact i _ h
 |bl b=>exact i _ h
 |int _=>exact i _ h
 |str _=>exact i _ h
 |_=>exact False.elim h
theorem Vx{T:Ty}{P:Bool->Prop}(h:br T v H P)(s:aB H H'):br T v H' P:=by
 cases v with
 |ref a=>
  unfold br at h⊢
  simp only at h⊢
  cases e:H a with
  |none=>rw[e] at h;exact h.elim
  |some o=>rw[e] at h;rw[s _ _ e];exact h
 |aD=>exact h
 |bl b=>exact h
 |int _=>exact h
 |str _=>exact h
 |_=>exact False.elim h
def gw(T:Ty)(v:V)(H:Hp):Prop:=br T v H fun b=>b=false
theorem gw.same{T:Ty}(h:gw T v H)(s:aB H H'):gw T v H':=Vx h s
theorem gw.go{T:Ty}{Q:Bool->Prop}(h:gw T v H)(q:Q false):br T v H Q:=Vw h fun b e=>by rw[e];exact q
def Vy(x:Str):Bool:=x.cps.toList.all fun c=>SG.cps.contains c
theorem Ho{α:Type}(p:α->Bool):∀l:List α,l.all p=false->(l.takeWhile p).length<l.length
 |[],h=>by cases h
 |c::l,h=>by
  rw[List.takeWhile_cons];cases hc:p c with
  |false=>simp
  |true=>
   rw[zba,hc,Bool.true_and] at h;have:=Ho p l h
   simp;lia
theorem Vz(x y:Str)(h:(x.cps.toList.all fun c=>y.cps.contains c)=false):Txt.lstripChars x y≠"":=by
 have lt:=Ho _ _ h;have e0:stripLo y.cps.contains true x=(x.cps.toList.takeWhile y.cps.contains).length:=by
  unfold stripLo;rw[if_pos rfl]
 have e1:∀n,stripHi y.cps.contains false x n=x.length:=fun n=>rfl;intro z;have z2:=congrArg Str.length z;have l0:(Str.ofString "").length=0:=rfl;rw[l0] at z2;unfold Txt.lstripChars Txt.stripBy stripSame stripped at z2;rw[e0,e1] at z2;have hx:x.cps.size=x.cps.toList.length:=by simp
 split at z2
 ·have:x.cps.size=0:=z2;lia
 ·have z3:(x.cps.extract (x.cps.toList.takeWhile y.cps.contains).length x.cps.size).size=0:=z2;rw[Array.size_extract,Nat.min_self] at z3;have z4:x.cps.size - (List.takeWhile (fun c=>y.cps.contains c) x.cps.toList).length=0:=z3;lia
def sf(v:V)(H:Hp):Prop:=(∃x,v=.str x/\x.length<=1000000/\Vy x=false)\/gw .str v H
theorem sf.same(h:sf v H)(s:aB H H'):sf v H':=by
 rcases h with h|h
 ·exact .inl h
 ·exact .inr (h.same s)
def gz(v:V)(H:Hp):Prop:=(∃b,v=.bl b)\/gw .int v H
theorem gz.same(h:gz v H)(s:aB H H'):gz v H':=by
 rcases h with h|h
 ·exact .inl h
 ·exact .inr (h.same s)
def gA:Sp:=fun vs H Q E=>∃v,vs=[v]/\((∃i,v=.int i/\Q (.bl true) H)\/(gz v H/\Q (.bl false) H))
theorem VA{K:Frag}:bM (gA) (fun E=>aJ K [] [] (E:=E)) DR j9:=by
 intro vs H Q E h;obtain⟨v,rfl,⟨i,rfl,q⟩|⟨⟨b,rfl⟩|hn,q⟩⟩:=h
 ·exact⟨_,rfl,rfl,_,rfl,fk ⟨_,rfl,rfl,q⟩⟩
 ·exact⟨_,rfl,rfl,_,rfl,fk ⟨_,rfl,rfl,q⟩⟩
 ·exact⟨_,rfl,rfl,hn.go ⟨_,rfl,jU q⟩⟩
def Hq:Sp:=fun vs H Q E=>∃v,vs=[v]/\((∃x,v=.str x/\good x/\Q (.bl true) H)\/(sf v H/\Q (.bl false) H))
theorem VB{K:Frag}:bM (Hq) (fun E=>aJ K [] gS (E:=E)) yG j9:=by
 intro vs H Q E h;obtain⟨v,rfl,⟨x,rfl,hx,q⟩|⟨⟨x,rfl,hl,hx⟩|hn,q⟩⟩:=h
 ·exact TL _ _ _ _ ⟨x,rfl,hx,q⟩
 ·refine⟨_,rfl,rfl,_,rfl,fk ⟨_,rfl,rfl,cq hl,?_⟩⟩;show Q (.bl<|false ^^ decide (V.str (Txt.lstripChars x SG)=V.str "")) H;rw[zqF<|fun z=>Vz x SG hx (by injection z)]
  exact q
 ·exact⟨_,rfl,rfl,hn.go ⟨_,rfl,jU q⟩⟩
def zN(K:Frag):Sp:=fun vs H Q E=>∃v p xs,vs=[v,.ref p]/\aO K H p xs/\xs.all gi=true/\((∃w,v=.str w/\Q (.bl<|e8 (.str w) xs) H)\/(gw .str v H/\Q (.bl false) H))
theorem VC{K:Frag}:bM (zN K) (fun E=>aJ K [] [] (E:=E)) yF yE:=by
 intro vs H Q E h;obtain⟨v,p,xs,rfl,hp,hf,⟨w,rfl,q⟩|⟨hn,q⟩⟩:=h
 ·exact TN _ _ _ _ ⟨w,p,xs,rfl,hp,hf,q⟩
 ·exact⟨_,rfl,rfl,hn.go ⟨_,rfl,jU q⟩⟩
def VD(v:V)(H:Hp):Prop:=gw .tuple v H\/∃a xs,v=.ref a/\H a=some (.tup xs)/\xs.length<=1000000/\(xs.length≠2\/∃w t,xs=[w,t]/\
 (gw .str w H\/(∃s,w=.str s/\s≠"keep"/\s≠"cut"/\s≠"put")\/(w=.str "keep"/\(gz t H\/∃n,t=.int n/\n<1))\/((w=.str "cut"\/w=.str "put")/\(sf t H\/t=.str ""))))
abbrev vJ(K:Frag):List (Str×Sp):=[("is_word",zN K),("is_whole",gA),("is_text",Hq)]
def Hr:Sp:=fun vs H Q E=>∃v,vs=[v]/\((∃p,lQ H v p/\il p/\∀H',aB H H'->Q (.bl true) H')\/(VD v H/\∀H',aB H H'->Q (.bl false) H'))
theorem Hs(s t:Str):e8 (.str s) [.str t]=(t==s):=by
 unfold e8;show(fN (.str t) (.str s)||false)=_;rw[zbw];rfl
theorem VE{K:Frag}:bM (Hr) (fun E=>aJ K (vJ K) [] (E:=E)) uY j9:=by
 intro vs H Q E h;have two:∀(a:Addr) (w t:V) (Q1:VK) (H1:Hp) (σ:St),σ[0]?=some (some<|.ref a)->H1 a=some (.tup [w,t])->
   (∀(tt:Addr) H2,aB H1 H2->∀b:Bool,(b=true->w=.str "cut"\/w=.str "put")->(b=false->w≠ .str "cut"/\w≠ .str "put")->Q1 (.bl b) H2)->(gw .str w H1\/∃s,w=.str s)->
   ag (aJ K (vJ K) [] (E:=E)) (.call 0 [(.ix (.v 0)<|.c<|.int 0),(.tup [(.c<|.str "cut"),(.c<|.str "put")])]) σ H1 Q1:=by
  intro a w t Q1 H1 σ h0 ha q hw;refine⟨_,h0,.inr<|.inl ⟨_,_,_,_,rfl,rfl,aO.of ha,rfl,dw,fun t ht=>?_⟩⟩;have s2:=sameNew (o:=.tup [V.str "cut",V.str "put"]) ht;refine⟨w,t,_,rfl,aO.of az,rfl,?_⟩;rcases hw with hw|⟨s,rfl⟩
  ·refine .inr ⟨hw.same s2,q t _ s2 false (fun z=>by cases z) fun _=>⟨?_,?_⟩⟩
   ·rintro rfl;cases (show true=false from hw)
   ·rintro rfl;cases (show true=false from hw)
  ·refine .inl ⟨s,rfl,q t _ s2 _ (fun z=>?_) fun z=>?_⟩
   ·have z':((Str.ofString "cut"==s)||((Str.ofString "put"==s)||false))=true:=z
    simp only[zbw,Bool.or_eq_true,beq_iff_eq] at z'
    rcases z' with z'|z'<;>subst z'
    ·exact .inl rfl
    ·exact .inr rfl
   ·have z':((Str.ofString "cut"==s)||((Str.ofString "put"==s)||false))=false:=z
    simp only[zbw,Bool.or_eq_false_iff,beq_eq_false_iff_ne] at z'
    exact⟨fun y=>z'.1 (by injection y with y;exact y.symm),fun y=>z'.2 (by injection y with y;exact y.symm)⟩
 obtain⟨v,rfl,⟨p,⟨a,rfl,ha⟩,hp,q⟩|⟨hn|⟨a,xs,rfl,ha,hl,hb⟩,q⟩⟩:=h
 ·refine⟨_,rfl,rfl,vp ha ⟨_,rfl,.inr ⟨_,aO.of ha,_,rfl,?_⟩⟩⟩;refine⟨_,rfl,.inr<|.inl ⟨_,_,_,_,rfl,rfl,aO.of ha,rfl,d3,fun t1 kh=>?_⟩⟩;have s1:=sameNew (o:=.tup [V.str "keep"]) kh;refine⟨.str p.word,t1,[.str "keep"],rfl,aO.of az,rfl,.inl ⟨p.word,rfl,?_⟩⟩;have fZ:=s1 _ _ ha;generalize upd H t1 (.tup [V.str "keep"])=H1 at s1 fZ;have fin:∀(s:Str),good s->s≠""->H1 a=some (.tup [.str p.word,.str s])->p.word="put"\/p.word="cut"->aC (aJ K (vJ K) [] (E:=E)) (uY.drop 2) (Dn Q) (start j9 [.ref a]) H1:=by
   intro s gs ns hs hw;refine two a (.str p.word) (.str s) _ H1 _ rfl hs (fun tt H2 s2 b pF nN=>?_)<|.inr ⟨_,rfl⟩;have eb:b=true:=by
    cases b with
    |true=>rfl
    |false=>
     obtain⟨z1,z2⟩:=nN rfl;rcases hw with z|z
     ·exact absurd (congrArg V.str z) z2
     ·exact absurd (congrArg V.str z) z1
   subst eb;have cZ:=s2 _ _ hs;refine⟨_,rfl,fk ⟨_,rfl,.inr<|.inl ⟨_,_,_,_,rfl,rfl,aO.of cZ,rfl,.str s,rfl,.inl ⟨s,rfl,gs,_,rfl,?_⟩⟩⟩⟩;refine fk ⟨_,rfl,.inr<|.inl ⟨_,_,_,_,rfl,rfl,aO.of cZ,rfl,?_⟩⟩;show Q (.bl<|true ^^ decide (V.str s=V.str "")) _;rw[zqF<|fun z=>ns (by injection z)]
   exact q _<|s1.trans s2
  cases p with
  |keep n=>
   rw[show e8 (.str (Pt.keep n).word) [.str "keep"]=true by show e8 (.str "keep") [.str "keep"]=true;decide]
   refine⟨_,rfl,.inr<|.inl ⟨_,_,_,_,rfl,rfl,aO.of fZ,rfl,.int n,rfl,.inl ⟨n,rfl,_,rfl,?_⟩⟩⟩;refine fk ⟨_,rfl,.inr<|.inl ⟨_,_,_,_,rfl,rfl,aO.of fZ,rfl,trivial,?_⟩⟩;show Q (.bl<|decide<|1<=n) H1;rw[zqT (show(1:Int)<=n from hp)]
   exact q _ s1
  |put s=>
   rw[show e8 (.str (Pt.put s).word) [.str "keep"]=false by show e8 (.str "put") [.str "keep"]=false;decide]
   exact fin s hp.1 hp.2 fZ<|.inl rfl
  |cut s=>
   rw[show e8 (.str (Pt.cut s).word) [.str "keep"]=false by show e8 (.str "cut") [.str "keep"]=false;decide]
   exact fin s hp.1 hp.2 fZ<|.inr rfl
 ·exact⟨_,rfl,rfl,hn.go<|q _<|aB.refl _⟩
 ·refine⟨_,rfl,rfl,vp ha ⟨_,rfl,.inr ⟨_,aO.of ha,_,rfl,?_⟩⟩⟩;show if (true ^^ decide (V.int (xs.length:Int)=V.int 2))=true then _ else _
  rcases hb with hb|⟨w,t,rfl,hb⟩
  ·rw[zqF<|fun z=>hb (by injection z with z;lia)]
   exact q _<|aB.refl _
  ·refine⟨_,rfl,.inr<|.inl ⟨_,_,_,_,rfl,rfl,aO.of ha,rfl,d3,fun t1 kh=>?_⟩⟩;have s1:=sameNew (o:=.tup [V.str "keep"]) kh;refine⟨w,t1,[.str "keep"],rfl,aO.of az,rfl,?_⟩;have fZ:=s1 _ _ ha;generalize upd H t1 (.tup [V.str "keep"])=H1 at s1 fZ;have no:(gw .str w H1\/∃s,w=.str s)->w≠ .str "cut"->w≠ .str "put"->aC (aJ K (vJ K) [] (E:=E)) (uY.drop 2) (Dn Q) (start j9 [.ref a]) H1:=by
    intro hw n1 n2;refine two a w t _ H1 _ rfl fZ (fun tt H2 s2 b pF nN=>?_) hw;have eb:b=false:=by
     cases b with
     |false=>rfl
     |true=>rcases pF rfl with z|z;exact absurd z n1;exact absurd z n2
    subst eb;exact⟨_,rfl,jU<|q _<|s1.trans s2⟩
   rcases hb with hb|⟨s,rfl,n0,n1,n2⟩|⟨rfl,hb⟩|⟨hw,hb⟩
   ·refine .inr ⟨hb.same s1,no (.inl<|hb.same s1) ?_ ?_⟩
    ·rintro rfl;cases (show true=false from hb)
    ·rintro rfl;cases (show true=false from hb)
   ·refine .inl ⟨s,rfl,?_⟩;rw[Hs,beq_eq_false_iff_ne.mpr<|Ne.symm n0];exact no (.inr ⟨s,rfl⟩) (fun z=>n1 (by injection z))<|fun z=>n2 (by injection z)
   ·refine .inl ⟨_,rfl,?_⟩;rw[show e8 (.str "keep") [.str "keep"]=true by decide]
    refine⟨_,rfl,.inr<|.inl ⟨_,_,_,_,rfl,rfl,aO.of fZ,rfl,t,rfl,?_⟩⟩;rcases hb with hb|⟨n,rfl,hn⟩
    ·exact .inr ⟨hb.same s1,_,rfl,jU<|q _ s1⟩
    ·refine .inl ⟨n,rfl,_,rfl,fk ⟨_,rfl,.inr<|.inl ⟨_,_,_,_,rfl,rfl,aO.of fZ,rfl,trivial,?_⟩⟩⟩;show Q (.bl<|decide<|1<=n) H1;rw[zqF (by lia)]
     exact q _ s1
   ·have VF:∃s,w=.str s/\(Str.ofString "keep"==s)=false:=by
     rcases hw with rfl|rfl
     ·exact⟨_,rfl,by decide⟩
     ·exact⟨_,rfl,by decide⟩
    obtain⟨s,rfl,hk⟩:=VF;refine .inl ⟨s,rfl,?_⟩;rw[Hs,hk];refine two a (.str s) t _ H1 _ rfl fZ (fun tt H2 s2 b pF nN=>?_)<|.inr ⟨s,rfl⟩;have eb:b=true:=by
     cases b with
     |true=>rfl
     |false=>
      obtain⟨z1,z2⟩:=nN rfl;rcases hw with z|z
      ·exact absurd z z1
      ·exact absurd z z2
    subst eb;have nJ:=s2 _ _ fZ;refine⟨_,rfl,fk ⟨_,rfl,.inr<|.inl ⟨_,_,_,_,rfl,rfl,aO.of nJ,rfl,t,rfl,?_⟩⟩⟩;rcases hb with hb|rfl
    ·exact .inr ⟨hb.same<|s1.trans s2,_,rfl,jU<|q _<|s1.trans s2⟩
    ·refine .inl ⟨_,rfl,⟨by decide,fun c hc=>by cases hc⟩,_,rfl,fk ⟨_,rfl,.inr<|.inl ⟨_,_,_,_,rfl,rfl,aO.of nJ,rfl,?_⟩⟩⟩
     exact q _<|s1.trans s2
theorem VG{E:XK}(h:zm vs H Q E):Hr vs H Q E:=by
 obtain⟨v,p,rfl,hp,ho,q⟩:=h;exact⟨_,rfl,.inl ⟨p,hp,ho,q⟩⟩
def pG(a b:Sp):Sp:=fun vs H Q E=>a vs H Q E\/b vs H Q E
end L2.B
namespace L2
open PySem PySem.Spec PyProof.Rows
section
variable {Γ:aN}{D:Ends}{σ:St}{H:Hp}{r:List RS}{Q:VK}{QA:List V->Hp->Prop}{QT:Bool->Hp->Prop}
theorem ah(h:σ[i]?=some (some v))(q:Q v H):ag Γ (.v i) σ H Q:=⟨_,h,q⟩
theorem ar(q:Q v H):ag Γ (.c v) σ H Q:=q
theorem Ht(q:Q (Γ.gv j) H):ag Γ (.g j) σ H Q:=q
theorem bc{op:Operator}{b:RE}(h:ag Γ a σ H fun x H1=>ag Γ b σ H1 fun y H2=>iK Γ.K op x y H2 Q):ag Γ (.bin op a b) σ H Q:=h
theorem gP{op:CmpOp}{b:RE}(h:ag Γ a σ H fun x H1=>ag Γ b σ H1 fun y H2=>b8 Γ.K op x y H2 Q):ag Γ (.cmp op a b) σ H Q:=h
theorem dc{b:RE}(h:ag Γ a σ H fun x H1=>ag Γ b σ H1 fun y H2=>lj Γ.K Γ.sd x y H2 Q):ag Γ (.ix a b) σ H Q:=h
theorem VH(h:aL Γ as σ H fun vs H1=>Γ.fs j (vs++[]) H1 Q Γ.E):ag Γ (.call j as) σ H Q:=h
theorem bC(sp:Sp)(hs:Γ.fs j=sp)(h:aL Γ as σ H fun vs H1=>sp vs H1 Q Γ.E):ag Γ (.call j as) σ H Q:=by
 subst hs;refine VH ?_;have e:(fun(vs:List V) (H1:Hp)=>Γ.fs j (vs++[]) H1 Q Γ.E)=fun vs H1=>Γ.fs j vs H1 Q Γ.E:=by
  funext vs H1;rw[zag]
 rw[e];exact h
theorem kq(h:aL Γ as σ H fun xs H1=>xs.length<=sizeLine/\∀p,H1 p=none->Q (.ref p) (upd H1 p<|.tup xs)):ag Γ (.tup as) σ H Q:=h
theorem fG(h:aL Γ as σ H fun xs H1=>xs.length<=sizeLine/\∀p,H1 p=none->Q (.ref p) (upd H1 p<|.lst xs)):ag Γ (.lst as) σ H Q:=h
theorem VI{c:RE}(h:ag Γ a σ H fun x H1=>ag Γ c σ H1 fun y H2=>jh Γ.K [x,y] H2 Q):ag Γ (.cC a c) σ H Q:=h
theorem Hu{c:RE}(h:ag Γ a σ H fun x H1=>ag Γ c σ H1 fun y H2=>jh Γ.K [x,y] H2 fun z H3=>ji Γ.K z H3 fun b=>QT b H3):aU Γ (.cC a c) σ H QT:=h
theorem aH(q:QA [] H):aL Γ [] σ H QA:=q
theorem aq(h:ag Γ a σ H fun x H1=>aL Γ as σ H1 fun xs H2=>QA (x::xs) H2):aL Γ (a::as) σ H QA:=h
theorem bW(h:ag Γ e σ H fun x H1=>aC Γ r D (σ.set i<|some x) H1):aC Γ (.asg i e::r) D σ H:=h
theorem fH(h:ag Γ e σ H fun _ H1=>aC Γ r D σ H1):aC Γ (.drop e::r) D σ H:=h
theorem bX(h:ag Γ e σ H D.rt):aC Γ (.ret e::r) D σ H:=h
end
end L2
namespace L2.B
open PySem PySem.Spec PyProof.Rows
structure ku (K:Frag) (cs:List Addr) (bH:Addr) (D:Addr) (j:Nat):Prop where
 cls:oM K D
 VJ:∀i c,cs[i]?=some c->kitOne K (.ref D) (.ref c)=some (decide<|i=j)
 bH:kitOne K (.ref D) (.ref bH)=some true
 val:kitOne K (.ref D) (.type "ValueError")=some true
def iq:List Str:=["text","change","fit","place","side","mark","node","cursor","deed","letter","gone","hand","note"]
abbrev gW(c0 c1 c2 c3 c4 c5 c6 c7 c8 c9 pH pI pJ bH:Addr):List (Str×V):=
 [("BadText",.ref c0),("BadChange",.ref c1),("BadFit",.ref c2),("NoPlace",.ref c3),("BadSide",.ref c4),("NoMark",.ref c5),("NoNode",.ref c6),("NoCursor",.ref c7),("BadDeed",.ref c8),("BadLetter",.ref c9),("NoLetter",.ref pH),("NoHand",.ref pI),("NoNote",.ref pJ),("InkError",.ref bH)]
def vK(K:Frag)(cs:List Addr)(bH:Addr):Sp:=fun vs H Q E=>∃ea D j,vs=[.ref ea]/\ExcAt H ea D/\ku K cs bH D j/\j<13/\∀H',aB H H'->Q (.str<|iq.getD j "") H'
theorem _root_.L2.ExcAt.same{D:Addr}(h:ExcAt H ea D)(s:aB H H'):ExcAt H' ea D:=ExcAt.keeps h fun b o u e=>s b _ e
def i6(H:Hp)(v:V)(p:Str×Bool):Prop:= ∃t,v=.ref t/\H t=some (.tup [.str p.1,.bl p.2])
theorem i6.mono{p:Str×Bool}(h:i6 H v p)(s:aB H H'):i6 H' v p:=by
 obtain⟨t,e,h⟩:=h;exact⟨t,e,s _ _ h⟩
theorem nO.mono{H H':Hp}(s:aB H H'):∀{vs:List V}{ps:List (Str×Bool)},Paired (i6 H) vs ps->Paired (i6 H') vs ps
 |_,_,.nil=>.nil
 |_,_,.cons h r=>.cons (h.mono s) (nO.mono s r)
theorem nO.get{H:Hp}:∀{vs:List V}{ps:List (Str×Bool)}{i:Nat}{v:V},Paired (i6 H) vs ps->vs[i]?=some v->∃p,ps[i]?=some p/\i6 H v p
 |_,_,i,v,.nil,e=>by simp at e
 |_,_,0,v,.cons h r,e=>by simp at e;subst e;exact⟨_,rfl,h⟩
 |_,_,i+1,v,.cons h r,e=>by
  obtain⟨p,a,b⟩:=nO.get (i:=i) r (by simpa using e)
  exact⟨p,by simpa using a,b⟩
theorem Paired.app{α β:Type}{R:α->β->Prop}:∀{xs nP:List α}{ys nQ:List β},Paired R xs ys->Paired R nP nQ->Paired R (xs++nP) (ys++nQ)
 |_,_,_,_,.nil,s=>s
 |_,_,_,_,.cons r t,s=>.cons r (Paired.app t s)
section
variable {Γ:aN}{cs:List Addr}{bH ea D:Addr}{j:Nat}
theorem zO(hk:ku Γ.K cs bH D j)(hg:∀i c,cs[i]?=some c->Γ.gv i=.ref c):∀(ws:List (Str×Nat)) (σ:St) (H:Hp) (Q:List V->Hp->Prop),(∀p∈ws,p.2<cs.length)->σ[0]?=some (some<|.ref ea)->ExcAt H ea D->
  (∀vs H',aB H H'->Paired (i6 H') vs (ws.map fun p=>(p.1,decide<|p.2=j))->Q vs H')->aL Γ (ws.map fun p=>.tup [(.c<|.str p.1),(.cC (.v 0)<|.g p.2)]) σ H Q
 |[],σ,H,Q,_,_,_,q=>q [] H (aB.refl _) .nil
 |(w,i)::ws,σ,H,Q,hl,h0,he,q=>by
  have hi:i<cs.length:=hl (w,i) (.head _);have hc:cs[i]?=some cs[i]:=by simp[hi]
  have key:∀k:VK,jh Γ.K [.ref ea,.ref cs[i]] H k->jh Γ.K [.ref ea,Γ.gv i] H k:=by
   intro k;rw[hg i _ hc];exact id
  refine aq<|kq<|aq<|ar<|aq<|VI<|ah h0<|Ht<|key _ ⟨D,_,he,hk.cls,.inl ⟨_,rfl⟩,hk.VJ i _ hc,aH ⟨dw,fun t ht=>?_⟩⟩;have s1:=sameNew (o:=.tup [.str w,.bl<|decide<|i=j]) ht;refine zO hk hg ws σ _ _ (fun p hp=>hl p<|.tail _ hp) h0 (he.same s1) fun vs H' s2 hp=>?_;exact q (.ref t::vs) H' (s1.trans s2)<|.cons ⟨t,rfl,s2 _ _ az⟩ hp
theorem vL(hk:ku Γ.K cs bH D j)(hg:∀i c,cs[i]?=some c->Γ.gv i=.ref c)(ws:List (Str×Nat)){l:Addr}{ps:List (Str×Bool)}{r:List RS}{E:Ends}(hl:∀p∈ws,p.2<cs.length)(he:ExcAt H ea D)(h1:H l=some (.lst xs))
  (hp:Paired (i6 H) xs ps) (hn:xs.length+ws.length<=1000) (q:∀l' nP H',aB H H'->H' l'=some (.lst nP)->Paired (i6 H') nP (ps++ws.map fun p=>(p.1,decide<|p.2=j))->aC Γ r E [some<|.ref ea,some<|.ref l',none] H'):
  aC Γ (.asg 1 (.bin .Add (.v 1)<|.lst<|ws.map fun p=>.tup [(.c<|.str p.1),(.cC (.v 0)<|.g p.2)])::r) E [some<|.ref ea,some<|.ref l,none] H:=by
 refine⟨_,rfl,zO hk hg ws _ H _ hl rfl he fun vs H1 s1 hv=>⟨?_,fun d hd=>?_⟩⟩
 ·have:=Paired.length hv;rw[zaa] at this;exact cq (by lia)
 ·have e1:upd H1 d (.lst vs) l=some (.lst xs):=by rw[av<|aS (s1 _ _ h1) hd];exact s1 _ _ h1
  have vM:=Paired.length hv;rw[zaa] at vM;refine .inl ⟨l,d,xs,vs,rfl,rfl,e1,az,cq (by lia),fun e dY=>?_⟩
  have s2:=(sameNew (o:=.lst vs) hd).trans (sameNew (o:=.lst (xs++vs)) dY);exact q e (xs++vs) _ (s1.trans s2) az<|Paired.app (nO.mono (s1.trans s2) hp)<|nO.mono s2 hv
end
theorem VL(j:Nat)(hj:j<13):(((iq.zipIdx).map fun p=>(p.1,decide<|p.2=j)).filter (·.2)).map (·.1)=[iq.getD j ""]/\(iq.getD j "").length<=10:=by
 match j,hj with
 | 0,_| 1,_| 2,_| 3,_| 4,_| 5,_| 6,_| 7,_| 8,_| 9,_| 10,_| 11,_| 12,_=>exact⟨rfl,by decide+kernel⟩
theorem VM(h:aL Γ as σ H fun xs H1=>xs.length<=sizeLine/\∀p,H1 p=none->Q (.ref p) (upd H1 p<|.lst xs)):ag Γ (.lst as) σ H Q:=h
theorem join_one(sep x:Str):Txt.join sep [x]=x:=jC rfl
theorem VN{α β:Type}(p:α->Bool)(f:α->β)(l:List α)(i:Nat)(v:α)(h:l[i]?=some v):((l.take<|i+1).filter p).map f=((l.take i).filter p).map f++(if p v then [f v] else []):=by
 rw[TX p l i v h,zav];cases p v<;>rfl
theorem VO{g:Nat}{D:Addr}{b:Bool}{Q:Bool->Hp->Prop}(h0:σ[i]?=some (some<|.ref ea))(he:ExcAt H ea D)(hc:oM Γ.K D)(hg:Γ.gv g=.ref C)(hk:kitOne Γ.K (.ref D) (.ref C)=some b)(q:Q b H):aU Γ (.cC (.v i)<|.g g) σ H Q:=by
 have key:∀k:VK,jh Γ.K [.ref ea,.ref C] H k->jh Γ.K [.ref ea,Γ.gv g] H k:=by
  intro k;rw[hg];exact id
 exact Hu<|ah h0<|Ht<|key _ ⟨D,b,he,hc,.inl ⟨_,rfl⟩,hk,q⟩
theorem VP{D:Addr}{n:String}{b:Bool}{Q:Bool->Hp->Prop}(h0:σ[i]?=some (some<|.ref ea))(he:ExcAt H ea D)(hc:oM Γ.K D)(hk:kitOne Γ.K (.ref D) (.type n)=some b)(q:Q b H):aU Γ (.cC (.v i)<|.c<|.ty n) σ H Q:=
 Hu (ah h0<|ar ⟨D,b,he,hc,.inr ⟨_,rfl⟩,hk,q⟩)
theorem VQ{cs:List Addr}{bH D:Addr}(hl:cs.length=13)(hg:∀i c,cs[i]?=some c->Γ.gv i=.ref c)(hi:Γ.gv 13=.ref bH)(he:ExcAt H ea D)(hk:ku Γ.K cs bH D j)(hj:j<13)(q:∀H',aB H H'->Q (.str<|iq.getD j "") H'):
  aC Γ dX (Dn Q) [some<|.ref ea,none,none] H:=by
 refine Qs<|VM<|zO hk hg [("text",0),("change",1),("fit",2)] _ H _ (by rw[hl];decide) rfl he fun vs H1 s1 hv=>⟨?_,fun d hd=>?_⟩
 ·have:=Paired.length hv;exact cq (by rw[this];simp)
 have s2:=s1.trans (sameNew (o:=.lst vs) hd);have Hv:=nO.mono (sameNew (o:=.lst vs) hd) hv;have vM:=Paired.length hv;refine vL hk hg [("place",3),("side",4),("mark",5)] (by rw[hl];decide) (he.same s2) az Hv (by rw[vM];simp) fun l3 ZU H3 s3 h3 zP=>?_
 have Hw:=Paired.length zP;refine vL hk hg [("node",6),("cursor",7)] (by rw[hl];decide) ((he.same s2).same s3) h3 zP (by rw[Hw];simp) fun l4 ZV H4 s4 h4 zQ=>?_
 have Hx:=Paired.length zQ;refine vL hk hg [("deed",8),("letter",9)] (by rw[hl];decide) (((he.same s2).same s3).same s4) h4 zQ (by rw[Hx];simp) fun l5 ZW H5 s5 h5 zR=>?_
 have Hy:=Paired.length zR;refine vL hk hg [("gone",10),("hand",11),("note",12)] (by rw[hl];decide) ((((he.same s2).same s3).same s4).same s5) h5 zR (by rw[Hy];simp) fun l6 i7 H6 s6 h6 Hz=>?_
 have zS:Paired (i6 H6) i7 ((iq.zipIdx).map fun p=>(p.1,decide<|p.2=j)):=Hz;obtain⟨pick,ZX⟩:=VL j hj;have VR:((iq.zipIdx).map fun p=>(p.1,decide<|p.2=j)).length=13:=by rw[zaa];rfl
 generalize ((iq.zipIdx).map fun p=>(p.1,decide<|p.2=j))=aj at zS pick VR;have vN:=Paired.length zS;have VS:=((((he.same s2).same s3).same s4).same s5).same s6;have VT:=(((s2.trans s3).trans s4).trans s5).trans s6;clear Hz zR zQ zP Hv hv vM Hw Hx Hy;refine Qt ⟨_,rfl,l6,rfl,⟨_,aw.of h6⟩,fun i m ys H7=>m=i7.length - i/\i<=i7.length/\H7=H6/\ys=(((aj.take i).filter (·.2)).map (·.1)).map V.str,⟨_,rfl,zqZ _,rfl,rfl⟩,?_⟩;rintro i m ys H7 ⟨rfl,dE,rfl,rfl⟩;by_cases aI:i<i7.length
 ·refine .inr ⟨⟨i7,i7[i],aw.of h6,by simp[aI]⟩,?_⟩
  rintro x H8 ⟨rfl,hx⟩;obtain⟨⟨w,b⟩,hp,t,rfl,ht⟩:=nO.get zS (hx i7<|aw.of h6);have tf:=VN (·.2) (·.1) aj i _ hp;refine⟨t,_,rfl,aO.of ht,rfl,_,rfl,?_⟩;show if b=true then _ else _
  cases b with
  |true=>
   refine fk ⟨_,rfl,?_,i7.length - (i+1),by lia,rfl,aI,rfl,?_⟩
   ·rw[zaa,zaa];have:=zaC (·.2) (aj.take i);have:=List.length_take_le i aj;exact dr (by lia)
   ·rw[tf];simp
  |false=>
   refine jU ⟨i7.length - (i+1),by lia,rfl,aI,rfl,?_⟩
   rw[tf];simp
 ·have dQ:i=i7.length:=by lia
  subst dQ;refine .inl ⟨⟨i7,aw.of h6,zqR _⟩,fun p hp=>?_⟩;rw[vN,show aj.take aj.length=aj from zaJ ..,pick]
  have s7:=sameNew (o:=.lst (List.map V.str [iq.getD j ""])) hp;have HA:=VS.same s7;refine Qu<|VO rfl HA hk.cls hi hk.bH<|VP rfl HA hk.cls hk.val ?_;refine⟨rfl,_,rfl,[iq.getD j ""],aw.of az,?_,?_⟩
  ·unfold JoinOk;show(!decide (0+(iq.getD j "").length+(Str.ofString "/").length>sizeLine))=true;rw[zqF];rfl;have:(Str.ofString "/").length=1:=rfl;have:(1000:Nat)<=sizeLine:=by decide
   lia
  ·rw[join_one];exact q _<|VT.trans s7
theorem VU{K:Frag}{c0 c1 c2 c3 c4 c5 c6 c7 c8 c9 pH pI pJ bH:Addr}(vs:List V)(H:Hp)(Q:VK)(h:vK K [c0,c1,c2,c3,c4,c5,c6,c7,c8,c9,pH,pI,pJ] bH vs H Q E0):
  aC (aJ K []<|gW c0 c1 c2 c3 c4 c5 c6 c7 c8 c9 pH pI pJ bH) dX (Dn Q) (start iO vs) H:=by
 obtain⟨ea,D,j,rfl,he,hk,hj,q⟩:=h;refine VQ (Γ:=aJ K [] (gW c0 c1 c2 c3 c4 c5 c6 c7 c8 c9 pH pI pJ bH)) (cs:=[c0,c1,c2,c3,c4,c5,c6,c7,c8,c9,pH,pI,pJ]) rfl (fun i c hi=>?_) rfl he hk hj q;have dE:i<13:=(zal.mp hi).1
 match i,dE with
 | 0,_| 1,_| 2,_| 3,_| 4,_| 5,_| 6,_| 7,_| 8,_| 9,_| 10,_| 11,_| 12,_=>exact congrArg V.ref (zan hi)
theorem VW{a:Addr}{xs:List (Key×V)}{T:Ty}{k:Bool->Prop}(h:H a=some (.dK xs))(q:k (T==.dict)):br T (.ref a) H k:=by
 show(match H a with|some (.lst _)=>k (T==.list)|some (.aY _<|.lst _)=>k (T==.list)|some (.tup _)=>k (T==.tuple)|some (.dK _)=>k (T==.dict)|some (.dT _)=>k (T==.dict)|_=>False)
 rw[h];exact q
theorem Run.good{l r:List Nat}(h:Run l ps r)(hl:∀c∈l,SG.cps.contains c=true)(hp:∀p∈ps,zA p):∀c∈r,SG.cps.contains c=true:=by
 induction h with
 |nil=>exact hl
 |keep e _ ih=>
  intro c hc;rcases zai.mp hc with z|z
  ·exact hl c (zai.mpr<|.inl z)
  ·exact ih (fun d hd=>hl d<|zai.mpr<|.inr hd) (fun p h=>hp p<|.tail _ h) c z
 |put _ ih=>
  intro c hc;rcases zai.mp hc with z|z
  ·exact(hp _ (.head _):sg _) c z
  ·exact ih hl (fun p h=>hp p<|.tail _ h) c z
 |cut _ ih=>exact ih (fun d hd=>hl d<|zai.mpr<|.inr hd) (fun p h=>hp p<|.tail _ h)
theorem Run.len{l r:List Nat}(h:Run l ps r):r.length<=l.length+aQ ps:=by
 induction h with
 |nil=>simp
 | @keep a l r n ps e _ ih=>
  have:aQ (.keep n::ps)=0+aQ ps:=by simp[aQ,eG]
  simp only[zqA];lia
 | @put s l r ps _ ih=>
  have:aQ (.put s::ps)=s.length+aQ ps:=by simp[aQ,eG]
  have e:=len_list s
  simp only[zqA];lia
 | @cut s l r ps _ ih=>
  have:aQ (.cut s::ps)=s.length+aQ ps:=by simp[aQ,eG]
  simp only[zqA];lia
def zT:Sp:=fun vs H Q E=>∃x a xs ps r,vs=[.str x,.ref a]/\good x/\H a=some (.lst xs)/\bO H xs ps/\(∀p∈ps,Ga p)/\Run x.cps.toList ps r/\r.length<=1000000/\Q (.str ⟨r.toArray⟩) H
theorem VX{K:Frag}:bM (zT) (fun E=>aJ K [] [] (E:=E)) Eb yI:=by
 intro vs H Q E h;obtain⟨x,a,xs,ps,r,rfl,hx,ha,dP,aA,hr,zt,q⟩:=h;have hlen:=Paired.length dP;refine⟨_,rfl,a,rfl,⟨_,aw.of ha⟩,iD (K:=K) (a:=a) (xs:=xs) (fun i σ H2=>∃l1 l2 q1 q2 w v,σ=[some (.str x),some (.ref a),some (.str ⟨q1.toArray⟩),some (.int ((l1.length:Nat):Int)),w,v]/\H2=H/\
   x.cps.toList=l1++l2/\r=q1++q2/\Run l2 (ps.drop i) q2)
  ⟨[],x.cps.toList,[],r,none,none,rfl,rfl,rfl,rfl,hr⟩ (fun i σ H2 _ ⟨_,_,_,_,_,_,_,e,_⟩=>e ▸ aw.of ha) ?_ ?_⟩
 ·rintro i y σ H2 hi ⟨l1,l2,q1,q2,w,v,rfl,rfl,e1,e2,gQ⟩;obtain⟨pt,iW,b,rfl,hb⟩:=dP.get hi;have dE:i<ps.length:=(zal.mp iW).1;have ed:ps.drop i=pt::ps.drop (i+1):=by
   rw[zbK dE]
   congr 1
   exact zan<|(zaE dE).symm.trans iW
  rw[ed] at gQ;obtain⟨la,lb,qa,qb,rfl,rfl,zU,one⟩:=GQ gQ;have VY:=aA pt (zat iW);have HB:q1.length+qa.length<=1000000:=by rw[e2] at zt;simp at zt;lia
  refine⟨b,_,rfl,.inl<|aO.of hb,rfl,_,_,rfl,_,_,rfl,rfl,?_⟩;cases pt with
  |put s=>
   obtain⟨rfl,rfl⟩:=one;refine⟨_,rfl,_,rfl,_,rfl,_,rfl,cq (by rw[len_list,len_list];exact HB),?_⟩
   refine⟨l1,lb,q1++s.cps.toList,qb,some<|.str "put",some<|.str s,?_,rfl,e1,by rw[e2];simp,zU⟩
   show[_,_,some<|V.str<|⟨q1.toArray⟩++s,_,_,_]=_;rw[show(⟨q1.toArray⟩++s:Str)=⟨(q1++s.cps.toList).toArray⟩ from jC (by rw[app_list])]
   rfl
  |cut s=>
   obtain⟨rfl,rfl⟩:=one;refine⟨_,rfl,_,rfl,_,rfl,_,rfl,_,rfl,_,rfl,cq VY,?_⟩;refine⟨l1++s.cps.toList,lb,q1,qb,some<|.str "cut",some<|.str s,?_,rfl,by rw[e1];simp,e2,zU⟩
   show[_,_,_,some<|V.int<|(l1.length:Int)+(s.length:Int),_,_]=_;rw[zqA,<-len_list,zaW]
   rfl
  |keep n=>
   obtain⟨rfl,hn⟩:=one;refine⟨_,rfl,_,rfl,_,rfl,_,rfl,?_⟩;refine⟨_,rfl,_,rfl,_,rfl,_,rfl,_,rfl,_,rfl,_,rfl,cq hx.1,?_⟩;rw[GS e1 n hn];refine⟨cq (by rw[len_list,len_list];exact HB),?_⟩
   refine⟨_,rfl,_,rfl,?_⟩;refine⟨l1++la,lb,q1++la,qb,some<|.str "keep",some<|.int n,?_,rfl,by rw[e1];simp,by rw[e2];simp,zU⟩
   show[_,_,some<|V.str<|⟨q1.toArray⟩++ ⟨la.toArray⟩,some<|V.int<|(l1.length:Int)+n,_,_]=_;rw[show(⟨q1.toArray⟩++ ⟨la.toArray⟩:Str)=⟨(q1++la).toArray⟩ from jC (by rw[app_list]),zqA,hn,zaW]
   rfl
 ·rintro σ H2 ⟨l1,l2,q1,q2,w,v,rfl,rfl,e1,e2,gQ⟩;rw[hlen,List.drop_length] at gQ;cases gQ;rw[zag] at e2;subst e2;exact⟨_,rfl,q⟩
end L2.B
namespace L2
open PySem PySem.Spec PyProof.Rows
theorem jF{α:Type _}{p:α->Prop}:∀x∈ ([]:List α),p x:=fun _ h=>nomatch h
theorem jG{α:Type _}{p:α->Prop}{a:α}{l:List α}(h:p a)(t:∀x∈l,p x):∀x∈a::l,p x:=List.forall_mem_cons.2 ⟨h,t⟩
section
variable {P:Program}{w:World}{K:Frag}{mg:Str->Option Value}{base:Heap}{k:Nat}
theorem bZ.or{CX:bE}{f:Addr}{fd:FuncData}{ps:List Str}{a b:Sp}(A:bZ P w K mg base CX k f fd ps a)(C:bZ P w K mg base CX k f fd ps b):bZ P w K mg base CX k f fd ps (B.pG a b):=
 ⟨fun vs H Q E h=>h.elim (A.len vs H Q E)<|C.len vs H Q E,fun A' outer s H args us vs Q E hr e0 hb hv hs=>hs.elim (A.run A' outer s H args us vs Q E hr e0 hb hv)<|C.run A' outer s H args us vs Q E hr e0 hb hv⟩
theorem bZ.weak{CX:bE}{f:Addr}{fd:FuncData}{ps:List Str}{a b:Sp}(A:bZ P w K mg base CX k f fd ps b)(h:∀vs H Q E,a vs H Q E->b vs H Q E):bZ P w K mg base CX k f fd ps a:=
 ⟨fun vs H Q E q=>A.len vs H Q E<|h _ _ _ _ q,fun A' outer s H args us vs Q E hr e0 hb hv hs=>A.run A' outer s H args us vs Q E hr e0 hb hv<|h _ _ _ _ hs⟩
theorem ju.weak{x:Str}{a b:Sp}(T:ju P w K mg base k x b)(h:∀vs H Q E,a vs H Q E->b vs H Q E):ju P w K mg base k x a:=by
 obtain⟨f,fd,ps,F,r⟩:=T;exact⟨f,fd,ps,F.weak h,r⟩
theorem fD.weak{x:Str}{a b:Sp}(T:fD P w K mg base k (x,C,b))(h:∀vs H Q E,a vs H Q E->b vs H Q E):fD P w K mg base k (x,C,a):=by
 obtain⟨c,f,fd,ps,m,F,r⟩:=T;exact⟨c,f,fd,ps,m,F.weak h,r⟩
theorem fE.weak{x:Str}{a b:Sp}(T:fE P w K mg base k (x,C,b))(h:∀vs H Q E,a vs H Q E->b vs H Q E):fE P w K mg base k (x,C,a):=by
 obtain⟨i,f,fd,ps,m,m2,F,r⟩:=T;exact⟨i,f,fd,ps,m,m2,F.weak h,r⟩
open PySem.W in
theorem VZ{x:Str}(X:K.In base)(G:base.Ns mainGlobals mg)(e:nsIn K mainGlobals x=some (some<|.ref C))(q:excIn K C [.type "ValueError",.type "Exception",.type "BaseException",.type "object"] "ValueError.__new__"=true):uX mg base (x,C):=by
 refine⟨_,_,_,_,⟨mg_of X G e,?_⟩,PySem.F.excBase_ValueError⟩;unfold excIn at q
 split at q
 ·rename_i dd cd sl ho
  split at q
  ·rename_i C' bm k0 k1 k2 k3 n k5 hm hs
   simp only[zac,beq_iff_eq,zaG] at q
   obtain⟨⟨⟨⟨⟨rfl,rfl⟩,HC⟩,ht⟩,aA⟩,uK⟩:=q;obtain⟨nm,bs,mro,ns,qn,hd,sn,sub,ab,col,del⟩:=cd
   dsimp only at hm HC aA uK
   subst hm HC;obtain⟨sl⟩:=sl;have cZ:sl=_:=hs;subst cZ;exact⟨bm,ns,nm,qn,bs,hd,sn,sub,ab,col,dd,k0,k1,k2,k3,k5,_,X _ _ ho,.of_isNs<|isNs_of_in X aA,nsMap_none_of_in X aA uK,tail_of_in X ht⟩
  ·cases q
 ·cases q
end
end L2
namespace L2.B
end L2.B
namespace L2.B
open PySem PySem.Spec PyProof.Rows
end L2.B
namespace L2
open PySem PySem.Spec PyProof.Rows
section
variable {Γ:aN}{D:Ends}{σ:St}{H:Hp}{r:List RS}{Q:VK}{QA:List V->Hp->Prop}{QT:Bool->Hp->Prop}
theorem ir{m:Str}(C:Addr)(sp:Sp)(hm:Γ.ms j=(C,sp))(h:ag Γ o σ H fun x H1=>∃a dx fs,x=.ref a/\H1 a=some (.ins C dx fs)/\fs.lookup m=none/\sp [x] H1 Q Γ.E):ag Γ (.bo j m o []) σ H Q:=by
 show mz (Γ.ms j).1 m (Γ.ms j).2 [] Γ.E (ag Γ o) (aL Γ []) σ H Q;rw[hm];exact h
theorem f9{m:Str}(C:Addr)(sp:Sp)(hm:Γ.ms j=(C,sp))(h:ag Γ o σ H fun x H1=>∃p dx fs,x=.ref p/\H1 p=some (.ins C dx fs)/\fs.lookup m=none/\ag Γ a σ H1 fun y H2=>sp [x,y] H2 Q Γ.E):ag Γ (.bo j m o [a]) σ H Q:=by
 show mz (Γ.ms j).1 m (Γ.ms j).2 [] Γ.E (ag Γ o) (aL Γ [a]) σ H Q;rw[hm];exact h
theorem zV(C:Addr)(sp:Sp)(hm:Γ.kt j=(C,sp))(h:ag Γ a σ H fun y H1=>∀x dx,H1 x=none->H1 dx=none->dx≠x->sp [.ref x,y] (upd (upd H1 dx<|.own x) x<|.ins C dx []) (fun v H2=>v=.aD/\Q (.ref x) H2) Γ.E):ag Γ (.make j [a]) σ H Q:=by
 show wR (Γ.kt j).1 (Γ.kt j).2 [] Γ.E (aL Γ [a]) σ H Q;rw[hm];exact h
theorem aZ{c:RE}{t e:List RS}(h:aU Γ c σ H fun b H1=>if b=true then aC Γ t {D with nx:=aC Γ r D} σ H1 else aC Γ e {D with nx:=aC Γ r D} σ H1):aC Γ (.ite c t e::r) D σ H:=h
theorem bj{op:CmpOp}{b:RE}(h:ag Γ a σ H fun x H1=>ag Γ b σ H1 fun y H2=>b8 Γ.K op x y H2 fun z H3=>∃k,z=.bl k/\QT k H3):aU Γ (.cmp op a b) σ H QT:=h
theorem gB{f:Str}(h:ag Γ o σ H fun x H1=>∃a C dx fs v,x=.ref a/\H1 a=some (.ins C dx fs)/\eV Γ.K C/\eW Γ.K C f/\fs.lookup f=some v/\Q v H1):ag Γ (.fld o f) σ H Q:=h
theorem HD{m:iL}(h:ag Γ o σ H fun x H1=>ua Γ.K (uC m) x H1/\ag Γ a σ H1 fun y H2=>xR Γ.K m x [y] H2 Q):ag Γ (.dU m o [a]) σ H Q:=h
theorem V0{K:Frag}{x:Str}(q:Q (.bl<|x==y) H):b8 K .Eq (.str x) (.str y) H Q:=by
 show Q (.bl<|false ^^ decide (V.str x=V.str y)) H;rw[zaI,g_];exact q
theorem V1{K:Frag}{x:Str}(q:Q (.bl<|x !=y) H):b8 K .NotEq (.str x) (.str y) H Q:=by
 show Q (.bl<|true ^^ decide (V.str x=V.str y)) H;rw[zaU,g_];exact q
end
end L2
namespace L2.B
open PySem PySem.Spec PyProof.Rows
def pK(v:V)(lo hi:Int)(H:Hp):Prop:=gz v H\/∃i,v=.int i/\(i<lo\/hi<i)
def fI:Sp:=fun vs H Q E=>∃(v:V) (lo hi:Int),vs=[v,.int lo,.int hi]/\((∃i,v=.int i/\lo<=i/\i<=hi/\Q (.bl true) H)\/(pK v lo hi H/\Q (.bl false) H))
theorem V3{K:Frag}:bM (fI) (fun E=>aJ K [("is_whole",gA)] [] (E:=E)) Ed Ec:=by
 intro vs H Q E h;have chain:∀(i lo hi:Int) (b:Bool) (H:Hp),decide (lo<=i/\i<=hi)=b->Q (.bl b) H->ag (aJ K [("is_whole",gA)] [] (E:=E)) (.iM .LtE .LtE (.v 1) (.v 0)<|.v 2) [some<|.int i,some<|.int lo,some<|.int hi] H Q:=by
  intro i lo hi b H hb q;refine⟨_,rfl,_,rfl,trivial,_,rfl,?_⟩;refine cw (fun h1=>?_)<|fun h1=>?_
  ·refine⟨_,rfl,trivial,?_⟩;have vO:lo<=i:=of_decide_eq_true h1;have e:decide (i<=hi)=b:=by rw[<-hb];simp[vO]
   show Q (.bl<|decide<|i<=hi) H;rw[e];exact q
  ·have vO:¬lo<=i:=fun z=>h1 (zqT z);have e:b=false:=by rw[<-hb];simp[vO]
   have e2:decide (lo<=i)=false:=zqF vO;rw[e] at q
   first
    |exact q
    | (show Q (.bl<|decide<|lo<=i) H;rw[e2];exact q)
 obtain⟨v,lo,hi,rfl,⟨i,rfl,h1,h2,q⟩|⟨hn|⟨i,rfl,hb⟩,q⟩⟩:=h
 ·exact⟨_,rfl,_,rfl,.inl ⟨i,rfl,_,rfl,fk<|chain i lo hi true H (by simp[h1,h2]) q⟩⟩
 ·exact⟨_,rfl,_,rfl,.inr ⟨hn,_,rfl,jU q⟩⟩
 ·exact⟨_,rfl,_,rfl,.inl ⟨i,rfl,_,rfl,fk<|chain i lo hi false H (by rw[zqF];rintro⟨a,b⟩;lia) q⟩⟩
theorem V4{E:XK}(h:zL vs H Q E):fI vs H Q E:=by
 obtain⟨i,lo,hi,rfl,h1,h2,q⟩:=h;exact⟨_,lo,hi,rfl,.inl ⟨i,rfl,h1,h2,q⟩⟩
def nR(v:V)(H:Hp):Prop:=gw .str v H\/∃s,v=.str s/\s≠"left"/\s≠"right"
theorem nR.same(h:nR v H)(s:aB H H'):nR v H':=by
 rcases h with h|h
 ·exact .inl (gw.same h s)
 ·exact .inr h
def pL(C:Addr):Sp:=fun vs H Q E=>∃v:V,vs=[v]/\((∃s:Str,v=.str s/\(s="left"\/s="right")/\Q .aD H)\/(nR v H/\E (.ref C) none H))
theorem V5{K:Frag}{p:Addr}(P:Hn K p SD):bM (pL C) (fun E=>aJ K [("is_word",zN K)] [("SIDES",.ref p)] (et:=[("BadSide",C)]) (E:=E)) EH EG:=by
 intro vs H Q E h;obtain⟨v,rfl,⟨s,rfl,hs,q⟩|⟨hn|⟨s,rfl,h1,h2⟩,q⟩⟩:=h
 ·refine⟨_,rfl,.str s,p,SD,rfl,P H,rfl,.inl ⟨s,rfl,?_⟩⟩;have e:e8 (.str s) SD=true:=by rcases hs with rfl|rfl<;>decide
  rw[e];exact q
 ·exact⟨_,rfl,v,p,SD,rfl,P H,rfl,.inr ⟨hn,d3,q⟩⟩
 ·refine⟨_,rfl,.str s,p,SD,rfl,P H,rfl,.inl ⟨s,rfl,?_⟩⟩;have e:e8 (.str s) SD=false:=by
   have e1:((Str.ofString "left"==s)||((Str.ofString "right"==s)||false))=false:=by
    rw[beq_eq_false_iff_ne.mpr<|Ne.symm h1,beq_eq_false_iff_ne.mpr<|Ne.symm h2];rfl
   exact e1
  rw[e];exact⟨d3,q⟩
theorem V6{E:XK}(h:zK vs H Q E):pL C vs H Q E:=by
 obtain⟨s,rfl,hs,q⟩:=h;exact⟨_,rfl,.inl ⟨s,rfl,hs,q⟩⟩
def V7(v:V)(H:Hp)(ps:List Pt):Prop:= ∃a xs,v=.ref a/\H a=some (.lst xs)/\bO H xs ps/\(∀q∈ps,il q)/\chainOk "" ps=true/\ps.length<=1000
end L2.B
namespace L2.B
open PySem PySem.StrLaws
end L2.B
namespace L2.B
open PySem PySem.Spec PyProof.Rows
end L2.B
namespace L2
open PySem PySem.Spec PyProof.Rows
section
variable {Γ:aN}{D:Ends}{σ:St}{H:Hp}{r:List RS}{Q:VK}{QA:List V->Hp->Prop}{QT:Bool->Hp->Prop}
theorem dZ{K:Frag}{b:Bool}{QB:Bool->Prop}(h:QB b):ji K (.bl b) H QB:=h
theorem dD(h:aU Γ a σ H fun b H1=>QT (!b) H1):aU Γ (.not a) σ H QT:=h
theorem d0(sp:Sp)(hs:Γ.fs j=sp)(h:aL Γ as σ H fun vs H1=>sp vs H1 (fun x H2=>ji Γ.K x H2 fun b=>QT b H2) Γ.E):aU Γ (.call j as) σ H QT:=by
 subst hs;show aL Γ as σ H fun vs H1=>Γ.fs j (vs++[]) H1 (fun x H2=>ji Γ.K x H2 fun b=>QT b H2) Γ.E;have e:(fun(vs:List V) (H1:Hp)=>Γ.fs j (vs++[]) H1 (fun x H2=>ji Γ.K x H2 fun b=>QT b H2) Γ.E)=fun vs H1=>Γ.fs j vs H1 (fun x H2=>ji Γ.K x H2 fun b=>QT b H2) Γ.E:=by
  funext vs H1;rw[zag]
 rw[e];exact h
theorem jH{b:RE}(h:aU Γ a σ H fun c H1=>if c=true then QT true H1 else aU Γ b σ H1 QT):aU Γ (.or [a,b]) σ H QT:=h
theorem V8{b:RE}(h:aU Γ a σ H fun c H1=>if c=true then aU Γ b σ H1 QT else QT false H1):aU Γ (.and [a,b]) σ H QT:=h
end
end L2
namespace L2.B
open PySem PySem.Spec PyProof.Rows
section
variable {Γ:aN}{σ:St}{H:Hp}{Q:VK}{QT:Bool->Hp->Prop}{K:Frag}
theorem V9{T:Ty}(h:ag Γ a σ H fun x H1=>br T x H1 fun b=>QT b H1):aU Γ (.d_ T a) σ H QT:=by
 show eF Γ.K (dg (jj T)<|cA (ag Γ a)<|cA (tC<|.ty T.nm) fK) σ H QT;have e:∀(q:VK),(fun(x:V) (H1:Hp)=>br T x H1 fun b=>q (.bl b) H1)=fun x H1=>jj T [x,.ty T.nm] H1 q:=by
  intro q;funext x H1;simp[jj]
 show ag Γ a σ H fun x H1=>jj T [x,.ty T.nm] H1 fun v H2=>ji Γ.K v H2 fun b=>QT b H2;rw[<-e];exact h
theorem kx{sd:Addr->List (Key×V)->Prop}{a:Addr}{i:Int}(h:H a=some (.tup xs))(e:eZ xs i=some v)(q:Q v H):lj K sd (.ref a) (.int i) H Q:=
 .inr (.inl ⟨_,_,_,_,rfl,rfl,aO.of h,e,q⟩)
theorem cG{x y:Int}(q:Q (.bl<|decide<|x=y) H):b8 K .Eq (.int x) (.int y) H Q:=by
 show Q (.bl<|false ^^ decide (V.int x=V.int y)) H;rw[zaI,show decide (V.int x=V.int y)=decide (x=y) from decide_eq_decide.mpr ⟨fun z=>by injection z,fun z=>by rw[z]⟩];exact q
theorem si{x y:Int}(q:Q (.bl<|!decide (x=y)) H):b8 K .NotEq (.int x) (.int y) H Q:=by
 show Q (.bl<|true ^^ decide (V.int x=V.int y)) H;rw[zaU,show decide (V.int x=V.int y)=decide (x=y) from decide_eq_decide.mpr ⟨fun z=>by injection z,fun z=>by rw[z]⟩];exact q
theorem V_{x:Str}(q:Q (.bl false) H):b8 K .NotEq (.str x) (.str x) H Q:=by
 refine V1 ?_;rw[show(x !=x)=false by simp];exact q
theorem i8{i j:Int}(h:Q (.int<|i+j) H):iK K .Add (.int i) (.int j) H Q:=h
theorem zW(h:∀p,H p=none->Q (.ref p) (upd H p<|.dK [])):ag Γ .k_ σ H Q:=h
end
end L2.B
namespace L2.N
open PySem PySem.Spec PyProof.Rows L2.B
end L2.N
namespace L2.N
open PySem PySem.Spec L2.B
theorem cO{r:List RS}(h:aC Γ r D σ H):aC Γ [] {D with nx:=aC Γ r D} σ H:=h
end L2.N
namespace L2.B
open PySem PySem.Spec PyProof.Rows
theorem Wa{K:Frag}{QQ:List V->Hp->Addr->Prop}{te:TE}{a:Addr}(ha:H a=some (.lst xs))(hl:xs.length<=1000000)(P:Nat->List V->Hp->Prop)(p0:P 0 [] H)
  (step:∀i x ys H2,xs[i]?=some x->aB H H2->P i ys H2->∀Q':VK,(∀y H3,aB H2 H3->P (i+1) (ys++[y]) H3->Q' y H3)->te (some x::bU σ fv) H2 Q')
  (fin:∀ys H2 p,aB H H2->P xs.length ys H2->H2 p=none->QQ ys H2 p):∃W:Nat->Nat->List V->Hp->Prop,(∃m,W 0 m [] H)/\∀i m ys H2,W i m ys H2->
   ((eE K a).stop i H2/\∀p,H2 p=none->QQ ys H2 p)\/
   ((eE K a).go i H2/\∀x H3,(eE K a).gh i H2 x H3->iJ K none x H3 fun zs=>jV none (zs.map some++bU σ fv) H3 fun b H5=>
    if b=true then te (zs.map some++bU σ fv) H5 fun y H6=>ys.length<sizeLine/\∃m',m'<m/\W (i+1) m' (ys++[y]) H6 else ∃m',m'<m/\W (i+1) m' ys H5):=by
 refine⟨fun i m ys H2=>m=xs.length - i/\i<=xs.length/\ys.length=i/\aB H H2/\P i ys H2,⟨_,rfl,zqZ _,rfl,aB.refl _,p0⟩,?_⟩;rintro i m ys H2 ⟨rfl,hi,hy,s,p⟩;by_cases aI:i<xs.length
 ·refine .inr ⟨⟨xs,xs[i],aw.of<|s _ _ ha,by simp[aI]⟩,?_⟩
  rintro x H3 ⟨rfl,hx⟩;have mH:=hx xs (aw.of<|s _ _ ha);exact step i x ys _ mH s p _ fun y H4 s4 p4=>⟨dr (by lia),xs.length - (i+1),by lia,rfl,aI,by simp[hy],s.trans s4,p4⟩
 ·have dQ:i=xs.length:=by lia
  subst dQ;exact .inl ⟨⟨xs,aw.of<|s _ _ ha,zqR _⟩,fun q hq=>fin ys _ q s p hq⟩
end L2.B
namespace L2.N
open PySem PySem.Spec L2.B
section
variable {Γ:aN}{D:Ends}{σ:St}{H:Hp}{r:List RS}{Q:VK}
theorem lU{x:RE}(A B:VK)(HE:∀v H1,A v H1↔B v H1)(ha:ag Γ x σ H A):ag Γ x σ H B:=by
 have:A=B:=funext fun x=>funext fun H1=>propext (HE x H1);rw[<-this];exact ha
theorem Wb{x elt:RE}(h:ag Γ x σ H fun v H1=>∃a,v=.ref a/\(∃xs,aw Γ.K H1 a xs)/\∃W:Nat->Nat->List V->Hp->Prop,(∃m,W 0 m [] H1)/\∀i m ys H2,W i m ys H2->
   ((eE Γ.K a).stop i H2/\∀p,H2 p=none->Q (.ref p) (upd H2 p<|.lst ys))\/
   ((eE Γ.K a).go i H2/\∀x H3,(eE Γ.K a).gh i H2 x H3->iJ Γ.K none x H3 fun zs=>jV none (zs.map some++bU σ fv) H3 fun b H5=>
    if b=true then ag Γ.calm elt (zs.map some++bU σ fv) H5 fun y H6=>ys.length<sizeLine/\∃m',m'<m/\W (i+1) m' (ys++[y]) H6 else ∃m',m'<m/\W (i+1) m' ys H5)):ag Γ (.comp none fv .list [x] none elt) σ H Q:=lU (x:=x) _ _ (fun _ _=>Iff.rfl) h
theorem jI{m:Str}{b:RE}(C:Addr)(sp:Sp)(hm:Γ.ms j=(C,sp))(h:ag Γ o σ H fun x H1=>∃p dx fs,x=.ref p/\H1 p=some (.ins C dx fs)/\fs.lookup m=none/\ag Γ a σ H1 fun y H2=>ag Γ b σ H2 fun z H3=>sp [x,y,z] H3 Q Γ.E):ag Γ (.bo j m o [a,b]) σ H Q:=by
 show mz (Γ.ms j).1 m (Γ.ms j).2 [] Γ.E (ag Γ o) (aL Γ [a,b]) σ H Q;rw[hm];exact h
theorem lV{x:RE}(h:ag Γ x σ H fun v H1=>qy Γ.K v H1 fun n=>Q (.int n) H1):ag Γ (.blt .len [x]) σ H Q:=h
end
section
variable {Γ:aN}{D:Ends}{σ:St}{H:Hp}{r:List RS}{Q:VK}{QT:Bool->Hp->Prop}
theorem sj{f:Str}(h:ag Γ e σ H fun v H1=>ag Γ o σ H1 fun x H2=>∃a C dx fs,x=.ref a/\H2 a=some (.ins C dx fs)/\eV Γ.K C/\eW Γ.K C f/\fs.length<1000/\aC Γ r D σ (upd H2 a<|.ins C dx<|bq f v fs)):aC Γ (.gH o f e::r) D σ H:=h
end
theorem pM{r body:List RS}{x:RE}(h:ag Γ x σ H fun v H1=>∃a,v=.ref a/\(∃xs,aw Γ.K H1 a xs)/\∃W:Nat->Nat->St->Hp->Prop,(∃m,W 0 m σ H1)/\∀j m σ H,W j m σ H->
  ((eE Γ.K a).stop j H/\({D with nx:=aC Γ r D}:Ends).nx σ H)\/((eE Γ.K a).go j H/\∃N:St->Hp->Prop,(∀σ' H',N σ' H'->∃m',m'<m/\W (j+1) m' σ' H')/\∀x H',(eE Γ.K a).gh j H x H'->df i x σ H' fun σ2 H2=>aC Γ body {({D with nx:=aC Γ r D}:Ends) with nx:=N,ct:=N,bk:=({D with nx:=aC Γ r D}:Ends).nx} σ2 H2)):
  aC Γ (.fO i .list [x] body::r) D σ H:=lU (x:=x) _ _ (fun _ _=>Iff.rfl) h
section
variable {Γ:aN}{D:Ends}{σ:St}{H:Hp}{r:List RS}{Q:VK}{QT:Bool->Hp->Prop}
theorem pN{i:RE}(h:ag Γ e σ H fun v H1=>ag Γ o σ H1 fun x H2=>ag Γ i σ H2 fun y H3=>∃a H4,x=.ref a/\iH H3 a y v H4/\aC Γ r D σ H4):aC Γ (.dput o i e::r) D σ H:=h
theorem dR{b:RE}(h:ag Γ a σ H fun x H1=>ag Γ b σ H1 fun y H2=>∃d v,x=.ref d/\cm H2 d y (some v)/\Q v H2):ag Γ (.bR a b) σ H Q:=h
theorem zX{b:RE}(h:ag Γ a σ H fun y H1=>ag Γ b σ H1 fun x H2=>∃d o,x=.ref d/\cm H2 d y o/\∃k,V.bl (!o.isSome)=.bl k/\QT k H2):aU Γ (.oN a b) σ H QT:=h
end
abbrev Sd:=Nat×Str
abbrev Ent:=Nat×List Sd
def fc(H:Hp)(v:V)(q:Sd):Prop:= ∃t,v=.ref t/\H t=some (.tup [.int (q.1:Nat),.str q.2])
def gR(M:List Addr)(H:Hp)(kv:Key×V)(e:Ent):Prop:= ∃l xs,kv=(.inl (e.1:Nat),.ref l)/\H l=some (.lst xs)/\Paired (fc H) xs e.2/\l∉M
def s3(n g:Nat)(d:Addr):List (Str×V):=[("signs",.int (n:Nat)),("given",.int (g:Nat)),("stands",.ref d)]
theorem HF{g:Nat}:(s3 n g d).lookup ("signs":Str)=some (V.int (n:Nat)):=i0
theorem Wc{g:Nat}:(s3 n g d).lookup ("given":Str)=some (V.int (g:Nat)):=(da (by decide+kernel)).trans i0
theorem ky{g:Nat}:(s3 n g d).lookup ("stands":Str)=some (V.ref d):=(da (by decide+kernel)).trans ((da (by decide+kernel)).trans i0)
theorem sk{g:Nat}{m:Str}(h1:¬m="signs")(h2:¬m="given")(h3:¬m="stands"):(s3 n g d).lookup m=none:=(da h1).trans ((da h2).trans<|(da h3).trans rfl)
theorem Wd:bq "stands" (.ref d) (bq "given" (.int 0)<|bq "signs" (.int (n:Nat)) [])=s3 n 0 d:=by
 have e1:bq "signs" (V.int (n:Nat)) []=[(("signs":Str),V.int (n:Nat))]:=rfl;have e2:bq "given" (V.int 0) []=[(("given":Str),V.int 0)]:=rfl;unfold s3;rw[e1,gu (by decide+kernel),e2,gu (by decide+kernel),gu (by decide+kernel)];rfl
theorem We{g:Nat}:bq "given" (.int (j:Nat)) (s3 n g d)=s3 n j d:=by
 unfold s3;rw[gu (by decide+kernel),GU]
theorem Wf{g:Nat}:bq "signs" (.int (j:Nat)) (s3 n g d)=s3 j g d:=by
 unfold s3;rw[GU]
def nS(p d:Addr)(H H':Hp):Prop:= ∀b o,H b=some o->b≠p->b≠d->H' b=some o
theorem fc.mono(t:ij H H'){q:Sd}(h:fc H v q):fc H' v q:=by
 obtain⟨a,e,h⟩:=h;exact⟨a,e,t _ _ h⟩
structure bG (M:List Addr) (C:Addr) (H:Hp) (p dx d:Addr) (n g:Nat) (kvs:List (Key×V)) (es:List Ent):Prop where
 ob:H p=some (.ins C dx<|s3 n g d)
 st:H d=some (.dK kvs)
 kv:Paired (gR M H) kvs es
 up:(es.map (·.1)).Pairwise (· < ·)
 lt:∀e∈es,e.1<g
 pl:∀e∈es,∀q∈e.2,q.1<=n/\(q.2="left"\/q.2="right")
 al:∀m∈M,∃o,H m=some o
theorem jJ{M:List Addr}{a:Addr}{x:HO}(h:∀m∈M,∃o,H m=some o):∀m∈M,∃o,upd H a x m=some o:=fun m hm=>by
 by_cases e:m=a
 ·exact⟨x,by rw[e];exact az⟩
 ·obtain⟨o,z⟩:=h m hm;exact⟨o,by rw[av e];exact z⟩
section
variable {K:Frag}{M:List Addr}{C:Addr}{H H':Hp}{p dx d:Addr}{n g:Nat}{kvs:List (Key×V)}{es:List Ent}
theorem zY(b:nS p d H H')(hp:∀xs,H p≠some (.lst xs))(hd:∀xs,H d≠some (.lst xs))(qJ:∀xs,H p≠some (.tup xs))(qe:∀xs,H d≠some (.tup xs)){kvs:List (Key×V)}{es:List Ent}(h:Paired (gR M H) kvs es):Paired (gR M H') kvs es:=
 Paired.bY h fun kv e ⟨l,xs,e1,e2,e3,e4⟩=>⟨l,xs,e1,b _ _ e2 (fun z=>hp xs<|z ▸ e2)<|fun z=>hd xs<|z ▸ e2,Paired.bY e3 fun v q ⟨t,a1,a2⟩=>⟨t,a1,b _ _ a2 (fun z=>qJ _<|z ▸ a2)<|fun z=>qe _<|z ▸ a2⟩,e4⟩
theorem bG.ent(S:bG M C H p dx d n g kvs es)(b:nS p d H H'):Paired (gR M H') kvs es:=
 zY b (fun xs z=>by rw[S.ob] at z;cases z) (fun xs z=>by rw[S.st] at z;cases z) (fun xs z=>by rw[S.ob] at z;cases z) (fun xs z=>by rw[S.st] at z;cases z) S.kv
theorem bG.ne(S:bG M C H p dx d n g kvs es):p≠d:=fun z=>by have a:=S.ob;rw[z,S.st] at a;cases a
theorem bG.same(S:bG M C H p dx d n g kvs es)(s:aB H H'):bG M C H' p dx d n g kvs es:=⟨s _ _ S.ob,s _ _ S.st,S.ent fun b o e _ _=>s b o e,S.up,S.lt,S.pl,fun m hm=>let ⟨o,e⟩:=S.al m hm;⟨o,s _ _ e⟩⟩
theorem bG.nm(S:bG M C H p dx d n g kvs es):(kvs.map fun p=>kV p.1)=(es.map fun e=>((e.1:Nat):Int)).map V.int:=by
 have:∀{kvs:List (Key×V)}{es:List Ent},Paired (gR M H) kvs es->(kvs.map fun p=>kV p.1)=(es.map fun e=>((e.1:Nat):Int)).map V.int:=by
  intro kvs es h
  induction h with
  |nil=>rfl
  |cons a r ih=>
   obtain⟨l,xs,e1,_⟩:=a;rw[zak,zak,zak,ih,e1];rfl
 exact this S.kv
theorem Wg:∀{l:List Nat},l.Pairwise (· < ·)->l.Nodup:=fun h=>h.imp fun a=>zab a
theorem so:∀{kvs:List (Key×V)}{es:List Ent},Paired (gR M H) kvs es->(es.map (·.1)).Pairwise (· < ·)->∀{i:Nat}{e:Ent},es[i]?=some e->∃l xs,kvs[i]?=some (.inl (e.1:Nat),.ref l)/\cB kvs (.inl (e.1:Nat))=some (.ref l)/\H l=some (.lst xs)/\Paired (fc H) xs e.2
 |[],[],_,_,i,e,h=>by simp at h
 |_::kvs,_::es,.cons a r,hu,0,e,h=>by
  cases h;obtain⟨l,xs,e1,e2,e3,_⟩:=a;exact⟨l,xs,by rw[e1];rfl,by rw[e1];exact k7 rfl,e2,e3⟩
 |kv::kvs,e0::es,.cons a r,hu,i+1,e,h=>by
  rw[zak,List.pairwise_cons] at hu;have h':es[i]?=some e:=h;obtain⟨l,xs,e1,e2,e3,e4⟩:=so r hu.2 h';obtain⟨l0,Wh,a1,_⟩:=a;refine⟨l,xs,by simpa using e1,?_,e3,e4⟩
  have ne:¬kv.1=.inl ((e.1:Nat):Int):=by
   rw[a1];intro z;have z':((e0.1:Nat):Int)=((e.1:Nat):Int):=Sum.inl.inj z;have:=hu.1 e.1 (zbC<|zat h');omega
  rw[iG ne];exact e2
theorem zZ:∀{kvs:List (Key×V)}{es:List Ent},Paired (gR M H) kvs es->∀{i:Int},(∀e∈es,((e.1:Nat):Int)≠i)->cB kvs (.inl i)=none
 |[],[],_,_,_=>rfl
 |kv::kvs,e0::es,.cons a r,i,h=>by
  obtain⟨l0,Wh,a1,_⟩:=a;have ne:¬kv.1=.inl i:=by
   rw[a1];exact fun z=>h e0 (.head _)<|Sum.inl.inj z
  rw[iG ne];exact zZ r fun e he=>h e (.tail _ he)
def z0(C:Addr):Sp:=fun vs H Q E=>∃(p dx:Addr) (n:Nat),vs=[.ref p,.int (n:Nat)]/\H p=some (.ins C dx [])/\∀d H',H d=none->bG [] C H' p dx d n 0 [] []->(∀b o,H b=some o->b≠p->H' b=some o)->Q .aD H'
theorem Wi{CP:Addr}(T:jw K C):bM (z0 C) (fun E=>aJ K [("is_whole",gA)] [] (et:=[("NoPlace",CP)]) (E:=E)) yX yW:=by
 intro vs H Q E h;obtain⟨p,dx,n,rfl,hp,k⟩:=h;refine aZ<|jH<|dD<|d0 gA rfl<|aq<|ah rfl<|aH ⟨_,rfl,.inl ⟨_,rfl,dZ<|iF (bj<|ah rfl<|ar ⟨trivial,_,rfl,iF (cO ?_)<|zqF (by show ¬(n:Int) <0;omega)⟩) rfl⟩⟩
 refine sj<|ah rfl<|ah rfl ⟨p,C,dx,[],rfl,hp,T.cl,T.vd,(by show 0<1000;decide),?_⟩
 refine sj<|ar<|ah rfl ⟨p,C,dx,_,rfl,az,T.cl,T.y7,(by show 1<1000;decide),?_⟩
 refine sj<|zW fun d fd=>?_;have gT:p≠d:=fun z=>by rw[<-z,az] at fd;cases fd
 refine ah rfl ⟨p,C,dx,_,rfl,(by rw[av gT];exact az),T.cl,T.jx,(by show 2<1000;decide),?_⟩
 have HG:H d=none:=by rw[av gT.symm,av gT.symm] at fd;exact fd
 refine k d _ HG ⟨?_,by rw[av gT.symm];exact az,.nil,List.Pairwise.nil,(fun e he=>by cases he),(fun e he=>by cases he),(fun e he=>by cases he)⟩ fun b o e nb=>?_
 ·rw[az];exact congrArg (fun l=>some<|HO.ins C dx l) Wd
 ·rw[av nb,av<|aS e HG,av nb,av nb];exact e
def f_(C:Addr):Sp:=fun vs H Q E=>∃(M:List Addr) (p dx d:Addr) (n g:Nat) (kvs:List (Key×V)) (es:List Ent),vs=[.ref p]/\bG M C H p dx d n g kvs es/\Q (.int (n:Nat)) H
theorem Wj(T:jw K C):bM (f_ C) (fun E=>aJ K [] [] (E:=E)) Ey vc:=by
 intro vs H Q E h;obtain⟨M,p,dx,d,n,g,kvs,es,rfl,S,q⟩:=h;exact bX<|gB<|ah rfl ⟨p,C,dx,_,_,rfl,S.ob,T.cl,T.vd,HF,q⟩
def vP(C:Addr):Sp:=fun vs H Q E=>∃(M:List Addr) (p dx d l:Addr) (n g:Nat) (kvs:List (Key×V)) (es:List Ent) (xs:List V) (sd:List Sd),vs=[.ref p,.ref l]/\bG M C H p dx d n g kvs es/\H l=some (.lst xs)/\Paired (fc H) xs sd/\l∉M/\es.length<=1000/\(∀q∈sd,q.1<=n/\(q.2="left"\/q.2="right"))/\
 ∀H',bG M C H' p dx d n (g+1) (kvs++[(.inl (g:Nat),.ref l)]) (es++[(g,sd)])->nS p d H H'->Q (.int (g:Nat)) H'
theorem Wk(T:jw K C):bM (vP C) (fun E=>aJ K [] [] (E:=E)) Eu Et:=by
 intro vs H Q E h;obtain⟨M,p,dx,d,l,n,g,kvs,es,xs,sd,rfl,S,hl,hs,nM,ll,hp,k⟩:=h;have lk:=Paired.length S.kv;have gT:=S.ne;refine bW<|gB<|ah rfl ⟨p,C,dx,_,_,rfl,S.ob,T.cl,T.y7,Wc,?_⟩;have hn:cB kvs (.inl ((g:Nat):Int))=none:=zZ S.kv fun e he z=>by have:=S.lt e he;omega
 refine pN<|ah rfl<|gB<|ah rfl ⟨p,C,dx,_,_,rfl,S.ob,T.cl,T.jx,ky,ah rfl ⟨d,_,rfl,iH.k (k:=.inl ((g:Nat):Int)) S.st<|dr (by omega),?_⟩⟩
 rw[qB _ hn];have Wl:upd H d (.dK<|kvs++[(.inl ((g:Nat):Int),V.ref l)]) p=some (.ins C dx<|s3 n g d):=by rw[av gT];exact S.ob
 refine sj<|bc<|ah rfl<|ar<|i8<|ah rfl ⟨p,C,dx,_,rfl,Wl,T.cl,T.y7,(by show 3<1000;decide),?_⟩
 have bu:nS p d H (upd (upd H d<|.dK<|kvs++[(.inl ((g:Nat):Int),V.ref l)]) p<|.ins C dx<|bq "given" (.int<|(g:Int)+1)<|s3 n g d):=fun b o e n1 n2=>by rw[av n1,av n2];exact e
 refine bX<|ah rfl<|k _ ⟨?_,by rw[av gT.symm];exact az,?_,?_,?_,?_,jJ<|jJ S.al⟩ bu
 ·rw[az,show(g:Int)+1=((g+1:Nat):Int) by omega,We]
 ·have nl:l≠p:=fun z=>by rw[z,S.ob] at hl;cases hl
  have Wm:l≠d:=fun z=>by rw[z,S.st] at hl;cases hl
  refine Paired.snoc (S.ent bu) ⟨l,xs,rfl,bu _ _ hl nl Wm,Paired.bY hs fun v q ⟨t,a1,a2⟩=>⟨t,a1,bu _ _ a2 (fun z=>by rw[z,S.ob] at a2;cases a2) (fun z=>by rw[z,S.st] at a2;cases a2)⟩,nM⟩
 ·rw[zav,List.pairwise_append];refine⟨S.up,List.pairwise_singleton ..,fun a ha b hb=>?_⟩;obtain⟨e,he,rfl⟩:=zay.mp ha;rw[zaj.mp hb];exact S.lt e he
 ·intro e he;rcases zai.mp he with he|he
  ·exact zaA (S.lt e he)
  ·rw[zaj.mp he];exact zaZ _
 ·intro e he;rcases zai.mp he with he|he
  ·exact S.pl e he
  ·rw[zaj.mp he];exact hp
def nU(C:Addr):Sp:=fun vs H Q E=>∃(M:List Addr) (p dx d:Addr) (n g i:Nat) (kvs:List (Key×V)) (es:List Ent) (e:Ent),vs=[.ref p,.int (e.1:Nat)]/\bG M C H p dx d n g kvs es/\es[i]?=some e/\∀l xs,H l=some (.lst xs)->Paired (fc H) xs e.2->Q (.ref l) H
theorem Wn{CM:Addr}(T:jw K C):bM (nU C) (fun E=>aJ K [("is_whole",gA)] [] (et:=[("NoMark",CM)]) (E:=E)) yY ib:=by
 intro vs H Q E h;obtain⟨M,p,dx,d,n,g,i,kvs,es,e,rfl,S,he,k⟩:=h;obtain⟨l,xs,v1,v2,v3,v4⟩:=so S.kv S.up he;have hg:cm H d (.int ((e.1:Nat):Int)) (some<|.ref l):=by
  have:=cm.k (k:=.inl ((e.1:Nat):Int)) S.st;rw[v2] at this;exact this
 refine aZ<|jH<|dD<|d0 gA rfl<|aq<|ah rfl<|aH ⟨_,rfl,.inl ⟨_,rfl,dZ<|iF ?_ rfl⟩⟩;refine zX<|ah rfl<|gB<|ah rfl ⟨p,C,dx,_,_,rfl,S.ob,T.cl,T.jx,ky,d,_,rfl,hg,false,rfl,iF (cO ?_) rfl⟩;exact bX<|dR<|gB<|ah rfl ⟨p,C,dx,_,_,rfl,S.ob,T.cl,T.jx,ky,ah rfl ⟨d,_,rfl,hg,k l xs v3 v4⟩⟩
def nV(C:Addr):Sp:=fun vs H Q E=>∃(M:List Addr) (p dx d:Addr) (n g:Nat) (kvs:List (Key×V)) (es:List Ent),vs=[.ref p]/\bG M C H p dx d n g kvs es/\es.length<64/\∀l,H l=none->Q (.ref l) (upd H l<|.lst<|(es.map fun e=>((e.1:Nat):Int)).map V.int)
theorem Wo{es:List Ent}(h:(es.map (·.1)).Pairwise (· < ·)):(es.map fun e=>((e.1:Nat):Int)).Pairwise (· <= ·):=by
 rw[zbe] at h⊢;exact h.imp fun a=>by omega
theorem HH{a b:List Int}(p:a.Perm b)(ha:a.Pairwise (· <= ·))(hb:b.Pairwise (· <= ·)):a=b:=p.eq_of_pairwise (fun x y _ _ h1 h2=>Int.le_antisymm h1 h2) ha hb
theorem Wq(T:jw K C):bM (nV C) (fun E=>aJ K [] [] (E:=E)) Ew vc:=by
 intro vs H Q E h;obtain⟨M,p,dx,d,n,g,kvs,es,rfl,S,cE,q⟩:=h;refine bX (show aL (aJ K [] [] (E:=E)) [(.fld (.v 0) "stands")] _ H (fun vs H1=>o8 K vs H1 Q) from aq (gB<|ah rfl ⟨p,C,dx,_,_,rfl,S.ob,T.cl,T.jx,ky,aH ⟨d,kvs,_,rfl,S.st,S.nm,by rw[zaa];exact cE,fun l ms fl pm pw=>?_⟩⟩))
 rw[HH pm pw<|Wo S.up];exact q l fl
end
section
variable {Γ:aN}{D:Ends}{σ:St}{H:Hp}{r:List RS}{Q:VK}
theorem vQ{i:Int}(h:Q (.int<|-i) H):ag Γ (.neg<|.c<|.int i) σ H Q:=h
end
theorem Wr{p:Pt}(h:il p):zA p:=by
 cases p with
 |keep n=>trivial
 |put s=>exact h.1.2
 |cut s=>exact h.1.2
section
variable {Γ:aN}{D:Ends}{σ:St}{H:Hp}{r:List RS}{Q:VK}
theorem Wt{lo hi:RE}(h:ag Γ a σ H fun x H1=>ag Γ lo σ H1 fun i H2=>∃i':Int,i=.int i'/\ag Γ hi σ H2 fun j H3=>∃j':Int,j=.int j'/\oP Γ.K x (some i') (some j') H3 Q):ag Γ (.sl a (some lo)<|some hi) σ H Q:=h
theorem HI{body:List RS}{x:RE}(h:ag Γ x σ H fun v H1=>∃n:Int,[v]=[.int n]/\ -(2 ^ 62)<=n/\n<2 ^ 62/\∃W:Nat->Nat->St->Hp->Prop,(∃m,W 0 m σ H1)/\∀j m σ H,W j m σ H->
  ((fh 0 n.toNat).stop j H/\({D with nx:=aC Γ r D}:Ends).nx σ H)\/((fh 0 n.toNat).go j H/\∃N:St->Hp->Prop,(∀σ' H',N σ' H'->∃m',m'<m/\W (j+1) m' σ' H')/\∀x H',(fh 0 n.toNat).gh j H x H'->df i x σ H' fun σ2 H2=>aC Γ body {({D with nx:=aC Γ r D}:Ends) with nx:=N,ct:=N,bk:=({D with nx:=aC Γ r D}:Ends).nx} σ2 H2)):
  aC Γ (.fO i .eS [x] body::r) D σ H:=lU (x:=x) _ _ (fun _ _=>Iff.rfl) h
end
theorem HJ{K:Frag}{i j:Int}(h:Q (.int<|i - j) H):iK K .Sub (.int i) (.int j) H Q:=⟨trivial,h⟩
end L2.N
namespace L2.B
open PySem PySem.Spec PyProof.Rows
end L2.B
namespace L2.B
open PySem PySem.Spec PyProof.Rows
theorem Wu{K:Frag}:bM (jB) (fun E=>aJ K [] [] (E:=E)) Ee yK:=by
 intro vs H Q E h;obtain⟨i,rfl,q⟩:=h;exact⟨_,rfl,rfl,_,rfl,fk ⟨_,rfl,rfl,q⟩⟩
end L2.B
namespace L2
open PySem PySem.Spec PyProof.Rows
theorem Wv{r:List RS}{is:List Nat}(h:ag Γ e σ H fun x H1=>mZ Γ.K is.length (lE is) x σ H1 (aC Γ r D)):aC Γ (.uB is e::r) D σ H:=h
theorem Ww{K:Frag}{t:Addr}{w:V}{Q:St->Hp->Prop}(ht:H t=some (.tup [v,w]))(q:Q ((σ.set i<|some v).set j<|some w) H):mZ K [i,j].length (lE [i,j]) (.ref t) σ H Q:=
 ⟨t,_,rfl,.inl<|aO.of ht,rfl,_,_,rfl,_,_,rfl,rfl,q⟩
end L2
namespace L2.N
open PySem PySem.Spec L2.B
section
variable {K:Frag}{H:Hp}{Q:VK}{Γ:aN}{σ:St}{D:Ends}
theorem sq{b:RE}{r:List RE}(h:ag Γ a σ H fun x H1=>∃c,x=.bl c/\if c=true then ag Γ (.and (b::r)) σ H1 Q else Q (.bl false) H1):ag Γ (.and (a::b::r)) σ H Q:=h
theorem HK(h:ag Γ a σ H Q):ag Γ (.and [a]) σ H Q:=h
theorem HL{op bT:CmpOp}{b d:RE}(h:ag Γ a σ H fun x H1=>ag Γ b σ H1 fun y H2=>b8 Γ.K op x y H2 fun z H3=>∃k,z=.bl k/\(if k=true then ag Γ d σ H3 fun w H4=>b8 Γ.K bT y w H4 Q else Q (.bl false) H3)):ag Γ (.iM op bT a b d) σ H Q:=h
theorem HM{op bT:CmpOp}{b d:RE}{QT:Bool->Hp->Prop}(h:ag Γ (.iM op bT a b d) σ H fun z H3=>∃k,z=.bl k/\QT k H3):aU Γ (.iM op bT a b d) σ H QT:=h
end
section
variable {K:Frag}
end
section
variable {K:Frag}
end
section
variable {K:Frag}
end
section
variable {K:Frag}
end
theorem pO{α β:Type}{R:α->β->Prop}:∀{xs:List α}{ys:List β}{i:Nat}{x:α},Paired R xs ys->xs[i]?=some x->∃y,ys[i]?=some y/\R x y
 |[],[],i,x,.nil,h=>by simp at h
 |x::xs,y::ys,0,w,.cons a r,h=>by cases h;exact⟨y,rfl,a⟩
 |x::xs,y::ys,i+1,w,.cons a r,h=>pO (xs:=xs) (ys:=ys) (i:=i) r (by simpa using h)
theorem sr{α:Type}{l:List α}{i:Nat}{x:α}(h:l[i]?=some x):l.take (i+1)=l.take i++[x]:=by
 have aI:i<l.length:=(zal.mp h).1;rw[List.take_succ_eq_append_getElem aI,(zal.mp h).2]
section
variable {K:Frag}
end
theorem HN:∀(k o n:Nat) (x:Nat×Nat),x∈gO o n k->x.2<n+k
 | 0,_,_,_,h=>by cases h
 |k+1,o,n,x,h=>by
  rcases zae.mp h with h|h
  ·rw[h];show n<n+(k+1);omega
  ·have:=HN k (o+1) (n+1) x h;omega
theorem vR:∀(ps:List Pt) (o n:Nat) (x:Nat×Nat),x∈cL (bx ps o n)->x.2<n+bh ps
 |[],_,_,_,h=>by cases h
 |.keep k::r,o,n,x,h=>by
  have h':x∈gO o n k.toNat++cL (bx r (o+k.toNat)<|n+k.toNat):=h;show x.2<n+(k.toNat+bh r);rcases zai.mp h' with h|h
  ·have:=HN _ _ _ _ h;omega
  ·have:=vR r _ _ x h;omega
 |.put s::r,o,n,x,h=>by
  have:=vR r o (n+s.length) x h;show x.2<n+(s.length+bh r);omega
 |.cut s::r,o,n,x,h=>vR r (o+s.length) n x h
theorem Wx(s:Str)(ps:List Pt)(p:Nat):mv s ps p<=bh ps:=by
 have h:∀x∈cL (bx ps 0 0),x.2<bh ps:=fun x hx=>by have:=vR ps 0 0 x hx;omega
 unfold mv
 split
 ·exact GV (zqZ _) h
 ·exact GW h
def HP(ps:List Pt)(q:Sd):Sd:=(mv q.2 ps q.1,q.2)
def sv(ps:List Pt)(e:Ent):Ent:=(e.1,e.2.map<|HP ps)
theorem z5{α β:Type}{R R':α->β->Prop}(m:∀a b,R a b->R' a b):∀{xs:List α}{ys:List β},Paired R xs ys->∀(i:Nat) {x:α}{y:β},R' x y->Paired R' (xs.set i x) (ys.set i y)
 |_,_,.nil,_,_,_,_=>.nil
 |_,_,.cons a r,0,_,_,h=>.cons h (Paired.bY r m)
 |_,_,.cons a r,i+1,_,_,h=>.cons (m _ _ a) (z5 m r i h)
theorem pw_inj{l:List Nat}(h:l.Pairwise (· < ·)){a:Nat}(hi:l[i]?=some a)(hj:l[j]?=some a):i=j:=by
 obtain⟨h1,e1⟩:=zal.mp hi;obtain⟨h2,e2⟩:=zal.mp hj;exact(zbr<|Wg h).mp<|e1.trans e2.symm
section
variable {K:Frag}{M:List Addr}{C:Addr}{H H':Hp}{p dx d:Addr}{n g:Nat}{kvs:List (Key×V)}{es:List Ent}
theorem HQ:∀{kvs:List (Key×V)}{es:List Ent},Paired (gR M H) kvs es->∀{i:Nat}{kv:Key×V},kvs[i]?=some kv->∃e,es[i]?=some e/\kv.1=.inl ((e.1:Nat):Int)
 |[],[],_,i,kv,h=>by simp at h
 |_::_,e0::_,.cons a r,0,kv,h=>by
  cases h;obtain⟨l,xs,e1,_⟩:=a;exact⟨e0,rfl,by rw[e1]⟩
 |_::kvs,_::es,.cons a r,i+1,kv,h=>HQ (i:=i) (kv:=kv) r h
theorem Wy(hv:Paired (gR M H) kvs es)(up:(es.map (·.1)).Pairwise (· < ·)){e:Ent}(he:es[i]?=some e)(v:V):putK kvs (.inl ((e.1:Nat):Int)) v=kvs.set i (.inl ((e.1:Nat):Int),v):=by
 obtain⟨l,xs,v1,v2,_⟩:=so hv up he;unfold putK;rw[qA,v2,if_pos (show(some<|V.ref l).isSome=true from rfl)]
 refine zbD fun j=>?_;rw[zah,zbE];cases hj:kvs[j]? with
 |none=>
  by_cases e1:i=j
  ·subst e1;rw[v1] at hj;cases hj
  ·rw[if_neg e1];rfl
 |some kv=>
  obtain⟨e',dY,hk⟩:=HQ (i:=j) (kv:=kv) hv hj;by_cases e1:i=j
  ·subst e1;rw[he] at dY;cases dY;have:=(zal.mp hj).1;rw[if_pos rfl,if_pos this];show some (if kv.1=_ then (kv.1,v) else kv)=_
   rw[if_pos hk,hk]
  ·rw[if_neg e1];show some (if kv.1=_ then (kv.1,v) else kv)=some kv
   rw[if_neg];rw[hk];intro z;have z':((e'.1:Nat):Int)=((e.1:Nat):Int):=Sum.inl.inj z;have z2:e'.1=e.1:=by omega
   exact e1<|pw_inj up (by rw[zah,he];rfl) (by rw[zah,dY];show some e'.1=some e.1;rw[z2])
theorem Wz{Ct x gb l:Addr}{rs:List (Nat×Nat×Nat)}{ov gv:Nat}{sd:List Sd}{it:RE}(hm:Γ.calm.ms 0=(Ct,pE Ct))(hx:σ[2]?=some (some<|.ref x))(T:nG Ct H x gb lo ln ll rs ov gv)(hi:eJ 0 0 rs)(hl:rs.length<=1000000)
  (hit:∀Q1:VK,Q1 (.ref l) H->ag Γ it σ H Q1) (ha:H l=some (.lst xs)) (hs:Paired (fc H) xs sd) (h3:sd.length<=1000)
  (q:∀w ys H',aB H H'->H w=none->H' w=some (.lst ys)->Paired (fc H') ys (sd.map fun q=>(se q.2 rs gv q.1,q.2))->Q (.ref w) H'):
  ag Γ (.comp (some 2) [("track",2)] .list [it] none<|.tup [(.bo 0 "lead" (.v 2) [.v 0,.v 1]),.v 1]) σ H Q:=by
 have lx:=Paired.length hs;have fv:bU σ [("track",2)]=[some<|.ref x]:=by
  show[(σ[2]?).join]=_;rw[hx];rfl
 refine hit _ ⟨l,rfl,⟨_,aw.of ha⟩,fun i m ys H2=>m=xs.length - i/\i<=xs.length/\ys.length=i/\aB H H2/\Paired (fc H2) ys ((sd.take i).map fun q=>(se q.2 rs gv q.1,q.2)),⟨_,rfl,zqZ _,rfl,aB.refl _,.nil⟩,?_⟩;rintro i m ys H2 ⟨rfl,dE,rS,s2,fY⟩;by_cases aI:i<xs.length
 ·refine .inr ⟨⟨xs,xs[i],aw.of<|s2 _ _ ha,by simp[aI]⟩,?_⟩
  rintro y H3 ⟨rfl,hy⟩;obtain⟨e,he,t,rfl,ht⟩:=pO hs (hy xs<|aw.of<|s2 _ _ ha);refine⟨t,_,rfl,aO.of<|s2 _ _ ht,rfl,?_⟩;rw[fv]
  suffices hh:ag Γ.calm (.tup [(.bo 0 "lead" (.v 2) [.v 0,.v 1]),.v 1]) [some<|.int (e.1:Nat),some<|.str e.2,some<|.ref x] H3 (fun y H6=>ys.length<sizeLine/\∃m',m'<xs.length - i/\m'=xs.length - (i+1)/\i+1<=xs.length/\(ys++[y]).length=i+1/\aB H H6/\Paired (fc H6) (ys++[y]) ((sd.take<|i+1).map fun q=>(se q.2 rs gv q.1,q.2))) from hh
  refine kq<|aq<|jI Ct (pE Ct) hm<|ah rfl ⟨x,gb,_,rfl,s2 _ _ T.ob,vF (by decide+kernel) (by decide+kernel) (by decide+kernel) (by decide+kernel) (by decide+kernel),ah rfl<|ah rfl ⟨x,gb,lo,ln,ll,rs,ov,gv,e.1,e.2,rfl,⟨s2 _ _ T.ob,s2 _ _ T.ol,s2 _ _ T.nw,s2 _ _ T.le⟩,hi,hl,?_⟩⟩
  refine aq<|ah rfl<|aH ⟨dw,fun w fw=>⟨dr (by omega),xs.length - (i+1),by omega,rfl,aI,by simp[rS],s2.trans<|sameNew fw,?_⟩⟩
  rw[zbf,he,zav];exact Paired.snoc (Paired.bY fY fun a b z=>fc.mono (dO<|sameNew fw) z) ⟨w,rfl,az⟩
 ·have dQ:i=xs.length:=by omega
  subst dQ;refine .inl ⟨⟨xs,aw.of<|s2 _ _ ha,zqR _⟩,fun w hw=>?_⟩;rw[lx,zaJ] at fY;have z:=sameNew (o:=.lst ys) hw;exact q w ys _ (s2.trans z) (s2.free hw) az<|Paired.bY fY fun a b z'=>fc.mono (dO z) z'
def z6(C:Addr):Sp:=fun vs H Q E=>∃(M:List Addr) (p dx d:Addr) (n g:Nat) (kvs:List (Key×V)) (es:List Ent) (v:V) (ps:List Pt),vs=[.ref p,v]/\bG M C H p dx d n g kvs es/\V7 v H ps/\bt ps=n/\es.length<=1000/\(∀e∈es,e.2.length<=1000)/\
 ∀cv H',bG M C H' p dx d (bh ps) g cv (es.map<|sv ps)->nS p d H H'->Q .aD H'
theorem WA{Ct CF:Addr}(T:jw K C)(U:lN K Ct):bM (z6 C) (fun E=>aJ K [] [] [] [("lead",Ct,pE Ct)] [("Track",Ct,rZ Ct)] (et:=[("BadFit",CF)]) (E:=E)) EA Ez:=by
 intro vs H Q E h;obtain⟨M,p,dx,d,n,g,kvs,es,_,ps,rfl,S,⟨a,xs,rfl,ha,dP,aA,eB,hl⟩,WB,l1,l2,k⟩:=h;have lk:=Paired.length S.kv;have gT:=S.ne;refine bW<|zV Ct (rZ Ct) rfl<|ah rfl fun x gb hx hd gp=>?_;have s1:aB H (upd (upd H gb<|.own x) x<|.ins Ct gb []):=fun b o e=>by rw[av<|aS e hx,av<|aS e hd];exact e
 refine⟨x,gb,a,xs,ps,rfl,az,s1 _ _ ha,dP.mono<|dO s1,aA,eB,hl,fun lo ln ll H1 TR b1=>⟨rfl,?_⟩⟩;have s2:aB H H1:=fun b o e=>b1 b o (s1 b o e) (aS e hx);have S1:=S.same s2;have ZY:p≠x:=aS S.ob hx;have WC:d≠x:=aS S.st hx;refine aZ<|bj<|gB<|ah rfl ⟨x,Ct,gb,_,_,rfl,TR.ob,U.cl,U.y8,G9,gB<|ah rfl ⟨p,C,dx,_,_,rfl,S1.ob,T.cl,T.vd,HF,si ⟨_,rfl,iF (cO ?_) ?_⟩⟩⟩
 rotate_left
 ·rw[WB];simp
 refine pM (show aL (aJ K [] [] [] [("lead",Ct,pE Ct)] [("Track",Ct,rZ Ct)] (et:=[("BadFit",CF)]) (E:=E)) [(.fld (.v 0) "stands")] _ H1 (fun vs H2=>rG K vs H2 _) from aq (gB<|ah rfl ⟨p,C,dx,_,_,rfl,S1.ob,T.cl,T.jx,ky,aH ⟨d,kvs,rfl,S1.st,fun L fL=>?_⟩⟩))
 have sL:=sameNew (o:=.lst (kvs.map fun p=>kV p.1)) fL;rw[S1.nm] at sL⊢;have hL:upd H1 L (.lst<|(es.map fun e=>((e.1:Nat):Int)).map V.int) L=some (.lst<|(es.map fun e=>((e.1:Nat):Int)).map V.int):=az;generalize upd H1 L (.lst<|(es.map fun e=>((e.1:Nat):Int)).map V.int)=H2 at sL hL⊢;have S2:=S1.same sL;have WD:d≠L:=aS S1.st fL;have sx:nG Ct H2 x gb lo ln ll (bx ps 0 0) (bt ps) (bh ps):=⟨sL _ _ TR.ob,sL _ _ TR.ol,sL _ _ TR.nw,sL _ _ TR.le⟩;have rl:=pq ps 0 0;refine⟨L,rfl,⟨_,aw.of hL⟩,iD (K:=K) (a:=L) (xs:=(es.map fun e=>((e.1:Nat):Int)).map V.int) (fun i σ H3=>∃(u:Option V) (cv:List (Key×V)) (fg:List Ent),σ=[some (.ref p),some (.ref a),some (.ref x),u]/\(∀b o,H2 b=some o->b≠d->H3 b=some o)/\H3 d=some (.dK cv)/\
  Paired (gR M H3) cv fg/\fg.map (·.1)=es.map (·.1)/\∀j,fg[j]?=if j<i then (es[j]?).map (sv ps) else es[j]?)
  ⟨none,kvs,es,rfl,fun b o e _=>e,S2.st,S2.kv,rfl,fun j=>by rw[if_neg (Nat.not_lt_zero _)]⟩ (fun i σ H3 _ ⟨_,_,_,_,b3,_⟩=>aw.of (b3 _ _ hL WD.symm)) ?_ ?_⟩
 ·rintro i y σ H3 hi ⟨u,cv,fg,rfl,b3,iu,sy,pP,vS⟩;rw[zah,zah] at hi;cases pQ:es[i]? with
  |none=>rw[pQ] at hi;cases hi
  |some e=>
   rw[pQ] at hi;cases hi;have dE:i<es.length:=(zal.mp pQ).1;have dY:fg[i]?=some e:=by rw[vS,if_neg<|zaB _];exact pQ
   have HR:(fg.map (·.1)).Pairwise (· < ·):=by rw[pP];exact S.up
   obtain⟨l,zs,v1,v2,v3,v4⟩:=so sy HR dY;have hg:cm H3 d (.int ((e.1:Nat):Int)) (some<|.ref l):=by
    have:=cm.k (k:=.inl ((e.1:Nat):Int)) iu;rw[v2] at this;exact this
   have f6:H3 p=some (.ins C dx<|s3 n g d):=b3 _ _ S2.ob gT;have WE:nG Ct H3 x gb lo ln ll (bx ps 0 0) (bt ps) (bh ps):=by
    have ne:∀{b:Addr}{o:HO},H2 b=some o->(∀kv,o≠ .dK kv)->H3 b=some o:=fun {b o} e n=>b3 _ _ e fun z=>by rw[z,S2.st] at e;cases e;exact n _ rfl
    exact⟨ne sx.ob (fun _ z=>by cases z),ne sx.ol (fun _ z=>by cases z),ne sx.nw (fun _ z=>by cases z),ne sx.le (fun _ z=>by cases z)⟩
   have ZZ:cv.length=es.length:=by
    have e1:=Paired.length sy;have e2:=congrArg List.length pP;rw[zaa,zaa] at e2;omega
   show aC _ [.dput (.fld (.v 0) "stands") (.v 3)<|.comp (some 2) [("track",2)] .list [(.bR (.fld (.v 0) "stands")<|.v 3)] none<|.tup [(.bo 0 "lead" (.v 2) [.v 0,.v 1]),.v 1]] _ [some<|.ref p,some<|.ref a,some<|.ref x,some<|.int ((e.1:Nat):Int)] H3;refine pN<|Wz rfl rfl WE (rX ps 0 0 aA) (by omega) (fun Q1 q1=>dR<|gB<|ah rfl ⟨p,C,dx,_,_,rfl,f6,T.cl,T.jx,ky,ah rfl ⟨d,_,rfl,hg,q1⟩⟩) v3 v4 (l2 e<|zat pQ) fun w ys H4 s4 fw hw fY=>?_
   refine gB<|ah rfl ⟨p,C,dx,_,_,rfl,s4 _ _ f6,T.cl,T.jx,ky,ah rfl ⟨d,_,rfl,iH.k (k:=.inl ((e.1:Nat):Int)) (s4 _ _ iu)<|dr (by omega),?_⟩⟩
   have HS:Paired (gR M H4) cv fg:=zY (p:=p) (d:=d) (fun b o e _ _=>s4 b o e) (fun xs z=>by rw[f6] at z;cases z) (fun xs z=>by rw[iu] at z;cases z) (fun xs z=>by rw[f6] at z;cases z) (fun xs z=>by rw[iu] at z;cases z) sy
   rw[Wy HS HR dY];have oS:=s4 _ _ iu;have bd:∀b o,H4 b=some o->b≠d->upd H4 d (.dK<|cv.set i (.inl ((e.1:Nat):Int),.ref w)) b=some o:=fun b o eb nb=>by rw[av nb];exact eb
   have zo:∀m∈M,∃o,H3 m=some o:=fun m hm=>by
    by_cases em:m=d
    ·exact⟨_,em ▸ iu⟩
    ·obtain⟨o,z⟩:=S2.al m hm;exact⟨o,b3 _ _ z em⟩
   have WG:w∉M:=fun hm=>by
    obtain⟨o,z⟩:=zo w hm;rw[fw] at z;cases z
   have WH:w≠d:=fun z=>by rw[z,iu] at fw;cases fw
   have tp:∀{b:Addr}{zs:List V},H4 b=some (.tup zs)->upd H4 d (.dK<|cv.set i (.inl ((e.1:Nat):Int),.ref w)) b=some (.tup zs):=fun {b zs} eb=>bd _ _ eb fun z=>by rw[z,oS] at eb;cases eb
   refine⟨_,_,fg.set i<|sv ps e,rfl,fun b o eb nb=>bd _ _ (s4 _ _<|b3 b o eb nb) nb,az,?_,?_,fun j=>?_⟩
   ·refine z5 (fun kv e' ⟨l',nP,a1,a2,a3,a4⟩=>⟨l',nP,a1,bd _ _ a2 (fun z=>by rw[z,oS] at a2;cases a2),Paired.bY a3 fun v q ⟨t,c1,c2⟩=>⟨t,c1,tp c2⟩,a4⟩) HS i ⟨w,ys,rfl,bd _ _ hw WH,?_,WG⟩
    exact Paired.bY fY fun v q ⟨t,c1,c2⟩=>⟨t,c1,tp c2⟩
   ·rw[List.map_set,<-pP];refine zbD fun j=>?_;rw[zbE];by_cases ej:i=j
    ·subst ej;have:i< (fg.map (·.1)).length:=by rw[pP,zaa];exact dE
     rw[if_pos rfl,if_pos this,zah,dY];rfl
    ·rw[if_neg ej]
   ·rw[zbE];by_cases ej:i=j
    ·subst ej;have:i<fg.length:=(zal.mp dY).1;rw[if_pos rfl,if_pos this,if_pos<|zaZ _,pQ];rfl
    ·rw[if_neg ej,vS];by_cases h1:j<i
     ·rw[if_pos h1,if_pos (by omega)]
     ·rw[if_neg h1,if_neg (by omega)]
 ·rintro σ H3 ⟨u,cv,fg,rfl,b3,iu,sy,pP,vS⟩;have ee:fg=es.map (sv ps):=by
   refine zbD fun j=>?_;rw[vS,zah,zaa,zaa];by_cases h1:j<es.length
   ·rw[if_pos h1]
   ·rw[if_neg h1,List.getElem?_eq_none (by omega)];rfl
  subst ee;have f6:H3 p=some (.ins C dx<|s3 n g d):=b3 _ _ S2.ob gT;have x3:H3 x=some (.ins Ct gb<|t5 lo ln ll (bt ps)<|bh ps):=b3 _ _ sx.ob WC.symm;refine sj<|gB<|ah rfl ⟨x,Ct,gb,_,_,rfl,x3,U.cl,U.y9,G_,ah rfl ⟨p,C,dx,_,rfl,f6,T.cl,T.vd,(by show 3<1000;decide),?_⟩⟩
  have bu:nS p d H3 (upd H3 p<|.ins C dx<|bq "signs" (.int ((bh ps:Nat):Int))<|s3 n g d):=fun b o e n1 n2=>by rw[av n1];exact e
  refine k cv _ ⟨?_,by rw[av gT.symm];exact iu,?_,?_,?_,?_,jJ fun m hm=>by
    by_cases em:m=d
    ·exact⟨_,em ▸ iu⟩
    ·obtain⟨o,z⟩:=S2.al m hm;exact⟨o,b3 _ _ z em⟩⟩ fun b o e n1 n2=>?_
  ·rw[az,Wf]
  ·exact zY bu (fun xs z=>by rw[f6] at z;cases z) (fun xs z=>by rw[iu] at z;cases z) (fun xs z=>by rw[f6] at z;cases z) (fun xs z=>by rw[iu] at z;cases z) sy
  ·rw[pP];exact S.up
  ·intro e he;obtain⟨e',dY,rfl⟩:=zay.mp he;exact S.lt e' dY
  ·intro e he q hq;obtain⟨e',dY,rfl⟩:=zay.mp he;obtain⟨q',mB,rfl⟩:=zay.mp hq;exact⟨Wx _ _ _,(S.pl e' dY q' mB).2⟩
  ·rw[av n1];exact b3 _ _ (sL _ _<|s2 _ _ e) n2
end
section
variable {K:Frag}{M:List Addr}{C:Addr}{H H':Hp}{p dx d:Addr}{n g:Nat}{kvs:List (Key×V)}{es:List Ent}
def pR(C:Addr):Sp:=fun vs H Q E=>∃(M:List Addr) (p dx d:Addr) (n g pl:Nat) (s:Str) (kvs:List (Key×V)) (es:List Ent),vs=[.ref p,.int (pl:Nat),.str s]/\bG M C H p dx d n g kvs es/\es.length<=1000/\pl<=n/\(s="left"\/s="right")/\
 ∀cv H',bG M C H' p dx d n (g+1) cv (es++[(g,[(pl,s)])])->nS p d H H'->Q (.int (g:Nat)) H'
theorem WI{CP CS:Addr}:bM (pR C) (fun E=>aJ K [("is_between",fI),("need_side",pL CS)] [] [] [("size",C,f_ C),("keep",C,vP C)] (et:=[("NoPlace",CP)]) (E:=E)) y2 rH:=by
 intro vs H Q E h;obtain⟨M,p,dx,d,n,g,pl,s,kvs,es,rfl,S,ll,hp,hs,k⟩:=h;refine aZ<|dD<|d0 fI rfl<|aq<|ah rfl<|aq<|ar<|aq<|ir C (f_ C) rfl<|ah rfl ⟨p,dx,_,rfl,S.ob,sk (by decide+kernel) (by decide+kernel) (by decide+kernel),M,p,dx,d,n,g,kvs,es,rfl,S,aH ⟨_,_,_,rfl,.inl ⟨_,rfl,by omega,by omega,dZ<|iF (cO ?_) rfl⟩⟩⟩
 refine fH<|bC (pL CS) rfl<|aq<|ah rfl<|aH ⟨_,rfl,.inl ⟨s,rfl,hs,?_⟩⟩;refine bX<|f9 C (vP C) rfl<|ah rfl ⟨p,dx,_,rfl,S.ob,sk (by decide+kernel) (by decide+kernel) (by decide+kernel),fG<|aq<|kq<|aq<|ah rfl<|aq<|ah rfl<|aH ⟨dw,fun t ft=>?_⟩⟩
 have s1:=sameNew (o:=.tup [V.int (pl:Nat),V.str s]) ft;have ht:upd H t (.tup [V.int (pl:Nat),V.str s]) t=some (.tup [V.int (pl:Nat),V.str s]):=az;generalize upd H t (.tup [V.int (pl:Nat),V.str s])=H1 at s1 ht⊢;refine aH ⟨d3,fun l fl=>?_⟩;have s2:=sameNew (o:=.lst [V.ref t]) fl;have S2:=(S.same s1).same s2;have Z0:p≠l:=aS (s1 _ _ S.ob) fl;refine⟨M,p,dx,d,l,n,g,kvs,es,[.ref t],[(pl,s)],rfl,S2,az,.cons ⟨t,rfl,s2 _ _ ht⟩ .nil,(fun hm=>by obtain⟨o,z⟩:=(S.same s1).al l hm;rw[fl] at z;cases z),ll,fun q hq=>?_,fun H' S' b'=>k _ H' S' fun b o e n1 n2=>b' _ _ (s2 _ _<|s1 _ _ e) n1 n2⟩
 rw[zaj.mp hq];exact⟨hp,hs⟩
def pS(C:Addr):Sp:=fun vs H Q E=>∃(M:List Addr) (p dx d:Addr) (n g i:Nat) (kvs:List (Key×V)) (es:List Ent) (k:Nat) (q:Sd),vs=[.ref p,.int (k:Nat)]/\bG M C H p dx d n g kvs es/\es[i]?=some (k,[q])/\Q (.int (q.1:Nat)) H
theorem HU{q:Sd}(h:Paired (fc H) xs [q]):∃t,xs=[.ref t]/\H t=some (.tup [.int (q.1:Nat),.str q.2]):=by
 cases h with
 |cons a r=>
  cases r;obtain⟨t,rfl,ht⟩:=a;exact⟨t,rfl,ht⟩
theorem WJ:bM (pS C) (fun E=>aJ K [] [] [] [("stand",C,nU C)] (E:=E)) y3 ib:=by
 intro vs H Q E h;obtain⟨M,p,dx,d,n,g,i,kvs,es,k,e,rfl,S,hi,q⟩:=h;refine bX<|dc<|dc<|f9 C (nU C) rfl<|ah rfl ⟨p,dx,_,rfl,S.ob,sk (by decide+kernel) (by decide+kernel) (by decide+kernel),ah rfl ⟨M,p,dx,d,n,g,i,kvs,es,_,rfl,S,hi,fun l xs hl hs=>?_⟩⟩
 obtain⟨t,rfl,ht⟩:=HU hs;exact ar<|cU hl rfl<|ar<|kx ht rfl q
def z7(C:Addr):Sp:=fun vs H Q E=>∃(M:List Addr) (p dx d:Addr) (n g i:Nat) (kvs:List (Key×V)) (es:List Ent) (k:Nat) (q:Sd),vs=[.ref p,.int (k:Nat)]/\bG M C H p dx d n g kvs es/\es[i]?=some (k,[q])/\Q (.str q.2) H
theorem WK:bM (z7 C) (fun E=>aJ K [] [] [] [("stand",C,nU C)] (E:=E)) y6 ib:=by
 intro vs H Q E h;obtain⟨M,p,dx,d,n,g,i,kvs,es,k,e,rfl,S,hi,q⟩:=h;refine bX<|dc<|dc<|f9 C (nU C) rfl<|ah rfl ⟨p,dx,_,rfl,S.ob,sk (by decide+kernel) (by decide+kernel) (by decide+kernel),ah rfl ⟨M,p,dx,d,n,g,i,kvs,es,_,rfl,S,hi,fun l xs hl hs=>?_⟩⟩
 obtain⟨t,rfl,ht⟩:=HU hs;exact ar<|cU hl rfl<|ar<|kx ht rfl q
end
def pT(P:V->Hp->Prop)(Γ:aN)(σ:St)(e:RE):Prop:= ∀(H:Hp) (Q:VK),(∀v H',aB H H'->P v H'->Q v H')->ag Γ e σ H Q
section
variable {Γ:aN}{σ:St}{P:V->Hp->Prop}
theorem z8(st:∀v H H',P v H->aB H H'->P v H'):∀(es:List RE),(∀e∈es,pT P Γ σ e)->∀(H:Hp) (Q:List V->Hp->Prop),(∀vs H',aB H H'->vs.length=es.length->(∀v∈vs,P v H')->Q vs H')->aL Γ es σ H Q
 |[],_,H,Q,q=>aH (q [] H (aB.refl _) rfl (fun v hv=>by cases hv))
 |e::es,h,H,Q,q=>aq (h e (.head _) H _ fun v H1 s1 o=>z8 st es (fun e' dY=>h e' (.tail _ dY)) H1 _ fun vs H2 s2 ln os=>q (v::vs) H2 (s1.trans s2) (by rw[zax,ln,zax]) (fun w hw=>by
   rcases zae.mp hw with rfl|hw
   ·exact st _ _ _ o s2
   ·exact os w hw))
theorem gd(h:∀H,P v H):pT P Γ σ (.c v):=fun H Q q=>ar (q v H (aB.refl _)<|h H)
theorem z9(h:∀a H,H a=some (.lst [v])->P (.ref a) H):pT P Γ σ (.lst [.c v]):=fun H Q q=>fG (aq<|ar<|aH ⟨d3,fun a ha=>q _ _ (sameNew ha)<|h _ _ az⟩)
theorem z_(h:∀a H,H a=some (.tup [v])->P (.ref a) H):pT P Γ σ (.tup [.c v]):=fun H Q q=>kq (aq<|ar<|aH ⟨d3,fun a ha=>q _ _ (sameNew ha)<|h _ _ az⟩)
theorem HV(h:∀a H,H a=some (.dK [])->P (.ref a) H):pT P Γ σ .k_:=fun H Q q=>zW fun a ha=>q _ _ (sameNew ha) (h _ _ az)
end
end L2.N
namespace L2.B
open PySem PySem.Spec PyProof.Rows
def HW:Sp:=fun vs H Q E=>∃(c:Int) (x:Str) (m:Int),vs=[.int c,.str x,.int m]/\good x/\x.length<=10000/\0<=m/\m<=100/\
 ∀b H' ys ps q,aB H H'->H b=none->H' b=some (.lst ys)->bO H' ys ps->(∀p∈ps,fX p)->ps.length<=101->aQ ps<=40*m.toNat->Run x.cps.toList ps q->Q (.ref b) H'
theorem WL{K:Frag}(vs:List V)(H:Hp)(Q:VK)(E:XK)(h:HW vs H Q E):aC (aJ K U1 [] (E:=E)) D8 {nx:=fun _ H'=>Q .aD H',rt:=Q} (start D7 vs) H:=by
 obtain⟨c,x,m,rfl,hx,vN,HX,HY,k⟩:=h;refine⟨zqZ _,fun b hb=>?_⟩;refine⟨_,rfl,m,rfl,by lia,by lia,wH (lo:=0) (n:=m.toNat) (fun i σ H2=>∃u v w z ys ps l1 l2 q,σ=[some (.int c),some (.str x),some (.int m),some (.ref b),some (.int ((l1.length:Nat):Int)),u,v,w,z]/\aB H H2/\H2 b=some (.lst ys)/\bO H2 ys ps/\ps.length=i/\(∀p∈ps,fX p)/\
   aQ ps<=40*i/\x.cps.toList=l1++l2/\Run l1 ps q)
  ⟨none,none,none,none,[],[],[],x.cps.toList,[],rfl,sameNew hb,az,.nil,rfl,(fun p hp=>by cases hp),zqR _,rfl,.nil⟩ ?_ ?_⟩
 ·rintro i σ H2 hi ⟨u,v,w,z,ys,ps,l1,l2,q,rfl,s2,sA,dP,hl,aA,ht,ex,gQ⟩;have hlen:=Paired.length dP;have WM:x.length=l1.length+l2.length:=by rw[len_list,ex];simp
  refine⟨_,rfl,_,rfl,c,_,rfl,?_⟩;generalize mixed c (50+(0+(i:Int)))=nm;refine⟨Jx,fun t1 kh=>?_⟩;have j0:0<=nm / 4 % 6:=zaq _ (by decide)
  have j1:nm / 4 % 6<6:=zar _ (by decide)
  obtain⟨n5,e5,WN,Z1⟩:=U0 (nm / 4 % 6) j0 j1;refine⟨_,rfl,⟨by decide,by decide⟩,(by show(0:Int) <6;decide),.inl ⟨_,_,_,_,rfl,rfl,aw.of az,e5,?_⟩⟩
  have s3:aB H (upd H2 t1<|.lst [.int 1,.int 2,.int 0,.int 3,.int 5,.int 40]):=s2.trans (sameNew kh);have nW:upd H2 t1 (.lst [.int 1,.int 2,.int 0,.int 3,.int 5,.int 40]) b=some (.lst ys):=by rw[av<|aS sA kh];exact sA
  have vT:=dP.mono (dO<|sameNew (o:=.lst [.int 1,.int 2,.int 0,.int 3,.int 5,.int 40]) kh);generalize upd H2 t1 (.lst [.int 1,.int 2,.int 0,.int 3,.int 5,.int 40])=H3 at s3 nW vT;refine⟨_,rfl,_,rfl,cq (by lia),_,rfl,trivial,?_⟩
  obtain⟨lf,vU⟩:∃lf,lf=(if (x.length:Int) - (l1.length:Int) <n5 then (x.length:Int) - (l1.length:Int) else n5):=⟨_,rfl⟩
  have WO:0<=lf/\lf<=40/\lf<= (l2.length:Int):=by
   rw[vU];split<;>lia
  show aC _ _ _ [some<|V.int c,some<|V.str x,some<|V.int m,some<|V.ref b,some<|V.int ((l1.length:Nat):Int),some<|V.int<|0+(i:Int),some<|V.int nm,some<|V.int n5,some<|V.int (if (x.length:Int) - (l1.length:Int) <n5 then (x.length:Int) - (l1.length:Int) else n5)] H3
  rw[<-vU];obtain⟨la,lb,e2,Aa⟩:∃la lb,l2=la++lb/\lf=(la.length:Int):=⟨l2.take lf.toNat,l2.drop lf.toNat,(zbq _ _).symm,by rw[zas];lia⟩
  have app:∀(p:Pt) (H4:Hp),aB H H4->H4 b=some (.lst ys)->bO H4 ys ps->∀t,H4 t=none->
    upd H4 t (.tup [.str p.word,p.val]) b=some (.lst ys)/\ys.length<sizeLine/\
     aB H (upd (upd H4 t<|.tup [.str p.word,p.val]) b<|.lst<|ys++[.ref t])/\bO (upd (upd H4 t<|.tup [.str p.word,p.val]) b<|.lst<|ys++[.ref t]) (ys++[.ref t]) (ps++[p]):=by
   intro p H4 s4 Ab WQ t ht;have vV:b≠t:=aS Ab ht;refine⟨(by rw[av vV];exact Ab),dr (by lia),F9 s4 hb<|sameBut (sameNew ht) cf.upd,?_⟩
   refine bO.snoc (WQ.mono<|(sameBut (sameNew ht) cf.upd).d4 Ab) ⟨t,rfl,?_⟩;rw[av vV.symm,az]
  have HZ:∀p,fX p->∀q∈ps++[p],fX q:=by
   intro p hp q hq;rcases zai.mp hq with z|z
   ·exact aA q z
   ·rw[zaj.mp z];exact hp
  have WR:∀c∈la,SG.cps.contains c=true:=fun c hc=>hx.2 c (by rw[ex,e2];simp[hc])
  refine⟨_,rfl,(by show(0:Int) <4;decide),_,rfl,?_⟩
  refine cw (fun h=>?_)<|fun h=>?_
  ·have h3:nm % 4=3:=by
    have:=of_decide_eq_true (show decide (V.int (nm % 4)=V.int 3)=true from by rw[<-zaI (decide _)];exact h)
    injection this
   refine⟨_,rfl,.inl ⟨rfl,_,aw.of nW⟩,_,rfl,_,rfl,nm,n5,rfl,WN,by lia,fun y H5 gy ly s5=>⟨dw,fun t lW=>?_⟩⟩
   obtain⟨a1,a2,a3,a4⟩:=app (.put y) H5 (s3.trans s5) (s5 _ _ nW) (vT.mono<|dO s5) t lW;refine⟨ys,a1,a2,?_⟩;refine⟨_,rfl,(by show(0:Int) <4;decide),trivial,_,rfl,iF ?_<|zqF (by lia)⟩
   have hr:=gQ.app (Run.put (s:=y) Run.nil);rw[zag,zag] at hr;refine⟨_,_,_,_,ys++[V.ref t],ps++[Pt.put y],l1,l2,_,rfl,a3,az,a4,by simp[hl],HZ _ ⟨gy,by lia⟩,?_,ex,hr⟩
   rw[zD];show aQ ps+(y.length+0)<=_;lia
  ·have h3:nm % 4≠3:=fun z=>h (by show(false ^^ decide (V.int (nm % 4)=V.int 3))=true;rw[z];rfl)
   have h4:nm % 4<3:=by have:=zar nm (show(0:Int) <4 by decide);lia
   have fin:∀(p:Pt) (H5:Hp) (nQ:List V) (q':List Nat),aB H H5->H5 b=some (.lst nQ)->bO H5 nQ (ps++[p])->fX p->eG p<=40->Run (l1++la) (ps++[p]) q'->
     ∃u v w z ys ps iZ l2 q,[some<|V.int c,some<|V.str x,some<|V.int m,some<|V.ref b,some<|V.int<|(l1.length:Int)+lf,some<|V.int<|0+(i:Int),some<|V.int nm,some<|V.int n5,some<|V.int lf]=
      [some<|.int c,some<|.str x,some<|.int m,some<|.ref b,some<|.int ((iZ.length:Nat):Int),u,v,w,z]/\aB H H5/\H5 b=some (.lst ys)/\bO H5 ys ps/\ps.length=i+1/\(∀p∈ps,fX p)/\
      aQ ps<=40* (i+1)/\x.cps.toList=iZ++l2/\Run iZ ps q:=by
    intro p H5 nQ q' s5 h5 WS rp tp hr;refine⟨some<|.int<|0+(i:Int),some<|.int nm,some<|.int n5,some<|.int lf,nQ,ps++[p],l1++la,lb,q',?_,s5,h5,WS,by simp[hl],HZ p rp,?_,by rw[ex,e2];simp,hr⟩
    ·rw[zqA,Aa,zaW]
    ·rw[zD];have:aQ [p]=eG p:=by simp[aQ]
     lia
   refine⟨_,rfl,(by show(0:Int) <4;decide),_,rfl,?_⟩
   refine cw (fun h5=>?_)<|fun h5=>?_
   ·refine⟨_,rfl,.inl ⟨rfl,_,aw.of nW⟩,_,rfl,_,rfl,_,rfl,_,rfl,_,rfl,_,rfl,cq (by lia),?_⟩
    rw[GS (by rw[ex,e2]) lf Aa]
    refine⟨dw,fun t lW=>?_⟩;obtain⟨a1,a2,a3,a4⟩:=app (.cut ⟨la.toArray⟩) H3 s3 nW vT t lW;refine⟨ys,a1,a2,?_⟩;refine⟨_,rfl,(by show(0:Int) <4;decide),trivial,_,rfl,iT ?_<|zqT h4⟩
    refine⟨_,rfl,_,rfl,?_⟩;have hr:=gQ.app (Run.cut (s:=⟨la.toArray⟩) Run.nil);rw[zag] at hr;have ll:(⟨la.toArray⟩:Str).length=la.length:=by rw[len_list]
    exact fin (.cut ⟨la.toArray⟩) _ _ _ a3 az a4 ⟨⟨by rw[ll];lia,WR⟩,by rw[ll];lia⟩ (by show(⟨la.toArray⟩:Str).length<=40;rw[ll];lia) hr
   ·refine⟨_,rfl,.inl ⟨rfl,_,aw.of nW⟩,_,rfl,dw,fun t lW=>?_⟩;obtain⟨a1,a2,a3,a4⟩:=app (.keep lf) H3 s3 nW vT t lW;refine⟨ys,a1,a2,?_⟩;refine⟨_,rfl,(by show(0:Int) <4;decide),trivial,_,rfl,iT ?_<|zqT h4⟩
    refine⟨_,rfl,_,rfl,?_⟩;have hr:=gQ.app (Run.keep (a:=la) Aa Run.nil);rw[zag] at hr;exact fin (.keep lf) _ _ _ a3 az a4 WO.1 (by show 0<=40;decide) hr
 ·rintro σ H2 ⟨u,v,w,z,ys,ps,l1,l2,q,rfl,s2,sA,dP,hl,aA,ht,ex,gQ⟩;have hlen:=Paired.length dP;have WM:x.length=l1.length+l2.length:=by rw[len_list,ex];simp
  refine⟨_,rfl,_,rfl,cq (by lia),_,rfl,trivial,dw,fun t lW=>⟨d3,fun d hd=>?_⟩⟩
  have vV:b≠t:=aS sA lW;have pF:upd H2 t (.tup [.str "keep",.int<|(x.length:Int) - (l1.length:Int)]) b=some (.lst ys):=by rw[av vV];exact sA
  have q9:b≠d:=aS pF hd;have H9:t≠d:=fun z=>by rw[<-z,az] at hd;cases hd
  have s4:aB H2 (upd (upd H2 t<|.tup [.str "keep",.int<|(x.length:Int) - (l1.length:Int)]) d<|.lst [.ref t]):=(sameNew lW).trans (sameNew hd);refine .inl ⟨b,d,ys,[.ref t],rfl,rfl,(by rw[av q9];exact pF),az,cq (by simp;lia),fun e he=>?_⟩
  have s5:=s4.trans (sameNew (o:=.lst (ys++[.ref t])) he);have WT:H2 e=none:=s4.free he;have hr:=gQ.app (Run.keep (a:=l2) (n:=(x.length:Int) - (l1.length:Int)) (by lia) Run.nil)
  rw[zag,<-ex] at hr;have WU:t≠e:=fun z=>by rw[<-z,av H9,az] at he;cases he
  refine k e _ (ys++[.ref t]) (ps++[.keep<|(x.length:Int) - (l1.length:Int)]) _ (s2.trans s5) (s2.free WT) az (bO.snoc (dP.mono<|dO s5) ⟨t,rfl,?_⟩) ?_ (by simp;lia) ?_ hr
  ·rw[av WU,av H9,az];rfl
  ·intro p hp;rcases zai.mp hp with z|z
   ·exact aA p z
   ·rw[zaj.mp z];show(0:Int)<=_;lia
  ·rw[zD];show aQ ps+(0+0)<=40*m.toNat;lia
abbrev WV:List (Str×Sp):=[("_law_neat",Gq),("_law_parts",HW)]
def Ac:Sp:=fun vs H Q E=>∃(c:Int) (x:Str) (m:Int),vs=[.int c,.str x,.int m]/\good x/\x.length<=10000/\0<=m/\m<=100/\
 ∀b H' ys ps q,aB H H'->H b=none->H' b=some (.lst ys)->bO H' ys ps->(∀p∈ps,il p)->chainOk "" ps=true->ps.length<=305->aQ ps<=40*m.toNat->Run x.cps.toList ps q->Q (.ref b) H'
theorem WW{K:Frag}(vs:List V)(H:Hp)(Q:VK)(E:XK)(h:Ac vs H Q E):aC (aJ K WV [] (E:=E)) Ea {nx:=fun _ H'=>Q .aD H',rt:=Q} (start D_ vs) H:=by
 obtain⟨c,x,m,rfl,hx,vN,HX,HY,k⟩:=h;refine⟨_,rfl,_,rfl,_,rfl,c,x,m,rfl,hx,vN,HX,HY,fun b H1 ys ps q s1 fb h1 hp hr hl ht gQ=>?_⟩;refine⟨b,ys,ps,rfl,h1,hp,by lia,by lia,fun d H2 zs s2 fd h2 hz=>?_⟩
 obtain⟨g1,g2,_⟩:=UO ps hr (by lia)
 have gG:=UP ps;rw[UJ ps hr] at gG;exact k d H2 zs (jD ps) q (s1.trans s2) (s1.free fd) h2 hz g2 g1 (by lia) (by rw[U3 ps hr];exact ht)<|UY gQ
end L2.B
namespace L2.N
open PySem PySem.Spec PyProof.Rows L2.B
end L2.N
namespace L2.B
open PySem PySem.Spec PyProof.Rows
end L2.B
namespace L2.N
open PySem PySem.Spec PyProof.Rows L2.B
end L2.N
namespace L2.N
open PySem PySem.Spec L2.B
section
variable {K:Frag}
end
section
variable {K:Frag}
end
section
variable {Γ:aN}{σ:St}{n:Nat}{H0:Hp}
theorem WX{lo:RE}(h:ag Γ a σ H fun x H1=>ag Γ lo σ H1 fun j H3=>∃j':Int,j=.int j'/\oP Γ.K x (some j') none H3 Q):ag Γ (.sl a (some lo) none) σ H Q:=h
end
section
variable {K:Frag}{CP C CE CD:Addr}
end
theorem WY{l r:List Nat}(h:Run l ps r):bt ps=l.length:=by
 induction h with
 |nil=>rfl
 | @keep a l r k ps e _ ih=>show k.toNat+bt ps=_;rw[ih,zqA];omega
 |put _ ih=>exact ih
 | @cut s l r ps _ ih=>show s.length+bt ps=_;rw[ih,zqA,len_list]
section
variable {K:Frag}{M:List Addr}{C:Addr}{H H':Hp}{p dx d rw n:Nat}{rs:List Sd}
end
section
variable {Γ:aN}{D:Ends}{σ:St}{H:Hp}{r:List RS}{Q:VK}
theorem Ad(h:ag Γ e σ H fun v H1=>aC Γ r D (σ.set i<|some v) H1):aC Γ (.jY i e::r) D σ H:=h
theorem WZ{hi:RE}(h:ag Γ a σ H fun x H1=>ag Γ hi σ H1 fun j H3=>∃j':Int,j=.int j'/\oP Γ.K x none (some j') H3 Q):ag Γ (.sl a none<|some hi) σ H Q:=h
end
section
variable {M:List Addr}{C:Addr}{H H':Hp}{p dx d rw n:Nat}{rs:List Sd}
theorem W0{l r:List Nat}(h:Run l ps r):bh ps=r.length:=by
 induction h with
 |nil=>rfl
 | @keep a l r k ps e _ ih=>show k.toNat+bh ps=_;rw[ih,zqA];omega
 | @put s l r ps _ ih=>show s.length+bh ps=_;rw[ih,zqA,len_list]
 |cut _ ih=>exact ih
end
end L2.N
namespace L2.N
open PySem PySem.Spec
end L2.N
namespace L2.N
open PySem PySem.Spec L2.B
section
variable {K:Frag}{Γ:aN}{σ:St}{H:Hp}{Q:VK}
theorem W2{T:Ty}(h:ag Γ a σ H fun x H1=>br T x H1 fun b=>Q (.bl b) H1):ag Γ (.d_ T a) σ H Q:=by
 have e:ag Γ (.d_ T a) σ H Q=ag Γ a σ H fun x H1=>jj T [x,.ty T.nm] H1 Q:=rfl;rw[e];have e2:(fun(x:V) (H1:Hp)=>jj T [x,.ty T.nm] H1 Q)=fun x H1=>br T x H1 fun b=>Q (.bl b) H1:=by
  funext x H1
  show(T.nm=T.nm/\_)=_
  simp
 rw[e2];exact h
end
section
variable {K:Frag}
theorem W3{T:Ty}{z:Int}{k:Bool->Prop}(q:k (T==.int)):br T (.int z) H k:=q
theorem W4{T:Ty}{z:Str}{k:Bool->Prop}(q:k (T==.str)):br T (.str z) H k:=q
end
section
variable {K:Frag}{C CN:Addr}
theorem W5{QQ:List V->Hp->Addr->Prop}{te:TE}{tc:TT}{lo:Int}(f:Nat->Bool)(hl:n<=1000000)
  (W6:∀(i:Nat) (k:Bool->Hp->Prop),i<n->k (f i) H->tc (some (.int<|lo+i)::bU σ fv) H k) (elt:∀(x:V) (k:VK),k x H->te (some x::bU σ fv) H k)
  (fin:∀p,H p=none->QQ (((List.range n).filter f).map fun i=>V.int (lo+(i:Nat))) H p):∃W:Nat->Nat->List V->Hp->Prop,(∃m,W 0 m [] H)/\∀i m ys H2,W i m ys H2->
   ((fh lo n).stop i H2/\∀p,H2 p=none->QQ ys H2 p)\/
   ((fh lo n).go i H2/\∀x H3,(fh lo n).gh i H2 x H3->iJ K none x H3 fun zs=>jV (some tc) (zs.map some++bU σ fv) H3 fun b H5=>
    if b=true then te (zs.map some++bU σ fv) H5 fun y H6=>ys.length<sizeLine/\∃m',m'<m/\W (i+1) m' (ys++[y]) H6 else ∃m',m'<m/\W (i+1) m' ys H5):=by
 refine⟨fun i m ys H2=>m=n - i/\i<=n/\ys=((List.range i).filter f).map (fun i=>V.int<|lo+(i:Nat))/\H2=H,⟨_,rfl,zqZ _,rfl,rfl⟩,?_⟩;rintro i m ys H2 ⟨rfl,hi,rfl,rfl⟩;by_cases aI:i<n
 ·refine .inr ⟨aI,?_⟩;rintro x H3 ⟨rfl,rfl⟩;have et:((List.range<|i+1).filter f)=(List.range i).filter f++[i].filter f:=by rw[List.range_succ,zbA]
  refine W6 i _ aI ?_;cases hf:f i with
  |true=>
   refine iT ?_ rfl;refine elt _ _ ⟨dr ?_,n - (i+1),by lia,rfl,aI,?_,rfl⟩
   ·have:=zaC f (List.range i);rw[List.length_range] at this;rw[zaa];lia
   ·rw[et];simp[hf]
  |false=>
   refine iF ⟨n - (i+1),by lia,rfl,aI,?_,rfl⟩ rfl
   rw[et];simp[hf]
 ·have dQ:i=n:=by lia
  subst dQ;exact .inl ⟨zqR _,fun q hq=>fin q hq⟩
end
end L2.N
namespace L2.ny
open PySem PySem.Spec L2.B L2.N
abbrev Row:=Nat×Sd
abbrev eR(R:List Row):List Ent:=R.map fun r=>(r.1,[r.2])
abbrev tw(r:Row):P2.T2:=(((r.2.1:Nat):Int),((r.1:Nat):Int))
def cg(b e:Nat)(t:P2.T2):Bool:=decide ((b:Int)<=t.1) && decide (t.1<= (e:Int))
def lX(R:List Row)(b e:Nat)(ns:List Int):Prop:= ∃ts:List P2.T2,ts.Perm ((R.map tw).filter<|cg b e)/\ts.Pairwise (fun a b=>P2.dn a b=true)/\ns=ts.map (·.2)
theorem pd(a b:P2.T2):P2.dn a b=true↔a.1<b.1\/(a.1=b.1/\a.2<b.2):=by
 unfold P2.dn;simp
theorem lX.uniq{R:List Row}{b e:Nat}{ns ms:List Int}(h:lX R b e ns)(h':lX R b e ms):ns=ms:=by
 obtain⟨ts,p,s,rfl⟩:=h;obtain⟨us,p',s',rfl⟩:=h';have:=(p.trans p'.symm).eq_of_pairwise (fun x y _ _ h1 h2=>by
  rw[pd] at h1 h2
  exfalso
  rcases h1 with h1|h1<;>rcases h2 with h2|h2<;>lia) s s'
 rw[this]
theorem lX.of{R:List Row}{b e:Nat}{ts:List P2.T2}(p:ts.Perm (R.map tw))(s:ts.Pairwise (fun a b=>P2.dn a b=true)):lX R b e ((ts.filter<|cg b e).map (·.2)):=
 ⟨_,p.filter _,s.filter _,rfl⟩
theorem H_{R:List Row}(h:(R.map (·.1)).Pairwise (· < ·)):(R.map tw).Nodup:=by
 rw[zbe] at h;show(R.map tw).Pairwise _;rw[zbe];exact h.imp fun {a b} HE e=>by
  have:((a.1:Nat):Int)=((b.1:Nat):Int):=congrArg Prod.snd e;lia
theorem Ia(R:List Row):(eR R).map (·.1)=R.map (·.1):=by rw[zaP];rfl
theorem vW{R:List Row}{r:Row}(h:R[i]?=some r):(eR R)[i]?=some (r.1,[r.2]):=by rw[zah,h];rfl
section
variable {K:Frag}{H:Hp}{Q:VK}{i j:Int}
theorem de(h:0<j)(q:Q (.int<|i % j) H):iK K .Mod (.int i) (.int j) H Q:=⟨h,q⟩
theorem gU(h:wJ i j)(q:Q (.int<|i / j) H):iK K .FloorDiv (.int i) (.int j) H Q:=⟨h,q⟩
theorem W7(h:qm i j)(q:Q (.int<|i*j) H):iK K .Mult (.int i) (.int j) H Q:=⟨h,q⟩
theorem Ib(h:wK i j)(q:Q (.int<|i ^ j.toNat) H):iK K .Pow (.int i) (.int j) H Q:=⟨h,q⟩
theorem W8(q:Q (.int (if j>i then j else i)) H):lg K .max [.int i,.int j] H Q:=q
end
theorem pU(ns:List Int):SeqAt.shaped (.list<|ns.map PyData.int)=true:=by
 have h:∀l:List Int,PyData.canLayAll0 (l.map PyData.int)=true/\PyData.depthAll (l.map PyData.int)<=1:=by
  intro l
  induction l with
  |nil=>exact⟨rfl,zqZ _⟩
  |cons k l ih=>
   refine⟨?_,?_⟩
   ·show((PyData.int k).canLay0 && PyData.canLayAll0 (l.map PyData.int))=true;rw[ih.1];rfl
   ·show max (PyData.int k).depth (PyData.depthAll<|l.map PyData.int)<=1;have:(PyData.int k).depth=0:=rfl;rw[this];lia
 obtain⟨c,d⟩:=h ns;unfold SeqAt.shaped;have e:(PyData.list<|ns.map PyData.int).canLay0=true:=c;have e2:(PyData.list<|ns.map PyData.int).depth<=64:=by show PyData.depthAll (ns.map PyData.int)+1<=64;lia
 rw[e,zqT e2];rfl
theorem sC{H:Hp}:∀ns:List Int,IsL H (ns.map PyData.int) (ns.map V.int)
 |[]=>rfl
 |k::r=>⟨_,_,rfl,rfl,sC r⟩
section
variable {K:Frag}{H:Hp}{Q:VK}{a b:Addr}{ns:List Int}
theorem vX(ha:H a=some (.lst<|ns.map V.int))(hb:H b=some (.lst<|ns.map V.int))(q:Q (.bl false) H):b8 K .NotEq (.ref a) (.ref b) H Q:=by
 refine⟨.list<|ns.map PyData.int,.list<|ns.map PyData.int,⟨a,_,rfl,ha,sC ns⟩,⟨b,_,rfl,hb,sC ns⟩,pU ns,pU ns,?_⟩;rw[SeqAt.eqv_refl _<|SeqAt.canLay_of_shaped<|pU ns];exact q
theorem W9(ha:H a=some (.lst<|ns.map V.int))(hb:H b=some (.lst<|ns.map V.int))(q:Q (.bl true) H):b8 K .Eq (.ref a) (.ref b) H Q:=by
 refine⟨.list<|ns.map PyData.int,.list<|ns.map PyData.int,⟨a,_,rfl,ha,sC ns⟩,⟨b,_,rfl,hb,sC ns⟩,pU ns,pU ns,?_⟩;rw[SeqAt.eqv_refl _<|SeqAt.canLay_of_shaped<|pU ns];exact q
end
section
variable {K:Frag}{M:List Addr}{C:Addr}{H H':Hp}{p dx d:Addr}{n g:Nat}{kvs:List (Key×V)}{es:List Ent}
theorem cc{m:Str}{g:Nat}(h:(¬m="signs"/\ ¬m="given")/\ ¬m="stands":=by decide+kernel):(s3 n g d).lookup m=none:=sk h.1.1 h.1.2 h.2
theorem Ic(k:Nat):∀{kvs:List (Key×V)}{es:List Ent},Paired (gR M H) kvs es->Paired (gR M H) (fm kvs<|.inl (k:Nat)) (es.filter fun x=>decide (x.1≠k))
 |[],[],_=>.nil
 |kv::kvs,e::es,.cons a r=>by
  have ih:=Ic k r;obtain⟨l,xs,e1,e2⟩:=id a;unfold fm at ih⊢;by_cases hk:e.1=k
  ·rw[zaK (by rw[e1];simp[hk]),zaK (by simp[hk])];exact ih
  ·rw[zaQ (by rw[e1];simp;lia),zaQ (by simp[hk])];exact .cons a ih
theorem Ie(h:ag Γ o σ H fun x H1=>∃d,x=.ref d/\uh H1 d/\ag Γ a σ H1 fun y H2=>EV d [y] H2 Q):ag Γ (.xm vj o [a]) σ H Q:=h
def Ae(C:Addr):Sp:=fun vs H Q E=>∃(M:List Addr) (p dx d:Addr) (n g i:Nat) (kvs:List (Key×V)) (es:List Ent) (e:Ent),vs=[.ref p,.int (e.1:Nat)]/\bG M C H p dx d n g kvs es/\es[i]?=some e/\
 ∀cv H',bG M C H' p dx d n g cv (es.filter fun x=>decide (x.1≠e.1))->cf d H H'->Q .aD H'
theorem W_(T:jw K C):bM (Ae C) (fun E=>aJ K [] [] [] [("stand",C,nU C)] (E:=E)) ze ib:=by
 intro vs H Q E h;obtain⟨M,p,dx,d,n,g,i,kvs,es,e,rfl,S,he,k⟩:=h;obtain⟨l,xs,v1,v2,v3,v4⟩:=so S.kv S.up he;refine fH<|f9 C (nU C) rfl<|ah rfl ⟨p,dx,_,rfl,S.ob,cc,ah rfl ⟨M,p,dx,d,n,g,i,kvs,es,e,rfl,S,he,fun _ _ _ _=>?_⟩⟩;refine fH<|Ie<|gB<|ah rfl ⟨p,C,dx,_,_,rfl,S.ob,T.cl,T.jx,ky,d,rfl,.inl ⟨kvs,.inl S.st⟩,ah rfl ⟨kvs,.inl ((e.1:Nat):Int),_,S.st,rfl,v2,?_⟩⟩;have b1:cf d H (upd H d<|.dK<|fm kvs<|.inl ((e.1:Nat):Int)):=cf.upd;have gT:=S.ne;refine k _ _ ⟨b1 _ _ S.ob gT,az,?_,?_,fun x hx=>S.lt x (zaX.mp hx).1,fun x hx=>S.pl x (zaX.mp hx).1,jJ S.al⟩ b1
 ·exact Ic _ (S.ent fun b o e _ n2=>b1 _ _ e n2)
 ·have:=S.up;rw[zbe] at this⊢;exact this.filter _
theorem Ig{x elt c:RE}(h:ag Γ x σ H fun v H1=>∃a,v=.ref a/\(∃xs,aw Γ.K H1 a xs)/\∃W:Nat->Nat->List V->Hp->Prop,(∃m,W 0 m [] H1)/\∀i m ys H2,W i m ys H2->
   ((eE Γ.K a).stop i H2/\∀p,H2 p=none->Q (.ref p) (upd H2 p<|.lst ys))\/
   ((eE Γ.K a).go i H2/\∀x H3,(eE Γ.K a).gh i H2 x H3->iJ Γ.K none x H3 fun zs=>jV (some (aU Γ.calm c)) (zs.map some++bU σ fv) H3 fun b H5=>
    if b=true then ag Γ.calm elt (zs.map some++bU σ fv) H5 fun y H6=>ys.length<sizeLine/\∃m',m'<m/\W (i+1) m' (ys++[y]) H6 else ∃m',m'<m/\W (i+1) m' ys H5)):ag Γ (.comp none fv .list [x] (some c) elt) σ H Q:=lU (x:=x) _ _ (fun _ _=>Iff.rfl) h
theorem V2.mono(s:aB H H'){t:P2.T2}(h:P2.V2 H v t):P2.V2 H' v t:=by
 obtain⟨a,e,h⟩:=h;exact⟨a,e,s _ _ h⟩
theorem sD.mono(s:aB H H'){ts:List P2.T2}(h:Paired (P2.V2 H) vs ts):Paired (P2.V2 H') vs ts:=Paired.bY h fun _ _ z=>V2.mono s z
theorem pO{α β:Type}{R:α->β->Prop}:∀{xs:List α}{ys:List β},Paired R xs ys->∀{i:Nat}{x:α},xs[i]?=some x->∃y,ys[i]?=some y/\R x y
 |[],[],_,i,x,h=>by simp at h
 |_::_,_::_,.cons a r,0,x,h=>by cases h;exact⟨_,rfl,a⟩
 |_::_,_::_,.cons a r,i+1,x,h=>pO r (i:=i) h
theorem Xa{it:RE}{tk:Option Nat}{cond:Option RE}{elt:RE}(h:ag Γ it σ H fun x H1=>ag Γ (.comp tk [] .list [.v 0] cond elt) [some x] H1 Q):ag Γ (.comp tk [] .list [it] cond elt) σ H Q:=by
 refine lU (x:=it) _ _ (fun x H1=>⟨?_,?_⟩) h
 ·rintro⟨v,hv,hq⟩;cases hv;exact hq
 ·intro hq;exact⟨x,rfl,hq⟩
theorem Xb{a:Addr}{zs:List V}{us:List P2.T2}(ha:H a=some (.lst zs))(hp:Paired (P2.V2 H) zs us)(hl:us.length<=1000)(q:∀l,H l=none->Q (.ref l) (upd H l (.lst ((us.map (·.2)).map V.int)))):ag Γ (.comp (some 2) [] .list [.v 0] none<|.v 1) [some<|.ref a] H Q:=by
 have lz:=Paired.length hp;refine⟨_,rfl,a,rfl,⟨_,aw.of ha⟩,fun i m ys H2=>m=us.length - i/\i<=us.length/\ys=((us.take i).map (·.2)).map V.int/\H2=H,⟨_,rfl,zqZ _,rfl,rfl⟩,?_⟩;rintro i m ys H2 ⟨rfl,hi,rfl,rfl⟩;by_cases aI:i<us.length
 ·refine .inr ⟨⟨zs,zs[i],aw.of ha,by simp[lz,aI]⟩,?_⟩
  rintro y H3 ⟨rfl,hx⟩;obtain⟨t,ht,b,rfl,hb⟩:=pO hp (hx zs<|aw.of ha);have key:ag Γ.calm (.v 1) [some<|V.int t.1,some<|V.int t.2] H3 fun y H6=>(((us.take i).map (·.2)).map V.int).length<sizeLine/\∃m',m'<us.length - i/\m'=us.length - (i+1)/\i+1<=us.length/\((us.take i).map (·.2)).map V.int++[y]=((us.take<|i+1).map (·.2)).map V.int/\H6=H3:=by
   refine ah rfl ⟨dr ?_,us.length - (i+1),by lia,rfl,aI,?_,rfl⟩
   ·rw[zaa,zaa,zas];lia
   ·rw[sr ht,zav,zav];rfl
  exact⟨b,_,rfl,aO.of hb,rfl,key⟩
 ·have dQ:i=us.length:=by lia
  subst dQ;refine .inl ⟨⟨zs,aw.of ha,by lia⟩,fun l hl=>?_⟩
  rw[zaJ];exact q l hl
theorem Ih(h:ag Γ a σ H fun x H1=>P2.vm Γ.K [x] H1 Q):ag Γ (.xt P2.vn [a]) σ H Q:=h
def nX(C:Addr):Sp:=fun vs H Q E=>∃(M:List Addr) (p dx d:Addr) (n g b e:Nat) (kvs:List (Key×V)) (R:List Row),vs=[.ref p,.int (b:Nat),.int (e:Nat)]/\bG M C H p dx d n g kvs (eR R)/\R.length<64/\b<=e/\e<=n/\
 ∀l H' ns,aB H H'->H l=none->H' l=some (.lst<|ns.map V.int)->lX R b e ns->Q (.ref l) H'
abbrev mW(C:Addr):List (Str×Addr×Sp):=[("size",C,f_ C),("numbers",C,nV C),("place",C,pS C)]
theorem Xd{CP:Addr}:bM (nX C) (fun E=>aJ K [("is_between",fI)] [] [] (mW C) (et:=[("NoPlace",CP)]) (E:=E)) zg zf:=by
 intro vs H Q E h;obtain⟨M,p,dx,d,n,g,b,e,kvs,R,rfl,S,cE,gY,vY,k⟩:=h;have up:(R.map (·.1)).Pairwise (· < ·):=by have:=S.up;rwa [Ia] at this
 have sz:∀{σ:St}{H1:Hp}{Q1:VK},aB H H1->σ[0]?=some (some<|.ref p)->Q1 (.int (n:Nat)) H1->ag (aJ K [("is_between",fI)] [] [] (mW C) (et:=[("NoPlace",CP)]) (E:=E)) (.bo 0 "size" (.v 0) []) σ H1 Q1:=fun s e0 q=>
  ir C (f_ C) rfl (ah e0 ⟨p,dx,_,rfl,(S.same s).ob,cc,M,p,dx,d,n,g,kvs,_,rfl,S.same s,q⟩)
 refine aZ<|jH<|dD<|d0 fI rfl<|aq<|ah rfl<|aq<|ar<|aq<|sz (aB.refl _) rfl<|aH ⟨_,_,_,rfl,.inl ⟨_,rfl,by lia,by lia,dZ<|iF ?_ rfl⟩⟩
 refine dD<|d0 fI rfl<|aq<|ah rfl<|aq<|ah rfl<|aq<|sz (aB.refl _) rfl<|aH ⟨_,_,_,rfl,.inl ⟨_,rfl,by lia,by lia,dZ<|iF (cO ?_) rfl⟩⟩
 refine Ad<|Ig<|ir C (nV C) rfl<|ah rfl ⟨p,dx,_,rfl,S.ob,cc,M,p,dx,d,n,g,kvs,_,rfl,S,by rw[zaa];exact cE,fun l fl=>?_⟩
 have s1:=sameNew (o:=.lst (((eR R).map fun e=>((e.1:Nat):Int)).map V.int)) fl;have cH:upd H l (.lst<|((eR R).map fun e=>((e.1:Nat):Int)).map V.int) l=some (.lst<|R.map fun r=>V.int ((r.1:Nat):Int)):=by rw[az,zaP,zaP];rfl
 generalize upd H l (.lst<|((eR R).map fun e=>((e.1:Nat):Int)).map V.int)=H1 at s1 cH⊢;refine⟨l,rfl,⟨_,aw.of cH⟩,fun i m ys H2=>m=R.length - i/\i<=R.length/\aB H1 H2/\Paired (P2.V2 H2) ys (((R.take i).map tw).filter<|cg b e),⟨_,rfl,zqZ _,aB.refl _,.nil⟩,?_⟩;rintro i m ys H2 ⟨rfl,hi,s2,hp⟩;have nY:=s1.trans s2;by_cases aI:i<R.length
 ·refine .inr ⟨⟨_,V.int ((R[i].1:Nat):Int),aw.of<|s2 _ _ cH,by simp[aI]⟩,?_⟩
  rintro y H3 ⟨rfl,hx⟩;have hy:=hx _ (aw.of<|s2 _ _ cH);have hr:R[i]?=some R[i]:=by simp[aI]
  rw[zah,hr] at hy;cases hy;generalize R[i]=r at hr;have et:((R.take<|i+1).map tw).filter (cg b e)=((R.take i).map tw).filter (cg b e)++[tw r].filter (cg b e):=by rw[sr hr,zav,zbA];rfl
  have pl:∀{Γ:aN}{H4:Hp}{Q1:VK},Γ.ms 2=(C,pS C)->aB H H4->Q1 (.int ((r.2.1:Nat):Int)) H4->ag Γ (.bo 2 "place" (.v 1) [.v 0]) [some<|.int ((r.1:Nat):Int),some<|.ref p,some<|.int (b:Nat),some<|.int (e:Nat)] H4 Q1:=fun hm s q=>
   f9 C (pS C) hm (ah rfl ⟨p,dx,_,rfl,(S.same s).ob,cc,ah rfl ⟨M,p,dx,d,n,g,i,kvs,_,r.1,r.2,rfl,S.same s,vW hr,q⟩⟩)
  have hle:ys.length<=R.length:=by
   have h1:=Paired.length hp;have h2:=zaC (cg b e) ((R.take i).map tw);rw[zaa,zas] at h2;lia
  have yes:cg b e (tw r)=true->ag (aJ K [("is_between",fI)] [] [] (mW C) (et:=[("NoPlace",CP)]) (E:=E)).calm (.tup [(.bo 2 "place" (.v 1) [.v 0]),.v 0]) [some<|.int ((r.1:Nat):Int),some<|.ref p,some<|.int (b:Nat),some<|.int (e:Nat)] H3 fun y H6=>ys.length<sizeLine/\∃m',m'<R.length - i/\m'=R.length - (i+1)/\i+1<=R.length/\aB H1 H6/\Paired (P2.V2 H6) (ys++[y]) (((R.take<|i+1).map tw).filter<|cg b e):=fun hf=>by
   refine kq<|aq<|pl rfl nY<|aq<|ah rfl<|aH ⟨dw,fun t ft=>?_⟩;have s3:=sameNew (o:=.tup [V.int ((r.2.1:Nat):Int),V.int ((r.1:Nat):Int)]) ft;refine⟨dr (by lia),_,by lia,rfl,aI,s2.trans s3,?_⟩
   rw[et,zaQ hf,zbg];exact Paired.snoc (sD.mono s3 hp) ⟨t,rfl,az⟩
  refine HM<|HL<|ah rfl<|pl rfl nY ⟨trivial,_,rfl,cw (fun h1=>?_)<|fun h1=>?_⟩
  ·have h1:(b:Int)<= ((r.2.1:Nat):Int):=of_decide_eq_true h1;refine ah rfl ⟨trivial,_,rfl,cw (fun h2=>yes ?_)<|fun h2=>⟨_,by lia,rfl,aI,s2,?_⟩⟩
   ·show(decide ((b:Int)<= ((r.2.1:Nat):Int)) && decide (((r.2.1:Nat):Int)<= (e:Int)))=true;rw[zqT h1,h2];rfl
   ·have h2:¬((r.2.1:Nat):Int)<= (e:Int):=fun z=>h2 (zqT z);rw[et,zaK (by show ¬(decide _ && decide _)=true;rw[zqF h2,zbn];decide),zbg,zag];exact hp
  ·have h1:¬(b:Int)<= ((r.2.1:Nat):Int):=fun z=>h1 (zqT z);refine⟨_,rfl,iF ⟨_,by lia,rfl,aI,s2,?_⟩ rfl⟩
   rw[et,zaK (by show ¬(decide _ && decide _)=true;rw[zqF h1,zbi];decide),zbg,zag];exact hp
 ·have dQ:i=R.length:=by lia
  subst dQ;refine .inl ⟨⟨_,aw.of<|s2 _ _ cH,by rw[zaa];lia⟩,fun a fa=>?_⟩
  rw[zaJ] at hp;have s3:=sameNew (o:=.lst ys) fa;have ha:upd H2 a (.lst ys) a=some (.lst ys):=az;have vZ:=sD.mono s3 hp;generalize upd H2 a (.lst ys)=H3 at s3 ha vZ⊢;have Xe:((R.map tw).filter<|cg b e).length<64:=by
   have h2:=zaC (cg b e) (R.map tw);rw[zaa] at h2;lia
  refine bX<|Xa<|Ih<|ah rfl ⟨a,ys,_,rfl,aw.of ha,vZ,(H_ up).filter _,Xe,fun q zs us fq pz pm pw=>?_⟩;have s4:=sameNew (o:=.lst zs) fq;have hq:upd H3 q (.lst zs) q=some (.lst zs):=az;have Ii:=sD.mono s4 pz;generalize upd H3 q (.lst zs)=H4 at s4 hq Ii⊢;refine Xb hq Ii (by have:=pm.length_eq;lia) fun l2 f2=>?_
  have nZ:=(nY.trans s3).trans s4;exact k l2 _ _ (nZ.trans<|sameNew f2) (nZ.free f2) az ⟨us,pm,pw,rfl⟩
end
section
variable {K:Frag}{M:List Addr}{C CP CS CM:Addr}{H H':Hp}{p dx d:Addr}{n g:Nat}{kvs:List (Key×V)}{es:List Ent}
def pV(v:V)(H:Hp):Prop:=gz v H\/∃i,v=.int i/\i<0
theorem pV.same(h:pV v H)(s:aB H H'):pV v H':=by
 rcases h with h|h
 ·exact .inl (h.same s)
 ·exact .inr h
def Af(CP:Addr):Sp:=fun vs H Q E=>∃(p:Addr) (v:V),vs=[.ref p,v]/\pV v H/\E (.ref CP) none H
theorem Xf:bM (Af CP) (fun E=>aJ K [("is_whole",gA)] [] (et:=[("NoPlace",CP)]) (E:=E)) yX yW:=by
 intro vs H Q E h;obtain⟨p,v,rfl,hn|⟨i,rfl,hi⟩,q⟩:=h
 ·refine aZ (jH<|dD<|d0 gA rfl<|aq<|ah rfl<|aH ⟨_,rfl,.inr ⟨hn,dZ<|iT (iT ?_ rfl) rfl⟩⟩);exact⟨d3,q⟩
 ·refine aZ (jH<|dD<|d0 gA rfl<|aq<|ah rfl<|aH ⟨_,rfl,.inl ⟨_,rfl,dZ<|iF (bj<|ah rfl<|ar ⟨trivial,_,rfl,iT ?_<|zqT hi⟩) rfl⟩⟩);exact⟨d3,q⟩
def v5(v:V)(es:List Ent)(H:Hp):Prop:=gz v H\/∃i,v=.int i/\∀e∈es,((e.1:Nat):Int)≠i
def gC(C CM:Addr):Sp:=fun vs H Q E=>∃(M:List Addr) (p dx d:Addr) (n g:Nat) (kvs:List (Key×V)) (es:List Ent) (v:V),vs=[.ref p,v]/\bG M C H p dx d n g kvs es/\v5 v es H/\E (.ref CM) none H
theorem Xg(T:jw K C):bM (gC C CM) (fun E=>aJ K [("is_whole",gA)] [] (et:=[("NoMark",CM)]) (E:=E)) yY ib:=by
 intro vs H Q E h;obtain⟨M,p,dx,d,n,g,kvs,es,v,rfl,S,hn|⟨i,rfl,hi⟩,q⟩:=h
 ·refine aZ (jH<|dD<|d0 gA rfl<|aq<|ah rfl<|aH ⟨_,rfl,.inr ⟨hn,dZ<|iT (iT ?_ rfl) rfl⟩⟩);exact⟨d3,q⟩
 ·have hg:cm H d (.int i) none:=by
   have:=cm.k (k:=.inl i) S.st;rw[zZ S.kv hi] at this;exact this
  refine aZ<|jH<|dD<|d0 gA rfl<|aq<|ah rfl<|aH ⟨_,rfl,.inl ⟨_,rfl,dZ<|iF ?_ rfl⟩⟩;refine zX<|ah rfl<|gB<|ah rfl ⟨p,C,dx,_,_,rfl,S.ob,T.cl,T.jx,ky,d,_,rfl,hg,true,rfl,iT ?_ rfl⟩;exact⟨d3,q⟩
abbrev mS(C CM:Addr):List (Str×Addr×Sp):=[("stand",C,gC C CM)]
theorem Xh:bM (gC C CM) (fun E=>aJ K [] [] [] (mS C CM) (E:=E)) ze ib:=by
 intro vs H Q E h;obtain⟨M,p,dx,d,n,g,kvs,es,v,rfl,S,hn,q⟩:=h;exact fH<|f9 C (gC C CM) rfl<|ah rfl ⟨p,dx,_,rfl,S.ob,cc,ah rfl ⟨M,p,dx,d,n,g,kvs,es,v,rfl,S,hn,q⟩⟩
theorem Xi:bM (gC C CM) (fun E=>aJ K [] [] [] (mS C CM) (E:=E)) y3 ib:=by
 intro vs H Q E h;obtain⟨M,p,dx,d,n,g,kvs,es,v,rfl,S,hn,q⟩:=h;exact bX<|dc<|dc<|f9 C (gC C CM) rfl<|ah rfl ⟨p,dx,_,rfl,S.ob,cc,ah rfl ⟨M,p,dx,d,n,g,kvs,es,v,rfl,S,hn,q⟩⟩
theorem Xj:bM (gC C CM) (fun E=>aJ K [] [] [] (mS C CM) (E:=E)) y6 ib:=by
 intro vs H Q E h;obtain⟨M,p,dx,d,n,g,kvs,es,v,rfl,S,hn,q⟩:=h;exact bX<|dc<|dc<|f9 C (gC C CM) rfl<|ah rfl ⟨p,dx,_,rfl,S.ob,cc,ah rfl ⟨M,p,dx,d,n,g,kvs,es,v,rfl,S,hn,q⟩⟩
def v7(C CP CS:Addr):Sp:=fun vs H Q E=>∃(M:List Addr) (p dx d:Addr) (n g:Nat) (kvs:List (Key×V)) (es:List Ent) (v w:V),vs=[.ref p,v,w]/\bG M C H p dx d n g kvs es/\
 ((pK v 0 n H/\E (.ref CP) none H)\/(∃pl:Nat,v=.int (pl:Nat)/\pl<=n)/\nR w H/\E (.ref CS) none H)
theorem Xk:bM (v7 C CP CS) (fun E=>aJ K [("is_between",fI),("need_side",pL CS)] [] [] [("size",C,f_ C),("keep",C,vP C)] (et:=[("NoPlace",CP)]) (E:=E)) y2 rH:=by
 intro vs H Q E h;obtain⟨M,p,dx,d,n,g,kvs,es,v,w,rfl,S,⟨hn,q⟩|⟨⟨pl,rfl,hp⟩,hs,q⟩⟩:=h
 ·refine aZ (dD<|d0 fI rfl<|aq<|ah rfl<|aq<|ar<|aq<|ir C (f_ C) rfl<|ah rfl ⟨p,dx,_,rfl,S.ob,cc,M,p,dx,d,n,g,kvs,es,rfl,S,aH ⟨_,_,_,rfl,.inr ⟨hn,dZ<|iT ?_ rfl⟩⟩⟩);exact⟨d3,q⟩
 ·refine aZ (dD<|d0 fI rfl<|aq<|ah rfl<|aq<|ar<|aq<|ir C (f_ C) rfl<|ah rfl ⟨p,dx,_,rfl,S.ob,cc,M,p,dx,d,n,g,kvs,es,rfl,S,aH ⟨_,_,_,rfl,.inl ⟨_,rfl,by lia,by lia,dZ<|iF (cO ?_) rfl⟩⟩⟩)
  exact fH<|bC (pL CS) rfl<|aq<|ah rfl<|aH ⟨_,rfl,.inr ⟨hs,q⟩⟩
def Ij(v w:V)(n:Nat)(H:Hp):Prop:=pK v 0 n H\/(∃b:Nat,v=.int (b:Nat)/\b<=n/\pK w b n H)
def Ag(C CP:Addr):Sp:=fun vs H Q E=>∃(M:List Addr) (p dx d:Addr) (n g:Nat) (kvs:List (Key×V)) (es:List Ent) (v w:V),vs=[.ref p,v,w]/\bG M C H p dx d n g kvs es/\Ij v w n H/\E (.ref CP) none H
theorem Xl:bM (Ag C CP) (fun E=>aJ K [("is_between",fI)] [] [] (mW C) (et:=[("NoPlace",CP)]) (E:=E)) zg zf:=by
 intro vs H Q E h;obtain⟨M,p,dx,d,n,g,kvs,es,v,w,rfl,S,hn|⟨b,rfl,hb,hn⟩,q⟩:=h
 ·refine aZ (jH<|dD<|d0 fI rfl<|aq<|ah rfl<|aq<|ar<|aq<|ir C (f_ C) rfl<|ah rfl ⟨p,dx,_,rfl,S.ob,cc,M,p,dx,d,n,g,kvs,es,rfl,S,aH ⟨_,_,_,rfl,.inr ⟨hn,dZ<|iT (iT ?_ rfl) rfl⟩⟩⟩);exact⟨d3,q⟩
 ·refine aZ (jH<|dD<|d0 fI rfl<|aq<|ah rfl<|aq<|ar<|aq<|ir C (f_ C) rfl<|ah rfl ⟨p,dx,_,rfl,S.ob,cc,M,p,dx,d,n,g,kvs,es,rfl,S,aH ⟨_,_,_,rfl,.inl ⟨_,rfl,by lia,by lia,dZ<|iF ?_ rfl⟩⟩⟩)
  refine dD<|d0 fI rfl<|aq<|ah rfl<|aq<|ah rfl<|aq<|ir C (f_ C) rfl<|ah rfl ⟨p,dx,_,rfl,S.ob,cc,M,p,dx,d,n,g,kvs,es,rfl,S,aH ⟨_,_,_,rfl,.inr ⟨hn,dZ<|iT ?_ rfl⟩⟩⟩;exact⟨d3,q⟩
variable {cs:List Addr}{bH CE:Addr}
theorem n6(hw:Γ.hs 0=vK Γ.K cs bH)(kE:ku Γ.K cs bH CE j)(hj:j<13)(xE:exmOne Γ.K (.ref CE) (.ref bH)=some true)(q:∀H',aB H H'->D.rt (.str<|iq.getD j "") H'):
  xG Γ.K bH 4 5 (fun ea=>aC {Γ with E:=E0,hv:=some ea} [.ret<|.uA 0<|.v 4]) D (.ref CE) none H:=by
 refine⟨xE,fun ea ob vs σ' j3 hl mI=>?_⟩;have s1:=sameNew (o:=.aY ob jX) j3;have he:ExcAt (upd H ea<|.aY ob jX) ea CE:=⟨ob,vs,az,mI⟩;refine bX ⟨_,(by rw[zbG (by lia)]),⟨ea,CE,rfl,he⟩,?_⟩
 show Γ.hs 0 [.ref ea] _ _ _;rw[hw];exact⟨ea,CE,j,rfl,he,kE,hj,fun H2 s2=>q _<|s1.trans s2⟩
def kz(C:Addr):Sp:=fun vs H Q E=>∃(M:List Addr) (p dx d:Addr) (n g:Nat) (kvs:List (Key×V)) (es:List Ent) (w:Int) (v u:V),vs=[.ref p,.int w,v,u]/\bG M C H p dx d n g kvs es/\
  ((w=0/\pV v H/\∀H',aB H H'->Q (.str "place") H')\/(w=1/\pK v 0 n H/\∀H',aB H H'->Q (.str "place") H')\/(w=2/\(∃pl:Nat,v=.int (pl:Nat)/\pl<=n)/\nR u H/\∀H',aB H H'->Q (.str "side") H')\/
   ((w=3\/w=4\/w=5)/\v5 v es H/\∀H',aB H H'->Q (.str "mark") H')\/(w=6/\Ij v u n H/\∀H',aB H H'->Q (.str "place") H'))
abbrev mT(C CP CS CM:Addr):List (Str×Addr×Sp):=[("add",C,v7 C CP CS),("drop",C,gC C CM),("place",C,gC C CM),("side",C,gC C CM),("within",C,Ag C CP)]
theorem Xm(kP:ku K cs bH CP 3)(kS:ku K cs bH CS 4)(kM:ku K cs bH CM 5)(xP:exmOne K (.ref CP) (.ref bH)=some true)(xS:exmOne K (.ref CS) (.ref bH)=some true)(xM:exmOne K (.ref CM) (.ref bH)=some true)
  (vs:List V) (H:Hp) (Q:VK) (E:XK) (h:kz C vs H Q E):
  aC (aJ K [] [("InkError",.ref bH)] [] (mT C CP CS CM) [("Marks",C,Af CP)] (ht:=[("_law_word",vK K cs bH)]) (E:=E)) FT (Dn Q) (start FR vs) H:=by
 obtain⟨M,p,dx,d,n,g,kvs,es,w,v,u,rfl,S,h⟩:=h;refine⟨bH,rfl,?_⟩;rcases h with⟨rfl,hn,q⟩|⟨rfl,hn,q⟩|⟨rfl,hp,hn,q⟩|⟨hw,hn,q⟩|⟨rfl,hn,q⟩
 ·refine aZ (bj<|ah rfl<|ar<|cG ⟨_,rfl,iT ?_ rfl⟩);refine fH<|zV C (Af CP) rfl<|ah rfl fun x gb hx hd gp=>?_;have s1:aB H (upd (upd H gb<|.own x) x<|.ins C gb []):=fun b o e=>by rw[av<|aS e hx,av<|aS e hd];exact e
  exact⟨x,v,rfl,hn.same s1,n6 rfl kP (by decide) xP fun H' s'=>q _ (s1.trans s')⟩
 ·refine aZ (bj<|ah rfl<|ar<|cG ⟨_,rfl,iF ?_ rfl⟩);refine aZ<|bj<|ah rfl<|ar ⟨trivial,_,rfl,iT ?_ rfl⟩;exact fH<|jI C (v7 C CP CS) rfl<|ah rfl ⟨p,dx,_,rfl,S.ob,cc,ah rfl<|ah rfl ⟨M,p,dx,d,n,g,kvs,es,v,u,rfl,S,.inl ⟨hn,n6 rfl kP (by decide) xP q⟩⟩⟩
 ·refine aZ (bj<|ah rfl<|ar<|cG ⟨_,rfl,iF ?_ rfl⟩);refine aZ<|bj<|ah rfl<|ar ⟨trivial,_,rfl,iT ?_ rfl⟩;exact fH<|jI C (v7 C CP CS) rfl<|ah rfl ⟨p,dx,_,rfl,S.ob,cc,ah rfl<|ah rfl ⟨M,p,dx,d,n,g,kvs,es,v,u,rfl,S,.inr ⟨hp,hn,n6 rfl kS (by decide) xS q⟩⟩⟩
 ·rcases hw with rfl|rfl|rfl
  ·refine aZ (bj<|ah rfl<|ar<|cG ⟨_,rfl,iF ?_ rfl⟩);refine aZ<|bj<|ah rfl<|ar ⟨trivial,_,rfl,iF ?_ rfl⟩;refine aZ<|bj<|ah rfl<|ar<|cG ⟨_,rfl,iT ?_ rfl⟩;exact fH<|f9 C (gC C CM) rfl<|ah rfl ⟨p,dx,_,rfl,S.ob,cc,ah rfl ⟨M,p,dx,d,n,g,kvs,es,v,rfl,S,hn,n6 rfl kM (by decide) xM q⟩⟩
  ·refine aZ (bj<|ah rfl<|ar<|cG ⟨_,rfl,iF ?_ rfl⟩);refine aZ<|bj<|ah rfl<|ar ⟨trivial,_,rfl,iF ?_ rfl⟩;refine aZ<|bj<|ah rfl<|ar<|cG ⟨_,rfl,iF ?_ rfl⟩;refine aZ<|bj<|ah rfl<|ar<|cG ⟨_,rfl,iT ?_ rfl⟩;exact fH<|f9 C (gC C CM) rfl<|ah rfl ⟨p,dx,_,rfl,S.ob,cc,ah rfl ⟨M,p,dx,d,n,g,kvs,es,v,rfl,S,hn,n6 rfl kM (by decide) xM q⟩⟩
  ·refine aZ (bj<|ah rfl<|ar<|cG ⟨_,rfl,iF ?_ rfl⟩);refine aZ<|bj<|ah rfl<|ar ⟨trivial,_,rfl,iF ?_ rfl⟩;refine aZ<|bj<|ah rfl<|ar<|cG ⟨_,rfl,iF ?_ rfl⟩;refine aZ<|bj<|ah rfl<|ar<|cG ⟨_,rfl,iF ?_ rfl⟩;refine aZ<|bj<|ah rfl<|ar<|cG ⟨_,rfl,iT ?_ rfl⟩;exact fH<|f9 C (gC C CM) rfl<|ah rfl ⟨p,dx,_,rfl,S.ob,cc,ah rfl ⟨M,p,dx,d,n,g,kvs,es,v,rfl,S,hn,n6 rfl kM (by decide) xM q⟩⟩
 ·refine aZ (bj<|ah rfl<|ar<|cG ⟨_,rfl,iF ?_ rfl⟩);refine aZ<|bj<|ah rfl<|ar ⟨trivial,_,rfl,iF ?_ rfl⟩;refine aZ<|bj<|ah rfl<|ar<|cG ⟨_,rfl,iF ?_ rfl⟩;refine aZ<|bj<|ah rfl<|ar<|cG ⟨_,rfl,iF ?_ rfl⟩;refine aZ<|bj<|ah rfl<|ar<|cG ⟨_,rfl,iF ?_ rfl⟩;exact fH<|jI C (Ag C CP) rfl<|ah rfl ⟨p,dx,_,rfl,S.ob,cc,ah rfl<|ah rfl ⟨M,p,dx,d,n,g,kvs,es,v,u,rfl,S,hn,n6 rfl kP (by decide) xP q⟩⟩
end
def cI(H:Hp)(kv:Key×V)(r:Row):Prop:= ∃v,kv=(.inl ((r.1:Nat):Int),v)/\fc H v r.2
theorem cI.mono(t:ij H H'){kv:Key×V}{r:Row}(h:cI H kv r):cI H' kv r:=by
 obtain⟨v,e,h⟩:=h;exact⟨v,e,h.mono t⟩
structure bP (M:List Addr) (C:Addr) (H:Hp) (p dx d rw n g:Nat) (R:List Row):Prop where
 sh:∃kvs,bG M C H p dx d n g kvs (eR R)
 hr:∃kvs,H rw=some (.dK kvs)/\Paired (cI H) kvs R
 ne:rw≠d
section
variable {K:Frag}{M:List Addr}{C:Addr}{H H':Hp}{p dx d rw n g:Nat}{R:List Row}{kvs:List (Key×V)}
theorem bP.same(A:bP M C H p dx d rw n g R)(s:aB H H'):bP M C H' p dx d rw n g R:=by
 obtain⟨⟨kvs,S⟩,⟨cv,h1,h2⟩,ne⟩:=A;exact⟨⟨kvs,S.same s⟩,⟨cv,s _ _ h1,Paired.bY h2 fun _ _ z=>cI.mono (dO s) z⟩,ne⟩
theorem bP.up(A:bP M C H p dx d rw n g R):(R.map (·.1)).Pairwise (· < ·):=by
 obtain⟨⟨kvs,S⟩,_⟩:=A;have:=S.up;rwa [Ia] at this
theorem bP.le(A:bP M C H p dx d rw n g R){r:Row}(h:r∈R):r.2.1<=n/\(r.2.2="left"\/r.2.2="right"):=by
 obtain⟨⟨kvs,S⟩,_⟩:=A;exact S.pl _ (zbC h) r.2<|.head _
theorem bP.lt(A:bP M C H p dx d rw n g R){r:Row}(h:r∈R):r.1<g:=by
 obtain⟨⟨kvs,S⟩,_⟩:=A;exact S.lt _<|zbC h
theorem n_:∀{kvs:List (Key×V)}{R:List Row},Paired (cI H) kvs R->(R.map (·.1)).Pairwise (· < ·)->∀{i:Nat}{r:Row},R[i]?=some r->∃v,kvs[i]?=some (.inl ((r.1:Nat):Int),v)/\cB kvs (.inl ((r.1:Nat):Int))=some v/\fc H v r.2
 |[],[],_,_,i,r,h=>by simp at h
 |_::kvs,_::R,.cons a t,hu,0,r,h=>by
  cases h;obtain⟨v,e1,e2⟩:=a;exact⟨v,by rw[e1];rfl,by rw[e1];exact k7 rfl,e2⟩
 |kv::kvs,r0::R,.cons a t,hu,i+1,r,h=>by
  rw[zak,List.pairwise_cons] at hu;have h':R[i]?=some r:=h;obtain⟨v,e1,e2,e3⟩:=n_ t hu.2 h';obtain⟨v0,a1,_⟩:=a;refine⟨v,by simpa using e1,?_,e3⟩
  have ne:¬kv.1=.inl ((r.1:Nat):Int):=by
   rw[a1];intro z;have z':((r0.1:Nat):Int)=((r.1:Nat):Int):=Sum.inl.inj z;have:=hu.1 r.1 (zbC<|zat h');lia
  rw[iG ne];exact e2
theorem Ah:∀{kvs:List (Key×V)}{R:List Row},Paired (cI H) kvs R->∀{i:Int},(∀r∈R,((r.1:Nat):Int)≠i)->cB kvs (.inl i)=none
 |[],[],_,_,_=>rfl
 |kv::kvs,r0::R,.cons a t,i,h=>by
  obtain⟨v0,a1,_⟩:=a;have ne:¬kv.1=.inl i:=by
   rw[a1];exact fun z=>h r0 (.head _)<|Sum.inl.inj z
  rw[iG ne];exact Ah t fun r hr=>h r (.tail _ hr)
theorem Ai:∀{kvs:List (Key×V)}{R:List Row},Paired (cI H) kvs R->(kvs.map fun p=>kV p.1)=(R.map fun r=>((r.1:Nat):Int)).map V.int
 |[],[],_=>rfl
 |kv::kvs,r0::R,.cons a t=>by
  obtain⟨v0,a1,_⟩:=a;rw[zak,zak,zak,Ai t,a1];rfl
theorem Xn(h:(R.map (·.1)).Pairwise (· < ·)):(R.map fun r=>((r.1:Nat):Int)).Pairwise (· <= ·):=by
 rw[zbe] at h⊢;exact h.imp fun a=>by lia
theorem Xo{u0 u2 u3 u4 u5 u6:Option V}(hr:H rw=some (.dK kvs))(hp:Paired (cI H) kvs R)(hu:(R.map (·.1)).Pairwise (· < ·))(hl:R.length<=1000)(q:∀l H' ys,aB H H'->H l=none->H' l=some (.lst ys)->Paired (P2.V2 H') ys (R.map tw)->Q (.ref l) H'):
  ag Γ (.xt (zb [("_law_rows",1)]<|.tup [(.ix (.bR (.v 1)<|.v 0)<|.c<|.int 0),.v 0]) [.v 1]) [u0,some<|.ref rw,u2,u3,u4,u5,u6] H Q:=by
 intro Γ' hΓ;have lk:=Paired.length hp;refine⟨_,rfl,rw,kvs,rfl,hr,fun od=>⟨fun i m ys H2=>m=R.length - i/\i<=R.length/\aB (upd H rw (.aY od<|.dK kvs)) H2/\Paired (P2.V2 H2) ys ((R.take i).map tw),⟨_,rfl,zqZ _,aB.refl _,.nil⟩,?_⟩⟩;rintro i m ys H2 ⟨rfl,hi,s2,hy⟩;have hd:H2 rw=some (.aY od<|.dK kvs):=s2 _ _ az;have ly:=Paired.length hy;rw[zaa,zas] at ly;by_cases aI:i<R.length
 ·refine .inr ⟨⟨hd,by lia⟩,?_⟩
  rintro x H3 ⟨rfl,kv,Ik,rfl⟩;have gE:R[i]?=some R[i]:=by simp[aI]
  generalize R[i]=r at gE;obtain⟨v,e1,e2,t,rfl,ht⟩:=n_ hp hu gE;rw[e1] at Ik;cases Ik;have qZ:t≠rw:=fun z=>by rw[z,hr] at ht;cases ht
  have kc:H3 t=some (.tup [.int (r.2.1:Nat),.str r.2.2]):=s2 _ _ (by rw[av qZ];exact ht)
  have hg:cm H3 rw (.int ((r.1:Nat):Int)) (some<|.ref t):=.inl ⟨kvs,.inl ((r.1:Nat):Int),.inr ⟨od,hd⟩,rfl,e2.symm⟩;have key:ag Γ' (.tup [(.ix (.bR (.v 1)<|.v 0)<|.c<|.int 0),.v 0]) [some<|.int ((r.1:Nat):Int),some<|.ref rw] H3 fun y H6=>ys.length<sizeLine/\∃m',m'<R.length - i/\m'=R.length - (i+1)/\i+1<=R.length/\aB (upd H rw (.aY od<|.dK kvs)) H6/\Paired (P2.V2 H6) (ys++[y]) ((R.take<|i+1).map tw):=by
   refine kq<|aq<|dc<|dR<|ah rfl<|ah rfl ⟨rw,_,rfl,hg,ar<|kx kc rfl<|aq<|ah rfl<|aH ⟨dw,fun a fa=>?_⟩⟩;have s3:=sameNew (o:=.tup [V.int ((r.2.1:Nat):Int),V.int ((r.1:Nat):Int)]) fa;refine⟨dr (by lia),_,by lia,rfl,aI,s2.trans s3,?_⟩
   rw[sr gE,zav];exact Paired.snoc (sD.mono s3 hy) ⟨a,rfl,az⟩
  exact key
 ·have dQ:i=R.length:=by lia
  subst dQ;refine .inl ⟨⟨hd,by lia⟩,fun l fl=>⟨rw,od,kvs,kvs,hr,?_,?_⟩⟩
  ·rw[av<|aS hd fl];exact hd
  ·rw[zaJ] at hy;have nl:rw≠l:=aS hd fl;have sm:aB H (upd (upd H2 l<|.lst ys) rw (.dK kvs)):=fun b o e=>by
    by_cases hb:b=rw
    ·subst hb;rw[hr] at e;cases e;exact az
    ·have e2:H2 b=some o:=s2 _ _ (by rw[av hb];exact e)
     rw[av hb,av<|aS e2 fl];exact e2
   refine q l _ ys sm ?_ (by rw[av nl.symm];exact az)<|Paired.bY hy fun v t ⟨a,e,ha⟩=>⟨a,e,?_⟩
   ·cases h:H l with
    |none=>rfl
    |some o=>
     have:H2 l=some o:=s2 _ _ (by rw[av nl.symm];exact h)
     rw[fl] at this;cases this
   ·rw[av (fun z=>by rw[z,hd] at ha;cases ha),av<|aS ha fl];exact ha
theorem oa{QT:Bool->Hp->Prop}{b:RE}{r:List RE}(h:aU Γ a σ H fun c H1=>if c=true then QT true H1 else aU Γ (.or (b::r)) σ H1 QT):aU Γ (.or (a::b::r)) σ H QT:=h
theorem Aj{QT:Bool->Hp->Prop}(h:aU Γ a σ H QT):aU Γ (.or [a]) σ H QT:=h
theorem Xp{QT:Bool->Hp->Prop}(h:ag Γ a σ H fun x H1=>∃(p:Addr) (bs:List Bool),x=.ref p/\aw Γ.K H1 p (bs.map V.bl)/\QT (bs.all id) H1):aU Γ (.xt rC [a]) σ H QT:=by
 refine lU (x:=a) _ _ (fun x H1=>⟨?_,?_⟩) h
 ·rintro⟨p,bs,rfl,h1,h2⟩;exact⟨p,bs,rfl,h1,h2⟩
 ·rintro⟨p,bs,e,h1,h2⟩;exact⟨p,bs,by simpa using e,h1,h2⟩
theorem Xq(h:ag Γ a σ H fun x H1=>∃(p:Addr) (bs:List Bool),x=.ref p/\aw Γ.K H1 p (bs.map V.bl)/\Q (.bl<|bs.all id) H1):ag Γ (.xt rC [a]) σ H Q:=by
 refine lU (x:=a) _ _ (fun x H1=>⟨?_,?_⟩) h
 ·rintro⟨p,bs,rfl,h1,h2⟩;exact⟨p,bs,rfl,h1,h2⟩
 ·rintro⟨p,bs,e,h1,h2⟩;exact⟨p,bs,by simpa using e,h1,h2⟩
theorem Il{k:Nat}{l:Addr}{ns:List Int}(hw:Γ.calm.fs k=jB)(hj:σ[j]?=some (some<|.ref l))(hl:H l=some (.lst<|ns.map V.int))(hn:ns.length<=1000)(q:∀p H' (bs:List Bool),aB H H'->H' p=some (.lst<|bs.map V.bl)->bs.all id=true->Q (.ref p) H'):
  ag Γ (.comp none [] .list [.v j] none<|.call k [.v 0]) σ H Q:=by
 refine Wb<|ah hj ⟨l,rfl,⟨_,aw.of hl⟩,?_⟩;refine Wa hl (by rw[zaa];lia) (fun i ys H2=>H2=H/\ys=(List.replicate i true).map V.bl) ⟨rfl,rfl⟩ ?_ ?_
 ·rintro i y ys H5 hy s5 ⟨rfl,rfl⟩ Q' kk;obtain⟨z,_,rfl⟩:=zay.mp (zat hy);refine bC jB hw<|aq<|ah rfl<|aH ⟨_,rfl,kk _ _ (aB.refl _) ⟨rfl,?_⟩⟩;rw[List.replicate_succ',zav];rfl
 rintro ys H5 a5 s5 ⟨rfl,rfl⟩ f5;exact q a5 _ _ (sameNew f5) az (by simp)
def pW(C:Addr):Sp:=fun vs H Q E=>∃(M:List Addr) (p dx d rw n g b e:Nat) (R:List Row),vs=[.ref p,.ref rw,.int (b:Nat),.int (e:Nat)]/\bP M C H p dx d rw n g R/\R.length<64/\b<=e/\e<=n/\∀H',aB H H'->Q (.bl true) H'
abbrev Im(K:Frag)(C:Addr)(E:XK):aN:=aJ K [("_law_whole",jB)] [] [] [("within",C,nX C)] (E:=E)
theorem Xr:bM (pW C) (fun E=>Im K C E) FW FV:=by
 intro vs H Q E h;obtain⟨M,p,dx,d,rw,n,g,b,e,R,rfl,A,cE,gY,vY,q⟩:=h;have hu:=A.up;obtain⟨kvs,hr,hp⟩:=A.hr;refine Ad<|Ig<|Ih<|Xo hr hp hu (by lia) fun l H1 ys s1 fl hl pv=>⟨l,ys,_,rfl,aw.of hl,pv,H_ hu,by rw[zaa];exact cE,fun l2 zs us f2 pz pm pw=>?_⟩
 have s2:=sameNew (o:=.lst zs) f2;have gG:upd H1 l2 (.lst zs) l2=some (.lst zs):=az;have Ak:=sD.mono s2 pz;have iw:=s1.trans s2;generalize upd H1 l2 (.lst zs)=H2 at s2 gG Ak iw⊢;have lz:=Paired.length Ak;have lu:us.length=R.length:=by rw[pm.length_eq,zaa]
 refine⟨l2,rfl,⟨_,aw.of gG⟩,fun i m ys H3=>m=us.length - i/\i<=us.length/\H3=H2/\ys=(((us.take i).filter<|cg b e).map (·.2)).map V.int,⟨_,rfl,zqZ _,rfl,rfl⟩,?_⟩;rintro i m ys H3 ⟨rfl,hi,rfl,rfl⟩;by_cases aI:i<us.length
 ·refine .inr ⟨⟨zs,zs[i],aw.of gG,by simp[lz,aI]⟩,?_⟩
  rintro y H4 ⟨rfl,hx⟩;obtain⟨t,ht,a,rfl,ha⟩:=pO Ak (hx zs<|aw.of gG);have et:((us.take<|i+1).filter<|cg b e)=(us.take i).filter (cg b e)++[t].filter (cg b e):=by rw[sr ht,zbA]
  have hle:((us.take i).filter<|cg b e).length<=us.length:=by
   have h2:=zaC (cg b e) (us.take i);rw[zas] at h2;lia
  have no:cg b e t=false->∃m',m'<us.length - i/\m'=us.length - (i+1)/\i+1<=us.length/\H4=H4/\(((us.take i).filter<|cg b e).map (·.2)).map V.int=(((us.take<|i+1).filter<|cg b e).map (·.2)).map V.int:=fun hf=>⟨_,by lia,rfl,aI,rfl,by rw[et,zaK (by rw[hf];decide),zbg,zag]⟩
  refine HM<|HL<|ah rfl<|dc<|ah rfl<|ar<|kx ha rfl ⟨trivial,_,rfl,cw (fun h1=>?_)<|fun h1=>?_⟩
  ·refine ah rfl ⟨trivial,_,rfl,cw (fun h2=>?_)<|fun h2=>no ?_⟩
   ·refine dc (ah rfl<|ar<|kx ha rfl ⟨dr (by rw[zaa,zaa];lia),_,by lia,rfl,aI,rfl,?_⟩)
    have hf:cg b e t=true:=by unfold cg;rw[h1,h2];rfl
    rw[et,zaQ hf,zbg,zav,zav];rfl
   ·unfold cg;rw[show decide (t.1<= (e:Int))=false from by simpa using h2,zbn]
  ·refine⟨_,rfl,iF (no ?_) rfl⟩;unfold cg;rw[show decide ((b:Int)<=t.1)=false from by simpa using h1,zbi]
 ·have dQ:i=us.length:=by lia
  subst dQ;refine .inl ⟨⟨zs,aw.of gG,by lia⟩,fun du fd=>?_⟩
  rw[zaJ];have wt:lX R b e ((us.filter<|cg b e).map (·.2)):=lX.of pm pw;have ln:((us.filter<|cg b e).map (·.2)).length<=64:=by
   have h2:=zaC (cg b e) us;rw[zaa];lia
  generalize (us.filter<|cg b e).map (·.2)=ns at wt ln⊢;have s3:=sameNew (o:=.lst (ns.map V.int)) fd;have Io:upd H3 du (.lst<|ns.map V.int) du=some (.lst<|ns.map V.int):=az;have Al:=iw.trans s3;generalize upd H3 du (.lst<|ns.map V.int)=H4 at s3 Io Al⊢;refine HI<|ar ⟨2,rfl,by decide,by decide,wH (lo:=0) (fun i σ H5=>∃u5 u6:Option V,σ=[some<|.ref p,some<|.ref rw,some<|.int (b:Nat),some<|.int (e:Nat),some<|.ref du,u5,u6]/\aB H4 H5) ⟨none,none,rfl,aB.refl _⟩ ?_ ?_⟩
  ·rintro i σ H5 hi ⟨u5,u6,rfl,s5⟩;show aC (Im K C E) _ _ [some<|.ref p,some<|.ref rw,some<|.int (b:Nat),some<|.int (e:Nat),some<|.ref du,some<|.int<|0+(i:Int),u6] H5;obtain⟨⟨v8,S5⟩,_⟩:=A.same (Al.trans s5);refine bW<|jI C (nX C) rfl<|ah rfl ⟨p,dx,_,rfl,S5.ob,cc,ah rfl<|ah rfl ⟨M,p,dx,d,n,g,b,e,v8,R,rfl,S5,cE,gY,vY,fun f H6 ms s6 ff hf wm=>?_⟩⟩;cases wt.uniq wm;have Xs:=(s5.trans s6) _ _ Io;refine aZ<|oa<|dD<|V9<|ah rfl<|rP hf<|iF ?_ rfl;refine oa<|bj<|ah rfl<|ah rfl<|vX hf Xs ⟨_,rfl,iF ?_ rfl⟩;refine Aj<|dD<|Xp<|Il rfl rfl hf (by lia) fun a H7 bs s7 ha hb=>⟨a,bs,rfl,aw.of ha,?_⟩
   rw[hb];refine iF (cO ?_) rfl;have Ip:=s7 _ _ hf;refine fH<|HD<|ah rfl ⟨.inl ⟨rfl,_,aw.of Ip⟩,vQ ⟨_,Ip,dr (by rw[zaa];lia),?_⟩⟩
   refine⟨_,_,rfl,fun c o ec=>?_⟩;have e5:=s5 _ _ ec;rw[av<|aS e5 ff];exact s7 _ _<|s6 _ _ e5
  ·rintro σ H5 ⟨u5,u6,rfl,s5⟩;exact bX<|ar<|q _<|Al.trans s5
end
section
variable {K:Frag}{M:List Addr}{C:Addr}{H H':Hp}{p dx d rw n g:Nat}{R:List Row}{kvs:List (Key×V)}
theorem Am(h:ag Γ a σ H fun x H1=>o8 Γ.K [x] H1 Q):ag Γ (.xt o9 [a]) σ H Q:=h
theorem Xt(h:ag Γ a σ H fun x H1=>vo Γ.K [x] H1 Q):ag Γ (.xt zd [a]) σ H Q:=h
theorem Xu{b:RE}(h:ag Γ a σ H fun x H1=>ag Γ b σ H1 fun y H2=>lg Γ.K .max [x,y] H2 Q):ag Γ (.blt .max [a,b]) σ H Q:=h
abbrev kI(R:List Row):List Int:=R.map fun r=>((r.1:Nat):Int)
theorem Xv(R:List Row):((eR R).map fun e=>((e.1:Nat):Int))=kI R:=by rw[zaP];rfl
theorem bP.sorted(A:bP M C H p dx d rw n g R)(hl:R.length<64)(q:∀l,H l=none->Q (.ref l) (upd H l<|.lst<|(kI R).map V.int)):o8 K [.ref rw] H Q:=by
 obtain⟨kvs,hr,hp⟩:=A.hr;refine⟨rw,kvs,kI R,rfl,hr,Ai hp,by rw[zaa];exact hl,fun l ms fl pm pw=>?_⟩
 rw[HH pm pw<|Xn A.up];exact q l fl
theorem bP.row(A:bP M C H p dx d rw n g R){r:Row}(h:R[i]?=some r):∃t,cm H rw (.int ((r.1:Nat):Int)) (some<|.ref t)/\H t=some (.tup [.int (r.2.1:Nat),.str r.2.2]):=by
 obtain⟨kvs,hr,hp⟩:=A.hr;obtain⟨v,e1,e2,t,rfl,ht⟩:=n_ hp A.up h;refine⟨t,?_,ht⟩;have:=cm.k (k:=.inl ((r.1:Nat):Int)) hr;rw[e2] at this;exact this
theorem Iq{α:Type}{xs:List V}{lo hi:Option Int}{v:V}(h:v∈bL xs lo hi):v∈xs:=List.mem_of_mem_drop (List.mem_of_mem_take h)
def An(C:Addr):Sp:=fun vs H Q E=>∃(M:List Addr) (p dx d rw n g:Nat) (R:List Row) (c:Int),vs=[.ref p,.ref rw,.int c]/\bP M C H p dx d rw n g R/\R.length<64/\∀H',aB H H'->Q (.bl true) H'
abbrev Ao(K:Frag)(C:Addr)(E:XK):aN:=aJ K [("_law_mixed",c_),("_law_whole",jB),("_law_within",pW C)] [] [] [("place",C,pS C),("side",C,z7 C)] (E:=E)
theorem Xw:bM (An C) (fun E=>Ao K C E) FZ FY:=by
 intro vs H Q E h;obtain⟨M,p,dx,d,rw,n,g,R,c,rfl,A,cE,q⟩:=h;refine bW<|Am<|ah rfl<|A.sorted cE fun l fl=>?_;have s1:=sameNew (o:=.lst ((kI R).map V.int)) fl;have cH:upd H l (.lst<|(kI R).map V.int) l=some (.lst<|(kI R).map V.int):=az;generalize upd H l (.lst<|(kI R).map V.int)=H1 at s1 cH⊢;have lk:((kI R).map V.int).length=R.length:=by rw[zaa,zaa]
 refine bW<|bc<|bC c_ rfl<|aq<|ah rfl<|aq<|ar<|aH ⟨_,_,rfl,?_⟩;refine Xu<|ar<|lV<|ah rfl<|.inl ⟨_,aw.of cH,?_⟩;refine W8 ?_;generalize Xx:(if ((((kI R).map V.int).length:Nat):Int) >1 then ((((kI R).map V.int).length:Nat):Int) else 1)=mx
 have Z2:1<=mx:=by rw[<-Xx];split<;>lia
 refine de (by lia) ?_
 have f0:=zaq (mixed c 17) (show mx≠0 by lia)
 generalize mixed c 17 % mx=f at f0⊢;refine pM<|bc<|WX<|ah rfl<|ah rfl ⟨f,rfl,.inl ⟨_,aw.of cH,fun a fa=>?_⟩⟩;have s2:=sameNew (o:=.lst (bL ((kI R).map V.int) (some f) none)) fa;have ha:upd H1 a (.lst<|bL ((kI R).map V.int) (some f) none) a=some (.lst<|bL ((kI R).map V.int) (some f) none):=az;generalize upd H1 a (.lst<|bL ((kI R).map V.int) (some f) none)=H2 at s2 ha⊢;refine WZ<|ah rfl<|ah rfl ⟨f,rfl,.inl ⟨_,aw.of<|s2 _ _ cH,fun b fb=>?_⟩⟩;have s3:=sameNew (o:=.lst (bL ((kI R).map V.int) none<|some f)) fb;have hb:upd H2 b (.lst<|bL ((kI R).map V.int) none<|some f) b=some (.lst<|bL ((kI R).map V.int) none<|some f):=az;generalize upd H2 b (.lst<|bL ((kI R).map V.int) none<|some f)=H3 at s3 hb⊢;have ca:(bL ((kI R).map V.int) (some f) none).length<=64:=by
  have:(bL ((kI R).map V.int) (some f) none).length<= ((kI R).map V.int).length:=by unfold bL;rw[zas,zaS];lia
  lia
 have cb:(bL ((kI R).map V.int) none<|some f).length<=64:=by
  have:(bL ((kI R).map V.int) none<|some f).length<= ((kI R).map V.int).length:=by unfold bL;rw[zas,zaS];lia
  lia
 refine .inl ⟨a,b,_,_,rfl,rfl,s3 _ _ ha,hb,cq (by lia),fun L fL=>?_⟩
 have hm:∀v∈bL ((kI R).map V.int) (some f) none++bL ((kI R).map V.int) none (some f),∃(i:Nat) (r:Row),R[i]?=some r/\v=.int ((r.1:Nat):Int):=fun v hv=>by
  have:v∈ (kI R).map V.int:=by
   rcases zai.mp hv with h|h
   ·exact Iq (α:=Nat) h
   ·exact Iq (α:=Nat) h
  obtain⟨z,hz,rfl⟩:=zay.mp this;obtain⟨r,hr,rfl⟩:=zay.mp hz;obtain⟨i,hi⟩:=zbB hr;exact⟨i,r,hi,rfl⟩
 have s4:=sameNew (o:=.lst (bL ((kI R).map V.int) (some f) none++bL ((kI R).map V.int) none (some f))) fL;have hL:upd H3 L (.lst<|bL ((kI R).map V.int) (some f) none++bL ((kI R).map V.int) none (some f)) L=some (.lst<|bL ((kI R).map V.int) (some f) none++bL ((kI R).map V.int) none (some f)):=az;generalize bL ((kI R).map V.int) (some f) none++bL ((kI R).map V.int) none (some f)=xs at hm s4 hL⊢;have nZ:=((s1.trans s2).trans s3).trans s4;have Ir:=(s2.trans s3).trans s4;generalize upd H3 L (.lst xs)=H4 at s4 hL nZ Ir⊢;refine⟨L,rfl,⟨_,aw.of hL⟩,iD (K:=K) (a:=L) (xs:=xs) (fun i σ H5=>∃u5 u6:Option V,σ=[some<|.ref p,some<|.ref rw,some<|.int c,some<|.ref l,some<|.int f,u5,u6]/\aB H4 H5) ⟨none,none,rfl,aB.refl _⟩ (fun i σ H5 _ ⟨_,_,_,s5⟩=>aw.of (s5 _ _ hL)) ?_ ?_⟩
 ·rintro i v σ H5 hv ⟨u5,u6,rfl,s5⟩;obtain⟨j,r,hj,rfl⟩:=hm v (zat hv);show aC (Ao K C E) _ _ [some<|.ref p,some<|.ref rw,some<|.int c,some<|.ref l,some<|.int f,some<|.int ((r.1:Nat):Int),u6] H5;have A5:=A.same (nZ.trans s5);obtain⟨⟨v8,S5⟩,_⟩:=id A5;obtain⟨t,hg,ht⟩:=A5.row hj;refine bW<|f9 C (pS C) rfl<|ah rfl ⟨p,dx,_,rfl,S5.ob,cc,ah rfl ⟨M,p,dx,d,n,g,j,v8,_,r.1,r.2,rfl,S5,vW hj,?_⟩⟩;refine aZ<|oa<|dD<|d0 jB rfl<|aq<|ah rfl<|aH ⟨_,rfl,dZ<|iF ?_ rfl⟩;refine oa<|bj<|ah rfl<|dc<|dR<|ah rfl<|ah rfl ⟨rw,_,rfl,hg,ar<|kx ht rfl<|si ⟨_,rfl,iF ?_ (by simp)⟩⟩
  refine Aj<|bj<|f9 C (z7 C) rfl<|ah rfl ⟨p,dx,_,rfl,S5.ob,cc,ah rfl ⟨M,p,dx,d,n,g,j,v8,_,r.1,r.2,rfl,S5,vW hj,?_⟩⟩;refine dc<|dR<|ah rfl<|ah rfl ⟨rw,_,rfl,hg,ar<|kx ht rfl<|V_ ⟨_,rfl,iF (cO ?_) rfl⟩⟩;exact⟨_,_,rfl,s5⟩
 rintro σ H5 ⟨u5,u6,rfl,s5⟩;have sE:=s5 _ _ (Ir _ _ cH);refine pM<|ah rfl ⟨l,rfl,⟨_,aw.of sE⟩,iD (K:=K) (a:=l) (xs:=(kI R).map V.int) (fun i σ H6=>∃u5 u6:Option V,σ=[some<|.ref p,some<|.ref rw,some<|.int c,some<|.ref l,some<|.int f,u5,u6]/\aB H5 H6) ⟨_,_,rfl,aB.refl _⟩ (fun i σ H6 _ ⟨_,_,_,s6⟩=>aw.of (s6 _ _ sE)) ?_ ?_⟩
 ·rintro i v σ H6 hv ⟨u5,u6,rfl,s6⟩;obtain⟨z,hz,rfl⟩:=zay.mp (zat hv);obtain⟨r,hr,rfl⟩:=zay.mp hz;obtain⟨j,hj⟩:=zbB hr;show aC (Ao K C E) _ _ [some<|.ref p,some<|.ref rw,some<|.int c,some<|.ref l,some<|.int f,some<|.int ((r.1:Nat):Int),u6] H6;have A6:=A.same ((nZ.trans s5).trans s6);obtain⟨t,hg,ht⟩:=A6.row hj;refine aZ<|dD<|d0 (pW C) rfl<|aq<|ah rfl<|aq<|ah rfl<|aq<|dc<|dR<|ah rfl<|ah rfl ⟨rw,_,rfl,hg,ar<|kx ht rfl ?_⟩;refine aq<|dc<|dR<|ah rfl<|ah rfl ⟨rw,_,rfl,hg,ar<|kx ht rfl<|aH ⟨M,p,dx,d,rw,n,g,r.2.1,r.2.1,R,rfl,A6,cE,zqR _,(A.le hr).1,fun H7 s7=>dZ<|iF (cO ?_) rfl⟩⟩;exact⟨_,_,rfl,s6.trans s7⟩
 ·rintro σ H6 ⟨u5,u6,rfl,s6⟩;exact bX<|ar<|q _<|(nZ.trans s5).trans s6
def Ap(C:Addr):Sp:=fun vs H Q E=>∃(M:List Addr) (p dx d rw n g:Nat) (R:List Row) (c w:Int),vs=[.ref p,.ref rw,.int (n:Nat),.int c,.int w]/\bP M C H p dx d rw n g R/\R.length<64/\∀H',aB H H'->Q (.bl true) H'
abbrev Iu(K:Frag)(C:Addr)(E:XK):aN:=aJ K [("_law_whole",jB),("_law_places",An C),("_law_mixed",c_),("_law_within",pW C)] [] [] [("size",C,f_ C),("numbers",C,nV C)] (E:=E)
theorem Xy:bM (Ap C) (fun E=>Iu K C E) F2 F1:=by
 intro vs H Q E h;obtain⟨M,p,dx,d,rw,n,g,R,c,w,rfl,A,cE,q⟩:=h;obtain⟨⟨kvs,S⟩,_⟩:=id A;have sz:∀{σ:St}{Q1:VK},σ[0]?=some (some<|.ref p)->Q1 (.int (n:Nat)) H->ag (Iu K C E) (.bo 0 "size" (.v 0) []) σ H Q1:=fun e0 q=>
  ir C (f_ C) rfl (ah e0 ⟨p,dx,_,rfl,S.ob,cc,M,p,dx,d,n,g,kvs,_,rfl,S,q⟩)
 refine aZ<|bj<|ah rfl<|ar<|cG ⟨_,rfl,cw (fun _=>?_)<|fun _=>cO ?_⟩
 ·refine bX (sq<|bC jB rfl<|aq<|sz rfl<|aH ⟨_,rfl,_,rfl,iT (gP<|sz rfl<|ah rfl<|cG ?_) rfl⟩);rw[zqT rfl];exact q _ (aB.refl _)
 refine aZ<|bj<|ah rfl<|ar<|cG ⟨_,rfl,cw (fun _=>?_)<|fun _=>cO ?_⟩
 ·refine bW (ir C (nV C) rfl<|ah rfl ⟨p,dx,_,rfl,S.ob,cc,M,p,dx,d,n,g,kvs,_,rfl,S,by rw[zaa];exact cE,fun l fl=>?_⟩)
  have s1:=sameNew (o:=.lst (((eR R).map fun e=>((e.1:Nat):Int)).map V.int)) fl;have cH:upd H l (.lst<|((eR R).map fun e=>((e.1:Nat):Int)).map V.int) l=some (.lst<|(kI R).map V.int):=by rw[az,Xv]
  generalize upd H l (.lst<|((eR R).map fun e=>((e.1:Nat):Int)).map V.int)=H1 at s1 cH⊢;refine bX<|sq<|W2<|ah rfl<|rP cH ⟨_,rfl,iT ?_ rfl⟩;refine sq<|gP<|ah rfl<|Am<|ah rfl<|(A.same s1).sorted cE fun l2 f2=>?_;have s2:=sameNew (o:=.lst ((kI R).map V.int)) f2;refine W9 (s2 _ _ cH) az ⟨_,rfl,iT (HK<|Xq<|Il rfl rfl (s2 _ _ cH) (by rw[zaa];lia) fun a H7 bs s7 ha hb=>⟨a,bs,rfl,aw.of ha,?_⟩) rfl⟩
  rw[hb];exact q _ ((s1.trans s2).trans s7)
 refine aZ<|bj<|ah rfl<|ar<|cG ⟨_,rfl,cw (fun _=>?_)<|fun _=>cO ?_⟩
 ·exact bX (bC (An C) rfl<|aq<|ah rfl<|aq<|ah rfl<|aq<|ah rfl<|aH ⟨M,p,dx,d,rw,n,g,R,_,rfl,A,cE,q⟩)
 have p1:=zaq (mixed c 11) (show(n:Int)+1≠0 by lia)
 have l1:=zar (mixed c 11) (show(0:Int) < (n:Int)+1 by lia)
 have p3:=zaq (mixed c 13) (show(n:Int)+1≠0 by lia)
 have l3:=zar (mixed c 13) (show(0:Int) < (n:Int)+1 by lia)
 refine bW<|Xt<|fG<|aq<|bc<|bC c_ rfl<|aq<|ah rfl<|aq<|ar<|aH ⟨_,_,rfl,bc<|ah rfl<|ar<|i8<|de (by lia) ?_⟩
 refine aq<|bc<|bC c_ rfl<|aq<|ah rfl<|aq<|ar<|aH ⟨_,_,rfl,bc<|ah rfl<|ar<|i8<|de (by lia)<|aH ⟨dw,fun l fl=>?_⟩⟩
 generalize mixed c 11 % ((n:Int)+1)=x at p1 l1⊢;generalize mixed c 13 % ((n:Int)+1)=y at p3 l3⊢;have s1:=sameNew (o:=.lst [V.int x,V.int y]) fl;refine⟨l,[x,y],rfl,aw.of az,(by show 2<64;decide),fun l2 ms f2 pm pw=>?_⟩
 have s2:=sameNew (o:=.lst (ms.map V.int)) f2;have gG:upd (upd H l<|.lst [V.int x,V.int y]) l2 (.lst<|ms.map V.int) l2=some (.lst<|ms.map V.int):=az;have iw:=s1.trans s2;generalize upd (upd H l<|.lst [V.int x,V.int y]) l2 (.lst<|ms.map V.int)=H2 at iw gG⊢;obtain⟨b,e,rfl,gY,vY⟩:∃b e:Nat,ms=[((b:Nat):Int),((e:Nat):Int)]/\b<=e/\e<=n:=by
  have hl:=pm.length_eq
  match ms,hl,pm,pw with
  |[u,v],_,pm,pw=>
   have hu:u=x\/u=y:=by simpa using pm.subset (zap:u∈ [u,v])
   have hv:v=x\/v=y:=by simpa using pm.subset (zao u zap:v∈ [u,v])
   have Z3:u<=v:=by simpa using pw
   obtain⟨b,rfl⟩:=zaL (show 0<=u by lia)
   obtain⟨e,rfl⟩:=zaL (show 0<=v by lia)
   exact⟨b,e,rfl,by lia,by lia⟩
 refine bX<|sq<|bC (pW C) rfl<|aq<|ah rfl<|aq<|ah rfl<|aq<|dc<|ah rfl<|ar<|cU gG rfl ?_;refine aq<|dc<|ah rfl<|ar<|cU gG rfl<|aH ⟨M,p,dx,d,rw,n,g,b,e,R,rfl,A.same iw,cE,gY,vY,fun H3 s3=>⟨_,rfl,iT ?_ rfl⟩⟩;exact bC (pW C) rfl<|aq<|ah rfl<|aq<|ah rfl<|aq<|ar<|aq<|ah rfl<|aH ⟨M,p,dx,d,rw,n,g,0,n,R,rfl,A.same<|iw.trans s3,cE,zqZ _,zqR _,fun H4 s4=>q _<|(iw.trans s3).trans s4⟩
def pX(C:Addr):Sp:=fun vs H Q E=>∃(M:List Addr) (p dx d rw n g:Nat) (R:List Row) (c:Int),vs=[.ref p,.ref rw,.int (n:Nat),.int c]/\bP M C H p dx d rw n g R/\R.length<64/\∀H',aB H H'->Q (.bl true) H'
abbrev Aq(K:Frag)(C:Addr)(E:XK):aN:=aJ K [("_law_mixed",c_),("_law_asked",Ap C)] [] (E:=E)
theorem Xz:bM (pX C) (fun E=>Aq K C E) zh F4:=by
 intro vs H Q E h;obtain⟨M,p,dx,d,rw,n,g,R,c,rfl,A,cE,q⟩:=h;refine bW<|bc<|bC c_ rfl<|aq<|ah rfl<|aq<|ar<|aH ⟨_,_,rfl,ar<|de (by decide) ?_⟩
 generalize mixed c 15 % 4=f;refine bW<|dc<|fG<|aq<|ar<|aq<|ar<|aH ⟨dw,fun l fl=>?_⟩;refine bc<|bc<|bC c_ rfl<|aq<|ah rfl<|aq<|ar<|aH ⟨_,_,rfl,ar<|gU ⟨by decide,by decide⟩<|ar<|de (by decide) ?_⟩
 have s1:=sameNew (o:=.lst [V.int 1,V.int 3]) fl;have cH:upd H l (.lst [V.int 1,V.int 3]) l=some (.lst [V.int 1,V.int 3]):=az;generalize upd H l (.lst [V.int 1,V.int 3])=H1 at s1 cH⊢;have main:∀st:Int,(st=1\/st=3)->aC (Aq K C E) (zh.drop 2) (Dn Q) [some<|.ref p,some<|.ref rw,some<|.int (n:Nat),some<|.int c,some<|.int f,some<|.int st,none] H1:=by
  intro st iC;refine HI<|ar ⟨5,rfl,by decide,by decide,wH (lo:=0) (fun i σ H2=>∃u6:Option V,σ=[some<|.ref p,some<|.ref rw,some<|.int (n:Nat),some<|.int c,some<|.int f,some<|.int st,u6]/\aB H1 H2) ⟨none,rfl,aB.refl _⟩ ?_ ?_⟩
  ·rintro i σ H2 hi ⟨u6,rfl,s2⟩;show aC (Aq K C E) _ _ [some<|.ref p,some<|.ref rw,some<|.int (n:Nat),some<|.int c,some<|.int f,some<|.int st,some<|.int<|0+(i:Int)] H2;refine aZ<|dD<|d0 (Ap C) rfl<|aq<|ah rfl<|aq<|ah rfl<|aq<|ah rfl<|aq<|ah rfl ?_;refine aq<|bc<|bc<|ah rfl<|bc<|ah rfl<|ah rfl<|W7 (.inl ⟨by lia,by lia⟩) ?_
   refine i8<|ar<|de (by decide) ?_
   exact aH ⟨M,p,dx,d,rw,n,g,R,_,_,rfl,A.same<|s1.trans s2,cE,fun H3 s3=>dZ<|iF (cO ⟨_,rfl,s2.trans s3⟩) rfl⟩
  ·rintro σ H2 ⟨u6,rfl,s2⟩;exact bX<|ar<|q _<|s1.trans s2
 have c2:mixed c 15 / 4 % 2=0\/mixed c 15 / 4 % 2=1:=by lia
 rcases c2 with e|e<;>rw[e]
 ·exact cU cH rfl (main 1<|.inl rfl)
 ·exact cU cH rfl (main 3<|.inr rfl)
end
section
variable {K:Frag}{C:Addr}{H H':Hp}
def sG:Sp:=fun vs H Q E=>∃(c:Int) (n:Nat),vs=[.int c,.int (n:Nat)]/\∀pl H',pl<=n->aB H H'->Q (.int ((pl:Nat):Int)) H'
theorem XA:bM (sG) (fun E=>aJ K [("_law_mixed",c_)] [] (E:=E)) FP FO:=by
 intro vs H Q E h;obtain⟨c,n,rfl,q⟩:=h;have m4:=zaq c (show(4:Int)≠0 by decide)
 have l4:=zar c (show(0:Int) <4 by decide)
 have p7:=zaq (mixed c 7) (show(n:Int)+1≠0 by lia)
 have l7:=zar (mixed c 7) (show(0:Int) < (n:Int)+1 by lia)
 have p9:=zaq (mixed c 9) (show(n:Int)+1≠0 by lia)
 have l9:=zar (mixed c 9) (show(0:Int) < (n:Int)+1 by lia)
 have mx:∀{σ:St}{H1:Hp}{Q':VK}{i:Int},σ[0]?=some (some<|.int c)->Q' (.int<|mixed c i) H1->ag (aJ K [("_law_mixed",c_)] [] (E:=E)) (.call 0 [.v 0,(.c<|.int i)]) σ H1 Q':=fun e q'=>
  bC c_ rfl (aq<|ah e<|aq<|ar<|aH ⟨_,_,rfl,q'⟩)
 refine bX<|dc<|fG<|aq<|ar<|aq<|ah rfl<|aq<|bc<|mx rfl<|bc<|ah rfl<|ar<|i8<|de (by lia) ?_
 refine aq<|bc<|mx rfl<|bc<|ah rfl<|ar<|i8<|de (by lia)<|aH ⟨Jw,fun l fl=>?_⟩
 refine bc<|ah rfl<|ar<|de (by decide) ?_
 generalize mixed c 7 % ((n:Int)+1)=x7 at p7 l7 fl⊢;generalize mixed c 9 % ((n:Int)+1)=x9 at p9 l9 fl⊢;have hl:upd H l (.lst [V.int 0,V.int (n:Nat),V.int x7,V.int x9]) l=some (.lst [V.int 0,V.int (n:Nat),V.int x7,V.int x9]):=az;have s1:=sameNew (o:=.lst [V.int 0,V.int (n:Nat),V.int x7,V.int x9]) fl;have go:∀i:Int,0<=i->i<=n->Q (.int i) (upd H l<|.lst [V.int 0,V.int (n:Nat),V.int x7,V.int x9]):=fun i h0 h1=>by
  have:=q i.toNat _ (by lia) s1
  rwa [Int.toNat_of_nonneg h0] at this
 have c4:c % 4=0\/c % 4=1\/c % 4=2\/c % 4=3:=by lia
 rcases c4 with e|e|e|e<;>rw[e]
 ·exact cU hl rfl (go _ (by lia) (by lia))
 ·exact cU hl rfl (go _ (by lia) (by lia))
 ·exact cU hl rfl (go _ (by lia) (by lia))
 ·exact cU hl rfl (go _ (by lia) (by lia))
def gV(b:Int)(v:V)(H:Hp):Prop:=gz v H\/∃i,v=.int i/\(i<0\/b<=i)
theorem gV.same{b:Int}(v:V)(H H':Hp)(h:gV b v H)(s:aB H H'):gV b v H':=by
 rcases h with h|h
 ·exact .inl (h.same s)
 ·exact .inr h
theorem gV.pl(h:gV ((n:Int)+1) v H):pK v 0 n H:=by
 rcases h with h|⟨i,e,h⟩
 ·exact .inl h
 ·exact .inr ⟨i,e,by lia⟩
theorem gV.num{g:Nat}{es:List Ent}(h:gV (g:Int) v H)(hl:∀e∈es,e.1<g):v5 v es H:=by
 rcases h with h|⟨i,e,h⟩
 ·exact .inl h
 ·exact .inr ⟨i,e,fun e he z=>by have:=hl e he;lia⟩
theorem Iv:gz .aD H:=.inr rfl
theorem Iw{s:Str}:gz (.str s) H:=.inr (W4 rfl)
theorem Iy{a:Addr}(h:H a=some (.lst xs)):gz (.ref a) H:=.inr (rP h rfl)
theorem Iz{a:Addr}(h:H a=some (.tup xs)):gz (.ref a) H:=.inr (vp h rfl)
theorem IA{a:Addr}{xs:List (Key×V)}(h:H a=some (.dK xs)):gz (.ref a) H:=.inr (VW h rfl)
theorem v9{P:V->Hp->Prop}{es:List RE}{ix:RE}(st:∀v H H',P v H->aB H H'->P v H')(hm:∀e∈es,pT P Γ σ e)(hn:es.length<=100){i:Int}(h0:0<=i)(h1:i<es.length)(hi:∀(H1:Hp) (Q1:VK),Q1 (.int i) H1->ag Γ ix σ H1 Q1)(q:∀v H',aB H H'->P v H'->Q v H'):ag Γ (.ix (.lst es) ix) σ H Q:=by
 refine dc<|fG<|z8 st es hm H _ fun vs H1 s1 hl hv=>⟨cq (by lia),fun a fa=>hi _ _ ?_⟩
 obtain⟨k,rfl⟩:=zaL h0;have hk:k<vs.length:=by lia
 have s2:=sameNew (o:=.lst vs) fa;exact cU (az (a:=a)) (iE<|zaE hk)<|q _ _ (s1.trans s2)<|st _ _ _ (hv _<|zaV hk) s2
def v_:Sp:=fun vs H Q E=>∃c b:Int,vs=[.int c,.int b]/\0<=b/\∀v H',aB H H'->gV b v H'->Q v H'
theorem XB:bM (v_) (fun E=>aJ K [("_law_mixed",c_)] [] (E:=E)) kd rK:=by
 intro vs H Q E h;obtain⟨c,b,rfl,hb,q⟩:=h;refine bW<|bC c_ rfl<|aq<|ah rfl<|aq<|ar<|aH ⟨_,_,rfl,?_⟩;have m0:=(zl c 2).1;generalize mixed c 2=m at m0⊢;have XC:=zaq c (show(11:Int)≠0 by decide)
 have Z4:=zar c (show(0:Int) <11 by decide)
 refine bW<|fG<|z8 (P:=gV b) gV.same _ (fun e he=>?_) H _ fun vs H1 s1 hl hv=>⟨cq (by rw[hl];decide),fun a fa=>?_⟩
 ·simp only[zae,zad,or_false] at he
  rcases he with rfl|rfl|rfl|rfl|rfl|rfl|rfl|rfl|rfl|rfl|rfl
  ·exact fun H Q q=>vQ (q _ H (aB.refl _)<|.inr ⟨_,rfl,.inl (by decide)⟩)
  ·exact fun H Q q=>ah rfl (q _ H (aB.refl _)<|.inr ⟨_,rfl,.inr<|zaD _⟩)
  ·exact gd fun H=>.inl (.inl ⟨_,rfl⟩)
  ·exact gd fun H=>.inl Iv
  ·exact gd fun H=>.inl Iw
  ·exact z9 fun a H h=>.inl (Iy h)
  ·exact z_ fun a H h=>.inl (Iz h)
  ·exact HV fun a H h=>.inl (IA h)
  ·exact fun H Q q=>bc (ah rfl<|ah rfl<|i8<|q _ H (aB.refl _)<|.inr ⟨_,rfl,.inr (by lia)⟩)
  ·exact gd fun H=>.inl (.inl ⟨_,rfl⟩)
  ·exact fun H Q q=>bc (vQ<|ah rfl<|HJ<|q _ H (aB.refl _)<|.inr ⟨_,rfl,.inl (by lia)⟩)
 have s2:=sameNew (o:=.lst vs) fa;refine bX<|dc<|ah rfl<|bc<|ah rfl<|ar<|de (by decide) ?_
 obtain⟨k,hk⟩:=zaL XC;have sH:k<vs.length:=by rw[hl];show k<11;lia
 rw[hk];exact cU (az (a:=a)) (iE<|zaE sH)<|q _ _ (s1.trans s2)<|gV.same _ _ _ (hv _<|zaV sH) s2
end
abbrev oW(rw:Addr)(g:Nat)(x:Str):List (Key×V):=[(.inr "rows",.ref rw),(.inr "begun",.int (g:Nat)),(.inr "text",.str x)]
section
variable {K:Frag}{C CP CS CM:Addr}{H H':Hp}{M:List Addr}{p dx d rw n g:Nat}{R:List Row}{ow:Addr}{x:Str}
theorem sI(h:H ow=some (.dK<|oW rw g x)):cm H ow (.str "rows") (some<|.ref rw):=by
 have:=cm.k (k:=.inr "rows") h;rw[k7 rfl] at this;exact this
theorem sJ(h:H ow=some (.dK<|oW rw g x)):cm H ow (.str "begun") (some<|.int (g:Nat)):=by
 have:=cm.k (k:=.inr "begun") h;rw[iG (show ¬(Sum.inr "rows":Key)=.inr "begun" by decide+kernel),k7 rfl] at this;exact this
theorem Ar(h:H ow=some (.dK<|oW rw g x)):cm H ow (.str "text") (some<|.str x):=by
 have:=cm.k (k:=.inr "text") h;rw[iG (show ¬(Sum.inr "rows":Key)=.inr "text" by decide+kernel),iG (show ¬(Sum.inr "begun":Key)=.inr "text" by decide+kernel),k7 rfl] at this;exact this
theorem eK{t r:List RS}{w k:Int}(e:σ[4]?=some (some<|.int w))(hn:w≠k)(h:aC Γ r D σ H):aC Γ (.ite (.cmp .Eq (.v 4)<|.c<|.int k) t []::r) D σ H:=
 aZ (bj<|ah e<|ar<|cG ⟨_,rfl,iF (cO h)<|zqF hn⟩)
theorem sM{t r:List RS}{k:Int}(e:σ[4]?=some (some<|.int k))(h:aC Γ t {D with nx:=aC Γ r D} σ H):aC Γ (.ite (.cmp .Eq (.v 4)<|.c<|.int k) t []::r) D σ H:=
 aZ (bj<|ah e<|ar<|cG ⟨_,rfl,iT h<|zqT rfl⟩)
theorem XD{x elt c:RE}(h:ag Γ x σ H fun v H1=>∃j:Int,[v]=[.int j]/\ -(2 ^ 62)<=j/\j<2 ^ 62/\∃W:Nat->Nat->List V->Hp->Prop,(∃m,W 0 m [] H1)/\∀i m ys H2,W i m ys H2->
   ((fh 0 j.toNat).stop i H2/\∀p,H2 p=none->Q (.ref p) (upd H2 p<|.lst ys))\/
   ((fh 0 j.toNat).go i H2/\∀x H3,(fh 0 j.toNat).gh i H2 x H3->iJ Γ.K none x H3 fun zs=>jV (some (aU Γ.calm c)) (zs.map some++bU σ fv) H3 fun b H5=>
    if b=true then ag Γ.calm elt (zs.map some++bU σ fv) H5 fun y H6=>ys.length<sizeLine/\∃m',m'<m/\W (i+1) m' (ys++[y]) H6 else ∃m',m'<m/\W (i+1) m' ys H5)):ag Γ (.comp none fv .eS [x] (some c) elt) σ H Q:=lU (x:=x) _ _ (fun _ _=>Iff.rfl) h
theorem XE{b:RE}(h:ag Γ a σ H fun x H1=>∃c,x=.bl c/\if c=true then Q (.bl true) H1 else ag Γ b σ H1 Q):ag Γ (.or [a,b]) σ H Q:=h
theorem XF(h:ag Γ a σ H fun x H1=>xQ x H1 Q):ag Γ (.neg a) σ H Q:=h
theorem XG(s:Str):(s==s)=true:=by simp
def As(C:Addr):Sp:=fun vs H Q E=>∃(M:List Addr) (p dx d rw n g:Nat) (R:List Row) (ow:Addr) (x:Str) (c:Int),vs=[.ref p,.ref ow,.int (n:Nat),.int c]/\bP M C H p dx d rw n g R/\H ow=some (.dK<|oW rw g x)/\g<=1000/\∀H',aB H H'->Q (.bl true) H'
abbrev sN(K:Frag)(C:Addr)(E:XK):aN:=aJ K [("_law_odd",v_),("_law_told",kz C),("_law_place",sG),("_law_mixed",c_)] [] (E:=E)
abbrev sR(p ow:Addr)(n:Nat)(c w:Int)(o:V)(L:Addr)(u7 u8 u9:Option V):St:=[some<|.ref p,some<|.ref ow,some<|.int (n:Nat),some<|.int c,some<|.int w,some o,some<|.ref L,u7,u8,u9]
theorem XH:bM (As C) (fun E=>sN K C E) cR ic:=by
 intro vs H Q E h;obtain⟨M,p,dx,d,rw,n,g,R,ow,x,c,rfl,A,ho,hg,q⟩:=h;have w0:=zaq c (show(9:Int)≠0 by decide)
 have w9:=zar c (show(0:Int) <9 by decide)
 refine bW<|bc<|ah rfl<|ar<|de (by decide) ?_
 generalize c % 9=w at w0 w9⊢;refine bW<|bC v_ rfl<|aq<|bc<|ah rfl<|ar<|gU ⟨by decide,by decide⟩<|aq<|bc<|ah rfl<|ar<|i8<|aH ⟨_,_,rfl,by lia,fun o H1 s1 od=>?_⟩
 have A1:=A.same s1;obtain⟨sO,og,r6⟩:=A1.hr;have dA:=s1 _ _ ho;refine Ad<|XD<|bc<|dR<|ah rfl<|ar ⟨ow,_,rfl,sJ dA,ar<|i8 ⟨_,rfl,by lia,by lia,?_⟩⟩
 have eg:((g:Int)+1).toNat=g+1:=by lia
 rw[eg];refine W5 (fun i=> !(cB sO<|.inl<|0+(i:Int)).isSome) (by lia) (fun i k hi hk=>?_) (fun v k hk=>ah rfl hk) fun L fL=>?_
 ·refine zX (ah rfl<|dR<|ah rfl<|ar ⟨ow,_,rfl,sI dA,rw,_,rfl,cm.k (k:=.inl (0+(i:Int))) og,_,rfl,hk⟩)
 have none_of:∀i:Int,cB sO (.inl i)=none->∀e∈eR R,((e.1:Nat):Int)≠i:=fun i hv e he z=>by
  obtain⟨r,hr,rfl⟩:=zay.mp he;obtain⟨j,hj⟩:=zbB hr;obtain⟨v,_,e2,_⟩:=n_ r6 A.up hj;have z':((r.1:Nat):Int)=i:=z;rw[<-z',e2] at hv;cases hv
 generalize Au:((List.range<|g+1).filter fun i:Nat=> !(cB sO<|.inl<|0+(i:Int)).isSome)=ls at fL⊢;have XI:∀i∈ls,∀e∈eR R,((e.1:Nat):Int)≠0+(i:Int):=fun i hi=>by
  rw[<-Au] at hi;have:=(zaX.mp hi).2;exact none_of _ (by cases h:cB sO (.inl<|0+(i:Int)) with|none=>rfl|some v=>rw[h] at this;cases this)
 have Z5:0<ls.length:=by
  have:g∈ls:=by
   rw[<-Au];refine zaX.mpr ⟨zaY.mpr<|zaZ _,?_⟩;rw[Int.zero_add,Ah r6 fun r hr z=>by have:=A.lt hr;lia];rfl
  exact List.length_pos_of_mem this
 have Z6:ls.length<=1001:=by rw[<-Au];have:=zaC (fun i:Nat=> !(cB sO<|.inl<|0+(i:Int)).isSome) (List.range<|g+1);rw[List.length_range] at this;lia
 have s2:=sameNew (o:=.lst (ls.map fun i=>V.int (0+(i:Nat)))) fL;have hL:upd H1 L (.lst<|ls.map fun i=>V.int (0+(i:Nat))) L=some (.lst<|ls.map fun i=>V.int (0+(i:Nat))):=az;have iw:=s1.trans s2;have wa:=gV.same _ _ _ od s2;generalize upd H1 L (.lst<|ls.map fun i=>V.int (0+(i:Nat)))=H2 at s2 hL iw wa⊢;have A2:=A.same iw;obtain⟨⟨pY,S2⟩,_⟩:=id A2;have dh:=iw _ _ ho;have fin:∀{Q1:VK}{s:Str}{σ:St}{H3:Hp},(∀H',aB H3 H'->Q1 (.bl true) H')->∀H',aB H3 H'->ag (sN K C E) (.c<|.str s) σ H' fun y H4=>b8 K .Eq (.str s) y H4 Q1:=fun q H' s'=>ar (V0 (by rw[XG];exact q _ s'))
 have q2:∀H',aB H2 H'->Q (.bl true) H':=fun H' s'=>q _ (iw.trans s');show aC (sN K C E) (cR.drop 3) (Dn Q) (sR p ow n c w o L none none none) H2;have cs:w=0\/w=1\/w=2\/(w=3\/w=4\/w=5)\/w=6\/w=7\/w=8:=by lia
 rcases cs with rfl|rfl|rfl|hw|rfl|rfl|rfl
 ·
  have m9:=zaq (c / 9) (show(9:Int)≠0 by decide)
  have l9:=zar (c / 9) (show(0:Int) <9 by decide)
  refine sM rfl<|bW<|v9 (P:=pV) (fun v H H' h s=>h.same s) (fun e he=>?_) (by decide) m9 l9 (fun H1 Q1 q1=>bc<|bc<|ah rfl<|ar<|gU ⟨by decide,by decide⟩<|ar<|de (by decide) q1) fun v H3 s3 hv=>?_
  ·simp only[zae,zad,or_false] at he
   rcases he with rfl|rfl|rfl|rfl|rfl|rfl|rfl|rfl|rfl
   ·exact fun H Q q=>vQ (q _ H (aB.refl _)<|.inr ⟨_,rfl,by decide⟩)
   ·exact gd fun H=>.inl (.inl ⟨_,rfl⟩)
   ·exact gd fun H=>.inl Iv
   ·exact gd fun H=>.inl Iw
   ·exact z9 fun a H h=>.inl (Iy h)
   ·exact z_ fun a H h=>.inl (Iz h)
   ·exact HV fun a H h=>.inl (IA h)
   ·exact gd fun H=>.inl (.inl ⟨_,rfl⟩)
   ·exact fun H Q q=>XF (bc<|ar<|ar<|Ib ⟨by decide,by decide,by decide⟩<|q _ H (aB.refl _)<|.inr ⟨_,rfl,by decide⟩)
  obtain⟨⟨sP,S3⟩,_⟩:=A2.same s3;exact bX<|gP<|bC (kz C) rfl<|aq<|ah rfl<|aq<|ar<|aq<|ah rfl<|aq<|ar<|aH ⟨M,p,dx,d,n,g,sP,_,0,v,_,rfl,S3,.inl ⟨rfl,hv,fin fun H' s'=>q2 _ (s3.trans s')⟩⟩
 ·refine eK rfl (by decide) (sM rfl ?_)
  have m4:=zaq (c / 99) (show(4:Int)≠0 by decide)
  have l4:=zar (c / 99) (show(0:Int) <4 by decide)
  refine bX<|gP<|bC (kz C) rfl<|aq<|ah rfl<|aq<|ar<|aq<|ah rfl<|aq<|v9 (P:=fun _ _=>True) (fun _ _ _ _ _=>trivial) (fun e he=>?_) (by decide) m4 l4 (fun H1 Q1 q1=>bc<|bc<|ah rfl<|ar<|gU ⟨by decide,by decide⟩<|ar<|de (by decide) q1) fun u H3 s3 _=>?_
  ·simp only[zae,zad,or_false] at he
   rcases he with rfl|rfl|rfl|rfl<;>exact gd fun H=>trivial
  obtain⟨⟨sP,S3⟩,_⟩:=A2.same s3;exact aH ⟨M,p,dx,d,n,g,sP,_,1,o,u,rfl,S3,.inr<|.inl ⟨rfl,(gV.same _ _ _ wa s3).pl,fin fun H' s'=>q2 _ (s3.trans s')⟩⟩
 ·refine eK rfl (by decide) (eK rfl (by decide)<|sM rfl ?_)
  have m8:=zaq (c / 9) (show(8:Int)≠0 by decide)
  have l8:=zar (c / 9) (show(0:Int) <8 by decide)
  refine bW<|v9 (P:=nR) (fun v H H' h s=>h.same s) (fun e he=>?_) (by decide) m8 l8 (fun H1 Q1 q1=>bc<|bc<|ah rfl<|ar<|gU ⟨by decide,by decide⟩<|ar<|de (by decide) q1) fun v H3 s3 hv=>?_
  ·simp only[zae,zad,or_false] at he
   rcases he with rfl|rfl|rfl|rfl|rfl|rfl|rfl|rfl
   ·exact gd fun H=>.inr ⟨_,rfl,by decide+kernel,by decide+kernel⟩
   ·exact gd fun H=>.inr ⟨_,rfl,by decide+kernel,by decide+kernel⟩
   ·exact gd fun H=>.inl rfl
   ·exact gd fun H=>.inl rfl
   ·exact gd fun H=>.inl (W3 rfl)
   ·exact z9 fun a H h=>.inl (rP h rfl)
   ·exact z_ fun a H h=>.inl (vp h rfl)
   ·exact gd fun H=>.inr ⟨_,rfl,by decide+kernel,by decide+kernel⟩
  refine bX<|gP<|bC (kz C) rfl<|aq<|ah rfl<|aq<|ar<|aq<|bC sG rfl<|aq<|bc<|ah rfl<|ar<|gU ⟨by decide,by decide⟩<|aq<|ah rfl<|aH ⟨_,n,rfl,fun pl H4 hU s4=>?_⟩
  obtain⟨⟨XJ,S4⟩,_⟩:=A2.same (s3.trans s4);exact aq<|ah rfl<|aH ⟨M,p,dx,d,n,g,XJ,_,2,_,v,rfl,S4,.inr<|.inr<|.inl ⟨rfl,⟨pl,rfl,hU⟩,hv.same s4,fin fun H' s'=>q2 _ ((s3.trans s4).trans s')⟩⟩
 ·have h3:w≠0/\w≠1/\w≠2/\w<6:=by lia
  refine eK rfl h3.1<|eK rfl h3.2.1<|eK rfl h3.2.2.1<|aZ<|bj<|ah rfl<|ar ⟨trivial,_,rfl,iT ?_<|zqT h3.2.2.2⟩;have ml:=zaq (c / 18) (show((ls.length:Nat):Int)≠0 by lia)
  have ll:=zar (c / 18) (show(0:Int) < ((ls.length:Nat):Int) by lia)
  refine bW<|dc<|ah rfl<|bc<|bc<|ah rfl<|ar<|gU ⟨by decide,by decide⟩<|lV<|ah rfl<|.inl ⟨_,aw.of hL,?_⟩
  rw[zaa];refine de (by lia) ?_
  obtain⟨k,hk⟩:=zaL ml;rw[hk];have sH:k<ls.length:=by lia
  refine cU hL (iE (v:=V.int (0+(ls[k]:Nat))) (by rw[zah,zaE sH];rfl)) ?_
  have told:∀(v:V) (H3:Hp) (u7 u8:Option V),aB H2 H3->v5 v (eR R) H3->aC (sN K C E) [.ret<|.cmp .Eq (.call 1 [.v 0,.v 4,.v 9,(.c<|.int 0)])<|.c<|.str "mark"] {(Dn Q) with nx:=aC (sN K C E) (cR.drop 7) (Dn Q)} (sR p ow n c w o L u7 u8<|some v) H3:=fun v H3 u7 u8 s3 hv=>by
   obtain⟨⟨sP,S3⟩,_⟩:=A2.same s3;exact bX<|gP<|bC (kz C) rfl<|aq<|ah rfl<|aq<|ah rfl<|aq<|ah rfl<|aq<|ar<|aH ⟨M,p,dx,d,n,g,sP,_,w,v,_,rfl,S3,.inr<|.inr<|.inr<|.inl ⟨hw,hv,fin fun H' s'=>q2 _ (s3.trans s')⟩⟩
  refine aZ<|bj<|bc<|bc<|ah rfl<|ar<|gU ⟨by decide,by decide⟩<|ar<|de (by decide)<|ar<|cG ⟨_,rfl,cw (fun _=>?_)<|fun _=>cO ?_⟩
  ·refine bW (bC v_ rfl<|aq<|bc<|ah rfl<|ar<|gU ⟨by decide,by decide⟩<|aq<|dR<|ah rfl<|ar ⟨ow,_,rfl,sJ dh,aH ⟨_,_,rfl,by lia,fun v H3 s3 hv=>?_⟩⟩)
   exact told v H3 none none s3<|hv.num S2.lt
  ·exact told _ H2 none none (aB.refl _) (.inr ⟨_,rfl,XI _<|zaV sH⟩)
 ·refine eK rfl (by decide) (eK rfl (by decide)<|eK rfl (by decide)<|aZ<|bj<|ah rfl<|ar ⟨trivial,_,rfl,iF (cO<|sM rfl ?_) rfl⟩)
  exact bX<|gP<|bC (kz C) rfl<|aq<|ah rfl<|aq<|ar<|aq<|ah rfl<|aq<|ah rfl<|aH ⟨M,p,dx,d,n,g,pY,_,6,o,_,rfl,S2,.inr<|.inr<|.inr<|.inr ⟨rfl,.inl wa.pl,fin q2⟩⟩
 ·refine eK rfl (by decide) (eK rfl (by decide)<|eK rfl (by decide)<|aZ<|bj<|ah rfl<|ar ⟨trivial,_,rfl,iF (cO<|eK rfl (by decide)<|sM rfl ?_) rfl⟩)
  exact bX<|gP<|bC (kz C) rfl<|aq<|ah rfl<|aq<|ar<|aq<|ar<|aq<|ah rfl<|aH ⟨M,p,dx,d,n,g,pY,_,6,_,o,rfl,S2,.inr<|.inr<|.inr<|.inr ⟨rfl,.inr ⟨0,rfl,zqZ _,wa.pl⟩,fin q2⟩⟩
 ·refine eK rfl (by decide) (eK rfl (by decide)<|eK rfl (by decide)<|aZ<|bj<|ah rfl<|ar ⟨trivial,_,rfl,iF (cO<|eK rfl (by decide)<|eK rfl (by decide) ?_) rfl⟩)
  refine bX<|XE<|gP<|ah rfl<|ar<|cG ⟨_,rfl,cw (fun _=>q2 _<|aB.refl _)<|fun hn=>?_⟩;have hn:0<n:=by
   have:¬((n:Int)=0):=fun z=>hn (zqT z);lia
  have mn:=zaq (mixed c 5) (show(n:Int)≠0 by lia)
  have lm:=zar (mixed c 5) (show(0:Int) < (n:Int) by lia)
  refine gP<|bC (kz C) rfl<|aq<|ah rfl<|aq<|ar<|aq<|ah rfl<|aq<|bc<|bC c_ rfl<|aq<|ah rfl<|aq<|ar<|aH ⟨_,_,rfl,ah rfl<|de (by lia) ?_⟩
  exact aH ⟨M,p,dx,d,n,g,pY,_,6,_,_,rfl,S2,.inr<|.inr<|.inr<|.inr ⟨rfl,.inr ⟨n,rfl,zqR _,.inr ⟨_,rfl,.inl (by lia)⟩⟩,fin q2⟩⟩
end
section
variable {K:Frag}{C:Addr}{H H':Hp}{M:List Addr}{p dx d rw n g:Nat}{R:List Row}{ow:Addr}{x:Str}{kvs:List (Key×V)}{es:List Ent}{L:List Addr}
theorem bG.Av(S:bG M C H p dx d n g kvs es)(b:∀b o,H b=some o->b∉L->H' b=some o)(kL:∀l∈L,∃kvs,H l=some (.dK kvs))(nd:d∉L)(XM:∀m∈M,∃o,H' m=some o):bG M C H' p dx d n g kvs es:=by
 have nl:∀{z:Addr}{o:HO},H z=some o->(∀kvs,o≠ .dK kvs)->z∉L:=fun e h hz=>by
  obtain⟨k,ek⟩:=kL _ hz;rw[e] at ek;cases ek;exact h _ rfl
 exact⟨b _ _ S.ob (nl S.ob fun _ z=>by cases z),b _ _ S.st nd,Paired.bY S.kv fun kv e ⟨l,xs,e1,e2,e3,e4⟩=>⟨l,xs,e1,b _ _ e2 (nl e2 fun _ z=>by cases z),Paired.bY e3 fun v q ⟨t,a1,a2⟩=>⟨t,a1,b _ _ a2 (nl a2 fun _ z=>by cases z)⟩,e4⟩,S.up,S.lt,S.pl,XM⟩
theorem IB{R:List Row}(h:Paired (cI H) kvs R)(b:∀b o,H b=some o->b∉L->H' b=some o)(kL:∀l∈L,∀xs,H l≠some (.tup xs)):Paired (cI H') kvs R:=
 Paired.bY h fun kv r ⟨v,e,t,a1,a2⟩=>⟨v,e,t,a1,b _ _ a2 fun hz=>kL _ hz _ a2⟩
theorem bP.IC(A:bP M C H p dx d rw n g R){T:Addr}(hT:H T=some (.lst xs))(mT:T∈M)(b:cf T H H')(XN:∃o,H' T=some o):bP M C H' p dx d rw n g R:=by
 obtain⟨⟨kvs,S⟩,⟨cv,h1,h2⟩,ne⟩:=A;have nl:∀{z:Addr}{o:HO},H z=some o->(∀xs,o≠ .lst xs)->z≠T:=fun e h hz=>by
  subst hz;rw[e] at hT;cases hT;exact h _ rfl
 refine⟨⟨kvs,b _ _ S.ob (nl S.ob fun _ z=>by cases z),b _ _ S.st (nl S.st fun _ z=>by cases z),Paired.bY S.kv fun kv e ⟨l,xs,e1,e2,e3,e4⟩=>⟨l,xs,e1,b _ _ e2<|fun z=>e4<|z ▸ mT,Paired.bY e3 fun v q ⟨t,a1,a2⟩=>⟨t,a1,b _ _ a2 (nl a2 fun _ z=>by cases z)⟩,e4⟩,S.up,S.lt,S.pl,fun m hm=>?_⟩,⟨cv,b _ _ h1 (nl h1 fun _ z=>by cases z),Paired.bY h2 fun kv r ⟨v,e,t,a1,a2⟩=>⟨v,e,t,a1,b _ _ a2 (nl a2 fun _ z=>by cases z)⟩⟩,ne⟩
 by_cases e:m=T
 ·rw[e];exact XN
 ·obtain⟨o,z⟩:=S.al m hm;exact⟨o,b _ _ z e⟩
theorem bP.Aw(A:bP M C H p dx d rw n g R)(ho:H ow=some (.dK<|oW rw g x)):ow≠p/\ow≠d/\ow≠rw/\rw≠p:=by
 obtain⟨⟨kvs,S⟩,⟨cv,h1,h2⟩,ne⟩:=A;refine⟨fun z=>?_,fun z=>?_,fun z=>?_,fun z=>?_⟩
 ·rw[z,S.ob] at ho;cases ho
 ·rw[z,S.st] at ho;cases ho;have k:=S.kv;generalize eR R=es at k;cases k with
  |cons a r=>obtain⟨l,xs,e1,_⟩:=a;cases e1
 ·rw[z,h1] at ho;cases ho;cases h2 with
  |cons a r=>obtain⟨v,e1,_⟩:=a;cases e1
 ·rw[z,S.ob] at h1;cases h1
def Ax(p d rw ow:Addr)(H H':Hp):Prop:= ∀b o,H b=some o->b≠p->b≠d->b≠rw->b≠ow->H' b=some o
def eL(T:Addr)(H:Hp)(v:V):Prop:= ∃(t a b:Addr) (ns:List Int),v=.ref t/\H t=some (.tup [.ref a,.ref b])/\a≠T/\b≠T/\H a=some (.lst<|ns.map V.int)/\H b=some (.lst<|ns.map V.int)
theorem eL.but{T:Addr}(hT:H T=some (.lst xs))(b:cf T H H')(h:eL T H v):eL T H' v:=by
 obtain⟨t,a,c,ns,rfl,h1,h2,h3,h4,h5⟩:=h;exact⟨t,a,c,ns,rfl,b _ _ h1 (fun z=>by rw[z,hT] at h1;cases h1),h2,h3,b _ _ h4 h2,b _ _ h5 h3⟩
theorem eL.XO{T:Addr}(A:bP M C H p dx d rw n g R)(ho:H ow=some (.dK<|oW rw g x))(b:Ax p d rw ow H H')(h:eL T H v):eL T H' v:=by
 obtain⟨⟨kvs,S⟩,⟨cv,k1,k2⟩,ne⟩:=A;obtain⟨t,a,c,ns,rfl,h1,h2,h3,h4,h5⟩:=h;have u:∀{z:Addr}{o:HO},H z=some o->(∀C dx fs,o≠ .ins C dx fs)->(∀kvs,o≠ .dK kvs)->H' z=some o:=fun e h1 h2=>b _ _ e (fun z=>by rw[z,S.ob] at e;cases e;exact h1 _ _ _ rfl) (fun z=>by rw[z,S.st] at e;cases e;exact h2 _ rfl) (fun z=>by rw[z,k1] at e;cases e;exact h2 _ rfl) (fun z=>by rw[z,ho] at e;cases e;exact h2 _ rfl)
 exact⟨t,a,c,ns,rfl,u h1 (fun _ _ _ z=>by cases z) (fun _ z=>by cases z),h2,h3,u h4 (fun _ _ _ z=>by cases z) (fun _ z=>by cases z),u h5 (fun _ _ _ z=>by cases z) (fun _ z=>by cases z)⟩
theorem eL.same{T:Addr}(s:aB H H')(h:eL T H v):eL T H' v:=by
 obtain⟨t,a,c,ns,rfl,h1,h2,h3,h4,h5⟩:=h;exact⟨t,a,c,ns,rfl,s _ _ h1,h2,h3,s _ _ h4,s _ _ h5⟩
def Ay(C:Addr):Sp:=fun vs H Q E=>∃(M:List Addr) (p dx d rw n g:Nat) (R:List Row) (T:Addr) (hs:List V) (c:Int),vs=[.ref p,.int (n:Nat),.int c,.ref T]/\bP M C H p dx d rw n g R/\R.length<64/\H T=some (.lst hs)/\T∈M/\hs.length<=1000/\(∀v∈hs,eL T H v)/\
 ∀cZ H',H' T=some (.lst cZ)->cZ.length<=hs.length+2->(∀v∈cZ,eL T H' v)->cf T H H'->Q .aD H'
abbrev Az(K:Frag)(C:Addr)(E:XK):aN:=aJ K [("_law_mixed",c_)] [] [] [("within",C,nX C),("numbers",C,nV C)] (E:=E)
theorem ID(h:ag Γ a σ H fun x H1=>lg Γ.K .list [x] H1 Q):ag Γ (.blt .list [a]) σ H Q:=h
def Ws(v:V)(H:Hp):Prop:= ∃(a:Addr) (ws:List Int),v=.ref a/\H a=some (.lst<|ws.map V.int)/\ws.length<=2
theorem XQ:bM (Ay C) (fun E=>Az K C E) rL zi:=by
 intro vs H Q E h;obtain⟨M,p,dx,d,rw,n,g,R,T,hs,c,rfl,A,cE,hT,mT,lh,hd,q⟩:=h;have m5:=zaq (mixed c 19) (show(5:Int)≠0 by decide)
 have l5:=zar (mixed c 19) (show(0:Int) <5 by decide)
 refine pM<|v9 (P:=Ws) (fun v H H' ⟨a,ws,e,h,l⟩ s=>⟨a,ws,e,s _ _ h,l⟩) (fun e he=>?_) (by decide) m5 l5 (fun H1 Q1 q1=>bc<|bC c_ rfl<|aq<|ah rfl<|aq<|ar<|aH ⟨_,_,rfl,ar<|de (by decide) q1⟩) fun v H1 s1 ⟨a,ws,ev,ha,lw⟩=>?_
 ·simp only[zae,zad,or_false] at he
  rcases he with rfl|rfl|rfl|rfl|rfl
  ·exact fun H Q q=>fG (aH ⟨zqZ _,fun a fa=>q _ _ (sameNew fa) ⟨a,[],rfl,az,zqZ _⟩⟩)
  ·exact fun H Q q=>fG (aq<|ar<|aH ⟨d3,fun a fa=>q _ _ (sameNew fa) ⟨a,[0],rfl,az,(by decide)⟩⟩)
  ·exact fun H Q q=>fG (aq<|ar<|aH ⟨d3,fun a fa=>q _ _ (sameNew fa) ⟨a,[1],rfl,az,(by decide)⟩⟩)
  ·exact fun H Q q=>fG (aq<|ar<|aq<|ar<|aH ⟨dw,fun a fa=>q _ _ (sameNew fa) ⟨a,[0,1],rfl,az,(by decide)⟩⟩)
  ·exact fun H Q q=>fG (aq<|ar<|aq<|ar<|aH ⟨dw,fun a fa=>q _ _ (sameNew fa) ⟨a,[1,0],rfl,az,(by decide)⟩⟩)
 subst ev;have pZ:=s1 _ _ hT;have XR:ws≠ []->a≠T:=fun hw z=>by
  rw[z,pZ] at ha;cases ws with
  |nil=>exact hw rfl
  |cons w ws=>
   have e:hs=V.int w::ws.map V.int:=by cases ha;rfl
   obtain⟨t,_,_,_,e',_⟩:=hd (V.int w) (by rw[e];exact .head _)
   cases e'
 refine⟨a,rfl,⟨_,aw.of ha⟩,iD (K:=K) (a:=a) (xs:=ws.map V.int) (fun i σ H2=>∃(u4 u5:Option V) (cZ:List V),σ=[some (.ref p),some (.int (n:Nat)),some (.int c),some (.ref T),u4,u5]/\H2 a=some (.lst (ws.map V.int))/\H2 T=some (.lst cZ)/\cZ.length<=hs.length+i/\(∀v∈cZ,eL T H2 v)/\cf T H1 H2)
  ⟨none,none,hs,rfl,ha,pZ,zqR _,fun v hv=>(hd v hv).same s1,fun b o e _=>e⟩ (fun i σ H2 _ ⟨_,_,_,_,h,_⟩=>aw.of h) ?_ ?_⟩
 ·rintro i v σ H2 hv ⟨u4,u5,cZ,rfl,nJ,oh,IE,hd2,b2⟩;have nw:ws≠ []:=fun z=>by rw[z] at hv;simp at hv
  have nT:=XR nw;have Z7:i<ws.length:=by have:=(zal.mp hv).1;rwa [zaa] at this
  obtain⟨w,_,rfl⟩:=zay.mp (zat hv);show aC (Az K C E) _ _ [some<|.ref p,some<|.int (n:Nat),some<|.int c,some<|.ref T,some<|.int w,u5] H2;have A2:=(A.same s1).IC pZ mT b2 ⟨_,oh⟩;obtain⟨⟨pY,S2⟩,_⟩:=id A2;have main:∀(l:Addr) (ns:List Int) (H3:Hp) (D:Ends),aB H2 H3->H2 l=none->H3 l=some (.lst<|ns.map V.int)->(∀(u4 u5:Option V) (hG:List V) (H4:Hp),H4 a=some (.lst<|ws.map V.int)->H4 T=some (.lst hG)->hG.length<=hs.length+(i+1)->(∀v∈hG,eL T H4 v)->cf T H1 H4->D.nx [some<|.ref p,some<|.int (n:Nat),some<|.int c,some<|.ref T,u4,u5] H4)->
    aC (Az K C E) [.drop<|.dU .append (.v 3) [(.tup [.v 5,(.blt .list [.v 5])])]] D [some<|.ref p,some<|.int (n:Nat),some<|.int c,some<|.ref T,some<|.int w,some<|.ref l] H3:=by
   intro l ns H3 D s3 fl hl kk;have XS:=s3 _ _ oh;refine fH<|HD<|ah rfl ⟨.inl ⟨rfl,_,aw.of XS⟩,kq<|aq<|ah rfl<|aq ?_⟩;refine ID<|ah rfl ⟨_,.inl<|aw.of hl,fun l2 f2=>?_⟩;have t1:=sameNew (o:=.lst (ns.map V.int)) f2;refine aH ⟨dw,fun t ft=>?_⟩;have t2:=sameNew (o:=.tup [V.ref l,V.ref l2]) ft;have h1:=t2 _ _ (t1 _ _ hl);have h2:=t2 _ _ (az (H:=H3) (a:=l2) (o:=.lst (ns.map V.int)));have h3:upd (upd H3 l2<|.lst<|ns.map V.int) t (.tup [V.ref l,V.ref l2]) t=some (.tup [V.ref l,V.ref l2]):=az;have s4:=(s3.trans t1).trans t2;have IF:H2 l2=none:=s3.free f2;generalize upd (upd H3 l2<|.lst<|ns.map V.int) t (.tup [V.ref l,V.ref l2])=H4 at h1 h2 h3 s4⊢;have AA:=s4 _ _ oh;have XT:l≠T:=fun z=>by rw[z,oh] at fl;cases fl
   have XU:l2≠T:=fun z=>by rw[z,oh] at IF;cases IF
   refine⟨_,AA,dr (by lia),?_⟩
   have b5:cf T H4 (upd H4 T<|.lst<|cZ++[.ref t]):=cf.upd;refine kk _ _ _ _ (b5 _ _ (s4 _ _ nJ) nT) az (by rw[zqA];show cZ.length+1<=_;lia) (fun v hv=>?_) fun b o e nb=>b5 _ _ (s4 _ _<|b2 _ _ e nb) nb
   rcases zai.mp hv with hv|hv
   ·exact eL.but AA b5 ((hd2 v hv).same s4)
   ·rw[zaj.mp hv];exact eL.but AA b5 ⟨t,l,l2,ns,rfl,h3,XT,XU,h1,h2⟩
  refine aZ<|bj<|ah rfl<|ar<|cG ⟨_,rfl,cw (fun _=>?_)<|fun _=>?_⟩
  ·refine bW (jI C (nX C) rfl<|ah rfl ⟨p,dx,_,rfl,S2.ob,cc,ar<|ah rfl ⟨M,p,dx,d,n,g,0,n,pY,R,rfl,S2,cE,zqZ _,zqR _,fun l H3 ns s3 fl hl _=>?_⟩⟩);exact main l ns H3 _ s3 fl hl fun u4 u5 hG H4 k1 k2 k3 k4 k5=>⟨u4,u5,hG,rfl,k1,k2,k3,k4,k5⟩
  ·refine bW (ir C (nV C) rfl<|ah rfl ⟨p,dx,_,rfl,S2.ob,cc,M,p,dx,d,n,g,pY,_,rfl,S2,by rw[zaa];exact cE,fun l fl=>?_⟩)
   exact main l _ _ _ (sameNew fl) fl az fun u4 u5 hG H4 k1 k2 k3 k4 k5=>⟨u4,u5,hG,rfl,k1,k2,k3,k4,k5⟩
 ·rintro σ H2 ⟨u4,u5,cZ,rfl,nJ,oh,IE,hd2,b2⟩;rw[zaa] at IE;exact q cZ H2 oh (by lia) hd2 fun b o e nb=>b2 _ _ (s1 _ _ e) nb
end
section
variable {K:Frag}{C:Addr}{H H':Hp}{M:List Addr}{p dx d rw n g:Nat}{R:List Row}{ow:Addr}{x:Str}{kvs:List (Key×V)}{es:List Ent}{L:List Addr}
theorem XW{g':Nat}:putK (oW rw g x) (.inr "begun") (.int (g':Nat))=oW rw g' x:=by
 have n1:¬((Sum.inr "rows":Key)=.inr "begun"):=by decide+kernel
 have n2:¬((Sum.inr "text":Key)=.inr "begun"):=by decide+kernel
 unfold putK;rw[if_pos (by simp)]
 simp only[zak,zaH,if_neg n1,if_neg n2,if_pos]
theorem XX:putK (oW rw g x) (.inr "text") (.str y)=oW rw g y:=by
 have n1:¬((Sum.inr "rows":Key)=.inr "text"):=by decide+kernel
 have n2:¬((Sum.inr "begun":Key)=.inr "text"):=by decide+kernel
 unfold putK;rw[if_pos (by simp)]
 simp only[zak,zaH,if_neg n1,if_neg n2,if_pos]
def AB(C:Addr):Sp:=fun vs H Q E=>∃(M:List Addr) (p dx d rw n g:Nat) (R:List Row) (ow:Addr) (x:Str) (c:Int),vs=[.ref p,.ref ow,.int (n:Nat),.int c]/\bP M C H p dx d rw n g R/\H ow=some (.dK<|oW rw g x)/\R.length<=500/\
 ∀r H',bP M C H' p dx d rw n (g+1) (R++[r])->H' ow=some (.dK<|oW rw (g+1) x)->Ax p d rw ow H H'->Q (.bl true) H'
abbrev IG(K:Frag)(C:Addr)(E:XK):aN:=aJ K [("_law_place",sG),("_law_whole",jB)] [] [] [("add",C,pR C)] (E:=E)
theorem XY:bM (AB C) (fun E=>IG K C E) zj F7:=by
 intro vs H Q E h;obtain⟨M,p,dx,d,rw,n,g,R,ow,x,c,rfl,A,ho,hl,k⟩:=h;have c2:c % 2=0\/c % 2=1:=by lia
 refine bW<|dc<|fG<|aq<|ar<|aq<|ar<|aH ⟨dw,fun l fl=>bc<|ah rfl<|ar<|de (by decide) ?_⟩
 have s1:=sameNew (o:=.lst [V.str "left",V.str "right"]) fl;have cH:upd H l (.lst [V.str "left",V.str "right"]) l=some (.lst [V.str "left",V.str "right"]):=az;generalize upd H l (.lst [V.str "left",V.str "right"])=H1 at s1 cH⊢;have main:∀s:Str,(s="left"\/s="right")->aC (IG K C E) (zj.drop 1) (Dn Q) [some<|.ref p,some<|.ref ow,some<|.int (n:Nat),some<|.int c,some<|.str s,none,none] H1:=by
  intro s hs;refine bW<|bC sG rfl<|aq<|bc<|ah rfl<|ar<|gU ⟨by decide,by decide⟩<|aq<|ah rfl<|aH ⟨_,n,rfl,fun pl H2 hU s2=>?_⟩
  have nY:=s1.trans s2;have A2:=A.same nY;have dh:=nY _ _ ho;obtain⟨n1,n2,n3,n4⟩:=A2.Aw dh;have XZ:=fun {r:Row} (h:r∈R)=>A.lt h;obtain⟨⟨kvs,S⟩,⟨kr,hr,hp⟩,ne⟩:=A2;refine bW<|jI C (pR C) rfl<|ah rfl ⟨p,dx,_,rfl,S.ob,cc,ah rfl<|ah rfl ⟨M,p,dx,d,n,g,pl,s,kvs,_,rfl,S,by rw[zaa];lia,hU,hs,fun cv H3 S3 b3=>?_⟩⟩
  have lY:=b3 _ _ hr n4 ne;have sQ:=b3 _ _ dh n1 n2;have vZ:Paired (cI H3) kr R:=Paired.bY hp fun kv r ⟨v,e,t,a1,a2⟩=>⟨v,e,t,a1,b3 _ _ a2 (fun z=>by rw[z,S.ob] at a2;cases a2) (fun z=>by rw[z,S.st] at a2;cases a2)⟩
  have lk:=Paired.length hp;have hn:cB kr (.inl ((g:Nat):Int))=none:=Ah hp fun r hr z=>by have:=XZ hr;lia
  refine pN<|kq<|aq<|ah rfl<|aq<|ah rfl<|aH ⟨dw,fun t ft=>?_⟩;have s4:=sameNew (o:=.tup [V.int (pl:Nat),V.str s]) ft;have ht:upd H3 t (.tup [V.int (pl:Nat),V.str s]) t=some (.tup [V.int (pl:Nat),V.str s]):=az;generalize upd H3 t (.tup [V.int (pl:Nat),V.str s])=H4 at s4 ht⊢;have lZ:=s4 _ _ lY;have kA:=s4 _ _ sQ;refine dR<|ah rfl<|ar ⟨ow,_,rfl,sI kA,dR<|ah rfl<|ar ⟨ow,_,rfl,sJ kA,rw,_,rfl,iH.k (k:=.inl ((g:Nat):Int)) lZ<|dr (by lia),?_⟩⟩
  rw[qB _ hn];have sS:upd H4 rw (.dK<|kr++[(.inl ((g:Nat):Int),V.ref t)]) ow=some (.dK<|oW rw g x):=by rw[av n3];exact kA
  have IH:upd H4 rw (.dK<|kr++[(.inl ((g:Nat):Int),V.ref t)]) rw=some (.dK<|kr++[(.inl ((g:Nat):Int),V.ref t)]):=az;have b5:cf rw H4 (upd H4 rw (.dK<|kr++[(.inl ((g:Nat):Int),V.ref t)])):=cf.upd;have II:=jJ (a:=rw) (x:=.dK (kr++[(.inl ((g:Nat):Int),V.ref t)])) (S3.same s4).al;generalize upd H4 rw (.dK<|kr++[(.inl ((g:Nat):Int),V.ref t)])=H5 at sS IH b5 II⊢;refine pN<|bc<|dR<|ah rfl<|ar ⟨ow,_,rfl,sJ sS,ar<|i8<|ah rfl<|ar ⟨ow,_,rfl,iH.k (k:=.inr "begun") sS<|dr (by show 3<=1000000;decide),?_⟩⟩
  rw[show(g:Int)+1=((g+1:Nat):Int) by lia,XW]
  have lP:upd H5 ow (.dK<|oW rw (g+1) x) ow=some (.dK<|oW rw (g+1) x):=az;have b6:cf ow H5 (upd H5 ow<|.dK<|oW rw (g+1) x):=cf.upd;have IJ:=jJ (a:=ow) (x:=.dK (oW rw (g+1) x)) II;generalize upd H5 ow (.dK<|oW rw (g+1) x)=H6 at lP b6 IJ⊢;have wb:∀b o,H4 b=some o->b∉ [rw,ow]->H6 b=some o:=fun b o e hb=>by
   simp only[zae,zad,or_false,not_or] at hb
   exact b6 _ _ (b5 _ _ e hb.1) hb.2
  have A6:bP M C H6 p dx d rw n (g+1) (R++[(g,(pl,s))]):=by
   refine⟨⟨cv,?_⟩,⟨_,b6 _ _ IH<|Ne.symm n3,?_⟩,ne⟩
   ·have S4:=S3.same s4;rw[show eR (R++[(g,(pl,s))])=eR R++[(g,[(pl,s)])] by rw[eR,zav];rfl]
    refine bG.Av S4 wb (fun l hl=>?_) (fun hm=>?_) IJ
    ·simp only[zae,zad,or_false] at hl
     rcases hl with rfl|rfl
     ·exact⟨_,lZ⟩
     ·exact⟨_,kA⟩
    ·simp only[zae,zad,or_false] at hm
     rcases hm with h|h
     ·exact ne h.symm
     ·exact n2 h.symm
   ·have nt:∀l∈ [rw,ow],∀xs,H4 l≠some (.tup xs):=fun l hl xs z=>by
     simp only[zae,zad,or_false] at hl
     rcases hl with rfl|rfl
     ·rw[lZ] at z;cases z
     ·rw[kA] at z;cases z
    exact Paired.snoc (IB (Paired.bY vZ fun _ _ z=>cI.mono (dO s4) z) wb nt) ⟨.ref t,rfl,t,rfl,wb _ _ ht fun hz=>nt _ hz _ ht⟩
  refine bX<|sq<|bC jB rfl<|aq<|ah rfl<|aH ⟨_,rfl,_,rfl,iT (HK<|gP<|ah rfl<|bc<|dR<|ah rfl<|ar ⟨ow,_,rfl,sJ lP,ar<|HJ<|cG ?_⟩) rfl⟩;rw[zqT (show((g:Nat):Int)=((g+1:Nat):Int) - 1 by lia)]
  exact k _ H6 A6 lP fun b o e m1 m2 m3 m4=>wb _ _ (s4 _ _<|b3 _ _ (nY _ _ e) m1 m2) (by simp[m3,m4])
 rcases c2 with e|e<;>rw[e]
 ·exact cU cH rfl (main "left"<|.inl rfl)
 ·exact cU cH rfl (main "right"<|.inr rfl)
theorem IL(k:Nat):∀{kvs:List (Key×V)}{R:List Row},Paired (cI H) kvs R->Paired (cI H) (fm kvs<|.inl (k:Nat)) (R.filter fun x=>decide (x.1≠k))
 |[],[],_=>.nil
 |kv::kvs,e::R,.cons a r=>by
  have ih:=IL k r;obtain⟨v,e1,_⟩:=id a;unfold fm at ih⊢;by_cases hk:e.1=k
  ·rw[zaK (by rw[e1];simp[hk]),zaK (by simp[hk])];exact ih
  ·rw[zaQ (by rw[e1];simp;lia),zaQ (by simp[hk])];exact .cons a ih
theorem IM:∀{kvs:List (Key×V)}{R:List Row},Paired (cI H) kvs R->∀{i:Nat}{kv:Key×V},kvs[i]?=some kv->∃r,R[i]?=some r/\kv.1=.inl ((r.1:Nat):Int)
 |[],[],_,i,kv,h=>by simp at h
 |_::_,r0::_,.cons a r,0,kv,h=>by
  cases h;obtain⟨v,e1,_⟩:=a;exact⟨r0,rfl,by rw[e1]⟩
 |_::kvs,_::R,.cons a r,i+1,kv,h=>IM (i:=i) (kv:=kv) r h
theorem X0(hv:Paired (cI H) kvs R)(up:(R.map (·.1)).Pairwise (· < ·)){r:Row}(he:R[i]?=some r)(v:V):putK kvs (.inl ((r.1:Nat):Int)) v=kvs.set i (.inl ((r.1:Nat):Int),v):=by
 obtain⟨v0,v1,v2,_⟩:=n_ hv up he;unfold putK;rw[qA,v2,if_pos (show(some v0).isSome=true from rfl)]
 refine zbD fun j=>?_;rw[zah,zbE];cases hj:kvs[j]? with
 |none=>
  by_cases e1:i=j
  ·subst e1;rw[v1] at hj;cases hj
  ·rw[if_neg e1];rfl
 |some kv=>
  obtain⟨e',dY,hk⟩:=IM (i:=j) (kv:=kv) hv hj;by_cases e1:i=j
  ·subst e1;rw[he] at dY;cases dY;have:=(zal.mp hj).1;rw[if_pos rfl,if_pos this];show some (if kv.1=_ then (kv.1,v) else kv)=_
   rw[if_pos hk,hk]
  ·rw[if_neg e1];show some (if kv.1=_ then (kv.1,v) else kv)=some kv
   rw[if_neg];rw[hk];intro z;have z':((e'.1:Nat):Int)=((r.1:Nat):Int):=Sum.inl.inj z;have z2:e'.1=r.1:=by lia
   exact e1<|pw_inj up (by rw[zah,he];rfl) (by rw[zah,dY];show some e'.1=some r.1;rw[z2])
def sT(ps:List Pt)(r:Row):Row:=(r.1,HP ps r.2)
def Ri(ps:List Pt)(R:List Row)(i:Nat):List Row:=(R.take i).map (sT ps)++R.drop i
theorem X1(ps:List Pt)(R:List Row):Ri ps R 0=R:=rfl
theorem X3(ps:List Pt)(R:List Row):Ri ps R R.length=R.map (sT ps):=by unfold Ri;rw[zaJ,List.drop_length,zag]
theorem IP(ps:List Pt)(R:List Row)(i:Nat):(Ri ps R i).map (·.1)=R.map (·.1):=by
 unfold Ri;rw[zav,zaP];show(R.take i).map (·.1)++_=_;rw[<-zav,zbq]
theorem IQ{R:List Row}{r:Row}(h:R[i]?=some r):(Ri ps R i)[i]?=some r:=by
 have hi:=(zal.mp h).1;unfold Ri;rw[zbv (by rw[zaa,zas];lia),zaa,zas,Nat.min_eq_left (by lia),Nat.sub_self,List.getElem?_drop,Nat.add_zero];exact h
theorem X4{R:List Row}{r:Row}(h:R[i]?=some r):(Ri ps R i).set i (sT ps r)=Ri ps R (i+1):=by
 obtain⟨hi,e⟩:=zal.mp h;unfold Ri;rw[List.set_append_right _ _ (by rw[zaa,zas];lia),zaa,zas,Nat.min_eq_left (by lia),Nat.sub_self,zbK hi,e,List.set_cons_zero,sr h,zav,zbb];rfl
end
section
variable {K:Frag}{C:Addr}{H H':Hp}{M:List Addr}{p dx d rw n g:Nat}{R:List Row}{ow:Addr}{x:Str}{kvs:List (Key×V)}{es:List Ent}{L:List Addr}
theorem IS(h:ag Γ a σ H fun x H1=>vh Γ.K [x] H1 Q):ag Γ (.xt vi [a]) σ H Q:=h
theorem X5(h:ag Γ a σ H fun x H1=>rG Γ.K [x] H1 Q):ag Γ (.xt u_ [a]) σ H Q:=h
theorem IT(q:Q (.bl true) H):b8 K .Is .aD .aD H Q:=⟨rfl,q⟩
def AD(C:Addr):Sp:=fun vs H Q E=>∃(M:List Addr) (p dx d rw g:Nat) (R:List Row) (ow:Addr) (x:Str) (c:Int),vs=[.ref p,.ref ow,.int c]/\bP M C H p dx d rw x.length g R/\H ow=some (.dK<|oW rw g x)/\good x/\x.length<=9000/\R.length<64/\g<=1000/\
 ∀x' g' R' H',good x'->x'.length<=x.length+320->R'.length<=R.length+1->g'<=g+1->bP M C H' p dx d rw x'.length g' R'->H' ow=some (.dK<|oW rw g' x')->Ax p d rw ow H H'->Q (.bl true) H'
abbrev AE(K:Frag)(C:Addr)(E:XK):aN:=aJ K [("_law_added",AB C),("_law_refused",As C),("_law_change",Ac),("_law_mixed",c_),("_law_done",zT),("moved",zM)] [] [] [("drop",C,Ae C),("changed",C,z6 C)] (E:=E)
theorem X6:bM (AD C) (fun E=>AE K C E) dC iR:=by
 intro vs H Q E h;obtain⟨M,p,dx,d,rw,g,R,ow,x,c,rfl,A,ho,gx,lx,hl,hg,k⟩:=h;obtain⟨n1,n2,n3,n4⟩:=A.Aw ho;obtain⟨⟨kvs,S⟩,⟨kr,hr,hp⟩,ne⟩:=id A;have lk:=Paired.length hp;have up:=A.up;refine bW<|dR<|ah rfl<|ar ⟨ow,_,rfl,sI ho,?_⟩;refine bW<|dR<|ah rfl<|ar ⟨ow,_,rfl,Ar ho,?_⟩;refine aZ<|bj<|bc<|ah rfl<|ar<|de (by decide)<|ar ⟨trivial,_,rfl,cw (fun _=>?_)<|fun _=>cO ?_⟩
 ·refine bX (bC (AB C) rfl<|aq<|ah rfl<|aq<|ah rfl<|aq<|lV<|ah rfl ⟨cq (by lia),aq<|bc<|ah rfl<|ar<|gU ⟨by decide,by decide⟩<|aH ⟨M,p,dx,d,rw,x.length,g,R,ow,x,_,rfl,A,ho,by lia,fun r H' A' cW b'=>?_⟩⟩)
  exact k x (g+1) _ H' gx (by lia) (by rw[zqA];exact zqR _) (zqR _) A' cW b'
 have rest:aC (AE K C E) (dC.drop 4) (Dn Q) [some<|.ref p,some<|.ref ow,some<|.int c,some<|.ref rw,some<|.str x,none,none,none,none] H:=by
  refine aZ<|bj<|bc<|ah rfl<|ar<|de (by decide)<|ar<|cG ⟨_,rfl,cw (fun _=>?_)<|fun _=>cO ?_⟩
  ·exact bX (bC (As C) rfl<|aq<|ah rfl<|aq<|ah rfl<|aq<|lV<|ah rfl ⟨cq (by lia),aq<|bc<|ah rfl<|ar<|gU ⟨by decide,by decide⟩<|aH ⟨M,p,dx,d,rw,x.length,g,R,ow,x,_,rfl,A,ho,hg,fun H' s'=>k x g R H' gx (by lia) (by lia) (by lia) (A.same s') (s' _ _ ho) fun b o e _ _ _ _=>s' _ _ e⟩⟩)
  have m9:=zaq (mixed c 3) (show(9:Int)≠0 by decide)
  have l9:=zar (mixed c 3) (show(0:Int) <9 by decide)
  refine bW<|bC Ac rfl<|aq<|ah rfl<|aq<|ah rfl<|aq<|bc<|bC c_ rfl<|aq<|ah rfl<|aq<|ar<|aH ⟨_,_,rfl,ar<|de (by decide)<|aH ⟨_,x,_,rfl,gx,by lia,m9,by lia,fun b H1 ys ps r s1 fb hb pv ok ch lp tp run=>?_⟩⟩
  have X7:∀p∈ps,zA p:=fun p hp=>Wr (ok p hp);have rl:=run.len;have Z8:aQ ps<=320:=by
   have:(mixed c 3 % 9).toNat<=8:=by lia
   lia
  have X8:x.cps.toList.length=x.length:=by simp[Str.length]
  have ov:bt ps=x.length:=by rw[WY run,X8]
  have gv:bh ps=r.length:=W0 run;have dA:=s1 _ _ ho;refine pN<|bC zT rfl<|aq<|ah rfl<|aq<|ah rfl<|aH ⟨x,b,ys,ps,r,rfl,gx,hb,pv,fun p hp=>TV<|ok p hp,run,by lia,ah rfl<|ar ⟨ow,_,rfl,iH.k (k:=.inr "text") dA<|dr (by show 3<=1000000;decide),?_⟩⟩
  rw[XX];have dh:upd H1 ow (.dK<|oW rw g ⟨r.toArray⟩) ow=some (.dK<|oW rw g ⟨r.toArray⟩):=az;have b2:cf ow H1 (upd H1 ow<|.dK<|oW rw g ⟨r.toArray⟩):=cf.upd;have sU:=jJ (a:=ow) (x:=.dK (oW rw g ⟨r.toArray⟩)) (S.same s1).al;have oi:upd H1 ow (.dK<|oW rw g ⟨r.toArray⟩) rw=some (.dK kr):=by rw[av<|Ne.symm n3];exact s1 _ _ hr
  generalize upd H1 ow (.dK<|oW rw g ⟨r.toArray⟩)=H2 at dh b2 sU oi⊢;have t2:ij H1 H2:=fun y us e=>b2 _ _ e (fun z=>by rw[z,dA] at e;cases e)
  have oG:Paired (cI H2) kr R:=Paired.bY hp fun _ _ z=>cI.mono t2 (cI.mono (dO s1) z);have X9:b≠ow:=fun z=>by rw[z,ho] at fb;cases fb
  have IU:b≠rw:=fun z=>by rw[z,hr] at fb;cases fb
  have nN:=b2 _ _ hb X9;have IV:=pv.mono t2;refine pM<|X5<|ah rfl ⟨rw,kr,rfl,oi,fun l fl=>?_⟩;rw[Ai oG];have s3:=sameNew (o:=.lst ((kI R).map V.int)) fl;have AF:upd H2 l (.lst<|(kI R).map V.int) l=some (.lst<|(kI R).map V.int):=az;have S3:∀m∈M,∃o,upd H2 l (.lst<|(kI R).map V.int) m=some o:=jJ sU;generalize upd H2 l (.lst<|(kI R).map V.int)=H3 at s3 AF S3⊢;have lY:=s3 _ _ oi;have X_:l≠rw:=fun z=>by rw[z,oi] at fl;cases fl
  refine⟨l,rfl,⟨_,aw.of AF⟩,iD (K:=K) (a:=l) (xs:=(kI R).map V.int) (fun i σ H4=>i<=R.length/\∃(u5 u7 u8:Option V) (ki:List (Key×V)),σ=[some (.ref p),some (.ref ow),some (.int c),some (.ref rw),some (.str x),u5,some (.ref b),u7,u8]/\H4 rw=some (.dK ki)/\Paired (cI H4) ki (Ri ps R i)/\cf rw H3 H4/\∀m∈M,∃o,H4 m=some o)
   ⟨zqZ _,none,none,none,kr,rfl,lY,by rw[X1];exact Paired.bY oG fun _ _ z=>cI.mono (dO s3) z,fun b o e _=>e,S3⟩ (fun i σ H4 _ ⟨_,_,_,_,_,_,_,_,b4,_⟩=>aw.of (b4 _ _ AF X_)) ?_ ?_⟩
  ·rintro i v σ H4 hv ⟨_,u5,u7,u8,ki,rfl,lZ,p_,b4,AG⟩;have hi:i<R.length:=by have:=(zal.mp hv).1;rwa [zaa,zaa] at this
   have gE:R[i]?=some R[i]:=by simp[hi]
   rw[zah,zah,gE] at hv;have IW:R[i]∈R:=zaV hi;generalize R[i]=rr at gE hv IW;cases hv;show aC (AE K C E) _ _ [some<|.ref p,some<|.ref ow,some<|.int c,some<|.ref rw,some<|.str x,some<|.int ((rr.1:Nat):Int),some<|.ref b,u7,u8] H4;have IX:((Ri ps R i).map (·.1)).Pairwise (· < ·):=by rw[IP];exact up
   obtain⟨v,e1,e2,t,rfl,ht⟩:=n_ p_ IX (IQ gE);have Ya:cm H4 rw (.int ((rr.1:Nat):Int)) (some<|.ref t):=by
    have:=cm.k (k:=.inl ((rr.1:Nat):Int)) lZ;rw[e2] at this;exact this
   refine Wv<|dR<|ah rfl<|ah rfl ⟨rw,_,rfl,Ya,Ww ht ?_⟩;have AH:ij H3 H4:=fun y us e=>b4 _ _ e (fun z=>by rw[z,lY] at e;cases e)
   have IY:=A.le IW;refine pN<|kq<|aq<|bC zM rfl<|aq<|ah rfl<|aq<|ah rfl<|aq<|ah rfl<|aH ⟨b,ys,ps,rr.2.1,rr.2.2,rfl,b4 _ _ (s3 _ _ nN) IU,(IV.mono<|dO s3).mono AH,ok,ch,by lia,by rw[ov];exact IY.1,IY.2,fun H5 s5=>?_⟩
   refine aq<|ah rfl<|aH ⟨dw,fun t2 ft=>?_⟩;have s6:=sameNew (o:=.tup [V.int ((mv rr.2.2 ps rr.2.1:Nat):Int),V.str rr.2.2]) ft;have IZ:upd H5 t2 (.tup [V.int ((mv rr.2.2 ps rr.2.1:Nat):Int),V.str rr.2.2]) t2=some (.tup [V.int ((mv rr.2.2 ps rr.2.1:Nat):Int),V.str rr.2.2]):=az;have sV:=s5.trans s6;generalize upd H5 t2 (.tup [V.int ((mv rr.2.2 ps rr.2.1:Nat):Int),V.str rr.2.2])=H6 at s6 IZ sV⊢;have I_:=sV _ _ lZ;have li:ki.length=R.length:=by
    have h1:=Paired.length p_;have h2:=congrArg List.length (IP ps R i);rw[zaa,zaa] at h2;lia
   refine ah rfl<|ah rfl ⟨rw,_,rfl,iH.k (k:=.inl ((rr.1:Nat):Int)) I_<|dr (by lia),?_⟩
   have Ja:Paired (cI H6) ki (Ri ps R i):=Paired.bY p_ fun _ _ z=>cI.mono (dO sV) z;rw[X0 Ja IX<|IQ gE];have b7:cf rw H6 (upd H6 rw (.dK<|ki.set i (.inl ((rr.1:Nat):Int),V.ref t2))):=cf.upd;have Jb:ij H6 (upd H6 rw (.dK<|ki.set i (.inl ((rr.1:Nat):Int),V.ref t2))):=fun y us e=>b7 _ _ e (fun z=>by rw[z,I_] at e;cases e)
   refine⟨hi,_,_,_,_,rfl,az,?_,fun z o e nz=>b7 _ _ (sV _ _<|b4 _ _ e nz) nz,jJ fun m hm=>let ⟨o,e⟩:=AG m hm;⟨o,sV _ _ e⟩⟩;rw[<-X4 (ps:=ps) gE];exact z5 (fun _ _ z=>cI.mono Jb z) Ja i ⟨.ref t2,rfl,t2,rfl,Jb _ _ IZ⟩
  ·rintro σ H4 ⟨_,u5,u7,u8,ki,rfl,lZ,p_,b4,AG⟩;rw[show((kI R).map V.int).length=R.length by rw[zaa,zaa],X3] at p_
   have kA:=b4 _ _ (s3 _ _ dh) n3;have AH:ij H3 H4:=fun y us e=>b4 _ _ e (fun z=>by rw[z,lY] at e;cases e)
   have bb:∀z o,H z=some o->z∉ [rw,ow]->H4 z=some o:=fun z o e hz=>by
    simp only[zae,zad,or_false,not_or] at hz
    exact b4 _ _ (s3 _ _<|b2 _ _ (s1 _ _ e) hz.2) hz.1
   have S4:bG M C H4 p dx d x.length g kvs (eR R):=by
    refine bG.Av S bb (fun l hl=>?_) (fun hm=>?_) AG
    ·simp only[zae,zad,or_false] at hl
     rcases hl with rfl|rfl
     ·exact⟨_,hr⟩
     ·exact⟨_,ho⟩
    ·simp only[zae,zad,or_false] at hm
     rcases hm with h|h
     ·exact ne h.symm
     ·exact n2 h.symm
   have Yb:=b4 _ _ (s3 _ _ nN) IU;refine bX<|gP<|f9 C (z6 C) rfl<|ah rfl ⟨p,dx,_,rfl,S4.ob,cc,ID<|ah rfl ⟨_,.inl<|aw.of Yb,fun l2 f2=>?_⟩⟩;have s5:=sameNew (o:=.lst ys) f2;have sE:upd H4 l2 (.lst ys) l2=some (.lst ys):=az;generalize upd H4 l2 (.lst ys)=H5 at s5 sE⊢;refine⟨M,p,dx,d,x.length,g,kvs,_,.ref l2,ps,rfl,S4.same s5,⟨l2,ys,rfl,sE,((IV.mono<|dO s3).mono AH).mono<|dO s5,ok,ch,by lia⟩,ov,by rw[zaa];lia,fun e he=>?_,fun cv H6 S6 b6=>ar<|IT ?_⟩
   ·obtain⟨r0,_,rfl⟩:=zay.mp he;show 1<=1000;decide
   have AI:(⟨r.toArray⟩:Str).length=r.length:=by simp[Str.length]
   have gr:good ⟨r.toArray⟩:=⟨by rw[AI];lia,fun c hc=>run.good (fun c hc=>gx.2 c hc) X7 c (by simpa using hc)⟩
   have er:(eR R).map (sv ps)=eR (R.map<|sT ps):=by
    show(R.map _).map _=(R.map _).map _;rw[zaP,zaP];rfl
   rw[er,gv] at S6;refine k ⟨r.toArray⟩ g (R.map<|sT ps) H6 gr (by rw[AI];lia) (by rw[zaa];lia) (by lia) ⟨⟨cv,by rw[AI];exact S6⟩,⟨ki,b6 _ _ (s5 _ _ lZ) n4 ne,?_⟩,ne⟩ (b6 _ _ (s5 _ _ kA) n1 n2) fun y o e m1 m2 m3 m4=>b6 _ _ (s5 _ _<|bb _ _ e (by simp[m3,m4])) m1 m2
   have S5:=S4.same s5;exact Paired.bY p_ fun kv r ⟨v,e,t,a1,a2⟩=>⟨v,e,t,a1,b6 _ _ (s5 _ _ a2) (fun z=>by have a3:=s5 _ _ a2;rw[z,S5.ob] at a3;cases a3) (fun z=>by have a3:=s5 _ _ a2;rw[z,S5.st] at a3;cases a3)⟩
 refine aZ<|V8<|bj<|bc<|ah rfl<|ar<|de (by decide)<|ar ⟨trivial,_,rfl,cw (fun _=>?_)<|fun _=>iF (cO rest) rfl⟩
 refine bj<|IS<|ah rfl ⟨rw,kr,rfl,hr,ar ⟨trivial,_,rfl,cw (fun h0=>?_)<|fun _=>cO rest⟩⟩;have h0:(0:Int) < ((kr.length:Nat):Int):=of_decide_eq_true h0;refine bW<|dc<|Am<|ah rfl<|A.sorted hl fun l fl=>?_;have s1:=sameNew (o:=.lst ((kI R).map V.int)) fl;have cH:upd H l (.lst<|(kI R).map V.int) l=some (.lst<|(kI R).map V.int):=az;generalize upd H l (.lst<|(kI R).map V.int)=H1 at s1 cH⊢;have og:=s1 _ _ hr;refine bc<|bc<|ah rfl<|ar<|gU ⟨by decide,by decide⟩<|IS<|ah rfl ⟨rw,kr,rfl,og,de h0 ?_⟩
 have ml:=zaq (c / 9) (show((kr.length:Nat):Int)≠0 by lia)
 have ll:=zar (c / 9) h0;obtain⟨i,hi⟩:=zaL ml;rw[hi];have Gx:i<R.length:=by lia
 have gE:R[i]?=some R[i]:=by simp[Gx]
 generalize R[i]=r at gE;refine cU cH (iE (v:=V.int ((r.1:Nat):Int)) (by rw[zah,zah,gE];rfl)) ?_
 have A1:=A.same s1;obtain⟨v,e1,e2,_⟩:=n_ hp up gE;refine fH<|Ie<|ah rfl ⟨rw,rfl,.inl ⟨kr,.inl og⟩,ah rfl ⟨kr,.inl ((r.1:Nat):Int),v,og,rfl,e2,?_⟩⟩;have b2:cf rw H1 (upd H1 rw (.dK<|fm kr<|.inl ((r.1:Nat):Int))):=cf.upd;have oi:upd H1 rw (.dK<|fm kr<|.inl ((r.1:Nat):Int)) rw=some (.dK<|fm kr<|.inl ((r.1:Nat):Int)):=az;have sU:=jJ (a:=rw) (x:=.dK (fm kr<|.inl ((r.1:Nat):Int))) (S.same s1).al;generalize upd H1 rw (.dK<|fm kr<|.inl ((r.1:Nat):Int))=H2 at b2 oi sU⊢;have bb:∀z o,H1 z=some o->z∉ [rw]->H2 z=some o:=fun z o e hz=>b2 _ _ e (by simpa using hz)
 have S2:bG M C H2 p dx d x.length g kvs (eR R):=bG.Av (S.same s1) bb (fun l hl=>by rw[zaj.mp hl];exact⟨_,og⟩) (fun hm=>ne (zaj.mp hm).symm) sU
 have oG:Paired (cI H2) (fm kr<|.inl ((r.1:Nat):Int)) (R.filter fun x=>decide (x.1≠r.1)):=IB (L:=[rw]) (IL _<|Paired.bY hp fun _ _ z=>cI.mono (dO s1) z) bb fun l hl xs z=>by rw[zaj.mp hl,og] at z;cases z
 refine bX<|gP<|f9 C (Ae C) rfl<|ah rfl ⟨p,dx,_,rfl,S2.ob,cc,ah rfl ⟨M,p,dx,d,x.length,g,i,kvs,_,_,rfl,S2,vW gE,fun cv H3 S3 b3=>ar<|IT ?_⟩⟩;have er:(eR R).filter (fun x=>decide<|x.1≠r.1)=eR (R.filter fun x=>decide (x.1≠r.1)):=by rw[List.filter_map];rfl
 have Yc:bG M C H3 p dx d x.length g cv (eR<|R.filter fun x=>decide (x.1≠r.1)):=by rw[<-er];exact S3
 have vU:=zaC (fun x:Row=>decide (x.1≠r.1)) R;refine k x g _ H3 gx (by lia) (Nat.le_succ_of_le vU) (by lia) ⟨⟨cv,Yc⟩,⟨_,b3 _ _ oi ne,Paired.bY oG fun kv r ⟨v,e,t,a1,a2⟩=>⟨v,e,t,a1,b3 _ _ a2 (fun z=>by rw[z,S2.st] at a2;cases a2)⟩⟩,ne⟩ (b3 _ _ (b2 _ _ (s1 _ _ ho) n3) n2) fun y o e m1 m2 m3 m4=>b3 _ _ (b2 _ _ (s1 _ _ e) m3) m2
end
section
variable {K:Frag}{C:Addr}{H H' H0:Hp}{M:List Addr}{sc p dx d rw n g:Nat}{R:List Row}{ow T L:Addr}{x:Str}{ns:List Int}{ls hs:List V}{E:XK}{Q:VK}{i:Nat}
abbrev GL(K:Frag)(C:Addr)(E:XK):aN:=aJ K [("_law_text",vt),("_law_cell_at",rO K),("_law_size",zC),("_law_stands",pX C),("_law_kept",Ay C),("_law_deed",AD C),("_law_mixed",c_)] [] [] [("add",C,pR C),("within",C,nX C),("size",C,f_ C)] [("Marks",C,z0 C)] (E:=E)
theorem Jc(he:∀Q1:VK,Q1 (.int (n:Nat)) H->ag (GL K C E) e σ H Q1)(q:∀p dx d H',aB H H'->H p=none->H d=none->bG [] C H' p dx d n 0 [] []->Q (.ref p) H'):ag (GL K C E) (.make 0 [e]) σ H Q:=by
 refine zV C (z0 C) rfl<|he _ fun p dx fp fx gp=>?_;refine⟨p,dx,n,rfl,az,fun d H1 fd S b=>⟨rfl,q p dx d H1 (fun z o e=>b _ _ (by rw[av<|aS e fp,av<|aS e fx];exact e)<|aS e fp) fp ?_ S⟩⟩
 have n1:d≠p:=fun z=>by rw[z,az] at fd;cases fd
 have n2:d≠dx:=fun z=>by rw[z,av gp,az] at fd;cases fd
 rw[av n1,av n2] at fd;exact fd
theorem Yd:ia [] (oW rw 0 x)=oW rw 0 x:=by
 have n:∀{a b:Str}{v:V}{r:List (Key×V)},¬a=b->cB r (.inr b)=none->cB (((Sum.inr a:Key),v)::r) (.inr b)=none:=fun h e=>(iG<|fun z=>h<|Sum.inr.inj z).trans e;show putK (putK (putK ([]:List (Key×V)) (Sum.inr "rows")<|.ref rw) (Sum.inr "begun")<|.int (0:Nat)) (Sum.inr "text") (.str x)=_;rw[qB (kvs:=[]) _ rfl];rw[qB (kvs:=[]++_) _<|n (by decide+kernel) rfl]
 rw[qB (kvs:=[]++_++_) _<|n (by decide+kernel)<|n (by decide+kernel) rfl]
 rfl
theorem Ye(h:∀p,H p=none->aL Γ as σ (upd H p<|.dK []) fun vs H2=>H2 p=some (.dK [])/\∃kvs:List (Key×V),vs=nr kvs/\kvs.length<=15/\Q (.ref p) (upd H2 p<|.dK<|ia [] kvs)):ag Γ (.xt o7 as) σ H Q:=h
theorem bP.more(A:bP M C H p dx d rw n g R){a:Addr}{o:HO}(f:H a=none):bP (a::M) C (upd H a o) p dx d rw n g R:=by
 have A':=A.same (sameNew (o:=o) f);obtain⟨⟨kvs,S⟩,hr,ne⟩:=A';obtain⟨⟨pb,S0⟩,_⟩:=A;refine⟨⟨pb,S0.same (sameNew f)|>.ob,S0.same (sameNew f)|>.st,?_,S0.up,S0.lt,S0.pl,fun m hm=>?_⟩,hr,ne⟩
 ·exact Paired.bY S0.kv fun kv e ⟨l,xs,e1,e2,e3,e4⟩=>⟨l,xs,e1,sameNew f _ _ e2,Paired.bY e3 fun v q z=>fc.mono (dO (sameNew f)) z,fun hm=>by
   rcases zae.mp hm with h|h
   ·rw[h,f] at e2;cases e2
   ·exact e4 h⟩
 ·rcases zae.mp hm with h|h
  ·exact⟨o,by rw[h];exact az⟩
  ·exact S.al m h
structure jK (K:Frag) (C:Addr) (H0 H:Hp) (sc p dx d rw ow T L:Nat) (ls:List V) (ns:List Int) (i:Nat) (x:Str) (g:Nat) (R:List Row) (hs:List V):Prop where
 h0:aw K H0 sc (ns.map V.int)
 s0:aB H0 H
 f0:H0 p=none/\H0 d=none/\H0 rw=none/\H0 ow=none/\H0 T=none
 A:bP [T] C H p dx d rw x.length g R
 ho:H ow=some (.dK<|oW rw g x)
 hT:H T=some (.lst hs)
 hd:∀v∈hs,eL T H v
 hL:H L=some (.lst ls)
 nL:L≠T
 gx:good x
 bd:x.length<=400+320*i/\R.length<=i/\g<=i/\hs.length<=2*i
theorem jK.same(A:jK K C H0 H sc p dx d rw ow T L ls ns i x g R hs)(s:aB H H'):jK K C H0 H' sc p dx d rw ow T L ls ns i x g R hs:=
 ⟨A.h0,A.s0.trans s,A.f0,A.A.same s,s _ _ A.ho,s _ _ A.hT,fun v hv=>(A.hd v hv).same s,s _ _ A.hL,A.nL,A.gx,A.bd⟩
abbrev sL(sc:Addr)(x0:Str)(p ow T:Addr)(u5 u6 u7:Option V):St:=[some<|.ref sc,some<|.str x0,some<|.ref p,some<|.ref ow,some<|.ref T,u5,u6,u7]
theorem Jd{ec:RE}{c:Int}(A:jK K C H0 H sc p dx d rw ow T L ls ns i x g R hs)(hi:i<=24)(e2:σ[2]?=some (some<|.ref p))(e3:σ[3]?=some (some<|.ref ow))(hc:∀(Q1:VK),Q1 (.int c) H->ag (GL K C E) ec σ H Q1){E':XK}(q:∀H',aB H H'->Q (.bl true) H'):
  aL (GL K C E) [.v 2,(.bR (.v 3)<|.c<|.str "rows"),(.blt .len [(.bR (.v 3)<|.c<|.str "text")]),ec] σ H fun vs H1=>pX C vs H1 Q E':=by
 have bd:=A.bd;refine aq<|ah e2<|aq<|dR<|ah e3<|ar ⟨ow,_,rfl,sI A.ho,aq<|lV<|dR<|ah e3<|ar ⟨ow,_,rfl,Ar A.ho,⟨cq (by lia),?_⟩⟩⟩
 exact aq<|hc _<|aH ⟨[T],p,dx,d,rw,x.length,g,R,_,rfl,A.A,by lia,q⟩
def AJ:List RS:=[.drop (.call 4 [.v 2,(.blt .len [(.bR (.v 3) (.c (.str "text")))]),.v 5,.v 4]),
  .ite (.or [(.not (.call 5 [.v 2,.v 3,.v 5])),(.not (.call 3 [.v 2,(.bR (.v 3) (.c (.str "rows"))),(.blt .len [(.bR (.v 3) (.c (.str "text")))]),.v 5]))]) [.ret (.c (.bl false))] []]
theorem Yf{x0:Str}{u6 u7:Option V}{c:Int}(A:jK K C H0 H sc p dx d rw ow T L ls ns i x g R hs)(hi:i<24)
  (k:∀x' g' R' cZ H',jK K C H0 H' sc p dx d rw ow T L ls ns (i+1) x' g' R' cZ->D.nx (sL sc x0 p ow T (some<|.int c) u6 u7) H'):
  aC (GL K C E) AJ D (sL sc x0 p ow T (some<|.int c) u6 u7) H:=by
 have bd:=A.bd;refine fH<|bC (Ay C) rfl<|aq<|ah rfl<|aq<|lV<|dR<|ah rfl<|ar ⟨ow,_,rfl,Ar A.ho,⟨cq (by lia),?_⟩⟩
 refine aq<|ah rfl<|aq<|ah rfl<|aH ⟨[T],p,dx,d,rw,x.length,g,R,T,hs,c,rfl,A.A,by lia,A.hT,.head _,by lia,A.hd,fun Je H1 pZ Z9 Yg b1=>?_⟩
 obtain⟨f1,f2,f3,f4,f5⟩:=A.f0;have A1:=A.A.IC A.hT (.head _) b1 ⟨_,pZ⟩;have Yh:ow≠T:=fun z=>by have:=A.ho;rw[z,A.hT] at this;cases this
 have dA:=b1 _ _ A.ho Yh;refine aZ<|jH<|dD<|d0 (AD C) rfl<|aq<|ah rfl<|aq<|ah rfl<|aq<|ah rfl<|aH ⟨[T],p,dx,d,rw,g,R,ow,x,c,rfl,A1,dA,A.gx,by lia,by lia,by lia,fun x2 g2 R2 H2 Yi Z_ lr2 lg2 A2 dh b2=>dZ<|iF ?_ rfl⟩
 have n1:=A1.Aw dA;have u:∀{z:Addr}{o:HO},H1 z=some o->(∀C dx fs,o≠ .ins C dx fs)->(∀kvs,o≠ .dK kvs)->H2 z=some o:=fun e h1 h2=>by
  obtain⟨⟨kvs,S⟩,⟨cv,k1,k2⟩,ne⟩:=A1;exact b2 _ _ e (fun z=>by rw[z,S.ob] at e;cases e;exact h1 _ _ _ rfl) (fun z=>by rw[z,S.st] at e;cases e;exact h2 _ rfl) (fun z=>by rw[z,k1] at e;cases e;exact h2 _ rfl) (fun z=>by rw[z,dA] at e;cases e;exact h2 _ rfl)
 have L2:jK K C H0 H2 sc p dx d rw ow T L ls ns (i+1) x2 g2 R2 Je:=by
  refine⟨A.h0,fun z o e=>?_,A.f0,A2,dh,u pZ (fun _ _ _ z=>by cases z) (fun _ z=>by cases z),fun v hv=>eL.XO A1 dA b2<|Yg v hv,u (b1 _ _ A.hL A.nL) (fun _ _ _ z=>by cases z) (fun _ z=>by cases z),A.nL,Yi,by lia,by lia,by lia,by lia⟩
  exact b2 _ _ (b1 _ _ (A.s0 _ _ e)<|aS e f5) (aS e f1) (aS e f2) (aS e f3)<|aS e f4
 exact dD<|d0 (pX C) rfl<|Jd L2 (by lia) rfl rfl (fun Q1 q1=>ah rfl q1) fun H3 s3=>dZ (iF (cO<|k x2 g2 R2 Je H3<|L2.same s3) rfl)
theorem Yj(h0:σ[j]?=some (some<|.ref T))(hL:H T=some (.lst hs))(hh:∀v∈hs,eL T H v)(k:∀r H',aB H H'->H' r=some (.lst [])->Q (.ref r) H'):
  ag Γ (.comp (some 2) [] .list [.v j] (some<|.cmp .NotEq (.v 0)<|.v 1)<|.v 0) σ H Q:=by
 refine⟨_,h0,T,rfl,⟨_,aw.of hL⟩,fun i m ys H2=>m=hs.length - i/\i<=hs.length/\ys=[]/\H2=H,⟨_,rfl,zqZ _,rfl,rfl⟩,?_⟩;rintro i m ys H2 ⟨rfl,hi,rfl,rfl⟩;by_cases aI:i<hs.length
 ·refine .inr ⟨⟨hs,hs[i],aw.of hL,by simp[aI]⟩,?_⟩
  rintro y H3 ⟨rfl,hx⟩;obtain⟨t,a,b,ms,rfl,ht,na,nb,ha,hb⟩:=hh y (zat<|hx hs<|aw.of hL);refine⟨t,_,rfl,aO.of ht,rfl,?_⟩;refine bj<|ah rfl<|ah rfl<|vX ha hb ⟨_,rfl,?_⟩;exact⟨hs.length - (i+1),by lia,rfl,aI,rfl,rfl⟩
 ·have dQ:i=hs.length:=by lia
  subst dQ;exact .inl ⟨⟨hs,aw.of hL,zqR _⟩,fun q hq=>k q _ (sameNew hq) az⟩
theorem Yk{x0:Str}{u5 u6 u7:Option V}(A:jK K C H0 H sc p dx d rw ow T L ls ns i x g R hs)(hi:i<=24)(q:∀H',Q (.bl true) H'):aC (GL K C E) (cN.drop 6) (Dn Q) (sL sc x0 p ow T u5 u6 u7) H:=by
 refine aZ<|bj<|Yj rfl A.hT A.hd fun r H1 s1 hr=>fG (aH ⟨zqZ _,fun e fe=>?_⟩);have s2:=sameNew (o:=.lst []) fe;refine vX (ns:=[]) (s2 _ _ hr) az ⟨_,rfl,iF (cO ?_) rfl⟩;have A2:=A.same (s1.trans s2);generalize upd H1 e (.lst [])=H2 at A2⊢;have Yl:aw K H2 sc (ns.map V.int):=A2.s0.seq A.h0;refine bW<|bc<|bc<|ar<|ar<|Ib ⟨by decide,by decide,by decide⟩<|bC c_ rfl<|aq<|bC (rO K) rfl<|aq<|ah rfl<|aq<|ar<|aH ⟨sc,ns,_,rfl,Yl,by decide,aq<|ar<|aH ⟨_,_,rfl,i8 ?_⟩⟩
 have m0:=(zl (cell ns (0:Int).toNat) 17).1;obtain⟨f,ef,hf⟩:∃f:Nat,(10:Int) ^ (12:Int).toNat+mixed (cell ns (0:Int).toNat) 17=((f:Nat):Int)/\1<=f:=by
  have Ym:(10:Int) ^ (12:Int).toNat=1000000000000:=by decide
  refine⟨((10:Int) ^ (12:Int).toNat+mixed (cell ns (0:Int).toNat) 17).toNat,?_,?_⟩ <;>rw[Ym] <;>lia
 rw[ef];refine bW<|Jc (n:=f) (fun Q1 q1=>ah rfl q1) fun p2 kD d2 H3 s3 Jf Jg S3=>?_;refine aZ<|oa<|bj<|jI C (pR C) rfl<|ah rfl ⟨p2,kD,_,rfl,S3.ob,cc,ah rfl<|ar ⟨[],p2,kD,d2,f,0,f,"right",[],[],rfl,S3,zqZ _,zqR _,.inr rfl,fun Yn H4 S4 b4=>?_⟩⟩;refine ar<|si ⟨_,rfl,iF ?_ rfl⟩;refine oa<|bj<|jI C (pR C) rfl<|ah rfl ⟨p2,kD,_,rfl,S4.ob,cc,ar<|ar ⟨[],p2,kD,d2,f,1,0,"left",Yn,_,rfl,S4,(by show 1<=1000;decide),zqZ _,.inl rfl,fun AK H5 S5 b5=>?_⟩⟩
 refine ar<|si ⟨_,rfl,iF ?_ rfl⟩;have Yo:bG [] C H5 p2 kD d2 f 2 AK (eR [(0,(f,"right")),(1,(0,"left"))]):=S5;refine oa<|bj<|jI C (nX C) rfl<|ah rfl ⟨p2,kD,_,rfl,S5.ob,cc,ar<|ah rfl ⟨[],p2,kD,d2,f,2,1,f,AK,[(0,(f,"right")),(1,(0,"left"))],rfl,Yo,(by show 2<64;decide),hf,zqR _,fun l H6 ms s6 fl hl wm=>?_⟩⟩
 have em:ms=[0]:=by
  refine wm.uniq ⟨[(((f:Nat):Int),0)],?_,List.pairwise_singleton ..,rfl⟩;have e1:cg 1 f (tw (0,(f,"right")))=true:=by
   show(decide (((1:Nat):Int)<= ((f:Nat):Int)) && decide (((f:Nat):Int)<= ((f:Nat):Int)))=true;rw[zqT (by lia),zqT<|zaD _];rfl
  have e2:cg 1 f (tw (1,(0,"left")))=false:=by
   show(decide (((1:Nat):Int)<= ((0:Nat):Int)) && _)=false;rw[zqF (by lia)];rfl
  show List.Perm _ ([tw (0,(f,"right")),tw (1,(0,"left"))].filter (cg 1 f));rw[zaQ e1,zaK (by rw[e2];decide),zbg]
  exact List.Perm.refl _
 subst em;refine fG<|aq<|ar<|aH ⟨d3,fun l2 f2=>?_⟩;have s7:=sameNew (o:=.lst [V.int 0]) f2;refine vX (ns:=[0]) (s7 _ _ hl) az ⟨_,rfl,iF ?_ rfl⟩;have S7:=(S5.same s6).same s7;have sm:aB H2 (upd H6 l2<|.lst [V.int 0]):=fun z o e=>s7 _ _ (s6 _ _<|b5 _ _ (b4 _ _ (s3 _ _ e) (aS e Jf)<|aS e Jg) (aS e Jf)<|aS e Jg);generalize upd H6 l2 (.lst [V.int 0])=H7 at S7 sm⊢;refine Aj<|bj<|ir C (f_ C) rfl<|ah rfl ⟨p2,kD,_,rfl,S7.ob,cc,[],p2,kD,d2,f,_,AK,_,rfl,S7,ah rfl<|si ⟨_,rfl,iF (cO ?_) (by simp)⟩⟩
 exact bX<|bC (pX C) rfl<|Jd (A2.same sm) hi rfl rfl (fun Q1 q1=>ar q1) fun H8 _=>q H8
theorem Yp(ns:List Int)(lo hi:Int):∃ms:List Int,bL (ns.map V.int) (some lo) (some hi)=ms.map V.int/\(0<=lo->lo<=hi->ms.length<= (hi - lo).toNat):=by
 refine⟨(ns.drop<|HT.aR ns.length 0<|some lo).take<|HT.aR ns.length ns.length (some hi) - HT.aR ns.length 0 (some lo),?_,fun h0 h1=>?_⟩
 ·unfold bL;rw[zaa,<-List.map_drop,<-List.map_take]
 ·obtain⟨l,rfl⟩:=zaL h0;obtain⟨h,rfl⟩:=zaL (Int.le_trans h0 h1);rw[zas,zaS,HT.tZ,HT.tZ];lia
def wc(K:Frag):Sp:=fun vs H Q E=>∃(a:Addr) (ns:List Int),vs=[.ref a]/\aw K H a (ns.map V.int)/\∀H',Q (.bl true) H'
theorem Yq(vs:List V)(H:Hp)(Q:VK)(E:XK)(hh:wc K vs H Q E):aC (GL K C E) cN (Dn Q) (start gN vs) H:=by
 obtain⟨sc,ns,rfl,ha,q⟩:=hh;refine bW<|bC vt rfl<|aq<|bC (rO K) rfl<|aq<|ah rfl<|aq<|ar<|aH ⟨sc,ns,_,rfl,ha,by decide,?_⟩
 refine aq<|bC zC rfl<|aq<|bC (rO K) rfl<|aq<|ah rfl<|aq<|ar<|aH ⟨sc,ns,_,rfl,ha,by decide,aH ⟨_,rfl,fun n0 n1 n2=>aH ⟨_,_,rfl,n1,by lia,fun x H1 gx lx s1=>?_⟩⟩⟩
 have lx4:x.length<=400:=by lia
 refine bW<|Jc (n:=x.length) (fun Q1 q1=>lV<|ah rfl ⟨cq (by lia),q1⟩) fun p dx d H2 s2 fp fd S2=>?_
 refine bW<|Ye fun ow fo=>aq (ar<|aq<|zW fun rw fr=>aq (ar<|aq<|ar<|aq<|ar<|aq<|ah rfl<|aH ⟨?_,oW rw 0 x,rfl,(by show 3<=15;decide),?_⟩))
 ·have wd:ow≠rw:=fun z=>by rw[z,az] at fr;cases fr
  rw[av wd];exact az
 rw[Yd];have wd:ow≠rw:=fun z=>by rw[z,az] at fr;cases fr
 have we:H2 rw=none:=by rw[av<|Ne.symm wd] at fr;exact fr
 have s3:aB H2 (upd (upd (upd H2 ow<|.dK []) rw (.dK [])) ow<|.dK<|oW rw 0 x):=fun z o e=>by rw[av<|aS e fo,av<|aS e we,av<|aS e fo];exact e
 have sQ:upd (upd (upd H2 ow<|.dK []) rw (.dK [])) ow (.dK<|oW rw 0 x) ow=some (.dK<|oW rw 0 x):=az;have lY:upd (upd (upd H2 ow<|.dK []) rw (.dK [])) ow (.dK<|oW rw 0 x) rw=some (.dK []):=by rw[av<|Ne.symm wd];exact az
 generalize upd (upd (upd H2 ow<|.dK []) rw (.dK [])) ow (.dK<|oW rw 0 x)=H3 at s3 sQ lY⊢;have Yr:rw≠d:=fun z=>by rw[z,S2.st] at we;cases we
 have A3:bP [] C H3 p dx d rw x.length 0 []:=⟨⟨[],S2.same s3⟩,⟨[],lY,.nil⟩,Yr⟩;refine aZ<|dD<|d0 (pX C) rfl<|aq<|ah rfl<|aq<|dR<|ah rfl<|ar ⟨ow,_,rfl,sI sQ,aq<|lV<|ah rfl ⟨cq (by lia),aq<|ar<|aH ⟨[],p,dx,d,rw,x.length,0,[],_,rfl,A3,(by show 0<64;decide),fun H4 s4=>dZ<|iF (cO ?_) rfl⟩⟩⟩
 have A4:=A3.same s4;have kA:=s4 _ _ sQ;refine bW<|fG<|aH ⟨zqZ _,fun T fT=>?_⟩;have s5:=sameNew (o:=.lst []) fT;have AL:upd H4 T (.lst []) T=some (.lst []):=az;have A5:=A4.more (o:=.lst []) fT;generalize upd H4 T (.lst [])=H5 at s5 AL A5⊢;have sS:=s5 _ _ kA;have Jh:aB H H5:=(((s1.trans s2).trans s3).trans s4).trans s5;obtain⟨ms,Ys,Ji⟩:=Yp ns 2 26;have Ji:=Ji (by decide) (by decide)
 refine pM (body:=AJ)<|Wt<|ah rfl<|ar ⟨_,rfl,ar ⟨_,rfl,.inl ⟨_,Jh.seq ha,fun L fL=>?_⟩⟩⟩;have s6:=sameNew (o:=.lst (bL (ns.map V.int) (some 2)<|some 26)) fL;rw[Ys] at s6⊢;have hL:upd H5 L (.lst<|ms.map V.int) L=some (.lst<|ms.map V.int):=az;generalize upd H5 L (.lst<|ms.map V.int)=H6 at s6 hL⊢;have A0:jK K C H H6 sc p dx d rw ow T L (ms.map V.int) ns 0 x 0 [] []:=by
  refine⟨ha,Jh.trans s6,⟨s1.free fp,s1.free fd,s1.free<|s2.free we,s1.free<|s2.free fo,?_⟩,A5.same s6,s6 _ _ sS,s6 _ _ AL,(fun v hv=>by cases hv),hL,(fun z=>by rw[z,AL] at fL;cases fL),gx,by lia,zqR _,zqR _,zqR _⟩
  exact s1.free<|s2.free<|s3.free<|s4.free fT
 refine⟨L,rfl,⟨_,aw.of hL⟩,iD (K:=K) (a:=L) (xs:=ms.map V.int) (fun i σ H7=>i<=24/\∃(u5:Option V) (x':Str) (g':Nat) (R':List Row) (hs:List V),σ=sL sc x p ow T u5 none none/\jK K C H H7 sc p dx d rw ow T L (ms.map V.int) ns i x' g' R' hs)
  ⟨zqZ _,none,x,0,[],[],rfl,A0⟩ (fun i σ H7 _ ⟨_,_,_,_,_,_,_,A⟩=>aw.of A.hL) ?_ ?_⟩
 ·rintro i v σ H7 hv ⟨_,u5,x',g',R',hs,rfl,A⟩;have hi:i<ms.length:=by
   have:=(zal.mp hv).1;rw[zaa] at this;exact this
  have Jj:i<24:=by
   have:((26:Int) - 2).toNat=24:=by decide
   lia
  rw[zah,zaE hi] at hv;cases hv;show aC (GL K C E) AJ _ (sL sc x p ow T (some<|.int ms[i]) none none) H7;exact Yf A Jj fun x2 g2 R2 hG H8 A2=>⟨Jj,_,x2,g2,R2,hG,rfl,A2⟩
 ·rintro σ H7 ⟨Yt,u5,x',g',R',hs,rfl,A⟩;exact Yk A Yt q
end
end L2.ny
namespace L2
open PySem PySem.Spec PyProof.Rows
open PySem.W (Frag nsIn findIn isFn keepIn codeIn fnOf mg_of mg_none_of)
def eM(st:Stmt):List Str:=(gj st).args.map (·.arg)
structure Top (P:Program) (w:World) (K:Frag) (mg:Str->Option Value) (base:Heap):Prop where
 X:K.In base
 G:base.Ns mainGlobals mg
def bN(K:Frag)(x:Str)(st:Stmt):Prop:= ∃f fd,nsIn K mainGlobals x=some (some<|.ref f)/\k6 K x x st f fd
def eN(K:Frag)(C:Addr)(x q:Str)(st:Stmt):Prop:= ∃f fd,findIn K (.ref C) x=some (some<|.ref f)/\isFn K (.ref f)=true/\k6 K x q st f fd
structure wg (K:Frag) (x:Str) (C:Addr):Prop where
 g:nsIn K mainGlobals x=some (some<|.ref C)
 m:makesIn K C=true
 k:keepIn K (.ref C)=true
structure eA (K:Frag) (p:Str×V):Prop where
 ex:∃u,nsIn K mainGlobals p.1=some (some u)/\RelV p.2 u
structure oj (K:Frag) (p:Str×Addr):Prop where
 g:nsIn K mainGlobals p.1=some (some<|.ref p.2)
 x:PySem.W.excIn K p.2 [.type "ValueError",.type "Exception",.type "BaseException",.type "object"] "ValueError.__new__"=true
section
variable {P:Program}{w:World}{K:Frag}{mg:Str->Option Value}{base:Heap}{x q:Str}{st:Stmt}{f C:Addr}{fd:FuncData}{k:Nat}{sp:Sp}
theorem Yu{oc:Value}{od an:Option Addr}{fj:Array (Option Value)}{kV doc pm aT ct:Value}(a:nsIn K mainGlobals x=some (some<|.ref f))(l:K.lookup f=some ⟨oc,od,.func<|fnOf x x (gj st) (cP st) (di st) .none kV doc pm an aT ct,fj⟩)
  (c:codeIn K aT x=true) (k:keepIn K (.ref f)=true):bN K x st:=⟨f,_,a,Ci l c k⟩
theorem Yv{oc:Value}{od an:Option Addr}{fj:Array (Option Value)}{kV doc pm aT ct:Value}(a:findIn K (.ref C) x=some (some<|.ref f))(i:isFn K (.ref f)=true)(l:K.lookup f=some ⟨oc,od,.func<|fnOf x q (gj st) (cP st) (di st) .none kV doc pm an aT ct,fj⟩)
  (c:codeIn K aT q=true) (k:keepIn K (.ref f)=true):eN K C x q st:=⟨f,_,a,i,Ci l c k⟩
theorem Yw{t:Tok}(h:nsIn K mainGlobals x=some (some<|.str y t)):eA K (x,.str y):=⟨_,h,⟨_,rfl⟩⟩
theorem Yx{y:Addr}(h:nsIn K mainGlobals x=some (some<|.ref y)):eA K (x,.ref y):=⟨_,h,rfl⟩
theorem Yy(h:findIn K (.ref C) y=some none):eW K C y:=h
theorem Top.gv{p:Str×V}(Z:Top P w K mg base)(h:eA K p):rA mg p:=by
 obtain⟨u,a,b⟩:=h.ex;exact⟨u,mg_of Z.X Z.G a,b⟩
theorem Top.no(Z:Top P w K mg base)(h:nsIn K mainGlobals x=some none):mg x=none:=mg_none_of Z.X Z.G h
theorem Top.exc{p:Str×Addr}(Z:Top P w K mg base)(h:oj K p):uX mg base p:=VZ Z.X Z.G h.g h.x
structure fJ (P:Program) (w:World) (K:Frag) (mg:Str->Option Value) (base:Heap) (k:Nat) (st:Stmt) (sp:Sp):Prop where
 ok:∀{x q:Str}{f:Addr}{fd:FuncData},k6 K x q st f fd->bZ P w K mg base (dW P w) k f fd (eM st) sp
theorem fJ.or{a b:Sp}(A:fJ P w K mg base k st a)(C:fJ P w K mg base k st b):fJ P w K mg base k st (B.pG a b):=⟨fun F=>(A.ok F).or<|C.ok F⟩
theorem Jk{N P:List Str}{sc:Scope}(a:sc.kind=.function:=by kernel_rfl)(b:sc.isCoroutine=false:=by kernel_rfl)(c:sc.isGenerator=false:=by kernel_rfl)(d:N.Nodup:=by decide+kernel)(e:N.take P.length=P:=by kernel_rfl)(f:∀x∈P,sc.names.lookup x=some .local\/sc.names.lookup x=some .cell:=by decide+kernel)(g:∀y∈sc.names,y.2≠ .free:=by decide+kernel):kU N P sc:=⟨a,b,c,d,e,f,g⟩
theorem dL{N N0 bl:List Str}{tab:List (Str×Sp)}{gt:List (Str×V)}{dk:List (Addr×List (Key×V))}{mt kt:List (Str×Addr×Sp)}{et:List (Str×Addr)}{ht:List (Str×Sp)}{body:List RS}(Z:Top P w K mg base)
  (nj:∀vs H Q E,sp vs H Q E->aC (aJ K tab gt dk mt kt et ht E) body {nx:=fun _ H'=>Q .aD H',rt:=Q} (start N0 vs) H)
  (hm:∀{CX:bE}{Γ:aN}{X:Cx},cz CX (o6 N (di st) (tab.map (·.1)) (gt.map (·.1)) bl (mt.map (·.1)) (kt.map (·.1)) (et.map (·.1)) (ht.map (·.1))) Γ X->cJ X (cP st) (aC Γ body)) (k:Nat)
  (len:∀vs H Q E,sp vs H Q E->vs.length=(eM st).length:=by intro _ _ _ _ h;repeat (first| (obtain⟨rfl,_⟩:=h;kernel_rfl)| (obtain⟨_,h⟩:=h)))
  (yz:∀p∈tab,ju P w K mg base k p.1 p.2:=by repeat (first|exact jF|refine jG (ju.mono (by assumption) (by first|decide|lia)) ?_))
  (nh:∀p∈gt,rA mg p:=by repeat (first|exact jF|refine jG (Top.gv (by assumption) (by assumption)) ?_))
  (ni:∀y∈bl,mg y=none:=by repeat (first|exact jF|refine jG (Top.no (by assumption) (by assumption)) ?_))
  (yA:∀q∈dk,DQ P w K q:=by repeat (first|exact jF|refine jG (by assumption) ?_))
  (yB:∀p∈mt,fD P w K mg base k p:=by repeat (first|exact jF|refine jG (fD.mono (by assumption) (by first|decide|lia)) ?_))
  (yC:∀p∈kt,fE P w K mg base k p:=by repeat (first|exact jF|refine jG (fE.mono (by assumption) (by first|decide|lia)) ?_))
  (het:∀p∈et,uX mg base p:=by repeat (first|exact jF|refine jG (Top.exc (by assumption) (by assumption)) ?_))
  (yD:∀p∈ht,lI P w K mg base k p.1 p.2:=by repeat (first|exact jF|refine jG (lI.mono (by assumption) (by first|decide|lia)) ?_))
  (S:kU N (eM st) (di st):=by exact Jk) (hN:N0.length=N.length:=by kernel_rfl):fJ P w K mg base (k+1) st sp:=
 ⟨fun F=>Qq F S tab gt bl mt kt et ht body hm yz nh ni dk yA yB yC het yD len fun vs H Q E h=>by
  have r:=nj vs H Q E h;unfold start at r⊢;rw[hN] at r;exact r⟩
def Bd(x q:Str)(st:Stmt):Prop:= ∀(kV doc pm:Value) (an:Option Addr) (aT ct:Value) (us:List Value),us.length=(eM st).length->bindArgs (fnOf x q (gj st) (cP st) (di st) .none kV doc pm an aT ct) ⟨us,[]⟩=pure ((eM st).zip us)
theorem Yz(hp:(eM st).length=1)(h:∀(kV doc pm:Value) (an:Option Addr) (aT ct a0:Value),bindArgs (fnOf x q (gj st) (cP st) (di st) .none kV doc pm an aT ct) ⟨[a0],[]⟩=pure ((eM st).zip [a0])):Bd x q st:=fun kV doc pm an aT ct us hl=>by
 have e:=hl.trans hp;rcases us with _|⟨a0,_|⟨_,_⟩⟩ <;>first|exact h kV doc pm an aT ct _|exact absurd e (by simp)
theorem YA(hp:(eM st).length=2)(h:∀(kV doc pm:Value) (an:Option Addr) (aT ct a0 a1:Value),bindArgs (fnOf x q (gj st) (cP st) (di st) .none kV doc pm an aT ct) ⟨[a0,a1],[]⟩=pure ((eM st).zip [a0,a1])):Bd x q st:=fun kV doc pm an aT ct us hl=>by
 have e:=hl.trans hp;rcases us with _|⟨a0,_|⟨a1,_|⟨_,_⟩⟩⟩ <;>first|exact h kV doc pm an aT ct _ _|exact absurd e (by simp)
theorem YB(hp:(eM st).length=3)(h:∀(kV doc pm:Value) (an:Option Addr) (aT ct a0 a1 a2:Value),bindArgs (fnOf x q (gj st) (cP st) (di st) .none kV doc pm an aT ct) ⟨[a0,a1,a2],[]⟩=pure ((eM st).zip [a0,a1,a2])):Bd x q st:=fun kV doc pm an aT ct us hl=>by
 have e:=hl.trans hp;rcases us with _|⟨a0,_|⟨a1,_|⟨a2,_|⟨_,_⟩⟩⟩⟩ <;>first|exact h kV doc pm an aT ct _ _ _|exact absurd e (by simp)
theorem YC(hp:(eM st).length=4)(h:∀(kV doc pm:Value) (an:Option Addr) (aT ct a0 a1 a2 a3:Value),bindArgs (fnOf x q (gj st) (cP st) (di st) .none kV doc pm an aT ct) ⟨[a0,a1,a2,a3],[]⟩=pure ((eM st).zip [a0,a1,a2,a3])):Bd x q st:=fun kV doc pm an aT ct us hl=>by
 have e:=hl.trans hp;rcases us with _|⟨a0,_|⟨a1,_|⟨a2,_|⟨a3,_|⟨_,_⟩⟩⟩⟩⟩ <;>first|exact h kV doc pm an aT ct _ _ _ _|exact absurd e (by simp)
theorem YD(hp:(eM st).length=5)(h:∀(kV doc pm:Value) (an:Option Addr) (aT ct a0 a1 a2 a3 a4:Value),bindArgs (fnOf x q (gj st) (cP st) (di st) .none kV doc pm an aT ct) ⟨[a0,a1,a2,a3,a4],[]⟩=pure ((eM st).zip [a0,a1,a2,a3,a4])):Bd x q st:=fun kV doc pm an aT ct us hl=>by
 have e:=hl.trans hp;rcases us with _|⟨a0,_|⟨a1,_|⟨a2,_|⟨a3,_|⟨a4,_|⟨_,_⟩⟩⟩⟩⟩⟩ <;>first|exact h kV doc pm an aT ct _ _ _ _ _|exact absurd e (by simp)
theorem wj(hb:Bd x q st:=by first|exact Yz (by kernel_rfl) fun _ _ _ _ _ _ _=>rfl|exact YA (by kernel_rfl) fun _ _ _ _ _ _ _ _=>rfl|exact YB (by kernel_rfl) fun _ _ _ _ _ _ _ _ _=>rfl|exact YC (by kernel_rfl) fun _ _ _ _ _ _ _ _ _ _=>rfl|exact YD (by kernel_rfl) fun _ _ _ _ _ _ _ _ _ _ _=>rfl|exact aad (by kernel_rfl) fun _ _ _ _ _ _ _ _ _ _ _ _=>rfl|exact aae (by kernel_rfl) fun _ _ _ _ _ _ _ _ _ _ _ _ _=>rfl|exact aaf (by kernel_rfl) fun _ _ _ _ _ _=>rfl):Bd x q st:=hb
theorem dT(Z:Top P w K mg base)(D:bN K x st)(R:fJ P w K mg base k st sp)(hb:Bd x x st:=by exact wj):ju P w K mg base k x sp:=by
 obtain⟨f,fd,a,F⟩:=D;exact⟨f,fd,_,R.ok F,mg_of Z.X Z.G a,F.kp,F.binds hb⟩
theorem dM(D:eN K C x q st)(c:eV K C)(R:fJ P w K mg base k st sp)(hb:Bd x q st:=by exact wj):fD P w K mg base k (x,C,sp):=by
 obtain⟨f,fd,a,i,F⟩:=D;exact⟨c,f,fd,_,⟨a,i,F.kp⟩,R.ok F,F.binds hb⟩
theorem dI{cn:Str}(Z:Top P w K mg base)(D:eN K C "__init__" q st)(M:wg K cn C)(R:fJ P w K mg base k st sp)(hb:Bd "__init__" q st:=by exact wj):fE P w K mg base (k+1) (cn,C,sp):=by
 obtain⟨f,fd,a,i,F⟩:=D;exact⟨k,f,fd,_,zqR _,⟨M.m,a,i,M.k⟩,R.ok F,mg_of Z.X Z.G M.g,F.binds hb⟩
theorem dH{N N0 bl:List Str}{gt:List (Str×V)}{body:List RS}(Z:Top P w K mg base)(D:bN K x st)
  (nj:∀vs H Q,sp vs H Q E0->aC (aJ K [] gt) body {nx:=fun _ H'=>Q .aD H',rt:=Q} (start N0 vs) H)
  (hm:∀{CX:bE}{Γ:aN}{X:Cx},cz CX (o6 N (di st) [] (gt.map (·.1)) bl (md:=1)) Γ X->cJ X (cP st) (aC Γ body)) (k:Nat)
  (len:∀vs H Q E,sp vs H Q E->vs.length=(eM st).length:=by intro _ _ _ _ h;repeat (first| (obtain⟨rfl,_⟩:=h;kernel_rfl)| (obtain⟨_,h⟩:=h)))
  (nh:∀p∈gt,rA mg p:=by repeat (first|exact jF|refine jG (Top.gv (by assumption) (by assumption)) ?_))
  (ni:∀y∈bl,mg y=none:=by repeat (first|exact jF|refine jG (Top.no (by assumption) (by assumption)) ?_))
  (S:kU N (eM st) (di st):=by exact Jk) (hb:Bd x x st:=by exact wj) (hN:N0.length=N.length:=by kernel_rfl):lI P w K mg base (k+1) x sp:=by
 obtain⟨f,fd,a,F⟩:=D;exact Qr F S (mg_of Z.X Z.G a) (F.binds hb) gt bl body hm nh ni len fun vs H Q h=>by
  have r:=nj vs H Q h;unfold start at r⊢;rw[hN] at r;exact r
theorem fD.l{a b:Sp}(T:fD P w K mg base k (x,C,B.pG a b)):fD P w K mg base k (x,C,a):=T.weak fun _ _ _ _ h=>.inl h
theorem fD.r{a b:Sp}(T:fD P w K mg base k (x,C,B.pG a b)):fD P w K mg base k (x,C,b):=T.weak fun _ _ _ _ h=>.inr h
theorem fE.l{a b:Sp}(T:fE P w K mg base k (x,C,B.pG a b)):fE P w K mg base k (x,C,a):=T.weak fun _ _ _ _ h=>.inl h
theorem fE.r{a b:Sp}(T:fE P w K mg base k (x,C,B.pG a b)):fE P w K mg base k (x,C,b):=T.weak fun _ _ _ _ h=>.inr h
theorem YE{h:Heap}{fa:Addr}(X:K.In h)(G:h.Ns mainGlobals mg)(AM:mg x=some (.ref fa))(D:bN K x st)
  (R:∀base,Top P w K mg base->fJ P w K mg base k st sp) (hp:eM st=[y]:=by kernel_rfl)
  (hb:∀(kV doc pm:Value) (an:Option Addr) (aT ct a0:Value),bindArgs (fnOf x x (gj st) (cP st) (di st) .none kV doc pm an aT ct) ⟨[a0],[]⟩=pure [(y,a0)]:=by exact fun _ _ _ _ _ _ _=>rfl):
  ∃fd:FuncData,(∀(s:Shared) (v:Value),BindsTo s fd ⟨[v],[]⟩ [(y,v)])/\∀base:Heap,K.In base->base.Ns mainGlobals mg->bZ P w K mg base qz k fa fd [y] (fun vs H Q _=>sp vs H Q E0):=by
 obtain⟨f,fd,e,F⟩:=D;cases AM.symm.trans (mg_of X G e);have F':=F;obtain⟨oc,od,kV,doc,pm,an,aT,ct,fj,rfl,lk,gf⟩:=F'.ex;refine⟨_,fun s v=>.of_eq<|hb kV doc pm an aT ct v,fun base X2 G2=>?_⟩;have r:=(R base ⟨X2,G2⟩).ok F;rw[hp] at r;exact bZ.top r
def Jl(K:Frag)(cs:List Addr)(bH D:Addr)(j:Nat):Bool:=(cs.zipIdx.all fun c=>kitOne K (.ref D) (.ref c.1)==some (decide<|c.2=j)) && kitOne K (.ref D) (.ref bH)==some true && kitOne K (.ref D) (.type "ValueError")==some true
structure qc (K:Frag) (cs:List Addr) (bH D:Addr) (j:Nat):Prop where
 c:oM K D
 b:Jl K cs bH D j=true
 x:exmOne K (.ref D) (.ref bH)=some true
theorem qc.AN{cs:List Addr}{bH D:Addr}(h:qc K cs bH D j):B.ku K cs bH D j:=by
 have b:=h.b
 simp only[Jl,zac,beq_iff_eq,zbc] at b
 refine⟨h.c,fun i c e=>b.1.1 (c,i) ?_,b.1.2,b.2⟩;rw[List.mem_zipIdx_iff_getElem?];exact e
end
end L2
namespace L2.ny
open PySem PySem.Spec PyProof.Rows L2.B
theorem all_mk{P:Program}{w:World}{K:Frag}{h:Heap}{mg:Str->Option Value}{fa qd gX sW sX om oo i9 l_ ma sY sZ s_ tj tm tq tu AO:Addr}(X:K.In h)(G:h.Ns mainGlobals mg)(AM:mg "law"=some (.ref fa))
  {YF:Nat}{YG YH:Tok}
  (aag:eA K ("InkError",.ref sW))
  (aah:eA K ("BadText",.ref sX))
  (aai:eA K ("BadChange",.ref om))
  (aaj:eA K ("BadFit",.ref oo))
  (aak:eA K ("NoPlace",.ref i9))
  (aal:eA K ("BadSide",.ref l_))
  (aam:eA K ("NoMark",.ref ma))
  (aan:eA K ("NoNode",.ref sY))
  (aao:eA K ("NoCursor",.ref sZ))
  (aap:eA K ("BadDeed",.ref s_))
  (aaq:eA K ("BadLetter",.ref tj))
  (aar:eA K ("NoLetter",.ref tm))
  (aas:eA K ("NoHand",.ref tq))
  (aat:eA K ("NoNote",.ref tu))
  (YI:wg K "Track" qd)
  (YJ:wg K "Marks" gX)
  (kJ:lN K qd)
  (eO:jw K gX)
  (aau:oj K ("BadChange",om))
  (aav:oj K ("BadFit",oo))
  (aaw:oj K ("NoPlace",i9))
  (aax:oj K ("BadSide",l_))
  (aay:oj K ("NoMark",ma))
  (Jm:qc K [sX,om,oo,i9,l_,ma,sY,sZ,s_,tj,tm,tq,tu] sW i9 3)
  (Jn:qc K [sX,om,oo,i9,l_,ma,sY,sZ,s_,tj,tm,tq,tu] sW l_ 4)
  (Jo:qc K [sX,om,oo,i9,l_,ma,sY,sZ,s_,tj,tm,tq,tu] sW ma 5)
  (a0:bN K "is_whole" E5)
  (a1:bN K "is_between" E6)
  (a2:bN K "is_word" E7)
  (a3:bN K "is_text" E8)
  (a4:bN K "is_part" E9)
  (a5:bN K "may_follow" E_)
  (a6:bN K "need_change" Fb)
  (a7:bN K "many_upto" Fc)
  (a8:bN K "need_side" Fd)
  (a9:eN K qd "__init__" "Track.__init__" Fe)
  (YK:eN K qd "to_left" "Track.to_left" Ff)
  (YL:eN K qd "to_right" "Track.to_right" Fg)
  (YM:eN K qd "lead" "Track.lead" Fh)
  (YN:bN K "moved" Fi)
  (YO:eN K gX "__init__" "Shelf.__init__" Fj)
  (YQ:eN K gX "keep" "Shelf.keep" Fm)
  (YR:eN K gX "stand" "Shelf.stand" Fn)
  (YS:eN K gX "drop" "Shelf.drop" Fp)
  (YT:eN K gX "numbers" "Shelf.numbers" Fs)
  (YU:eN K gX "size" "Shelf.size" Ft)
  (YV:eN K gX "changed" "Shelf.changed" Fu)
  (YW:eN K gX "add" "Marks.add" Fv)
  (YX:eN K gX "place" "Marks.place" Fx)
  (YY:eN K gX "side" "Marks.side" Fz)
  (YZ:eN K gX "within" "Marks.within" FC)
  (Y0:bN K "_law_cell_at" FE)
  (Y1:bN K "_law_whole" FF)
  (Y2:bN K "_law_mixed" FG)
  (Y3:bN K "_law_text" FH)
  (Y4:bN K "_law_size" FI)
  (Y5:bN K "_law_parts" FJ)
  (Y6:bN K "_law_neat" FK)
  (Y7:bN K "_law_change" FL)
  (Y8:bN K "_law_done" FN)
  (Y9:bN K "_law_word" ez)
  (Y_:bN K "_law_place" FQ)
  (Za:bN K "_law_odd" ke)
  (Zb:bN K "_law_told" FU)
  (Zc:bN K "_law_refused" dq)
  (Zd:bN K "_law_within" FX)
  (Ze:bN K "_law_places" F0)
  (Zf:bN K "_law_asked" F3)
  (Zg:bN K "_law_stands" F5)
  (Zh:bN K "_law_kept" rM)
  (Zi:bN K "_law_added" F8)
  (Zj:bN K "_law_deed" dN)
  (Zk:bN K "law" cT)
  (aaz:eA K ("SIGNS",.str SG))
  (aaA:eA K ("SIDES",.ref AO))
  (Zl:K.lookup AO=some ⟨.type "tuple",none,.seq #[.str "left" YG,.str "right" YH] YF,#[]⟩)
  (aaB:nsIn K mainGlobals "ValueError"=some none)
  (aaC:nsIn K mainGlobals "all"=some none)
  (aaD:nsIn K mainGlobals "bool"=some none)
  (aaE:nsIn K mainGlobals "int"=some none)
  (aaF:nsIn K mainGlobals "isinstance"=some none)
  (aaG:nsIn K mainGlobals "len"=some none)
  (aaH:nsIn K mainGlobals "list"=some none)
  (aaI:nsIn K mainGlobals "max"=some none)
  (aaJ:nsIn K mainGlobals "min"=some none)
  (aaK:nsIn K mainGlobals "range"=some none)
  (aaL:nsIn K mainGlobals "sorted"=some none)
  (aaM:nsIn K mainGlobals "str"=some none)
  (aaN:nsIn K mainGlobals "tuple"=some none)
  :∃fd:FuncData,(∀(s:Shared) (v:Value),BindsTo s fd ⟨[v],[]⟩ [("_law_script",v)])/\∀base:Heap,K.In base->base.Ns mainGlobals mg->bZ P w K mg base qz 9 fa fd ["_law_script"] (fun vs H Q _=>(wc K) vs H Q E0):=by
 have Zm:Hn K AO SD:=fun _=>.inr ⟨_,_,_,Zl,rfl,rfl,dw,(.cons ⟨_,rfl⟩<|.cons ⟨_,rfl⟩ .nil)⟩;have Zn:=Jm.AN;have Zo:=Jm.x;have Zp:=Jn.AN;have Zq:=Jn.x;have Zr:=Jo.AN;have Zs:=Jo.x;refine YE X G AM Zk fun base Z=>?_;have T0:=dT Z a0 (dL Z VA @Rx 0);have T1:=dT Z a1 (dL Z V3 @Ry 1);have aaO:=T1.weak (a:=zL) fun _ _ _ _ h=>V4 h;have T2:=dT Z a2 (dL Z VC @Rz 0);have T3:=dT Z a3 (dL Z VB @RA 0);have T4:=dT Z a4 (dL Z VE @RB 1);have aaP:=T4.weak (a:=zm) fun _ _ _ _ h=>VG h;have T5:=dT Z a5 (dL Z TC @RC 0);have T6:=dT Z a6 (dL Z (TU (et:=[("BadChange",om)])) @RD 2);have T7:=dT Z a7 (dL Z Vl @RF 0);have T8:=dT Z a8 (dL Z (V5 Zm) @RG 1);have aaQ:=T8.weak (a:=zK) fun _ _ _ _ h=>V6 h;have T9:=dI Z a9 YI (dL Z (Ve kJ) @RH 3);have T10:=dM YK kJ.cl (dL Z (Vq kJ) @RJ 1);have T11:=dM YL kJ.cl (dL Z (Vs kJ) @RK 1);have T12:=dM YM kJ.cl (dL Z (Vt kJ) @RL 2);have T13:=dT Z YN (dL Z (Vv (et:=[("NoPlace",i9)]) kJ) @RM 5);have Jp:=dI Z YO YJ (fJ.or (dL Z (N.Wi (CP:=i9) eO) @Fl 1)<|dL Z Xf @Fl 1);have aaV:=Jp.r;have aaW:=Jp.l;have T15:=dM YQ eO.cl (dL Z (N.Wk eO) @RN 0);have Jq:=dM YR eO.cl (fJ.or (dL Z (N.Wn (CM:=ma) eO) @Fo 1)<|dL Z (Xg eO) @Fo 1);have aaY:=Jq.l;have aaZ:=Jq.r;have Jr:=dM YS eO.cl (fJ.or (dL Z (W_ eO) @Fq 2)<|dL Z Xh @Fq 2);have aa0:=Jr.r;have aa1:=Jr.l;have T18:=dM YT eO.cl (dL Z (N.Wq eO) @RO 0);have T19:=dM YU eO.cl (dL Z (N.Wj eO) @RP 0);have T20:=dM YV eO.cl (dL Z (N.WA (CF:=oo) eO kJ) @RQ 5);have Js:=dM YW eO.cl (fJ.or (dL Z (N.WI (CP:=i9) (CS:=l_)) @Fw 2)<|dL Z Xk @Fw 2);have aa5:=Js.r;have aa6:=Js.l;have Jt:=dM YX eO.cl (fJ.or (dL Z N.WJ @Fy 2)<|dL Z Xi @Fy 2);have aa7:=Jt.l;have aa8:=Jt.r;have Ju:=dM YY eO.cl (fJ.or (dL Z N.WK @FA 2)<|dL Z Xj @FA 2);have aa9:=Ju.r;have aa_:=Ju.l;have Jv:=dM YZ eO.cl (fJ.or (dL Z (Xd (CP:=i9)) @FD 3)<|dL Z Xl @FD 3);have aba:=Jv.r;have abb:=Jv.l;have T25:=dT Z Y0 (dL Z TF @RV 0);have T26:=dT Z Y1 (dL Z Wu @RW 0);have T27:=dT Z Y2 (dL Z TH @RX 0);have T28:=dT Z Y3 (dL Z Ui @RY 1);have T29:=dT Z Y4 (dL Z UZ @RZ 0);have T30:=dT Z Y5 (dL Z WL @R0 2);have T31:=dT Z Y6 (dL Z Uu @R1 0);have T32:=dT Z Y7 (dL Z WW @R3 3);have T33:=dT Z Y8 (dL Z VX @R4 0);have T34:=dH (sp:=vK K [sX,om,oo,i9,l_,ma,sY,sZ,s_,tj,tm,tq,tu] sW) Z Y9 VU @Se 0;have T35:=dT Z Y_ (dL Z XA @Sf 1);have T36:=dT Z Za (dL Z XB @Sj 1);have T37:=dT Z Zb (dL Z (Xm Zn Zp Zr Zo Zq Zs) @Sn 4);have T38:=dT Z Zc (dL Z XH @SA 5);have T39:=dT Z Zd (dL Z Xr @SI 4);have T40:=dT Z Ze (dL Z Xw @SN 5);have T41:=dT Z Zf (dL Z Xy @SS 6);have T42:=dT Z Zg (dL Z Xz @SW 7);have T43:=dT Z Zh (dL Z XQ @SY 4);have T44:=dT Z Zi (dL Z XY @S_ 3);have T45:=dT Z Zj (dL Z X6 @Tj 6);exact dL Z Yq @Tz 8
theorem walk{l:PySem.W.OpenLaw}{q:Program}{loose:List Str}{XP:(Str->Option Value)->Heap->Prop}{YP:World->Heap->Prop}{d:DefRec}{K:Params->Frag}(hn:l.most=some 63)(qw:d.params.defaults=[])
  (hY:∀(w:World) (h:Heap),YP w h->(K w.params).In h)
  (F:∀(w:World) (mg:Str->Option Value) (fa:Addr) (h:Heap),(K w.params).In h->h.Ns mainGlobals mg->mg d.name=some (.ref fa)->
   ∃fd:FuncData,(∀(s:Shared) (u:Value),BindsTo s fd ⟨[u],[]⟩ [("_law_script",u)])/\∀base:Heap,(K w.params).In base->base.Ns mainGlobals mg->bZ l.prog w (K w.params) mg base qz 9 fa fd ["_law_script"] ((fun K=>(fun vs H Q _=>(wc K) vs H Q E0)) (K w.params))):
  PySem.W.WalkO q loose XP YP l.row.toRowW d [] (fun f vs=>PySem.call f vs):=
 L2.Mu (n:=63) (k:=9) (x:="_law_script") (CX:=fun _=>qz) (sp:=fun w=>(fun K=>(fun vs H Q _=>(wc K) vs H Q E0)) (K w.params)) hn (by decide) qw ⟨rfl,by decide,by decide⟩ hY F (fun _ _ a ns hl _ hS=>⟨a,ns,rfl,hS,fun _=>rfl⟩) fun _ _ _ _ _ z=>z
end L2.ny
namespace PySem.W.Fast
def tw17632440746246765946:=()
def tw14192270221775340684:=()
def tw13288938476978947846:=()
def tw5128486642858068662:=()
def tw15443471847987064854:=()
def tw5563539007885640859:=()
def tw3044485284555011050:=()
def tw17284977671744116989:=()
def tw10844698164755516493:=()
def tw16820364348042713239:=()
def tw15137592496746726324:=()
def tw9453983892425257217:=()
def tw14341750116532736828:=()
def tw4053636537325426980:=()
def tw12233316785622602150:=()
def tw5416972683342288957:=()
def tw8604036549065667900:=()
def tw16486426507526631493:=()
def tw11363394334197404940:=()
def tw2871175755246377112:=()
def tw7965536900648776288:=()
def tw10156083313160248392:=()
def tw18197594343404625187:=()
def tw11338852359692401832:=()
def tw18209489307327048700:=()
def tw11569050701758023970:=()
def tw2664191095501441015:=()
def tw18181958199894224522:=()
def tw17056803378002564142:=()
def tw17157136261200645311:=()
def tw6343222654484212867:=()
def tw10230860414341318347:=()
def tw8645403957588536494:=()
def tw6342784440376126617:=()
def tw11248474475983159191:=()
def tw18355643758239372606:=()
def tw728744804235898177:=()
def tw14426013231140741644:=()
def tw13495284060844121003:=()
def tw7264136569128439748:=()
def tw16119870069093829790:=()
def tw2581520783528525037:=()
def tw16421770920895390476:=()
def tw8585135184439500590:=()
def tw1966292864554441090:=()
def tw2051857961406171945:=()
def tw14505865112684160424:=()
def tw10532759945520719686:=()
def tw10838911299914024700:=()
def tw9759639707976975005:=()
def tw15994299578669893301:=()
def tw8159075466034008704:=()
def tw15684604121552814587:=()
def tw9654441141560322166:=()
def tw5838779629168784894:=()
def tw13236721430099600879:=()
def tw15334408871096319289:=()
def tw3453271368034936731:=()
def tw6656821207961261687:=()
def tw8756636826854964908:=()
def tw604965094180680815:=()
def tw4722968293403133478:=()
def tw2854047041744091134:=()
def tw6269076974608904296:=()
def tw11993369364928305709:=()
def tw8095555282661481070:=()
def tw17349528916690716883:=()
def tw14608809707755716188:=()
def tw4490533908980126391:=()
def tw14806728851752874233:=()
def tw13900580227125455003:=()
def tw10079838248934877097:=()
def tw16161439812225780555:=()
def tw12239727407356153209:=()
def tw11667422072289934785:=()
def tw8999231042012500410:=()
def tw10874606212975168676:=()
def tw9320499077046182467:=()
def tw7920019125161908618:=()
def tw14005464139958729580:=()
def tw16311684053738426800:=()
def tw15234380000262789252:=()
def tw16029379061209706983:=()
def tw3303619635877099588:=()
def tw4192684425368823879:=()
def tw16680388858024063548:=()
def tw2449525143324903743:=()
def tw17507095946679676898:=()
def tw14208767751957351863:=()
def tw13027997340113227091:=()
def tw7818275023016456745:=()
def tw6641687628132453943:=()
def tw13404638236904001027:=()
def tw648596200262031708:=()
def tw832512649362055866:=()
def tw7346512929663879971:=()
def tw17409051447988711134:=()
def tw7750993835163347517:=()
def tw14749726624394663588:=()
def tw10226489736658261176:=()
def tw8510979902389548165:=()
def tw3360110720235586493:=()
def tw13246274991328829069:=()
def tw7981137200396496811:=()
def tw8993041230719185703:=()
def tw16457634922682115730:=()
def tw13878579290519058975:=()
def tw7684381558440511073:=()
def tw1166709814441451977:=()
def tw11524732743388241273:=()
def tw3833861517342064896:=()
def tw4625968089061848143:=()
def tw5635724441238980275:=()
def tw3352180488681789553:=()
def tw4921612205994031619:=()
def tw14882740214766669522:=()
def tw16418220471204155714:=()
def tw620426376982438397:=()
def tw1963007582106732101:=()
def tw12419399624986980796:=()
def tw14928745474946342735:=()
def tw18184601222434659805:=()
def tw11368599161855897420:=()
def tw10662828651520022880:=()
def tw3148760417957501510:=()
def tw4502789541589205696:=()
def tw7037567532903911092:=()
def tw6394947261277079243:=()
def tw2781766044609862205:=()
def tw7576180430731283566:=()
def tw12501404080884883686:=()
def tw15639425202580699681:=()
def tw1577208655427923842:=()
def tw14195117634028201906:=()
def tw14477106488560450903:=()
def tw15493974454718396188:=()
def tw6145989133555133650:=()
def tw12680959582895186238:=()
def tw6472703627546548758:=()
def tw9839509136895797739:=()
def tw15656721528542077356:=()
def tw2193921122835147917:=()
def tw11161279542433159173:=()
def tw10730255613363155144:=()
def tw10365332821677723162:=()
def tw5117236818112718810:=()
def tw15384075424697469529:=()
def tw13813078537480468805:=()
def tw784351838002990703:=()
def tw11506540422452874115:=()
def tw2989657920326860444:=()
def tw17558134690222500819:=()
def tw8448186975591481654:=()
def tw15041067120278268048:=()
def tw12848980430949929821:=()
def tw1276202530581588123:=()
def tw4312999734462378108:=()
def tw8470317377947276479:=()
def tw17895239260843552846:=()
def tw8606772423969845536:=()
def tw2574779549741905773:=()
def tw12068867224310282582:=()
def tw10321244015781270699:=()
def tw7063885235628341979:=()
def tw9177994196729049994:=()
def tw9159584171620351211:=()
def tw12684512593626356966:=()
def tw7751687636262820944:=()
def tw4114325326581839799:=()
def tw10467616278368496378:=()
def tw4889087926959799207:=()
def tw12261152034320265011:=()
def tw18362407577911321867:=()
def tw1867825968947928185:=()
def tw13898820083685361904:=()
def tw6691462351807645201:=()
def tw4088599332367690733:=()
def tw16897188554627669624:=()
def tw14095911823412497890:=()
def tw6657504692327400988:=()
def tw12974599863381538560:=()
def tw11126052771926906675:=()
def tw9873553471792523341:=()
def tw15669626122425042569:=()
def tw16793048354062420934:=()
def tw15591921609351504649:=()
def tw16493766864607960035:=()
def tw2316764752008215025:=()
def tw15957118806150592204:=()
def tw5677353553778486993:=()
def tw13274256979272004523:=()
def tw9462834088385539160:=()
def tw4601745237374227316:=()
def tw12930581160330344620:=()
def tw7604569169226505275:=()
def tw12855246639651978014:=()
end PySem.W.Fast
open PySem PySem.W PyProof.Rows
set_option maxRecDepth 100000 in
set_option maxHeartbeats 0 in
theorem PySem.Challenge.cw_inkloom_k20_marks_found_holds : PySem.Challenge.rw_inkloom_k20_marks_found.Holds := by
 w_on;o_law;k_head;(case hw=>w_witness2)
 k_fill
 refine L2.ny.walk (l:=PySem.Challenge.rw_inkloom_k20_marks_found) rfl rfl (fun w h Y=>PySem.W.kIn_of Y) ?F
 case F=>
  intro w mg fa h KX G jT
  refine' L2.ny.all_mk KX G jT ..
  all_goals try first | refine' L2.Yu .. | refine' L2.Yx .. | refine' L2.wg.mk .. | refine' L2.Yv .. | refine' L2.aby .. | refine' L2.Yw .. | refine' L2.oj.mk .. | refine' L2.qc.mk (L2.oM.mk ..) .. | refine' L2.B.lN.mk (L2.eV.mk ..) .. | refine' L2.B.jw.mk (L2.eV.mk ..) ..
  all_goals try refine' L2.Yy ..
  all_goals try first | k_is | k_exc | kernel_rfl
