import PyProof.Rows.All
import Wide.All
import OpenK.AllK
import Wide.FinOn
import Lean
import PyProof.EqAt
import PyProof.EqKinds
import PyProof.TupleCall
import PyProof.Rows.EqDataRows
import PyProof.DictList
import PyProof.FactsAll.dict_1
import PyProof.FactsAll.subtypes_4
import KE.KTryMore
import PyProof.WalksEnum
import PyProof.EnumMake
import PyProof.ListStr
import PyProof.TupleOfStr
import PyProof.Dict
import PyProof.ToksMono
import PyProof.StrCalls6
import PyProof.StrWalks
import PyProof.ConsumeWalk
import PyProof.CallStr
import PyProof.MeetsStr
import KE.KIntText
import PyProof.StrCalls2
import PyProof.StrOps2
import KE.KSortTup
import PyProof.WalksMore
import PyProof.TupleIter
import PyProof.SliceList
import PyProof.ListRange
import KE.KRevIter
import PyProof.StrLawsIn
import PyProof.Rows.StrCut
import PyProof.ZipIter
import PyProof.ListNew
import PyProof.StrLaws
import PySem.Challenge.RW_inkloom_k23_the_tree_by_plain_rows
set_option Elab.async false
set_option linter.all false
set_option maxRecDepth 100000
set_option compiler.extract_closed false
noncomputable section
theorem Ez:0≤PySem.sizeLine:=by decide
theorem dw:1≤PySem.sizeLine:=by decide
theorem eJ:2≤PySem.sizeLine:=by decide
theorem EA:4≤PySem.sizeLine:=by decide
theorem OQ:5≤PySem.sizeLine:=by decide
theorem OR:6≤PySem.sizeLine:=by decide
theorem OS:8≤PySem.sizeLine:=by decide
open PySem.W (Frag InstAt callWith_K cellsFrom_some codeRec_of emptyDict exmOne handedIn hasDictIn hideAll hideAll_get instObj kia_one kitOne kitx_dict kitx_list lookIn makesIn methodObj nsIn of_hideAll plainGet plainGet_of plainOver takerIn)
theorem zqT{p:Prop}[Decidable p](h:p):decide p=true:=decide_eq_true h
theorem zqF{p:Prop}[Decidable p](h: ¬p):decide p=false:=decide_eq_false h
theorem zqA{α:Type}{a b:List α}:(a++b).length=a.length+b.length:=List.length_append
theorem zqR(n:Nat):n≤n:=Nat.le_refl n
theorem zqZ(n:Nat):0≤n:=Nat.zero_le n
def zaa:=@List.mem_append
def zab:=@List.length_map
def zac:=@List.mem_cons
def zad:=@List.mem_singleton
def zae:=@List.append_nil
def zaf:=@Bool.and_eq_true
def zag:=@List.size_toArray
def zah:=@List.append_assoc
def zai:=@List.getElem?_map
def zaj:=@List.not_mem_nil
def zak:=@List.mem_of_getElem?
def zal:=@List.getElem?_eq_some_iff
def zam:=@List.map_append
def zan:=@Nat.lt_of_lt_of_le
def zao:=@Option.some.inj
def zap:=@Nat.ne_of_lt
def zaq:=@List.length_cons
def zar:=@List.getElem?_eq_getElem
def zas:=@List.mem_cons_of_mem
def zat:=@List.mem_cons_self
def zau:=@List.mem_append_right
def zav:=@Bool.false_ne_true
def zaw:=@List.getElem?_append_left
def zax:=@List.map_cons
def zay:=@Nat.le_trans
def zaz:=@Nat.lt_irrefl
def zaA:=@List.mem_append_left
def zaB:=@List.length_drop
def zaC:=@List.reverse_cons
def zaD:=@Nat.ne_of_gt
def zaE:=@List.length_take
def zaF:=@Int.emod_nonneg
def zaG:=@List.take_of_length_le
def zaH:=@List.length_eq_zero_iff
def zaI:=@Nat.le_succ
def zaJ:=@List.length_reverse
def zaK:=@List.getElem?_set_ne
def zaL:=@List.nodup_cons
def zaM:=@Bool.false_xor
def zaN:=@List.find?_cons
def zaO:=@Bool.not_eq_true'
def zaP:=@List.reverse_append
def zaQ:=@Int.emod_lt_of_pos
def zaR:=@List.length_singleton
def zaS:=@Bool.true_xor
def zaT:=@Int.le_refl
def zaU:=@List.reverse_reverse
def zaV:=@Bool.false_eq_true
def zaW:=@Nat.le_add_right
def zaX:=@List.all_eq_true
def zaY:=@List.mem_map
def zaZ:=@List.cons.inj
def zba:=@List.getElem?_append_right
def zbb:=@Int.toNat_natCast
def zbc:=@List.map_nil
def zbd:=@List.length_set
def zbe:=@List.nil_append
def zbf:=@List.length_nil
def zbg:=@List.lookup_cons
def zbh:=@List.map_map
def zbi:=@List.cons_append
def zbj:=@Bool.or_false
def zbk:=@List.all_cons
def zbl:=@Option.map_eq_some_iff
def zbm:=@Array.getElem?_eq_getElem
def zbn:=@List.drop_zero
def zbo:=@List.map_congr_left
def zbp:=@List.take_add_one
def zbq:=@Nat.sub_self
def zbr:=@List.drop_eq_getElem_cons
def zbs:=@List.mem_reverse
def zbt:=@List.getElem?_set
def zbu:=@Nat.le_of_lt
def zbv:=@List.mem_filterMap
def zbw:=@Nat.le_of_eq
def zbx:=@Option.isSome_iff_exists
def zby:=@List.any_cons
def zbz:=@List.replicate_succ
def zbA:=@List.take_length
def zbB:=@List.filterMap_map
def zbC:=@List.getElem?_cons_succ
def zbD:=@List.filter_append
def zbE:=@List.length_filter_le
def zbF:=@List.take_append_drop
def zbG:=@List.sum_cons
def zbH:=@List.take_nil
def zbI:=@List.mem_of_mem_drop
def zbJ:=@Int.natCast_add
def zbK:=@List.map_set
def zbL:=@List.mem_range
def zbM:=@List.filterMap_cons
def zbN:=@Bool.eq_iff_iff
def zbO:=@Nat.lt_succ_self
def zbP:=@List.of_mem_zip
def zbQ:=@List.flatten_cons
def zbR:=@List.foldl_cons
def zbS:=@Option.map_some
def zbT:=@Nat.lt_succ_of_lt
def zbU:=@List.length_range
def zbV:=@List.sum_append
def zbW:=@List.take_left
def zbX:=@List.drop_length
def zbY:=@List.drop_of_length_le
def zbZ:=@List.getLast?_concat
def zca:=@List.mem_iff_getElem?
def zcb:=@List.getElem?_zip_eq_some
def zcc:=@List.getElem?_set_self
def zcd:=@Array.length_toList
def zce:=@List.length_replicate
def zcf:=@List.length_dropLast
def zcg:=@Option.ne_none_iff_exists'
def zch:=@List.filterMap_cons_some
def zci:=@List.getElem?_eq_none
def zcj:=@List.getLast?_append
def zck:=@List.mem_of_mem_tail
def zcl:=@List.mem_of_mem_take
def zcm:=@List.eq_nil_of_length_eq_zero
namespace L2
open PySem PySem.Spec PyProof.Rows
abbrev Key:=Sum Int Str
def rz:Key->Value->Bool
 |.inl k,v=>Value.isInt k v
 |.inr x,v=>Value.isStrOf x v
def OT(w:World):Key->Int
 |.inl k=>hashInt k
 |.inr x=>hashStr w x
theorem ma:∀{k:Key}{v:Value},rz k v=true->(∃i t,k=Sum.inl i/\v=Value.int i t)\/(∃x t,k=Sum.inr x/\v=Value.str x t)
 |.inl i,v,h=>by
  obtain⟨t,e⟩:=Value.isInt_shape (k:=i) (v:=v) h;exact .inl ⟨i,t,rfl,e⟩
 |.inr x,v,h=>by
  obtain⟨t,e⟩:=Value.isStrOf_shape (x:=x) (v:=v) h;exact .inr ⟨x,t,rfl,e⟩
theorem OU(i:Int)(t:Tok):rz (.inl i) (.int i t)=true:=by simp[rz,Value.isInt]
theorem OV(x:Str)(t:Tok):rz (.inr x) (.str x t)=true:=by simp[rz,Value.isStrOf]
theorem OW(a b:Int):decide ((Sum.inl a:Key)=Sum.inl b)=(a==b):=by
 by_cases e:a=b
 ·subst e;simp
 ·have h:¬(Sum.inl a:Key)=Sum.inl b:=fun q=>e (Sum.inl.inj q);rw[zqF h];exact(beq_eq_false_iff_ne.mpr e).symm
theorem OX(a b:Str):decide ((Sum.inr a:Key)=Sum.inr b)=decide (a=b):=by
 by_cases e:a=b
 ·subst e;simp
 ·have h:¬(Sum.inr a:Key)=Sum.inr b:=fun q=>e (Sum.inr.inj q);rw[zqF h,zqF e]
theorem OY(a:Int)(b:Str):decide ((Sum.inl a:Key)=Sum.inr b)=false:=zqF (fun q=>nomatch q)
theorem OZ(a:Str)(b:Int):decide ((Sum.inr a:Key)=Sum.inl b)=false:=zqF (fun q=>nomatch q)
def dS(prog:Program)(w:World):PySem.KeyKind prog w Key where
 is:=rz
 hash:=OT w
 inj:=fun v a b ha hb=>by
  rcases ma ha with⟨i,t,rfl,rfl⟩|⟨x,t,rfl,rfl⟩
  ·rcases ma hb with⟨j,u,rfl,e⟩|⟨y,u,rfl,e⟩
   ·injection e with e1 _;rw[e1]
   ·exact nomatch e
  ·rcases ma hb with⟨j,u,rfl,e⟩|⟨y,u,rfl,e⟩
   ·exact nomatch e
   ·injection e with e1 _;rw[e1]
 byValue:=fun k v h=>by
  rcases ma h with⟨i,t,rfl,rfl⟩|⟨x,t,rfl,rfl⟩ <;>rfl
 pyHash:=fun hv h=>by
  rcases ma hv with⟨i,t,rfl,rfl⟩|⟨x,t,rfl,rfl⟩
  ·exact wpAny_pyHash_int h
  ·exact wpAny_pyHash_str h
 eqBool:=fun hu hv h=>by
  rcases ma hu with⟨i,t,rfl,rfl⟩|⟨x,t,rfl,rfl⟩
  ·rcases ma hv with⟨j,u,rfl,rfl⟩|⟨y,u,rfl,rfl⟩
   ·rw[OW] at h;exact wpAny_eqBool_int h
   ·rw[OY] at h;exact SeqAt.EqAt.int_str i t y u _ _ _ _ h
  ·rcases ma hv with⟨j,u,rfl,rfl⟩|⟨y,u,rfl,rfl⟩
   ·rw[OZ] at h;exact SeqAt.EqAt.str_int x t j u _ _ _ _ h
   ·rw[OX] at h;exact wpAny_eqBool_str h
 «strs»:=fun k x t v h=>by
  rcases ma h with⟨i,u,rfl,e⟩|⟨y,u,rfl,e⟩
  ·exact nomatch e
  ·injection e with e1 _
   subst e1;cases v<;>rfl
theorem EB(prog:Program)(w:World)(i:Int)(t:Tok):(dS prog w).is (.inl i) (.int i t)=true:=OU i t
theorem vV(prog:Program)(w:World)(x:Str)(t:Tok):(dS prog w).is (.inr x) (.str x t)=true:=OV x t
inductive V where
 |az|bl (b:Bool)|int (i:Int)|str (x:Str)|gy (b:Array UInt8)|nR (b:UInt64)|ref (a:Addr)|ty (n:String)
 deriving DecidableEq
def RelV:V->Value->Prop
 |.az,u=>u=Value.none
 |.bl b,u=>u=Value.bool b
 |.int i,u=>∃t,u=Value.int i t
 |.str x,u=>∃t,u=Value.str x t
 |.gy b,u=>∃t,u=Value.bytes b t
 |.nR b,u=>∃t,u=Value.float b t
 |.ref a,u=>u=Value.ref a
 |.ty n,u=>u=Value.type n
abbrev Vals:List V->List Value->Prop:=Paired RelV
theorem Vals.length{xs:List V}{us:List Value}(r:Vals xs us):xs.length=us.length:=Paired.length r
theorem Vals.get:∀{xs:List V}{us:List Value}{i:Nat}{x:V},Vals xs us->xs[i]?=some x->∃u,us[i]?=some u/\RelV x u
 |_,_,_,_,.nil,e=>by simp at e
 |_,_,0,_,.cons r _,e=>by simp at e;subst e;exact⟨_,rfl,r⟩
 |_,_,i+1,x,.cons _ t,e=>by
  obtain⟨u,h1,h2⟩:=Vals.get (i:=i) (x:=x) t (by simpa using e)
  exact⟨u,by simpa using h1,h2⟩
theorem Vals.set{x:V}{u:Value}(r:RelV x u):∀{xs:List V}{us:List Value} (i:Nat),Vals xs us->Vals (xs.set i x) (us.set i u)
 |_,_,_,.nil=>.nil
 |_,_,0,.cons _ t=>.cons r t
 |_,_,i+1,.cons q t=>.cons q (Vals.set r i t)
theorem Vals.append:∀{xs ys:List V}{us ws:List Value},Vals xs us->Vals ys ws->Vals (xs++ys) (us++ws)
 |_,_,_,_,.nil,s=>s
 |_,_,_,_,.cons r t,s=>.cons r (Vals.append t s)
theorem Vals.take:∀{xs:List V}{us:List Value} (n:Nat),Vals xs us->Vals (xs.take n) (us.take n)
 |_,_,0,_=>.nil
 |_,_,_+1,.nil=>.nil
 |_,_,n+1,.cons r t=>.cons r (Vals.take n t)
theorem Vals.drop:∀{xs:List V}{us:List Value} (n:Nat),Vals xs us->Vals (xs.drop n) (us.drop n)
 |_,_,0,r=>r
 |_,_,_+1,.nil=>.nil
 |_,_,n+1,.cons _ t=>Vals.drop n t
def gU:Option V->Option Value->Prop
 |some v,some u=>RelV v u
 |none,none=>True
 |_,_=>False
def KV{κ:Type}:List (κ×V)->List (κ×Value)->Prop:=Paired fun(p:κ×V) (q:κ×Value)=>p.1=q.1/\RelV p.2 q.2
def kV:Key->V
 |.inl i=>.int i
 |.inr x=>.str x
inductive HO where
 |lst (xs:List V)
 |tup (xs:List V)
 |dK (kvs:List (Key×V))|dT (kvs:List (List Key×V))
 |set (S:Int->Bool) (n:Nat)
 |ins (C dx:Addr) (fs:List (Str×V))
 |own (x:Addr)
 |xd (fs:List (Str×V))
 |met (f x:Addr)
 |gz (lo hi:Int)
 |bK (o:Obj) (u:HO)
 |kJ (ps:Array Value)
 |ext (φ:Heap->Prop)
abbrev Hp:=Addr->Option HO
def upd(H:Hp)(a:Addr)(o:HO):Hp:=fun b=>if b=a then some o else H b
theorem ax{H:Hp}{a:Addr}{o:HO}:upd H a o a=some o:=by unfold upd;rw[if_pos rfl]
theorem aI{H:Hp}{a b:Addr}{o:HO}(h:b≠a):upd H a o b=H b:=by unfold upd;rw[if_neg h]
theorem vW{H:Hp}{a:Addr}{o u:HO}:upd (upd H a o) a u=upd H a u:=by
 funext b;unfold upd;split<;>rfl
theorem jr{H:Hp}{a b:Addr}{o u:HO}(h:H a=some o)(h':H b=some u)(d:o≠u):a≠b:=by
 intro e;subst e;rw[h] at h';exact d (zao h')
theorem bQ{H:Hp}{a b:Addr}{o:HO}(h:H a=some o)(h':H b=none):a≠b:=by
 intro e;subst e;rw[h] at h';cases h'
section
variable (P:Program) (w:World)
def cA(H:Hp)(h:Heap)(a:Addr):HO->Prop
 |.lst xs=>xs.length<=sizeLine/\∃(ao:List Value) (n:Nat),Vals xs ao/\h.get? a=some {cls:=.type "list",data:=.seq ao.toArray n}
 |.tup xs=>xs.length<=sizeLine/\∃ao:List Value,Vals xs ao/\IsTup h a ao.toArray
 |.dK kvs=>kvs.length<=sizeLine/\(a==sysModules)=false/\∃vs,KV kvs vs/\h.DictOf (dS P w) a vs
 |.dT kvs=>kvs.length<=sizeLine/\(a==sysModules)=false/\∃xs:List (List Key×Addr×Value),
   Paired (fun(p:List Key×V) (q:List Key×Addr×Value)=>p.1=q.1/\H q.2.1=some (.tup<|p.1.map kV)/\RelV p.2 q.2.2) kvs xs/\
   ∃o es ep,h.get? a=some o/\o.ExactDict/\o.data=.dict es ep/\es.toList=xs.map (entryOfKey<|tupleKind<|dS P w)/\(xs.map (·.1)).Nodup
 |.set S n=>h.SetOf (intKind P w) a S n
 |.ins C dx fs=>H dx=some (.own a)/\fs.length<=1000/\dx≠a/\h.get? a=some (instObj C dx)/\
   ∃mA,h.Ns1 dx mA/\(∀f,gU (fs.lookup f)<|mA f)/\PySem.Within mA (fs.map (·.1))
 |.own _=>∃o,h.get? a=some o
 |.xd fs=>∃mA,h.Ns1 a mA/\∀f,gU (fs.lookup f) (mA f)
 |.gz lo hi=>∃t u v,h.get? a=some {cls:=.type "range",data:=.fields #[.int lo t,.int hi u,.int 1 v]}
 |.bK o u=>h.get? a=some o/\cA H h a u
 |.kJ ps=>h.get? a=some {cls:=.none,data:=.fields ps}
 |.met f x=>h.get? a=some (methodObj (.ref f)<|.ref x)
 |.ext φ=>φ h/\(∃o,h.get? a=some o)/\∀h1 h2:Heap,φ h1->(∀o,h1.get? a=some o->h2.get? a=some o)->φ h2
def bW(H:Hp)(h:Heap):Prop:= ∀a o,H a=some o->cA P w H h a o
end
section
variable {P:Program}{w:World}{H H':Hp}{h h':Heap}{a:Addr}{o:HO}
theorem cA.lt(x:cA P w H h a o):a<h.objs.size:=by
 cases o with
 |lst xs=>obtain⟨_,_,_,_,e⟩:=x;exact Heap.lt_size e
 |tup xs=>obtain⟨_,_,_,p⟩:=x;exact p.lt
 |dK kvs=>obtain⟨_,_,_,_,o,_,_,e,_⟩:=x;exact Heap.lt_size e
 |dT kvs=>obtain⟨_,_,_,_,o,_,_,e,_⟩:=x;exact Heap.lt_size e
 |set S n=>obtain⟨o,_,_,_,e,_⟩:=x;exact Heap.lt_size e
 |ins C dx fs=>obtain⟨_,_,_,e,_⟩:=x;exact Heap.lt_size e
 |own y=>obtain⟨_,e⟩:=x;exact Heap.lt_size e
 |xd fs=>obtain⟨_,⟨_,_,_,e,_⟩,_⟩:=x;exact Heap.lt_size e
 |gz lo hi=>obtain⟨_,_,_,e⟩:=x;exact Heap.lt_size e
 |bK ob u=>obtain⟨e,_⟩:=x;exact Heap.lt_size e
 |kJ ps=>exact Heap.lt_size (show h.get? a=some _ from x)
 |met f y=>exact Heap.lt_size (show h.get? a=some _ from x)
 |ext φ=>obtain⟨_,⟨_,e⟩,_⟩:=x;exact Heap.lt_size e
theorem Paired.zL{α β:Type}{F G:α->β->Prop}:∀{l₁:List α}{l₂:List β},Paired F l₁ l₂->(∀a b,F a b->G a b)->Paired G l₁ l₂
 |_,_,.nil,_=>.nil
 |_,_,.cons r t,f=>.cons (f _ _ r) (Paired.zL t f)
theorem cA.kO(x:cA P w H h a o)(k:∀b u,(b=a\/H b=some (.own a))->h.get? b=some u->h'.get? b=some u)
  (ho:∀b,H b=some (.own a)->H' b=some (.own a)) (ht:∀b xs,H b=some (.tup xs)->H' b=some (.tup xs)):cA P w H' h' a o:=by
 induction o with
 |lst xs=>obtain⟨z,ao,n,r,e⟩:=x;exact⟨z,ao,n,r,k _ _ (.inl rfl) e⟩
 |tup xs=>obtain⟨z,ao,r,ob,e,c⟩:=x;exact⟨z,ao,r,ob,k _ _ (.inl rfl) e,c⟩
 |dK kvs=>obtain⟨z,y,vs,r,ob,es,ep,e,c⟩:=x;exact⟨z,y,vs,r,ob,es,ep,k _ _ (.inl rfl) e,c⟩
 |dT kvs=>
  obtain⟨z,y,xs,r,ob,es,ep,e,c⟩:=x;exact⟨z,y,xs,Paired.zL r fun p q z=>⟨z.1,ht _ _ z.2.1,z.2.2⟩,ob,es,ep,k _ _ (.inl rfl) e,c⟩
 |set S n=>obtain⟨ob,es,ep,t,e,c⟩:=x;exact⟨ob,es,ep,t,k _ _ (.inl rfl) e,c⟩
 |ins C dx fs=>
  obtain⟨d,z,ne,e,mA,⟨od,es,ep,e2,c⟩,r⟩:=x;exact⟨ho _ d,z,ne,k _ _ (.inl rfl) e,mA,⟨od,es,ep,k _ _ (.inr d) e2,c⟩,r⟩
 |own y=>obtain⟨ob,e⟩:=x;exact⟨ob,k _ _ (.inl rfl) e⟩
 |xd fs=>obtain⟨mA,⟨od,es,ep,e,c⟩,r⟩:=x;exact⟨mA,⟨od,es,ep,k _ _ (.inl rfl) e,c⟩,r⟩
 |gz lo hi=>obtain⟨t,u,v,e⟩:=x;exact⟨t,u,v,k _ _ (.inl rfl) e⟩
 |bK ob u ih=>obtain⟨e,q⟩:=x;exact⟨k _ _ (.inl rfl) e,ih q⟩
 |kJ ps=>
  have e:h.get? a=some {cls:=.none,data:=.fields ps}:=x;show h'.get? a=some {cls:=.none,data:=.fields ps};exact k a _ (.inl rfl) e
 |met f y=>
  have e:h.get? a=some (methodObj (.ref f)<|.ref y):=x;show h'.get? a=some (methodObj (.ref f)<|.ref y);exact k a _ (.inl rfl) e
 |ext φ=>obtain⟨p,⟨o,e⟩,st⟩:=x;exact⟨st _ _ p fun o q=>k _ _ (.inl rfl) q,⟨o,k _ _ (.inl rfl) e⟩,st⟩
theorem bW.lt(x:bW P w H h)(e:H a=some o):a<h.objs.size:=(x a o e).lt
theorem bW.fresh(x:bW P w H h)(e:h.objs.size<=a):H a=none:=by
 cases q:H a with
 |none=>rfl
 |some u=>exact absurd (zan (x.lt q) e) (zaz _)
theorem bW.kept(x:bW P w H h)(k:∀b u,h.get? b=some u->h'.get? b=some u):bW P w H h':=fun a o e=>
 (x a o e).kO (fun b u _ q=>k b u q) (fun _ q=>q) fun _ _ q=>q
theorem bW.laid(x:bW P w H h)(k:∀b u,h.get? b=some u->h'.get? b=some u)(hp:h.objs.size<=a)(new:cA P w (upd H a o) h' a o):bW P w (upd H a o) h':=fun b u e=>by
 have hn:=x.fresh hp;by_cases hb:b=a
 ·subst hb;rw[ax] at e;cases e;exact new
 ·rw[aI hb] at e;exact(x b u e).kO (fun c v _ q=>k c v q) (fun c q=>by rw[aI<|bQ q hn];exact q) fun c xs q=>by rw[aI<|bQ q hn];exact q
end
def Rd(H:Hp)(a:Addr)(u:HO):Prop:=H a=some u\/∃o,H a=some (.bK o u)
theorem Rd.ok{P:Program}{w:World}{H:Hp}{h:Heap}{a:Addr}{u:HO}(r:Rd H a u)(x:bW P w H h):cA P w H h a u:=by
 rcases r with r|⟨o,r⟩
 ·exact x a u r
 ·obtain⟨_,q⟩:=x a _ r;exact q
def tZ:Option HO->Prop
 |some (.lst _)=>True
 |some (.dK _)=>True
 |some (.dT _)=>True
 |some (.set _ _)=>True
 |some (.ins _ _ _)=>True
 |some (.ext _)=>True
 |_=>False
section
variable {P:Program}{w:World}{H:Hp}{h h':Heap}{x e:Addr}{o':HO}
theorem bW.write(ok:bW P w H h)(mu:tZ (H x))(he:e=x\/H e=some (.own x))(k:∀b u,b≠e->h.get? b=some u->h'.get? b=some u)(rA:∃u,h'.get? e=some u)
  (new:cA P w (upd H x o') h' x o'):bW P w (upd H x o') h':=fun b u q=>by
 have EC:∀c y,H c=some (.own y)->c≠x:=fun c y r z=>by subst z;rw[r] at mu;exact mu
 have O0:∀c xs,H c=some (.tup xs)->c≠x:=fun c xs r z=>by subst z;rw[r] at mu;exact mu
 by_cases hb:b=x
 ·subst hb;rw[ax] at q;cases q;exact new
 ·rw[aI hb] at q;by_cases pw:b=e
  ·have q':H b=some (.own x):=by
    rcases he with z|z
    ·exact absurd (pw.trans z) hb
    ·rw[pw];exact z
   rw[q] at q';cases q';obtain⟨v,hv⟩:=rA;exact⟨v,by rw[pw];exact hv⟩
  ·refine(ok b u q).kO (fun c v hc r=>k c v ?_ r) (fun c r=>by rw[aI<|EC c b r];exact r) fun c xs r=>by rw[aI<|O0 c xs r];exact r
   rcases hc with rfl|hc
   ·exact pw
   ·rintro rfl;rcases he with z|z
    ·exact EC c b hc z
    ·rw[hc] at z;cases z;exact hb rfl
end
structure Un (fs ex:List Addr) (H H':Hp) (h h':Heap):Prop where
 keep:∀b o,h.get? b=some o->H b=none->b∉fs->b∉ex->h'.get? b=some o
 slot:∀b o,h.get? b=some o->H b=none->b∈fs->b∉ex->∃sl,h'.get? b=some {o with slots:=sl}
 free:∀b o,h.get? b=some o->H b=none->b∉ex->H' b=none
 there:∀b o,h.get? b=some o->b∉ex->∃o',h'.get? b=some o'
 bC:∀b xs,H b=some (.tup xs)->H' b=some (.tup xs)
 fW:∀b o u,H b=some (.bK o u)->H' b=some (.bK o u)
 gW:∀b ps,H b=some (.kJ ps)->∃more,H' b=some (.kJ<|ps++more)
section
variable {fs js ex zM:List Addr}{H H1 H2:Hp}{h h1 h2 h':Heap}{a x e:Addr}{o:HO}
theorem Un.any(u:Un fs ex H H1 h h1){b:Addr}{ob:Obj}(q:h.get? b=some ob)(n:H b=none)(hx:b∉ex):∃sl,h1.get? b=some {ob with slots:=sl}:=by
 by_cases hb:b∈fs
 ·exact u.slot b ob q n hb hx
 ·exact⟨ob.slots,u.keep b ob q n hb hx⟩
theorem Un.kept(k:∀b u,h.get? b=some u->h'.get? b=some u):Un fs ex H H h h':=
 ⟨fun b ob q _ _ _=>k b ob q,fun b ob q _ _ _=>⟨ob.slots,k b ob q⟩,fun _ _ _ n _=>n,fun b ob q _=>⟨ob,k b ob q⟩,fun _ _ q=>q,fun _ _ _ q=>q,fun _ ps q=>⟨#[],by rw[q];simp⟩⟩
theorem Un.refl:Un fs ex H H h h:=Un.kept fun _ _ q=>q
theorem Un.laid(k:∀b u,h.get? b=some u->h'.get? b=some u)(hp:h.objs.size<=a)(hn:H a=none):Un fs ex H (upd H a o) h h' where
 keep:=fun b u q _ _ _=>k b u q
 slot:=fun b u q _ _ _=>⟨u.slots,k b u q⟩
 free:=fun b u q n _=>by rw[aI<|zap<|zan (Heap.lt_size q) hp];exact n
 there:=fun b u q _=>⟨u,k b u q⟩
 bC:=fun b xs q=>by rw[aI<|bQ q hn];exact q
 fW:=fun b u xs q=>by rw[aI<|bQ q hn];exact q
 gW:=fun b ps q=>⟨#[],by rw[aI<|bQ q hn,q];simp⟩
theorem Un.write(mu:tZ (H x))(he:e=x\/H e=some (.own x))(k:∀b u,b≠e->h.get? b=some u->h'.get? b=some u)(rA:∃u,h'.get? e=some u):Un fs ex H (upd H x o) h h':=by
 have hx:∀b,H b=none->b≠x:=fun b n z=>by subst z;rw[n] at mu;exact mu
 have hb:∀b,H b=none->b≠e:=fun b n z=>by
  subst z;rcases he with r|r
  ·exact hx b n r
  ·rw[n] at r;cases r
 have hm:∀b u,H b=some u-> ¬tZ (some u)->b≠x:=fun b u q nm z=>by subst z;rw[q] at mu;exact nm mu
 refine⟨fun b u q n _ _=>k b u (hb b n) q,fun b u q n _ _=>⟨u.slots,k b u (hb b n) q⟩,fun b u q n _=>by rw[aI (hx b n)];exact n,fun b u q _=>?_,
  fun b xs q=>by rw[aI (hm b _ q fun z=>z)];exact q,fun b u xs q=>by rw[aI (hm b _ q fun z=>z)];exact q,fun b ps q=>⟨#[],by rw[aI (hm b _ q fun z=>z),q];simp⟩⟩
 by_cases pw:b=e
 ·subst pw;exact rA
 ·exact⟨u,k b u pw q⟩
end
def dU(h:Heap)(H:Hp):List Addr:=(List.range h.objs.size).filter fun a=>(H a).isSome
def mf(h:Heap)(H:Hp):Heap:=hideAll h (dU h H)
theorem O1(h:Heap)(H:Hp):(mf h H).objs.size=h.objs.size:=PySem.W.hideAll_size _ _
theorem O2{h:Heap}{H:Hp}{b:Addr}{o:Obj}(e:h.get? b=some o)(n:H b=none):(mf h H).get? b=some o:=
 hideAll_get _ e fun hm=>by
  have q:(H b).isSome=true:=(List.mem_filter.mp hm).2;rw[n] at q;simp at q
theorem O3{h:Heap}{H:Hp}{b:Addr}{o:Obj}(e:(mf h H).get? b=some o):h.get? b=some o/\H b=none:=by
 have e':h.get? b=some o:=of_hideAll (dU h H) e;refine⟨e',?_⟩;cases q:H b with
 |none=>rfl
 |some x=>
  have hm:b∈dU h H:=List.mem_filter.mpr ⟨zbL.mpr<|Heap.lt_size e',by simp[q]⟩
  have z:(mf h H).get? b=none:=PySem.W.hideAll_none (dU h H) hm;rw[z] at e;cases e
structure Mod (K:Frag) (mg:Str->Option Value) (base:Heap):Prop where
 pz:K.In base
 glob:base.Ns mainGlobals mg
 blt:∃mb,base.Ns builtinsNs mb/\∀x:Str,x≠"__name__"->mb x=bootBuiltins x
 nolimit:base.NoLimit
structure Cx where
 prog:Program
 w:World
 K:Frag
 mg:Str->Option Value
 base:Heap
 A:Around
 N:List Str
 s₀:Shared
 H₀:Hp
 env:Env
 outer:List Env
 stack:List Env
 ex:List Addr
 fn:Str->Bool
 calm:Bool
 pn:List (Addr×Obj)
 xe:Value->Shared->Prop
def bS(l:List Env):List Addr:=l.filterMap (·.frame)
abbrev Cx.fs(X:Cx):List Addr:=bS X.outer
def vX(sc:Scope)(x:Str):Prop:=sc.names.lookup x=some .local\/sc.names.lookup x=some .cell\/sc.names.lookup x=some .free
def Loc(sc:Scope)(x:Str):Prop:=sc.names.lookup x=some .local\/sc.names.lookup x=some .cell
def Look(env:Env)(h:Heap)(m:Str->Option Value)(x:Str)(u:Value):Prop:=
 (env.kindOf x=some .local/\m x=some u)\/((env.kindOf x=some .cell\/env.kindOf x=some .free)/\∃c,env.cells.lookup x=some c/\h.IsCell c (some u))
structure Cx.Ok (X:Cx):Prop where
 mod:Mod X.K X.mg X.base
 kind:X.env.scope.kind=.function
 glob:X.env.globals=mainGlobals
 blt:X.env.builtins=builtinsNs
 above:X.s₀.heap.objs.size<=X.env.locals
 inj:∀x y c,X.env.cells.lookup x=some c->X.env.cells.lookup y=some c->x=y
 has:∀x,(X.env.kindOf x=some .cell\/X.env.kindOf x=some .free)->∃c,X.env.cells.lookup x=some c
 vY:∀x c,X.fn x=true->X.env.cells.lookup x=some c->X.s₀.heap.objs.size<=c
 hd:X.calm=true->X.A.handled=none
 frames:X.A.frames=some X.stack
 jb:X.stack=X.outer\/(X.stack=X.env::X.outer/\X.env.frame=some X.env.locals)
 O4:∀b∈X.ex,b≠X.env.locals/\∀x c,X.env.cells.lookup x=some c->c≠b
 bs:∀b o,X.base.get? b=some o->X.s₀.heap.get? b=some o/\X.H₀ b=none
 nU:X.base.objs.size<=X.s₀.heap.objs.size
 vZ:∀b o,X.base.get? b=some o->b∉X.ex
 v7:∀b∈X.ex,b∉X.fs
 ju:X.s₀.heap.FunFrames X.base X.outer
 pA:∀b∈X.fs,X.H₀ b=none
structure Inv (X:Cx) (wv:List (Addr×Obj)) (σ:List (Option V)) (H:Hp) (s:Shared):Prop where
 ok:X.Ok
 os:s.os=X.s₀.os
 bare:AllBare s.gens
 base:Un X.fs X.ex X.H₀ H X.s₀.heap s.heap
 loc:∃m,s.heap.Ns X.env.locals m/\∀(i:Nat) (x:Str) (v:V),X.N[i]?=some x->σ[i]?=some (some v)->vX X.env.scope x->∃u,RelV v u/\Look X.env s.heap m x u
 cell:∀x c,X.env.cells.lookup x=some c->∃v,s.heap.IsCell c v
 free:H X.env.locals=none
 ip:∀x c,X.env.cells.lookup x=some c->H c=none
 pin:∀p∈X.pn++wv,s.heap.get? p.1=some p.2/\H p.1=none/\p.1≠X.env.locals/\p.1∉X.fs/\∀v,p.2.data≠ .cell v
 aB:bW X.prog X.w H s.heap
 len:σ.length=X.N.length
section
variable {X:Cx}{wv:List (Addr×Obj)}{σ:List (Option V)}{H H':Hp}{s:Shared}{h':Heap}
theorem Cx.Ok.O5(ok:X.Ok){b:Addr}{o:Obj}(e:X.base.get? b=some o):b∉X.fs:=fun hb=>by
 have:=(ok.ju.mem hb).1;rw[e] at this;cases this
theorem Inv.bs(I:Inv X wv σ H s):∀b o,X.base.get? b=some o->s.heap.get? b=some o/\H b=none:=fun b o e=>
 ⟨I.base.keep b o (I.ok.bs b o e).1 (I.ok.bs b o e).2 (I.ok.O5 e)<|I.ok.vZ b o e,I.base.free b o (I.ok.bs b o e).1 (I.ok.bs b o e).2<|I.ok.vZ b o e⟩
theorem Inv.bk(I:Inv X wv σ H s):∀b o,X.base.get? b=some o->s.heap.get? b=some o:=fun b o e=>(I.bs b o e).1
theorem Inv.mod(I:Inv X wv σ H s):Mod X.K X.mg X.base:=I.ok.mod
theorem Inv.cX(I:Inv X wv σ H s):X.K.In s.heap:=I.ok.mod.pz.keeps I.bk
theorem Inv.lt(I:Inv X wv σ H s):X.env.locals<s.heap.objs.size:=let ⟨_,hn,_⟩:=I.loc;hn.lt
theorem Inv.sz(I:Inv X wv σ H s):X.s₀.heap.objs.size<=s.heap.objs.size:=zay I.ok.above (zbu I.lt)
theorem Inv.ED(I:Inv X wv σ H s){a:Addr}(h:s.heap.objs.size<=a):a∉X.fs:=fun hb=>by
 obtain⟨_,o,ho,_⟩:=I.ok.ju.mem hb;exact absurd (zan (Heap.lt_size ho)<|zay I.sz h)<|zaz _
theorem Inv.pB(I:Inv X wv σ H s):∀x c,X.env.cells.lookup x=some c->c≠X.env.locals:=fun x c e z=>by
 obtain⟨v,o,ho,hd⟩:=I.cell x c e;obtain⟨m,⟨o',es,ep,fA,zN,_⟩,_⟩:=I.loc;rw[z,fA] at ho;cases ho;rw[zN] at hd;cases hd
theorem Inv.ju(I:Inv X wv σ H s):s.heap.FunFrames X.base X.outer:=by
 have all:∀(l:List Env),(∀b∈bS l,b∈X.fs)->X.s₀.heap.FunFrames X.base l->s.heap.FunFrames X.base l:=by
  intro l
  induction l with
  |nil=>intro _ _;trivial
  |cons env r ih=>
   intro hs hl;obtain⟨hk,⟨L,o,hf,hn,ho,hd⟩,hr⟩:=hl;have hL:L∈X.fs:=hs L (by unfold bS;rw[zbM,hf];exact zat)
   obtain⟨sl,e⟩:=I.base.slot L o ho (I.ok.pA L hL) hL fun z=>I.ok.v7 L z hL;exact⟨hk,⟨L,_,hf,hn,e,hd⟩,ih (fun b hb=>hs b (by unfold bS;rw[zbM,hf];exact zas _ hb)) hr⟩
 exact all X.outer (fun _ hb=>hb) I.ok.ju
theorem Inv.stack(I:Inv X wv σ H s):s.heap.FunFrames X.base X.stack:=by
 rcases I.ok.jb with e|⟨e,hf⟩
 ·rw[e];exact I.ju
 ·rw[e];obtain⟨m,hn,_⟩:=I.loc;refine .cons (by rw[I.ok.kind];decide) hf hn ?_ I.ju
  exact Heap.get?_none_of_le<|zay I.ok.nU I.ok.above
theorem Inv.v8(I:Inv X wv σ H s):∀b∈bS X.stack,b∈X.env.locals::X.fs:=fun b hb=>by
 rcases I.ok.jb with e|⟨e,hf⟩
 ·rw[e] at hb;exact zas _ hb
 ·rw[e] at hb;unfold bS at hb;rw[zbM,hf] at hb;exact hb
theorem Inv.v9(I:Inv X wv σ H s):∀b∈bS X.stack,H b=none:=fun b hb=>by
 rcases zac.mp (I.v8 b hb) with e|hb
 ·rw[e];exact I.free
 ·obtain⟨_,o,ho,_⟩:=I.ok.ju.mem hb;exact I.base.free b o ho (I.ok.pA b hb) fun z=>I.ok.v7 b z hb
theorem Inv.step{g':Array GenState}{t':Nat}{d':Drawn}{ch:List Addr}(I:Inv X wv σ H s)
  (dQ:∀b∈ch,(b∈X.ex\/X.s₀.heap.objs.size<=b)/\b≠X.env.locals/\(∀x c,X.env.cells.lookup x=some c->c≠b)/\∀p∈X.pn++wv,p.1≠b)
  (keep:∀b o,b≠X.env.locals->b∉X.fs->b∉ch->s.heap.get? b=some o->H b=none->h'.get? b=some o)
  (slot:∀b o,b≠X.env.locals->b∈X.fs->b∉ch->s.heap.get? b=some o->H b=none->∃sl,h'.get? b=some {o with slots:=sl}) (free:∀b o,b∉ch->s.heap.get? b=some o->H b=none->H' b=none)
  (there:∀b o,b∉ch->s.heap.get? b=some o->∃o',h'.get? b=some o')
  (bC:∀b xs,H b=some (.tup xs)->H' b=some (.tup xs)) (fW:∀b o u,H b=some (.bK o u)->H' b=some (.bK o u)) (gW:∀b ps,H b=some (.kJ ps)->∃more,H' b=some (.kJ<|ps++more))
  (ns:∀m,s.heap.Ns X.env.locals m->h'.Ns X.env.locals m) (aB:bW X.prog X.w H' h') (hg:AllBare g'):
  Inv X wv σ H' {s with heap:=h',gens:=g',drawn:=d',toks:=t'}:=by
 have EE:∀b o,X.s₀.heap.get? b=some o->b≠X.env.locals:=fun b o e=>zap (zan (Heap.lt_size e) I.ok.above);have v_:∀b o,X.s₀.heap.get? b=some o->b∉X.ex->b∉ch:=fun b o e hx hb=>by
  rcases (dQ b hb).1 with z|z
  ·exact hx z
  ·exact absurd (zan (Heap.lt_size e) z) (zaz _)
 have cellK:∀x c,X.env.cells.lookup x=some c->∀v,s.heap.IsCell c v->h'.IsCell c v:=fun x c e v ⟨o,ho,hd⟩=>by
  have t4:c∉ch:=fun z=>(dQ c z).2.2.1 x c e rfl;by_cases hc:c∈X.fs
  ·obtain⟨sl,q⟩:=slot c o (I.pB x c e) hc t4 ho (I.ip x c e);exact⟨_,q,hd⟩
  ·exact⟨o,keep c o (I.pB x c e) hc t4 ho<|I.ip x c e,hd⟩
 refine⟨I.ok,I.os,hg,⟨fun b o e n hb hx=>?_,fun b o e n hb hx=>?_,fun b o e n hx=>?_,fun b o e hx=>?_,fun b xs e=>bC b xs<|I.base.bC b xs e,fun b o xs e=>fW b o xs<|I.base.fW b o xs e,fun b ps e=>?_⟩,?_,fun x c e=>?_,?_,fun x c e=>?_,fun p hp=>?_,aB,I.len⟩
 ·exact keep b o (EE b o e) hb (v_ b o e hx) (I.base.keep b o e n hb hx) (I.base.free b o e n hx)
 ·obtain⟨sl,e1⟩:=I.base.slot b o e n hb hx;obtain⟨zO,e2⟩:=slot b _ (EE b o e) hb (v_ b o e hx) e1 (I.base.free b o e n hx);exact⟨zO,e2⟩
 ·obtain⟨o',e1⟩:=I.base.there b o e hx;exact free b o' (v_ b o e hx) e1<|I.base.free b o e n hx
 ·obtain⟨o',e1⟩:=I.base.there b o e hx;exact there b o' (v_ b o e hx) e1
 ·obtain⟨m1,e1⟩:=I.base.gW b ps e;obtain⟨m2,e2⟩:=gW b _ e1;exact⟨m1++m2,by rw[e2,Array.append_assoc]⟩
 ·obtain⟨m,hn,hl⟩:=I.loc;refine⟨m,ns m hn,fun i x v e1 e2 e3=>?_⟩;obtain⟨u,r,l⟩:=hl i x v e1 e2 e3;refine⟨u,r,?_⟩;rcases l with l|⟨k,c,e,z⟩
  ·exact .inl l
  ·exact .inr ⟨k,c,e,cellK x c e _ z⟩
 ·obtain⟨v,z⟩:=I.cell x c e;exact⟨v,cellK x c e v z⟩
 ·obtain⟨m,⟨o,_,_,ho,_⟩,_⟩:=I.loc;exact free _ o (fun z=>(dQ _ z).2.1 rfl) ho I.free
 ·obtain⟨v,o,ho,hd⟩:=I.cell x c e;exact free c o (fun z=>(dQ c z).2.2.1 x c e rfl) ho<|I.ip x c e
 ·obtain⟨e,n,ne,nf,d⟩:=I.pin p hp;have t4:p.1∉ch:=fun z=>(dQ p.1 z).2.2.2 p hp rfl;exact⟨keep p.1 p.2 ne nf t4 e n,free p.1 p.2 t4 e n,ne,nf,d⟩
theorem Inv.un{t':Nat}(I:Inv X wv σ H s)(u:Un X.fs [] H H' s.heap h')(aB:bW X.prog X.w H' h'):Inv X wv σ H' {s with heap:=h',toks:=t'}:=by
 obtain⟨m,⟨o,es,ep,ho,r⟩,_⟩:=id I.loc;obtain⟨sl,hL⟩:=u.any ho I.free (by simp)
 exact I.step (g':=s.gens) (d':=s.drawn) (ch:=[]) (fun _ z=>nomatch z) (fun b o _ hb _ e n=>u.keep b o e n hb (by simp)) (fun b o _ hb _ e n=>u.slot b o e n hb (by simp)) (fun b o _ e n=>u.free b o e n (by simp)) (fun b o _ e=>u.there b o e (by simp)) u.bC u.fW u.gW (fun m' hm=>by
  obtain⟨o',rB,zP,fA,r'⟩:=hm;rw[ho] at fA;cases fA;exact⟨_,rB,zP,hL,r'⟩) aB I.bare
theorem Inv.call{g':Array GenState}{t':Nat}{d':Drawn}{ch:List Addr}(I:Inv X wv σ H s)(u:Un (bS X.stack) ch H H' s.heap h')(aB:bW X.prog X.w H' h')(hg:AllBare g')
  (dQ:∀b∈ch,(b∈X.ex\/X.s₀.heap.objs.size<=b)/\b≠X.env.locals/\(∀x c,X.env.cells.lookup x=some c->c≠b)/\∀p∈X.pn++wv,p.1≠b):
  Inv X wv σ H' {s with heap:=h',gens:=g',drawn:=d',toks:=t'}:=by
 obtain⟨m,⟨o,es,ep,ho,r⟩,_⟩:=id I.loc;obtain⟨sl,hL⟩:=u.any ho I.free fun z=>(dQ _ z).2.1 rfl;exact I.step (ch:=ch) dQ (fun b o hL hb hc e n=>u.keep b o e n (fun z=>(zac.mp (I.v8 b z)).elim hL hb) hc) (fun b o _ _ hc e n=>u.any e n hc) (fun b o hc e n=>u.free b o e n hc) (fun b o hc e=>u.there b o e hc) u.bC u.fW u.gW (fun m' hm=>by
  obtain⟨o',rB,zP,fA,r'⟩:=hm;rw[ho] at fA;cases fA;exact⟨_,rB,zP,hL,r'⟩) aB hg
theorem Inv.turned{t':Nat}{it:Addr}(I:Inv X wv σ H s)(k:∀b o,b≠it->s.heap.get? b=some o->h'.get? b=some o)(hn:H it=none)(hL:it≠X.env.locals)
  (h1:it∈X.ex\/X.s₀.heap.objs.size<=it) (h2:∀x c,X.env.cells.lookup x=some c->c≠it) (h3:∀p∈X.pn++wv,p.1≠it):Inv X wv σ H {s with heap:=h',toks:=t'}:=by
 have EF:∀b u,H b=some u->b≠it:=fun b u e z=>by rw[z,hn] at e;cases e
 refine I.step (g':=s.gens) (d':=s.drawn) (ch:=[it]) (fun b hb=>?_) (fun b o _ _ hc e _=>k b o (fun z=>hc (by simp[z])) e) (fun b o _ _ hc e _=>⟨o.slots,k b o (fun z=>hc (by simp[z])) e⟩) (fun _ _ _ _ n=>n)
  (fun b o hc e=>⟨o,k b o (fun z=>hc (by simp[z])) e⟩) (fun _ _ e=>e) (fun _ _ _ e=>e) (fun b ps e=>⟨#[],by rw[e];simp⟩) (fun m hm=>?_) (fun b u e=>?_) I.bare
 ·have e:b=it:=by simpa using hb
  subst e;exact⟨h1,hL,h2,h3⟩
 ·obtain⟨o,es,ep,ho,r⟩:=hm;exact⟨o,es,ep,k _ o (Ne.symm hL) ho,r⟩
 ·refine(I.aB b u e).kO (fun c v hc q=>k c v ?_ q) (fun _ q=>q) fun _ _ q=>q;rcases hc with z|z
  ·rw[z];exact EF b u e
  ·exact EF c _ z
theorem Inv.tok(I:Inv X wv σ H s)(t:Nat):Inv X wv σ H {s with toks:=t}:=I.un (h':=s.heap) (t':=t) Un.refl I.aB
theorem Inv.kept{t':Nat}(I:Inv X wv σ H s)(k:∀b u,s.heap.get? b=some u->h'.get? b=some u):Inv X wv σ H {s with heap:=h',toks:=t'}:=I.un (Un.kept k) (I.aB.kept k)
theorem Inv.laid{a:Addr}{o:HO}{t':Nat}(I:Inv X wv σ H s)(k:∀b u,s.heap.get? b=some u->h'.get? b=some u)(hp:s.heap.objs.size<=a)(new:cA X.prog X.w (upd H a o) h' a o):
  Inv X wv σ (upd H a o) {s with heap:=h',toks:=t'}:=I.un (Un.laid k hp<|I.aB.fresh hp) (I.aB.laid k hp new)
theorem Inv.write{x e:Addr}{o:HO}{t':Nat}(I:Inv X wv σ H s)(mu:tZ (H x))(he:e=x\/H e=some (.own x))(k:∀b u,b≠e->s.heap.get? b=some u->h'.get? b=some u)(rA:∃u,h'.get? e=some u)
  (new:cA X.prog X.w (upd H x o) h' x o):Inv X wv σ (upd H x o) {s with heap:=h',toks:=t'}:=I.un (Un.write mu he k rA) (I.aB.write mu he k rA new)
theorem Inv.rC{jv:List (Addr×Obj)}(I:Inv X wv σ H s)(h:∀p∈jv,s.heap.get? p.1=some p.2/\H p.1=none/\p.1≠X.env.locals/\p.1∉X.fs/\∀v,p.2.data≠ .cell v):Inv X jv σ H s:=
 ⟨I.ok,I.os,I.bare,I.base,I.loc,I.cell,I.free,I.ip,fun p hp=>(zaa.mp hp).elim (fun z=>I.pin p<|zaA _ z)<|h p,I.aB,I.len⟩
theorem EG{N:List Str}(hN:N.Nodup){i j:Nat}{x:Str}(a:N[i]?=some x)(b:N[j]?=some x):i=j:=by
 obtain⟨h1,e1⟩:=zal.mp a;obtain⟨h2,e2⟩:=zal.mp b;exact(List.getElem_inj hN).mp<|e1.trans e2.symm
theorem EH{M:Model}{A:Around}{E:Value->Shared->Prop}{i:Nat}{x:Str}{v:V}{u:Value}{Q:Unit->Shared->Prop}(I:Inv X wv σ H s)(hN:X.N.Nodup)(hi:X.N[i]?=some x)(hx:Loc X.env.scope x)(r:RelV v u)
  (h:∀s',Inv X wv (σ.set i<|some v) H s'->(∃a,Heap.SameBut a s.heap s'.heap/\(a=X.env.locals\/X.env.cells.lookup x=some a))->Q () s') (hf:X.fn x=true\/X.env.scope.names.lookup x=some .local:=by first|exact .inl rfl|exact .inr rfl|assumption):wpAny M A (storeName X.env x u) Q E s:=by
 obtain⟨m,hn,hl⟩:=id I.loc;have O6:(X.env.scope.kind==.class ||(X.env.scope.kind==.module && X.env.locals !=X.env.globals))=false:=by rw[I.ok.kind];rfl
 have EI:i<σ.length:=by rw[I.len];exact(zal.mp hi).1
 have pB:=I.pB;have tracked:∀{a:Addr}{h':Heap},(∃o,s.heap.get? a=some o/\H a=none)->Heap.SameBut a s.heap h'->bW X.prog X.w H h':=fun {a h'} ha hs b ob e=>by
  obtain⟨_,_,t9⟩:=ha;refine(I.aB b ob e).kO (fun c w' hc q=>(hs.2 c ?_).trans q) (fun _ q=>q) fun _ _ q=>q;rintro rfl;rcases hc with rfl|hc
  ·rw[t9] at e;cases e
  ·rw[t9] at hc;cases hc
 rcases hx with hk|hk
 ·refine wpAny_storeName_local hk hn (fun h' wa hs=>?_) O6;obtain⟨oL,_,_,O7,_⟩:=id hn;refine h _ ⟨I.ok,I.os,I.bare,⟨fun b o e n hb hx=>?_,fun b o e n hb hx=>?_,I.base.free,fun b o e hx=>?_,I.base.bC,I.base.fW,I.base.gW⟩,⟨_,wa,fun j y v' e1 e2 e3=>?_⟩,fun y c e=>?_,I.free,I.ip,fun p hp=>?_,tracked ⟨oL,O7,I.free⟩ hs,by simpa using I.len⟩ ⟨_,hs,.inl rfl⟩
  ·exact(hs.2 b<|zap<|zan (Heap.lt_size e) I.ok.above).trans (I.base.keep b o e n hb hx)
  ·obtain⟨sl,e1⟩:=I.base.slot b o e n hb hx;exact⟨sl,(hs.2 b<|zap<|zan (Heap.lt_size e) I.ok.above).trans e1⟩
  ·obtain⟨o',e1⟩:=I.base.there b o e hx;exact⟨o',(hs.2 b<|zap<|zan (Heap.lt_size e) I.ok.above).trans e1⟩
  ·by_cases hj:j=i
   ·subst hj;rw[hi] at e1;cases e1;rw[zcc EI] at e2;cases e2;exact⟨u,r,.inl ⟨hk,by simp⟩⟩
   ·rw[zaK<|Ne.symm hj] at e2;obtain⟨u',r',q⟩:=hl j y v' e1 e2 e3;refine⟨u',r',?_⟩;rcases q with⟨k,e⟩|⟨k,c,e,z⟩
    ·refine .inl ⟨k,?_⟩;have:y≠x:=fun e=>hj (EG hN e1<|e ▸ hi)
     simp[this,e]
    ·exact .inr ⟨k,c,e,z.sameBut hs<|pB y c e⟩
  ·obtain⟨w',z⟩:=I.cell y c e;exact⟨w',z.sameBut hs<|pB y c e⟩
  ·obtain⟨e,n,ne,nf,d⟩:=I.pin p hp;exact⟨(hs.2 p.1 ne).trans e,n,ne,nf,d⟩
 ·have zQ:X.fn x=true:=by
   rcases hf with z|z
   ·exact z
   ·rw[z] at hk;cases hk
  obtain⟨c,hc⟩:=I.ok.has x (.inl hk);obtain⟨w',z⟩:=I.cell x c hc;refine wpAny_storeName_cell I.ok.kind hk hc z<|fun h' eY hs=>?_;obtain⟨oc,EJ,O8⟩:=id z;refine h {s with heap:=h'} ⟨I.ok,I.os,I.bare,⟨fun b o e n hb hx=>?_,fun b o e n hb hx=>?_,I.base.free,fun b o e hx=>?_,I.base.bC,I.base.fW,I.base.gW⟩,⟨m,hn.sameBut hs<|Ne.symm<|pB x c hc,fun j y v' e1 e2 e3=>?_⟩,fun y c' e=>?_,I.free,I.ip,fun p hp=>?_,tracked ⟨oc,EJ,I.ip x c hc⟩ hs,by simpa using I.len⟩ ⟨c,hs,.inr hc⟩
  ·exact(hs.2 b<|zap<|zan (Heap.lt_size e)<|I.ok.vY x c zQ hc).trans (I.base.keep b o e n hb hx)
  ·obtain⟨sl,e1⟩:=I.base.slot b o e n hb hx;exact⟨sl,(hs.2 b<|zap<|zan (Heap.lt_size e)<|I.ok.vY x c zQ hc).trans e1⟩
  ·obtain⟨o',e1⟩:=I.base.there b o e hx;exact⟨o',(hs.2 b<|zap<|zan (Heap.lt_size e)<|I.ok.vY x c zQ hc).trans e1⟩
  ·by_cases hj:j=i
   ·subst hj;rw[hi] at e1;cases e1;rw[zcc EI] at e2;cases e2;exact⟨u,r,.inr ⟨.inl hk,c,hc,eY⟩⟩
   ·rw[zaK<|Ne.symm hj] at e2;obtain⟨u',r',q⟩:=hl j y v' e1 e2 e3;refine⟨u',r',?_⟩;rcases q with q|⟨k,c',e,z'⟩
    ·exact .inl q
    ·refine .inr ⟨k,c',e,z'.sameBut hs ?_⟩;rintro rfl;exact hj<|EG hN e1<|I.ok.inj _ _ _ e hc ▸ hi
  ·by_cases wb:c'=c
   ·subst wb;exact⟨_,eY⟩
   ·obtain⟨w2,z2⟩:=I.cell y c' e;exact⟨w2,z2.sameBut hs wb⟩
  ·obtain⟨e,n,ne,nf,d⟩:=I.pin p hp;refine⟨(hs.2 p.1 ?_).trans e,n,ne,nf,d⟩;intro q;rw[q,EJ] at e;have q':oc=p.2:=zao e;exact d w' (by rw[<-q'];exact O8)
theorem zR{M:Model}{A:Around}{E:Value->Shared->Prop}{i:Nat}{x:Str}{v:V}{u:Value}{Q:Unit->Shared->Prop}(I:Inv X wv σ H s)(hN:X.N.Nodup)(hi:X.N[i]?=some x)(hx:Loc X.env.scope x)(r:RelV v u)
  (h:∀s',Inv X wv (σ.set i<|some v) H s'->Q () s') (hf:X.fn x=true\/X.env.scope.names.lookup x=some .local:=by first|exact .inl rfl|exact .inr rfl|assumption):wpAny M A (storeName X.env x u) Q E s:=
 EH I hN hi hx r (fun s' I' _=>h s' I') hf
theorem Inv.zS{s':Shared}{ch:List Addr}(I:Inv X wv σ H s)(ho:s'.os=s.os)(u:Un (bS X.stack) ch H H' s.heap s'.heap)(aB:bW X.prog X.w H' s'.heap)(hg:AllBare s'.gens)
  (dQ:∀b∈ch,(b∈X.ex\/X.s₀.heap.objs.size<=b)/\b≠X.env.locals/\(∀x c,X.env.cells.lookup x=some c->c≠b)/\∀p∈X.pn++wv,p.1≠b):Inv X wv σ H' s':=by
 obtain⟨h',g',d',t',o'⟩:=s';have e:o'=s.os:=ho;subst e;exact I.call (g':=g') (t':=t') (d':=d') u aB hg dQ
end
abbrev XK:=Value->Option Addr->Hp->Prop
abbrev St:=List (Option V)
abbrev VK:=V->Hp->Prop
abbrev TE:=St->Hp->VK->Prop
abbrev TT:=St->Hp->(Bool->Hp->Prop)->Prop
abbrev TA:=St->Hp->(List V->Hp->Prop)->Prop
structure Ends where
 nx:St->Hp->Prop
 rt:VK
 bk:St->Hp->Prop:=fun _ _=>False
 ct:St->Hp->Prop:=fun _ _=>False
abbrev TS:=Ends->St->Hp->Prop
def EP(X:Cx)(wv:List (Addr×Obj))(σ:St)(Q:VK)(u:Value)(s':Shared):Prop:= ∃v H',Inv X wv σ H' s'/\RelV v u/\Q v H'
def TP(X:Cx)(wv:List (Addr×Obj))(σ:St)(Q:Bool->Hp->Prop)(b:Bool)(s':Shared):Prop:= ∃H',Inv X wv σ H' s'/\Q b H'
def AP(X:Cx)(wv:List (Addr×Obj))(σ:St)(Q:List V->Hp->Prop)(us:List Value)(s':Shared):Prop:= ∃vs H',Inv X wv σ H' s'/\Vals vs us/\Q vs H'
def SP(X:Cx)(wv:List (Addr×Obj))(D:Ends)(f:Flow)(s':Shared):Prop:=
 match f with
 |.next=>∃σ' H',Inv X wv σ' H' s'/\D.nx σ' H'
 |.brk=>∃σ' H',Inv X wv σ' H' s'/\D.bk σ' H'
 |.cont=>∃σ' H',Inv X wv σ' H' s'/\D.ct σ' H'
 |.ret u=>∃v σ' H',Inv X wv σ' H' s'/\RelV v u/\D.rt v H'
def PE(X:Cx)(e:Expr)(t:TE):Prop:=
 ∀(wv:List (Addr×Obj)) (s:Shared) (σ:St) (H:Hp) (Q:VK),Inv X wv σ H s->t σ H Q->wpAny (model X.prog X.w) X.A (eval e X.env) (EP X wv σ Q) X.xe s
def PT(X:Cx)(e:Expr)(t:TT):Prop:=
 ∀(wv:List (Addr×Obj)) (s:Shared) (σ:St) (H:Hp) (Q:Bool->Hp->Prop),Inv X wv σ H s->t σ H Q->wpAny (model X.prog X.w) X.A (isTrue e X.env<|eval e X.env) (TP X wv σ Q) X.xe s
def PW(X:Cx)(e:Expr)(t:TT):Prop:=
 ∀(whole:Sem Value) (wv:List (Addr×Obj)) (s:Shared) (σ:St) (H:Hp) (Q:Bool->Hp->Prop),Inv X wv σ H s->t σ H Q->wpAny (model X.prog X.w) X.A (isTrue e X.env whole) (TP X wv σ Q) X.xe s
theorem PW.pt{X:Cx}{e:Expr}{t:TT}(h:PW X e t):PT X e t:=h _
def PA(X:Cx)(es:List Expr)(t:TA):Prop:=
 ∀(pos:Pos) (wv:List (Addr×Obj)) (s:Shared) (σ:St) (H:Hp) (Q:List V->Hp->Prop),Inv X wv σ H s->t σ H Q->wpAny (model X.prog X.w) X.A (spliced<|backTo pos<|starEach es X.env) (AP X wv σ Q) X.xe s
def PS(X:Cx)(st:Stmt)(t:TS):Prop:=
 ∀(wv:List (Addr×Obj)) (s:Shared) (σ:St) (H:Hp) (D:Ends),Inv X wv σ H s->t D σ H->wpAny (model X.prog X.w) X.A (exec st X.env) (SP X wv D) X.xe s
def cP(X:Cx)(st:List Stmt)(t:TS):Prop:=
 ∀(wv:List (Addr×Obj)) (s:Shared) (σ:St) (H:Hp) (D:Ends),Inv X wv σ H s->t D σ H->wpAny (model X.prog X.w) X.A (execs st X.env) (SP X wv D) X.xe s
theorem aG{α:Type}{t:Sem α}{Q Q':α->Shared->Prop}{M:Model}{A:Around}{E:Value->Shared->Prop}{s:Shared}(h:wpAny M A t Q E s)(hQ:∀a s,Q a s->Q' a s):wpAny M A t Q' E s:=wpAny_mono h hQ fun _ _ x=>x
section
variable {X:Cx}
def zT(i:Nat):TE:=fun σ H Q=>∃v,σ[i]?=some (some v)/\Q v H
def tC(v:V):TE:=fun _ H Q=>Q v H
theorem O9{i:Nat}{x:Str}{pos:Pos}(hN:X.N[i]?=some x)(hv:vX X.env.scope x)(hd:(x==("__debug__":Str))=false:=by decide)(iK:(x==("__classdict__":Str))=false:=by decide):PE X (.Name x pos) (zT i):=by
 intro wv s σ H Q I h;obtain⟨v,e,h⟩:=h;obtain⟨m,hn,hl⟩:=I.loc;obtain⟨u,r,l⟩:=hl i x v hN e hv;have fin:EP X wv σ Q u s:=⟨v,H,I,r,h⟩;rcases l with⟨hk,hm⟩|⟨hk,c,hc,EK⟩
 ·exact wpAny_Name (wpAny_loadName_local I.ok.kind hk hn hm fin) hd
 ·rcases hk with hk|hk
  ·exact wpAny_Name (wpAny_loadName_cell I.ok.kind hk hc EK fin) hd
  ·exact wpAny_Name (wpAny_loadName_free I.ok.kind hk hc EK fin iK) hd
theorem O_{i j pos}:PE X (.Constant (.int i) j pos) (tC<|.int i):=fun _ _ _ H _ I h=>wpAny_Constant_int ⟨.int i,H,I.tok _,⟨_,rfl⟩,h⟩
theorem Pa{b j pos}:PE X (.Constant (.bool b) j pos) (tC<|.bl b):=fun _ _ _ H _ I h=>Constant_bool ⟨.bl b,H,I,rfl,h⟩
theorem Pb{j pos}:PE X (.Constant .none j pos) (tC .az):=fun _ _ _ H _ I h=>Constant_none ⟨.az,H,I,rfl,h⟩
theorem Pc{x j pos}:PE X (.Constant (.str x) j pos) (tC<|.str x):=fun _ _ _ H _ I h=>Calls.Constant_str ⟨.str x,H,I.tok _,⟨_,rfl⟩,h⟩
def Gl(X:Cx)(x:Str):Prop:=X.env.kindOf x=some .globalImplicit
theorem t_{E:Value->Shared->Prop}{wv:List (Addr×Obj)}{s:Shared}{σ:St}{H:Hp}{x:Str}{u:Value}{pos:Pos}{Q:Value->Shared->Prop}(I:Inv X wv σ H s)(hg:Gl X x)(hm:X.mg x=some u)(h:Q u s)
  (hd:(x==("__debug__":Str))=false:=by decide):wpAny (model X.prog X.w) X.A (eval (.Name x pos) X.env) Q E s:=
 Calls.Name_function_global I.ok.kind hg (Calls.loadGlobal_global (by rw[I.ok.glob];exact I.mod.glob.keeps I.bk) hm h) hd
theorem kQ{E:Value->Shared->Prop}{wv:List (Addr×Obj)}{s:Shared}{σ:St}{H:Hp}{x:Str}{u:Value}{pos:Pos}{Q:Value->Shared->Prop}(I:Inv X wv σ H s)(hg:Gl X x)(hm:X.mg x=none)(hv:bootBuiltins x=some u)(h:Q u s)
  (hn:x≠"__name__":=by decide) (hd:(x==("__debug__":Str))=false:=by decide):wpAny (model X.prog X.w) X.A (eval (.Name x pos) X.env) Q E s:=by
 obtain⟨mb,h1,h2⟩:=I.mod.blt;exact Calls.Name_function_global I.ok.kind hg (Calls.loadGlobal_builtin (by rw[I.ok.glob];exact I.mod.glob.keeps I.bk) hm (by rw[I.ok.blt];exact h1.keeps I.bk) ((h2 x hn).trans hv) h) hd
theorem EL{x:Str}{v:V}{u:Value}{pos:Pos}(hg:Gl X x)(hm:X.mg x=some u)(r:RelV v u)(hd:(x==("__debug__":Str))=false:=by decide):PE X (.Name x pos) (tC v):=
 fun _ _ _ H _ I h=>t_ I hg hm ⟨v,H,I,r,h⟩ hd
theorem EM{x:Str}{v:V}{u:Value}{pos:Pos}(hg:Gl X x)(hm:X.mg x=none)(hv:bootBuiltins x=some u)(r:RelV v u)(hn:x≠"__name__":=by decide)(hd:(x==("__debug__":Str))=false:=by decide):PE X (.Name x pos) (tC v):=
 fun _ _ _ H _ I h=>kQ I hg hm hv ⟨v,H,I,r,h⟩ hn hd
variable {a b:Expr}{ta tb:TE}{pos:Pos}
def tB(t:TE):TT:=fun σ H Q=>t σ H fun x H1=>∃c,x=.bl c/\Q c H1
variable {tA wc:TT}{wr:List Expr}
def EN(t u:TT):TT:=fun σ H Q=>t σ H fun c H1=>if c=true then u σ H1 Q else Q false H1
def EO(t u:TT):TT:=fun σ H Q=>t σ H fun c H1=>if c=true then Q true H1 else u σ H1 Q
def ER(t:TT):TT:=fun σ H Q=>t σ H fun c H1=>Q (!c) H1
theorem pw_and1(ha:PT X a tA):PW X (.BoolOp .And [a] pos) tA:=by
 intro wh wv s σ H Q I h;refine isTrue_and<|aG (ha wv s σ H Q I h) fun c s1 e=>?_;cases c with
 |true=>exact isTrue_and_nil e
 |false=>exact e
theorem pw_or1(ha:PT X a tA):PW X (.BoolOp .Or [a] pos) tA:=by
 intro wh wv s σ H Q I h;refine isTrue_or<|aG (ha wv s σ H Q I h) fun c s1 e=>?_;cases c with
 |false=>exact isTrue_or_nil e
 |true=>exact e
theorem pw_and(ha:PT X a tA)(hb:PW X (.BoolOp .And (b::wr) pos) wc):PW X (.BoolOp .And (a::b::wr) pos) (EN tA wc):=by
 intro wh wv s σ H Q I h;refine isTrue_and<|aG (ha wv s σ H _ I h) fun c s1 ⟨H1,I1,q1⟩=>?_;cases c with
 |true=>exact hb wh wv s1 σ H1 Q I1 q1
 |false=>exact⟨H1,I1,q1⟩
theorem pw_or(ha:PT X a tA)(hb:PW X (.BoolOp .Or (b::wr) pos) wc):PW X (.BoolOp .Or (a::b::wr) pos) (EO tA wc):=by
 intro wh wv s σ H Q I h;refine isTrue_or<|aG (ha wv s σ H _ I h) fun c s1 ⟨H1,I1,q1⟩=>?_;cases c with
 |true=>exact⟨H1,I1,q1⟩
 |false=>exact hb wh wv s1 σ H1 Q I1 q1
theorem Pd(ha:PT X a tA):PT X (.UnaryOp .Not a pos) (ER tA):=by
 intro wv s σ H Q I h;exact isTrue_not<|ha wv s σ H (fun c H1=>Q (!c) H1) I h
def ES(ta tb:TE):TE:=fun σ H Q=>ta σ H fun x H1=>∃c,x=.bl c/\if c=true then tb σ H1 Q else Q (.bl false) H1
def Pe(ta tb:TE):TE:=fun σ H Q=>ta σ H fun x H1=>∃c,x=.bl c/\if c=true then Q (.bl true) H1 else tb σ H1 Q
theorem Pf{op}{t:TE}(h:PE X a t):PE X (.BoolOp op [a] pos) t:=fun wv s σ H Q I hw=>BoolOp_one (h wv s σ H Q I hw)
theorem Pg(ha:PE X a ta)(hb:PE X (.BoolOp .And (b::wr) pos) tb):PE X (.BoolOp .And (a::b::wr) pos) (ES ta tb):=by
 intro wv s σ H Q I h;refine BoolOp_and<|aG (ha wv s σ H _ I h) fun v s1 ⟨x,H1,I1,r1,q1⟩=>?_;obtain⟨c,rfl,q1⟩:=q1;cases r1;refine wpAny_truthy_bool ?_;cases c with
 |true=>exact hb wv s1 σ H1 Q I1 q1
 |false=>exact⟨.bl false,H1,I1,rfl,q1⟩
def ET(t:TT)(ta tb:TE):TE:=fun σ H Q=>t σ H fun c H1=>if c=true then ta σ H1 Q else tb σ H1 Q
theorem Ph{c:Expr}(hc:PT X c tA)(ha:PE X a ta)(hb:PE X b tb):PE X (.IfExp c a b pos) (ET tA ta tb):=by
 intro wv s σ H Q I h;refine wpAny_IfExp<|aG (hc wv s σ H _ I h) fun d s1 ⟨H1,I1,q1⟩=>?_;cases d with
 |true=>exact ha wv s1 σ H1 Q I1 q1
 |false=>exact hb wv s1 σ H1 Q I1 q1
end
def av(K:Frag)(H:Hp)(a:Addr)(xs:List V):Prop:=
 Rd H a (.lst xs)\/
  ∃(o:Obj) (ao:Array Value) (n:Nat),K.lookup a=some o/\o.cls=.type "list"/\o.dict=none/\o.data=.seq ao n/\ao.size<=sizeLine/\Vals xs ao.toList
def aM(K:Frag)(H:Hp)(a:Addr)(xs:List V):Prop:=
 Rd H a (.tup xs)\/
  ∃(o:Obj) (ao:Array Value) (n:Nat),K.lookup a=some o/\o.cls=.type "tuple"/\o.data=.seq ao n/\ao.size<=sizeLine/\Vals xs ao.toList
def Pj:Value->Option V
 |.none=>some .az
 |.bool b=>some (.bl b)
 |.int i _=>some (.int i)
 |.str x _=>some (.str x)
 |.bytes b _=>some (.gy b)
 |.float b _=>some (.nR b)
 |.ref a=>some (.ref a)
 |.type n=>some (.ty n)
 |_=>none
theorem RelV.abs{x:V}{u:Value}(r:RelV x u):Pj u=some x:=by
 cases x with
 |az=>cases r;rfl
 |bl _=>cases r;rfl
 |int _=>obtain⟨t,rfl⟩:=r;rfl
 |str _=>obtain⟨t,rfl⟩:=r;rfl
 |gy _=>obtain⟨t,rfl⟩:=r;rfl
 |nR _=>obtain⟨t,rfl⟩:=r;rfl
 |ref _=>cases r;rfl
 |ty _=>cases r;rfl
theorem RelV.inj{x y:V}{u:Value}(r:RelV x u)(q:RelV y u):x=y:=zao (r.abs.symm.trans q.abs)
theorem Vals.inj:∀{xs ys:List V}{us:List Value},Vals xs us->Vals ys us->xs=ys
 |_,_,_,.nil,.nil=>rfl
 |_,_,_,.cons r t,.cons r' t'=>by rw[r.inj r',Vals.inj t t']
section
variable {X:Cx}{wv:List (Addr×Obj)}{σ:St}{H:Hp}{s:Shared}{a:Addr}{xs ys:List V}
theorem av.of{K:Frag}(h:H a=some (.lst xs)):av K H a xs:=.inl (.inl h)
theorem aM.of{K:Frag}(h:H a=some (.tup xs)):aM K H a xs:=.inl (.inl h)
theorem Inv.list(I:Inv X wv σ H s)(h:av X.K H a xs):∃ao:List Value,Vals xs ao/\PlainL s.heap a ao.toArray/\xs.length<=sizeLine:=by
 rcases h with h|⟨o,ao,n,hk,hc,hd,hs,hz,r⟩
 ·obtain⟨z,ao,n,r,e⟩:=h.ok I.aB;exact⟨ao,r,⟨_,n,e,rfl,rfl,rfl⟩,z⟩
 ·refine⟨ao.toList,r,⟨o,n,I.cX a o hk,hc,hd,by simpa using hs⟩,?_⟩
  have e:=r.length
  simp only[zcd] at e
  omega
theorem Inv.tuple(I:Inv X wv σ H s)(h:aM X.K H a xs):∃ao:List Value,Vals xs ao/\IsTup s.heap a ao.toArray/\xs.length<=sizeLine:=by
 rcases h with h|⟨o,ao,n,hk,hc,hs,hz,r⟩
 ·obtain⟨z,ao,r,p⟩:=h.ok I.aB;exact⟨ao,r,p,z⟩
 ·refine⟨ao.toList,r,⟨o,I.cX a o hk,hc,n,by simpa using hs⟩,?_⟩
  have e:=r.length
  simp only[zcd] at e
  omega
theorem Inv.we(I:Inv X wv σ H s)(h:av X.K H a xs)(h':av X.K H a ys):xs=ys:=by
 obtain⟨ao,r,⟨o,n,e,_,_,d⟩,_⟩:=I.list h;obtain⟨iL,r',⟨o',n',e',_,_,d'⟩,_⟩:=I.list h';rw[e] at e';cases e';rw[d] at d'
 injection d' with d1 _
 have:ao=iL:=by simpa using congrArg Array.toList d1
 subst this;exact r.inj r'
end
section
variable {X:Cx}{st:Stmt}{wr:List Stmt}{t u:TS}{e:Expr}{te:TE}{pos:Pos}
def zU:TS:=fun D σ H=>D.nx σ H
def EU(t u:TS):TS:=fun D σ H=>t {D with nx:=u D} σ H
theorem EV:cP X [] zU:=fun _ _ σ H _ I h=>wpAny_execs_nil ⟨σ,H,I,h⟩
theorem Pk(h1:PS X st t)(h2:cP X wr u):cP X (st::wr) (EU t u):=by
 intro wv s σ H D I h;refine wpAny_execs_cons<|aG (h1 wv s σ H {D with nx:=u D} I h) fun f s1 q=>?_
 cases f with
 |next=>
  obtain⟨σ',H',I',q⟩:=q;exact h2 wv s1 σ' H' D I' q
 |ret v=>exact q
 |brk=>exact q
 |cont=>exact q
def Pl:TS:=fun D σ H=>D.bk σ H
def EW:TS:=fun D σ H=>D.ct σ H
theorem Pm:PS X (.Continue pos) EW:=fun _ _ σ H _ I h=>wpAny_Continue ⟨σ,H,I,h⟩
theorem Inv.quiet{wv:List (Addr×Obj)}{σ:St}{H:Hp}{s:Shared}(I:Inv X wv σ H s):interactive X.env=false:=by simp[interactive,I.ok.kind]
def EX(te:TE):TS:=fun D σ H=>te σ H fun _ H1=>D.nx σ H1
theorem Pn(he:PE X e te)(hs:swapsWith e none pos.line X.env=pure false:=by rfl):PS X (.Expr e pos) (EX te):=by
 intro wv s σ H D I h;exact wpAny_Expr_any (aG (he wv s σ H _ I h) fun v s1 ⟨x,H1,I1,r1,q1⟩=>⟨σ,H1,I1,q1⟩) I.quiet hs
def EY(te:TE):TS:=fun D σ H=>te σ H D.rt
theorem Po(he:PE X e te):PS X (.Return (some e) pos) (EY te):=by
 intro wv s σ H D I h;exact wpAny_Return_some<|aG (he wv s σ H _ I h) fun v s1 ⟨x,H1,I1,r1,q1⟩=>⟨x,σ,H1,I1,r1,q1⟩
def Pp:TS:=fun D _ H=>D.rt .az H
def EZ(c:TT)(t u:TS):TS:=fun D σ H=>c σ H fun b H1=>if b=true then t D σ H1 else u D σ H1
theorem Pq{c:Expr}{a b:List Stmt}{tc:TT}(hc:PT X c tc)(ha:cP X a t)(hb:cP X b u):PS X (.If c a b pos) (EZ tc t u):=by
 intro wv s σ H D I h;refine wpAny_If<|aG (hc wv s σ H _ I h) fun d s1 ⟨H1,I1,q1⟩=>?_;cases d with
 |true=>exact ha wv s1 σ H1 D I1 q1
 |false=>exact hb wv s1 σ H1 D I1 q1
def Pr:TS:=fun _ _ _=>False
end
abbrev TG:=V->St->Hp->(St->Hp->Prop)->Prop
abbrev kR:=List V->St->Hp->(St->Hp->Prop)->Prop
def PG(X:Cx)(target:Expr)(t:TG):Prop:=
 ∀(wv:List (Addr×Obj)) (s:Shared) (σ:St) (H:Hp) (v:V) (u:Value) (Q:St->Hp->Prop),Inv X wv σ H s->RelV v u->t v σ H Q->
  wpAny (model X.prog X.w) X.A (assign target X.env u) (fun _ s'=>∃σ' H',Inv X wv σ' H' s'/\Q σ' H') X.xe s
def rD(X:Cx)(ts:List Expr)(t:kR):Prop:=
 ∀(wv:List (Addr×Obj)) (s:Shared) (σ:St) (H:Hp) (vs:List V) (us:List Value) (Q:St->Hp->Prop),Inv X wv σ H s->Vals vs us->t vs σ H Q->
  wpAny (model X.prog X.w) X.A (assignInOrder ((assignEach ts X.env).map (·.2)) us) (fun _ s'=>∃σ' H',Inv X wv σ' H' s'/\Q σ' H') X.xe s
abbrev zV:=V->V->V->Hp->(Hp->Prop)->Prop
def E1(X:Cx)(t:zV):Prop:=
 ∀(wv:List (Addr×Obj)) (s:Shared) (σ:St) (H:Hp) (o i v:V) (ov iv u:Value) (Q:Hp->Prop),Inv X wv σ H s->RelV o ov->RelV i iv->RelV v u->t o i v H Q->
  wpAny (model X.prog X.w) X.A (setItem ov iv u) (fun _ s'=>∃H',Inv X wv σ H' s'/\Q H') X.xe s
section
variable {X:Cx}{pos:Pos}
def fX(i:Nat):TG:=fun v σ H Q=>Q (σ.set i<|some v) H
theorem wg{i:Nat}{x:Str}(hN:X.N.Nodup)(hi:X.N[i]?=some x)(hx:Loc X.env.scope x)(hf:X.fn x=true\/X.env.scope.names.lookup x=some .local:=by first|exact .inl rfl|exact .inr rfl|assumption):PG X (.Name x pos) (fX i):=by
 intro wv s σ H v u Q I r h;exact wpAny_assign_Name<|zR I hN hi hx r (fun s' I'=>⟨_,H,I',h⟩) hf
def zW:kR:=fun vs σ H Q=>vs=[]/\Q σ H
def wj(t:TG)(u:kR):kR:=fun vs σ H Q=>∃v r,vs=v::r/\t v σ H fun σ' H'=>u r σ' H' Q
theorem E2:rD X [] zW:=by
 intro wv s σ H vs us Q I r h;obtain⟨e,h⟩:=h;subst e;cases r;exact assignInOrder_nil ⟨σ,H,I,h⟩
theorem zX{e:Expr}{es:List Expr}{t:TG}{u:kR}(h1:PG X e t)(h2:rD X es u)
  (hs:(assignEach (e::es) X.env).map (·.2)=assign e X.env::(assignEach es X.env).map (·.2):=by rfl):rD X (e::es) (wj t u):=by
 intro wv s σ H vs us Q I r h;obtain⟨v,vr,e1,h⟩:=h;subst e1;cases r with
 |cons r rr=>
  rw[hs];refine assignInOrder_cons<|aG (h1 wv s σ H _ _ _ I r h) fun _ s1 ⟨σ1,H1,I1,q1⟩=>?_;exact h2 wv s1 σ1 H1 _ _ Q I1 rr q1
def E3(K:Frag)(n:Nat)(t:kR):TG:=fun v σ H Q=>∃a xs,v=.ref a/\aM K H a xs/\xs.length=n/\t xs σ H Q
theorem E4{es:List Expr}{k:Nat}{t:kR}{n:Nat}(hc:X.calm=true)(h:rD X es t)
  (hn:(assignEach es X.env).length=n:=by rfl) (gA:(assignEach es X.env).findIdx? (·.1)=none:=by rfl):PG X (.Tuple es k pos) (E3 X.K n t):=by
 intro wv s σ H v u Q I r hw;obtain⟨a,xs,e1,hq,hl,hw⟩:=hw;subst e1;cases r;obtain⟨ao,rv,ht,hz⟩:=I.tuple hq;refine assign_Tuple_tuple (I.ok.hd hc) ht (by simp[hn,<-hl,rv.length]) gA fun h' hx=>?_
 have I1:Inv X wv σ H {s with heap:=h'}:=I.kept (t':=s.toks) fun b o e=>hx b o (zap<|Heap.lt_size e) e
 exact h wv _ σ H xs _ Q I1 (by simpa using rv) hw
def E5(to ti:TE)(t:zV):TG:=fun v σ H Q=>to σ H fun o H1=>ti σ H1 fun i H2=>t o i v H2 fun H3=>Q σ H3
theorem Pu{o i:Expr}{to ti:TE}{t:zV}(ho:PE X o to)(hi:PE X i ti)(hs:E1 X t)
  (ha:∀v,assign (.Subscript o i pos) X.env v=(do
   let ov <-holding [v] (eval o X.env)
   let iv <-holding [v,ov] (eval i X.env)
   standAt pos
   holding [v,ov,iv] (setItem ov iv v)
   release [v,ov,iv] []):=by intro _;rfl):PG X (.Subscript o i pos) (E5 to ti t):=by
 intro wv s σ H v u Q I r h;rw[ha];refine wpAny_bind<|wpAny_holding<|aG (ho wv s σ H _ I h) fun ov s1 ⟨x,H1,I1,r1,q1⟩=>?_;refine wpAny_bind<|wpAny_holding<|aG (hi wv s1 σ H1 _ I1 q1) fun iv s2 ⟨y,H2,I2,r2,q2⟩=>?_;refine wpAny_bind<|wpAny_standAt<|wpAny_bind<|wpAny_holding<|aG (hs wv s2 σ H2 x y v ov iv u _ I2 r1 r2 r q2) fun _ s3 ⟨H3,I3,q3⟩=>?_;exact wpAny_release ⟨σ,H3,I3,q3⟩
def kS(te:TE)(g:TG):TS:=fun D σ H=>te σ H fun x H1=>g x σ H1 D.nx
theorem Pw{tg e:Expr}{te:TE}{g:TG}(he:PE X e te)(hg:PG X tg g)(hs:swapsWithSole [tg] e pos.line X.env=pure false:=by rfl)(hw:swappedStores [tg] e X.env=pure none:=by rfl)
  (h1:(assignEach [tg] X.env).map (·.2)=[assign tg X.env]:=by rfl):PS X (.Assign [tg] e pos) (kS te g):=by
 intro wv s σ H D I h;refine wpAny_Assign_stores (aG (he wv s σ H _ I h) fun v s1 ⟨x,H1,I1,r1,q1⟩=>?_) hs hw;rw[h1];exact aG (hg wv s1 σ H1 x v _ I1 r1 q1) fun _ s2 q=>q
theorem Px{i:Nat}{x:Str}{e:Expr}{te:TE}{pos':Pos}(hN:X.N.Nodup)(hi:X.N[i]?=some x)(hx:Loc X.env.scope x)(he:PE X e te)(hs:swapsWith e (some<|.Name x pos') pos.line X.env=pure false:=by rfl)(hf:X.fn x=true\/X.env.scope.names.lookup x=some .local:=by first|exact .inl rfl|exact .inr rfl|assumption):
  PS X (.Assign [.Name x pos'] e pos) (kS te<|fX i):=by
 intro wv s σ H D I h;refine wpAny_Assign_Name (aG (he wv s σ H _ I h) fun v s1 ⟨y,H1,I1,r1,q1⟩=>?_) hs;exact zR I1 hN hi hx r1 (fun s2 I2=>⟨_,H1,I2,q1⟩) hf
end
section
variable {X:Cx}{pos:Pos}
def E6(c:TT)(tb:TS):TS:=fun D σ H=>∃W:Nat->St->Hp->Prop,(∃m,W m σ H)/\∀m σ H,W m σ H->
 c σ H fun b H1=>if b=true then ∃N:St->Hp->Prop,(∀σ' H',N σ' H'->∃m',m'<m/\W m' σ' H')/\tb {D with nx:=N,ct:=N,bk:=D.nx} σ H1 else D.nx σ H1
theorem Py{c:Expr}{body:List Stmt}{tc:TT}{tb:TS}(hp:PassesOwn (model X.prog X.w) X.A X.env X.xe)(hc:PT X c tc)(hb:cP X body tb):PS X (.While c body [] pos) (E6 tc tb):=by
 intro wv s σ H D I h;obtain⟨W,⟨m0,w0⟩,turn⟩:=h;refine wpAny_While<|codeAny_whileLoop (fun n s'=>∃σ' H',Inv X wv σ' H' s'/\W n σ' H') ?_ m0 ⟨σ,H,I,w0⟩;rintro n s1 ⟨σ1,H1,I1,w1⟩;refine wpAny_passesOwn hp<|aG (hc wv s1 σ1 H1 _ I1<|turn n σ1 H1 w1) fun b s2 ⟨H2,I2,q2⟩=>?_;cases b with
 |true=>
  obtain⟨N,hN,q2⟩:=q2;rw[if_pos rfl];refine wpAny_passesOwn hp<|aG (hb wv s2 σ1 H2 _ I2 q2) fun f s3 q3=>?_;cases f with
  |next=>
   obtain⟨σ3,H3,I3,n3⟩:=q3;obtain⟨m',hm,w3⟩:=hN σ3 H3 n3;exact⟨m',hm,σ3,H3,I3,w3⟩
  |cont=>
   obtain⟨σ3,H3,I3,n3⟩:=q3;obtain⟨m',hm,w3⟩:=hN σ3 H3 n3;exact⟨m',hm,σ3,H3,I3,w3⟩
  |brk=>exact q3
  |ret v=>exact q3
 |false=>
  rw[if_neg zav];exact wpAny_execs_nil ⟨σ1,H2,I2,q2⟩
end
structure It where
 go:Nat->Hp->Prop
 fB:Nat->Hp->V->Hp->Prop
 stop:Nat->Hp->Prop
def jw(X:Cx)(wv:List (Addr×Obj))(H:Hp)(b:Addr):Prop:=
 H b=none/\b≠X.env.locals/\b∉X.fs/\(b∈X.ex\/X.s₀.heap.objs.size<=b)/\(∀x c,X.env.cells.lookup x=some c->c≠b)/\∀p∈X.pn++wv,p.1≠b
theorem Inv.wk{X:Cx}{wv:List (Addr×Obj)}{σ:St}{H H':Hp}{s:Shared}{b:Addr}(I:Inv X wv σ H s)(hb:s.heap.objs.size<=b)(hn:H' b=none):jw X wv H' b:=by
 refine⟨hn,zaD<|zan I.lt hb,I.ED hb,.inr<|zay I.sz hb,fun x c e z=>?_,fun p hp z=>?_⟩
 ·obtain⟨v,q⟩:=I.cell x c e;exact absurd (zan q.lt (by rw[z];exact hb))<|zaz _
 ·exact absurd (zan (Heap.lt_size (I.pin p hp).1) (by rw[z];exact hb)) (zaz _)
structure Turn (P:Program) (w:World) (K:Frag) (tg:Expr) (J:It) (fp:List Addr) (it:Addr) (tn:Nat->Heap->Prop):Prop where
 mem:it∈fp
 obj:∀i h,tn i h->∀b∈fp,∃o,h.get? b=some o/\∀v,o.data≠ .cell v
 keep:∀i h h',tn i h->(∀b∈fp,∀o,h.get? b=some o->h'.get? b=some o)->tn i h'
 item:∀(X:Cx),X.prog=P->X.w=w->X.K=K->X.calm=true->∀(i:Nat) (wv:List (Addr×Obj)) (s:Shared) (σ:St) (H:Hp) (E:Value->Shared->Prop),Inv X wv σ H s->(∀b∈fp,jw X wv H b)->tn i s.heap->J.go i H->
  wpAny (model P w) X.A (pyNext (.ref it)) (fun r s1=>∃u,r=some u/\
   wpAny (model P w) X.A (letOwnedTupleGo tg (.ref it) u) (fun _ s2=>∃x H',Inv X wv σ H' s2/\RelV x u/\J.fB i H x H'/\tn (i+1) s2.heap/\∀b∈fp,H' b=none) E s1) E s
 done:∀(X:Cx),X.prog=P->X.w=w->X.K=K->X.calm=true->∀(i:Nat) (wv:List (Addr×Obj)) (s:Shared) (σ:St) (H:Hp) (E:Value->Shared->Prop),Inv X wv σ H s->(∀b∈fp,jw X wv H b)->tn i s.heap->J.stop i H->
  wpAny (model P w) X.A (pyNext<|.ref it) (fun r s1=>r=none/\Inv X wv σ H s1) E s
 self:∀(A:Around) (i:Nat) (s:Shared) (Q:Value->Shared->Prop) (E:Value->Shared->Prop),tn i s.heap->Q (.ref it) s->wpAny (model P w) A (pyIter<|.ref it) Q E s
abbrev TI:=St->Hp->(It->Hp->Prop)->Prop
def E7(X:Cx)(wv:List (Addr×Obj))(σ:St)(tg:Expr)(R:It->Hp->Prop)(pE:Value)(s2:Shared):Prop:=
 ∃(it:Addr) (fp:List Addr) (tn:Nat->Heap->Prop) (J:It) (H':Hp),pE=.ref it/\Inv X wv σ H' s2/\Turn X.prog X.w X.K tg J fp it tn/\tn 0 s2.heap/\(∀b∈fp,jw X wv H' b)/\R J H'
def PI(X:Cx)(tg iter:Expr)(wi:TI):Prop:=
 ∀(wv:List (Addr×Obj)) (s:Shared) (σ:St) (H:Hp) (R:It->Hp->Prop),Inv X wv σ H s->wi σ H R->
  wpAny (model X.prog X.w) X.A (eval iter X.env) (fun v s1=>wpAny (model X.prog X.w) X.A (pyIter v) (E7 X wv σ tg R) X.xe s1) X.xe s
theorem zY{M:Model}{A:Around}{E:Value->Shared->Prop}{s:Shared}{tg:Expr}{it:Addr}{u:Value}{o:Obj}{n:String}{vs:Array Value}{Q:Unit->Shared->Prop}(ho:s.heap.get? it=some o)(hc:o.cls=.type n)(hd:o.data=.fields vs)
    (hn:["enumerate","zip","dict_itemiterator","dict_reverseitemiterator","odict_iterator","itertools.zip_longest","itertools.pairwise"].contains n=false) (hQ:Q () s):wpAny M A (letOwnedTupleGo tg (.ref it) u) Q E s:=by
  unfold letOwnedTupleGo;cases tg<;>first
    |exact wpAny_pure hQ
    | (cases u<;>first
        |exact wpAny_pure hQ
        | (refine wpAny_bind (wpAny_load ho ?_)
           rw[hc,hd];show wpAny M A (if (["enumerate","zip","dict_itemiterator","dict_reverseitemiterator","odict_iterator","itertools.zip_longest","itertools.pairwise"].contains n && vs[0]?==some (rawInt _))=true then _ else _) Q E s
           rw[if_neg (by intro h;rw[hn,Bool.false_and] at h;cases h)]
           exact wpAny_pure hQ))
def eZ(K:Frag)(a:Addr):It:=
 ⟨fun i H=>∃xs x,av K H a xs/\xs[i]?=some x,fun i H x H'=>H'=H/\∀xs,av K H a xs->xs[i]?=some x,fun i H=>∃xs,av K H a xs/\xs.length<=i⟩
def Pz(K:Frag)(a:Addr):It:=
 ⟨fun i H=>∃xs x,aM K H a xs/\xs[i]?=some x,fun i H x H'=>H'=H/\∀xs,aM K H a xs->xs[i]?=some x,fun i H=>∃xs,aM K H a xs/\xs.length<=i⟩
def eK(lo:Int)(n:Nat):It:=⟨fun i _=>i<n,fun i H x H'=>H'=H/\x=.int (lo+i),fun i _=>n<=i⟩
theorem wm{P:Program}{w:World}{K:Frag}{tg:Expr}(a it:Addr):Turn P w K tg (eZ K a) [it] it (fun i h=>h.IsListIter it a i) where
 mem:=by simp
 obj:=fun i h st b hb=>by
  have e:b=it:=by simpa using hb
  subst e;obtain⟨o,e,c,d⟩:=st;exact⟨o,e,fun v z=>by rw[d] at z;cases z⟩
 keep:=fun i h h' st k=>st.at fun o e=>k it (by simp) o e
 item:=by
  intro X hP hw hK hc i wv s σ H E I hf st hg;subst hP hw hK;obtain⟨xs,x,hq,hx⟩:=hg;obtain⟨ao,rv,p,hz⟩:=I.list hq;obtain⟨u,hu,ru⟩:=rv.get hx;obtain⟨f0,f1,f2,f3,f4,f5⟩:=hf it (by simp)
  refine wpAny_pyNext_list_item st p.isList (x:=u) (by simpa using hu) fun h' jU sb=>?_
  have I1:Inv X wv σ H {s with heap:=h'}:=I.turned (t':=s.toks) (fun b o hb e=>(sb.2 b hb).trans e) f0 f1 f3 f4 f5
  obtain⟨o,e,c,d⟩:=id jU;exact⟨u,rfl,zY (s:={s with heap:=h'}) e c d (by decide) ⟨x,H,I1,ru,⟨rfl,fun ys hy=>by rw[I.we hy hq];exact hx⟩,jU,fun b hb=>(hf b hb).1⟩⟩
 done:=by
  intro X hP hw hK hc i wv s σ H E I hf st hg;subst hP hw hK;obtain⟨xs,hq,hx⟩:=hg;obtain⟨ao,rv,p,hz⟩:=I.list hq;obtain⟨f0,f1,f2,f3,f4,f5⟩:=hf it (by simp)
  have hl:=rv.length;exact wpAny_pyNext_list_end (I.ok.hd hc) st p.isList (by simp;omega) fun h' eb=>⟨rfl,I.turned (t':=s.toks) (fun b o hb e=>eb b o hb e) f0 f1 f3 f4 f5⟩
 self:=fun _ _ _ _ _ st h=>wpAny_pyIter_listiter st h
theorem PB{P:Program}{w:World}{K:Frag}{tg:Expr}(it:Addr)(lo:Int)(n:Nat):Turn P w K tg (eK lo n) [it] it (fun i h=>IsRangeIter h it (lo+(i:Nat)*1) ((n:Int) - (i:Nat)) 1) where
 mem:=by simp
 obj:=fun i h st b hb=>by
  have e:b=it:=by simpa using hb
  subst e;exact⟨_,st,fun v z=>by
   have z':Data.fields _=Data.cell v:=z;cases z'⟩
 keep:=fun i h h' st k=>k it (by simp) _ st
 item:=by
  intro X hP hw hK hc i wv s σ H E I hf st hg;subst hP hw hK;obtain⟨f0,f1,f2,f3,f4,f5⟩:=hf it (by simp)
  have W:=Walks.range (prog:=X.prog) (w:=X.w) (I.ok.hd hc) it lo 1 n;refine W.item i s _ _ hg st fun v h' tk hv jU kk=>?_;obtain⟨t,rfl⟩:=hv;have I1:Inv X wv σ H {s with heap:=h',toks:=tk}:=I.turned (fun b o hb e=>kk b o (by simpa using hb) e) f0 f1 f3 f4 f5
  refine⟨_,rfl,zY (s:={s with heap:=h',toks:=tk}) (n:="range_iterator") jU rfl rfl (by decide) ⟨.int<|lo+i,H,I1,⟨t,?_⟩,⟨rfl,rfl⟩,jU,fun b hb=>(hf b hb).1⟩⟩
  rw[Int.mul_one]
 done:=by
  intro X hP hw hK hc i wv s σ H E I hf st hg;subst hP hw hK;obtain⟨f0,f1,f2,f3,f4,f5⟩:=hf it (by simp)
  exact wpAny_pyNext_range_end (I.ok.hd hc) st (by have:n<=i:=hg;omega) fun h' eb=>⟨rfl,I.turned (t':=s.toks) (fun b o hb e=>eb b o hb e) f0 f1 f3 f4 f5⟩
 self:=fun _ _ _ _ _ st h=>wpAny_pyIter_rangeiter st h
section
variable {X:Cx}{tg:Expr}
def ua(K:Frag)(tl:TE):TI:=fun σ H R=>tl σ H fun x H1=>∃a,x=.ref a/\(∃xs,av K H1 a xs)/\R (eZ K a) H1
def PC(K:Frag)(tl:TE):TI:=fun σ H R=>tl σ H fun x H1=>∃a,x=.ref a/\(∃xs,aM K H1 a xs)/\R (Pz K a) H1
theorem PD{l:Expr}{tl:TE}(hl:PE X l tl):PI X tg l (ua X.K tl):=by
 intro wv s σ H R I h;refine aG (hl wv s σ H _ I h) fun v s1 ⟨x,H1,I1,r1,q1⟩=>?_;obtain⟨a,e,⟨xs,hq⟩,q⟩:=q1;subst e;cases r1;obtain⟨ao,rv,p,hz⟩:=I1.list hq;refine wpAny_pyIter_list p.isList ?_;refine⟨s1.heap.objs.size,[s1.heap.objs.size],_,_,H1,rfl,I1.kept (t':=s1.toks) fun b o e=>Heap.get?_push_of_some _ e,wm a _,⟨_,Heap.get?_push_size _ rfl,rfl,rfl⟩,fun b hb=>?_,q⟩;have e:b=s1.heap.objs.size:=by simpa using hb
 subst e;exact I1.wk (zqR _)<|I1.aB.fresh<|zqR _
theorem E8{wv:List (Addr×Obj)}{σ:St}{H:Hp}{s:Shared}{R:It->Hp->Prop}{E:Value->Shared->Prop}{lo hi:Int}{t u v:Tok}{tk:Nat}(I:Inv X wv σ H s)(h1: -(2 ^ 62)<=lo)(h2:lo<2 ^ 62)(h3: -(2 ^ 62)<=hi)(h4:hi<2 ^ 62)
  (q:R (eK lo (hi - lo).toNat) H):wpAny (model X.prog X.w) X.A (pyIter<|.ref s.heap.objs.size) (E7 X wv σ tg R) E {s with heap:=s.heap.push {cls:=.type "range",data:=.fields #[.int lo t,.int hi u,.int 1 v]},toks:=tk}:=by
 refine wpAny_pyIter_range (IsRange.new ..) (small_one h1 h2 h3 h4) ?_;have I1:Inv X wv σ H {s with heap:=s.heap.push {cls:=.type "range",data:=.fields #[.int lo t,.int hi u,.int 1 v]},toks:=tk}:=I.kept fun b o e=>Heap.get?_push_of_some _ e
 refine⟨(s.heap.push {cls:=.type "range",data:=.fields #[.int lo t,.int hi u,.int 1 v]}).objs.size,[(s.heap.push {cls:=.type "range",data:=.fields #[.int lo t,.int hi u,.int 1 v]}).objs.size],_,_,H,rfl,
  I1.kept (t':=tk) fun b o e=>Heap.get?_push_of_some _ e,PB _ lo (hi - lo).toNat,?_,fun b hb=>?_,q⟩
 ·have e1:lo+((0:Nat):Int)*1=lo:=by simp
  have e2:(((hi - lo).toNat:Nat):Int) - ((0:Nat):Int)=Builtin.Range.rangeSize lo hi 1:=by rw[rangeSize_one];split<;>omega
  show IsRangeIter _ _ (lo+((0:Nat):Int)*1) ((((hi - lo).toNat:Nat):Int) - ((0:Nat):Int)) 1;rw[e1,e2];exact Heap.get?_push_size _ rfl
 ·have e:b=(s.heap.push {cls:=.type "range",data:=.fields #[.int lo t,.int hi u,.int 1 v]}).objs.size:=by simpa using hb
  subst e;exact I1.wk (zqR _)<|I1.aB.fresh<|zqR _
def E9(ta:TA):TI:=fun σ H R=>ta σ H fun vs H1=>∃j:Int,vs=[.int j]/\ -(2 ^ 62)<=j/\j<2 ^ 62/\R (eK 0 j.toNat) H1
def E_(ta:TA):TI:=fun σ H R=>ta σ H fun vs H1=>∃i j:Int,vs=[.int i,.int j]/\(-(2 ^ 62)<=i/\i<2 ^ 62/\ -(2 ^ 62)<=j/\j<2 ^ 62)/\R (eK i (j - i).toNat) H1
theorem PF{a:Expr}{ta:TA}{p pos:Pos}(hg:Gl X "range")(hm:X.mg "range"=none)(ha:PA X [a] ta)(hs:starEach [a] X.env=[(false,eval a X.env)]:=by rfl):PI X tg (.Call (.Name "range" p) [a] [] pos) (E9 ta):=by
 intro wv s σ H R I h;refine Call_<|kQ I hg hm boot_range<|PyProof.Rows.callWith_type1 (aG (ha pos wv s σ H _ I h) fun us s1 ⟨vs,H1,I1,r1,q1⟩=>?_) hs rfl;obtain⟨j,e,q1,q2,q⟩:=q1;subst e;cases r1 with
 |cons r rr=>
  cases rr;obtain⟨t,rfl⟩:=r;exact call_range_1<|E8 I1 (by omega) (by omega) q1 q2 (by simpa using q)
theorem PH{a b:Expr}{ta:TA}{p pos:Pos}(hg:Gl X "range")(hm:X.mg "range"=none)(ha:PA X [a,b] ta)(hs:starEach [a,b] X.env=[(false,eval a X.env),(false,eval b X.env)]:=by rfl)(jV:starEach [b] X.env=[(false,eval b X.env)]:=by rfl):
  PI X tg (.Call (.Name "range" p) [a,b] [] pos) (E_ ta):=by
 intro wv s σ H R I h;refine Call_<|kQ I hg hm boot_range<|PyProof.Rows.callWith_type1 (aG (ha pos wv s σ H _ I h) fun us s1 ⟨vs,H1,I1,r1,q1⟩=>?_) (by rw[hs,jV]) (by rw[jV];rfl)
 obtain⟨i,j,e,⟨q1,q2,q3,q4⟩,q⟩:=q1;subst e;cases r1 with
 |cons r rr=>
  cases rr with
  |cons r' rr=>
   cases rr;obtain⟨t,rfl⟩:=r;obtain⟨t',rfl⟩:=r';exact call_range_2<|E8 I1 q1 q2 q3 q4 q
def wo(wi:TI)(g:TG)(tb:TS):TS:=fun D σ H=>wi σ H fun J H1=>∃W:Nat->Nat->St->Hp->Prop,(∃m,W 0 m σ H1)/\∀i m σ H,W i m σ H->
 (J.stop i H/\D.nx σ H)\/(J.go i H/\∃N:St->Hp->Prop,(∀σ' H',N σ' H'->∃m',m'<m/\W (i+1) m' σ' H')/\∀x H',J.fB i H x H'->g x σ H' fun σ2 H2=>tb {D with nx:=N,ct:=N,bk:=D.nx} σ2 H2)
def rE(fp:List Addr)(h:Heap):List (Addr×Obj):=fp.filterMap fun b=>(h.get? b).map fun o=>(b,o)
theorem wq{fp:List Addr}{h:Heap}{b:Addr}{o:Obj}(hb:b∈fp)(e:h.get? b=some o):(b,o)∈rE fp h:=zbv.mpr ⟨b,hb,by rw[e];rfl⟩
theorem PJ{fp:List Addr}{h:Heap}{p:Addr×Obj}(hp:p∈rE fp h):p.1∈fp/\h.get? p.1=some p.2:=by
 obtain⟨b,hb,e⟩:=zbv.mp hp;cases q:h.get? b with
 |none=>rw[q] at e;cases e
 |some o=>
  rw[q] at e;have e':(b,o)=p:=zao e;subst e';exact⟨hb,q⟩
theorem Inv.pinned{wv:List (Addr×Obj)}{σ:St}{H:Hp}{s:Shared}{fp:List Addr}(I:Inv X wv σ H s)(hf:∀b∈fp,jw X wv H b)(ho:∀b∈fp,∃o,s.heap.get? b=some o/\∀v,o.data≠ .cell v):Inv X (wv++rE fp s.heap) σ H s:=
 I.rC fun p hp=>(zaa.mp hp).elim (fun z=>I.pin p<|zau _ z) fun z=>by
  obtain⟨hb,e⟩:=PJ z;obtain⟨f0,f1,f2,_⟩:=hf p.1 hb;obtain⟨o,e',d⟩:=ho p.1 hb;rw[e] at e';cases e';exact⟨e,f0,f1,f2,d⟩
theorem Inv.zZ{wv pl:List (Addr×Obj)}{σ:St}{H:Hp}{s:Shared}(I:Inv X (wv++pl) σ H s):Inv X wv σ H s:=I.rC fun p hp=>I.pin p (zau _<|zaA _ hp)
theorem Fb{iter:Expr}{body:List Stmt}{wi:TI}{g:TG}{tb:TS}{pos:Pos}(hp:PassesOwn (model X.prog X.w) X.A X.env X.xe)(hc:X.calm=true)(hi:PI X tg iter wi)(hg:PG X tg g)(hb:cP X body tb)
  (hs:∀x,foldedSetIterable iter X.env x=pure x:=by intro _;rfl):PS X (.For tg iter body [] pos) (wo wi g tb):=by
 intro wv s σ H D I h;refine wpAny_For (aG (hi wv s σ H _ I h) fun v s1 h1=>aG h1 fun pE s2 h2=>?_) hs;obtain⟨it,fp,tn,J,H2,e,I2,T,ub,f2,W,⟨m0,w0⟩,turn⟩:=h2;subst e;have pF:∀{H':Hp},(∀b∈fp,H' b=none)->∀b∈fp,jw X wv H' b:=fun hn b hb=>⟨hn b hb,(f2 b hb).2⟩;refine codeAny_forLoop_any (fun n s'=>∃i σ' H',Inv X wv σ' H' s'/\tn i s'.heap/\(∀b∈fp,H' b=none)/\W i n σ' H') ?_ m0 ⟨0,σ,H2,I2,ub,fun b hb=>(f2 b hb).1,w0⟩;rintro n s3 ⟨i,σ3,H3,I3,Fc,Fd,w3⟩;rcases turn i n σ3 H3 w3 with⟨stop,qn⟩|⟨go,N,hN,step⟩
 ·refine wpAny_passesOwn hp (aG (T.done X rfl rfl rfl hc i wv s3 σ3 H3 X.xe I3 (pF Fd) Fc stop) fun r s4 ⟨hr,I4⟩=>?_);subst hr;exact wpAny_execs_nil ⟨σ3,H3,I4,qn⟩
 ·refine wpAny_passesOwn hp (aG (T.item X rfl rfl rfl hc i wv s3 σ3 H3 X.xe I3 (pF Fd) Fc go) fun r s4 ⟨u,hr,h4⟩=>?_);subst hr;refine wpAny_passesOwn hp<|aG h4 fun _ s5 ⟨x,H5,I5,r5,y5,pG,z6⟩=>?_;have uc:=I5.pinned (pF z6) (T.obj _ _ pG);refine wpAny_passesOwn hp<|aG (hg _ s5 σ3 H5 x u _ uc r5<|step x H5 y5) fun _ s6 ⟨σ6,H6,I6,q6⟩=>?_;refine wpAny_passesOwn hp<|aG (hb _ s6 σ6 H6 _ I6 q6) fun f s7 q7=>?_;have again:∀{σ7:St}{H7:Hp},Inv X (wv++rE fp s5.heap) σ7 H7 s7->N σ7 H7->∃m,m<n/\∃i σ' H',Inv X wv σ' H' s7/\tn i s7.heap/\(∀b∈fp,H' b=none)/\W i m σ' H':=fun {σ7 H7} I7 n7=>by
   obtain⟨m',hm,w7⟩:=hN σ7 H7 n7;refine⟨m',hm,i+1,σ7,H7,I7.zZ,T.keep _ _ _ pG fun b hb o e=>(I7.pin (b,o)<|zau _<|zau _<|wq hb e).1,fun b hb=>?_,w7⟩;obtain⟨o,e,d⟩:=T.obj _ _ pG b hb;exact(I7.pin (b,o)<|zau _<|zau _<|wq hb e).2.1
  cases f with
  |next=>obtain⟨σ7,H7,I7,n7⟩:=q7;exact again I7 n7
  |cont=>obtain⟨σ7,H7,I7,n7⟩:=q7;exact again I7 n7
  |brk=>obtain⟨σ7,H7,I7,q7⟩:=q7;exact⟨σ7,H7,I7.zZ,q7⟩
  |ret v=>obtain⟨x7,σ7,H7,I7,r7,q7⟩:=q7;exact⟨x7,σ7,H7,I7.zZ,r7,q7⟩
end
theorem kT{K:Frag}{a:Addr}{xs:List V}{g:TG}{tb:TS}{D:Ends}{σ:St}{H:Hp}(Pv:Nat->St->Hp->Prop)(h0:Pv 0 σ H)(hl:∀i σ H,i<=xs.length->Pv i σ H->av K H a xs)
  (hs:∀i x σ H,xs[i]?=some x->Pv i σ H->g x σ H fun σ2 H2=>tb {D with nx:=Pv (i+1),ct:=Pv (i+1),bk:=D.nx} σ2 H2) (hd:∀σ H,Pv xs.length σ H->D.nx σ H):
  ∃W:Nat->Nat->St->Hp->Prop,(∃m,W 0 m σ H)/\∀i m σ H,W i m σ H->
   ((eZ K a).stop i H/\D.nx σ H)\/((eZ K a).go i H/\∃N:St->Hp->Prop,(∀σ' H',N σ' H'->∃m',m'<m/\W (i+1) m' σ' H')/\∀x H',(eZ K a).fB i H x H'->g x σ H' fun σ2 H2=>tb {D with nx:=N,ct:=N,bk:=D.nx} σ2 H2):=by
 refine⟨fun i m σ H=>m=xs.length - i/\i<=xs.length/\Pv i σ H,⟨xs.length,by simp,zqZ _,h0⟩,?_⟩
 rintro i m σ H ⟨rfl,hi,p⟩;have q:=hl i σ H hi p;by_cases aN:i<xs.length
 ·refine .inr ⟨⟨xs,xs[i],q,by simp[aN]⟩,Pv<|i+1,fun σ' H' p'=>⟨xs.length - (i+1),by omega,rfl,aN,p'⟩,fun x H' y=>?_⟩
  obtain⟨e,y⟩:=y;subst e;exact hs i x σ _ (y xs q) p
 ·have e:i=xs.length:=by omega
  subst e;exact .inl ⟨⟨xs,q,zqR _⟩,hd σ H p⟩
theorem Fe{lo:Int}{n:Nat}{g:TG}{tb:TS}{D:Ends}{σ:St}{H:Hp}(Pv:Nat->St->Hp->Prop)(h0:Pv 0 σ H)
  (hs:∀i σ H,i<n->Pv i σ H->g (.int<|lo+i) σ H fun σ2 H2=>tb {D with nx:=Pv (i+1),ct:=Pv (i+1),bk:=D.nx} σ2 H2) (hd:∀σ H,Pv n σ H->D.nx σ H):
  ∃W:Nat->Nat->St->Hp->Prop,(∃m,W 0 m σ H)/\∀i m σ H,W i m σ H->
   ((eK lo n).stop i H/\D.nx σ H)\/((eK lo n).go i H/\∃N:St->Hp->Prop,(∀σ' H',N σ' H'->∃m',m'<m/\W (i+1) m' σ' H')/\∀x H',(eK lo n).fB i H x H'->g x σ H' fun σ2 H2=>tb {D with nx:=N,ct:=N,bk:=D.nx} σ2 H2):=by
 refine⟨fun i m σ H=>m=n - i/\i<=n/\Pv i σ H,⟨n,by simp,zqZ _,h0⟩,?_⟩
 rintro i m σ H ⟨rfl,hi,p⟩;by_cases aN:i<n
 ·refine .inr ⟨aN,Pv<|i+1,fun σ' H' p'=>⟨n - (i+1),by omega,rfl,aN,p'⟩,fun x H' y=>?_⟩
  obtain⟨e,y⟩:=y;subst e y;exact hs i σ _ aN p
 ·have e:i=n:=by omega
  subst e;exact .inl ⟨zqR _,hd σ H p⟩
abbrev R2:=V->V->Hp->VK->Prop
def bw(X:Cx)(f:Value->Value->Sem Value)(r:R2):Prop:=
 ∀(wv:List (Addr×Obj)) (s:Shared) (σ:St) (H:Hp) (x y:V) (v u:Value) (Q:VK),Inv X wv σ H s->RelV x v->RelV y u->r x y H Q->
  wpAny (model X.prog X.w) X.A (f v u) (EP X wv σ Q) X.xe s
def wt(X:Cx)(f:Value->Sem Value)(r:V->Hp->VK->Prop):Prop:=
 ∀(wv:List (Addr×Obj)) (s:Shared) (σ:St) (H:Hp) (x:V) (v:Value) (Q:VK),Inv X wv σ H s->RelV x v->r x H Q->
  wpAny (model X.prog X.w) X.A (f v) (EP X wv σ Q) X.xe s
def dD(X:Cx)(f:Value)(r:List V->Hp->VK->Prop):Prop:=
 ∀(wv:List (Addr×Obj)) (s:Shared) (σ:St) (H:Hp) (xs:List V) (us:List Value) (Q:VK),Inv X wv σ H s->Vals xs us->r xs H Q->
  wpAny (model X.prog X.w) X.A (call f us) (EP X wv σ Q) X.xe s
def PK(X:Cx)(r:V->Hp->(Bool->Hp->Prop)->Prop):Prop:=
 ∀(wv:List (Addr×Obj)) (s:Shared) (σ:St) (H:Hp) (x:V) (v:Value) (Q:Bool->Hp->Prop),Inv X wv σ H s->RelV x v->r x H Q->
  wpAny (model X.prog X.w) X.A (truthy v) (TP X wv σ Q) X.xe s
def fO(r:R2)(ta tb:TE):TE:=fun σ H Q=>ta σ H fun x H1=>tb σ H1 fun y H2=>r x y H2 Q
def Ff(r:V->Hp->VK->Prop)(ta:TE):TE:=fun σ H Q=>ta σ H fun x H1=>r x H1 Q
def rI(C:Int->Int->Prop)(g:Int->Int->V):R2:=fun x y H Q=>∃i j,x=.int i/\y=.int j/\C i j/\Q (g i j) H
def mi(g:Int->Int->V):R2:=fun x y H Q=>∃i j,x=.int i/\y=.int j/\Q (g i j) H
def rU(g:Int->V):V->Hp->VK->Prop:=fun x H Q=>∃i,x=.int i/\Q (g i) H
section
variable {X:Cx}{a b c:Expr}{ta tb tc:TE}{pos:Pos}
theorem z7(ha:PE X a ta)(hb:PE X b tb){wv:List (Addr×Obj)}{s:Shared}{σ:St}{H:Hp}{R:V->V->Hp->Prop}(I:Inv X wv σ H s)
  (h:ta σ H fun x H1=>tb σ H1 fun y H2=>R x y H2) {Q:Value->Shared->Prop}{f:Value->Value->Sem Value}
  (hf:∀v u s2 x y H2,Inv X wv σ H2 s2->RelV x v->RelV y u->R x y H2->wpAny (model X.prog X.w) X.A (f v u) Q X.xe s2):
  wpAny (model X.prog X.w) X.A (eval a X.env) (fun v s₁=>wpAny (model X.prog X.w) X.A (eval b X.env) (fun u s₂=>wpAny (model X.prog X.w) X.A (f v u) Q X.xe s₂) X.xe s₁) X.xe s:=by
 refine aG (ha wv s σ H _ I h) fun v s1 ⟨x,H1,I1,r1,q1⟩=>?_;refine aG (hb wv s1 σ H1 _ I1 q1) fun u s2 ⟨y,H2,I2,r2,q2⟩=>?_;exact hf v u s2 x y H2 I2 r1 r2 q2
theorem PL{op:Operator}{r:R2}(ho:bw X (binaryOp op) r)(ha:PE X a ta)(hb:PE X b tb):PE X (.BinOp a op b pos) (fO r ta tb):=by
 intro wv s σ H Q I h;exact wpAny_BinOp<|z7 ha hb I h fun v u s2 x y H2 I2 rx ry q=>ho wv s2 σ H2 x y v u Q I2 rx ry q
theorem PM{op:UnaryOp}{r:V->Hp->VK->Prop}(ho:wt X (unaryOp op) r)(ha:PE X a ta):PE X (.UnaryOp op a pos) (Ff r ta):=by
 intro wv s σ H Q I h;exact UnaryOp_<|aG (ha wv s σ H _ I h) fun v s1 ⟨x,H1,I1,r1,q1⟩=>ho wv s1 σ H1 x v Q I1 r1 q1
theorem wu{f:Value->Value->Sem Value}{C:Int->Int->Prop}{g:Int->Int->Int}
  (rule:∀(i j:Int) (t u:Tok) (s:Shared) (Q:Value->Shared->Prop) (E:Value->Shared->Prop),C i j->Q (.int (g i j) s.toks) {s with toks:=s.toks+1}->wpAny (model X.prog X.w) X.A (f (.int i t)<|.int j u) Q E s):
  bw X f (rI C fun i j=>.int (g i j)):=by
 intro wv s σ H x y v u Q I rx ry h;obtain⟨i,j,rfl,rfl,hc,q⟩:=h;obtain⟨t,rfl⟩:=rx;obtain⟨t',rfl⟩:=ry;exact rule i j t t' s _ _ hc ⟨.int<|g i j,H,I.tok _,⟨_,rfl⟩,q⟩
theorem Fg{f:Value->Value->Sem Value}{g:Int->Int->Int}
  (rule:∀(i j:Int) (t u:Tok) (s:Shared) (Q:Value->Shared->Prop) (E:Value->Shared->Prop),Q (.int (g i j) s.toks) {s with toks:=s.toks+1}->wpAny (model X.prog X.w) X.A (f (.int i t)<|.int j u) Q E s):
  bw X f (mi fun i j=>.int (g i j)):=by
 intro wv s σ H x y v u Q I rx ry h;obtain⟨i,j,rfl,rfl,q⟩:=h;obtain⟨t,rfl⟩:=rx;obtain⟨t',rfl⟩:=ry;exact rule i j t t' s _ _ ⟨.int<|g i j,H,I.tok _,⟨_,rfl⟩,q⟩
theorem wx{f:Value->Value->Sem Value}{g:Int->Int->Bool}
  (rule:∀(i j:Int) (t u:Tok) (s:Shared) (Q:Value->Shared->Prop) (E:Value->Shared->Prop),Q (.bool<|g i j) s->wpAny (model X.prog X.w) X.A (f (.int i t)<|.int j u) Q E s):
  bw X f (mi fun i j=>.bl (g i j)):=by
 intro wv s σ H x y v u Q I rx ry h;obtain⟨i,j,rfl,rfl,q⟩:=h;obtain⟨t,rfl⟩:=rx;obtain⟨t',rfl⟩:=ry;exact rule i j t t' s _ _ ⟨.bl<|g i j,H,I,rfl,q⟩
def Fh(i j:Int):Prop:=0<j/\j<1073741824
def Fi(i j:Int):Prop:=0<=j/\j<=1000000/\i.natAbs<2 ^ 64
def wy(i j:Int):Prop:=(-(2 ^ 64) <i/\i<2 ^ 64)\/(-(2 ^ 64) <j/\j<2 ^ 64)
theorem wy.ok{i j:Int}(h:wy i j):IntMulOk i j:=by
 rcases h with⟨h1,h2⟩|⟨h1,h2⟩
 ·exact .of_left (intBits_le_64 h1 h2)
 ·exact .of_right (intBits_le_64 h1 h2)
theorem PN:bw X (binaryOp .Add) (mi fun i j=>.int (i+j)):=Fg fun _ _ _ _ _ _ _ q=>add_int q
theorem PQ:bw X (binaryOp .Sub) (mi fun i j=>.int (i - j)):=Fg fun _ _ _ _ _ _ _ q=>sub_int q
theorem PR:bw X (binaryOp .Mult) (rI wy fun i j=>.int (i*j)):=wu fun _ _ _ _ _ _ _ hc q=>mul_int q hc.ok
theorem PU:bw X (binaryOp .FloorDiv) (rI Fh fun i j=>.int (i / j)):=wu fun i j _ _ _ _ _ hc q=>by
 have h1:(0:Int) <j:=hc.1;have h2:j<1073741824:=hc.2;exact floordiv_int (by omega) (by rw[Int.fdiv_eq_ediv_of_nonneg i (by omega)];exact q)<|.inl<|PyProof.noPylong_small (by omega)
theorem PV:bw X (binaryOp .Mod) (rI (fun _ j=>0<j) fun i j=>.int (i % j)):=wu fun i j _ _ _ _ _ hc q=>by
 have h1:(0:Int) <j:=hc;exact mod_int' (by omega) (by rw[Int.fmod_eq_emod_of_nonneg i (by omega)];exact q)
theorem PX:bw X (binaryOp .Pow) (rI Fi fun i j=>.int (i ^ j.toNat)):=wu fun _ _ _ _ _ _ _ hc q=>pow_int_small hc.1 hc.2.1 hc.2.2 q
theorem PY{f:Value->Sem Value}{g:Int->Int}
  (rule:∀(i:Int) (t:Tok) (s:Shared) (Q:Value->Shared->Prop) (E:Value->Shared->Prop),Q (.int (g i) s.toks) {s with toks:=s.toks+1}->wpAny (model X.prog X.w) X.A (f<|.int i t) Q E s):
  wt X f (rU fun i=>.int (g i)):=by
 intro wv s σ H x v Q I rx h;obtain⟨i,rfl,q⟩:=h;obtain⟨t,rfl⟩:=rx;exact rule i t s _ _ ⟨.int<|g i,H,I.tok _,⟨_,rfl⟩,q⟩
theorem PZ:wt X (unaryOp .USub) (rU fun i=>.int (-i)):=PY fun _ _ _ _ _ q=>neg_int q
end
def pH:V->V->Bool
 |.az,.az=>true|.az,.int _=>true|.int _,.az=>true|.az,.bl _=>true|.bl _,.az=>true|.az,.str _=>true|.str _,.az=>true
 |.int _,.int _=>true|.bl _,.bl _=>true|.str _,.str _=>true|.gy _,.gy _=>true
 |.int _,.str _=>true|.str _,.int _=>true|.bl _,.str _=>true|.str _,.bl _=>true
 |_,_=>false
def P0:R2:=fun x y H Q=>pH x y=true/\Q (.bl<|decide<|x=y) H
def P2:R2:=fun x y H Q=>pH x y=true/\Q (.bl<|!decide (x=y)) H
theorem Fj{i j:Int}:decide (V.int i=V.int j)=(i==j):=by
 rw[zbN]
 simp
theorem Fl{i j:Bool}:decide (V.bl i=V.bl j)=(i==j):=by
 rw[zbN]
 simp
theorem iM{i j:Str}:decide (V.str i=V.str j)=(i==j):=by
 rw[zbN]
 simp
theorem Fm{i j:Array UInt8}:decide (V.gy i=V.gy j)=(i.toList==j.toList):=by
 rw[zbN];cases i;cases j
 simp
section
variable {X:Cx}{a b c:Expr}{ta tb tc:TE}{pos:Pos}
theorem ck{wv:List (Addr×Obj)}{σ:St}{H:Hp}{s:Shared}{Q:VK}{k k':Bool}(I:Inv X wv σ H s)(q:Q (.bl k) H)(e:k=k'):EP X wv σ Q (.bool k') s:=by
 subst e;exact⟨.bl k,H,I,rfl,q⟩
theorem P4:bw X (compareOp .Eq) P0:=by
 intro wv s σ H x y v u Q I rx ry h;obtain⟨hs,q⟩:=h;cases x with
 |az=>
  cases rx;cases y with
  |az=>cases ry;exact PySem.EqNone.eq_none_none (ck I q (by simp))
  |bl j=>cases ry;exact PySem.EqNone.eq_none_bool (ck I q (by simp))
  |int j=>obtain⟨t',rfl⟩:=ry;exact PySem.EqNone.eq_none_int (ck I q (by simp))
  |str j=>obtain⟨t',rfl⟩:=ry;exact PySem.EqNone.eq_none_str (ck I q (by simp))
  |_=>exact absurd (show false=true from hs) zav
 |bl i=>
  cases rx;cases y with
  |az=>cases ry;exact PySem.EqNone.eq_bool_none (ck I q (by simp))
  |bl j=>cases ry;exact eq_bool (ck I q Fl)
  |str j=>obtain⟨t',rfl⟩:=ry;exact PySem.EqMixed.eq_bool_str (ck I q (by simp))
  |_=>exact absurd (show false=true from hs) zav
 |int i=>
  obtain⟨t,rfl⟩:=rx;cases y with
  |az=>cases ry;exact PySem.EqNone.eq_int_none (ck I q (by simp))
  |int j=>obtain⟨t',rfl⟩:=ry;exact eq_int (ck I q Fj)
  |str j=>obtain⟨t',rfl⟩:=ry;exact PySem.EqMixed.eq_int_str (ck I q (by simp))
  |_=>exact absurd (show false=true from hs) zav
 |str i=>
  obtain⟨t,rfl⟩:=rx;cases y with
  |az=>cases ry;exact PySem.EqNone.eq_str_none (ck I q (by simp))
  |bl j=>cases ry;exact PySem.EqMixed.eq_str_bool (ck I q (by simp))
  |int j=>obtain⟨t',rfl⟩:=ry;exact PySem.EqMixed.eq_str_int (ck I q (by simp))
  |str j=>obtain⟨t',rfl⟩:=ry;exact eq_str (ck I q iM)
  |_=>exact absurd (show false=true from hs) zav
 |gy i=>
  obtain⟨t,rfl⟩:=rx;cases y with
  |gy j=>obtain⟨t',rfl⟩:=ry;exact PySem.W.eq_bytes (ck I q Fm)
  |_=>exact absurd (show false=true from hs) zav
 |_=>cases y<;>exact absurd (show false=true from hs) zav
theorem P5:bw X (compareOp .NotEq) P2:=by
 intro wv s σ H x y v u Q I rx ry h;obtain⟨hs,q⟩:=h;cases x with
 |az=>
  cases rx;cases y with
  |az=>cases ry;exact PySem.EqNone.ne_none_none (ck I q (by simp))
  |bl j=>cases ry;exact PySem.EqNone.ne_none_bool (ck I q (by simp))
  |int j=>obtain⟨t',rfl⟩:=ry;exact PySem.EqNone.ne_none_int (ck I q (by simp))
  |str j=>obtain⟨t',rfl⟩:=ry;exact PySem.EqNone.ne_none_str (ck I q (by simp))
  |_=>exact absurd (show false=true from hs) zav
 |bl i=>
  cases rx;cases y with
  |az=>cases ry;exact PySem.EqNone.ne_bool_none (ck I q (by simp))
  |bl j=>cases ry;exact ne_bool (ck I q<|congrArg not Fl)
  |str j=>obtain⟨t',rfl⟩:=ry;exact PySem.EqMixed.ne_bool_str (ck I q (by simp))
  |_=>exact absurd (show false=true from hs) zav
 |int i=>
  obtain⟨t,rfl⟩:=rx;cases y with
  |az=>cases ry;exact PySem.EqNone.ne_int_none (ck I q (by simp))
  |int j=>obtain⟨t',rfl⟩:=ry;exact ne_int (ck I q<|congrArg not Fj)
  |str j=>obtain⟨t',rfl⟩:=ry;exact PySem.EqMixed.ne_int_str (ck I q (by simp))
  |_=>exact absurd (show false=true from hs) zav
 |str i=>
  obtain⟨t,rfl⟩:=rx;cases y with
  |az=>cases ry;exact PySem.EqNone.ne_str_none (ck I q (by simp))
  |bl j=>cases ry;exact PySem.EqMixed.ne_str_bool (ck I q (by simp))
  |int j=>obtain⟨t',rfl⟩:=ry;exact PySem.EqMixed.ne_str_int (ck I q (by simp))
  |str j=>obtain⟨t',rfl⟩:=ry;exact ne_str (ck I q<|congrArg not iM)
  |_=>exact absurd (show false=true from hs) zav
 |gy i=>
  obtain⟨t,rfl⟩:=rx;cases y with
  |gy j=>obtain⟨t',rfl⟩:=ry;exact PySem.W.ne_bytes (ck I q<|congrArg not Fm)
  |_=>exact absurd (show false=true from hs) zav
 |_=>cases y<;>exact absurd (show false=true from hs) zav
theorem P6:bw X (compareOp .Lt) (mi fun i j=>.bl (decide<|i<j)):=wx fun _ _ _ _ _ _ _ q=>lt_int q
theorem P7:bw X (compareOp .LtE) (mi fun i j=>.bl (decide<|i<=j)):=wx fun _ _ _ _ _ _ _ q=>le_int q
theorem P8:bw X (compareOp .Gt) (mi fun i j=>.bl (decide<|j<i)):=wx fun _ _ _ _ _ _ _ q=>gt_int q
theorem P9:bw X (compareOp .GtE) (mi fun i j=>.bl (decide<|j<=i)):=wx fun _ _ _ _ _ _ _ q=>ge_int q
theorem P_:bw X (compareOp .In) (fun x y H Q=>∃i j,x=.str i/\y=.str j/\Q (.bl<|!(Builtin.Str.occurrences j i 0 j.length 1).isEmpty) H):=by
 intro wv s σ H x y v u Q I rx ry h;obtain⟨i,j,rfl,rfl,q⟩:=h;obtain⟨t,rfl⟩:=rx;obtain⟨t',rfl⟩:=ry;exact in_str<|ck I q rfl
theorem Qa:bw X (compareOp .Is) (fun x y H Q=>y=.az/\Q (.bl<|decide<|x=.az) H):=by
 intro wv s σ H x y v u Q I rx ry h;obtain⟨rfl,q⟩:=h;cases ry;refine is_none_gen<|ck I q ?_;cases x<;>first
  | (cases rx;rfl)
  | (obtain⟨t,rfl⟩:=rx;rfl)
theorem Qc:bw X (compareOp .IsNot) (fun x y H Q=>y=.az/\Q (.bl<|!decide (x=.az)) H):=by
 intro wv s σ H x y v u Q I rx ry h;obtain⟨rfl,q⟩:=h;cases ry;refine isnot_none_gen<|ck I q ?_;cases x<;>first
  | (cases rx;rfl)
  | (obtain⟨t,rfl⟩:=rx;rfl)
theorem Qd:bw X (compareOp .NotIn) (fun x y H Q=>∃i j,x=.str i/\y=.str j/\Q (.bl<|!(!(Builtin.Str.occurrences j i 0 j.length 1).isEmpty)) H):=by
 intro wv s σ H x y v u Q I rx ry h;obtain⟨i,j,rfl,rfl,q⟩:=h;obtain⟨t,rfl⟩:=rx;obtain⟨t',rfl⟩:=ry;exact notIn_str<|ck I q rfl
theorem bw.or{f:Value->Value->Sem Value}{r r':R2}(h:bw X f r)(h':bw X f r'):bw X f (fun x y H Q=>r x y H Q\/r' x y H Q):=by
 intro wv s σ H x y v u Q I rx ry q;rcases q with q|q
 ·exact h wv s σ H x y v u Q I rx ry q
 ·exact h' wv s σ H x y v u Q I rx ry q
theorem Qe{op:CmpOp}{r:R2}(ho:bw X (compareOp op) r)(ha:PE X a ta)(hb:PE X b tb)(hm:behindInMarks op b=false):PE X (.Compare a [op] [b] pos) (fO r ta tb):=by
 intro wv s σ H Q I h;exact wpAny_Compare1 (z7 ha hb I h fun v u s2 x y H2 I2 rx ry q=>ho wv s2 σ H2 x y v u Q I2 rx ry q) hm
def rF(t:TE):TT:=fun σ H Q=>t σ H fun x H'=>∃k,x=.bl k/\Q k H'
theorem Qg{op:CmpOp}{r:R2}(ho:bw X (compareOp op) r)(ha:PE X a ta)(hb:PE X b tb)(hm:behindInMarks op b=false):PT X (.Compare a [op] [b] pos) (rF<|fO r ta tb):=by
 intro wv s σ H Q I h;refine wpAny_isTrue_Compare1 (aG (ha wv s σ H _ I h) fun v s1 ⟨x,H1,I1,r1,q1⟩=>aG (hb wv s1 σ H1 _ I1 q1) fun u s2 ⟨y,H2,I2,r2,q2⟩=>
  aG (ho wv s2 σ H2 x y v u _ I2 r1 r2 q2) fun c s3 ⟨z,H3,I3,r3,k,e,q3⟩=>?_) hm
 subst e;cases r3;exact wpAny_truthy_bool ⟨H3,I3,q3⟩
def wz(r r':R2)(ta tb tc:TE):TE:=fun σ H Q=>ta σ H fun x H1=>tb σ H1 fun y H2=>r x y H2 fun z H3=>∃k,z=.bl k/\
 (if k=true then tc σ H3 fun w' H4=>r' y w' H4 Q else Q (.bl false) H3)
theorem Qh{op gB:CmpOp}{r r':R2}(ho:bw X (compareOp op) r)(fA:bw X (compareOp gB) r')(ha:PE X a ta)(hb:PE X b tb)(hc:PE X c tc)
  (hm:lastMarks [op,gB] [b,c]=false:=by with_unfolding_all rfl):PE X (.Compare a [op,gB] [b,c] pos) (wz r r' ta tb tc):=by
 intro wv s σ H Q I h;refine Compare_chain (aG (ha wv s σ H _ I h) fun v s1 ⟨x,H1,I1,r1,q1⟩=>chain_link (aG (hb wv s1 σ H1 _ I1 q1) fun u s2 ⟨y,H2,I2,r2,q2⟩=>
  aG (ho wv s2 σ H2 x y v u _ I2 r1 r2 q2) fun d s3 ⟨z,H3,I3,r3,k,e,q3⟩=>?_)) hm
 subst e;cases r3;refine wpAny_truthy_bool ?_;cases k with
 |false=>exact ite_ff ⟨.bl false,H3,I3,rfl,q3⟩
 |true=>exact ite_tt (chain_last<|aG (hc wv s3 σ H3 _ I3 q3) fun w' s4 ⟨z',H4,I4,r4,q4⟩=>fA wv s4 σ H4 y z' u w' Q I4 r2 r4 q4)
def Fn(K:Frag)(x:V)(H:Hp)(k:Bool):Prop:=
 match x with
 |.az=>k=false
 |.bl b=>k=b
 |.int i=>k=(i !=0)
 |.str y=>y.length<=sizeLine/\k=((y.length:Int) !=0)
 |.gy y=>y.size<=sizeLine/\k=((y.size:Int) !=0)
 |.ref p=>(∃xs,av K H p xs/\k= !xs.isEmpty)\/(∃xs,aM K H p xs/\k= !xs.isEmpty)\/∃kvs,H p=some (.dK kvs)/\k= !kvs.isEmpty
 |_=>False
theorem Qi{κ:Type}{kvs:List (κ×V)}{vs:List (κ×Value)}(r:KV kvs vs):(!vs.isEmpty)= !kvs.isEmpty:=by
 cases r<;>rfl
theorem Fp{xs:List V}{ao:List Value}(r:Vals xs ao):(!ao.toArray.isEmpty)= !xs.isEmpty:=by
 cases r<;>simp
theorem pI:(sizeLine:Nat) <2 ^ 63:=by rw[sizeLine_eq];decide
theorem Fq:PK X (fun x H Q=>∃k,Fn X.K x H k/\Q k H):=by
 intro wv s σ H x v Q I rx h;obtain⟨k,e,q⟩:=h;have hl:=pI;have hs:sizeLine=16777216:=sizeLine_eq;cases x with
 |az=>
  cases rx;have e':k=false:=e;subst e';exact truthy_none ⟨H,I,q⟩
 |bl b=>
  cases rx;have e':k=b:=e;subst e';exact wpAny_truthy_bool ⟨H,I,q⟩
 |int i=>
  obtain⟨t,rfl⟩:=rx;have e':k=(i !=0):=e;subst e';exact PySem.P.truthy_int ⟨H,I,q⟩
 |str y=>
  obtain⟨t,rfl⟩:=rx;obtain⟨hy,e'⟩:y.length<=sizeLine/\k=((y.length:Int) !=0):=e;subst e';exact PySem.P.truthy_str (by omega) ⟨H,I.tok _,q⟩
 |gy y=>
  obtain⟨t,rfl⟩:=rx;obtain⟨hy,e'⟩:y.size<=sizeLine/\k=((y.size:Int) !=0):=e;subst e';exact PySem.W.truthy_bytes (by omega) ⟨H,I.tok _,q⟩
 |ref p=>
  cases rx;have e':(∃xs,av X.K H p xs/\k= !xs.isEmpty)\/(∃xs,aM X.K H p xs/\k= !xs.isEmpty)\/∃kvs,H p=some (.dK kvs)/\k= !kvs.isEmpty:=e;rcases e' with⟨xs,hx,e'⟩|⟨xs,hx,e'⟩|⟨kvs,hx,e'⟩
  ·subst e';obtain⟨ao,r,pl,hz⟩:=I.list hx;have hlen:=r.length;exact wpAny_truthy_list pl.isList (by simp only[zag];omega) ⟨H,I.tok _,by rw[Fp r];exact q⟩
  ·subst e';obtain⟨ao,r,pl,hz⟩:=I.tuple hx;have hlen:=r.length;exact truthy_tuple pl (by simp only[zag];omega) ⟨H,I.tok _,by rw[Fp r];exact q⟩
  ·subst e';obtain⟨hz,hS,vs,r,m⟩:kvs.length<=sizeLine/\(p==sysModules)=false/\∃vs,KV kvs vs/\s.heap.DictOf (dS X.prog X.w) p vs:=I.aB p _ hx;have hlen:kvs.length=vs.length:=Paired.length r;exact wpAny_truthy_dict hS m (by omega) ⟨H,I.tok _,by rw[Qi r];exact q⟩
 |_=>exact(show False from e).elim
theorem Qj:bw X (binaryOp .Add) (fun x y H Q=>∃i j,x=.str i/\y=.str j/\i.length+j.length<=sizeLine/\Q (.str<|i++j) H):=by
 intro wv s σ H x y v u Q I rx ry h;obtain⟨i,j,rfl,rfl,hz,q⟩:=h;obtain⟨t,rfl⟩:=rx;obtain⟨t',rfl⟩:=ry;exact add_str (fun t' tk=>⟨.str<|i++j,H,I.tok _,⟨_,rfl⟩,q⟩) hz
theorem vals1{x:V}{us:List Value}(r:Vals [x] us):∃u,us=[u]/\RelV x u:=by
 cases r with
 |cons r1 r2=>cases r2;exact⟨_,rfl,r1⟩
theorem vals2{x y:V}{us:List Value}(r:Vals [x,y] us):∃u w',us=[u,w']/\RelV x u/\RelV y w':=by
 cases r with
 |cons r1 r2=>
  cases r2 with
  |cons r3 r4=>cases r4;exact⟨_,_,rfl,r1,r3⟩
theorem Qk(hc:X.calm=true):dD X (.builtin "min") (fun xs H Q=>∃i j,xs=[.int i,.int j]/\Q (.int (if j<i then j else i)) H):=by
 intro wv s σ H xs us Q I r h;obtain⟨i,j,rfl,q⟩:=h;obtain⟨u,w',rfl,⟨t,rfl⟩,⟨t',rfl⟩⟩:=vals2 r;refine min_two_ints (I.ok.hd hc) fun h' tk k=>⟨_,H,I.kept k,?_,q⟩;by_cases hj:j<i
 ·rw[if_pos hj,if_pos hj];exact⟨_,rfl⟩
 ·rw[if_neg hj,if_neg hj];exact⟨_,rfl⟩
theorem Ql:dD X (.type "int") (fun xs H Q=>(∃i,xs=[.int i]/\Q (.int i) H)\/∃k,xs=[.bl k]/\Q (.int (if k then 1 else 0)) H):=by
 intro wv s σ H xs us Q I r h;rcases h with⟨i,rfl,q⟩|⟨k,rfl,q⟩
 ·obtain⟨u,rfl,t,rfl⟩:=vals1 r;exact call_int_int ⟨.int i,H,I,⟨_,rfl⟩,q⟩
 ·obtain⟨u,rfl,r1⟩:=vals1 r;cases r1;exact call_int_bool ⟨.int (if k then 1 else 0),H,I.tok _,⟨_,rfl⟩,q⟩
def Fs(K:Frag)(x:V)(H:Hp)(n:Nat):Prop:=
 match x with
 |.str y=>y.length<=sizeLine/\n=y.length
 |.gy y=>y.size<=sizeLine/\n=y.size
 |.ref p=>(∃xs,av K H p xs/\n=xs.length)\/∃xs,aM K H p xs/\n=xs.length
 |_=>False
theorem Ft:dD X (.builtin "len") (fun xs H Q=>∃x n,xs=[x]/\Fs X.K x H n/\Q (.int n) H):=by
 intro wv s σ H xs us Q I r h;obtain⟨x,n,rfl,e,q⟩:=h;obtain⟨u,rfl,rx⟩:=vals1 r;have hl:=pI;have hs:sizeLine=16777216:=sizeLine_eq;cases x with
 |str y=>
  obtain⟨t,rfl⟩:=rx;obtain⟨hy,e'⟩:y.length<=sizeLine/\n=y.length:=e;subst e';exact len_str (by omega) ⟨.int _,H,I.tok _,⟨_,rfl⟩,q⟩
 |gy y=>
  obtain⟨t,rfl⟩:=rx;obtain⟨hy,e'⟩:y.size<=sizeLine/\n=y.size:=e;subst e';exact PySem.W.len_bytes (by omega) ⟨.int _,H,I.tok _,⟨_,rfl⟩,q⟩
 |ref p=>
  cases rx;have e':(∃xs,av X.K H p xs/\n=xs.length)\/∃xs,aM X.K H p xs/\n=xs.length:=e;rcases e' with⟨xs,hx,e'⟩|⟨xs,hx,e'⟩
  ·subst e';obtain⟨ao,r',pl,hz⟩:=I.list hx;have hlen:=r'.length;exact Calls.call_len_list pl.isList (by simp only[zag];omega) ⟨.int xs.length,H,I.tok _,⟨_,by simp only[zag];rw[hlen]⟩,q⟩
  ·subst e';obtain⟨ao,r',pl,hz⟩:=I.tuple hx;have hlen:=r'.length;exact len_tuple pl (by simp only[zag];omega) ⟨.int xs.length,H,I.tok _,⟨_,by simp only[zag];rw[hlen]⟩,q⟩
 |_=>exact(show False from e).elim
end
structure pJ (h:Heap) (x dx C:Addr) (mA:Str->Option Value):Prop where
 obj:h.get? x=some (instObj C dx)
 ns:h.Ns1 dx mA
 ne:dx≠x
theorem Qm{h:Heap}{dx:Addr}{mA:Str->Option Value}(n:h.Ns1 dx mA):∃od,h.get? dx=some od/\∀name,lookIn name od=some (mA name):=by
 obtain⟨o,es,ep,ho,hd,hk,_,hm⟩:=n;refine⟨o,ho,fun name=>?_⟩;have e:=hm name;unfold nsFind findBy at e;rw[<-Array.find?_toList] at e;unfold lookIn;rw[hd]
 dsimp only
 split
 ·rename_i y q
  rw[q] at e;exact congrArg some e
 ·rename_i q
  rw[q] at e;have a:es.toList.any (·.refKey)=false:=by
   rw[List.any_eq_false];intro y hy;obtain⟨z,t,Qn⟩:=hk y (Array.mem_toList_iff.mp hy)
   simp[DictEntry.refKey,Qn]
  have a':¬es.toList.any (·.refKey)=true:=by rw[a];exact zav
  rw[if_neg a'];exact congrArg some e
theorem pJ.look{h:Heap}{x dx C:Addr}{mA:Str->Option Value}(I:pJ h x dx C mA):∃od,InstAt h x (instObj C dx) C (some od)/\∀name,lookIn name od=some (mA name):=
 let ⟨od,ho,hl⟩:=Qm I.ns
 ⟨od,⟨I.obj,rfl,rfl,ho⟩,hl⟩
section
variable {prog:Program}{w:World}{A:Around}{E:Value->Shared->Prop}{s:Shared}{K:Frag}{x dx C f:Addr}{mA:Str->Option Value}{name:Str}{v:Value}
theorem get_map{expr:Bool}{Q:Value->Shared->Prop}(X:K.In s.heap)(I:pJ s.heap x dx C mA)(hg:plainGet K C name=true)(hh:hasDictIn K C=true)
  (ha:PySem.W.findIn K (.ref C) name=some none) (hv:mA name=some v) (Qo:handedIn v=true) (h:Q v {s with toks:=s.toks+1}):
  wpAny (model prog w) A (getAttr (.ref x) name expr) Q E s:=by
 obtain⟨od,J,hl⟩:=I.look;exact PySem.W.get_value X J (plainGet_of hg).1 (PySem.W.findObj_own hh ha rfl (by rw[hl,hv])) Qo h
theorem Qp{pl:Sem Bool}{Q:Value×List Value->Shared->Prop}(X:K.In s.heap)(I:pJ s.heap x dx C mA)(hg:plainGet K C name=true)
  (hf:PySem.W.findIn K (.ref C) name=some (some<|.ref f)) (ht:PySem.W.isFn K (.ref f)=true) (hv:mA name=none) (h:Q (.ref f,[.ref x]) s):
  wpAny (model prog w) A (getMethod (.ref x) name pl) Q E s:=by
 obtain⟨od,J,hl⟩:=I.look;exact PySem.W.method_fn X J (plainGet_of hg).1 (plainGet_of hg).2 hf (beq_iff_eq.mp ht) (by show(lookIn name od).map (·.isSome)=some false;rw[hl,hv];rfl) h
theorem Qq{ns:List Str}{Q:Unit->Shared->Prop}(X:K.In s.heap)(I:pJ s.heap x dx C mA)
  (hs:PySem.W.findIn K (.ref C) "__setattr__"=some (some<|.builtin "object.__setattr__")) (hp:plainOver K C=true) (ht:takerIn K C name=some none) (hh:hasDictIn K C=true)
  (hw:PySem.Within mA ns) (hsz:ns.length<=sizeLine)
  (h:∀h',pJ h' x dx C (fun y=>if y=name then some v else mA y)->Heap.SameBut dx s.heap h'->Q () {s with heap:=h',toks:=s.toks+2}):
  wpAny (model prog w) A (setAttr (.ref x) name v) Q E s:=by
 obtain⟨od,J,hl⟩:=I.look;refine PySem.W.set_plain X J hs<|PySem.W.osa_open (s:={s with toks:=s.toks+1}) (r:=none) X J hp ht fun b=>?_
 obtain⟨cd,hc,zN⟩:=PySem.W.any_some hh;have hx:s.heap.get? x=some ⟨.ref C,some dx,.plain,#[]⟩:=I.obj;refine wpAny_bind<|wpAny_pure<|wpAny_bind<|wpAny_bind<|wpAny_loadPart hx<|wpAny_bind<|PySem.W.Looks.here (s:={s with toks:=s.toks+1}) (PySem.W.looks_clsIn X hc) ?_
 rw[zN];refine wpAny_pure (a:=some dx)<|wpAny_bind<|wpAny_pure<|wpAny_bind ?_;refine wpAny_nsSet1 (s:={s with toks:=s.toks+1}) I.ns fun h' jc jV=>?_
 obtain⟨oD,esD,epD,Qr,Qs,mj⟩:=jc.count (PySem.Within.cons name v hw);refine wpAny_bind<|wpAny_lookBehind Qr (by rw[Qs];exact pastItsLine_dict (zay mj (by rw[zaq];omega))) ?_
 exact wpAny_pure<|h _ ⟨(jV.2 _<|Ne.symm I.ne).trans I.obj,jc,I.ne⟩ jV
theorem Qt{R:Result->Shared->Prop}{vs:List Value}{kw:List (Str×Value)}(X:K.In s.heap)(hm:makesIn K C=true)
  (hi:PySem.W.findIn K (.ref C) "__init__"=some (some<|.ref f)) (hf:PySem.W.typeIn K (.ref f)=some (.type "function"))
  (h:codeAny (model prog w) (A.under (.builtin "type.__call__" ⟨.ref C::vs,kw⟩)) (.call (.ref f) ⟨.ref (s.heap.objs.size+1)::vs,kw⟩) (PySem.W.InitBack (s.heap.objs.size+1) R)
   {s with heap:=(s.heap.push emptyDict).push (instObj C s.heap.objs.size)}):
  codeAny (model prog w) A (.call (.ref C) ⟨vs,kw⟩) R s:=by
 obtain⟨hh,g,d,t,os⟩:=s;exact PySem.W.make_core (PySem.W.makes_of X hm) (PySem.W.looks_findIn X hi) (fun self=>PySem.W.bind_fn X self hf) (.inl rfl) h
end
def cf(f:Str)(v:V):List (Str×V)->List (Str×V)
 |[]=>[(f,v)]
 |(g,x)::r=>if g=f then (g,v)::r else (g,x)::cf f v r
theorem Fu(f g:Str)(v:V):∀fs:List (Str×V),(cf f v fs).lookup g=if g=f then some v else fs.lookup g
 |[]=>by
  show List.lookup g [(f,v)]=_;by_cases h:g=f
  ·have hb:(g==f)=true:=beq_iff_eq.mpr h
   simp only[List.lookup,hb,if_pos h]
  ·have hb:(g==f)=false:=beq_eq_false_iff_ne.mpr h
   simp only[List.lookup,hb,if_neg h]
 |(k,x)::r=>by
  have ih:=Fu f g v r;rw[show cf f v ((k,x)::r)=(if k=f then (k,v)::r else (k,x)::cf f v r) from rfl]
  by_cases hk:k=f
  ·rw[if_pos hk];by_cases h:g=k
   ·have hb:(g==k)=true:=beq_iff_eq.mpr h
    simp only[List.lookup,hb,if_pos<|h.trans hk]
   ·have hb:(g==k)=false:=beq_eq_false_iff_ne.mpr h
    simp only[List.lookup,hb,if_neg (fun e:g=f=>h (e.trans hk.symm))]
  ·rw[if_neg hk];by_cases h:g=k
   ·have hb:(g==k)=true:=beq_iff_eq.mpr h
    simp only[List.lookup,hb,if_neg (fun e:g=f=>hk (h.symm.trans e))]
   ·have hb:(g==k)=false:=beq_eq_false_iff_ne.mpr h
    simp only[List.lookup,hb]
    exact ih
theorem z8(f:Str)(v:V):∀fs:List (Str×V),f∈ (cf f v fs).map (·.1)/\∀g,g∈fs.map (·.1)->g∈ (cf f v fs).map (·.1)
 |[]=>⟨by simp[cf],fun g h=>by simp at h⟩
 |(k,x)::r=>by
  obtain⟨i1,i2⟩:=z8 f v r;rw[show cf f v ((k,x)::r)=(if k=f then (k,v)::r else (k,x)::cf f v r) from rfl]
  by_cases hk:k=f
  ·rw[if_pos hk];subst hk;exact⟨by simp,fun g h=>by simpa using h⟩
  ·rw[if_neg hk];refine⟨?_,fun g h=>?_⟩
   ·rw[zax];exact zas _ i1
   ·rw[zax] at h⊢;rcases zac.mp h with e|e
    ·exact zac.mpr (.inl e)
    ·exact zas _ (i2 g e)
theorem Fv(f:Str)(v:V):∀fs:List (Str×V),(cf f v fs).length<=fs.length+1
 |[]=>by simp[cf]
 |(k,x)::r=>by
  have ih:=Fv f v r;rw[show cf f v ((k,x)::r)=(if k=f then (k,v)::r else (k,x)::cf f v r) from rfl]
  by_cases hk:k=f
  ·rw[if_pos hk,zaq,zaq];omega
  ·rw[if_neg hk,zaq,zaq];omega
theorem gU.some_of{v:V}{o:Option Value}(r:gU (some v) o):∃u,o=some u/\RelV v u:=by
 cases o with
 |none=>exact(show False from r).elim
 |some u=>exact⟨u,rfl,r⟩
theorem gU.none_of{o:Option Value}(r:gU none o):o=none:=by
 cases o with
 |none=>rfl
 |some u=>exact(show False from r).elim
theorem Qu{v:V}{u:Value}(r:RelV v u):handedIn u=true:=by
 cases v with
 |az=>cases (show u=Value.none from r);rfl
 |bl b=>cases (show u=Value.bool b from r);rfl
 |int i=>obtain⟨t,e⟩:=(show ∃t,u=Value.int i t from r);cases e;rfl
 |str x=>obtain⟨t,e⟩:=(show ∃t,u=Value.str x t from r);cases e;rfl
 |gy b=>obtain⟨t,e⟩:=(show ∃t,u=Value.bytes b t from r);cases e;rfl
 |nR b=>obtain⟨t,e⟩:=(show ∃t,u=Value.float b t from r);cases e;rfl
 |ref a=>cases (show u=Value.ref a from r);rfl
 |ty n=>cases (show u=Value.type n from r);rfl
section
variable {P:Program}{w:World}{H H':Hp}{h h':Heap}{a C dx:Addr}{fs js:List (Str×V)}
theorem wA(aB:bW P w H h)(e:H a=some (.ins C dx fs)):∃mA,pJ h a dx C mA/\(∀f,gU (fs.lookup f)<|mA f)/\PySem.Within mA (fs.map (·.1))/\fs.length<=1000/\H dx=some (.own a):=by
 obtain⟨d,z,ne,ob,mA,n,r,q⟩:=(show cA P w H h a (.ins C dx fs) from aB a _ e)
 exact⟨mA,⟨ob,n,ne⟩,r,q,z,d⟩
end
structure fY (K:Frag) (C:Addr):Prop where
 pg:plainGet K C Str.empty=true
 hd:hasDictIn K C=true
 po:plainOver K C=true
 sa:PySem.W.findIn K (.ref C) "__setattr__"=some (some<|.builtin "object.__setattr__")
theorem fY.get{K:Frag}{C:Addr}(c:fY K C)(f:Str):plainGet K C f=true:=c.pg
def fP(K:Frag)(C:Addr)(f:Str):Prop:=PySem.W.findIn K (.ref C) f=some none
theorem fP.Qw{K:Frag}{C:Addr}{f:Str}(n:fP K C f):takerIn K C f=some none:=by
 unfold takerIn;rw[show PySem.W.findIn K (.ref C) f=some none from n]
 rfl
structure Meth (K:Frag) (C:Addr) (m:Str) (f:Addr):Prop where
 at_:PySem.W.findIn K (.ref C) m=some (some<|.ref f)
 fn:PySem.W.isFn K (.ref f)=true
 kp:PySem.W.keepIn K (.ref f)=true
section
variable {X:Cx}{wv:List (Addr×Obj)}{σ:St}{H:Hp}{s:Shared}{a C dx:Addr}{fs:List (Str×V)}{f:Str}{v:V}{A:Around}{E:Value->Shared->Prop}
theorem Qx{b:Bool}{Q:Value->Shared->Prop}(I:Inv X wv σ H s)(e:H a=some (.ins C dx fs))(c:fY X.K C)(n:fP X.K C f)(l:fs.lookup f=some v)
  (h:∀u s',Inv X wv σ H s'->RelV v u->Q u s'):wpAny (model X.prog X.w) A (getAttr (.ref a) f b) Q E s:=by
 obtain⟨mA,O,r,_,_,_⟩:=wA I.aB e;obtain⟨u,hu,ru⟩:=gU.some_of (v:=v) (o:=mA f) (by rw[<-l];exact r f)
 exact get_map I.cX O (c.get f) c.hd n hu (Qu ru)<|h u _ (I.tok _) ru
theorem Fw{m:Str}{g:Addr}{pl:Sem Bool}{Q:Value×List Value->Shared->Prop}(I:Inv X wv σ H s)(e:H a=some (.ins C dx fs))(c:fY X.K C)(k:Meth X.K C m g)(l:fs.lookup m=none)
  (h:Q (.ref g,[.ref a]) s):wpAny (model X.prog X.w) A (getMethod (.ref a) m pl) Q E s:=by
 obtain⟨mA,O,r,_,_,_⟩:=wA I.aB e;have hn:mA m=none:=gU.none_of (by rw[<-l];exact r m)
 exact Qp I.cX O (c.get m) k.at_ k.fn hn h
theorem Qy{y:V}{u:Value}{Q:Unit->Shared->Prop}(I:Inv X wv σ H s)(e:H a=some (.ins C dx fs))(c:fY X.K C)(n:fP X.K C f)(hl:fs.length<1000)(ry:RelV y u)
  (h:∀s',Inv X wv σ (upd H a<|.ins C dx<|cf f y fs) s'->Q () s'):wpAny (model X.prog X.w) A (setAttr (.ref a) f u) Q E s:=by
 obtain⟨mA,O,r,wi,_,ho⟩:=wA I.aB e;have hz:(fs.map (·.1)).length<=sizeLine:=by rw[zab,sizeLine_eq];omega
 refine Qq I.cX O c.sa c.po n.Qw c.hd wi hz fun h' O' sb=>h _ ?_;have hd:∃o,h'.get? dx=some o:=let ⟨o,_,_,e',_⟩:=O'.ns;⟨o,e'⟩;refine I.write (x:=a) (e:=dx) (by rw[e];exact True.intro) (.inr ho) (fun b q hb z=>(sb.2 b hb).trans z) hd ?_
 refine⟨by rw[aI O.ne];exact ho,?_,O.ne,O'.obj,_,O'.ns,fun g=>?_,fun g hg=>?_⟩
 ·have:=Fv f y fs;omega
 ·show gU ((cf f y fs).lookup g) (if g=f then some u else mA g)
  rw[Fu];by_cases q:g=f
  ·rw[if_pos q,if_pos q];exact ry
  ·rw[if_neg q,if_neg q];exact r g
 ·by_cases q:g=f
  ·rw[q];exact(z8 f y fs).1
  ·refine(z8 f y fs).2 g (wi g fun z=>hg ?_);show(if g=f then some u else mA g)=none
   rw[if_neg q];exact z
theorem Inv.made(I:Inv X wv σ H s):Inv X wv σ (upd (upd H s.heap.objs.size<|.own<|s.heap.objs.size+1) (s.heap.objs.size+1)<|.ins C s.heap.objs.size [])
  {s with heap:=(s.heap.push emptyDict).push (instObj C s.heap.objs.size)}:=by
 have e1:(s.heap.push emptyDict).get? s.heap.objs.size=some emptyDict:=Heap.get?_push_size s.heap rfl;have e2:((s.heap.push emptyDict).push<|instObj C s.heap.objs.size).get? (s.heap.objs.size+1)=some (instObj C s.heap.objs.size):=by
  have:=Heap.get?_push_size (s.heap.push emptyDict) (o:=instObj C s.heap.objs.size) rfl
  rwa [Heap.size_push] at this
 have e3:(s.heap.push emptyDict).Ns s.heap.objs.size (fun _=>none):=⟨emptyDict,#[],_,e1,rfl,(fun e he=>absurd he (by simp)),fun _=>rfl⟩
 have I1:=I.laid (a:=s.heap.objs.size) (o:=.own (s.heap.objs.size+1)) (h':=s.heap.push emptyDict) (t':=s.toks) (fun b u q=>Heap.get?_push_of_some _ q) (zqR _) ⟨_,e1⟩;refine I1.laid (a:=s.heap.objs.size+1) (o:=.ins C s.heap.objs.size []) (t':=s.toks) (fun b u q=>Heap.get?_push_of_some _ q) (zbw<|Heap.size_push _ _) ?_;have ne:s.heap.objs.size≠s.heap.objs.size+1:=zap (zbO _);refine⟨by rw[aI ne,ax],zqZ _,ne,e2,fun _=>none,(Heap.Ns1.of_empty e3).at fun o q=>Heap.get?_push_of_some _ q,fun _=>True.intro,fun y hy=>absurd rfl hy⟩
theorem Qz{prog:Program}{w:World}{env:Env}{e:Expr}{f:Str}{pos:Pos}{s:Shared}{Q:Value->Shared->Prop}(hb:attributeBase e f env (eval e env)=eval e env)
  (h:wpAny (model prog w) A (eval e env) (fun o s₁=>wpAny (model prog w) A (getAttr o f true) Q E s₁) E s):wpAny (model prog w) A (eval (.Attribute e f pos) env) Q E s:=
 Attribute_any_ h (by rw[arm_eval_Attribute,hb])
end
def wB(K:Frag)(ta:TE)(f:Str):TE:=fun σ H Q=>ta σ H fun x H1=>∃a C dx fs v,x=.ref a/\H1 a=some (.ins C dx fs)/\fY K C/\fP K C f/\fs.lookup f=some v/\Q v H1
def z9(K:Frag)(ta tv:TE)(f:Str):TS:=fun D σ H=>tv σ H fun y H1=>ta σ H1 fun x H2=>∃a C dx fs,x=.ref a/\H2 a=some (.ins C dx fs)/\fY K C/\fP K C f/\fs.length<1000/\
 D.nx σ (upd H2 a<|.ins C dx<|cf f y fs)
section
variable {X:Cx}{o e value:Expr}{f:Str}{pos pos' z_:Pos}{ta tv:TE}
theorem QC(he:PE X e ta)(hb:attributeBase e f X.env (eval e X.env)=eval e X.env):PE X (.Attribute e f pos) (wB X.K ta f):=by
 intro wv s σ H Q I h;refine Qz hb<|aG (he wv s σ H _ I h) fun u s1 ⟨x,H1,I1,rx,a,C,dx,fs,v,ex,ea,c,n,l,q⟩=>?_;subst ex;obtain rfl:u=Value.ref a:=rx;exact Qx I1 ea c n l fun u' s2 I2 ru=>⟨v,H1,I2,ru,q⟩
theorem QD(ha:PE X o ta)(hv:PE X value tv)(hs:swapsWith value (some<|.Attribute o f pos') pos.line X.env=pure false):PS X (.Assign [.Attribute o f pos'] value pos) (z9 X.K ta tv f):=by
 intro wv s σ H D I h;refine plainObj_wpAny_Assign_Attribute (aG (hv wv s σ H _ I h) fun u s1 ⟨y,H1,I1,ry,q⟩=>aG (ha wv s1 σ H1 _ I1 q) fun ov s2 ⟨x,H2,I2,rx,a,C,dx,fs,ex,ea,c,n,l,q2⟩=>?_) hs;subst ex;obtain rfl:ov=Value.ref a:=rx;exact Qy I2 ea c n l ry fun s3 I3=>⟨σ,_,I3,q2⟩
end
section
variable {X:Cx}{wv:List (Addr×Obj)}{σ:St}{H:Hp}{s:Shared}{A:Around}{E:Value->Shared->Prop}{Q:Value->Shared->Prop}{c:Value}{b:Bool}
inductive jx (K:Frag) (H:Hp):V->Value->Prop where
 |az:jx K H .az (.type "NoneType")
 |bl (x:Bool):jx K H (.bl x) (.type "bool")
 |int (i:Int):jx K H (.int i) (.type "int")
 |str (x:Str):jx K H (.str x) (.type "str")
 |nR (x:UInt64):jx K H (.nR x) (.type "float")
 |lst {a:Addr}{xs:List V} (e:H a=some (.lst xs)):jx K H (.ref a) (.type "list")
 |bK {a:Addr}{o:Obj}{xs:List V} (e:H a=some (.bK o<|.lst xs)):jx K H (.ref a) (.type "list")
 |tup {a:Addr}{xs:List V} (e:H a=some (.tup xs)):jx K H (.ref a) (.type "tuple")
 |dK {a:Addr}{kvs:List (Key×V)} (e:H a=some (.dK kvs)):jx K H (.ref a) (.type "dict")
 |dT {a:Addr}{kvs:List (List Key×V)} (e:H a=some (.dT kvs)):jx K H (.ref a) (.type "dict")
 |ins {a C dx:Addr}{fs:List (Str×V)} (e:H a=some (.ins C dx fs)) (cl:fY K C) (ha:PySem.W.findIn K (.ref C) "__class__"=some (some<|.builtin "object.__class__"))
   (hn:PySem.W.specialIn K (.builtin "object.__class__") "__get__"=some (some<|.builtin "getset_descriptor.__get__")) (nV:PySem.W.takesIn K (.builtin "object.__class__")=some true)
   (hm:PySem.W.mroIn K C (.type "object")=some true):jx K H (.ref a) (.ref C)
theorem mq{x:V}{u t:Value}(I:Inv X wv σ H s)(rx:RelV x u)(ty:jx X.K H x t)(e:kitOne X.K t c=some b)(h:∀tk,Q (.bool b) {s with toks:=tk}):
  wpAny (model X.prog X.w) A (call (.builtin "isinstance") [u,c]) Q E s:=by
 cases ty with
 |az=>cases (show u=Value.none from rx);exact kia_one PySem.W.kitx_none I.cX True.intro e (fun z=>nomatch z) h
 |bl y=>cases (show u=Value.bool y from rx);exact kia_one PySem.W.kitx_bool I.cX True.intro e (fun z=>nomatch z) h
 |int i=>obtain⟨t,q⟩:=(show ∃t,u=Value.int i t from rx);cases q;exact kia_one PySem.W.kitx_int I.cX True.intro e (fun z=>nomatch z) h
 |str y=>obtain⟨t,q⟩:=(show ∃t,u=Value.str y t from rx);cases q;exact kia_one PySem.W.kitx_str I.cX True.intro e (fun z=>nomatch z) h
 |nR y=>obtain⟨t,q⟩:=(show ∃t,u=Value.float y t from rx);cases q;exact kia_one PySem.W.kitx_float I.cX True.intro e (fun z=>nomatch z) h
 | @lst a xs ea=>
  cases (show u=Value.ref a from rx)
  obtain⟨_,_,n,_,h1⟩:=(show cA X.prog X.w H s.heap a (.lst xs) from I.aB a _ ea)
  exact kia_one kitx_list I.cX ⟨_,h1,rfl⟩ e (fun z=>nomatch z) h
 | @bK a ob xs ea=>
  cases (show u=Value.ref a from rx)
  obtain⟨_,_,_,n,_,h1⟩:=(show cA X.prog X.w H s.heap a (.bK ob<|.lst xs) from I.aB a _ ea)
  exact kia_one kitx_list I.cX ⟨_,h1,rfl⟩ e (fun z=>nomatch z) h
 | @tup a xs ea=>
  cases (show u=Value.ref a from rx)
  obtain⟨_,_,_,p⟩:=(show cA X.prog X.w H s.heap a (.tup xs) from I.aB a _ ea)
  obtain⟨o,h1,h2,_⟩:=p;exact kia_one PySem.W.kitx_tuple I.cX ⟨o,h1,h2⟩ e (fun z=>nomatch z) h
 | @dK a kvs ea=>
  cases (show u=Value.ref a from rx)
  obtain⟨_,_,vs,_,p⟩:=(show cA X.prog X.w H s.heap a (.dK kvs) from I.aB a _ ea)
  obtain⟨o,es,ep,h1,h2,_⟩:=p;exact kia_one kitx_dict I.cX ⟨o,h1,h2.1⟩ e (fun z=>nomatch z) h
 | @dT a kvs ea=>
  cases (show u=Value.ref a from rx)
  obtain⟨_,_,xs,_,o,es,ep,h1,h2,_⟩:=(show cA X.prog X.w H s.heap a (.dT kvs) from I.aB a _ ea)
  exact kia_one kitx_dict I.cX ⟨o,h1,h2.1⟩ e (fun z=>nomatch z) h
 | @ins a C dx fs ea cl ha hn nV hm=>
  cases (show u=Value.ref a from rx)
  obtain⟨mA,O,_⟩:=wA I.aB ea;obtain⟨od,J,_⟩:=O.look;exact kia_one (PySem.W.kitx_own (cl.get _) cl.hd ha hn nV hm) I.cX J e (fun z=>nomatch z) h
end
structure dE (k:Nat) (A:Around):Prop where
 hd:A.handled=none
 dp:A.depth+3*k+5<recursionLimit
 un:A.units+16*k+200<cLine
theorem dE.mono{j k:Nat}{A:Around}(r:dE k A)(h:j<=k):dE j A:=⟨r.hd,by have:=r.dp;omega,by have:=r.un;omega⟩
theorem dE.deeper{k:Nat}{A:Around}(r:dE (k+1) A)(env:Env):dE k (A.deeper env):=
 ⟨r.hd,by have:=r.dp;show A.depth+1+3*k+5<_;omega,by have:=r.un;show A.units+3+16*k+200<_;omega⟩
theorem QE{A:Around}{C:Addr}{us:List Value}{kw:List (Str×Value)}:(A.under<|.builtin "type.__call__" ⟨.ref C::us,kw⟩).depth=A.depth+1:=by
 first|rfl|simp[Around.under,Code.weight,Code.isCreation,Code.isGuard,Code.isCaller,Code.frames,Code.isFrame,guardIds]
theorem QF{A:Around}{C:Addr}{us:List Value}{kw:List (Str×Value)}:(A.under<|.builtin "type.__call__" ⟨.ref C::us,kw⟩).units=A.units+1:=by
 first|rfl|simp[Around.under,Code.cUnits,Code.frames,Code.isFrame]
theorem dE.make{k:Nat}{A:Around}(r:dE (k+1) A)(C:Addr)(us:List Value)(kw:List (Str×Value)):dE k (A.under<|.builtin "type.__call__" ⟨.ref C::us,kw⟩):=
 ⟨r.hd,by have:=r.dp;rw[QE];omega,by have:=r.un;rw[QF];omega⟩
theorem dE.depth{k:Nat}{A:Around}(r:dE k A):A.depth<recursionLimit:=by have:=r.dp;omega
theorem dE.units{k:Nat}{A:Around}(r:dE k A):A.units+64<cLine:=by have:=r.un;omega
def iq:TA:=fun _ H Q=>Q [] H
def dF(ta:TE)(tr:TA):TA:=fun σ H Q=>ta σ H fun x H1=>tr σ H1 fun xs H2=>Q (x::xs) H2
section
variable {X:Cx}{e:Expr}{es:List Expr}{te:TE}{t:TA}{pos:Pos}
theorem pK:PA X [] iq:=fun _ _ _ _ H Q I h=>Calls.spliced_nil ⟨[],H,I,.nil,h⟩
theorem jW(ha:PE X e te)(hr:PA X es t)(hs:starEach (e::es) X.env=(false,eval e X.env)::starEach es X.env:=by rfl):PA X (e::es) (dF te t):=by
 intro pos wv s σ H Q I h;rw[hs];show wpAny _ _ (spliced ((false,eval e X.env)::backTo pos (starEach es X.env))) _ _ s;refine Calls.spliced_cons<|aG (ha wv s σ H _ I h) fun u s1 ⟨x,H1,I1,r1,q1⟩=>?_;exact aG (hr pos wv s1 σ H1 _ I1 q1) fun us s2 ⟨xs,H2,I2,r2,q2⟩=>⟨x::xs,H2,I2,.cons r1 r2,q2⟩
def Fx(t:TA):TE:=fun σ H Q=>t σ H fun xs H1=>xs.length<=sizeLine/\∀p,H1 p=none->Q (.ref p) (upd H1 p<|.tup xs)
def Fy(t:TA):TE:=fun σ H Q=>t σ H fun xs H1=>xs.length<=sizeLine/\∀p,H1 p=none->Q (.ref p) (upd H1 p<|.lst xs)
theorem QG{x1}(h:PA X es t):PE X (.Tuple es x1 pos) (Fx t):=by
 intro wv s σ H Q I hq;refine wpAny_Tuple_spliced<|aG (h pos wv s σ H _ I hq) fun us s1 ⟨xs,H1,I1,r,z,q⟩=>⟨by rw[<-r.length];exact z,?_⟩
 have hf:H1 s1.heap.objs.size=none:=I1.aB.fresh (zqR _);refine⟨.ref s1.heap.objs.size,upd H1 s1.heap.objs.size<|.tup xs,I1.laid (t':=s1.toks) (fun b u e=>Heap.get?_push_of_some _ e) (zqR _) ?_,rfl,q _ hf⟩;exact⟨z,us,r,⟨_,Heap.get?_push_size _ rfl,rfl,_,rfl⟩⟩
theorem QH(h:PA X es t):PE X (.List es pos) (Fy t):=by
 intro wv s σ H Q I hq;refine wpAny_List_spliced<|aG (h pos wv s σ H _ I hq) fun us s1 ⟨xs,H1,I1,r,z,q⟩=>⟨by rw[<-r.length];exact z,?_⟩
 have hf:H1 s1.heap.objs.size=none:=I1.aB.fresh (zqR _);refine⟨.ref s1.heap.objs.size,upd H1 s1.heap.objs.size<|.lst xs,I1.laid (t':=s1.toks) (fun b u e=>Heap.get?_push_of_some _ e) (zqR _) ?_,rfl,q _ hf⟩;exact⟨z,us,0,r,Heap.get?_push_size _ rfl⟩
end
abbrev Sp:=List V->Hp->VK->XK->Prop
abbrev cg:=List Env->Hp->Shared->XK->Value->Shared->Prop
structure mr (P:Program) (w:World) (K:Frag) (mg:Str->Option Value) (base:Heap) (A:Around) (outer:List Env) (s:Shared) (H:Hp):Prop where
 frames:A.frames=some outer
 mod:Mod K mg base
 bs:∀b o,base.get? b=some o->s.heap.get? b=some o/\H b=none
 nU:base.objs.size<=s.heap.objs.size
 ju:s.heap.FunFrames base outer
 pA:∀b∈bS outer,H b=none
 aB:bW P w H s.heap
 bare:AllBare s.gens
def CE(outer:List Env)(P:Program)(w:World)(H:Hp)(s:Shared)(Q:VK)(u:Value)(s':Shared):Prop:=
 ∃v H',s'.os=s.os/\AllBare s'.gens/\Un (bS outer) [] H H' s.heap s'.heap/\bW P w H' s'.heap/\RelV v u/\Q v H'
def CR(CX:cg)(outer:List Env)(P:Program)(w:World)(H:Hp)(s:Shared)(Q:VK)(E:XK)(r:Result)(s':Shared):Prop:=
 match r with
 |.ok (.ret u)=>CE outer P w H s Q u s'
 |.ok _=>False
 |.error e=>CX outer H s E e s'
structure cI (P:Program) (w:World) (K:Frag) (mg:Str->Option Value) (base:Heap) (CX:cg) (k:Nat) (f:Addr) (fd:FuncData) (ps:List Str) (sp:Sp):Prop where
 len:∀vs H Q E,sp vs H Q E->vs.length=ps.length
 run:∀(A:Around) (outer:List Env) (s:Shared) (H:Hp) (args:Args) (us:List Value) (vs:List V) (Q:VK) (E:XK),dE k A->mr P w K mg base A outer s H->BindsTo s fd args (ps.zip us)->Vals vs us->sp vs H Q E->
  codeAny (model P w) A (.call (.ref f) args) (CR CX outer P w H s Q E) s
theorem cI.mono{P:Program}{w:World}{K:Frag}{mg:Str->Option Value}{base:Heap}{CX:cg}{j k:Nat}{f:Addr}{fd:FuncData}{ps:List Str}{sp:Sp}(F:cI P w K mg base CX j f fd ps sp)(h:j<=k):
  cI P w K mg base CX k f fd ps sp:=⟨F.len,fun A outer s H args us vs Q E hr=>F.run A outer s H args us vs Q E<|hr.mono h⟩
theorem mr.make{P:Program}{w:World}{K:Frag}{mg:Str->Option Value}{base:Heap}{A:Around}{outer:List Env}{s:Shared}{H:Hp}(e:mr P w K mg base A outer s H)(C:Addr)(us:List Value)(kw:List (Str×Value)):
  mr P w K mg base (A.under<|.builtin "type.__call__" ⟨.ref C::us,kw⟩) outer s H:=⟨by first|exact e.frames|(simpa[Around.under,Code.envs,Code.isFrame,pushEnvs] using e.frames),e.mod,e.bs,e.nU,e.ju,e.pA,e.aB,e.bare⟩
section
variable {X:Cx}{wv:List (Addr×Obj)}{σ:St}{H:Hp}{s s':Shared}
theorem Inv.Aa(I:Inv X wv σ H s):mr X.prog X.w X.K X.mg X.base X.A X.stack s H:=
 ⟨I.ok.frames,I.ok.mod,I.bs,zay I.ok.nU I.sz,I.stack,I.v9,I.aB,I.bare⟩
theorem Inv.after{Q:VK}{u:Value}(I:Inv X wv σ H s)(h:CE X.stack X.prog X.w H s Q u s'):EP X wv σ Q u s':=by
 obtain⟨v,H',os,bare,un,aB,r,q⟩:=h;obtain⟨hh,g,d,t,QI⟩:=s';obtain rfl:QI=s.os:=os;exact⟨v,H',I.call (h':=hh) (g':=g) (d':=d) (t':=t) (ch:=[]) un aB bare<|fun b z=>absurd z (by simp),r,q⟩
end
def Ab(sp:Sp)(gC:List V)(E:XK)(t:TA):TE:=fun σ H Q=>t σ H fun vs H1=>sp (vs++gC) H1 Q E
def pL(C:Addr)(m:Str)(sp:Sp)(gC:List V)(E:XK)(ta:TE)(t:TA):TE:=fun σ H Q=>ta σ H fun x H1=>∃a dx fs,x=.ref a/\H1 a=some (.ins C dx fs)/\fs.lookup m=none/\
 t σ H1 fun vs H2=>sp (x::(vs++gC)) H2 Q E
def Ac(C:Addr)(sp:Sp)(gC:List V)(E:XK)(t:TA):TE:=fun σ H Q=>t σ H fun vs H1=>∀x dx,H1 x=none->H1 dx=none->dx≠x->
 sp (.ref x::(vs++gC)) (upd (upd H1 dx<|.own x) x<|.ins C dx []) (fun v H2=>v=.az/\Q (.ref x) H2) E
def Binds(K:Frag)(fd:FuncData)(ps:List Str)(ds:List Value):Prop:=
 ∀(s:Shared) (us:List Value),K.In s.heap->(us++ds).length=ps.length->BindsTo s fd ⟨us,[]⟩ (ps.zip<|us++ds)
theorem Binds.all{K:Frag}{fd:FuncData}{ps:List Str}(h:∀us:List Value,us.length=ps.length->bindArgs fd ⟨us,[]⟩=pure (ps.zip us)):Binds K fd ps []:=fun s us _ hl=>by
 rw[zae] at hl⊢;exact .of_eq<|h us hl
def Passes(CX:cg)(X:Cx)(E:XK):Prop:= ∀(wv:List (Addr×Obj)) (σ:St) (H:Hp) (s:Shared) (e:Value) (s':Shared),Inv X wv σ H s->CX X.stack H s E e s'->X.xe e s'
section
variable {X:Cx}{CX:cg}{k:Nat}{f C:Addr}{fd:FuncData}{ps:List Str}{sp:Sp}{gC:List V}{ds:List Value}{E:XK}{x m:Str}{p pos apos:Pos}{e o:Expr}{es:List Expr}{ta:TE}{t:TA}
theorem Ad{wv:List (Addr×Obj)}{σ:St}{H:Hp}{s:Shared}{Q:VK}{us:List Value}{vs:List V}(F:cI X.prog X.w X.K X.mg X.base CX k f fd ps sp)(hr:dE k X.A)(hb:Binds X.K fd ps ds)(hd:Vals gC ds)(hx:Passes CX X E)
  (I:Inv X wv σ H s) (r:Vals vs us) (h:sp (vs++gC) H Q E):wpAny (model X.prog X.w) X.A (call (.ref f) us) (EP X wv σ Q) X.xe s:=by
 have r2:Vals (vs++gC) (us++ds):=r.append hd;have hl:(us++ds).length=ps.length:=by rw[<-r2.length];exact F.len _ _ _ _ h
 refine wpAny_call<|codeAny_mono (F.run X.A X.stack s H ⟨us,[]⟩ (us++ds) (vs++gC) Q E hr I.Aa (hb s us I.cX hl) r2 h) fun r s' hq=>?_;cases r with
 |error e=>exact hx wv σ H s e s' I hq
 |ok fl=>
  cases fl with
  |ret u=>exact I.after hq
  |next=>exact False.elim hq
  |brk=>exact False.elim hq
  |cont=>exact False.elim hq
theorem QJ(F:cI X.prog X.w X.K X.mg X.base CX k f fd ps sp)(hr:dE k X.A)(hg:Gl X x)(hm:X.mg x=some (.ref f))(hk:PySem.W.keepIn X.K (.ref f)=true)(hb:Binds X.K fd ps ds)(hd:Vals gC ds)(hx:Passes CX X E)
  (ha:PA X (e::es) t) (mw:(x==("__debug__":Str))=false:=by decide) (he:starEach (e::es) X.env=(false,eval e X.env)::starEach es X.env:=by rfl) (jy:(backTo pos<|starEach es X.env).any (·.1)=false:=by rfl):
  PE X (.Call (.Name x p) (e::es) [] pos) (Ab sp gC E t):=by
 intro wv s σ H Q I h;refine wpAny_Call_Name_kw<|t_ I hg hm ?_ mw;refine callWith_K (h₀:=X.base) I.ok.mod.pz hk (aG (ha pos wv s σ H _ I h) fun us s1 ⟨vs,H1,I1,r,q⟩=>⟨I1.cX,?_⟩) he jy;exact Ad F hr hb hd hx I1 r q
structure Mk (K:Frag) (C f:Addr):Prop where
 makes:makesIn K C=true
 init:PySem.W.findIn K (.ref C) "__init__"=some (some<|.ref f)
 fn:PySem.W.isFn K (.ref f)=true
 kp:PySem.W.keepIn K (.ref C)=true
theorem QK{wv:List (Addr×Obj)}{σ:St}{H:Hp}{s:Shared}{Q:VK}{us:List Value}{vs:List V}(M:Mk X.K C f)(F:cI X.prog X.w X.K X.mg X.base CX k f fd ps sp)(hr:dE (k+1) X.A)(hb:Binds X.K fd ps ds)(hd:Vals gC ds)
  (hx:Passes CX X E) (I:Inv X wv σ H s) (r:Vals vs us)
  (h:∀x dx,H x=none->H dx=none->dx≠x->sp (.ref x::(vs++gC)) (upd (upd H dx<|.own x) x<|.ins C dx []) (fun v H2=>v=.az/\Q (.ref x) H2) E):
  wpAny (model X.prog X.w) X.A (call (.ref C) us) (EP X wv σ Q) X.xe s:=by
 have hq:=h (s.heap.objs.size+1) s.heap.objs.size (I.aB.fresh<|zaI _) (I.aB.fresh<|zqR _) (zap<|zbO _);have I2:=Inv.made (C:=C) I;have r2:Vals (V.ref (s.heap.objs.size+1)::(vs++gC)) (Value.ref (s.heap.objs.size+1)::(us++ds)):=.cons rfl (r.append hd);have hl:(Value.ref (s.heap.objs.size+1)::us++ds).length=ps.length:=by
  have e:=r2.length;rw[F.len _ _ _ _ hq] at e;exact e.symm
 refine wpAny_call (Qt (f:=f) I.cX M.makes M.init (beq_iff_eq.mp M.fn) (codeAny_mono (F.run _ X.stack _ _ ⟨Value.ref (s.heap.objs.size+1)::us,[]⟩ (Value.ref (s.heap.objs.size+1)::(us++ds)) _ _ E (hr.make C us [])
  (I2.Aa.make C us []) (hb _ (Value.ref (s.heap.objs.size+1)::us) I2.cX hl) r2 hq) fun r s' ud=>?_))
 cases r with
 |error e=>exact hx wv σ _ _ e s' I2 ud
 |ok fl=>
  cases fl with
  |ret u=>
   obtain⟨v,H',I3,rv,ev,q3⟩:=I2.after ud;subst ev;exact⟨rv,⟨V.ref<|s.heap.objs.size+1,H',I3,rfl,q3⟩⟩
  |next=>exact False.elim ud
  |brk=>exact False.elim ud
  |cont=>exact False.elim ud
theorem QL(M:Mk X.K C f)(F:cI X.prog X.w X.K X.mg X.base CX k f fd ps sp)(hr:dE (k+1) X.A)(hg:Gl X x)(hm:X.mg x=some (.ref C))(hb:Binds X.K fd ps ds)(hd:Vals gC ds)(hx:Passes CX X E)
  (ha:PA X (e::es) t) (mw:(x==("__debug__":Str))=false:=by decide) (he:starEach (e::es) X.env=(false,eval e X.env)::starEach es X.env:=by rfl) (jy:(backTo pos<|starEach es X.env).any (·.1)=false:=by rfl):
  PE X (.Call (.Name x p) (e::es) [] pos) (Ac C sp gC E t):=by
 intro wv s σ H Q I h;refine wpAny_Call_Name_kw<|t_ I hg hm ?_ mw;refine callWith_K (h₀:=X.base) I.ok.mod.pz M.kp (aG (ha pos wv s σ H _ I h) fun us s1 ⟨vs,H1,I1,r,q⟩=>⟨I1.cX,?_⟩) he jy;exact QK M F hr hb hd hx I1 r q
end
structure nW (N P:List Str) (sc:Scope):Prop where
 kind:sc.kind=.function
 co:sc.isCoroutine=false
 gen:sc.isGenerator=false
 nd:N.Nodup
 pre:N.take P.length=P
 par:∀x∈P,sc.names.lookup x=some .local\/sc.names.lookup x=some .cell
 QM:∀y∈sc.names,y.2≠ .free
theorem Fz{kindOf:Str->Option NameKind}{x:Str}:∀{binds:List (Str×Value)}{m:Str->Option Value},(∀v,(x,v)∉binds)->bindL kindOf binds m x=m x
 |[],_,_=>rfl
 |(n,v)::r,m,h=>by
  unfold bindL;rw[Fz fun w hw=>h w (zas _ hw)]
  split
  ·have:x≠n:=by rintro rfl;exact h v zat
   simp[this]
  ·rfl
theorem FA{kindOf:Str->Option NameKind}{x:Str}:∀{binds:List (Str×Value)}{m:Str->Option Value},(∀v,(x,v)∉binds)->bindC kindOf binds m x=m x
 |[],_,_=>rfl
 |(n,v)::r,m,h=>by
  unfold bindC;rw[FA fun w hw=>h w (zas _ hw)]
  split
  ·rfl
  ·have:x≠n:=by rintro rfl;exact h v zat
   simp[this]
theorem FC{kindOf:Str->Option NameKind}{x:Str}{v:Value}:∀{P:List Str}{vs:List Value}{i:Nat}{m:Str->Option Value},P.Nodup->P[i]?=some x->vs[i]?=some v->kindOf x=some .local->
  bindL kindOf (P.zip vs) m x=some v
 |[],_,_,_,_,h,_,_=>by simp at h
 |_::_,[],_,_,_,_,h,_=>by simp at h
 |p::P,w::vs,0,m,nd,h1,h2,hk=>by
  simp at h1 h2;subst h1;subst h2
  show bindL kindOf ((p,w)::P.zip vs) m p=_;unfold bindL;rw[Fz fun v hv=>(zaL.mp nd).1 (zbP hv).1,if_pos hk]
  simp
 |p::P,w::vs,i+1,m,nd,h1,h2,hk=>by
  show bindL kindOf ((p,w)::P.zip vs) m x=_;unfold bindL;exact FC (i:=i) (zaL.mp nd).2 (by simpa using h1) (by simpa using h2) hk
theorem FD{kindOf:Str->Option NameKind}{x:Str}{v:Value}:∀{P:List Str}{vs:List Value}{i:Nat}{m:Str->Option Value},P.Nodup->P[i]?=some x->vs[i]?=some v->kindOf x≠some .local->
  bindC kindOf (P.zip vs) m x=some v
 |[],_,_,_,_,h,_,_=>by simp at h
 |_::_,[],_,_,_,_,h,_=>by simp at h
 |p::P,w::vs,0,m,nd,h1,h2,hk=>by
  simp at h1 h2;subst h1;subst h2
  show bindC kindOf ((p,w)::P.zip vs) m p=_;unfold bindC;rw[FA fun v hv=>(zaL.mp nd).1 (zbP hv).1,if_neg hk]
  simp
 |p::P,w::vs,i+1,m,nd,h1,h2,hk=>by
  show bindC kindOf ((p,w)::P.zip vs) m x=_;unfold bindC;exact FD (i:=i) (zaL.mp nd).2 (by simpa using h1) (by simpa using h2) hk
def start(N:List Str)(vs:List V):St:=vs.map some++List.replicate (N.length - vs.length) none
def mz(CX:cg)(P:Program)(w:World)(K:Frag)(mg:Str->Option Value)(base:Heap)(N:List Str)(qual:Str)(scope:Scope)(f:Addr)(cd:Value)(A:Around)(outer:List Env)(s:Shared)(H:Hp)(E:XK):Cx where
 prog:=P
 w:=w
 K:=K
 mg:=mg
 base:=base
 A:=A.deeper (envOfC qual scope s.heap.objs.size f cd)
 N:=N
 s₀:=s
 H₀:=H
 env:=envOfC qual scope s.heap.objs.size f cd
 outer:=outer
 stack:=envOfC qual scope s.heap.objs.size f cd::outer
 ex:=[]
 calm:=true
 fn:=fun _=>true
 pn:=[]
 xe:=fun e s'=>wpAny (model P w) (A.deeper<|envOfC qual scope s.heap.objs.size f cd) (leaving (envOfC qual scope s.heap.objs.size f cd) e) (fun _ ir=>CX outer H s E e ir) (fun e' ir=>CX outer H s E e' ir) s'
theorem FE{sc:Scope}{n:Nat}{x:Str}(h:sc.names.lookup x=some .cell):∃c,(cellsFrom n sc.names []).lookup x=some c:=by
 have q:=cellsFrom_some sc.names n [] (.inl h);exact zbx.mp q
theorem FF{CX:cg}{P:Program}{w:World}{K:Frag}{mg:Str->Option Value}{base:Heap}{N ps:List Str}{qual:Str}{scope:Scope}{f:Addr}{cd:Value}{A:Around}{outer:List Env}{s s1:Shared}{H:Hp}{E:XK}{us:List Value}{vs:List V}
  (S:nW N ps scope) (hd:A.handled=none) (e0:mr P w K mg base A outer s H) (hl:vs.length=ps.length) (r:Vals vs us)
  (x:InCallC s s.heap.objs.size (bindL (envOfC qual scope s.heap.objs.size f cd).kindOf (ps.zip us) fun _=>none) (cellsFrom (s.heap.objs.size+1) scope.names []) (bindC (envOfC qual scope s.heap.objs.size f cd).kindOf (ps.zip us) fun _=>none) s1):
  Inv (mz CX P w K mg base N qual scope f cd A outer s H E) [] (start N vs) H s1:=by
 have jy:ps.length<=N.length:=by have:=congrArg List.length S.pre;rw[zaE] at this;omega
 obtain⟨h1,tk,rfl,hk⟩:=x.done;have uf:∀b:Addr,b∉ (mz CX P w K mg base N qual scope f cd A outer s H E).ex:=fun b z=>absurd (show b∈ ([]:List Addr) from z) (by simp)
 refine⟨⟨e0.mod,S.kind,rfl,rfl,zqR _,fun y z c h1 h2=>?_,fun y hy=>?_,fun y c _ h=>?_,fun _=>hd,Around.frames_deeper e0.frames,.inr ⟨rfl,rfl⟩,fun b z=>absurd z (uf b),e0.bs,e0.nU,fun b _ _=>uf b,fun b z=>absurd z (uf b),e0.ju,e0.pA⟩,
  rfl,e0.bare,Un.kept hk,⟨_,x.toInCall.ns,fun i y v h1 h2 h3=>?_⟩,fun y c h=>⟨_,x.cell y c h⟩,e0.aB.fresh (zqR _),fun y c h=>?_,fun p hp=>absurd (show p∈ ([]:List (Addr×Obj)) from hp) (by simp),e0.aB.kept hk,?_⟩
 ·exact name_of_addr x.apart (PySem.mem_of_lookup h1) (PySem.mem_of_lookup h2)
 ·have hy:scope.names.lookup y=some .cell\/scope.names.lookup y=some .free:=hy;rcases hy with hy|hy
  ·exact FE hy
  ·exact absurd rfl (S.QM _<|PySem.mem_of_lookup hy)
 ·exact zbu (x.above y c<|PySem.mem_of_lookup h)
 ·have hi:i<vs.length:=by
   unfold start at h2;by_cases hi:i<vs.length
   ·exact hi
   ·rw[zba (by simpa using hi)] at h2
    rw[List.getElem?_replicate] at h2
    split at h2<;>cases h2
  have ha:vs[i]?=some v:=by
   unfold start at h2;rw[zaw (by simpa using hi),zai] at h2
   cases e:vs[i]? with
   |none=>rw[e] at h2;cases h2
   |some a=>rw[e] at h2;cases h2;rfl
  obtain⟨u,hu,rv⟩:=r.get ha;have hp:ps[i]?=some y:=by
   rw[<-S.pre,List.getElem?_take_of_lt (by omega)];exact h1
  have FG:ps.Nodup:=by rw[<-S.pre];exact S.nd.sublist (List.take_sublist _ _)
  refine⟨u,rv,?_⟩;rcases S.par y (zak hp) with k|k
  ·exact .inl ⟨k,FC FG hp hu k⟩
  ·obtain⟨c,e⟩:=FE (n:=s.heap.objs.size+1) k;refine .inr ⟨.inl k,c,e,?_⟩;have q:=x.cell y c e;rw[FD FG hp hu (by show scope.names.lookup y≠_;rw[k];decide)] at q
   exact q
 ·exact e0.aB.fresh (zbu<|x.above y c<|PySem.mem_of_lookup h)
 ·unfold start;show _=N.length;rw[zqA,zab,zce];omega
theorem QN{CX:cg}{P:Program}{w:World}{K:Frag}{mg:Str->Option Value}{base:Heap}{k:Nat}{f:Addr}{name qual:Str}{params:Arguments}{body:List Stmt}{scope:Scope}{dV kV doc pm bo ct oc:Value}{an od:Option Addr}
  {gX:Array (Option Value)}{N ps:List Str}{sp:Sp} (lk:K.lookup f=some ⟨oc,od,.func<|PySem.W.fnOf name qual params body scope dV kV doc pm an bo ct,gX⟩) (iK:PySem.W.codeIn K bo qual=true) (S:nW N ps scope)
  (len:∀vs H Q E,sp vs H Q E->vs.length=ps.length)
  (Ae:∀(A:Around) (outer:List Env) (s:Shared) (H:Hp) (vs:List V) (Q:VK) (E:XK),dE k (A.deeper (envOfC qual scope s.heap.objs.size f bo))->sp vs H Q E->
   ∃t,cP (mz CX P w K mg base N qual scope f bo A outer s H E) body t/\t {nx:=fun _ H'=>Q .az H',rt:=Q} (start N vs) H):
  cI P w K mg base CX (k+1) f (PySem.W.fnOf name qual params body scope dV kV doc pm an bo ct) ps sp:=by
 refine⟨len,fun A outer s H args us vs Q E hr e0 hb r jd=>?_⟩;have hl:=len _ _ _ _ jd;have KX:K.In s.heap:=e0.mod.pz.keeps fun b o e=>(e0.bs b o e).1;have lim:s.heap.NoLimit:=e0.mod.nolimit.keeps fun b o e=>(e0.bs b o e).1;have Af:∀y∈ps.zip us,scope.names.lookup y.1=some .local\/(scope.names.lookup y.1=some .cell/\((cellsFrom (s.heap.objs.size+1) scope.names []).lookup y.1).isSome=true):=fun⟨n,v⟩ hy=>by
  rcases S.par n (zbP hy).1 with q|q
  ·exact .inl q
  ·exact .inr ⟨q,cellsFrom_some _ _ _<|.inl q⟩
 refine codeAny_call_function hr.depth (KX _ _ lk) rfl S.co S.gen rfl (codeRec_of KX iK)<|hb _ _ _ _ ?_;refine wpAny_newFunctionEnv_cells S.kind Af fun env he s1 x=>?_;subst he;refine⟨lim.keeps x.toInCall.keep,codeAny_func ?_⟩;obtain⟨t,ht,hq⟩:=Ae A outer s H vs Q E (hr.deeper _) jd;have I:Inv (mz CX P w K mg base N qual scope f bo A outer s H E) [] (start N vs) H s1:=FF S hr.hd e0 hl r x;refine wpAny_mono (ht [] s1 (start N vs) H _ I hq) (fun fl s' hs=>?_) fun e s' hs=>hs;have fin:∀{σ':St}{H':Hp}{v:V}{u:Value},Inv (mz CX P w K mg base N qual scope f bo A outer s H E) [] σ' H' s'->RelV v u->Q v H'->CE outer P w H s Q u s':=
  fun {σ' H' v u} J rv q=>⟨v,H',J.os,J.bare,J.base,J.aB,rv,q⟩
 cases fl with
 |ret u=>
  obtain⟨v,σ',H',J,rv,q⟩:=hs;exact fin J rv q
 |next=>
  obtain⟨σ',H',J,q⟩:=hs;exact fin (v:=V.az) (u:=Value.none) J rfl q
 |brk=>
  obtain⟨_,_,_,q⟩:=hs;exact False.elim q
 |cont=>
  obtain⟨_,_,_,q⟩:=hs;exact False.elim q
section
variable {X:Cx}{x:Str}{p pos:Pos}{e:Expr}{es:List Expr}{t:TA}{id T:String}{r:List V->Hp->VK->Prop}
def fZ(r:List V->Hp->VK->Prop)(t:TA):TE:=fun σ H Q=>t σ H fun vs H1=>r vs H1 Q
theorem wC(hc:dD X (.builtin id) r)(hg:Gl X x)(hm:X.mg x=none)(hv:bootBuiltins x=some (.builtin id))(ha:PA X (e::es) t)(hn:x≠"__name__":=by decide)(mw:(x==("__debug__":Str))=false:=by decide)
  (he:starEach (e::es) X.env=(false,eval e X.env)::starEach es X.env:=by rfl) (jy:(backTo pos<|starEach es X.env).any (·.1)=false:=by rfl):PE X (.Call (.Name x p) (e::es) [] pos) (fZ r t):=by
 intro wv s σ H Q I h;refine wpAny_Call_Name_kw<|kQ I hg hm hv ?_ hn mw;exact PyProof.Rows.callWith_builtin1 (aG (ha pos wv s σ H _ I h) fun us s1 ⟨vs,H1,I1,r1,q1⟩=>hc wv s1 σ H1 vs us Q I1 r1 q1) he jy
theorem QO(hc:dD X (.type T) r)(hg:Gl X x)(hm:X.mg x=none)(hv:bootBuiltins x=some (.type T))(ha:PA X (e::es) t)(hn:x≠"__name__":=by decide)(mw:(x==("__debug__":Str))=false:=by decide)
  (he:starEach (e::es) X.env=(false,eval e X.env)::starEach es X.env:=by rfl) (jy:(backTo pos<|starEach es X.env).any (·.1)=false:=by rfl):PE X (.Call (.Name x p) (e::es) [] pos) (fZ r t):=by
 intro wv s σ H Q I h;refine wpAny_Call_Name_kw<|kQ I hg hm hv ?_ hn mw;exact PyProof.Rows.callWith_type1 (aG (ha pos wv s σ H _ I h) fun us s1 ⟨vs,H1,I1,r1,q1⟩=>hc wv s1 σ H1 vs us Q I1 r1 q1) he jy
end
end L2
namespace HT
open PySem PyProof.Rows
section
variable {prog:Program}{w:World}{A:Around}{E:Value->Shared->Prop}{s:Shared}
theorem QP{t b:Addr}{vs ws:List Value}{Q:Value->Shared->Prop}(ht:IsTup s.heap t vs.toArray)(hb:IsTup s.heap b ws.toArray)(hv:vs≠ [])
  (h1:ws=[]->Q (.ref t) s) (h2:ws≠ []->Q (.ref s.heap.objs.size) {s with heap:=s.heap.push {cls:=.type "tuple",data:=.seq (vs++ws).toArray}})
  (hsz:vs.length+ws.length<=sizeLine):wpAny (model prog w) A (binaryOp .Add (.ref t)<|.ref b) Q E s:=by
 obtain⟨⟨cls,dd,data,sl⟩,ho,hc,n,hd⟩:=id ht;obtain⟨⟨afU,FH,data2,ug⟩,gY,da,n2,hd2⟩:=id hb
 simp only at hc hd da hd2
 subst hc hd da hd2;have e:vs.toArray++ws.toArray=(vs++ws).toArray:=by simp
 by_cases hw:ws=[]
 ·exact concat_meets ⟨_,ho,rfl⟩ ⟨_,gY,rfl⟩ noFill_tuple_add seq_tuple_add PySem.F.slot_tuple_add PySem.F.entry_tuple_add (PySem.F.args_tuple_add_2 _ _)
   (tuple_addW1 t b vs.toArray ws.toArray n n2 dd FH sl ug (by simpa using hv) (by simp[hw])) ⟨ho,gY,h1 hw⟩
 ·refine concat_meets ⟨_,ho,rfl⟩ ⟨_,gY,rfl⟩ noFill_tuple_add seq_tuple_add PySem.F.slot_tuple_add PySem.F.entry_tuple_add (PySem.F.args_tuple_add_2 _ _)
   (tuple_addW2 t b vs.toArray ws.toArray n n2 dd FH sl ug (by simpa using hv) (by simpa using hw) (by rw[zag,zag];exact hsz)) ⟨ho,gY,?_⟩
  rw[e];exact h2 hw
def di(n d:Nat):Option Int->Nat
 |none=>d
 |some v=>if v<0 then (v+(n:Int)).toNat else min v.toNat n
theorem Ag(n d:Nat):di n d none=d:=rfl
theorem nX(n d k:Nat):di n d (some (k:Int))=min k n:=by
 show(if (k:Int) <0 then ((k:Int)+(n:Int)).toNat else min (k:Int).toNat n)=min k n
 rw[if_neg (by omega),zbb]
theorem FI(n d:Nat)(hd:d<=n)(o:Option Int):di n d o<=n:=by
 cases o with
 |none=>exact hd
 |some v=>
  show(if v<0 then (v+(n:Int)).toNat else min v.toNat n)<=n
  by_cases hv:v<0
  ·rw[if_pos hv];omega
  ·rw[if_neg hv];exact Nat.min_le_right _ _
end
end HT
namespace L2
open PySem PySem.Spec PyProof.Rows
abbrev TO:=St->Hp->(Option Int->Hp->Prop)->Prop
def PO(X:Cx)(e:Option Expr)(t:TO):Prop:=
 ∀(wv:List (Addr×Obj)) (s:Shared) (σ:St) (H:Hp) (Q:Option Int->Hp->Prop),Inv X wv σ H s->t σ H Q->
  wpAny (model X.prog X.w) X.A (evalPart e X.env) (fun u s'=>∃o H',Inv X wv σ H' s'/\IsPart u o/\Q o H') X.xe s
def uh:TO:=fun _ H Q=>Q none H
def pM(t:TE):TO:=fun σ H Q=>t σ H fun x H1=>∃i,x=.int i/\Q (some i) H1
theorem intsAre_of{ns:List Int}:∀{us:List Value},Vals (ns.map V.int) us->IntsAre us ns:=by
 induction ns with
 |nil=>intro us r;rw[zbc] at r;cases r;exact .nil
 |cons n ns ih=>
  intro us r;rw[zax] at r;cases r with
  |cons r1 r2=>
   obtain⟨t,e⟩:=r1;subst e;exact .cons n t<|ih r2
section
variable {X:Cx}{e:Expr}{te:TE}{lo hi:Option Expr}{tl th:TO}{pos p2:Pos}
theorem wD:PO X none uh:=by
 intro wv s σ H Q I h;rw[evalPart_none];exact wpAny_pure ⟨none,H,I,.none,h⟩
theorem wF(h:PE X e te):PO X (some e) (pM te):=by
 intro wv s σ H Q I hw;rw[evalPart_some];refine aG (h wv s σ H _ I hw) fun u s1 ⟨x,H1,I1,r1,q1⟩=>?_;obtain⟨i,rfl,q⟩:=q1;obtain⟨t,rfl⟩:=r1;exact⟨some i,H1,I1,.int i t,q⟩
def Ah(X:Cx)(r:V->Option Int->Option Int->Hp->VK->Prop):Prop:=
 ∀(wv:List (Addr×Obj)) (s:Shared) (σ:St) (H:Hp) (x:V) (v vl vu:Value) (lo hi:Option Int) (sl:Addr) (Q:VK),Inv X wv σ H s->RelV x v->s.heap.IsSliceOf sl vl vu .none->IsPart vl lo->IsPart vu hi->r x lo hi H Q->
  ∃T id,typeLookup (.type T) "__getitem__"=pure (some<|.builtin id)/\s.TypeIs v T/\wpAny (model X.prog X.w) X.A (getItem v<|.ref sl) (EP X wv σ Q) X.xe s
def Ai(r:V->Option Int->Option Int->Hp->VK->Prop)(te:TE)(tl th:TO):TE:=fun σ H Q=>te σ H fun x H1=>tl σ H1 fun l H2=>th σ H2 fun u H3=>r x l u H3 Q
theorem QR{r:V->Option Int->Option Int->Hp->VK->Prop}(hr:Ah X r)(he:PE X e te)(hl:PO X lo tl)(hu:PO X hi th):PE X (.Subscript e (.Slice lo hi none p2) pos) (Ai r te tl th):=by
 intro wv s σ H Q I h;refine Subscript_<|aG (he wv s σ H _ I h) fun v s1 ⟨x,H1,I1,r1,q1⟩=>?_;refine wpAny_Slice<|aG (hl wv s1 σ H1 _ I1 q1) fun vl s2 ⟨l,H2,I2,pl,q2⟩=>aG (hu wv s2 σ H2 _ I2 q2) fun vu s3 ⟨u,H3,I3,pu,q3⟩=>?_;rw[evalPart_none];refine wpAny_pure ?_;have I4:Inv X wv σ H3 {s3 with heap:=s3.heap.push {cls:=.type "slice",data:=.fields #[vl,vu,.none]}}:=I3.kept (t':=s3.toks) fun b ob q=>Heap.get?_push_of_some _ q
 obtain⟨T,id,hT,ht,hg⟩:=hr wv {s3 with heap:=s3.heap.push {cls:=.type "slice",data:=.fields #[vl,vu,.none]}} σ H3 x v vl vu l u s3.heap.objs.size Q I4 r1 (Heap.IsSliceOf.new ..) pl pu q3
 show wpAny (model X.prog X.w) X.A (subscriptTail e (.Slice lo hi none p2) v<|.ref s3.heap.objs.size) (EP X wv σ Q) X.xe {s3 with heap:=s3.heap.push {cls:=.type "slice",data:=.fields #[vl,vu,.none]}}
 exact tail_any (ops:=[.ref s3.heap.objs.size,v]) ht hT hg (by with_unfolding_all rfl)
def eN(xs:List V)(lo hi:Option Int):List V:=(xs.drop<|HT.di xs.length 0 lo).take (HT.di xs.length xs.length hi - HT.di xs.length 0 lo)
theorem FJ(xs:List V)(lo hi:Option Int):(eN xs lo hi).length<=xs.length:=by
 unfold eN;rw[zaE,zaB];omega
def FK(K:Frag):R2:=fun x y H Q=>∃a b xs ys,x=.ref a/\y=.ref b/\aM K H a xs/\aM K H b ys/\xs≠ []/\xs.length+ys.length<=sizeLine/\
 (ys=[]->Q (.ref a) H)/\(ys≠ []->∀p,H p=none->Q (.ref p) (upd H p<|.tup<|xs++ys))
theorem Vals.Aj{xs:List V}{us:List Value}(r:Vals xs us):us=[]↔xs=[]:=by
 cases r with
 |nil=>simp
 |cons _ _=>simp
theorem QS:bw X (binaryOp .Add) (FK X.K):=by
 intro wv s σ H x y v u Q I rx ry h;obtain⟨a,b,xs,ys,rfl,rfl,ha,hb,hx,hz,q1,q2⟩:=h;cases rx;cases ry;obtain⟨ao,r1,p1,_⟩:=I.tuple ha;obtain⟨fD,r2,p2,_⟩:=I.tuple hb;refine HT.QP p1 p2 (fun z=>hx<|r1.Aj.mp z) (fun z=>⟨.ref a,H,I,rfl,q1<|r2.Aj.mp z⟩) (fun z=>?_) (by rw[<-r1.length,<-r2.length];exact hz)
 refine⟨.ref s.heap.objs.size,_,I.laid (t':=s.toks) (o:=.tup (xs++ys)) (fun b ob q=>Heap.get?_push_of_some _ q) (zqR _) ?_,rfl,q2 (fun w=>z<|r2.Aj.mpr w) _<|I.aB.fresh<|zqR _⟩;exact⟨by rw[zqA];exact hz,_,r1.append r2,IsTup.new _ _⟩
end
def f_(n:Nat)(i:Int):Option Nat:=if 0<=i then (if i<n then some i.toNat else none) else if -(n:Int)<=i then some (i+n).toNat else none
def gc{α:Type}(xs:List α)(i:Int):Option α:=(f_ xs.length i).bind fun j=>xs[j]?
theorem FL{n:Nat}{i:Int}{j:Nat}(h:f_ n i=some j):seqIndex? i n=some j/\j<n/\ -(n:Int)<=i/\i<n:=by
 unfold f_ at h;by_cases h0:0<=i
 ·rw[if_pos h0] at h;by_cases h1:i<n
  ·rw[if_pos h1] at h;have e:i.toNat=j:=zao h;exact⟨by rw[seqIndex_of h0 h1,e],by omega,by omega,h1⟩
  ·rw[if_neg h1] at h;cases h
 ·rw[if_neg h0] at h;by_cases h1: -(n:Int)<=i
  ·rw[if_pos h1] at h;have e:(i+n).toNat=j:=zao h;exact⟨by rw[seqIndex_neg (by omega) h1,e],by omega,h1,by omega⟩
  ·rw[if_neg h1] at h;cases h
theorem Ak{α:Type}{xs:List α}{i:Int}{v:α}(h:gc xs i=some v):∃j,seqIndex? i xs.length=some j/\xs[j]?=some v/\j<xs.length/\ -(xs.length:Int)<=i/\i<xs.length:=by
 unfold gc at h;cases e:f_ xs.length i with
 |none=>rw[e] at h;cases h
 |some j=>
  rw[e] at h;obtain⟨h1,h2,h3,h4⟩:=FL e;exact⟨j,h1,h,h2,h3,h4⟩
theorem cB{α:Type}{xs:List α}{j:Nat}{v:α}(h:xs[j]?=some v):gc xs (j:Int)=some v:=by
 have hj:j<xs.length:=(zal.mp h).1;have e:f_ xs.length (j:Int)=some j:=by
  unfold f_;rw[if_pos (by omega),if_pos (by omega)];simp
 unfold gc;rw[e];exact h
theorem kU{α:Type}(xs:List α)(v:α):gc (xs++[v]) (-1)=some v:=by
 have hl:(xs++[v]).length=xs.length+1:=by simp
 have e:f_ (xs++[v]).length (-1)=some xs.length:=by
  unfold f_;rw[hl,if_neg (by decide),if_pos (by omega)]
  congr 1
  omega
 unfold gc;rw[e];show(xs++[v])[xs.length]?=some v
 simp
def FN(b:Expr):Prop:= ∀o i,subscripted b false o i=operate [o,i] (getItem o i)
def kW(X:Cx)(r:R2):Prop:=
 ∀(value slice:Expr) (wv:List (Addr×Obj)) (s:Shared) (σ:St) (H:Hp) (x y:V) (v u:Value) (Q:VK),Inv X wv σ H s->RelV x v->RelV y u->r x y H Q->
  subscripted slice false v u=operate [v,u] (getItem v u)->wpAny (model X.prog X.w) X.A (subscriptTail value slice v u) (EP X wv σ Q) X.xe s
def rG(X:Cx)(id:String)(r:V->List V->Hp->VK->Prop):Prop:=
 ∀(wv:List (Addr×Obj)) (s:Shared) (σ:St) (H:Hp) (x:V) (xs:List V) (v:Value) (us:List Value) (Q:VK),Inv X wv σ H s->RelV x v->Vals xs us->r x xs H Q->
  wpAny (model X.prog X.w) X.A (call (.builtin id) (v::us)) (EP X wv σ Q) X.xe s
section
variable {X:Cx}{a b:Expr}{ta tb:TE}{pos:Pos}
theorem kW.or{r r':R2}(h:kW X r)(h':kW X r'):kW X (fun x y H Q=>r x y H Q\/r' x y H Q):=by
 intro value slice wv s σ H x y v u Q I rx ry q hs;rcases q with q|q
 ·exact h value slice wv s σ H x y v u Q I rx ry q hs
 ·exact h' value slice wv s σ H x y v u Q I rx ry q hs
theorem QU{r:R2}(hr:kW X r)(ha:PE X a ta)(hb:PE X b tb)(hs:FN b):PE X (.Subscript a b pos) (fO r ta tb):=by
 intro wv s σ H Q I h;exact Subscript_<|z7 ha hb I h fun v u s2 x y H2 I2 rx ry q=>hr a b wv s2 σ H2 x y v u Q I2 rx ry q (hs _ _)
def FO(K:Frag):R2:=fun x y H Q=>∃p xs i v,x=.ref p/\y=.int i/\av K H p xs/\gc xs i=some v/\Q v H
def FP(K:Frag):R2:=fun x y H Q=>∃p xs i v,x=.ref p/\y=.int i/\aM K H p xs/\gc xs i=some v/\Q v H
def FQ:R2:=fun x y H Q=>∃z i c,x=.str z/\y=.int i/\z.length<=sizeLine/\gc z.cps.toList i=some c/\Q (.str ⟨#[c]⟩) H
theorem QV:kW X (FO X.K):=by
 intro value slice wv s σ H x y v u Q I rx ry h hs;obtain⟨p,xs,i,z,rfl,rfl,hq,he,q⟩:=h;cases rx;obtain⟨t,rfl⟩:=ry;obtain⟨ao,r,pl,hz⟩:=I.list hq;obtain⟨j,h1,h2,h3,h4,h5⟩:=Ak he;obtain⟨w,ew,je⟩:=r.get h2;have hl:=r.length;have hn:=pI;have fin:EP X wv σ Q w s:=⟨z,H,I,je,q⟩;by_cases h0:0<=i
 ·have hj:i.toNat=j:=by
   rw[seqIndex_of h0 h5] at h1;exact zao h1
  exact item_listR pl.isList h0 (by omega) (by rw[hj];simpa using ew) fin hs
 ·have hj:(i+(ao.toArray.size:Int)).toNat=j:=by
   rw[seqIndex_neg (by omega) h4] at h1
   rw[zag,<-hl];exact zao h1
  exact subscriptTail_builtinR (x:=w) pl.isList.typeIs slot_list_getitem.lookup
   (wpAny_getItem_list_neg (Q:=fun r s'=>r=w/\EP X wv σ Q r s') pl.isList (by omega) (by rw[zag] <;>omega) (by omega) (by rw[hj];simpa using ew) ⟨rfl,fin⟩) hs
theorem QW:kW X (FP X.K):=by
 intro value slice wv s σ H x y v u Q I rx ry h hs;obtain⟨p,xs,i,z,rfl,rfl,hq,he,q⟩:=h;cases rx;obtain⟨t,rfl⟩:=ry;obtain⟨ao,r,pl,hz⟩:=I.tuple hq;obtain⟨j,h1,h2,h3,h4,h5⟩:=Ak he;obtain⟨w,ew,je⟩:=r.get h2;have hl:=r.length;have hn:=pI;have fin:EP X wv σ Q w s:=⟨z,H,I,je,q⟩;exact subscriptTail_builtinR (x:=w) pl.typeIs slot_tuple_getitem.lookup
  (getItem_tuple (j:=j) (Q:=fun r s'=>r=w/\EP X wv σ Q r s') pl (by omega) (by omega) (by rw[zag,<-hl];exact h1) (by simpa using ew) ⟨rfl,fin⟩) hs
theorem QX:kW X FQ:=by
 intro value slice wv s σ H x y v u Q I rx ry h hs;obtain⟨z,i,c,rfl,rfl,hz,he,q⟩:=h;obtain⟨t,rfl⟩:=rx;obtain⟨t',rfl⟩:=ry;obtain⟨j,h1,h2,h3,h4,h5⟩:=Ak he;have hl:z.cps.toList.length=z.length:=by simp[Str.length]
 rw[hl] at h1 h4 h5;have hn:=pI;exact tail_any (typeIs_str s z t) slot_str_getitem.lookup (getItem_str (c:=c) (by
  have e1:decide (i< -(2 ^ 63:Int))=false:=zqF (by omega)
  have e2:decide (i≥2 ^ 63)=false:=zqF (by omega)
  rw[e1,e2,zbj]) (by rw[h1];simpa using h2) ⟨.str ⟨#[c]⟩,H,I.tok _,⟨_,rfl⟩,q⟩) hs
theorem QY(ao:List Value)(n j:Nat)(u:Value):Obj.mapSeq (·.setIfInBounds j u) {cls:=.type "list",data:=.seq ao.toArray n}={cls:=.type "list",data:=.seq (ao.set j u).toArray n}:=by
 simp[Obj.mapSeq]
theorem Inv.lst{wv:List (Addr×Obj)}{σ:St}{H:Hp}{s:Shared}{p:Addr}{xs:List V}(I:Inv X wv σ H s)(h:H p=some (.lst xs)):
  ∃(ao:List Value) (n:Nat),Vals xs ao/\s.heap.get? p=some {cls:=.type "list",data:=.seq ao.toArray n}/\xs.length<=sizeLine:=by
 obtain⟨z,ao,n,r,e⟩:=I.aB p _ h;exact⟨ao,n,r,e,z⟩
theorem Inv.QZ{wv:List (Addr×Obj)}{σ:St}{H:Hp}{s:Shared}{p:Addr}{xs ys:List V}{ao iL:List Value}{n n':Nat}{f:Obj->Obj}(I:Inv X wv σ H s)(h:H p=some (.lst xs))
  (ho:s.heap.get? p=some {cls:=.type "list",data:=.seq ao.toArray n}) (hf:f {cls:=.type "list",data:=.seq ao.toArray n}={cls:=.type "list",data:=.seq iL.toArray n'}) (r:Vals ys iL) (hz:ys.length<=sizeLine) (t:Nat):
  Inv X wv σ (upd H p<|.lst ys) {s with heap:=s.heap.update p f,toks:=t}:=by
 have e:(s.heap.update p f).get? p=some {cls:=.type "list",data:=.seq iL.toArray n'}:=by
  rw[Heap.get?_update_self f ho (by rw[hf] <;>rfl),hf]
 refine I.write (x:=p) (e:=p) (by rw[h];trivial) (.inl rfl) (fun b u hb q=>(Heap.get?_update_other _ _<|Ne.symm hb).trans q) ⟨_,e⟩ ?_
 exact⟨hz,iL,n',r,e⟩
def Al:V->V->V->Hp->(Hp->Prop)->Prop:=fun o i v H Q=>∃p xs k j,o=.ref p/\i=.int k/\H p=some (.lst xs)/\f_ xs.length k=some j/\Q (upd H p<|.lst<|xs.set j v)
theorem set_list:E1 X Al:=by
 intro wv s σ H o i v ov iv u Q I ro ri rv h;obtain⟨p,xs,k,j,rfl,rfl,hp,hj,q⟩:=h;cases ro;obtain⟨t,rfl⟩:=ri;obtain⟨ao,n,r,ho,hz⟩:=I.lst hp;obtain⟨h1,h2,h3,h4⟩:=FL hj;have hl:=r.length;have hn:=pI;have I':Inv X wv σ (upd H p<|.lst<|xs.set j v) {s with heap:=s.heap.update p (Obj.mapSeq (·.setIfInBounds j u))}:=
  I.QZ hp ho (QY ao n j u) (r.set rv j) (by rw[zbd];exact hz) s.toks
 by_cases h0:0<=k
 ·have hk:k.toNat=j:=by
   rw[seqIndex_of h0 h4] at h1;exact zao h1
  exact PySem.W.ki_setAt ho h0 (by omega) (by rw[zag,<-hl];exact h4) (by rw[hk];exact⟨_,I',q⟩)
 ·have hk:(k+(ao.toArray.size:Int)).toNat=j:=by
   rw[seqIndex_neg (by omega) h3] at h1
   rw[zag,<-hl];exact zao h1
  exact PySem.W.ki_setBack ho (by omega) (by rw[zag,<-hl];exact h3) (by omega) (by rw[hk];exact⟨_,I',q⟩)
theorem Am(lo hi:Option Int)(n:Nat):(sliceBounds lo hi none n).1=((HT.di n 0 lo:Nat):Int)/\(sliceBounds lo hi none n).2.1=((HT.di n n hi:Nat):Int)/\(sliceBounds lo hi none n).2.2=1:=by
 refine⟨?_,?_,rfl⟩
 ·cases lo with
  |none=>simp[sliceBounds,HT.di]
  |some i=>
   simp only[sliceBounds,HT.di,Option.getD_none,show(1:Int) >0 by decide,if_true]
   by_cases h:i<0
   ·simp only[h,if_true] <;>omega
   ·simp only[h,if_false] <;>omega
 ·cases hi with
  |none=>simp[sliceBounds,HT.di]
  |some i=>
   simp only[sliceBounds,HT.di,Option.getD_none,show(1:Int) >0 by decide,if_true]
   by_cases h:i<0
   ·simp only[h,if_true] <;>omega
   ·simp only[h,if_false] <;>omega
theorem Q0(ao:List Value)(lo hi:Option Int):slicePick ao.toArray lo hi none=((ao.drop<|HT.di ao.length 0 lo).take<|HT.di ao.length ao.length hi - HT.di ao.length 0 lo).toArray:=by
 obtain⟨h1,h2,h3⟩:=Am lo hi ao.toArray.size;unfold slicePick;rw[h1,h2,h3]
 simp only[sliceRange_one,pick_run,zag] <;>rfl
def Q2(K:Frag):V->Option Int->Option Int->Hp->VK->Prop:=fun x lo hi H Q=>∃a xs,x=.ref a/\av K H a xs/\∀p,H p=none->Q (.ref p) (upd H p<|.lst<|eN xs lo hi)
theorem Q3:Ah X (Q2 X.K):=by
 intro wv s σ H x v vl vu lo hi sl Q I rx hs pl pu h;obtain⟨a,xs,rfl,hx,q⟩:=h;cases rx;obtain⟨ao,r,ht,hz⟩:=I.list hx;have hlen:=r.length;refine⟨"list",_,slot_list_getitem.lookup,ht.isList.typeIs,?_⟩;refine wpAny_getItem_list_slice ht.isList hs pl pu .none (by simp) ?_ (by rw[zag] <;>omega)
 rw[Q0,<-hlen];refine⟨.ref s.heap.objs.size,_,I.laid (t':=s.toks) (o:=.lst (eN xs lo hi)) (fun b ob q=>Heap.get?_push_of_some _ q) (zqR _) ?_,rfl,q _<|I.aB.fresh<|zqR _⟩;exact⟨zay (FJ xs lo hi) hz,_,0,(r.drop<|HT.di xs.length 0 lo).take<|HT.di xs.length xs.length hi - HT.di xs.length 0 lo,Heap.get?_push_size _ rfl⟩
def gZ:V->Bool
 |.az=>true
 |.bl _=>true
 |.int _=>true
 |.str _=>true
 |_=>false
def e9:V->V->Bool
 |.az,.az=>true
 |.bl a,.bl b=>a==b
 |.bl a,.int b=>(if a then 1 else 0)==b
 |.int a,.bl b=>a==(if b then 1 else 0)
 |.int a,.int b=>a==b
 |.str a,.str b=>a==b
 |_,_=>false
theorem Q4{A:Around}{s:Shared}{y x:V}{u v:Value}(ry:RelV y u)(rx:RelV x v)(fy:gZ y=true)(fx:gZ x=true):SeqAt.EqAt A s u v (e9 y x):=by
 cases y with
 |az=>
  cases ry;cases x with
  |az=>cases rx;exact SeqAt.EqAt.same _
  |bl b=>cases rx;exact SeqAt.EqAt.none_bool b
  |int b=>obtain⟨t,rfl⟩:=rx;exact SeqAt.EqAt.none_int b t
  |str b=>obtain⟨t,rfl⟩:=rx;exact SeqAt.EqAt.none_str b t
  |_=>exact absurd (show false=true from fx) zav
 |bl a=>
  cases ry;cases x with
  |az=>cases rx;exact SeqAt.EqAt.bool_none a
  |bl b=>cases rx;exact SeqAt.EqAt.bool_bool a b
  |int b=>obtain⟨t,rfl⟩:=rx;exact SeqAt.EqAt.bool_int a b t
  |str b=>obtain⟨t,rfl⟩:=rx;exact SeqAt.EqAt.bool_str a b t
  |_=>exact absurd (show false=true from fx) zav
 |int a=>
  obtain⟨t',rfl⟩:=ry;cases x with
  |az=>cases rx;exact SeqAt.EqAt.int_none a t'
  |bl b=>cases rx;exact SeqAt.EqAt.int_bool a t' b
  |int b=>obtain⟨t,rfl⟩:=rx;exact SeqAt.EqAt.int_int a t' b t
  |str b=>obtain⟨t,rfl⟩:=rx;exact SeqAt.EqAt.int_str a t' b t
  |_=>exact absurd (show false=true from fx) zav
 |str a=>
  obtain⟨t',rfl⟩:=ry;cases x with
  |az=>cases rx;exact SeqAt.EqAt.str_none a t'
  |bl b=>cases rx;exact SeqAt.EqAt.str_bool a t' b
  |int b=>obtain⟨t,rfl⟩:=rx;exact SeqAt.EqAt.str_int a t' b t
  |str b=>obtain⟨t,rfl⟩:=rx;exact SeqAt.EqAt.str_str a t' b t
  |_=>exact absurd (show false=true from fx) zav
 |_=>exact absurd (show false=true from fy) zav
def fQ(x:V)(u:Value):Bool:=match u with
 |.none=>e9 .az x
 |.bool b=>e9 (.bl b) x
 |.int i _=>e9 (.int i) x
 |.str z _=>e9 (.str z) x
 |_=>false
theorem An{x y:V}{u:Value}(r:RelV y u)(f:gZ y=true):fQ x u=e9 y x:=by
 cases y with
 |az=>cases r;rfl
 |bl b=>cases r;rfl
 |int i=>obtain⟨t,rfl⟩:=r;rfl
 |str z=>obtain⟨t,rfl⟩:=r;rfl
 |_=>exact absurd (show false=true from f) zav
theorem ui{x:V}:∀{xs:List V}{us:List Value},Vals xs us->xs.all gZ=true->us.any (fQ x)=xs.any fun y=>e9 y x
 |_,_,.nil,_=>rfl
 |y::xs,u::us,.cons r t,f=>by
  rw[zbk,zaf] at f;rw[zby,zby,An r f.1,ui t f.2]
theorem rH{A:Around}{s:Shared}{x:V}{v:Value}(rx:RelV x v)(fx:gZ x=true):∀{xs:List V}{us:List Value},Vals xs us->xs.all gZ=true->∀u∈us,SeqAt.EqAt A s u v (fQ x u)
 |_,_,.nil,_=>fun u hu=>by cases hu
 |y::xs,u::us,.cons r t,f=>fun u' hu=>by
  rw[zbk,zaf] at f;rcases zac.mp hu with rfl|hu
  ·rw[An r f.1];exact Q4 r rx f.1 fx
  ·exact rH rx fx t f.2 u' hu
def dm(x:V)(xs:List V):Bool:=xs.any fun y=>e9 y x
def Ao(K:Frag)(neg:Bool):R2:=fun x y H Q=>∃p xs,y=.ref p/\(av K H p xs\/aM K H p xs)/\gZ x=true/\xs.all gZ=true/\Q (.bl (if neg then !dm x xs else dm x xs)) H
theorem Q5:bw X (compareOp .In) (Ao X.K false):=by
 intro wv s σ H x y v u Q I rx ry h;obtain⟨p,xs,rfl,hq,fx,fs,q⟩:=h;cases ry;rcases hq with hq|hq
 ·obtain⟨ao,r,pl,hz⟩:=I.list hq;refine SeqAt.in_listAt (fQ x) pl.isList (fun w hw=>rH rx fx r fs w (by simpa using hw)) ⟨.bl _,H,I,rfl,?_⟩
  rw[show ao.toArray.any (fQ x)=ao.any (fQ x) by simp,ui r fs]
  exact q
 ·obtain⟨ao,r,pl,hz⟩:=I.tuple hq;refine SeqAt.in_tupleAt (fQ x) pl (fun w hw=>rH rx fx r fs w (by simpa using hw)) ⟨.bl _,H,I,rfl,?_⟩
  rw[show ao.toArray.any (fQ x)=ao.any (fQ x) by simp,ui r fs]
  exact q
theorem Q6:bw X (compareOp .NotIn) (Ao X.K true):=by
 intro wv s σ H x y v u Q I rx ry h;obtain⟨p,xs,rfl,hq,fx,fs,q⟩:=h;cases ry;rcases hq with hq|hq
 ·obtain⟨ao,r,pl,hz⟩:=I.list hq;refine SeqAt.notIn_listAt (fQ x) pl.isList (fun w hw=>rH rx fx r fs w (by simpa using hw)) ⟨.bl _,H,I,rfl,?_⟩
  rw[show ao.toArray.any (fQ x)=ao.any (fQ x) by simp,ui r fs]
  exact q
 ·obtain⟨ao,r,pl,hz⟩:=I.tuple hq;refine SeqAt.notIn_tupleAt (fQ x) pl (fun w hw=>rH rx fx r fs w (by simpa using hw)) ⟨.bl _,H,I,rfl,?_⟩
  rw[show ao.toArray.any (fQ x)=ao.any (fQ x) by simp,ui r fs]
  exact q
theorem dD.or{f:Value}{r r':List V->Hp->VK->Prop}(h:dD X f r)(h':dD X f r'):dD X f (fun xs H Q=>r xs H Q\/r' xs H Q):=by
 intro wv s σ H xs us Q I rs q;rcases q with q|q
 ·exact h wv s σ H xs us Q I rs q
 ·exact h' wv s σ H xs us Q I rs q
theorem Q7:dD X (.type "list") (fun xs H Q=>∃p ys,xs=[.ref p]/\(av X.K H p ys\/aM X.K H p ys)/\∀l,H l=none->Q (.ref l) (upd H l<|.lst ys)):=by
 intro wv s σ H xs us Q I r h;obtain⟨p,ys,rfl,hq,q⟩:=h;obtain⟨u,rfl,rx⟩:=vals1 r;cases rx;have fin:∀(ao:List Value),Vals ys ao->ys.length<=sizeLine->∀(h':Heap) (c':Nat),(∀b o',s.heap.get? b=some o'->h'.get? b=some o')->
   h'.get? s.heap.objs.size=some {cls:=.type "list",dict:=none,data:=.seq ao.toArray c',slots:= #[]}->EP X wv σ Q (.ref s.heap.objs.size) {s with heap:=h'}:=fun ao r' hz h' c' kp e=>
  ⟨.ref s.heap.objs.size,_,I.laid (t':=s.toks) kp (zqR _) (show cA X.prog X.w _ h' _ (.lst ys) from⟨hz,ao,c',r',e⟩),rfl,q _<|I.aB.fresh<|zqR _⟩
 rcases hq with hq|hq
 ·obtain⟨ao,r',pl,hz⟩:=I.list hq;have hlen:=r'.length;obtain⟨o,ho,hc,n,hd⟩:=pl.isList;exact call_list_seq p (.inl rfl) ho hc hd (fun h' c' kp e=>fin ao r' hz h' c' kp e) (by simp only[zag] <;>omega)
 ·obtain⟨ao,r',pl,hz⟩:=I.tuple hq;have hlen:=r'.length;obtain⟨o,ho,hc,n,hd⟩:=pl;exact call_list_seq p (.inr rfl) ho hc hd (fun h' c' kp e=>fin ao r' hz h' c' kp e) (by simp only[zag] <;>omega)
def rJ(K:Frag)(T:String)(x:V)(H:Hp):Prop:=match x with
 |.str _=>T="str"
 |.int _=>T="int"
 |.ref p=>(T="list"/\∃xs,av K H p xs)\/(T="tuple"/\∃o,K.lookup p=some o/\o.cls=.type "tuple"/\o.dict=none)\/
   (T="dict"/\((∃kvs,H p=some (.dK kvs))\/∃kvs,H p=some (.dT kvs)))\/(T="set"/\∃S n,H p=some (.set S n))
 |_=>False
theorem FR{wv:List (Addr×Obj)}{σ:St}{H:Hp}{s:Shared}{T:String}{x:V}{v:Value}(I:Inv X wv σ H s)(r:RelV x v)(ty:rJ X.K T x H):
  s.TypeIs v T/\∀a,v=.ref a->∃ob,s.heap.get? a=some ob/\ob.dict=none:=by
 cases x with
 |str z=>
  obtain⟨t,rfl⟩:=r;cases (show T="str" from ty)
  exact⟨typeIs_str s z t,fun _ e=>nomatch e⟩
 |int i=>
  obtain⟨t,rfl⟩:=r;cases (show T="int" from ty)
  exact⟨typeIs_int s i t,fun _ e=>nomatch e⟩
 |ref p=>
  cases r;rcases ty with⟨rfl,xs,hq⟩|⟨rfl,o,hk,hc,hd⟩|⟨rfl,hk⟩|⟨rfl,S,n,hk⟩
  ·obtain⟨ao,_,pl,_⟩:=I.list hq;refine⟨pl.isList.typeIs,fun a e=>?_⟩;cases e;obtain⟨o,n,e,c,hd,_⟩:=pl;exact⟨o,e,hd⟩
  ·refine⟨⟨o,I.cX p o hk,hc⟩,fun a e=>?_⟩;cases e;exact⟨o,I.cX _ o hk,hd⟩
  ·have z:∃o,s.heap.get? p=some o/\o.ExactDict:=by
    rcases hk with⟨kvs,hk⟩|⟨kvs,hk⟩
    ·obtain⟨_,_,_,_,o,_,_,e,ex,_⟩:=I.aB p _ hk;exact⟨o,e,ex⟩
    ·obtain⟨_,_,_,_,o,_,_,e,ex,_⟩:=I.aB p _ hk;exact⟨o,e,ex⟩
   obtain⟨o,e,ex⟩:=z;refine⟨⟨o,e,ex.1⟩,fun a e2=>?_⟩;cases e2;exact⟨o,e,ex.2.1⟩
  ·obtain⟨o,_,_,_,e,ex,_⟩:=I.aB p _ hk;refine⟨⟨o,e,ex.1⟩,fun a e2=>?_⟩;cases e2;exact⟨o,e,ex.2.1⟩
 |_=>exact False.elim ty
def Q8(K:Frag)(T:String)(r:V->List V->Hp->VK->Prop)(to:TE):TE:=fun σ H Q=>to σ H fun x H1=>rJ K T x H1/\r x [] H1 Q
def Q9(K:Frag)(T:String)(r:V->List V->Hp->VK->Prop)(to:TE)(t:TA):TE:=fun σ H Q=>to σ H fun x H1=>rJ K T x H1/\t σ H1 fun xs H2=>r x xs H2 Q
variable {o e:Expr}{es:List Expr}{to:TE}{t:TA}{name:Str}{apos dW:Pos}{T id:String}{r:V->List V->Hp->VK->Prop}
theorem Q_(pa:PlainAttrs T)(slot:Slot T name id)(Ap:typeOf (.builtin id)=pure (.type "method_descriptor"))(hm:rG X id r)(ho:PE X o to)
  (Aq:attributeBase o name X.env (eval o X.env)=eval o X.env:=by rfl) (Ar:(apos.endLine==dW.line)=true:=by rfl):PE X (.Call (.Attribute o name apos) [] [] dW) (Q8 X.K T r to):=by
 intro wv s σ H Q I h;refine wpAny_Call_method0_late Aq Ar<|aG (ho wv s σ H _ I h) fun v s1 ⟨x,H1,I1,r1,ty,q1⟩=>?_;obtain⟨h1,h2⟩:=FR I1 r1 ty;exact⟨T,id,pa,slot,Ap,h1,h2,Calls.callWith_builtin rfl<|PySem.evalArgs_none<|hm wv s1 σ H1 x [] v [] Q I1 r1 .nil q1⟩
theorem Ra(pa:PlainAttrs T)(slot:Slot T name id)(Ap:typeOf (.builtin id)=pure (.type "method_descriptor"))(hm:rG X id r)(ho:PE X o to)(ha:PA X (e::es) t)
  (Aq:attributeBase o name X.env (eval o X.env)=eval o X.env:=by rfl)
  (Rb:((backTo dW (starEach (e::es) X.env)).all (fun x=> !x.1) && (backToKw dW (keywordEach [] X.env)).all (fun x=>x.1.isSome)
   && decide ((e::es).length+([]:List Keyword).length+(if ([]:List Keyword).isEmpty then 0 else 1) <30))=true:=by rfl)
  (Ar:(apos.endLine==dW.line)=true:=by rfl) (hs:starEach (e::es) X.env=(false,eval e X.env)::starEach es X.env:=by rfl) (Rc:(backTo dW<|starEach es X.env).any (·.1)=false:=by rfl):
  PE X (.Call (.Attribute o name apos) (e::es) [] dW) (Q9 X.K T r to t):=by
 intro wv s σ H Q I h;refine wpAny_Call_method_late Aq Rb Ar rfl<|aG (ho wv s σ H _ I h) fun v s1 ⟨x,H1,I1,r1,ty,q1⟩=>?_;obtain⟨h1,h2⟩:=FR I1 r1 ty;refine⟨T,id,pa,slot,Ap,h1,h2,?_⟩;have hA:=ha dW wv s1 σ H1 _ I1 q1;rw[hs] at hA⊢;refine Calls.callWith_builtin (by show(false ||(backTo dW<|starEach es X.env).any (·.1))=false;rw[Rc] <;>rfl)<|Calls.evalArgs_plain ?_
 exact aG hA fun us s2 ⟨vs,H2,I2,r2,q2⟩=>hm wv s2 σ H2 x vs v us Q I2 r1 r2 q2
end
def wG(X:Cx)(id:String)(r:V->List V->Hp->VK->Prop):Prop:=
 ∀(wv:List (Addr×Obj)) (s:Shared) (σ:St) (H:Hp) (x:V) (xs:List V) (v:Value) (us:List Value) (Q:VK),Inv X wv σ H s->RelV x v->Vals xs us->r x xs H Q->
  wpAny (model X.prog X.w) X.A (call (.builtin id) (v::us)) (EP X wv σ Q) X.xe s
theorem Vals.one:∀{x:V}{us:List Value},Vals [x] us->∃u,us=[u]/\RelV x u
 |_,_,.cons r .nil=>⟨_,rfl,r⟩
theorem Vals.zero:∀{us:List Value},Vals [] us->us=[]
 |_,.nil=>rfl
theorem Vals.dropLast{xs:List V}{us:List Value}(h:Vals xs us):Vals xs.dropLast us.dropLast:=by
 induction h with
 |nil=>exact .nil
 |cons r t ih=>
  cases t with
  |nil=>exact .nil
  |cons q t'=>exact .cons r ih
theorem Vals.rep{xs:List V}{us:List Value}(h:Vals xs us):∀k:Nat,Vals (List.replicate k xs).flatten (List.replicate k us).flatten
 | 0=>.nil
 |k+1=>by
  rw[zbz,zbz,zbQ,zbQ];exact Vals.append h<|Vals.rep h k
theorem Rf{α:Type}(l:List α):l.eraseIdx (l.length - 1)=l.dropLast:=by
 induction l with
 |nil=>rfl
 |cons a r ih=>
  cases r with
  |nil=>rfl
  |cons b r=>
   have e:(a::b::r).length - 1=((b::r).length - 1)+1:=by
    have h1:(a::b::r).length=r.length+2:=rfl;have h2:(b::r).length=r.length+1:=rfl;omega
   rw[e,List.eraseIdx_cons_succ,ih]
   all_goals rfl
theorem foldl_rep(ao:List Value):∀(k:Nat) (acc:List Value),
  List.foldl (fun x1 x2=>x1++x2) acc.toArray (List.replicate k ao.toArray)=(acc++(List.replicate k ao).flatten).toArray
 | 0,acc=>by simp
 |k+1,acc=>by
  have e:acc.toArray++ao.toArray=(acc++ao).toArray:=by simp
  have e2:(acc++ao)++(List.replicate k ao).flatten=acc++(List.replicate (k+1) ao).flatten:=by
   rw[zbz,zbQ,zah]
  rw[<-e2,<-foldl_rep ao k (acc++ao),<-e,zbz,zbR]
section
variable {X:Cx}{wv:List (Addr×Obj)}{σ:St}{H:Hp}{s:Shared}{l b:Addr}{xs ys zs:List V}
theorem Inv.wH{ao iL:List Value}{n:Nat}{f:Array Value->Array Value}{t':Nat}(I:Inv X wv σ H s)(hH:H l=some (.lst xs))
  (e:s.heap.get? l=some {cls:=.type "list",data:=.seq ao.toArray n}) (hf:f ao.toArray=iL.toArray) (hv:Vals ys iL) (hz:ys.length<=sizeLine):
  Inv X wv σ (upd H l<|.lst ys) {s with heap:=s.heap.update l (Obj.mapSeq f),toks:=t'}:=by
 have q:=PySem.IsL.update e f;rw[hf] at q;refine I.write (x:=l) (e:=l) (by rw[hH];exact trivial) (.inl rfl) (fun b' u hb hu=>(Heap.get?_update_other s.heap (Obj.mapSeq f)<|Ne.symm hb).trans hu) ⟨_,q⟩ ?_
 exact⟨hz,iL,_,hv,q⟩
theorem Inv.FT{ao:List Value}{t':Nat}(I:Inv X wv σ H s)(hv:Vals ys ao)(hz:ys.length<=sizeLine):
  Inv X wv σ (upd H s.heap.objs.size<|.lst ys) {s with heap:=s.heap.push {cls:=.type "list",data:=.seq ao.toArray},toks:=t'}:=
 I.laid (fun _ _ q=>Heap.get?_push_of_some _ q) (zqR _) ⟨hz,ao,0,hv,Heap.get?_push_size _ rfl⟩
theorem Inv.fresh(I:Inv X wv σ H s):H s.heap.objs.size=none:=I.aB.fresh (zqR _)
theorem Inv.nY(I:Inv X wv σ H s)(hH:H l=some (.lst xs)):xs.length<=sizeLine/\∃(ao:List Value) (n:Nat),Vals xs ao/\xs.length=ao.length/\s.heap.get? l=some {cls:=.type "list",data:=.seq ao.toArray n}:=by
 obtain⟨z,ao,n,r,e⟩:=I.aB l _ hH;exact⟨z,ao,n,r,r.length,e⟩
theorem FU{n:Nat}(h:n<=sizeLine):Builtin.List.listTooLong n=false:=by
 unfold Builtin.List.listTooLong;exact zqF (by omega)
end
section
variable {X:Cx}
def Rg:V->List V->Hp->VK->Prop:=fun x vs H Q=>∃l xs y,x=.ref l/\vs=[y]/\H l=some (.lst xs)/\xs.length<sizeLine/\Q .az (upd H l<|.lst<|xs++[y])
theorem Rh:wG X "list.append" Rg:=by
 intro wv s σ H x vs v us Q I rx rv h;obtain⟨l,xs,y,rfl,rfl,hH,hz,q⟩:=h;cases rx;obtain⟨u,rfl,ru⟩:=rv.one;obtain⟨z,ao,n,r,hl,e⟩:=I.nY hH;refine call_meets F.slot_list_append ⟨_,e,rfl⟩ F.entry_list_append (F.args_list_append_2 _ _) (PySem.list_append l ao.toArray n u (by rw[zag];omega)) ⟨e,?_⟩
 refine⟨.az,_,I.wH (iL:=ao++[u]) hH e (by simp) (r.append<|.cons ru .nil) ?_,rfl,q⟩
 rw[zqA,zaR];omega
def Ri:V->List V->Hp->VK->Prop:=fun x vs H Q=>∃l b xs zs,x=.ref l/\vs=[.ref b]/\H l=some (.lst xs)/\H b=some (.lst zs)/\xs.length+zs.length<=sizeLine/\Q .az (upd H l<|.lst<|xs++zs)
theorem Rj:wG X "list.extend" Ri:=by
 intro wv s σ H x vs v us Q I rx rv h;obtain⟨l,b,xs,zs,rfl,rfl,hH,hB,hz,q⟩:=h;cases rx;obtain⟨u,rfl,ru⟩:=rv.one;cases ru;obtain⟨z,ao,n,r,hl,e⟩:=I.nY hH;obtain⟨z2,fD,n2,r2,eo,e2⟩:=I.nY hB;have hsz:ao.toArray.size+fD.toArray.size<=sizeLine:=by rw[zag,zag];omega
 have As:¬(!ao.toArray.isEmpty && Builtin.List.listTooLong (ao.toArray.size+fD.toArray.size))=true:=by
  rw[FU hsz,Bool.and_false];exact zav
 refine call_meets F.slot_list_extend ⟨_,e,rfl⟩ F.entry_list_extend (F.args_list_extend_2 _ _)
  (AutoSeq1.list_extend_list_list_0 l ao.toArray n b fD.toArray n2 As (by rw[zag];omega) (by omega)) ⟨e,e2,?_⟩
 refine⟨.az,_,I.wH (iL:=ao++fD) hH e (by simp) (r.append r2) ?_,rfl,q⟩
 rw[zqA];omega
def Rk:V->List V->Hp->VK->Prop:=fun x vs H Q=>∃l xs y,x=.ref l/\vs=[]/\H l=some (.lst xs)/\xs[xs.length - 1]?=some y/\Q y (upd H l<|.lst xs.dropLast)
theorem Rl:wG X "list.pop" Rk:=by
 intro wv s σ H x vs v us Q I rx rv h;obtain⟨l,xs,y,rfl,rfl,hH,hy,q⟩:=h;cases rx;have Au:=rv.zero;subst Au;obtain⟨z,ao,n,r,hl,e⟩:=I.nY hH;obtain⟨u,hu,ru⟩:=r.get hy;have pN:ao.toArray[ao.toArray.size - 1]?=some u:=by
  show ao.toArray[ao.length - 1]?=some u;rw[<-Array.getElem?_toList,<-hl];exact hu
 refine call_meets F.slot_list_pop ⟨_,e,rfl⟩ F.entry_list_pop (F.args_list_pop_1 _) (MeetsSeq.list_pop_last l ao.toArray n u pN (by rw[zag];omega)) ⟨e,?_⟩
 refine⟨y,_,I.wH (iL:=ao.dropLast) hH e ?_ r.dropLast ?_,ru,q⟩
 ·show ao.toArray.eraseIdxIfInBounds (ao.toArray.size - 1)=ao.dropLast.toArray;rw[zag,List.eraseIdxIfInBounds_toArray,Rf]
 ·rw[zcf];omega
def Rm:V->List V->Hp->VK->Prop:=fun x vs H Q=>∃l xs,x=.ref l/\vs=[]/\H l=some (.lst xs)/\Q .az (upd H l<|.lst [])
theorem Rn:wG X "list.clear" Rm:=by
 intro wv s σ H x vs v us Q I rx rv h;obtain⟨l,xs,rfl,rfl,hH,q⟩:=h;cases rx;have Au:=rv.zero;subst Au;obtain⟨z,ao,n,r,hl,e⟩:=I.nY hH;refine call_meets F.slot_list_clear ⟨_,e,rfl⟩ F.entry_list_clear (F.args_list_clear_1 _) (AutoSeq1.list_clear_list_0 l ao.toArray n (by rw[zag];omega)) ⟨e,?_⟩
 exact⟨.az,_,I.wH (iL:=[]) (ys:=[]) hH e rfl .nil<|zqZ _,rfl,q⟩
def FV:R2:=fun x y H Q=>∃l b xs zs,x=.ref l/\y=.ref b/\H l=some (.lst xs)/\H b=some (.lst zs)/\xs.length+zs.length<=sizeLine/\∀p,H p=none->Q (.ref p) (upd H p<|.lst<|xs++zs)
theorem Ro:bw X (binaryOp .Add) FV:=by
 intro wv s σ H x y v u Q I rx ry h;obtain⟨l,b,xs,zs,rfl,rfl,hH,hB,hz,q⟩:=h;cases rx;cases ry;obtain⟨z,ao,n,r,hl,e⟩:=I.nY hH;obtain⟨z2,fD,n2,r2,eo,e2⟩:=I.nY hB;refine PySem.P.add_list e e2 ?_ (by rw[zag,zag];omega)
 have ea:ao.toArray++fD.toArray=(ao++fD).toArray:=by simp
 rw[ea];exact⟨.ref _,_,I.FT (t':=s.toks) (r.append r2) (by rw[zqA];omega),rfl,q _ I.fresh⟩
def FW:R2:=fun x y H Q=>∃l k xs,x=.ref l/\y=.int k/\H l=some (.lst xs)/\ -(2 ^ 63)<=k/\k<2 ^ 63/\xs.length*k.toNat<=sizeLine/\
 ∀p,H p=none->Q (.ref p) (upd H p<|.lst (List.replicate k.toNat xs).flatten)
theorem len_rep{α:Type}(xs:List α)(k:Nat):(List.replicate k xs).flatten.length=k*xs.length:=by
 induction k with
 |zero=>simp
 |succ k ih=>rw[zbz,zbQ,zqA,ih,Nat.succ_mul,Nat.add_comm]
theorem Rp:bw X (binaryOp .Mult) FW:=by
 intro wv s σ H x y v u Q I rx ry h;obtain⟨l,k,xs,rfl,rfl,hH,h1,h2,hz,q⟩:=h;cases rx;obtain⟨t,rfl⟩:=ry;obtain⟨z,ao,n,r,hl,e⟩:=I.nY hH;have hlen:ao.toArray.size*k.toNat<=sizeLine:=by rw[zag,<-hl];exact hz
 have Rq:¬ao.toArray.size*k.toNat>(2 ^ 63 - 1) / 8:=by
  have:(sizeLine:Nat)<= (2 ^ 63 - 1) / 8:=by decide
  omega
 have Rr:¬(!Builtin.List.listFitsIndex k)=true:=by
  rw[fitsIndex_both h1 h2];exact zav
 have As:¬Builtin.List.listTooLong (ao.toArray.size*k.toNat)=true:=by
  rw[FU hlen];exact zav
 have Rt:List.foldl (fun x1 x2=>x1++x2) #[] (List.replicate (if ao.toArray.isEmpty=true then 0 else k.toNat) ao.toArray)=(List.replicate k.toNat ao).flatten.toArray:=by
  have f0:∀m:Nat,List.foldl (fun x1 x2=>x1++x2) #[] (List.replicate m ao.toArray)=(List.replicate m ao).flatten.toArray:=fun m=>by
   have:=foldl_rep ao m [];rw[zbe] at this;exact this
  rw[f0];cases ao with
  |nil=>simp
  |cons a r'=>rw[if_neg (by simp)]
 refine wpAny_binaryOp_repeat_ref (T:="list") (U:="int") (by decide) ⟨_,e,rfl⟩ (fun s'=>typeIs_int s' k t) noFill_list_mul F.fills_int_mul F.slot_int_rmul repeat_list F.slot_int_index.lookup
  (call_meets F.slot_int_rmul (typeIs_int s k t) F.entry_int_rmul (F.args_int_rmul_2 _ _) (int___rmul___int_list k t l ao.toArray n)
   ⟨e,rfl,⟨_,e,rfl⟩,call_meets F.slot_list_mul ⟨_,e,rfl⟩ F.entry_list_mul (F.args_list_mul_2 _ _) (AutoListH.list___mul___list_int_3 l ao.toArray n k t Rr Rq As) ⟨e,?_⟩⟩)
 rw[Rt];exact⟨.ref _,_,I.FT (t':=s.toks) (r.rep k.toNat) (by rw[len_rep,Nat.mul_comm];exact hz),rfl,q _ I.fresh⟩
end
end L2
namespace FX
open PySem PySem.W PySem.Calls PyProof.Rows
theorem Ru{P:Params}{h:Heap}:∀(ns:List Int) (vs:List Value),WellAll P h vs (ns.map WData.int)->IntsAre vs ns:=by
 intro ns
 induction ns with
 |nil=>
  intro vs w;rw[zbc] at w;cases w;exact .nil
 |cons n ns ih=>
  intro vs w;rw[zax] at w;cases w with
  |cons a b=>
   cases a;exact .cons _ _<|ih _ b
theorem Rv{l:OpenLaw}{n:Nat}(hn:l.most=some n){P:Params}{h:Heap}{args:List WData}{vals:List Value}
  (mB:l.row.toRowW.claim.pre args=true) (Av:WellAll P h vals args):
  ∃a vs ns,vals=[Value.ref a]/\args=[WData.list<|ns.map WData.int]/\h.get? a=some {cls:=.type "list",data:=.seq vs.toArray}/\IntsAre vs ns/\ns.length<=n:=by
 have Rx:WShape.hasAll [] args [.list .int]=true:=(pre_splitW mB).1;have hc:l.pre.holds [] {args:=args}=true:=(pre_splitW mB).2;obtain⟨d,r,rfl,h1,h2⟩:=hasAllW_cons Rx;obtain rfl:=hasAllW_nil h2;obtain⟨xs,rfl,h3⟩:=hasW_list h1;obtain⟨ns,rfl⟩:=items_int h3;have hlen:ns.length<=n:=by
  unfold OpenLaw.pre at hc;have h4:(WTm.not<|.lt (.lit<|.int (n:Int))<|.len<|.arg 0).holds [] {args:=[.list<|ns.map .int]}=true:=by
   have h4:=(holds_andW hc).1;rw[hn] at h4;exact h4
  have h5:=condW_of h4 (w_not<|w_lt w_lit<|w_len_list<|w_arg rfl);rw[zab] at h5;refine Nat.le_of_not_lt fun q=>?_;have q':(n:Int) < ((ns.length:Nat):Int):=by omega
  first
   | (rw[zqT q'] at h5;exact absurd h5 (by decide))
   | (simp at h5;omega)
 cases Av with
 |cons w1 w2=>
  cases w2;cases w1 with
  |list ho rL=>exact⟨_,_,ns,rfl,rfl,ho,Ru ns _ rL,hlen⟩
theorem Ry(l:OpenLaw)(args:List WData):l.row.toRowW.claim.post args (.bool true) args=true:=
 postW_of (r:=l.row.toRowW) (X:=(true==true))
  (show WShape.has [] (.bool true) .bool=true by first|rfl|decide|simp[WShape.has,WShape.arms,WShape.armsAll])
  (show(WTm.eq .res<|.lit<|.bool true).value [] {args:=args,res:=some (.bool true),after:=args}=some (.bool<|true==true) from w_eq_bool (w_res rfl) w_lit) rfl
theorem Rz{l:OpenLaw}{n:Nat}{q:Program}{loose:List Str}{XP:(Str->Option Value)->Heap->Prop}{YP:World->Heap->Prop}{d:DefRec}
  (hn:l.most=some n) (uj:d.params.defaults=[])
  (call:∀(w:World) (s₀ s₁:Shared) (mg mb:Str->Option Value) (fa:Addr) (o:Obj) (pm cd doc:Value) (a:Addr) (vs:List Value) (ns:List Int),
   Ground q loose [] XP w s₀ mg mb s₁.heap->YP w s₁.heap->
   s₁.heap.get? fa=some o->o.data=.func (docDef d.name d.params d.body d.scope pm cd doc)->s₁.heap.CodeRec cd d.name->mg d.name=some (.ref fa)->
   s₁.heap.get? a=some {cls:=.type "list",data:=.seq vs.toArray}->IntsAre vs ns->ns.length<=n->s₁.gens= #[]->
   codeAny (model l.prog w) callerA (.call (.ref fa) ⟨[.ref a],[]⟩) (fun r s'=>r=.ok (.ret (.bool true))/\OldK s₁.heap s'.heap/\s'.os=s₁.os/\AllBare s'.gens) s₁):
  WalkO q loose XP YP l.row.toRowW d [] (fun f vs=>PySem.call f vs):=by
 intro w s₀ s₁ mg mb G Y fa o pm cd doc dV kV ho hd iK hD jf hg args vals as mB afV hrd Av nZ;obtain rfl:dV=.none:=Dflts.none hD uj;obtain rfl:kV=.none:=Dflts.noKw hD;obtain⟨a,vs,ns,rfl,rfl,Aw,hints,hlen⟩:=Rv hn mB Av;refine enter_call<|codeAny_mono (call w s₀ s₁ mg mb fa o pm cd doc a vs ns G Y ho (fd_plain hd) iK jf Aw hints hlen hg) fun r s' hq=>?_;obtain⟨rfl,h2,h3,h4⟩:=hq;exact⟨.inl ⟨.bool true,.bool true,[],rfl,fun _=>rfl,.bool true,Ry l _,fun _=>⟨List.Pairwise.nil,fun _ hm=>(nomatch hm)⟩⟩,h2,h3,h4⟩
section
variable {prog:Program}{w:World}{A:Around}{E:Value->Shared->Prop}{s:Shared}{K:Frag}
end
end FX
namespace L2
open PySem PySem.Spec PyProof.Rows
theorem FY:∀{vs:List Value}{ns:List Int},IntsAre vs ns->Vals (ns.map V.int) vs
 |_,_,.nil=>.nil
 |_,_,.cons n t h=>.cons ⟨t,rfl⟩ (FY h)
def Ax(H:Hp):Prop:= ∀b,H b=none\/∃o xs,H b=some (.bK o<|.lst xs)
theorem RA{P:Program}{w:World}{K:Frag}{mg mb:Str->Option Value}{CX:cg}{k:Nat}{fa a:Addr}{fd:FuncData}{x:Str}{sp:Sp}{s₁:Shared}{vs:List Value}{ns:List Int}
  (KX:K.In s₁.heap) (wI:s₁.heap.Ns mainGlobals mg) (hb:s₁.heap.Ns builtinsNs mb) (RB:∀x:Str,x≠"__name__"->mb x=bootBuiltins x) (RC:s₁.heap.NoLimit) (hg:s₁.gens= #[])
  (ha:s₁.heap.get? a=some {cls:=.type "list",data:=.seq vs.toArray}) (hi:IntsAre vs ns) (hl:ns.length<=sizeLine) (hr:dE k callerA)
  (F:∀base:Heap,K.In base->base.Ns mainGlobals mg->cI P w K mg base CX k fa fd [x] sp) (RD:∀(s:Shared) (u:Value),BindsTo s fd ⟨[u],[]⟩ [(x,u)])
  (jd:∀H:Hp,Ax H->av K H a (ns.map V.int)->sp [.ref a] H (fun v _=>v=.bl true) fun _ _ _=>False)
  (Ay:∀H e s',CX [] H s₁ (fun _ _ _=>False) e s'->False):
  codeAny (model P w) callerA (.call (.ref fa) ⟨[.ref a],[]⟩) (fun r s'=>r=.ok (.ret<|.bool true)/\OldK s₁.heap s'.heap/\s'.os=s₁.os/\AllBare s'.gens) s₁:=by
 have rv:=FY hi;have uk:=hi.length;have core:∀H:Hp,Ax H->av K H a (ns.map V.int)->bW P w H s₁.heap->(∀b,H b≠none->b=a)->(H a≠none->K.lookup a=none)->
   codeAny (model P w) callerA (.call (.ref fa) ⟨[.ref a],[]⟩) (fun r s'=>r=.ok (.ret<|.bool true)/\OldK s₁.heap s'.heap/\s'.os=s₁.os/\AllBare s'.gens) s₁:=by
  intro H hO hS aB hA hK;have pO:∀{b:Addr}{o:Obj},s₁.heap.get? b=some o->H b=none->(mf s₁.heap H).get? b=some o:=fun e n=>O2 e n;have uf:∀{b:Addr}{o:Obj}{es:Array DictEntry}{ep:Nat},s₁.heap.get? b=some o->o.data=.dict es ep->H b=none:=fun {b o es ep} e d=>by
   cases q:H b with
   |none=>rfl
   |some u=>
    have e':b=a:=hA b (by rw[q];simp)
    subst e';rw[ha] at e;cases e;have d':Data.seq vs.toArray _=Data.dict es ep:=d;cases d'
  have wJ:∀{b:Addr}{m:Str->Option Value},s₁.heap.Ns b m->(mf s₁.heap H).Ns b m:=fun {b m} ⟨o,es,ep,e,d,r⟩=>⟨o,es,ep,pO e<|uf e d,d,r⟩;have FZ:K.In (mf s₁.heap H):=fun b o e=>pO (KX b o e) (by
   cases q:H b with
   |none=>rfl
   |some u=>
    have e':b=a:=hA b (by rw[q];simp)
    subst e';rw[hK (by rw[q];simp)] at e;cases e)
  have hM:Mod K mg (mf s₁.heap H):=⟨FZ,wJ wI,⟨mb,wJ hb,RB⟩,let ⟨mc,h1,h2⟩:=RC;⟨mc,wJ h1,h2⟩⟩;have e0:mr P w K mg (mf s₁.heap H) callerA [] s₁ H:=⟨rfl,hM,fun b o e=>O3 e,zbw<|O1 _ _,trivial,fun b hb=>absurd (show b∈ ([]:List Addr) from hb) (by simp),aB,.of_eq hg⟩
  refine codeAny_mono ((F _ FZ<|wJ wI).run callerA [] s₁ H ⟨[.ref a],[]⟩ [.ref a] [.ref a] _ _ hr e0 (RD s₁<|.ref a) (.cons rfl .nil)<|jd H hO hS) fun r s' h=>?_;cases r with
  |error e=>exact(Ay H e s' h).elim
  |ok fl=>
   cases fl with
   |next=>exact False.elim h
   |brk=>exact False.elim h
   |cont=>exact False.elim h
   |ret u=>
    obtain⟨v,H',os,bare,un,RF,r',q⟩:=h;have q':v=.bl true:=q;subst q';obtain rfl:u=Value.bool true:=r';refine⟨rfl,OldK.of_keep fun b o e=>?_,os,bare⟩;cases q:H b with
    |none=>exact un.keep b o e q (by intro z;exact absurd (show b∈ ([]:List Addr) from z) (by simp)) (by simp)
    |some u=>
     rcases hO b with z|⟨ob,xs,z⟩
     ·rw[q] at z;cases z
     ·have z2:=un.fW b ob _ z;obtain⟨e1,_⟩:=aB b _ z;obtain⟨e2,_⟩:=RF b _ z2;rw[e] at e1;cases e1;exact e2
 cases hk:K.lookup a with
 |some o=>
  have e:=KX a o hk;rw[ha] at e;cases e;refine core (fun _=>none) (fun _=>.inl rfl) (.inr ⟨_,vs.toArray,_,hk,rfl,rfl,rfl,by rw[zag,uk];exact hl,by simpa using rv⟩) (fun b u z=>by have z':(none:Option HO)=some u:=z;cases z') (fun b z=>absurd rfl z) fun z=>absurd rfl z
 |none=>
  refine core (fun b=>if b=a then some (.bK {cls:=.type "list",data:=.seq vs.toArray}<|.lst<|ns.map V.int) else none) (fun b=>?_) (.inl<|.inr ⟨{cls:=.type "list",data:=.seq vs.toArray},if_pos rfl⟩) (fun b u z=>?_) (fun b z=>?_) fun _=>hk
  ·by_cases hb:b=a
   ·exact .inr ⟨_,_,if_pos hb⟩
   ·exact .inl (if_neg hb)
  ·by_cases hb:b=a
   ·have z':=(if_pos hb).symm.trans z;cases z';subst hb;exact⟨ha,by rw[zab];exact hl,vs,_,rv,ha⟩
   ·have z':=(if_neg hb).symm.trans z;cases z'
  ·by_cases hb:b=a
   ·exact hb
   ·exact absurd (if_neg hb) z
theorem RG{l:PySem.W.OpenLaw}{n k:Nat}{q:Program}{loose:List Str}{XP:(Str->Option Value)->Heap->Prop}{YP:World->Heap->Prop}{d:DefRec}{K:Params->Frag}{CX:World->cg}{sp:World->Sp}{x:Str}
  (hn:l.most=some n) (jc:n<=sizeLine) (uj:d.params.defaults=[]) (hr:dE k callerA)
  (hY:∀(w:World) (h:Heap),YP w h->(K w.params).In h)
  (F:∀(w:World) (mg:Str->Option Value) (fa:Addr) (h:Heap),(K w.params).In h->h.Ns mainGlobals mg->mg d.name=some (.ref fa)->
   ∃fd:FuncData,(∀(s:Shared) (u:Value),BindsTo s fd ⟨[u],[]⟩ [(x,u)])/\
    ∀base:Heap,(K w.params).In base->base.Ns mainGlobals mg->cI l.prog w (K w.params) mg base (CX w) k fa fd [x] (sp w))
  (jd:∀(w:World) (H:Hp) (a:Addr) (ns:List Int),ns.length<=n->Ax H->av (K w.params) H a (ns.map V.int)->sp w [.ref a] H (fun v _=>v=.bl true) fun _ _ _=>False)
  (Ay:∀(w:World) (H:Hp) (s:Shared) (e:Value) (s':Shared),CX w [] H s (fun _ _ _=>False) e s'->False):
  PySem.W.WalkO q loose XP YP l.row.toRowW d [] (fun f vs=>PySem.call f vs):=by
 refine FX.Rz hn uj fun w s₀ s₁ mg mb fa o pm cd doc a vs ns G Y ho hd iK jf Aw hints hlen hg=>?_;have KX:=hY w _ Y;obtain⟨fd,hb,hF⟩:=F w mg fa _ KX G.T.g jf;exact RA KX G.T.g G.T.b G.T.builtins G.T.nolimit hg Aw hints (zay hlen jc) hr hF hb (fun H hO hS=>jd w H a ns hlen hO hS) fun H e s'=>Ay w H s₁ e s'
end L2
namespace L2
open PySem PySem.Spec PyProof.Rows
def inClass(s:Stmt)(j:Nat):Stmt:=match s with
 |.ClassDef _ _ _ body _ _ _ _ _ _ _=>body.getD j (.Pass ⟨0,0,0,0⟩)
 |_=>.Pass ⟨0,0,0,0⟩
def jg(s:Stmt):Arguments:=match s with
 |.FunctionDef _ a _ _ _ _ _ _ _ _=>a
 |_=> {posonlyargs:=[],args:=[],vararg:=none,kwonlyargs:=[],kw_defaults:=[],kwarg:=none,defaults:=[]}
def fE(s:Stmt):List Stmt:=match s with
 |.FunctionDef _ _ b _ _ _ _ _ _ _=>b
 |_=>[]
def eO(s:Stmt):Scope:=match s with
 |.FunctionDef _ _ _ _ _ _ sc _ _ _=>sc
 |_=> {kind:=.function,names:=[],isGenerator:=false,isCoroutine:=false}
abbrev um:cg:=fun _ _ _ _ _ _=>False
abbrev E0:XK:=fun _ _ _=>False
structure n_ (K:Frag) (x qual:Str) (st:Stmt) (f:Addr) (fd:FuncData):Prop where
 ex:∃(oc:Value) (od:Option Addr) (kV doc pm:Value) (an:Option Addr) (bo ct:Value) (gX:Array (Option Value)),
  fd=PySem.W.fnOf x qual (jg st) (fE st) (eO st) .none kV doc pm an bo ct/\K.lookup f=some ⟨oc,od,.func fd,gX⟩/\PySem.W.codeIn K bo qual=true
 kp:PySem.W.keepIn K (.ref f)=true
section
variable {P:Program}{w:World}{K:Frag}{mg:Str->Option Value}{base:Heap}
theorem n_.binds{x qual:Str}{st:Stmt}{f:Addr}{fd:FuncData}{ps:List Str}(F:n_ K x qual st f fd)
  (h:∀(kV doc pm:Value) (an:Option Addr) (bo ct:Value) (us:List Value),us.length=ps.length->bindArgs (PySem.W.fnOf x qual (jg st) (fE st) (eO st) .none kV doc pm an bo ct) ⟨us,[]⟩=pure (ps.zip us)):Binds K fd ps []:=by
 obtain⟨oc,od,kV,doc,pm,an,bo,ct,gX,rfl,lk,iK⟩:=F.ex;exact .all<|h kV doc pm an bo ct
theorem F0{x qual:Str}{st:Stmt}{f:Addr}{oc:Value}{od an:Option Addr}{gX:Array (Option Value)}{kV doc pm bo ct:Value}(l:K.lookup f=some ⟨oc,od,.func<|PySem.W.fnOf x qual (jg st) (fE st) (eO st) .none kV doc pm an bo ct,gX⟩)
  (c:PySem.W.codeIn K bo qual=true) (k:PySem.W.keepIn K (.ref f)=true):n_ K x qual st f (PySem.W.fnOf x qual (jg st) (fE st) (eO st) .none kV doc pm an bo ct):=⟨⟨oc,od,kV,doc,pm,an,bo,ct,gX,rfl,l,c⟩,k⟩
end
theorem iu{A B:Prop}(h:B):if false=true then A else B:=by
 rw[if_neg zav];exact h
theorem fF{A B:Prop}(h:A):if true=true then A else B:=by
 rw[if_pos rfl];exact h
theorem gE{c A B:Prop}[Decidable c](h1:c->A)(h2:¬c->B):if c then A else B:=by
 by_cases h:c
 ·rw[if_pos h];exact h1 h
 ·rw[if_neg h];exact h2 h
def aA(H H':Hp):Prop:= ∀b o,H b=some o->H' b=some o
theorem aA.refl(H:Hp):aA H H:=fun _ _ h=>h
theorem aA.trans{H H1 H2:Hp}(a:aA H H1)(b:aA H1 H2):aA H H2:=fun c o h=>b c o (a c o h)
theorem aA.free{H H':Hp}(e:aA H H'){l:Addr}(h:H' l=Option.none):H l=Option.none:=by
 cases q:H l with
 |none=>rfl
 |some o=>
  rw[e l o q] at h;cases h
theorem aA.seq{K:Frag}{H H':Hp}{a:Addr}{xs:List V}(e:aA H H')(h:av K H a xs):av K H' a xs:=by
 rcases h with(h|⟨o,h⟩)|h
 ·exact .inl (.inl<|e _ _ h)
 ·exact .inl (.inr ⟨o,e _ _ h⟩)
 ·exact .inr h
section
variable {κ:Type} [DecidableEq κ]
def fG(kvs:List (κ×V))(k:κ):Option V:=(kvs.find? fun kv=>decide (kv.1=k)).map (·.2)
def putK(kvs:List (κ×V))(k:κ)(v:V):List (κ×V):=
 if (kvs.any fun kv=>decide (kv.1=k))=true then kvs.map (fun kv=>if kv.1=k then (kv.1,v) else kv) else kvs++[(k,v)]
theorem mD{p:κ×V}{r:List (κ×V)}{k:κ}(e:p.1=k):fG (p::r) k=some p.2:=by simp[fG,zaN,e]
theorem fR{p:κ×V}{r:List (κ×V)}{k:κ}(e:¬p.1=k):fG (p::r) k=fG r k:=by simp[fG,zaN,e]
theorem Az(k:κ):∀kvs:List (κ×V),(kvs.any fun kv=>decide (kv.1=k))=(fG kvs k).isSome
 |[]=>rfl
 |p::r=>by
  rw[zby];by_cases e:p.1=k
  ·simp only[mD e,zqT e,Bool.true_or,Option.isSome_some]
  ·rw[fR e,zqF e,Bool.false_or];exact Az k r
theorem AA(kvs:List (κ×V))(k:κ)(v:V):(putK kvs k v).length<=kvs.length+1:=by
 unfold putK
 split
 ·rw[zab];omega
 ·rw[zqA,zaq,zbf];omega
theorem rM{kvs:List (κ×V)}{k:κ}(v:V)(h:fG kvs k=none):putK kvs k v=kvs++[(k,v)]:=by
 unfold putK;rw[Az,h];exact if_neg (by decide)
theorem gU.RH{o:Option V}{u:Option Value}(r:gU o u):o.isSome=u.isSome:=by
 cases o with
 |none=>cases u with
  |none=>rfl
  |some _=>exact(show False from r).elim
 |some _=>cases u with
  |none=>exact(show False from r).elim
  |some _=>rfl
theorem KV.val{kvs:List (κ×V)}{vs:List (κ×Value)}(r:KV kvs vs)(k:κ):gU (fG kvs k) (valueAt vs k):=by
 unfold KV at r
 induction r with
 |nil=>exact True.intro
 | @cons p q ps qs h t ih=>
  obtain⟨h1,h2⟩:=h;by_cases e:p.1=k
  ·have e':q.1=k:=h1.symm.trans e;have b:valueAt (q::qs) k=some q.2:=by simp[valueAt,zaN,e']
   rw[mD e,b];exact h2
  ·have e':¬q.1=k:=fun z=>e (h1.trans z);have b:valueAt (q::qs) k=valueAt qs k:=by simp[valueAt,zaN,e']
   rw[fR e,b];exact ih
theorem KV.any{kvs:List (κ×V)}{vs:List (κ×Value)}(r:KV kvs vs)(k:κ):(kvs.any fun kv=>decide (kv.1=k))=vs.any fun kv=>decide (kv.1=k):=by
 unfold KV at r
 induction r with
 |nil=>rfl
 |cons h t ih=>rw[zby,zby,ih,h.1]
theorem KV.AB{kvs:List (κ×V)}{vs:List (κ×Value)}(r:KV kvs vs)(k:κ){y:V}{u:Value}(ry:RelV y u):
  KV (kvs.map fun kv=>if kv.1=k then (kv.1,y) else kv) (vs.map fun kv=>if kv.1=k then (kv.1,u) else kv):=by
 unfold KV at r⊢
 induction r with
 |nil=>exact .nil
 | @cons p q ps qs h t ih=>
  rw[zax,zax];refine .cons ?_ ih;obtain⟨h1,h2⟩:=h;by_cases e:p.1=k
  ·rw[if_pos e,if_pos<|h1.symm.trans e];exact⟨h1,ry⟩
  ·rw[if_neg e,if_neg<|fun z=>e<|h1.trans z];exact⟨h1,h2⟩
theorem KV.put{kvs:List (κ×V)}{vs:List (κ×Value)}(r:KV kvs vs)(k:κ){y:V}{u:Value}(ry:RelV y u):KV (putK kvs k y) (stored vs k u):=by
 unfold putK stored;rw[r.any k];by_cases e:(vs.any fun kv=>decide (kv.1=k))=true
 ·rw[if_pos e,if_pos e];exact r.AB k ry
 ·rw[if_neg e,if_neg e];exact Paired.snoc r ⟨rfl,ry⟩
theorem KV.length{kvs:List (κ×V)}{vs:List (κ×Value)}(r:KV kvs vs):kvs.length=vs.length:=Paired.length r
end
theorem wK{P:Program}{w:World}{k:Key}{u:Value}(r:RelV (kV k) u):(dS P w).is k u=true:=by
 cases k with
 |inl i=>obtain⟨t,e⟩:=(show ∃t,u=Value.int i t from r);subst e;exact EB P w i t
 |inr x=>obtain⟨t,e⟩:=(show ∃t,u=Value.str x t from r);subst e;exact vV P w x t
theorem F7{P:Program}{w:World}:∀{ks:List Key}{us:List Value},Vals (ks.map kV) us->ItemsAre (dS P w) ks us
 |[],_,r=>by rw[zbc] at r;cases r;exact .nil
 |k::ks,_,r=>by
  rw[zax] at r;cases r with
  |cons h t=>exact .cons (wK h) (F7 t)
abbrev KT(H:Hp):List (List Key×V)->List (List Key×Addr×Value)->Prop:=Paired fun p q=>p.1=q.1/\H q.2.1=some (.tup<|p.1.map kV)/\RelV p.2 q.2.2
theorem KT.val{H:Hp}{kvs:List (List Key×V)}{xs:List (List Key×Addr×Value)}(r:KT H kvs xs)(k:List Key):gU (fG kvs k) ((atKey xs k).map (·.2)):=by
 induction r with
 |nil=>exact True.intro
 | @cons p q ps qs h t ih=>
  obtain⟨h1,_,h2⟩:=h;by_cases e:p.1=k
  ·have e':q.1=k:=h1.symm.trans e;have b:atKey (q::qs) k=some q.2:=by simp[atKey,zaN,e']
   rw[mD e,b];exact h2
  ·have e':¬q.1=k:=fun z=>e (h1.trans z);have b:atKey (q::qs) k=atKey qs k:=by simp[atKey,zaN,e']
   rw[fR e,b];exact ih
theorem KT.AB{H:Hp}{kvs:List (List Key×V)}{xs:List (List Key×Addr×Value)}(r:KT H kvs xs)(k:List Key){y:V}{u:Value}(ry:RelV y u):
  KT H (kvs.map fun kv=>if kv.1=k then (kv.1,y) else kv) (xs.map<|putAt k u):=by
 induction r with
 |nil=>exact .nil
 | @cons p q ps qs h t ih=>
  rw[zax,zax];refine .cons ?_ ih;obtain⟨h1,h2,h3⟩:=h;unfold putAt;by_cases e:p.1=k
  ·rw[if_pos e,if_pos<|h1.symm.trans e];exact⟨h1,h2,ry⟩
  ·rw[if_neg e,if_neg<|fun z=>e<|h1.trans z];exact⟨h1,h2,h3⟩
theorem KT.put{H:Hp}{kvs:List (List Key×V)}{xs:List (List Key×Addr×Value)}(r:KT H kvs xs)(k:List Key){b:Addr}{y:V}{u:Value}(hb:H b=some (.tup<|k.map kV))(ry:RelV y u):
  KT H (putK kvs k y) (storedH xs k b u):=by
 have e:(kvs.any fun kv=>decide (kv.1=k))=(atKey xs k).isSome:=by
  rw[Az,(r.val k).RH,Option.isSome_map]
 unfold putK storedH;rw[e];by_cases q:(atKey xs k).isSome=true
 ·rw[if_pos q,if_pos q];exact r.AB k ry
 ·rw[if_neg q,if_neg q];exact Paired.snoc r ⟨rfl,hb,ry⟩
theorem KT.keeps{H H':Hp}{kvs:List (List Key×V)}{xs:List (List Key×Addr×Value)}(r:KT H kvs xs)(ht:∀b ys,H b=some (.tup ys)->H' b=some (.tup ys)):KT H' kvs xs:=
 Paired.zL r fun _ _ z=>⟨z.1,ht _ _ z.2.1,z.2.2⟩
section
variable {P:Program}{w:World}{H:Hp}{h:Heap}{a:Addr}
theorem F8{u:HO}(ok:bW P w H h)(e:Rd H a u):cA P w H h a u:=e.ok ok
theorem AD{kvs:List (Key×V)}(ok:bW P w H h)(e:Rd H a (.dK kvs)):kvs.length<=sizeLine/\(a==sysModules)=false/\∃vs,KV kvs vs/\h.DictOf (dS P w) a vs:=
 show cA P w H h a (.dK kvs) from F8 ok e
theorem F9{kvs:List (Key×V)}(ok:bW P w H h)(e:H a=some (.dK kvs)):kvs.length<=sizeLine/\(a==sysModules)=false/\∃vs,KV kvs vs/\h.DictOf (dS P w) a vs:=AD ok (.inl e)
theorem AE{ks:List Key}(ok:bW P w H h)(e:H a=some (.tup<|ks.map kV)):(tupleKind<|dS P w).is h ks a:=by
 obtain⟨_,ao,r,o,h1,h2,n,h3⟩:=(show cA P w H h a (.tup<|ks.map kV) from ok a _ e)
 exact⟨o,ao.toArray,n,h1,h2,h3,by simpa using F7 r⟩
theorem AF{kvs:List (List Key×V)}(ok:bW P w H h)(e:Rd H a (.dT kvs)):kvs.length<=sizeLine/\(a==sysModules)=false/\
  ∃xs,KT H kvs xs/\h.DictOfH (tupleKind<|dS P w) a xs:=by
 obtain⟨z,y,xs,r,o,es,ep,h1,h2,h3,h4,h5⟩:=(show cA P w H h a (.dT kvs) from F8 ok e)
 refine⟨z,y,xs,r,o,es,ep,h1,h2,h3,h4,fun x hx=>?_,h5⟩;have all:∀{l:List (List Key×V)}{m:List (List Key×Addr×Value)},KT H l m->∀x∈m,(tupleKind<|dS P w).is h x.1 x.2.1:=by
  intro l m q
  induction q with
  |nil=>intro x hx;exact nomatch hx
  | @cons p q ps qs hq t ih=>
   intro x hx;rcases zac.mp hx with e|hx
   ·subst e;exact AE ok (by rw[<-hq.1];exact hq.2.1)
   ·exact ih x hx
 exact all r x hx
theorem RJ{kvs:List (List Key×V)}(ok:bW P w H h)(e:H a=some (.dT kvs)):kvs.length<=sizeLine/\(a==sysModules)=false/\
  ∃xs,KT H kvs xs/\h.DictOfH (tupleKind<|dS P w) a xs:=AF ok (.inl e)
end
def rN(H:Hp)(a:Addr)(y:V)(r:Option V):Prop:=
 (∃kvs k,Rd H a (.dK kvs)/\y=kV k/\r=fG kvs k)\/∃kvs k b,Rd H a (.dT kvs)/\y=.ref b/\H b=some (.tup<|k.map kV)/\r=fG kvs k
def wL(H:Hp)(a:Addr)(y v:V)(H':Hp):Prop:=
 (∃kvs k,H a=some (.dK kvs)/\y=kV k/\kvs.length<sizeLine/\H'=upd H a (.dK<|putK kvs k v))\/
 ∃kvs k b,H a=some (.dT kvs)/\y=.ref b/\H b=some (.tup<|k.map kV)/\kvs.length<sizeLine/\H'=upd H a (.dT<|putK kvs k v)
section
variable {X:Cx}{wv:List (Addr×Obj)}{σ:St}{H:Hp}{s:Shared}{a:Addr}{y v:V}{u r:Value}{o:Option V}{A:Around}{E:Value->Shared->Prop}
theorem Inv.big(I:Inv X wv σ H s):sysModules<s.heap.objs.size:=by
 have h:mainGlobals<s.heap.objs.size:=(I.mod.glob.keeps I.bk).lt;exact Nat.lt_trans (by decide) h
theorem RK{Q:Value->Shared->Prop}(hu:A.units+1<cLine)(I:Inv X wv σ H s)(g:rN H a y (some v))(ry:RelV y u)(h:∀w' s',Inv X wv σ H s'->RelV v w'->Q w' s'):
  wpAny (model X.prog X.w) A (getItem (.ref a) u) Q E s:=by
 rcases g with⟨kvs,k,e,ey,l⟩|⟨kvs,k,b,e,ey,eb,l⟩
 ·subst ey;obtain⟨z,hd,vs,rel,dd⟩:=AD I.aB e;obtain⟨w',hw,je⟩:=gU.some_of (v:=v) (o:=valueAt vs k) (by rw[l];exact rel.val k)
  exact wpAny_getItem_of (wK ry) dd.mapOf hw<|h w' _ (I.tok _) je
 ·subst ey;cases (show u=Value.ref b from ry)
  obtain⟨z,hd,xs,rel,dd⟩:=AF I.aB e;obtain⟨w',hw,je⟩:=gU.some_of (v:=v) (o:=(atKey xs k).map (·.2)) (by rw[l];exact rel.val k)
  obtain⟨p,hp,kY⟩:=zbl.mp hw;refine wpAny_getItem_heap (tupleKind_room_in1 hu) (AE I.aB eb) dd hp ?_;rw[kY];exact h w' _ (I.tok _) je
theorem AG{h':Heap}{t':Nat}{ob:HO}(I:Inv X wv σ H s)(mu:tZ (H a))(hs:Heap.SameBut a s.heap h')(he:∃q,h'.get? a=some q)(new:cA X.prog X.w (upd H a ob) h' a ob):
  Inv X wv σ (upd H a ob) {s with heap:=h',toks:=t'}:=
 I.write (x:=a) (e:=a) mu (.inl rfl) (fun b q hb z=>(hs.2 b hb).trans z) he new
theorem F_{P:Program}{w:World}{H':Hp}{h':Heap}{kvs:List (Key×V)}{vs:List (Key×Value)}(z:kvs.length<=sizeLine)(hd:(a==sysModules)=false)(rel:KV kvs vs)(dd:h'.DictOf (dS P w) a vs):
  cA P w H' h' a (.dK kvs):=⟨z,hd,vs,rel,dd⟩
theorem RL{H':Hp}{Q:Unit->Shared->Prop}(hu:A.units+1<cLine)(I:Inv X wv σ H s)(g:wL H a y v H')(ry:RelV y u)(rv:RelV v r)(h:∀s',Inv X wv σ H' s'->Q () s'):
  wpAny (model X.prog X.w) A (setItem (.ref a) u r) Q E s:=by
 rcases g with⟨kvs,k,e,ey,l,eH⟩|⟨kvs,k,b,e,ey,eb,l,eH⟩
 ·subst ey eH;obtain⟨z,hd,vs,rel,dd⟩:=F9 I.aB e;have hz:vs.length<=sizeLine:=by rw[<-rel.length];exact z
  have hl:(putK kvs k v).length<=sizeLine:=by have:=AA kvs k v;omega
  refine wpAny_setItem_pairs (hsz:=hz) (wK ry) dd fun h' pP hs=>h _ ?_;have he:∃q,h'.get? a=some q:=let ⟨q,_,_,hq,_⟩:=pP;⟨q,hq⟩;exact AG I (by rw[e];exact True.intro) hs he<|F_ hl hd (rel.put k rv) pP
 ·subst ey eH;cases (show u=Value.ref b from ry)
  obtain⟨z,hd,xs,rel,dd⟩:=RJ I.aB e;have hz:xs.length<=sizeLine:=by rw[<-Paired.length rel];exact z
  have hl:(putK kvs k v).length<=sizeLine:=by have:=AA kvs k v;omega
  refine wpAny_setItem_heap (hsz:=hz) (tupleKind_room_in1 hu) (AE I.aB eb) dd fun h' pP hs=>h _ ?_;obtain⟨q,es,ep,hq,h2,h3,h4,_,h5⟩:=pP;refine AG I (by rw[e];exact True.intro) hs ⟨q,hq⟩ ⟨hl,hd,_,(rel.put k eb rv).keeps fun c ys ec=>?_,q,es,ep,hq,h2,h3,h4,h5⟩
  rw[aI<|jr ec e<|fun z=>nomatch z];exact ec
end
def AH(i:Expr):Prop:= ∀ov iv,subscripted i false ov iv=operate [ov,iv] (getItem ov iv)
theorem RM{prog:Program}{w:World}{A:Around}{E:Value->Shared->Prop}{s:Shared}{env:Env}{value slice:Expr}{pos:Pos}{T id:String}{Q:Value->Shared->Prop}
  (hl:typeLookup (.type T) "__getitem__"=pure (some<|.builtin id)) (hs:AH slice)
  (h:wpAny (model prog w) A (eval value env) (fun o s₁=>wpAny (model prog w) A (eval slice env) (fun i s₂=>s₂.TypeIs o T/\wpAny (model prog w) A (getItem o i) Q E s₂) E s₁) E s):
  wpAny (model prog w) A (eval (.Subscript value slice pos) env) Q E s:=by
 refine Subscript_<|wpAny_mono h (fun o s₁ h₁=>wpAny_mono h₁ (fun i s₂ h₂=>?_) fun _ _ x=>x) fun _ _ x=>x;obtain⟨hT,h₂⟩:=h₂;unfold subscriptTail;refine wpAny_bind ?_;rw[getitemInPython_of_ne hT.not_modules];refine wpAny_bind<|wpAny_specialOf hT hl ?_;have fin:wpAny (model prog w) A (subscripted slice false o i) (fun r s₃=>wpAny (model prog w) A (letTemporaryGo value o r>>=fun _=>pure r) Q E s₃) E s₂:=by
  rw[hs o i];exact wpAny_operating<|wpAny_mono h₂ (fun r s₃ h₃=>wpAny_bind<|wpAny_letTemporaryGo<|wpAny_pure h₃) fun _ _ x=>x
 first
  |exact wpAny_pure (wpAny_bind fin)
  |exact wpAny_bind (wpAny_pure<|wpAny_bind fin)
  |exact wpAny_bind fin
theorem RN{X:Cx}{wv:List (Addr×Obj)}{σ:St}{H:Hp}{s:Shared}{a:Addr}{y:V}{o:Option V}(I:Inv X wv σ H s)(g:rN H a y o):s.TypeIs (.ref a) "dict":=by
 rcases g with⟨kvs,k,e,_,_⟩|⟨kvs,k,b,e,_,_,_⟩
 ·obtain⟨_,_,vs,_,dd⟩:=AD I.aB e;exact dd.typeIs
 ·obtain⟨_,_,xs,_,dd⟩:=AF I.aB e;exact dd.typeIs
def Ga(td ty:TE):TE:=fun σ H Q=>td σ H fun x H1=>ty σ H1 fun y H2=>∃a v,x=.ref a/\rN H2 a y (some v)/\Q v H2
def Gb(ty td:TE):TE:=fun σ H Q=>ty σ H fun y H1=>td σ H1 fun x H2=>∃a o,x=.ref a/\rN H2 a y o/\Q (.bl o.isSome) H2
def Gd(ty td:TE):TE:=fun σ H Q=>ty σ H fun y H1=>td σ H1 fun x H2=>∃a o,x=.ref a/\rN H2 a y o/\Q (.bl<|!o.isSome) H2
def Ge(td ty tv:TE):TS:=fun D σ H=>tv σ H fun v H1=>td σ H1 fun x H2=>ty σ H2 fun y H3=>∃a H4,x=.ref a/\wL H3 a y v H4/\D.nx σ H4
section
variable {X:Cx}{o i e value:Expr}{pos pos' z_:Pos}{td ty tv:TE}
theorem RO(hu:X.A.units+1<cLine)(ho:PE X o td)(hi:PE X i ty)(hs:AH i):PE X (.Subscript o i pos) (Ga td ty):=by
 intro wv s σ H Q I h;refine RM PySem.F.slot_dict_getitem.lookup hs<|aG (ho wv s σ H _ I h) fun u s1 ⟨x,H1,I1,rx,q1⟩=>aG (hi wv s1 σ H1 _ I1 q1) fun iv s2 ⟨y,H2,I2,ry,a,v,ex,g,q2⟩=>?_;subst ex;obtain rfl:u=Value.ref a:=rx;exact⟨RN I2 g,RK hu I2 g ry fun w' s3 I3 je=>⟨v,H2,I3,je,q2⟩⟩
theorem RP(hu:X.A.units+1<cLine)(ho:PE X o td)(hi:PE X i ty)(hv:PE X value tv)(hs:swapsWith value (some<|.Subscript o i pos') pos.line X.env=pure false):
  PS X (.Assign [.Subscript o i pos'] value pos) (Ge td ty tv):=by
 intro wv s σ H D I h;refine wpAny_Assign_Subscript (aG (hv wv s σ H _ I h) fun r s1 ⟨v,H1,I1,rv,q1⟩=>aG (ho wv s1 σ H1 _ I1 q1) fun u s2 ⟨x,H2,I2,rx,q2⟩=>aG (hi wv s2 σ H2 _ I2 q2) fun iv s3 ⟨y,H3,I3,ry,a,H4,ex,g,q3⟩=>?_) hs;subst ex;obtain rfl:u=Value.ref a:=rx;exact RL hu I3 g ry rv fun s4 I4=>⟨σ,H4,I4,q3⟩
end
theorem RQ{P:Program}{w:World}{H:Hp}(h:Heap)(hb:sysModules<h.objs.size):cA P w H (h.push {cls:=.type "dict",data:=.dict #[]}) h.objs.size (.dK []):=
 ⟨zqZ _,beq_eq_false_iff_ne.mpr<|Ne.symm<|zap hb,[],.nil,Heap.DictOf.new h⟩
def RU:TE:=fun _ H Q=>∀p,H p=none->Q (.ref p) (upd H p<|.dT [])
def RV(H:Hp)(a:Addr):Prop:=(∃kvs,Rd H a<|.dK kvs)\/∃kvs,Rd H a (.dT kvs)
def RW(td ty tx:TE):TE:=fun σ H Q=>td σ H fun x H1=>∃a,x=.ref a/\RV H1 a/\ty σ H1 fun y H2=>tx σ H2 fun z H3=>∃o,rN H3 a y o/\Q (o.getD z) H3
end L2
set_option maxHeartbeats 4000000
namespace L2
open PySem PySem.Spec PyProof.Rows
section
variable {X:Cx}{wv:List (Addr×Obj)}{σ:St}{H:Hp}{s:Shared}{a:Addr}{o:HO}
theorem Inv.wM(I:Inv X wv σ H s)(hn:H a=none)(h0:X.s₀.heap.objs.size<=a)(hL:a≠X.env.locals)(hC:∀x c,X.env.cells.lookup x=some c->c≠a)
  (hp:∀p∈X.pn++wv,p.1≠a) (new:cA X.prog X.w (upd H a o) s.heap a o):Inv X wv σ (upd H a o) s:=by
 have RX:∀b u,X.s₀.heap.get? b=some u->b≠a:=fun b u e=>zap (zan (Heap.lt_size e) h0);have uo:∀b u,H b=some u->b≠a:=fun b u e=>bQ e hn;refine⟨I.ok,I.os,I.bare,⟨I.base.keep,I.base.slot,fun b u e n hx=>?_,I.base.there,fun b xs e=>?_,fun b u xs e=>?_,fun b ps e=>?_⟩,I.loc,I.cell,?_,fun x c e=>?_,fun p q=>?_,fun b u e=>?_,I.len⟩
 ·rw[aI<|RX b u e];exact I.base.free b u e n hx
 ·have z:=I.base.bC b xs e;rw[aI<|uo b _ z];exact z
 ·have z:=I.base.fW b u xs e;rw[aI<|uo b _ z];exact z
 ·obtain⟨m,z⟩:=I.base.gW b ps e;exact⟨m,by rw[aI<|uo b _ z];exact z⟩
 ·rw[aI<|Ne.symm hL];exact I.free
 ·rw[aI<|hC x c e];exact I.ip x c e
 ·obtain⟨z1,z2,z3⟩:=I.pin p q;exact⟨z1,by rw[aI<|hp p q];exact z2,z3⟩
 ·by_cases hb:b=a
  ·subst hb;rw[ax] at e;cases e;exact new
  ·rw[aI hb] at e;exact(I.aB b u e).kO (fun _ _ _ q=>q) (fun c q=>by rw[aI<|uo c _ q];exact q) fun c xs q=>by rw[aI<|uo c _ q];exact q
end
def dX(cells:List (Str×Addr)):List (Str×NameKind)->List (Str×Addr)->List (Str×Addr)
 |[],acc=>acc
 |(n,k)::r,acc=>dX cells r (if k=.free then (n,(cells.lookup n).getD 0)::acc else acc)
theorem Gf(env:Env):∀names acc,(∀y∈names,y.2=.free->∃c,env.cells.lookup y.1=some c)->
  (forIn names acc (fun(x:Str×NameKind) (cs:List (Str×Addr))=>match x with
   |(name,kind)=>if (kind==NameKind.free)=true then do let a <-cellOf env name;pure (ForInStep.yield ((name,a)::cs)) else pure (ForInStep.yield cs)):Sem (List (Str×Addr)))=pure (dX env.cells names acc)
 |[],acc,_=>rfl
 |(n,k)::r,acc,h=>by
  have hr:=fun kZ=>Gf env r kZ fun y hy=>h y (zas _ hy);rw[List.forIn_cons];by_cases hk:k=.free
  ·subst hk;obtain⟨c,e⟩:=h (n,.free) zat rfl;have e':cellOf env n=pure c:=by unfold cellOf;rw[e]
   have ec:dX env.cells ((n,.free)::r) acc=dX env.cells r ((n,c)::acc):=by simp[dX,e]
   rw[ec,<-hr]
   simp[e']
  ·have hb:(k==NameKind.free)=false:=by simpa using hk
   have ec:dX env.cells ((n,k)::r) acc=dX env.cells r acc:=by simp[dX,hk]
   rw[ec,<-hr]
   simp[hb]
theorem RY{scope:Scope}{env:Env}(h:∀y∈scope.names,y.2=.free->∃c,env.cells.lookup y.1=some c):closureFor scope env=pure (dX env.cells scope.names []):=by
 have:=Gf env scope.names [] h
 simp only[closureFor]
 rw[<-this]
 simp
theorem Gg{cells:List (Str×Addr)}:∀names acc x c,(dX cells names acc).lookup x=some c->(acc.lookup x=some c)\/((x,.free)∈names/\(cells.lookup x).getD 0=c)
 |[],acc,x,c,h=>.inl h
 |(n,k)::r,acc,x,c,h=>by
  simp only[dX] at h
  rcases Gg r _ x c h with z|⟨z1,z2⟩
  ·by_cases hk:k=.free
   ·subst hk
    simp only[if_true] at z
    rw[zbg] at z;by_cases hx:x==n
    ·simp only[hx] at z
     have RZ:x=n:=eq_of_beq hx;subst RZ;exact .inr ⟨zat,zao z⟩
    ·have jX:(x==n)=false:=by simpa using hx
     simp only[jX] at z
     exact .inl z
   ·simp only[if_neg hk] at z
    exact .inl z
  ·exact .inr ⟨zas _ z1,z2⟩
theorem AI{cells:List (Str×Addr)}:∀names acc x,((x,NameKind.free)∈names\/∃c,acc.lookup x=some c)->∃c,(dX cells names acc).lookup x=some c
 |[],acc,x,h=>by
  rcases h with h|h
  ·cases h
  ·exact h
 |(n,k)::r,acc,x,h=>by
  simp only[dX]
  refine AI r _ x ?_;rcases h with h|⟨c,h⟩
  ·rcases zac.mp h with e|h
   ·cases e;refine .inr ?_
    simp[zbg]
   ·exact .inl h
  ·refine .inr ?_;by_cases hk:k=.free
   ·simp only[if_pos hk,zbg]
    cases hx:x==n
    ·exact⟨c,h⟩
    ·exact⟨_,rfl⟩
   ·simp only[if_neg hk];exact⟨c,h⟩
theorem Gh{env:Env}:∀(names:List (Str×NameKind)) (x:Str),
  (names.map fun(n,k)=>if (k==NameKind.free && env.scope.kind==.function && env.kindOf n==some .cell) then (n,NameKind.cell) else (n,k)).lookup x=
   (names.lookup x).map fun k=>if (k==NameKind.free && env.scope.kind==.function && env.kindOf x==some .cell) then NameKind.cell else k
 |[],_=>rfl
 |(n,k)::r,x=>by
  have ih:=Gh (env:=env) r x;show List.lookup x ((if (k==NameKind.free && env.scope.kind==.function && env.kindOf n==some .cell)=true then (n,NameKind.cell) else (n,k))::_)=_
  cases hx:x==n with
  |true=>
   have e:x=n:=eq_of_beq hx;subst e;by_cases hc:(k==NameKind.free && env.scope.kind==.function && env.kindOf x==some .cell)=true
   ·rw[if_pos hc];simp only[zbg,beq_self_eq_true,zbS];rw[if_pos hc]
   ·rw[if_neg hc];simp only[zbg,beq_self_eq_true,zbS];rw[if_neg hc]
  |false=>
   by_cases hc:(k==NameKind.free && env.scope.kind==.function && env.kindOf n==some .cell)=true
   ·rw[if_pos hc];simp only[zbg,hx];exact ih
   ·rw[if_neg hc];simp only[zbg,hx];exact ih
section
variable {prog:Program}{w:World}{A:Around}{R:Result->Shared->Prop}{s:Shared}
theorem R0{elt target iter:Expr}{ifs:List Expr}{scope:Scope}{pos:Pos}{it acc:Value}{env:Env}(I:Nat->Shared->Prop)
  (turn:∀n s,I n s->wpAny (model prog w) A (pyNext it) (fun r s₁=>match r with
   |none=>R (.ok .next) s₁
   |some v=>wpAny (model prog w) A (letOwnedTupleGo target it v) (fun _ Gi=>wpAny (model prog w) A (assign target env v) (fun _ s₂=>
     wpAny (model prog w) A (forIn ifs true fun c r=>if r=true then do let ok <-isTrue c env (eval c env);pure (ForInStep.yield ok) else pure (ForInStep.yield r)) (fun ok s₃=>
      if ok=true then wpAny (model prog w) A (eval elt env) (fun x s₄=>
       wpAny (model prog w) A (call (.builtin "list.append") [acc,x]) (fun _ s₅=>∃m,m<n/\I m s₅) (fun _ _=>False) s₄) (fun _ _=>False) s₃
      else ∃m,m<n/\I m s₃) (fun _ _=>False) s₂) (fun _ _=>False) Gi) (fun _ _=>False) s₁) (fun _ _=>False) s)
  (n:Nat) (h:I n s):codeAny (model prog w) A (.compLoop (.ListComp elt [⟨target,iter,ifs,0⟩] scope pos) 0 it acc env) R s:=by
 refine codeAny_loop rfl I (fun n s hI=>?_) n h;show wpAny _ A ((compTurn (.ListComp elt [⟨target,iter,ifs,0⟩] scope pos) 0 it acc env).onRaise (fun x=>do noteFrame x env;theTreesLotGoes x)) _ _ s
 refine wpAny_noted ?_;rw[compTurn_list];refine wpAny_bind<|wpAny_standAt<|wpAny_bind<|wpAny_mono (turn n s hI) (fun r s₁ h₁=>?_) fun _ _ h'=>h'.elim;cases r with
 |none=>exact wpAny_pure h₁
 |some v=>
  refine wpAny_bind<|wpAny_mono h₁ (fun _ Gi R4=>?_) fun _ _ h'=>h'.elim;refine wpAny_bind<|wpAny_mono R4 (fun _ s₂ h₂=>wpAny_bind<|wpAny_mono h₂ (fun ok s₃ h₃=>?_) fun _ _ h'=>h'.elim) fun _ _ h'=>h'.elim;cases ok with
  |false=>exact wpAny_pure ⟨rfl,h₃⟩
  |true=>
   exact wpAny_bind<|wpAny_bind<|wpAny_mono h₃ (fun x s₄ h₄=>wpAny_bind<|wpAny_mono h₄ (fun _ s₅ h₅=>wpAny_pure<|wpAny_pure ⟨rfl,h₅⟩) fun _ _ h'=>h'.elim) fun _ _ h'=>h'.elim
end
def iw(X:Cx)(scope:Scope)(N:List Str)(ex:List Addr)(C:Addr)(s:Shared)(H:Hp):Cx where
 prog:=X.prog
 w:=X.w
 K:=X.K
 mg:=X.mg
 base:=X.base
 A:=X.A
 N:=N
 s₀:=s
 H₀:=H
 env:=compEnvC scope (dX X.env.cells scope.names []) C X.env
 outer:=X.stack
 stack:=X.stack
 ex:=ex
 fn:=fun _=>false
 calm:=X.calm
 pn:=[]
 xe:=fun _ _=>False
structure jY (X:Cx) (scope:Scope) (ln:List Str) (fv:List (Str×Nat)):Prop where
 kind:scope.kind=.function
 Gj:∀y∈scope.names,y.2≠ .cell
 locals:∀y∈scope.names,y.2=.local->scope.names.lookup y.1=some .local
 free:∀y∈scope.names,y.2=.free->(X.env.kindOf y.1=some .cell\/X.env.kindOf y.1=some .free)
 R9:∀p∈fv,X.N[p.2]?=some p.1/\scope.names.lookup p.1=some .free
def cb(σ:St)(fv:List (Str×Nat)):St:=fv.map fun p=>(σ[p.2]?).join
def iN(K:Frag):Option Nat->V->Hp->(List V->Prop)->Prop
 |none,x,_,Q=>Q [x]
 |some n,x,H,Q=>if n=102 then ∃a xs,x=.ref a/\av K H a xs/\xs.length=2/\Q xs else ∃a xs,x=.ref a/\aM K H a xs/\xs.length=n/\Q xs
theorem R_{K:Frag}{n:Nat}{x:V}{H:Hp}{P Q:List V->Prop}(h:iN K (some n) x H P)(k:∀xs,P xs->Q xs):iN K (some n) x H Q:=by
 by_cases e:n=102
 ·have h:if n=102 then ∃a xs,x=.ref a/\av K H a xs/\xs.length=2/\P xs else ∃a xs,x=.ref a/\aM K H a xs/\xs.length=n/\P xs:=h
  show if n=102 then ∃a xs,x=.ref a/\av K H a xs/\xs.length=2/\Q xs else ∃a xs,x=.ref a/\aM K H a xs/\xs.length=n/\Q xs
  rw[if_pos e] at h⊢;obtain⟨a,xs,e1,e2,e3,q⟩:=h;exact⟨a,xs,e1,e2,e3,k _ q⟩
 ·have h:if n=102 then ∃a xs,x=.ref a/\av K H a xs/\xs.length=2/\P xs else ∃a xs,x=.ref a/\aM K H a xs/\xs.length=n/\P xs:=h
  show if n=102 then ∃a xs,x=.ref a/\av K H a xs/\xs.length=2/\Q xs else ∃a xs,x=.ref a/\aM K H a xs/\xs.length=n/\Q xs
  rw[if_neg e] at h⊢;obtain⟨a,xs,e1,e2,e3,q⟩:=h;exact⟨a,xs,e1,e2,e3,k _ q⟩
def jZ:Option TT->TT
 |none=>fun _ H k=>k true H
 |some t=>t
def og(K:Frag)(wi:TI)(tk:Option Nat)(fv:List (Str×Nat))(tc:Option TT)(te:TE):TE:=fun σ H Q=>
 wi σ H fun J H1=>∃W:Nat->Nat->List V->Hp->Prop,(∃m,W 0 m [] H1)/\∀i m ys H2,W i m ys H2->
  (J.stop i H2/\∀p,H2 p=none->Q (.ref p) (upd H2 p<|.lst ys))\/
  (J.go i H2/\∀x H3,J.fB i H2 x H3->iN K tk x H3 fun xs=>
   jZ tc (xs.map some++cb σ fv) H3 fun b H5=>
    if b=true then te (xs.map some++cb σ fv) H5 fun y H6=>ys.length<sizeLine/\∃m',m'<m/\W (i+1) m' (ys++[y]) H6
    else ∃m',m'<m/\W (i+1) m' ys H5)
section
variable {X:Cx}{wv:List (Addr×Obj)}{σ:St}{H:Hp}{s₂ s₃:Shared}{scope:Scope}{ln:List Str}{fv:List (Str×Nat)}{fp:List Addr}{h₁:Heap}{D C:Addr}{m:Str->Option Value}{t:Nat}
theorem jY.cells(S:jY X scope ln fv)(I:Inv X wv σ H s₂){x:Str}{c:Addr}(h:(dX X.env.cells scope.names []).lookup x=some c):X.env.cells.lookup x=some c/\(x,NameKind.free)∈scope.names:=by
 rcases Gg _ _ _ _ h with z|⟨z1,z2⟩
 ·cases z
 ·obtain⟨c',e⟩:=I.ok.has x (S.free _ z1 rfl);rw[e] at z2;have z3:c'=c:=z2;subst z3;exact⟨e,z1⟩
theorem jY.Gk(S:jY X scope ln fv)(I:Inv X wv σ H s₂):closureFor scope X.env=pure (dX X.env.cells scope.names []):=
 RY fun y hy hk=>I.ok.has y.1 (S.free y hy hk)
theorem Sa(S:jY X scope ln fv)(I:Inv X wv σ H s₂)(f2:∀b∈fp,jw X wv H b)(mE:∀b∈fp,∃o,s₂.heap.get? b=some o)
  (os:s₃.os=s₂.os) (gens:s₃.gens=s₂.gens) (k3:∀b o,s₂.heap.get? b=some o->s₃.heap.get? b=some o) (hD:D=s₂.heap.objs.size) (h3:s₃.heap.objs.size=s₂.heap.objs.size+1) (hC:C=s₃.heap.objs.size)
  (k4:∀b o,s₃.heap.get? b=some o->h₁.get? b=some o) (wI:h₁.Ns C m):
  Inv (iw X scope (ln++fv.map (·.1)) (D::fp) C s₃ H) [] (ln.map (fun _=>none)++cb σ fv) H {s₃ with heap:=h₁,toks:=t}:=by
 have cl:∀{x c},(dX X.env.cells scope.names []).lookup x=some c->X.env.cells.lookup x=some c:=fun h=>(S.cells I h).1;have Sb:∀{x c},(dX X.env.cells scope.names []).lookup x=some c->c<s₂.heap.objs.size:=fun h=>by
  obtain⟨v,q⟩:=I.cell _ _ (cl h);exact q.lt
 have Sd:∀b∈fp,b<s₂.heap.objs.size:=fun b hb=>by obtain⟨o,e⟩:=mE b hb;exact Heap.lt_size e
 have Se:∀b∈D::fp,b<=s₂.heap.objs.size:=fun b hb=>by
  rcases zac.mp hb with e|hb
  ·rw[e,hD];exact zqR _
  ·exact zbu (Sd b hb)
 have Gm:∀x,(relabel scope X.env).names.lookup x=(scope.names.lookup x).map fun k=>if (k==NameKind.free && X.env.scope.kind==.function && X.env.kindOf x==some .cell) then NameKind.cell else k:=fun x=>Gh scope.names x
 have Sf:∀x,scope.names.lookup x=some .free->((relabel scope X.env).names.lookup x=some .cell\/(relabel scope X.env).names.lookup x=some .free):=fun x e=>by
  rw[Gm,e]
  simp only[zbS]
  split
  ·exact .inl rfl
  ·exact .inr rfl
 have Sh:∀x,((relabel scope X.env).names.lookup x=some .cell\/(relabel scope X.env).names.lookup x=some .free)->(x,NameKind.free)∈scope.names:=fun x e=>by
  rw[Gm] at e;cases q:scope.names.lookup x with
  |none=>rw[q] at e;rcases e with e|e<;>cases e
  |some k=>
   rw[q] at e;have hm:(x,k)∈scope.names:=PySem.mem_of_lookup q
   simp only[zbS] at e
   by_cases hk:k=.free
   ·rw[hk] at hm;exact hm
   ·have hb:(k==NameKind.free)=false:=by simpa using hk
    simp only[hb,Bool.false_and,zaV,if_false] at e
    rcases e with e|e
    ·exact absurd (zao e) (S.Gj _ hm)
    ·exact absurd (zao e) hk
 refine⟨⟨I.ok.mod,S.kind,I.ok.glob,I.ok.blt,zbw hC.symm,fun x y c h1 h2=>I.ok.inj x y c (cl h1) (cl h2),fun x hx=>AI _ _ x (.inl (Sh x hx)),fun x c h _=>(by cases h),I.ok.hd,I.ok.frames,.inl rfl,fun b hb=>⟨?_,fun x c e=>?_⟩,fun b o e=>⟨k3 b o (I.bs b o e).1,(I.bs b o e).2⟩,?_,fun b o e hb=>?_,fun b hb hf=>?_,?_,I.v9⟩,
  rfl,?_,Un.kept fun b u e=>k4 b u e,⟨m,wI,fun i x v e1 e2 e3=>?_⟩,fun x c e=>?_,I.aB.fresh ?_,fun x c e=>I.ip x c (cl e),fun p hp=>absurd (show p∈ ([]:List (Addr×Obj)) from hp) (by simp),I.aB.kept fun b u e=>k4 b u (k3 b u e),?_⟩
 ·show b≠C;have:=Se b hb;rw[hC,h3];exact zap (Nat.lt_succ_of_le this)
 ·have q1:=Sb e;rcases zac.mp hb with z|z
  ·rw[z,hD];exact zap q1
  ·exact(f2 b z).2.2.2.2.1 x c (cl e)
 ·show X.base.objs.size<=s₃.heap.objs.size;have:=zay I.ok.nU I.sz;lia
 ·have e2:=(I.bs b o e).1;have rO:b∈D::fp:=hb;rcases zac.mp rO with z|z
  ·have:=Heap.lt_size e2;rw[z,hD] at this;exact zaz _ this
  ·rcases (f2 b z).2.2.2.1 with q|q
   ·exact I.ok.vZ b o e q
   ·exact absurd (zan (Heap.lt_size (I.ok.bs b o e).1) q) (zaz _)
 ·have Gn:b∈bS X.stack:=hf;have rO:b∈D::fp:=hb;rcases zac.mp rO with z|z
  ·rcases zac.mp (I.v8 b Gn) with q|q
   ·have:=I.lt;rw[<-q,z,hD] at this;exact zaz _ this
   ·exact I.ED (by rw[z,hD];exact zqR _) q
  ·rcases zac.mp (I.v8 b Gn) with q|q
   ·exact(f2 b z).2.1 q
   ·exact(f2 b z).2.2.1 q
 ·exact PySem.Heap.FunFrames.of_keeps (fun b o e _=>⟨o,k3 b o e,rfl⟩) I.stack
 ·show AllBare s₃.gens;rw[gens];exact I.bare
 ·have hi:ln.length<=i:=by
   by_cases hi:i<ln.length
   ·exfalso
    rw[zaw (by simpa using hi),zai] at e2
    cases q:ln[i]? with
    |none=>rw[q] at e2;cases e2
    |some y=>rw[q] at e2;cases e2
   ·lia
  have pQ:(ln++fv.map (·.1))[i]?=some x:=e1;rw[zba hi,zai] at pQ;rw[zba (by simpa using hi),zab] at e2
  unfold cb at e2;rw[zai] at e2;cases q:fv[i - ln.length]? with
  |none=>rw[q] at pQ;cases pQ
  |some p=>
   rw[q] at pQ e2;have ex:p.1=x:=zao pQ;have ev:(σ[p.2]?).join=some v:=zao e2;obtain⟨g1,g2⟩:=S.R9 p (zak q);rw[ex] at g1 g2;have Si:σ[p.2]?=some (some v):=by
    cases z:σ[p.2]? with
    |none=>rw[z] at ev;cases ev
    |some o=>rw[z] at ev;rw[show o=some v from ev]
   have hk:=S.free _ (PySem.mem_of_lookup g2) rfl;obtain⟨m2,jc,hl⟩:=I.loc;obtain⟨u,r,l⟩:=hl p.2 x v g1 Si (by rcases hk with k|k;exact .inr (.inl k);exact .inr (.inr k))
   refine⟨u,r,.inr ?_⟩;rcases l with⟨k,_⟩|⟨_,c,ec,z⟩
   ·rcases hk with k'|k'<;>(rw[k] at k';cases k')
   ·refine⟨Sf x g2,c,?_,?_⟩
    ·obtain⟨c',e'⟩:=AI (cells:=X.env.cells) scope.names [] x (.inl<|PySem.mem_of_lookup g2);have:=cl e';rw[ec] at this;cases this;exact e'
    ·obtain⟨o,ho,hd⟩:=z;exact⟨o,k4 c o<|k3 c o ho,hd⟩
 ·obtain⟨v,o,ho,hd⟩:=I.cell x c (cl e);exact⟨v,o,k4 c o<|k3 c o ho,hd⟩
 ·show s₂.heap.objs.size<=C;rw[hC,h3];exact zaI _
 ·show(ln.map (fun _=>none)++cb σ fv).length=(ln++fv.map (·.1)).length
  simp[cb]
end
structure AJ (Φ:Cx->Prop) (P:Program) (w:World) (K:Frag) (tg:Expr) (J:It) (fp:List Addr) (it:Addr) (tn:Nat->Heap->Prop):Prop where
 mem:it∈fp
 obj:∀i h,tn i h->∀b∈fp,∃o,h.get? b=some o/\∀v,o.data≠ .cell v
 keep:∀i h h',tn i h->(∀b∈fp,∀o,h.get? b=some o->h'.get? b=some o)->tn i h'
 item:∀X,X.prog=P->X.w=w->X.K=K->Φ X->∀(i:Nat) wv s σ H E,Inv X wv σ H s->(∀b∈fp,jw X wv H b)->tn i s.heap->J.go i H->
  wpAny (model P w) X.A (pyNext (.ref it)) (fun r s1=>∃u,r=some u/\
   wpAny (model P w) X.A (letOwnedTupleGo tg (.ref it) u) (fun _ s2=>∃x H',Inv X wv σ H' s2/\RelV x u/\J.fB i H x H'/\tn (i+1) s2.heap/\∀b∈fp,H' b=none) E s1) E s
 done:∀X,X.prog=P->X.w=w->X.K=K->Φ X->∀(i:Nat) wv s σ H E,Inv X wv σ H s->(∀b∈fp,jw X wv H b)->tn i s.heap->J.stop i H->
  wpAny (model P w) X.A (pyNext<|.ref it) (fun r s1=>r=none/\Inv X wv σ H s1) E s
 self:∀A (i:Nat) s Q E,tn i s.heap->Q (.ref it) s->wpAny (model P w) A (pyIter<|.ref it) Q E s
def wN(Φ:Cx->Prop)(X:Cx)(tg iter:Expr)(wi:TI):Prop:=
 ∀(wv:List (Addr×Obj)) (s:Shared) (σ:St) (H:Hp) (R:It->Hp->Prop),Inv X wv σ H s->wi σ H R->
  wpAny (model X.prog X.w) X.A (eval iter X.env) (fun v s1=>wpAny (model X.prog X.w) X.A (pyIter v) (fun pE s2=>
   ∃(it:Addr) (fp:List Addr) (tn:Nat->Heap->Prop) (J:It) (H':Hp),pE=.ref it/\Inv X wv σ H' s2/\AJ Φ X.prog X.w X.K tg J fp it tn/\tn 0 s2.heap/\(∀b∈fp,jw X wv H' b)/\R J H') X.xe s1) X.xe s
abbrev Calm(X:Cx):Prop:=X.calm=true
theorem PI.p{X:Cx}{tg iter:Expr}{wi:TI}(h:PI X tg iter wi):wN Calm X tg iter wi:=fun wv s σ H R I q=>
 aG (h wv s σ H R I q) fun v s1 h1=>aG h1 fun pE s2 ⟨it,fp,tn,J,H',e,I',T,st,f,r⟩=>⟨it,fp,tn,J,H',e,I',⟨T.mem,T.obj,T.keep,T.item,T.done,T.self⟩,st,f,r⟩
section
variable {X:Cx}{wv:List (Addr×Obj)}{σ:St}{H:Hp}{s₂:Shared}{scope:Scope}{ln:List Str}{fv:List (Str×Nat)}{elt tg iter:Expr}{ifs:List Expr}{pos:Pos}
 {J:It}{fp:List Addr}{it:Addr}{tn:Nat->Heap->Prop}{tk:Option Nat}{tc:Option TT}{te:TE}{Qv:VK}{RR:Value->Addr->Result->Shared->Prop}{E:Value->Shared->Prop}
def AK(Ψ:Hp->Prop)(X:Cx)(scope:Scope)(ln:List Str)(fv:List (Str×Nat))(tg:Expr)(tk:Option Nat):Prop:=
 ∀ex C s H,Ψ H->∃g,PG (iw X scope (ln++fv.map (·.1)) ex C s H) tg g/\
  ∀x pre φ H' (Q:St->Hp->Prop),pre.length=ln.length->iN X.K tk x H' (fun xs=>xs.length=ln.length->Q (xs.map some++φ) H')->g x (pre++φ) H' Q
def uq(X:Cx)(scope:Scope)(ln:List Str)(fv:List (Str×Nat))(tg:Expr)(tk:Option Nat):Prop:=
 ∀ex C s H,∃g,PG (iw X scope (ln++fv.map (·.1)) ex C s H) tg g/\
  ∀x pre φ H' (Q:St->Hp->Prop),pre.length=ln.length->iN X.K tk x H' (fun xs=>xs.length=ln.length->Q (xs.map some++φ) H')->g x (pre++φ) H' Q
def ur(X:Cx)(scope:Scope)(N:List Str)(ifs:List Expr)(tc:Option TT):Prop:=
 match tc with
 |none=>ifs=[]
 |some t=>∃c,ifs=[c]/\∀ex C s H,PT (iw X scope N ex C s H) c t
theorem Gp{Φ:Cx->Prop}{Ψ:Hp->Prop}(S:jY X scope ln fv)(hc:∀Xc:Cx,Xc.A=X.A->Xc.calm=X.calm->Xc.H₀=H->Φ Xc)(hΨ:Ψ H)(hg:AK Ψ X scope ln fv tg tk)(ht:ur X scope (ln++fv.map (·.1)) ifs tc)
  (he:∀ex C s H,PE (iw X scope (ln++fv.map (·.1)) ex C s H) elt te)
  (I:Inv X wv σ H s₂) (T:AJ Φ X.prog X.w X.K tg J fp it tn) (st:tn 0 s₂.heap) (f2:∀b∈fp,jw X wv H b)
  (h:∃W:Nat->Nat->List V->Hp->Prop,(∃m,W 0 m [] H)/\∀i m ys H2,W i m ys H2->
   (J.stop i H2/\∀p,H2 p=none->Qv (.ref p) (upd H2 p<|.lst ys))\/
   (J.go i H2/\∀x H3,J.fB i H2 x H3->iN X.K tk x H3 fun xs=>
    jZ tc (xs.map some++cb σ fv) H3 fun b H5=>
     if b=true then te (xs.map some++cb σ fv) H5 fun y H6=>ys.length<sizeLine/\∃m',m'<m/\W (i+1) m' (ys++[y]) H6
     else ∃m',m'<m/\W (i+1) m' ys H5))
  (Sj:∀D C H' s' m,Inv X wv σ H' s'->s'.heap.Ns C m->H' C=none->C≠X.env.locals->X.s₀.heap.objs.size<=C->(∀x c,X.env.cells.lookup x=some c->c≠C)->(∀p∈X.pn++wv,p.1≠C)->Qv (.ref D) H'->RR (.ref D) C (.ok .next) s'):
  wpAny (model X.prog X.w) X.A (newList []) (fun acc s₃=>wpAny (model X.prog X.w) X.A (newFunctionEnv scope X.env.globals (dX X.env.cells scope.names []) [] X.env.qual none .none (some X.env)) (fun Gq s₄=>
   codeAny (model X.prog X.w) X.A (.compStart (.ListComp elt [⟨tg,iter,ifs,0⟩] scope pos) 0 (.ref it) acc {Gq with scope:=relabel scope X.env}) (RR acc Gq.locals) s₄) E s₃) E s₂:=by
 obtain⟨W,⟨m0,w0⟩,turn⟩:=h;refine wpAny_newObj_type<|wpAny_newFunctionEnv S.Gj (by intro y hy;simp at hy) (fun h₁ wO wQ=>?_) S.kind
 dsimp only at wO wQ⊢
 generalize wR:({s₂ with heap:=s₂.heap.push {cls:=.type "list",dict:=none,data:=.seq ([]:List Value).toArray}}:Shared)=s₃
 have wU:s₂.heap.push {cls:=.type "list",dict:=none,data:=.seq ([]:List Value).toArray}=s₃.heap:=by rw[<-wR]
 rw[wU] at wO wQ⊢;have Gr:s₃.os=s₂.os:=by rw[<-wR]
 have Sk:s₃.gens=s₂.gens:=by rw[<-wR]
 have pR:s₃.heap.objs.size=s₂.heap.objs.size+1:=by rw[<-wU,Heap.size_push]
 have k3:∀b o,s₂.heap.get? b=some o->s₃.heap.get? b=some o:=fun b o e=>by rw[<-wU];exact Heap.get?_push_of_some _ e
 have k4:∀b o,s₃.heap.get? b=some o->h₁.get? b=some o:=fun b o e=>wQ.extBut b o (zap<|Heap.lt_size e) (Heap.get?_push_of_some _ e);have gD:s₃.heap.get? s₂.heap.objs.size=some {cls:=.type "list",dict:=none,data:=.seq ([]:List Value).toArray}:=by rw[<-wU];exact Heap.get?_push_size _ rfl
 generalize eD:s₂.heap.objs.size=D at gD;generalize eC:s₃.heap.objs.size=C at wO wQ⊢;have wV:D≠C:=by rw[<-eD,<-eC,pR];exact zap (zbO _)
 have mE:∀b∈fp,∃o,s₂.heap.get? b=some o:=fun b hb=>by obtain⟨o,e,_⟩:=T.obj 0 _ st b hb;exact⟨o,e⟩
 have Gs:∀b∈fp,b≠D:=fun b hb=>by obtain⟨o,e⟩:=mE b hb;rw[<-eD];exact zap (Heap.lt_size e)
 have Sl:∀b∈fp,b≠C:=fun b hb=>by
  obtain⟨o,e⟩:=mE b hb;have:=Heap.lt_size e;rw[<-eC,pR];exact zap (zbT this)
 generalize eX:iw X scope (ln++fv.map (·.1)) (D::fp) C s₃ H=Xc;have I4:∀t,Inv Xc [] (ln.map (fun _=>none)++cb σ fv) H {s₃ with heap:=h₁,toks:=t}:=fun t=>by
  rw[<-eX];exact Sa S I f2 mE Gr Sk k3 eD.symm pR eC.symm k4 wO
 have xL:Xc.env.locals=C:=by rw[<-eX];rfl
 have wW:Xc.ex=D::fp:=by rw[<-eX];rfl
 have Sm:Xc.fs=bS X.stack:=by rw[<-eX];rfl
 have xP:Xc.prog=X.prog:=by rw[<-eX];rfl
 have xw:Xc.w=X.w:=by rw[<-eX];rfl
 have xK:Xc.K=X.K:=by rw[<-eX];rfl
 have xA:Xc.A=X.A:=by rw[<-eX];rfl
 have xc:Φ Xc:=hc Xc xA (by rw[<-eX];rfl) (by rw[<-eX];rfl)
 have Gu:Xc.pn=[]:=by rw[<-eX];rfl
 have AL:Xc.xe=fun _ _=>False:=by rw[<-eX];rfl
 have Gv:Xc.env.cells=dX X.env.cells scope.names []:=by rw[<-eX];rfl
 have AM:Xc.env=compEnvC scope (dX X.env.cells scope.names []) C X.env:=by rw[<-eX];rfl
 have cD:∀x c,Xc.env.cells.lookup x=some c->c≠D:=fun x c e=>by
  rw[Gv] at e;obtain⟨v,q⟩:=I.cell x c (S.cells I e).1;rw[<-eD];exact zap q.lt
 have cF:∀x c,Xc.env.cells.lookup x=some c->∀b∈fp,c≠b:=fun x c e b hb=>by
  rw[Gv] at e;exact(f2 b hb).2.2.2.2.1 x c (S.cells I e).1
 have sF:∀b∈D::fp,b∉Xc.fs:=fun b hb hf=>by
  have:=(I4 0).ok.v7 b (by rw[wW];exact hb)
  exact this hf
 have pF:∀{H':Hp}{oD:Obj},(∀b∈fp,H' b=none)->∀b∈fp,jw Xc [(D,oD)] H' b:=fun hn b hb=>
  ⟨hn b hb,by rw[xL];exact Sl b hb,sF b (zas _ hb),.inl (by rw[wW];exact zas _ hb),fun x c e=>cF x c e b hb,fun p hp=>by
   rw[Gu] at hp;rcases zad.mp (show p∈ [(D,_)] from hp) with rfl
   exact(Gs b hb).symm⟩
 have loop:∀s₄:Shared,s₄={s₃ with heap:=h₁,toks:=s₃.toks+([]:List (Str×Value)).length}->
   codeAny (model X.prog X.w) X.A (.compLoop (.ListComp elt [⟨tg,iter,ifs,0⟩] scope pos) 0 (.ref it) (.ref D)<|compEnvC scope (dX X.env.cells scope.names []) C X.env) (RR (.ref D) C) s₄:=by
  rintro s₄ rfl;refine R0 (fun n s'=>∃i pre ys ao nn H',Inv Xc [(D,{cls:=.type "list",data:=.seq (List.toArray ao) nn})] (pre++cb σ fv) H' s'/\pre.length=ln.length/\tn i s'.heap/\(∀b∈fp,H' b=none)/\Vals ys ao/\ys.length<=sizeLine/\W i n ys H') ?_ m0
   ⟨0,ln.map<|fun _=>none,[],[],0,H,(I4 _).rC<|fun p hp=>?_,by simp,T.keep 0 _ _ st<|fun b _ o e=>k4 b o<|k3 b o e,fun b hb=>(f2 b hb).1,.nil,zqZ _,w0⟩
  rotate_left
  ·have AN:=zad.mp hp;subst AN;refine⟨k4 _ _ gD,I.aB.fresh<|zbw eD,by rw[xL];exact wV,sF D zat,fun v z=>by cases z⟩
  rintro n s' ⟨i,pre,ys,ao,nn,H',I',mB,jU,Gw,hv,hz,w'⟩;have afX:=I'.pin (D,_) (zau _ zat);rcases turn i n ys H' w' with⟨stop,qn⟩|⟨go,step⟩
  ·have td:=T.done Xc xP xw xK xc i _ s' _ H' (fun _ _=>False) I' (pF Gw) jU stop;rw[xA] at td;refine aG td fun r s1 ⟨hr,I1⟩=>?_;subst hr;have AO:=I1.pin (D,_) (zau _ zat);have b1:=I1.base;rw[Sm,wW] at b1;have Gx:Xc.s₀=s₃:=by rw[<-eX];rfl
   have Sn:Xc.H₀=H:=by rw[<-eX];rfl
   rw[Gx,Sn] at b1;have nD:∀b o,s₂.heap.get? b=some o->b∉fp->b∉D::fp:=fun b o e hb hm=>by
    rcases zac.mp hm with z|z
    ·have:=Heap.lt_size e;rw[z,eD] at this;exact zaz _ this
    ·exact hb z
   have un:Un (bS X.stack) fp H H' s₂.heap s1.heap:=⟨fun b o e nb hb hx=>b1.keep b o (k3 b o e) nb hb (nD b o e hx),fun b o e nb hb hx=>b1.slot b o (k3 b o e) nb hb (nD b o e hx),fun b o e nb hx=>b1.free b o (k3 b o e) nb (nD b o e hx),
    fun b o e hx=>b1.there b o (k3 b o e) (nD b o e hx),b1.bC,b1.fW,b1.gW⟩
   have So:s1.os=s₂.os:=by rw[I1.os,Gx,Gr]
   have Gy:=I1.aB;rw[xP,xw] at Gy;have J1:Inv X wv σ H' s1:=I.zS So un Gy I1.bare fun b hb=>⟨(f2 b hb).2.2.2.1,(f2 b hb).2.1,(f2 b hb).2.2.2.2.1,(f2 b hb).2.2.2.2.2⟩;have Sq:∀x c,X.env.cells.lookup x=some c->c≠D:=fun x c e=>by
    obtain⟨v,q⟩:=I.cell x c e;rw[<-eD];exact zap q.lt
   have Sr:∀x c,X.env.cells.lookup x=some c->c≠C:=fun x c e=>by
    obtain⟨v,q⟩:=I.cell x c e;rw[<-eC,pR];exact zap (zbT q.lt)
   have pD:∀p∈X.pn++wv,p.1≠D:=fun p hp=>by rw[<-eD];exact zap (Heap.lt_size (I.pin p hp).1)
   have pC:∀p∈X.pn++wv,p.1≠C:=fun p hp=>by
    rw[<-eC,pR];exact zap (zbT<|Heap.lt_size (I.pin p hp).1)
   have lD:D≠X.env.locals:=by rw[<-eD];exact zaD I.lt
   have lC:C≠X.env.locals:=by
    rw[<-eC,pR];exact zaD (zbT I.lt)
   have J2:Inv X wv σ (upd H' D<|.lst ys) s1:=Inv.wM J1 AO.2.1 (by rw[<-eD];exact I.sz) lD Sq pD ⟨hz,ao,nn,hv,AO.1⟩
   obtain⟨mC,Gz,_⟩:=I1.loc;rw[xL] at Gz;have fC:H' C=none:=by have:=I1.free;rw[xL] at this;exact this
   exact Sj D C _ s1 mC J2 Gz (by rw[aI<|Ne.symm wV];exact fC) lC (by rw[<-eC,pR];exact Nat.le_succ_of_le I.sz) Sr pC<|qn D AO.2.1
  ·have ti:=T.item Xc xP xw xK xc i _ s' _ H' (fun _ _=>False) I' (pF Gw) jU go;rw[xA] at ti;refine aG ti fun r s4 ⟨u,hr,h4⟩=>?_;subst hr;refine aG h4 fun _ s5 ⟨x,H5,I5,r5,y5,pG,z6⟩=>?_;have uc:=I5.pinned (pF z6) (T.obj _ _ pG);obtain⟨g,pg,gq⟩:=hg (D::fp) C s₃ H hΨ;rw[eX] at pg;have rd:=step x H5 y5;have GA:=pg _ s5 _ H5 x u (fun σ6 H6=>∃xs:List V,σ6=xs.map some++cb σ fv/\xs.length=ln.length/\H6=H5/\
     jZ tc (xs.map some++cb σ fv) H5 fun b H5=>
     if b=true then te (xs.map some++cb σ fv) H5 fun y H6=>ys.length<sizeLine/\∃m',m'<n/\W (i+1) m' (ys++[y]) H6
     else ∃m',m'<n/\W (i+1) m' ys H5) uc r5 (gq x pre (cb σ fv) H5 _ mB (by
      cases tk with
      |none=>exact fun hl=>⟨_,rfl,hl,rfl,rd⟩
      |some k=>exact R_ rd fun xs rd hl=>⟨xs,rfl,hl,rfl,rd⟩))
   rw[xA,xP,xw,AL,AM] at GA;refine aG GA fun _ s6 ⟨σ6,H6,I6,xs,e6,oh,eH,GB⟩=>?_;subst e6 eH;have GC:∀{H7:Hp}{σ7:St}{s7:Shared},Inv Xc ([(D,{cls:=.type "list",data:=.seq (List.toArray ao) nn})]++rE fp s5.heap) σ7 H7 s7->tn (i+1) s7.heap/\(∀b∈fp,H7 b=none)/\s7.heap.get? D=some {cls:=.type "list",data:=.seq (List.toArray ao) nn}/\H7 D=none:=fun {H7 σ7 s7} I7=>by
    refine⟨T.keep _ _ _ pG fun b hb o e=>(I7.pin (b,o)<|zau _<|zau _<|wq hb e).1,fun b hb=>?_,?_,?_⟩
    ·obtain⟨o,e,d⟩:=T.obj _ _ pG b hb;exact(I7.pin (b,o)<|zau _<|zau _<|wq hb e).2.1
    ·exact(I7.pin (D,_)<|zau _<|zaA _ zat).1
    ·exact(I7.pin (D,_)<|zau _<|zaA _ zat).2.1
   have tests:wpAny (model X.prog X.w) X.A (forIn ifs true fun c r=>if r=true then do let ok <-isTrue c (compEnvC scope (dX X.env.cells scope.names []) C X.env) (eval c<|compEnvC scope (dX X.env.cells scope.names []) C X.env);pure (ForInStep.yield ok) else pure (ForInStep.yield r))
     (fun ok s7=>∃H7,Inv Xc ([(D,{cls:=.type "list",data:=.seq (List.toArray ao) nn})]++rE fp s5.heap) (xs.map some++cb σ fv) H7 s7/\
      if ok=true then te (xs.map some++cb σ fv) H7 fun y H6=>ys.length<sizeLine/\∃m',m'<n/\W (i+1) m' (ys++[y]) H6
      else ∃m',m'<n/\W (i+1) m' ys H7) (fun _ _=>False) s6:=by
    cases tc with
    |none=>
     have rP:ifs=[]:=ht;subst rP;exact wpAny_tests_nil ⟨_,I6,GB⟩
    |some t=>
     obtain⟨c,rP,pt⟩:=(show ∃c,ifs=[c]/\∀ex C s H,PT (iw X scope (ln++fv.map (·.1)) ex C s H) c t from ht)
     subst rP;have GF:=pt (D::fp) C s₃ H;rw[eX] at GF;have q:=GF _ s6 _ _ _ I6 GB;rw[xA,xP,xw,AL,AM] at q;exact wpAny_tests_one<|aG q fun b s7 ⟨H7,I7,q7⟩=>⟨H7,I7,q7⟩
   refine aG tests fun ok s7 ⟨H7,I7,q7⟩=>?_;cases ok with
   |false=>
    simp only[zaV,if_false] at q7⊢
    obtain⟨m',hm,w7⟩:=q7;obtain⟨t7,f7,d7,n7⟩:=GC I7;refine⟨m',hm,i+1,xs.map some,ys,ao,nn,H7,I7.rC<|fun p hp=>?_,by simpa using oh,t7,f7,hv,hz,w7⟩
    exact I7.pin p<|zau _<|zaA _ hp
   |true=>
    simp only[if_true] at q7⊢
    have q:=he (D::fp) C s₃ H;rw[eX] at q;have q:=q _ s7 _ H7 _ I7 q7;rw[xA,xP,xw,AL,AM] at q;refine aG q fun uy s8 ⟨y,H8,I8,r8,aN,m',hm,w8⟩=>?_;obtain⟨t8,f8,d8,n8⟩:=GC I8;have hl:=hv.length;refine call_meets F.slot_list_append ⟨_,d8,rfl⟩ F.entry_list_append (F.args_list_append_2 _ _) (PySem.list_append D ao.toArray nn uy (by rw[zag];lia)) ⟨d8,?_⟩
    have I9:∀t,Inv Xc [] (xs.map some++cb σ fv) H8 {s8 with heap:=s8.heap.update D (Obj.mapSeq (·.push uy)),toks:=t}:=fun t=>
     (I8.rC (jv:=[])<|fun p hp=>absurd hp (by simp)).turned (it:=D) (t':=t) (fun b o hb e=>(Heap.get?_update_other s8.heap (Obj.mapSeq (·.push uy))<|Ne.symm hb).trans e) n8 (by rw[xL];exact wV) (.inl (by rw[wW];exact zat)) cD
      (fun p hp=>by rw[Gu] at hp;exact absurd hp (by simp))
    have g9:=PySem.IsL.update d8 (·.push uy);obtain⟨n9,Ss⟩:∃n9,(s8.heap.update D (Obj.mapSeq (·.push uy))).get? D=some {cls:=.type "list",data:=.seq (ao++[uy]).toArray n9}:=
     ⟨_,by rw[show(ao++[uy]).toArray=ao.toArray.push uy by simp];exact g9⟩
    refine⟨m',hm,i+1,xs.map some,ys++[y],ao++[uy],n9,H8,(I9 _).rC<|fun p hp=>?_,by simpa using oh,?_,f8,hv.append<|.cons r8 .nil,?_,w8⟩
    ·have AN:=zad.mp hp;subst AN;exact⟨Ss,n8,by rw[xL];exact wV,sF D zat,fun v z=>by cases z⟩
    ·exact T.keep _ _ _ t8 fun b hb o e=>(Heap.get?_update_other s8.heap (Obj.mapSeq (·.push uy))<|Ne.symm<|Gs b hb).trans e
    ·rw[zqA,zaR];lia
 have Su:tn 0 h₁:=T.keep 0 _ _ st fun b _ o e=>k4 b o (k3 b o e);have e4:({s₂ with heap:=h₁,toks:=s₂.toks+([]:List (Str×Value)).length}:Shared)={s₃ with heap:=h₁,toks:=s₃.toks+([]:List (Str×Value)).length}:=by rw[<-wR]
 exact codeAny_compStart_list (loop _ e4)<|T.self X.A 0 _ _ _ Su<|loop _ e4
end
section
variable {X:Cx}{scope:Scope}{ln:List Str}{fv:List (Str×Nat)}{elt tg iter:Expr}{ifs:List Expr}{pos:Pos}{wi:TI}{tk:Option Nat}{tc:Option TT}{te:TE}
theorem GG{Φ:Cx->Prop}{Ψ:Hp->Prop}(S:jY X scope ln fv)(hc:∀H,Ψ H->∀Xc:Cx,Xc.A=X.A->Xc.calm=X.calm->Xc.H₀=H->Φ Xc)(hΨ:∀wv σ H s,Inv X wv σ H s->Ψ H)(hi:wN Φ X tg iter wi)(hg:AK Ψ X scope ln fv tg tk)(ht:ur X scope (ln++fv.map (·.1)) ifs tc)
  (he:∀(ex:List Addr) (C:Addr) (s:Shared) (H:Hp),PE (iw X scope (ln++fv.map (·.1)) ex C s H) elt te) (hs:∀x,foldedSetIterable iter X.env x=pure x:=by intro _;rfl):
  PE X (.ListComp elt [⟨tg,iter,ifs,0⟩] scope pos) (og X.K wi tk fv tc te):=by
 intro wv s σ H Q I h;rw[eval_ListComp];refine wpAny_comprehension_free (use:=none) rfl hs (S.Gk I) S.kind S.locals<|aG (hi wv s σ H _ I h) fun v s1 h1=>aG h1 fun pE s2 h2=>?_;obtain⟨it,fp,tn,J,H2,e,I2,T,ub,f2,hW⟩:=h2;subst e;refine Gp (RR:=fun acc C=>compPost (model X.prog X.w) X.A X.xe none (EP X wv σ Q) acc C) S (hc H2<|hΨ _ _ _ _ I2) (hΨ _ _ _ _ I2) hg ht he I2 T ub f2 hW ?_;intro D C H' s' m I' ns hn hL h0 wX hp q;refine⟨m,ns,fun h' sb=>⟨.ref D,H',?_,rfl,q⟩⟩;exact I'.turned (it:=C) (t':=s'.toks) (fun b o hb e=>sb.extBut b o hb e) hn hL (.inr h0) wX hp
theorem Sv{Φ:Cx->Prop}{Ψ:Hp->Prop}{i:Nat}{y:Str}{py uu:Pos}(hN:X.N.Nodup)(fI:X.N[i]?=some y)(hy:Loc X.env.scope y)(AQ:swapsWith (.ListComp elt [⟨tg,iter,ifs,0⟩] scope pos) (some<|.Name y py) uu.line X.env=pure true)
  (S:jY X scope ln fv) (hc:∀H,Ψ H->∀Xc:Cx,Xc.A=X.A->Xc.calm=X.calm->Xc.H₀=H->Φ Xc) (hΨ:∀wv σ H s,Inv X wv σ H s->Ψ H) (hi:wN Φ X tg iter wi) (hg:AK Ψ X scope ln fv tg tk) (ht:ur X scope (ln++fv.map (·.1)) ifs tc)
  (he:∀(ex:List Addr) (C:Addr) (s:Shared) (H:Hp),PE (iw X scope (ln++fv.map (·.1)) ex C s H) elt te) (hs:∀x,foldedSetIterable iter X.env x=pure x:=by intro _;rfl)
  (hf:X.fn y=true\/X.env.scope.names.lookup y=some .local:=by first|exact .inl rfl|exact .inr rfl|assumption):
  PS X (.Assign [.Name y py] (.ListComp elt [⟨tg,iter,ifs,0⟩] scope pos) uu) (kS (og X.K wi tk fv tc te)<|fX i):=by
 intro wv s σ H D I h;rw[exec_Assign_Name_used _ _ _ _ AQ];refine wpAny_bind<|wpAny_standAt<|wpAny_bind ?_;show wpAny _ X.A (do let _ <-comprehension (.ListComp elt [⟨tg,iter,ifs,0⟩] scope pos) scope X.env _ (newList []) false (eval iter X.env) (some<|assign (.Name y py) X.env)) _ _ s
 refine wpAny_bind (wpAny_mono (wpAny_comprehension_free (use:=some (assign (.Name y py) X.env)) (Q:=fun _ s'=>SP X wv D .next s') rfl hs (S.Gk I) S.kind S.locals
  (aG (hi wv s σ H _ I h) fun v s1 h1=>aG h1 fun pE s2 h2=>?_)) (fun _ s' hq=>wpAny_pure (wpAny_pure hq)) fun _ _ e=>e)
 obtain⟨it,fp,tn,J,H2,e,I2,T,ub,f2,hW⟩:=h2;subst e;refine Gp (Qv:=fun x H1=>fX i x σ H1 D.nx) (RR:=fun acc C=>compPost (model X.prog X.w) X.A X.xe (some<|assign (.Name y py) X.env) (fun _ s'=>SP X wv D .next s') acc C) S (hc H2<|hΨ _ _ _ _ I2) (hΨ _ _ _ _ I2) hg ht he I2 T ub f2 hW ?_;intro Da C H' s' m I' ns hn hL h0 wX hp q;show wpAny _ X.A (assign (.Name y py) X.env<|.ref Da) _ _ _;refine wpAny_assign_Name<|EH I' hN fI hy (v:=.ref Da) rfl (fun s4 I4 ⟨a,sb,ha⟩=>?_) hf;have Sw:C≠a:=by
  rcases ha with z|z
  ·rw[z];exact hL
  ·exact Ne.symm (wX _ _ z)
 refine⟨m,ns.sameBut sb Sw,fun h' Sx=>⟨_,H',?_,q⟩⟩;exact I4.turned (it:=C) (t':=s4.toks) (fun b o hb e=>Sx.extBut b o hb e) hn hL (.inr h0) wX hp
theorem Sy(S:jY X scope ln fv)(hc:X.calm=true)(hi:PI X tg iter wi)(hg:uq X scope ln fv tg tk)(ht:ur X scope (ln++fv.map (·.1)) ifs tc)
  (he:∀ex C s H,PE (iw X scope (ln++fv.map (·.1)) ex C s H) elt te) (hs:∀x,foldedSetIterable iter X.env x=pure x:=by intro _;rfl):
  PE X (.ListComp elt [⟨tg,iter,ifs,0⟩] scope pos) (og X.K wi tk fv tc te):=
 GG (Φ:=Calm) (Ψ:=fun _=>True) S (fun _ _ Xc _ e _=>e.trans hc) (fun _ _ _ _ _=>trivial) hi.p (fun ex C s H _=>hg ex C s H) ht he hs
theorem Sz{i:Nat}{y:Str}{py uu:Pos}(hN:X.N.Nodup)(fI:X.N[i]?=some y)(hy:Loc X.env.scope y)(AQ:swapsWith (.ListComp elt [⟨tg,iter,ifs,0⟩] scope pos) (some<|.Name y py) uu.line X.env=pure true)
  (S:jY X scope ln fv) (hc:X.calm=true) (hi:PI X tg iter wi) (hg:uq X scope ln fv tg tk) (ht:ur X scope (ln++fv.map (·.1)) ifs tc)
  (he:∀ex C s H,PE (iw X scope (ln++fv.map (·.1)) ex C s H) elt te) (hs:∀x,foldedSetIterable iter X.env x=pure x:=by intro _;rfl)
  (hf:X.fn y=true\/X.env.scope.names.lookup y=some .local:=by first|exact .inl rfl|exact .inr rfl|assumption):
  PS X (.Assign [.Name y py] (.ListComp elt [⟨tg,iter,ifs,0⟩] scope pos) uu) (kS (og X.K wi tk fv tc te)<|fX i):=
 Sv (Φ:=Calm) (Ψ:=fun _=>True) hN fI hy AQ S (fun _ _ Xc _ e _=>e.trans hc) (fun _ _ _ _ _=>trivial) hi.p (fun ex C s H _=>hg ex C s H) ht he hs hf
end
section
variable {X:Cx}{scope:Scope}{fv:List (Str×Nat)}
theorem GH{x:Str}{px:Pos}(hl:scope.names.lookup x=some .local)(wY:(x::fv.map (·.1)).Nodup):uq X scope [x] fv (.Name x px) none:=by
 intro ex C s H;have SA:Loc (iw X scope ([x]++fv.map (·.1)) ex C s H).env.scope x:=.inl (lookup_relabel_local hl);refine⟨fX 0,wg (X:=iw X scope ([x]++fv.map (·.1)) ex C s H) wY rfl SA<|.inr<|lookup_relabel_local hl,fun v pre φ H' Q hp h=>?_⟩;obtain⟨a,rfl⟩:∃a,pre=[a]:=by
  match pre,hp with
  |[a],_=>exact⟨a,rfl⟩
 exact h rfl
theorem SD{x y:Str}{px py pos:Pos}{k:Nat}(hc:X.calm=true)(hx:scope.names.lookup x=some .local)(hy:scope.names.lookup y=some .local)(wY:(x::y::fv.map (·.1)).Nodup):uq X scope [x,y] fv (.Tuple [.Name x px,.Name y py] k pos) (some 2):=by
 intro ex C s H;generalize eX:iw X scope ([x,y]++fv.map (·.1)) ex C s H=Xc;have xN:Xc.N=x::y::fv.map (·.1):=by rw[<-eX];rfl
 have xc:Xc.calm=true:=by rw[<-eX];exact hc
 have lx:Xc.env.scope.names.lookup x=some .local:=by rw[<-eX];exact lookup_relabel_local hx
 have ly:Xc.env.scope.names.lookup y=some .local:=by rw[<-eX];exact lookup_relabel_local hy
 have p1:PG Xc (.Name x px) (fX 0):=wg (by rw[xN];exact wY) (by rw[xN];rfl) (.inl lx) (.inr lx)
 have p2:PG Xc (.Name y py) (fX 1):=wg (by rw[xN];exact wY) (by rw[xN];rfl) (.inl ly) (.inr ly)
 have xK:Xc.K=X.K:=by rw[<-eX];rfl
 refine⟨E3 Xc.K 2<|wj (fX 0)<|wj (fX 1) zW,E4 xc<|zX p1<|zX p2 E2,fun v pre φ H' Q hp h=>?_⟩;obtain⟨a,b,rfl⟩:∃a b,pre=[a,b]:=by
  match pre,hp with
  |[a,b],_=>exact⟨a,b,rfl⟩
 obtain⟨a',xs,rfl,e2,e3,q⟩:=h;obtain⟨v1,v2,rfl⟩:∃v1 v2,xs=[v1,v2]:=by
  match xs,e3 with
  |[v1,v2],_=>exact⟨v1,v2,rfl⟩
 exact⟨a',_,rfl,by rw[xK];exact e2,rfl,v1,_,rfl,v2,_,rfl,rfl,q rfl⟩
end
section
variable {X:Cx}
theorem bw.imp{f:Value->Value->Sem Value}{r r':R2}(h:bw X f r)(i:∀x y H Q,r' x y H Q->r x y H Q):bw X f r':=fun wv s σ H x y v u Q I rx ry q=>h wv s σ H x y v u Q I rx ry (i _ _ _ _ q)
theorem dD.imp{f:Value}{r r':List V->Hp->VK->Prop}(h:dD X f r)(i:∀xs H Q,r' xs H Q->r xs H Q):dD X f r':=fun wv s σ H xs us Q I rv q=>h wv s σ H xs us Q I rv (i _ _ _ q)
def GI(K:Frag):R2:=fun x y H Q=>match x,y with
 |.int i,.int j=>Q (.int<|i+j) H
 |.str i,.str j=>i.length+j.length<=sizeLine/\Q (.str<|i++j) H
 |.ref l,.ref b=>FV (.ref l) (.ref b) H Q\/FK K (.ref l) (.ref b) H Q
 |_,_=>False
theorem SE:bw X (binaryOp .Add) (GI X.K):=by
 refine bw.imp ((PN.or Qj).or<|Ro.or QS) fun x y H Q h=>?_;cases x<;>cases y<;>first
  |exact False.elim h
  |exact .inl (.inl ⟨_,_,rfl,rfl,h⟩)
  |exact .inl (.inr ⟨_,_,rfl,rfl,h⟩)
  |exact .inr h
def k_(C:Int->Int->Prop)(g:Int->Int->V):R2:=fun x y H Q=>match x,y with
 |.int i,.int j=>C i j/\Q (g i j) H
 |_,_=>False
theorem AR{C:Int->Int->Prop}{g:Int->Int->V}(x y:V)(H:Hp)(Q:VK)(h:k_ C g x y H Q):rI C g x y H Q:=by
 cases x<;>cases y<;>first
  |exact False.elim h
  |exact⟨_,_,rfl,rfl,h⟩
theorem uv{g:Int->Int->V}(x y:V)(H:Hp)(Q:VK)(h:k_ (fun _ _=>True) g x y H Q):mi g x y H Q:=by
 cases x<;>cases y<;>first
  |exact False.elim h
  |exact⟨_,_,rfl,rfl,h.2⟩
def AS:R2:=fun x y H Q=>match x,y with
 |.int i,.int j=>wy i j/\Q (.int<|i*j) H
 |.ref l,.int k=>FW (.ref l) (.int k) H Q
 |_,_=>False
theorem SF:bw X (binaryOp .Mult) AS:=by
 refine bw.imp (PR.or Rp) fun x y H Q h=>?_;cases x<;>cases y<;>first
  |exact False.elim h
  |exact .inl ⟨_,_,rfl,rfl,h⟩
  |exact .inr h
def rQ(K:Frag):Operator->R2
 |.Add=>GI K
 |.Sub=>k_ (fun _ _=>True) fun i j=>.int (i - j)
 |.Mult=>AS
 |.FloorDiv=>k_ Fh fun i j=>.int (i / j)
 |.Mod=>k_ (fun _ j=>0<j) fun i j=>.int (i % j)
 |.Pow=>k_ Fi fun i j=>.int (i ^ j.toNat)
 |_=>fun _ _ _ _=>False
theorem SH(op:Operator):bw X (binaryOp op) (rQ X.K op):=by
 cases op<;>first
  |exact SE
  |exact bw.imp PQ uv
  |exact SF
  |exact bw.imp PU AR
  |exact bw.imp PV AR
  |exact bw.imp PX AR
  |exact fun _ _ _ _ _ _ _ _ _ _ _ _ h=>False.elim h
mutual
def Is(H:Hp):PyData->V->Prop
 |.none,v=>v=.az
 |.bool b,v=>v=.bl b
 |.int i,v=>v=.int i
 |.str x,v=>v=.str x
 |.list xs,v=>∃a vs,v=.ref a/\H a=some (.lst vs)/\IsL H xs vs
 |.tuple xs,v=>∃a vs,v=.ref a/\H a=some (.tup vs)/\IsL H xs vs
 |.dict _,_=>False
def IsL(H:Hp):List PyData->List V->Prop
 |[],vs=>vs=[]
 |d::ds,vs=>∃v r,vs=v::r/\Is H d v/\IsL H ds r
end
mutual
theorem Is.reads{wv:List (Addr×Obj)}{σ:St}{H:Hp}{s:Shared}(I:Inv X wv σ H s):∀(d:PyData) (v:V) (u:Value),Is H d v->RelV v u->∃as,Reads s.heap u d as
 |.none,v,u,h,r=>by rw[show v=.az from h] at r;rw[show u=.none from r];exact⟨_,.none⟩
 |.bool b,v,u,h,r=>by rw[show v=.bl b from h] at r;rw[show u=.bool b from r];exact⟨_,.bool b⟩
 |.int i,v,u,h,r=>by rw[show v=.int i from h] at r;obtain⟨t,e⟩:=r;rw[e];exact⟨_,.int i t⟩
 |.str x,v,u,h,r=>by rw[show v=.str x from h] at r;obtain⟨t,e⟩:=r;rw[e];exact⟨_,.str x t⟩
 |.list xs,v,u,h,r=>by
  obtain⟨a,vs,e,hH,hl⟩:=(show ∃a vs,v=.ref a/\H a=some (.lst vs)/\IsL H xs vs by simpa only[Is] using h)
  rw[e] at r;rw[show u=.ref a from r]
  obtain⟨_,ao,n,hv,hg⟩:=I.aB a _ hH;obtain⟨as,q⟩:=IsL.reads I xs vs ao hl hv;exact⟨_,.list hg rfl rfl (by simpa using q)⟩
 |.tuple xs,v,u,h,r=>by
  obtain⟨a,vs,e,hH,hl⟩:=(show ∃a vs,v=.ref a/\H a=some (.tup vs)/\IsL H xs vs by simpa only[Is] using h)
  rw[e] at r;rw[show u=.ref a from r]
  obtain⟨_,ao,hv,o,hg,hc,n,hd⟩:=I.aB a _ hH;obtain⟨as,q⟩:=IsL.reads I xs vs ao hl hv;exact⟨_,.tuple hg hc hd (by simpa using q)⟩
 |.dict _,v,u,h,r=>by simp only[Is] at h
theorem IsL.reads{wv:List (Addr×Obj)}{σ:St}{H:Hp}{s:Shared}(I:Inv X wv σ H s):∀(ds:List PyData) (vs:List V) (us:List Value),IsL H ds vs->Vals vs us->∃as,ReadsAll s.heap us ds as
 |[],vs,us,h,r=>by
  rw[show vs=[] from h] at r
  cases r;exact⟨_,.nil⟩
 |d::ds,vs,us,h,r=>by
  obtain⟨v,q,e,h1,h2⟩:=(show ∃v r,vs=v::r/\Is H d v/\IsL H ds r by simpa only[IsL] using h)
  rw[e] at r;cases r with
  |cons r1 r2=>
   obtain⟨as,q1⟩:=Is.reads I d v _ h1 r1;obtain⟨bs,q2⟩:=IsL.reads I ds q _ h2 r2;exact⟨_,.cons q1 q2⟩
end
def SI:V->Bool
 |.nR _=>false
 |.gy _=>false
 |_=>true
def SJ:R2:=fun x y H Q=>∃a b xs,x=.ref a/\y=.ref b/\H a=some (.lst xs)/\H b=some (.lst xs)/\xs.all SI=true/\Q (.bl true) H
def pS(neg:Bool):R2:=fun x y H Q=>match pH x y with
 |true=>Q (.bl<|neg ^^ decide (x=y)) H
 |false=>∃d e,Is H d x/\Is H e y/\SeqAt.shaped d=true/\SeqAt.shaped e=true/\Q (.bl<|neg ^^ PyData.eqv d e) H
def SK:R2:=fun x y H Q=>pS false x y H Q\/SJ x y H Q
theorem SM(hu:X.A.units+64<cLine):bw X (compareOp .Eq) (pS false):=by
 intro wv s σ H x y v u Q I rx ry h;unfold pS at h;by_cases hs:pH x y=true
 ·rw[hs] at h
  simp only[zaM] at h
  exact P4 wv s σ H x y v u Q I rx ry ⟨hs,h⟩
 ·rw[show pH x y=false by simpa using hs] at h
  obtain⟨d,e,h1,h2,h3,h4,q⟩:=h;rw[zaM] at q;obtain⟨as,r1⟩:=Is.reads I d x v h1 rx;obtain⟨bs,r2⟩:=Is.reads I e y u h2 ry;exact eq_dataH r1 r2 h3 h4 hu ⟨.bl _,H,I,rfl,q⟩
theorem SN(hu:X.A.units+64<cLine):bw X (compareOp .NotEq) (pS true):=by
 intro wv s σ H x y v u Q I rx ry h;unfold pS at h;by_cases hs:pH x y=true
 ·rw[hs] at h
  simp only[zaS] at h
  exact P5 wv s σ H x y v u Q I rx ry ⟨hs,h⟩
 ·rw[show pH x y=false by simpa using hs] at h
  obtain⟨d,e,h1,h2,h3,h4,q⟩:=h;rw[zaS] at q;obtain⟨as,r1⟩:=Is.reads I d x v h1 rx;obtain⟨bs,r2⟩:=Is.reads I e y u h2 ry;exact ne_dataH r1 r2 h3 h4 hu ⟨.bl _,H,I,rfl,q⟩
def afY(K:Frag)(H:Hp)(a:Addr):Prop:=(∃xs,av K H a xs)\/(∃xs,aM K H a xs)\/∃kvs,H a=some (.dK kvs)
def wZ(K:Frag)(neg:Bool):R2:=fun x y H Q=>match y with
 |.str j=>∃i,x=.str i/\Q (.bl (if neg then !(!(Builtin.Str.occurrences j i 0 j.length 1).isEmpty) else !(Builtin.Str.occurrences j i 0 j.length 1).isEmpty)) H
 |.ref p=>match x with
  |.ref _=>False
  |x=>Ao K neg x (.ref p) H Q
 |_=>False
theorem SO(hu:X.A.units+64<cLine):bw X (compareOp .In) (wZ X.K false):=by
 intro wv s σ H x y v u Q I rx ry h;cases y with
 |str j=>
  obtain⟨i,e,q⟩:=h;exact P_ wv s σ H x _ v u Q I rx ry ⟨i,j,e,rfl,q⟩
 |ref p=>
  cases x with
  |ref a=>exact False.elim h
  |_=>exact Q5 wv s σ H _ _ v u Q I rx ry h
 |_=>exact False.elim h
theorem SQ(hu:X.A.units+64<cLine):bw X (compareOp .NotIn) (wZ X.K true):=by
 intro wv s σ H x y v u Q I rx ry h;cases y with
 |str j=>
  obtain⟨i,e,q⟩:=h;exact Qd wv s σ H x _ v u Q I rx ry ⟨i,j,e,rfl,q⟩
 |ref p=>
  cases x with
  |ref a=>exact False.elim h
  |_=>exact Q6 wv s σ H _ _ v u Q I rx ry h
 |_=>exact False.elim h
theorem SR{M:Model}{A:Around}{E:Value->Shared->Prop}{s:Shared}{Q:Value->Shared->Prop}{v:Value}{d:Bool}(hv:∀id,v≠ .builtin id)(h:Q (.bool<|v==.bool d) s):wpAny M A (compareOp .Is v<|.bool d) Q E s:=by
 cases v<;>first|exact wpAny_pure h|exact absurd rfl (hv _)
theorem SS{M:Model}{A:Around}{E:Value->Shared->Prop}{s:Shared}{Q:Value->Shared->Prop}{v:Value}{d:Bool}(hv:∀id,v≠ .builtin id)(h:Q (.bool<|!(v==.bool d)) s):wpAny M A (compareOp .IsNot v<|.bool d) Q E s:=by
 cases v<;>first|exact wpAny_pure h|exact absurd rfl (hv _)
def GJ:R2:=fun x y H Q=>match y with
 |.bl b=>Q (.bl<|decide<|x=.bl b) H
 |_=>y=.az/\Q (.bl<|decide<|x=.az) H
def GK:R2:=fun x y H Q=>match y with
 |.bl b=>Q (.bl<|!decide (x=.bl b)) H
 |_=>y=.az/\Q (.bl<|!decide (x=.az)) H
theorem SU:bw X (compareOp .Is) GJ:=by
 intro wv s σ H x y v u Q I rx ry h;cases y with
 |bl b=>
  cases ry;have nb:∀id,v≠ .builtin id:=fun id z=>by
   subst z;cases x<;>first
    | (obtain⟨t,e⟩:=rx;cases e;done)
    | (cases rx;done)
  refine SR nb<|ck I (show Q (.bl<|decide<|x=.bl b) H from h) ?_
  cases x<;>first
   | (cases rx;rfl)
   | (obtain⟨t,rfl⟩:=rx;rfl)
   | (cases rx;rename_i a;cases a<;>cases b<;>rfl)
 |_=>exact Qa wv s σ H x _ v u Q I rx ry h
theorem SV:bw X (compareOp .IsNot) GK:=by
 intro wv s σ H x y v u Q I rx ry h;cases y with
 |bl b=>
  cases ry;have nb:∀id,v≠ .builtin id:=fun id z=>by
   subst z;cases x<;>first
    | (obtain⟨t,e⟩:=rx;cases e;done)
    | (cases rx;done)
  refine SS nb<|ck I (show Q (.bl<|!decide (x=.bl b)) H from h) ?_
  cases x<;>first
   | (cases rx;rfl)
   | (obtain⟨t,rfl⟩:=rx;rfl)
   | (cases rx;rename_i a;cases a<;>cases b<;>rfl)
 |_=>exact Qc wv s σ H x _ v u Q I rx ry h
def dG(K:Frag):CmpOp->R2
 |.Eq=>pS false
 |.NotEq=>pS true
 |.Lt=>k_ (fun _ _=>True) fun i j=>.bl (decide<|i<j)
 |.LtE=>k_ (fun _ _=>True) fun i j=>.bl (decide<|i<=j)
 |.Gt=>k_ (fun _ _=>True) fun i j=>.bl (decide<|j<i)
 |.GtE=>k_ (fun _ _=>True) fun i j=>.bl (decide<|j<=i)
 |.In=>wZ K false
 |.NotIn=>wZ K true
 |.Is=>GJ
 |.IsNot=>GK
theorem w9(hu:X.A.units+64<cLine)(op:CmpOp):bw X (compareOp op) (dG X.K op):=by
 cases op with
 |Eq=>exact SM hu
 |NotEq=>exact SN hu
 |Lt=>exact bw.imp P6 uv
 |LtE=>exact bw.imp P7 uv
 |Gt=>exact bw.imp P8 uv
 |GtE=>exact bw.imp P9 uv
 |In=>exact SO hu
 |NotIn=>exact SQ hu
 |Is=>exact SU
 |IsNot=>exact SV
inductive Ty where|int|str|bool|list|tuple|dict
 deriving DecidableEq
def Ty.nm:Ty->String
 |.int=> "int" |.str=> "str" |.bool=> "bool" |.list=> "list" |.tuple=> "tuple" |.dict=> "dict"
def bX(T:Ty)(x:V)(H:Hp)(Q:Bool->Prop):Prop:=match x with
 |.az=>Q false
 |.bl _=>Q (T==.bool ||T==.int)
 |.int _=>Q (T==.int)
 |.str _=>Q (T==.str)
 |.ref a=>match H a with
  |some (.lst _)=>Q (T==.list)
  |some (.bK _<|.lst _)=>Q (T==.list)
  |some (.tup _)=>Q (T==.tuple)
  |some (.dK _)=>Q (T==.dict)
  |some (.dT _)=>Q (T==.dict)
  |_=>False
 |_=>False
theorem oi(K:Frag)(S T:Ty):kitOne K (.type S.nm) (.type T.nm)=some (S==T ||(S==.bool && T==.int)):=by
 cases S<;>cases T<;>rfl
theorem SW(K:Frag)(T:Ty):kitOne K (.type "NoneType") (.type T.nm)=some false:=by
 cases T<;>rfl
theorem SX(hc:X.calm=true):dD X (.builtin "sum") (fun xs H Q=>∃(p:Addr) (ns:List Int),xs=[.ref p]/\av X.K H p (ns.map V.int)/\Q (.int ns.sum) H):=by
 intro wv s σ H xs us Q I r h;obtain⟨p,ns,rfl,hq,q⟩:=h;obtain⟨u,rfl,ru⟩:=vals1 r;cases ru;obtain⟨ao,rv,pl,hz⟩:=I.list hq;have hi:=intsAre_of rv;obtain⟨xs,hx⟩:=hi.allInts.items;have SY:s.heap.IsList p (intItems xs):=hx ▸ pl.isList;refine sum_intListG (I.ok.hd hc) SY fun h' tk t' hk=>?_;have e1:ns=xs.toList.map (·.1):=by
  rw[<-nums_intItems,<-hx];exact(show numsOf ao.toArray.toList=ns from hi.numsOf).symm
 have e2:preSum (numAt xs) xs.size=ns.sum:=by
  rw[preSum_eq,zaG (by simp),e1]
 rw[e2];exact⟨.int ns.sum,H,I.kept (t':=tk) hk,⟨t',rfl⟩,q⟩
theorem GN:∀{ts:List Str}{us:List Value},Vals (ts.map V.str) us->∃l:List (Str×Tok),us=strValues l/\l.map (·.1)=ts
 |[],_,.nil=>⟨[],rfl,rfl⟩
 |x::ts,_,.cons ⟨t,e⟩ r=>by
  obtain⟨l,e1,e2⟩:=GN r;subst e e1;exact⟨(x,t)::l,rfl,by simp[e2]⟩
def rJoin(K:Frag):V->List V->Hp->VK->Prop:=fun x vs H Q=>∃(sep:Str) (p:Addr) (ts:List Str),x=.str sep/\vs=[.ref p]/\av K H p (ts.map V.str)/\JoinOk sep ts=true/\Q (.str<|Txt.join sep ts) H
theorem S0:rG X "str.join" (rJoin X.K):=by
 intro wv s σ H x vs v us Q I rx rv h;obtain⟨sep,p,ts,rfl,rfl,hq,hj,q⟩:=h;obtain⟨t,rfl⟩:=rx;obtain⟨u,rfl,ru⟩:=vals1 rv;cases ru;obtain⟨ao,rv,pl,hz⟩:=I.list hq;obtain⟨l,rfl,e2⟩:=GN rv;exact SC.join pl.isList e2 hj fun t' k=>⟨.str _,H,I.tok k,⟨t',rfl⟩,q⟩
def S9:V->List V->Hp->VK->Prop:=fun x vs H Q=>∃z y,x=.str z/\vs=[.str y]/\z.length<=sizeLine/\Q (.str<|Txt.lstripChars z y) H
theorem S_:rG X "str.lstrip" S9:=by
 intro wv s σ H x vs v us Q I rx rv h;obtain⟨z,y,rfl,rfl,hz,q⟩:=h;obtain⟨t,rfl⟩:=rx;obtain⟨u,rfl,⟨t2,rfl⟩⟩:=vals1 rv;refine call_gives F.slot_str_lstrip (typeIs_str _ _ _) F.entry_str_lstrip (F.args_str_lstrip_2 _ _) (gives_str_lstrip_chars z y t t2)<|post_val_or_made (fun _=>fits_stripped _ _ _ hz) fun t' k=>?_;exact⟨.str _,H,I.tok k,⟨t',rfl⟩,q⟩
def mF{α:Type}(xs:List α)(lo hi:Option Int):List α:=(xs.drop<|HT.di xs.length 0 lo).take (HT.di xs.length xs.length hi - HT.di xs.length 0 lo)
def lh(z:Str)(lo hi:Option Int):Str:=⟨(mF z.cps.toList lo hi).toArray⟩
theorem Ta(z:Str)(lo hi:Option Int):((Builtin.Str.strSliceIndices lo hi 1 z.length).filterMap (z.cps[·]?))=mF z.cps.toList lo hi:=by
 obtain⟨h1,h2,h3⟩:=Am lo hi z.length;have e0:Builtin.Str.strSliceIndices lo hi 1 z.length=sliceRange (sliceBounds lo hi none z.length).1 (sliceBounds lo hi none z.length).2.1 (sliceBounds lo hi none z.length).2.2:=rfl;have hz:z.cps.toList.length=z.length:=by simp[Str.length]
 rw[e0,h1,h2,h3,sliceRange_one,pick_run];unfold mF;rw[hz]
end
section
variable {X:Cx}
def w_(K:Frag)(neg:Bool):R2:=fun x y H Q=>∃p xs d es,y=.ref p/\av K H p xs/\Is H d x/\IsL H es xs/\SeqAt.shaped d=true/\d.depth<=60/\(∀e∈es,SeqAt.shaped e=true)/\Q (.bl<|neg ^^ es.any fun e=>PyData.eqv e d) H
open Classical in
end
def mG:HO:=.ext fun _=>True
structure xa (ob:Obj) (cls:Value) (vs:Array Value):Prop where
 cls:ob.cls=cls
 data:ob.data=.fields vs
 Tb:vs[2]?=some .none
 dict:ob.dict=none
def ExcAt(H:Hp)(ea D:Addr):Prop:= ∃ob vs,H ea=some (.bK ob mG)/\xa ob (.ref D) vs
structure uw (K:Frag) (D:Addr):Prop where
 ux:PySem.W.findIn K (.ref D) "__getattribute__"=some (some<|.builtin "BaseException.__getattribute__")
 uz:PySem.W.findIn K (.ref D) "__getattr__"=some none
 hk:(PySem.W.clsIn K D).isSome=true
 ha:PySem.W.findIn K (.ref D) "__class__"=some (some<|.builtin "object.__class__")
 hn:PySem.W.specialIn K (.builtin "object.__class__") "__get__"=some (some<|.builtin "getset_descriptor.__get__")
 nV:PySem.W.takesIn K (.builtin "object.__class__")=some true
 hm:PySem.W.mroIn K D (.type "object")=some true
 hb:PySem.W.mroIn K D (.type "BaseException")=some true
def cV:V->Value
 |.ref a=>.ref a
 |.ty n=>.type n
 |_=>.none
def rR(K:Frag):List V->Hp->VK->Prop
 |[.ref ea,c],H,Q=>∃D b,ExcAt H ea D/\uw K D/\((∃C,c=.ref C)\/∃n,c=.ty n)/\kitOne K (.ref D) (cV c)=some b/\Q (.bl b) H
 |_,_,_=>False
def GO(sp:Sp)(hv:Option Addr)(t:TA):TE:=fun σ H Q=>t σ H fun vs H1=>(∃ea D,hv=some ea/\ExcAt H1 ea D)/\sp vs H1 Q E0
def AU(C:Addr)(E:XK)(t:TA):TS:=fun _ σ H=>t σ H fun vs H1=>vs.length<=sizeLine/\E (.ref C) none H1
def xb(K:Frag)(C:Addr)(i n:Nat)(th:Addr->TS)(D:Ends):XK:=fun cls _ H'=>exmOne K cls (.ref C)=some true/\
 ∀(ea:Addr) (ob:Obj) (vs:Array Value) (σ':St),H' ea=none->σ'.length=n->xa ob cls vs->th ea {nx:=fun _ _=>False,rt:=D.rt} (σ'.set i<|some<|.ref ea) (upd H' ea<|.bK ob mG)
def oj(K:Frag)(C:Addr)(i n:Nat)(tb:XK->TS)(th:Addr->TS):TS:=fun D σ H=>tb (xb K C i n th D) {nx:=D.nx,rt:=D.rt} σ H
def Tc(K:Frag)(C:Addr)(i:Nat)(th:Addr->TS)(D:Ends)(σ:St):XK:=fun cls _ H'=>exmOne K cls (.ref C)=some true/\
 ∀ea ob vs,H' ea=none->xa ob cls vs->th ea {nx:=fun _ _=>False,rt:=D.rt} (σ.set i<|some<|.ref ea) (upd H' ea<|.bK ob mG)
def Td(K:Frag)(C:Addr)(i k:Nat)(sp:Sp)(ta:TA)(th:Addr->TS):TS:=fun D σ H=>ta σ H fun vs H1=>sp vs H1 (fun v H2=>D.nx (σ.set k<|some v) H2) (Tc K C i th D σ)
inductive mH where|len|min|max|sum|int|list|tuple|abs
 deriving DecidableEq
inductive iO where|append|pop|extend|join|lstrip|starts|reverse|clear|index|find|count|GP|rS
 deriving DecidableEq
inductive IK where|list|tup|gz|uA|zip|Te|txt|Tf|Tg
 deriving DecidableEq
inductive RE where
 |v (i:Nat)|c (x:V)|g (j:Nat)
 |bin (op:Operator) (a b:RE)|neg (a:RE)
 |cmp (op:CmpOp) (a b:RE)|uB (op gB:CmpOp) (a b d:RE)|GQ (op gB GR:CmpOp) (a b d f:RE)
 |and (as:List RE)|or (as:List RE)|not (a:RE)|pT (t a b:RE)
 |call (j:Nat) (as:List RE)|blt (b:mH) (as:List RE)|g7 (T:Ty) (a:RE)
 |bh (m:iO) (o:RE) (as:List RE)
 |ix (a b:RE)|sl (a:RE) (lo hi:Option RE)
 |tup (as:List RE)|lst (as:List RE)
 |comp (tk:Option Nat) (fv:List (Str×Nat)) (k:IK) (ao:List RE) (cond:Option RE) (elt:RE)
 |iP (a c:RE)|uC (j:Nat) (a:RE)|Th|same (a b:RE)
 |Ti|ba (a b:RE)|GS (a b:RE)|GU (a b:RE)|Tj (o a b:RE)|inD (a b:RE)|GV (a b:RE)
 |xt (T:Frag->TA->TE) (as:List RE)|xm (T:Frag->TE->TA->TE) (o:RE) (as:List RE)
 |fld (o:RE) (f:Str)|bz (j:Nat) (m:Str) (o:RE) (as:List RE)|make (j:Nat) (as:List RE)
inductive RS where
 |asg (i:Nat) (e:RE)|rT (i:Nat) (e:RE)|set (o ix e:RE)
 |drop (e:RE)|ret (e:RE)|Tn
 |ite (c:RE) (t e:List RS)
 |j0 (i:Nat) (k:IK) (ao:List RE) (body:List RS)
 |j5 (is:List Nat) (k:IK) (ao:List RE) (body:List RS)
 |mI (c:RE) (body:List RS)
 |pass|brk|cont|never
 |To (o lo hi e:RE)|gF (o:RE) (f:Str) (e:RE)
 |Tp (is:List Nat) (e:RE)|dput (o i e:RE)|jz (j:Nat) (as:List RE)|uD (n i j:Nat) (body su:List RS)|Tq (k i j f:Nat) (as:List RE) (su:List RS)
structure bx where
 K:Frag
 fs:Nat->Sp
 gv:Nat->V
 E:XK
 sd:Addr->List (Key×V)->Prop
 ms:Nat->Addr×Sp
 kt:Nat->Addr×Sp
 ex:Nat->Addr
 hs:Nat->Sp
 hv:Option Addr
abbrev bx.calm(Γ:bx):bx:={Γ with E:=E0}
def j6(K:Frag)(x:V)(H:Hp)(Q:Bool->Prop):Prop:=match x with
 |.az=>Q false
 |.bl b=>Q b
 |.int i=>Q (i !=0)
 |.str y=>y.length<=sizeLine/\Q ((y.length:Int) !=0)
 |.ref p=>(∃xs,av K H p xs/\Q (!xs.isEmpty))\/(∃xs,aM K H p xs/\Q (!xs.isEmpty))\/∃kvs,H p=some (.dK kvs)/\Q (!kvs.isEmpty)
 |_=>False
theorem GW{K:Frag}{x:V}{H:Hp}{Q:Bool->Prop}(h:j6 K x H Q):∃k,Fn K x H k/\Q k:=by
 cases x with
 |az=>exact⟨_,rfl,h⟩
 |bl b=>exact⟨_,rfl,h⟩
 |int i=>exact⟨_,rfl,h⟩
 |str y=>exact⟨_,⟨h.1,rfl⟩,h.2⟩
 |ref p=>
  rcases h with⟨xs,h1,h2⟩|⟨xs,h1,h2⟩|⟨xs,h1,h2⟩
  ·exact⟨_,.inl ⟨xs,h1,rfl⟩,h2⟩
  ·exact⟨_,.inr<|.inl ⟨xs,h1,rfl⟩,h2⟩
  ·exact⟨_,.inr<|.inr ⟨xs,h1,rfl⟩,h2⟩
 |_=>exact False.elim h
def gG(K:Frag)(t:TE):TT:=fun σ H Q=>t σ H fun x H1=>j6 K x H1 fun b=>Q b H1
def AV(K:Frag)(t:TE):TE:=fun σ H Q=>t σ H fun x H1=>j6 K x H1 fun b=>Q (.bl<|!b) H1
def GX:V->Hp->VK->Prop:=fun x H Q=>match x with|.int i=>Q (.int<|-i) H|_=>False
def uk(K:Frag)(x:V)(H:Hp)(Q:Nat->Prop):Prop:=match x with
 |.str y=>y.length<=sizeLine/\Q y.length
 |.ref p=>(∃xs,av K H p xs/\Q xs.length)\/∃xs,aM K H p xs/\Q xs.length
 |_=>False
def signs(x:Str):List V:=x.cps.toList.map fun c=>V.str ⟨#[c]⟩
def Tr:TE:=fun _ H Q=>∀p,H p=none->Q (.ref p) (upd H p<|.dK [])
def mJ(K:Frag):mH->List V->Hp->VK->Prop
 |.len,[x],H,Q=>uk K x H fun n=>Q (.int n) H
 |.min,[.int i,.int j],H,Q=>Q (.int (if j<i then j else i)) H
 |.min,[.ref p],H,Q=>∃ns:List Int,av K H p (ns.map V.int)/\ns≠ []/\∀m:Int,m∈ns->(∀n∈ns,m<=n)->Q (.int m) H
 |.sum,[.ref p],H,Q=>∃ns:List Int,av K H p (ns.map V.int)/\Q (.int ns.sum) H
 |.int,[.int i],H,Q=>Q (.int i) H
 |.int,[.bl k],H,Q=>Q (.int (if k then 1 else 0)) H
 |.list,[.ref p],H,Q=>∃ys,(av K H p ys\/aM K H p ys)/\∀l,H l=none->Q (.ref l) (upd H l<|.lst ys)
 |.list,[.str x],H,Q=>x.length<=sizeLine/\∀l,H l=none->Q (.ref l) (upd H l<|.lst<|signs x)
 |_,_,_,_=>False
def om(T:Ty):List V->Hp->VK->Prop
 |[x,.ty n],H,Q=>n=T.nm/\bX T x H fun b=>Q (.bl b) H
 |_,_,_=>False
def xf(K:Frag):iO->V->List V->Hp->VK->Prop
 |.append,.ref l,[y],H,Q=>∃xs,H l=some (.lst xs)/\xs.length<sizeLine/\Q .az (upd H l<|.lst<|xs++[y])
 |.pop,.ref l,[],H,Q=>∃xs y,H l=some (.lst xs)/\xs[xs.length - 1]?=some y/\Q y (upd H l<|.lst xs.dropLast)
 |.extend,.ref l,[.ref b],H,Q=>∃xs zs,H l=some (.lst xs)/\H b=some (.lst zs)/\xs.length+zs.length<=sizeLine/\Q .az (upd H l<|.lst<|xs++zs)
 |.join,.str sep,[.ref p],H,Q=>∃ts:List Str,av K H p (ts.map V.str)/\JoinOk sep ts=true/\Q (.str<|Txt.join sep ts) H
 |.lstrip,.str z,[.str y],H,Q=>z.length<=sizeLine/\Q (.str<|Txt.lstripChars z y) H
 |.clear,.ref l,[],H,Q=>∃xs,H l=some (.lst xs)/\Q .az (upd H l<|.lst [])
 |.rS,.ref l,[y],H,Q=>∃xs,av K H l xs/\gZ y=true/\xs.all gZ=true/\dm y xs=true/\Q (.int (xs.findIdx (fun z=>e9 z y):Nat)) H
 |_,_,_,_,_=>False
def uE:iO->String
 |.join|.lstrip|.starts|.find|.count=> "str"
 |_=> "list"
def rV(K:Frag)(m:iO)(to:TE)(t:TA):TE:=fun σ H Q=>to σ H fun x H1=>rJ K (uE m) x H1/\t σ H1 fun xs H2=>xf K m x xs H2 Q
def rW(K:Frag):V->Option Int->Option Int->Hp->VK->Prop:=fun x lo hi H Q=>match x with
 |.str z=>z.length<=sizeLine/\Q (.str<|lh z lo hi) H
 |.ref a=>(∃xs,av K H a xs/\∀p,H p=none->Q (.ref p) (upd H p<|.lst<|eN xs lo hi))\/
  False
 |_=>False
def mK(kvs:List (Key×V))(k:Key):Option V:=(kvs.find? fun kv=>decide (kv.1=k)).map (·.2)
def GY(sd:Addr->List (Key×V)->Prop):R2:=fun x y H Q=>∃p kvs k v,x=.ref p/\y=kV k/\sd p kvs/\mK kvs k=some v/\Q v H
def lA(K:Frag)(sd:Addr->List (Key×V)->Prop):R2:=fun x y H Q=>FO K x y H Q\/FP K x y H Q\/FQ x y H Q\/GY sd x y H Q
def Ts(r r' r2:R2)(ta tb tc td:TE):TT:=fun σ H Q=>ta σ H fun x H1=>tb σ H1 fun y H2=>r x y H2 fun z H3=>∃k,z=.bl k/\
 (if k=true then tc σ H3 fun w H4=>r' y w H4 fun z2 H5=>∃k2,z2=.bl k2/\(if k2=true then td σ H5 fun u H6=>r2 w u H6 fun z3 H7=>∃k3,z3=.bl k3/\Q k3 H7 else Q false H5) else Q false H3)
def j7(K:Frag)(a b:Addr):It:=
  ⟨fun i H=>∃xs ys,av K H a xs/\av K H b ys/\i<xs.length/\i<ys.length,
   fun i H x H'=>∃T,H T=none/\x=.ref T/\∀xs ys u v,av K H a xs->av K H b ys->xs[i]?=some u->ys[i]?=some v->H'=upd H T (.tup [u,v]),
   fun i H=>∃xs ys,av K H a xs/\av K H b ys/\i=min xs.length ys.length⟩
def Tt(K:Frag)(a:Addr):It:=
  ⟨fun i H=>∃xs,av K H a xs/\i<xs.length,
   fun i H x H'=>∃T,H T=none/\x=.ref T/\∀xs u,av K H a xs->xs[i]?=some u->H'=upd H T (.tup [.int (i:Nat),u]),
   fun i H=>∃xs,av K H a xs/\i=xs.length⟩
def Tu(K:Frag)(ta:TA):TI:=fun σ H R=>ta σ H fun vs H1=>∃a,vs=[.ref a]/\(∃xs,av K H1 a xs)/\R (Tt K a) H1
def AW(K:Frag)(ta:TA):TI:=fun σ H R=>ta σ H fun vs H1=>∃a b,vs=[.ref a,.ref b]/\(∃xs,av K H1 a xs)/\(∃ys,av K H1 b ys)/\R (j7 K a b) H1
def Tv(K:Frag)(a b:Addr):It:=
  ⟨fun i H=>∃xs ys,aM K H a xs/\aM K H b ys/\i<xs.length/\i<ys.length,
   fun i H x H'=>∃T,H T=none/\x=.ref T/\∀xs ys u v,aM K H a xs->aM K H b ys->xs[i]?=some u->ys[i]?=some v->H'=upd H T (.tup [u,v]),
   fun i H=>∃xs ys,aM K H a xs/\aM K H b ys/\i=min xs.length ys.length⟩
def Tw(K:Frag)(ta:TA):TI:=fun σ H R=>ta σ H fun vs H1=>∃a b,vs=[.ref a,.ref b]/\(∃xs,aM K H1 a xs)/\(∃ys,aM K H1 b ys)/\R (Tv K a b) H1
def Tx(z:Str):It:=⟨fun i _=>i<z.length,fun i H x H'=>H'=H/\∃c,z.cps[i]?=some c/\x=.str ⟨#[c]⟩,fun i _=>i=z.length⟩
def Tz(ta:TE):TI:=fun σ H R=>ta σ H fun x H1=>∃z,x=.str z/\R (Tx z) H1
def TB(lo c:Int)(n:Nat):It:=⟨fun i _=>i<n,fun i H x H'=>H'=H/\x=.int (lo+i*c),fun i _=>n<=i⟩
def TC(ta:TA):TI:=fun σ H R=>ta σ H fun vs H1=>∃(i j c:Int) (n:Nat),vs=[.int i,.int j,.int c]/\c≠0/\Builtin.Range.small i j c=true/\Builtin.divisionGoesByPylong (j - i) c=false/\Builtin.Range.rangeSize i j c=n/\R (TB i c n) H1
mutual
def ah(Γ:bx):RE->TE
 |.v i=>zT i
 |.c x=>tC x
 |.g j=>tC (Γ.gv j)
 |.bin op a b=>fO (rQ Γ.K op) (ah Γ a) (ah Γ b)
 |.neg a=>Ff GX (ah Γ a)
 |.cmp op a b=>fO (dG Γ.K op) (ah Γ a) (ah Γ b)
 |.uB op gB a b d=>wz (dG Γ.K op) (dG Γ.K gB) (ah Γ a) (ah Γ b) (ah Γ d)
 |.GQ _ _ _ _ _ _ _=>fun _ _ _=>False
 |.and as=>GZ Γ as
 |.or as=>G0 Γ as
 |.not a=>AV Γ.K (ah Γ a)
 |.pT t a b=>ET (bA Γ t) (ah Γ a) (ah Γ b)
 |.call j as=>Ab (Γ.fs j) [] Γ.E (aY Γ as)
 |.blt b as=>fZ (mJ Γ.K b) (aY Γ as)
 |.g7 T a=>fZ (om T) (dF (ah Γ a)<|dF (tC<|.ty T.nm) iq)
 |.bh m o as=>rV Γ.K m (ah Γ o) (aY Γ as)
 |.ix a b=>fO (lA Γ.K Γ.sd) (ah Γ a) (ah Γ b)
 |.sl a lo hi=>Ai (rW Γ.K) (ah Γ a) (ou Γ lo) (ou Γ hi)
 |.tup as=>Fx (aY Γ as)
 |.lst as=>Fy (aY Γ as)
 |.comp tk fv k ao cond elt=>og Γ.K (iQ Γ k ao) tk fv (xg Γ.calm cond) (ah Γ.calm elt)
 |.iP a c=>fZ (rR Γ.K) (dF (ah Γ a)<|dF (ah Γ c) iq)
 |.Th=>Tr
 |.same a b=>fO SK (ah Γ a) (ah Γ b)
 |.inD a b=>fO (w_ Γ.K false) (ah Γ a) (ah Γ b)
 |.GV a b=>fO (w_ Γ.K true) (ah Γ a) (ah Γ b)
 |.Ti=>RU
 |.ba a b=>Ga (ah Γ a) (ah Γ b)
 |.GS a b=>Gb (ah Γ a) (ah Γ b)
 |.GU a b=>Gd (ah Γ a) (ah Γ b)
 |.Tj o a b=>RW (ah Γ o) (ah Γ a) (ah Γ b)
 |.xt T as=>T Γ.K (aY Γ as)
 |.xm T o as=>T Γ.K (ah Γ o) (aY Γ as)
 |.uC j a=>GO (Γ.hs j) Γ.hv (dF (ah Γ a) iq)
 |.fld o f=>wB Γ.K (ah Γ o) f
 |.bz j m o as=>pL (Γ.ms j).1 m (Γ.ms j).2 [] Γ.E (ah Γ o) (aY Γ as)
 |.make j as=>Ac (Γ.kt j).1 (Γ.kt j).2 [] Γ.E (aY Γ as)
def bA(Γ:bx):RE->TT
 |.not a=>ER (bA Γ a)
 |.inD a b=>rF (fO (w_ Γ.K false) (ah Γ a)<|ah Γ b)
 |.GV a b=>rF (fO (w_ Γ.K true) (ah Γ a)<|ah Γ b)
 |.GS a b=>tB (Gb (ah Γ a)<|ah Γ b)
 |.GU a b=>tB (Gd (ah Γ a)<|ah Γ b)
 |.and as=>G1 Γ as
 |.or as=>G3 Γ as
 |.cmp op a b=>rF (fO (dG Γ.K op) (ah Γ a)<|ah Γ b)
 |.uB op gB a b d=>rF (wz (dG Γ.K op) (dG Γ.K gB) (ah Γ a) (ah Γ b)<|ah Γ d)
 |.GQ op gB GR a b d f=>Ts (dG Γ.K op) (dG Γ.K gB) (dG Γ.K GR) (ah Γ a) (ah Γ b) (ah Γ d) (ah Γ f)
 |.v i=>gG Γ.K (zT i)
 |.call j as=>gG Γ.K (Ab (Γ.fs j) [] Γ.E<|aY Γ as)
 |.g7 T a=>gG Γ.K (fZ (om T)<|dF (ah Γ a)<|dF (tC<|.ty T.nm) iq)
 |.iP a c=>gG Γ.K (fZ (rR Γ.K)<|dF (ah Γ a)<|dF (ah Γ c) iq)
 |.bh m o as=>gG Γ.K (rV Γ.K m (ah Γ o)<|aY Γ as)
 |.ix a b=>gG Γ.K (fO (lA Γ.K Γ.sd) (ah Γ a)<|ah Γ b)
 |.bin op a b=>gG Γ.K (fO (rQ Γ.K op) (ah Γ a)<|ah Γ b)
 |.fld o f=>gG Γ.K (wB Γ.K (ah Γ o) f)
 |.xt T as=>gG Γ.K (T Γ.K<|aY Γ as)
 |.xm T o as=>gG Γ.K (T Γ.K (ah Γ o)<|aY Γ as)
 |.bz j m o as=>gG Γ.K (pL (Γ.ms j).1 m (Γ.ms j).2 [] Γ.E (ah Γ o)<|aY Γ as)
 |_=>fun _ _ _=>False
def aY(Γ:bx):List RE->TA
 |[]=>iq
 |a::r=>dF (ah Γ a) (aY Γ r)
def GZ(Γ:bx):List RE->TE
 |[]=>fun _ _ _=>False
 |[a]=>ah Γ a
 |a::r=>ES (ah Γ a) (GZ Γ r)
def G0(Γ:bx):List RE->TE
 |[]=>fun _ _ _=>False
 |[a]=>ah Γ a
 |a::r=>Pe (ah Γ a) (G0 Γ r)
def G1(Γ:bx):List RE->TT
 |[]=>fun _ _ _=>False
 |[a]=>bA Γ a
 |a::r=>EN (bA Γ a) (G1 Γ r)
def G3(Γ:bx):List RE->TT
 |[]=>fun _ _ _=>False
 |[a]=>bA Γ a
 |a::r=>EO (bA Γ a) (G3 Γ r)
def ou(Γ:bx):Option RE->TO
 |none=>uh
 |some a=>pM (ah Γ a)
def xg(Γ:bx):Option RE->Option TT
 |none=>none
 |some a=>some (bA Γ a)
def iQ(Γ:bx)(k:IK):List RE->TI
 |[]=>fun _ _ _=>False
 |a::r=>match k with
  |.list=>ua Γ.K (ah Γ a)
  |.tup=>PC Γ.K (ah Γ a)
  |.gz=>E9 (dF (ah Γ a)<|aY Γ r)
  |.uA=>E_ (dF (ah Γ a)<|aY Γ r)
  |.zip=>AW Γ.K (dF (ah Γ a)<|aY Γ r)
  |.Te=>Tu Γ.K (dF (ah Γ a)<|aY Γ r)
  |.txt=>Tz (ah Γ a)
  |.Tf=>Tw Γ.K (dF (ah Γ a)<|aY Γ r)
  |.Tg=>TC (dF (ah Γ a)<|aY Γ r)
end
structure cJ where
 N:List Str
 sc:Scope
 fn:List Str
 gn:List Str
 bl:List Str
 mn:List Str
 kn:List Str
 en:List Str
 hn:List Str
 md:Nat
def AX(sc:Scope)(x:Str):Bool:=match sc.names.lookup x with
 |some .local=>true|some .cell=>true|some .free=>true|_=>false
def loc(sc:Scope)(x:Str):Bool:=match sc.names.lookup x with
 |some .local=>true|some .cell=>true|_=>false
def mL(sc:Scope)(x:Str):Bool:=match sc.names.lookup x with
 |some .globalImplicit=>true|_=>false
theorem TF{sc:Scope}{x:Str}(h:AX sc x=true):vX sc x:=by
 unfold AX at h;unfold vX;cases e:sc.names.lookup x with
 |none=>rw[e] at h;cases h
 |some k=>rw[e] at h;cases k<;>first|exact .inl rfl|exact .inr (.inl rfl)|exact .inr (.inr rfl)|cases h
theorem AY{sc:Scope}{x:Str}(h:loc sc x=true):Loc sc x:=by
 unfold loc at h;unfold Loc;cases e:sc.names.lookup x with
 |none=>rw[e] at h;cases h
 |some k=>rw[e] at h;cases k<;>first|exact .inl rfl|exact .inr rfl|cases h
theorem TH{sc:Scope}{x:Str}(h:mL sc x=true):sc.names.lookup x=some .globalImplicit:=by
 unfold mL at h;cases e:sc.names.lookup x with
 |none=>rw[e] at h;cases h
 |some k=>rw[e] at h;cases k<;>first|rfl|cases h
structure uF where
 elt:Expr
 tg:Expr
 iter:Expr
 ifs:List Expr
 sc:Scope
def mH.nm:mH->Str
 |.len=> "len" |.min=> "min" |.max=> "max" |.sum=> "sum" |.int=> "int" |.list=> "list" |.tuple=> "tuple" |.abs=> "abs"
def iO.nm:iO->Str
 |.append=> "append" |.pop=> "pop" |.extend=> "extend" |.join=> "join" |.lstrip=> "lstrip" |.starts=> "startswith" |.reverse=> "reverse" |.clear=> "clear" |.index=> "index" |.find=> "find" |.count=> "count" |.GP=> "count" |.rS=> "index"
def ow:Expr->Bool
 |.Call (.Name _ _) [] [] _=>false
 |_=>true
def noStar:Expr->Bool
 |.Starred ..=>false
 |_=>true
def uG:Expr->Bool
 |.Set ..=>false
 |_=>true
def AZ(G4 sc:Scope):Scope:=
 {G4 with names:=G4.names.map fun(n,k)=>if (k==.free && sc.kind==.function && sc.names.lookup n==some .cell) then (n,.cell) else (n,k)}
def A0(tk:Option Nat)(tg:Expr):Option (List Str):=match tk,tg with
 |none,.Name x _=>some [x]
 |some 2,.Tuple [.Name x _,.Name y _] _ _=>some [x,y]
 |_,_=>none
def G5(S:cJ)(c:uF)(ln:List Str)(fv:List (Str×Nat)):cJ:={S with N:=ln++fv.map (·.1),sc:=AZ c.sc S.sc,en:=[],md:=if S.md=0 then 0 else 2}
def A9(S:cJ)(c:uF)(ln:List Str)(fv:List (Str×Nat)):Bool:=
 decide (c.sc.kind=.function) && c.sc.names.all (fun y=>decide<|y.2≠ .cell) && c.sc.names.all (fun y=>decide (y.2≠ .local)||decide (c.sc.names.lookup y.1=some .local))
 && c.sc.names.all (fun y=>decide (y.2≠ .free)||decide (S.sc.names.lookup y.1=some .cell)||decide (S.sc.names.lookup y.1=some .free))
 && fv.all (fun p=>decide (S.N[p.2]?=some p.1) && decide (c.sc.names.lookup p.1=some .free))
 && ln.all (fun x=>decide<|c.sc.names.lookup x=some .local) && decide ((ln++fv.map (·.1)).Nodup) && uG c.iter
theorem TJ{P:Program}{w:World}{K:Frag}{elts:List Expr}{k:Nat}{pos:Pos}{z TI TO i1 i2 l1 l2:Addr}(D:ZipApart z TI TO i1 i2 l1 l2)(dl:l1≠TI/\l2≠TI):
  Turn P w K (.Tuple elts k pos) (j7 K l1 l2) [z,TI,TO,i1,i2] z
   (fun i h=>IsZip h z TI TO .none/\IsPair h TI (.ref i1) (.ref i2)/\(∃a b,IsPair h TO a b)/\h.IsListIter i1 l1 i/\h.IsListIter i2 l2 i) where
 mem:=by simp
 obj:=fun i h st b hb=>by
  obtain⟨hz,cQ,⟨a,b',cY⟩,⟨o1,e1,c1,d1⟩,⟨o2,e2,c2,d2⟩⟩:=st
  simp only[zac,zaj,or_false] at hb
  rcases hb with rfl|rfl|rfl|rfl|rfl
  ·exact⟨_,hz,fun v q=>by cases q⟩
  ·exact⟨_,cQ,fun v q=>by cases q⟩
  ·exact⟨_,cY,fun v q=>by cases q⟩
  ·exact⟨_,e1,fun v q=>by rw[d1] at q;cases q⟩
  ·exact⟨_,e2,fun v q=>by rw[d2] at q;cases q⟩
 keep:=fun i h h' st hk=>by
  obtain⟨hz,cQ,⟨a,b',cY⟩,h1,h2⟩:=st;exact⟨hk z (by simp) _ hz,hk TI (by simp) _ cQ,⟨a,b',hk TO (by simp) _ cY⟩,h1.at fun o e=>hk i1 (by simp) o e,h2.at fun o e=>hk i2 (by simp) o e⟩
 item:=by
  intro X hP hw hK hc i wv s σ H E I hf st hg;subst hP hw hK;obtain⟨xs,ys,hx,hy,G6,A_⟩:=hg;obtain⟨j8,r1,p1,z1⟩:=I.list hx;obtain⟨fD,r2,p2,z2⟩:=I.list hy;have dz:=r1.length;have eo:=r2.length;have W:=WalksT.zip2 (prog:=X.prog) (w:=X.w) (A:=X.A) (I.ok.hd hc) z TI TO i1 i2 l1 l2 D j8.toArray fD.toArray;obtain⟨hz,cQ,cY,h1,h2⟩:=id st;have hn:i<min j8.toArray.size fD.toArray.size:=by simp only[zag];lia
  refine W.item i s _ _ hn ⟨hz,cQ,cY,h1,h2,p1.isList,p2.isList⟩ fun T vals h' tk hv hT TK mid hk=>?_;refine⟨.ref T,rfl,?_⟩;refine W.go elts k pos i T _ _ _ mid fun xh TL G7=>?_;obtain⟨u,v,eu,ev,rfl⟩:=hv;have fz:∀b∈ [z,TO,i1,i2],b∈ [z,TI,TO,i1,i2]:=fun b hb=>by
   simp only[zac,zaj,or_false] at hb⊢
   rcases hb with rfl|rfl|rfl|rfl<;>simp
  have kk:∀b o,b∉ [z,TO,i1,i2]->s.heap.get? b=some o->xh.get? b=some o:=fun b o hb e=>G7 b o hb (hk b o hb e);have I1:Inv X wv σ H {s with heap:=xh,toks:=tk}:=by
   refine I.step (g':=s.gens) (d':=s.drawn) (ch:=[z,TO,i1,i2]) (fun b hb=>?_) (fun b o _ _ hc e _=>kk b o hc e) (fun b o _ _ hc e _=>⟨o.slots,kk b o hc e⟩) (fun _ _ _ _ n=>n)
    (fun b o hc e=>⟨o,kk b o hc e⟩) (fun _ _ e=>e) (fun _ _ _ e=>e) (fun b ps e=>⟨#[],by rw[e];simp⟩) (fun m hm=>?_) (fun b o e=>?_) I.bare
   ·obtain⟨f0,f1,f2,f3,f4,f5⟩:=hf b (fz b hb);exact⟨f3,f1,f4,f5⟩
   ·obtain⟨o,es,ep,ho,r⟩:=hm;exact⟨o,es,ep,kk _ o (fun hb=>(hf _<|fz _ hb).2.1 rfl) ho,r⟩
   ·have nb:∀c o',H c=some o'->c∉ [z,TO,i1,i2]:=fun c o' e hb=>by
     rw[(hf c<|fz c hb).1] at e;cases e
    refine(I.aB b o e).kO (fun c q eY e'=>kk c q ?_ e') (fun _ q=>q) fun _ _ q=>q;rcases eY with rfl|eY
    ·exact nb _ _ e
    ·exact nb _ _ eY
  have j9:s.heap.objs.size<=T:=hT;have fT:H T=none:=I.aB.fresh j9;have aT:T∉ [z,TO,i1,i2]:=W.apart i T h' mid;have tT:xh.IsTuple T #[u,v]:=by
   obtain⟨o,ho,q⟩:=TK;exact⟨o,G7 T o aT ho,q⟩
  obtain⟨a,TM,ra⟩:∃a,xs[i]?=some a/\RelV a u:=by
   have e:j8[i]?=some u:=by simpa using eu
   have:i<xs.length:=by lia
   obtain⟨u',e',r'⟩:=r1.get (i:=i) (x:=xs[i]) (by simp[this])
   rw[e] at e';cases e';exact⟨xs[i],by simp[this],r'⟩
  obtain⟨b,TN,rb⟩:∃b,ys[i]?=some b/\RelV b v:=by
   have e:fD[i]?=some v:=by simpa using ev
   have:i<ys.length:=by lia
   obtain⟨u',e',r'⟩:=r2.get (i:=i) (x:=ys[i]) (by simp[this])
   rw[e] at e';cases e';exact⟨ys[i],by simp[this],r'⟩
  have sz0:=I.sz;have I2:Inv X wv σ (upd H T<|.tup [a,b]) {s with heap:=xh,toks:=tk}:=by
   refine Inv.wM I1 fT (zay I.sz j9) (zaD<|zan I.lt j9) (fun x c e q=>?_) (fun p hp q=>?_) ⟨by show 2<=sizeLine;decide,[u,v],.cons ra<|.cons rb .nil,tT⟩
   ·obtain⟨v',q'⟩:=I.cell x c e;have:=q'.lt;rw[q] at this;exact absurd (zan this j9)<|zaz _
   ·have:=Heap.lt_size (I.pin p hp).1;rw[q] at this;exact absurd (zan this j9)<|zaz _
  refine⟨.ref T,_,I2,rfl,⟨T,fT,rfl,fun bB dA a' b' jX pN ea eb=>?_⟩,?_,fun c eY=>?_⟩
  ·rw[I.we jX hx,TM] at ea;rw[I.we pN hy,TN] at eb;cases ea;cases eb;rfl
  ·obtain⟨q1,q2,q3,q4,q5,_⟩:=TL;exact⟨q1,q2,q3,q4,q5⟩
  ·have n0:=(hf c eY).1;have:c≠T:=fun q=>by
    obtain⟨o,e,_⟩:∃o,s.heap.get? c=some o/\True:=by
     obtain⟨hz,cQ,⟨a',b',cY⟩,⟨o1,e1,_⟩,⟨o2,e2,_⟩⟩:=st
     simp only[zac,zaj,or_false] at eY
     rcases eY with rfl|rfl|rfl|rfl|rfl
     ·exact⟨_,hz,trivial⟩
     ·exact⟨_,cQ,trivial⟩
     ·exact⟨_,cY,trivial⟩
     ·exact⟨_,e1,trivial⟩
     ·exact⟨_,e2,trivial⟩
    have:=Heap.lt_size e;rw[q] at this;exact absurd (zan this j9)<|zaz _
   rw[aI this];exact n0
 done:=by
  intro X hP hw hK hc i wv s σ H E I hf st hg;subst hP hw hK;obtain⟨xs,ys,hx,hy,hi⟩:=hg;obtain⟨j8,r1,p1,z1⟩:=I.list hx;obtain⟨fD,r2,p2,z2⟩:=I.list hy;have dz:=r1.length;have eo:=r2.length;have W:=WalksT.zip2 (prog:=X.prog) (w:=X.w) (A:=X.A) (I.ok.hd hc) z TI TO i1 i2 l1 l2 D j8.toArray fD.toArray;obtain⟨hz,cQ,cY,h1,h2⟩:=id st;have hn:i=min j8.toArray.size fD.toArray.size:=by simp only[zag];lia
  subst hn;refine W.done s _ _ ⟨hz,cQ,cY,h1,h2,p1.isList,p2.isList⟩ fun h' tk hk=>⟨rfl,?_⟩;have fz:∀b∈ [z,TO,i1,i2],b∈ [z,TI,TO,i1,i2]:=fun b hb=>by
   simp only[zac,zaj,or_false] at hb⊢
   rcases hb with rfl|rfl|rfl|rfl<;>simp
  refine I.step (g':=s.gens) (d':=s.drawn) (ch:=[z,TO,i1,i2]) (fun b hb=>?_) (fun b o _ _ hc e _=>hk b o hc e) (fun b o _ _ hc e _=>⟨o.slots,hk b o hc e⟩) (fun _ _ _ _ n=>n)
   (fun b o hc e=>⟨o,hk b o hc e⟩) (fun _ _ e=>e) (fun _ _ _ e=>e) (fun b ps e=>⟨#[],by rw[e];simp⟩) (fun m hm=>?_) (fun b o e=>?_) I.bare
  ·obtain⟨f0,f1,f2,f3,f4,f5⟩:=hf b (fz b hb);exact⟨f3,f1,f4,f5⟩
  ·obtain⟨o,es,ep,ho,r⟩:=hm;exact⟨o,es,ep,hk _ o (fun hb=>(hf _<|fz _ hb).2.1 rfl) ho,r⟩
  ·have nb:∀c o',H c=some o'->c∉ [z,TO,i1,i2]:=fun c o' e hb=>by
    rw[(hf c<|fz c hb).1] at e;cases e
   refine(I.aB b o e).kO (fun c q eY e'=>hk c q ?_ e') (fun _ q=>q) fun _ _ q=>q;rcases eY with rfl|eY
   ·exact nb _ _ e
   ·exact nb _ _ eY
 self:=fun A i s Q E st hQ=>wpAny_pyIter_zip st.1 hQ
theorem boot_zip:bootBuiltins "zip"=some (.type "zip"):=by decide+kernel
theorem TQ{X:Cx}{elts:List Expr}{k:Nat}{z_:Pos}{a b:Expr}{ta:TA}{p pos:Pos}(hg:Gl X "zip")(hm:X.mg "zip"=none)(ha:PA X [a,b] ta)
  (hs:starEach [a,b] X.env=(false,eval a X.env)::starEach [b] X.env) (jy:(backTo pos<|starEach [b] X.env).any (·.1)=false):
  PI X (.Tuple elts k z_) (.Call (.Name "zip" p) [a,b] [] pos) (AW X.K ta):=by
 intro wv s σ H R I h;refine Call_<|kQ I hg hm boot_zip<|PyProof.Rows.callWith_type1 (aG (ha pos wv s σ H _ I h) fun us s1 ⟨vs,H1,I1,r1,q1⟩=>?_) hs jy;obtain⟨l1,l2,e,⟨xs,hx⟩,⟨ys,hy⟩,q⟩:=q1;subst e;obtain⟨u,v,rfl,ru,rv⟩:=vals2 r1;cases ru;cases rv;obtain⟨j8,xi,p1,z1⟩:=I1.list hx;obtain⟨fD,xj,p2,z2⟩:=I1.list hy;refine call_zip_2 p1.isList p2.isList fun h' a1 a2 a3 a4 a5 a6 hk=>?_;refine wpAny_pyIter_zip a1 ?_;have TR: @LT.lt Nat _ l1 s1.heap.objs.size:=by obtain⟨_,e,_⟩:=p1.isList;exact Heap.lt_size e
 have TU: @LT.lt Nat _ l2 s1.heap.objs.size:=by obtain⟨_,e,_⟩:=p2.isList;exact Heap.lt_size e
 have D:ZipApart (s1.heap.objs.size+4) (s1.heap.objs.size+2) (s1.heap.objs.size+3) s1.heap.objs.size (s1.heap.objs.size+1) l1 l2:=by
  constructor<;>(show @Ne Nat _ _;lia)
 have I2:Inv X wv σ H1 {s1 with heap:=h'}:=I1.kept (t':=s1.toks) hk
 refine⟨_,_,_,_,H1,rfl,I2,TJ D ⟨by show @Ne Nat _ _;lia,by show @Ne Nat _ _;lia⟩,⟨a1,a2,⟨_,_,a3⟩,a4,a5⟩,fun b' hb=>?_,q⟩
 have hle:s1.heap.objs.size<=b':=by
  simp only[zac,zaj,or_false] at hb
  rcases hb with rfl|rfl|rfl|rfl|rfl
  ·exact zaW _ _
  ·exact zaW _ _
  ·exact zaW _ _
  ·exact zqR _
  ·exact zaW _ _
 have:=I1.wk (b:=b') (H':=H1) hle (I1.aB.fresh hle);exact this
end L2
set_option maxHeartbeats 400000
namespace L2
open PySem PySem.Spec PyProof.Rows
def rX(A:Around)(h:Heap):Prop:=A.handled=none\/∃e o vs,A.handled=some (.ref e)/\h.get? e=some o/\o.data=.fields vs/\vs[2]?=some .none
theorem TV:entryFor table "proto.unchain"=some Builtin.«proto.unchain»:=entryFor_of_fast (by kernel_rfl)
section
variable {prog:Program}{w:World}{A:Around}{E:Value->Shared->Prop}{s:Shared}
theorem TZ{a:Addr}{o:Obj}{vs:Array Value}{i:Nat}{v:Value}{Q:Unit->Shared->Prop}(ho:s.heap.get? a=some o)(hd:o.data=.fields vs)(hi:i<vs.size)(h:Q () {s with heap:=s.heap.update a (Obj.mapFields (·.setIfInBounds i v))}):
  wpAny (model prog w) A (updateField a i v) Q E s:=by
 unfold updateField;refine wpAny_bind<|wpAny_load ho ?_;rw[hd];show wpAny _ _ (if i<vs.size then _ else _) _ _ s
 rw[if_pos hi];exact wpAny_update ho h
theorem T_{α:Type}{a:Addr}{o:Obj}{vs:Array Value}{Q:α->Shared->Prop}(hh:rX A s.heap)(ho:s.heap.get? a=some o)(hd:o.data=.fields vs)(h2:2<vs.size)(jA:∀e,A.handled=some (.ref e)->e≠a)
  (hE:∀h',Heap.SameBut a s.heap h'->(∃o',h'.get? a=some o'/\o'.cls=o.cls)->E (.ref a) {s with heap:=h'}):wpAny (model prog w) A (raiseNew (.ref a):Sem α) Q E s:=by
 unfold raiseNew;refine wpAny_bind<|wpAny_handled ?_;rcases hh with hh|⟨e,oe,ve,hh,he,Ua,Ub⟩
 ·rw[hh];exact wpAny_bind<|wpAny_pure<|wpAny_throw<|hE s.heap (Heap.SameBut.refl ..) ⟨o,ho,rfl⟩
 ·rw[hh];have ne:e≠a:=jA e hh;have hb:((Value.ref e) !=(Value.ref a))=true:=by
   simp only[bne_iff_ne,ne_eq,Value.ref.injEq]
   exact ne
  dsimp only
  rw[if_pos hb];refine wpAny_bind<|wpAny_holding<|wpAny_runValue<|codeAny_builtin TV ?_;unfold Builtin.«proto.unchain»
  dsimp only
  refine wpAny_bind<|wpAny_field he Ua Ub ?_;rw[if_pos (by rfl)]
  refine wpAny_bind<|wpAny_pure<|wpAny_pure ?_
  dsimp only
  refine wpAny_bind<|TZ ho hd h2 ?_;refine wpAny_throw<|hE _ (Heap.SameBut.update ..) ⟨_,Heap.get?_update_self _ ho<|Obj.isFreed_of_fields<|Obj.data_mapFields hd _,Obj.cls_mapFields ..⟩
theorem Uc{it:Addr}{f:Obj->Obj}{Qf:Fin->Shared->Prop}{Q:Option Value->Shared->Prop}(hh:rX A s.heap)(hn:∀vs:Array Value,¬ ∃o,s.heap.get? it=some o/\o.data=.fields vs/\vs[2]?=some .none)
  (hQ:∀h',Heap.ExtBut it s.heap h'->Q none {s with heap:=h'}):
  wpAny (model prog w) A.in1 Builtin.SmallTypes.stopIteration Qf (fun e s'=>wpAny (model prog w) A (do let b <-isInstance e (.type "StopIteration");if b=true then pure none else throw e) Q E s') {s with heap:=s.heap.update it f}:=by
 show wpAny _ _ (newExc (.type "StopIteration") [] >>=_) _ _ _;refine wpAny_bind ?_
 simp only[newExc,newTuple]
 refine wpAny_bind<|wpAny_newObj_type ?_ (by size_fits)
 refine wpAny_bind (m:=firstArgMember _ _)<|wpAny_of_eq (a:=Value.none) (by first|rfl| (simp only[firstArgMember];rfl)) ?_
 refine wpAny_newObj_type ?_ (by size_fits)
 dsimp only
 have lt:∀b o,s.heap.get? b=some o->b≠it->(s.heap.update it f).get? b=some o:=fun b o e hb=>(Heap.get?_update_other _ _<|Ne.symm hb).trans e;have Ud:rX A.in1 (((s.heap.update it f).push {cls:=.type "tuple",data:=.seq ([]:List Value).toArray}).push
   {cls:=.type "StopIteration",data:=.fields (#[.ref (s.heap.update it f).objs.size,.none,.none,.none,.bool false,.none]++ownMembersOf (.type "StopIteration") [])}):=by
  rcases hh with hh|⟨e,oe,ve,h1,h2,h3,h4⟩
  ·exact .inl hh
  ·refine .inr ⟨e,oe,ve,h1,Heap.get?_push_of_some _<|Heap.get?_push_of_some _<|lt e oe h2 fun z=>?_,h3,h4⟩;subst z;exact hn ve ⟨oe,h2,h3,h4⟩
 refine T_ Ud (Heap.get?_push_size _ rfl) rfl (zan (show 2<6 by decide) (by rw[Array.size_append];exact zaW 6 _)) (fun e he=>?_)<|fun h' sb ⟨o',q1,q2⟩=>?_
 ·rcases hh with hh|⟨e',oe,ve,h1,h2,h3,h4⟩
  ·rw[show A.in1.handled=none from hh] at he;cases he
  ·rw[show A.in1.handled=_ from h1] at he
   cases he;have:=Heap.lt_size h2;refine zap<|zan this ?_;rw[Heap.size_push,Heap.size_update];exact zaI _
 ·refine wpAny_bind (wpAny_isInstance (T:="StopIteration") (b:=true) ⟨_,q1,q2⟩ isSubtype_stop ?_);refine wpAny_pure<|hQ _ fun b o hb e=>?_;have e3:=lt b o e hb;have e4:=Heap.get?_push_of_some {cls:=.type "StopIteration",data:=.fields (#[.ref (s.heap.update it f).objs.size,.none,.none,.none,.bool false,.none]++ownMembersOf (.type "StopIteration") [])} (Heap.get?_push_of_some {cls:=.type "tuple",data:=.seq ([]:List Value).toArray} e3);refine(sb.2 b<|zap<|zan (Heap.lt_size e3) ?_).trans e4;rw[Heap.size_push];exact zaI _
theorem Ue{it l:Addr}{i:Nat}{items}{Q:Option Value->Shared->Prop}(hh:rX A s.heap)
  (hit:s.heap.IsListIter it l i) (hl:s.heap.IsList l items) (hx:items[i]?=none)
  (hQ:∀h',Heap.ExtBut it s.heap h'->Q none {s with heap:=h'}):wpAny (model prog w) A (pyNext<|.ref it) Q E s:=by
 obtain⟨o,ho,hc,hd⟩:=id hit;obtain⟨ol,Ug,_,nl,uH⟩:=hl;unfold pyNext;refine wpAny_bind (wpAny_attempt (wpAny_callSpecial?_slot (name:=Str.ofString "__next__") hit.typeIs slot_listiter_next
  (wpAny_call_entry slot_listiter_next hit.typeIs entry_listiter_next ?_ (args_listiter_next _))))
 show wpAny _ _ (field (.ref it) 0>>=_) _ _ s;refine wpAny_bind<|wpAny_field ho hd (x:=.ref l) rfl ?_;show wpAny _ _ (if (Value.ref l==Value.none)=true then _ else _) _ _ s
 rw[if_neg (show ¬((Value.ref l==Value.none)=true) from zav)]
 show wpAny _ _ (field (.ref it) 1>>=_) _ _ s;refine wpAny_bind<|wpAny_field ho hd (x:=.int i 0) rfl ?_;show wpAny _ _ (seqItems? (.ref l) >>=_) _ _ s;refine wpAny_bind<|wpAny_seqItems Ug uH ?_
 simp only[zbb,hx]
 refine wpAny_bind<|wpAny_rule<|wpAny_bind<|wpAny_setField ho hd (by simp) ?_
 exact Uc hh (fun vs z=>by obtain⟨o',h1,h2,h3⟩:=z;rw[ho] at h1;cases h1;rw[hd] at h2;cases h2;cases h3) hQ
end
end L2
set_option maxHeartbeats 1000000
namespace L2
open PySem PySem.Spec PyProof.Rows PySem.W
section
variable {prog:Program}{w:World}{A:Around}{E:Value->Shared->Prop}{s:Shared}{K:Frag}{x D:Addr}{ox:Obj}
theorem Uh{Q:Option Value->Shared->Prop}(X:K.In s.heap)(I:InstAt s.heap x ox D none)(ux:findIn K (.ref D) "__getattribute__"=some (some<|.builtin "BaseException.__getattribute__"))(uz:findIn K (.ref D) "__getattr__"=some none)
  (hk:(clsIn K D).isSome=true) (ha:findIn K (.ref D) "__class__"=some (some<|.builtin "object.__class__")) (hn:specialIn K (.builtin "object.__class__") "__get__"=some (some<|.builtin "getset_descriptor.__get__")) (nV:takesIn K (.builtin "object.__class__")=some true)
  (hm:mroIn K D (.type "object")=some true) (hb:mroIn K D (.type "BaseException")=some true)
  (h:Q (some<|.ref D) {s with toks:=s.toks+1}):wpAny (model prog w) A (getAttr? (.ref x) "__class__") Q E s:=by
 have hf:findObj K D none "__class__"=some (.bind (.builtin "getset_descriptor.__get__")<|.builtin "object.__class__"):=by
  obtain⟨cd,hc⟩:=zbx.mp hk;unfold findObj;rw[hc,Option.bind_some,ha,Option.bind_some]
  simp only[hn,nV,Option.bind_some]
 obtain⟨hh,g,d,t,os⟩:=s;have L0:=I.type (M:=model prog w);have L1:=looks_findIn (M:=model prog w) X ux;have L2:=looks_findIn (M:=model prog w) X uz;have L3:=looks_find (M:=model prog w) X I hf;unfold getAttr? getAttrBy? getAttrBy;refine wpAny_bind<|wpAny_mkText<|wpAny_bind<|wpAny_attempt<|wpAny_holding<|wpAny_bind<|L0.at<|wpAny_bind<|L1.at ?_;have Ui:(Value.builtin "BaseException.__getattribute__"==Value.builtin "object.__getattribute__")=false:=by decide+kernel
 show wpAny _ _ (if (onTheHeap (Value.ref D) && Value.builtin "BaseException.__getattribute__"==Value.builtin "object.__getattribute__")=true then _ else _) _ _ _
 rw[Ui,Bool.and_false,if_neg (by decide)]
 unfold getAttrByItsOwn hookBefore;refine wpAny_bind<|L2.at ?_;refine wpAny_bind<|wpAny_attempt<|wpAny_holding ?_;show wpAny _ _ (boundAndCalled _ _ _) _ _ _;unfold boundAndCalled;rw[F.excAttr_ValueError.ga.bind<|.ref x];refine wpAny_bind<|wpAny_pure ?_;refine wpAny_call<|codeAny_call_builtin F.excAttr_ValueError.ga.plain F.entry_bexc_ga ?_;have L4:=looks_mroIn (M:=model prog w) X hb;have pU:builtinKind "BaseException.__getattribute__"=some .slot:=by decide+kernel
 have Uj:splitId "BaseException.__getattribute__"=some ("BaseException","__getattribute__"):=by decide+kernel
 have af0:=F.args_bexc_ga (.ref x) (.str "__class__" t)
 simp only[checkBuiltinCall,pU,Uj]
 have L5:Looks (model prog w) hh (isInstance (.ref x)<|.type "BaseException") true:=L0.andThen L4;refine wpAny_bind<|L5.at ?_
 repeat (any_goals (first|assumption|(with_reducible refine wpAny_loadPart_at I.at_ ?_;rw[I.cls];refine wpAny_pure (wpAny_bind<|L3.at ?_))|wp_step))
 refine class_get (s:=⟨hh,g,d,t+1,os⟩) (ox:=ox) (od:=none) X I hm ?_;exact wpAny_pure<|wpAny_pure<|wpAny_pure h
theorem Uk(ux:findIn K (.ref D) "__getattribute__"=some (some<|.builtin "BaseException.__getattribute__"))(uz:findIn K (.ref D) "__getattr__"=some none)
  (hk:(clsIn K D).isSome=true) (ha:findIn K (.ref D) "__class__"=some (some<|.builtin "object.__class__")) (hn:specialIn K (.builtin "object.__class__") "__get__"=some (some<|.builtin "getset_descriptor.__get__")) (nV:takesIn K (.builtin "object.__class__")=some true)
  (hm:mroIn K D (.type "object")=some true) (hb:mroIn K D (.type "BaseException")=some true):KitX K (.ref x) (.ref D) (fun h=>InstAt h x ox D none) where
 ty:=fun _ _ _ I=>I.type
 it:=fun _ _ X _=>by
  obtain⟨Ul,mj⟩:=zbx.mp hk;unfold clsIn at mj
  split at mj
  ·rename_i c' d' Um zO ho
   intro A' Q' E' s' k q;unfold isType loadHead;exact wpAny_bind<|wpAny_loadPart (k _ _<|X _ _ ho)<|wpAny_pure q
  ·cases mj
 ne:=fun h tp dd ao n sl X Uo=>by
  obtain⟨Ul,mj⟩:=zbx.mp hk;refine Bool.eq_false_iff.mpr fun q=>?_;have e:D=tp:=Value.ref.inj (beq_iff_eq.mp q);subst e;unfold clsIn at mj
  split at mj
  ·rename_i c' d' Um zO ho
   have z:=(X _ _ ho).symm.trans Uo;cases z
  ·cases mj
 ca:=fun X I k=>Uh X I ux uz hk ha hn nV hm hb k
end
end L2
set_option maxHeartbeats 400000
namespace L2
open PySem PySem.Spec PyProof.Rows
inductive bT (J:Shared->Prop) {α:Type}:Sem α->Prop
 |pure (a:α):bT J (.pure a)
 |raise (e:Value):bT J (.raise e)
 |unsupported (w:String):bT J (.unsupported w)
 |rule {t:String}{k:Unit->Sem α}:bT J (k ())->bT J (.rule t k)
 |load {a:Addr}{p:Option Value}{k:Obj->Sem α}:(∀o,bT J<|k o)->bT J (.load a p k)
 |update {a:Addr}{p:Option Value}{f:Obj->Obj}{k:Unit->Sem α}:(∀s,J s->J {s with heap:=s.heap.update a f})->bT J (k ())->bT J (.update a p f k)
 |alloc {o:Obj}{k:Addr->Sem α}:(∀s,J s->J {s with heap:=s.heap.push o})->(∀a,bT J<|k a)->bT J (.alloc o k)
 |stack {k:List (Code×Pos)->Sem α}:(∀t,bT J<|k t)->bT J (.stack k)
theorem Up{M:Model}{Γ:PySem.Ctx}{J:Shared->Prop}{α:Type}{t:Sem α}(kt:bT J t):∀{Q:α->Pos->Shared->Prop}{E:Value->Pos->Shared->Prop}{p:Pos}{s:Shared},J s->Sem.wp M Γ t Q E p s->
  Sem.wp M Γ t (fun a p s=>Q a p s/\J s) (fun e p s=>E e p s/\J s) p s:=by
 induction kt with
 |pure a=>intro Q E p s j h;rw[Sem.wp] at h⊢;exact⟨h,j⟩
 |raise e=>intro Q E p s j h;rw[Sem.wp] at h⊢;exact⟨h,j⟩
 |unsupported w=>intro Q E p s j h;rw[Sem.wp] at h;exact h.elim
 |rule _ ih=>intro Q E p s j h;rw[Sem.wp] at h⊢;exact ih j h
 |load _ ih=>intro Q E p s j h;rw[Sem.wp] at h⊢;obtain⟨o,e,h⟩:=h;exact⟨o,e,ih o j h⟩
 |update f _ ih=>intro Q E p s j h;rw[Sem.wp] at h⊢;exact⟨h.1,ih (f _ j) h.2⟩
 |alloc f _ ih=>intro Q E p s j h;rw[Sem.wp] at h⊢;exact ih _ (f _ j) h
 |stack _ ih=>intro Q E p s j h;rw[Sem.wp] at h⊢;exact ih _ j h
theorem uI{M:Model}{A:Around}{J:Shared->Prop}{α:Type}{t:Sem α}{Q:α->Shared->Prop}{E:Value->Shared->Prop}{s:Shared}(k:bT J t)(j:J s)(h:wpAny M A t Q E s):
  wpAny M A t (fun a s=>Q a s/\J s) (fun e s=>E e s/\J s) s:=fun Γ p hΓ=>Up k j (h Γ p hΓ)
def eP(e:Addr)(s:Shared):Prop:= ∃o vs,s.heap.get? e=some o/\o.data=.fields vs/\vs[2]?=some .none/\o.dict=none
theorem Uq(f:Array Value->Array Value)(o:Obj):(Obj.mapFields f o).dict=o.dict:=by
 unfold Obj.mapFields
 split<;>rfl
theorem Ur{e a:Addr}{i:Nat}{v:Value}(hi:i≠2)(s:Shared)(j:eP e s):eP e {s with heap:=s.heap.update a (Obj.mapFields (·.setIfInBounds i v))}:=by
 obtain⟨o,vs,h1,h2,h3,h4⟩:=j;by_cases z:a=e
 ·subst z;have d:=Obj.data_mapFields h2 (·.setIfInBounds i v);exact⟨_,_,Heap.get?_update_self _ h1<|Obj.isFreed_of_fields d,d,by rw[Array.getElem?_setIfInBounds_ne hi];exact h3,(Uq _ _).trans h4⟩
 ·exact⟨o,vs,(Heap.get?_update_other _ _ z).trans h1,h2,h3,h4⟩
theorem Us{e a:Addr}{f:Obj->Obj}(hf:∀o,(f o).data=o.data/\(f o).dict=o.dict)(s:Shared)(j:eP e s):eP e {s with heap:=s.heap.update a f}:=by
 obtain⟨o,vs,h1,h2,h3,h4⟩:=j;by_cases z:a=e
 ·subst z;exact⟨_,vs,Heap.get?_update_self _ h1<|Obj.isFreed_of_fields<|(hf o).1.trans h2,(hf o).1.trans h2,h3,(hf o).2.trans h4⟩
 ·exact⟨o,vs,(Heap.get?_update_other _ _ z).trans h1,h2,h3,h4⟩
theorem Ut{e:Addr}{ob:Obj}(s:Shared)(j:eP e s):eP e {s with heap:=s.heap.push ob}:=by
 obtain⟨o,vs,h1,h2,h3,h4⟩:=j;exact⟨o,vs,Heap.get?_push_of_some _ h1,h2,h3,h4⟩
theorem bT.bind{J:Shared->Prop}{α β:Type}{t:Sem α}{f:α->Sem β}(kt:bT J t)(h:∀a,bT J<|f a):bT J (t>>=f):=by
 show bT J (t.bind f)
 induction kt with
 |pure a=>exact h a
 |raise e=>exact .raise e
 |unsupported w=>exact .unsupported w
 |rule _ ih=>exact .rule ih
 |load _ ih=>exact .load ih
 |update g _ ih=>exact .update g ih
 |alloc g _ ih=>exact .alloc g ih
 |stack _ ih=>exact .stack ih
section
variable {e:Addr}
theorem Ba{a:Addr}:bT (eP e) (load a):=.load fun o=>.pure o
theorem Bb{v x:Value}{i:Nat}(hi:i≠2):bT (eP e) (setField v i x):=by
 unfold setField
 split
 ·rename_i a
  unfold updateField;refine Ba.bind fun o=>?_
  split
  ·split
   ·exact .update (fun s j=>Ur hi s j) (.pure ())
   ·exact .unsupported _
  ·exact .unsupported _
 ·exact .unsupported _
theorem Uu{v:Value}:bT (eP e) (fieldsOf v):=by
 unfold fieldsOf
 split
 ·refine Ba.bind fun o=>?_
  split
  ·exact .pure _
  ·exact .unsupported _
 ·exact .unsupported _
theorem xk{v:Value}{i:Nat}:bT (eP e) (field v i):=by
 unfold field;refine Uu.bind fun vs=>?_
 split
 ·exact .pure _
 ·exact .unsupported _
theorem Bc{v:Value}{f:Option Addr}:bT (eP e) (setFlight v f):=by
 unfold setFlight;refine xk.bind fun tb=>?_
 split
 ·exact Bb (by decide)
 ·exact .pure _
theorem Be:bT (eP e) stack:=.stack fun t=>.pure t
theorem Uv{ty:String}{vs:List Value}:bT (eP e) (newFields ty vs):=by
 unfold newFields newObj newObjAsIs;show bT (eP e) (if vs.toArray.size>sizeLine+2 then (unsupported "record:memory" >>=_) else _)
 split
 ·exact .unsupported _
 ·exact bT.bind (.alloc (fun s j=>Ut s j) fun a=>.pure a) fun a=>.pure _
theorem Uw{f:Addr}{b:Bool}:bT (eP e) (entryPlaceOf f b):=by
 unfold entryPlaceOf;refine Be.bind fun af1=>?_
 split
 ·exact .pure _
 ·exact .pure _
theorem G8:∀l:List Env,bT (eP e) (readyFrames l)
 |[]=>.pure _
 |env::outer=>by
  unfold readyFrames
  split
  ·refine Ba.bind fun o=>?_
   split
   ·exact .pure _
   ·refine bT.bind ?_ fun im=>bT.bind ?_ fun bk=>bT.bind (.update (fun s j=>Us (by intro o;exact⟨rfl,rfl⟩) s j)<|.pure ()) fun _=>G8 outer
    ·unfold behindIsImport
     split
     ·exact .pure _
     ·split
      ·exact .pure _
      ·exact xk.bind fun _=>.pure _
    ·unfold keptBack
     split
     ·split
      ·exact .pure _
      ·unfold underTheClaimsCaller;exact bT.bind (Be.bind fun _=>.pure _) fun _=>.pure _
     ·exact .pure _
  ·exact .unsupported _
theorem Ux{env:Env}:bT (eP e) (PySem.frameOf env):=by
 unfold PySem.frameOf frameEnvs;refine bT.bind (Be.bind fun _=>.pure _) fun l=>?_;refine bT.bind ?_ fun r=>?_
 ·unfold frameObject
  split
  ·exact .pure _
  ·exact(G8 _).bind fun _=>.pure _
 ·split
  ·exact .pure _
  ·exact .unsupported _
theorem G9{v:Value}{env:Env}:bT (eP e) (noteFrame v env):=by
 unfold noteFrame
 split
 ·rename_i x d hq
  refine xk.bind fun hd=>?_;have tail:bT (eP e) (do let a <-PySem.frameOf env;let pl <-entryPlaceOf d (hd !=.none);let b <-EntryCells.newEntry hd a .none (rawInt d) .none pl;setField v 1 b):=
   Ux.bind fun a=>Uw.bind fun pl=>bT.bind Uv fun b=>Bb (by decide)
  dsimp only
  split
  ·refine xk.bind fun x=>?_
   split
   ·exact .pure _
   ·exact(Bb (by decide)).bind fun _=>tail
  ·exact tail
 ·exact .unsupported _
theorem G_{v:Value}{env:Env}:bT (eP e) (leaving env v):=by
 unfold leaving;exact G9.bind fun _=>Bc
end
end L2
set_option maxHeartbeats 4000000
namespace L2
open PySem PySem.Spec PyProof.Rows
theorem cA.xl{P:Program}{w:World}{H:Hp}{h:Heap}{a:Addr}{o:HO}(x:cA P w H h a o):∃ob,h.get? a=some ob:=by
 cases o with
 |lst xs=>obtain⟨_,_,_,_,e⟩:=x;exact⟨_,e⟩
 |tup xs=>obtain⟨_,_,_,ob,e,_⟩:=x;exact⟨_,e⟩
 |dK kvs=>obtain⟨_,_,_,_,o,_,_,e,_⟩:=x;exact⟨_,e⟩
 |dT kvs=>obtain⟨_,_,_,_,o,_,_,e,_⟩:=x;exact⟨_,e⟩
 |set S n=>obtain⟨o,_,_,_,e,_⟩:=x;exact⟨_,e⟩
 |ins C dx fs=>obtain⟨_,_,_,e,_⟩:=x;exact⟨_,e⟩
 |own y=>obtain⟨_,e⟩:=x;exact⟨_,e⟩
 |xd fs=>obtain⟨_,⟨_,_,_,e,_⟩,_⟩:=x;exact⟨_,e⟩
 |gz lo hi=>obtain⟨_,_,_,e⟩:=x;exact⟨_,e⟩
 |bK ob u=>obtain⟨e,_⟩:=x;exact⟨_,e⟩
 |kJ ps=>exact⟨_,(show h.get? a=some _ from x)⟩
 |met f y=>exact⟨_,(show h.get? a=some _ from x)⟩
 |ext φ=>obtain⟨_,⟨_,e⟩,_⟩:=x;exact⟨_,e⟩
theorem bW.xn{P:Program}{w:World}{H:Hp}{h h':Heap}(ok:bW P w H h)(k:∀b u,H b≠none->h.get? b=some u->h'.get? b=some u):bW P w H h':=fun a o e=>
 (ok a o e).kO (fun b u hb hu=>k b u (by
  rcases hb with rfl|hb
  ·rw[e];exact Option.some_ne_none _
  ·rw[hb];exact Option.some_ne_none _) hu) (fun _ z=>z) (fun _ _ z=>z)
def eQ(P:Program)(w:World):cg:=fun outer H s E e s'=>∃ea cls t B H',
 e=.ref ea/\s'.os=s.os/\AllBare s'.gens/\Un (bS outer) [] H H' s.heap s'.heap/\bW P w H' s'.heap/\Heap.FlyingW B outer ea cls (.ref t) s'.heap/\eP ea s'/\H' ea=none/\
 (∀b,H' b≠none->∀o,s'.heap.get? b=some o->B.get? b=some o)/\(∀b o,s.heap.get? b=some o->b∉bS outer->∀o',s'.heap.get? b=some o'->B.get? b=some o')/\E cls none H'
theorem xo{P:Program}{w:World}{outer:List Env}{H:Hp}{s:Shared}{e:Value}{s':Shared}(h:eQ P w outer H s E0 e s'):False:=by
 obtain⟨_,_,_,_,_,_,_,_,_,_,_,_,_,_,_,h⟩:=h;exact h
section
variable {P:Program}{w:World}{K:Frag}{mg:Str->Option Value}{base:Heap}{N:List Str}{qual:Str}{scope:Scope}{f:Addr}{cd:Value}{A:Around}{outer:List Env}{s₀:Shared}{H₀:Hp}{E:XK}
theorem Uy:Passes (eQ P w) (mz (eQ P w) P w K mg base N qual scope f cd A outer s₀ H₀ E) E:=by
 intro wv σ H s e s' I hx;obtain⟨ea,cls,t,B,H',rfl,os,bare,u,aB,fl,uJ,fJ,c1,c2,hE⟩:=hx;have mM:=I.ok.frames;have hL:s₀.heap.objs.size<= (envOfC qual scope s₀.heap.objs.size f cd).locals:=I.ok.above;have nL:∀b o,s₀.heap.get? b=some o->b∉bS outer->b∉bS (envOfC qual scope s₀.heap.objs.size f cd::outer):=fun b o hb hn hm=>by
  have Bf:b∈ (envOfC qual scope s₀.heap.objs.size f cd).locals::bS outer:=hm;rcases zac.mp Bf with rfl|z
  ·exact absurd (Heap.lt_size hb) (Nat.not_lt.mpr hL)
  ·exact hn z
 have jb:∀b∈bS (envOfC qual scope s₀.heap.objs.size f cd::outer),H' b=none:=fun b hb=>by
  obtain⟨o,ho,_⟩:=(I.stack.mem hb).2;exact u.free b o ho (I.v9 b hb) zaj
 refine wpAny_mono (uI G_ uJ<|wpAny_leaves_onW (Q:=fun _ ir=>∃h',ir={s' with heap:=h'}/\Heap.FlyingW B outer ea cls (.ref t) h'/\s'.heap.UpToSlots h') (E:=fun _ _=>False) mM rfl fl fun h' jB up=>⟨h',rfl,jB,up⟩)
  (fun _ ir hq=>?_) (fun _ _ z=>z.1.elim)
 obtain⟨⟨h',rfl,jB,up⟩,Bg⟩:=hq;have into:∀b o,s.heap.get? b=some o->b∉bS (envOfC qual scope s₀.heap.objs.size f cd::outer)->∀o',s'.heap.get? b=some o'->h'.get? b=some o':=fun b o hb hn o' fA=>jB.1 b o' (c2 b o hb hn o' fA);have dU:∀b o,H' b≠none->s'.heap.get? b=some o->h'.get? b=some o:=fun b o hb ho=>jB.1 b o (c1 b hb o ho);have gH:∀b∈bS (envOfC qual scope s₀.heap.objs.size f cd::outer),∀o,s'.heap.get? b=some o->∃sl,h'.get? b=some {o with slots:=sl}:=fun b hb o ho=>by
  obtain⟨o1,j_,hd⟩:=(fl.2.2.1.mem hb).2;rw[ho] at j_;cases j_;exact up b o ho hd
 refine⟨ea,cls,t,B,H',rfl,os.trans I.os,bare,⟨fun b o q n hn _=>?_,fun b o q n hn _=>?_,fun b o q n _=>?_,fun b o q _=>?_,fun b xs q=>u.bC b xs (I.base.bC b xs q),fun b o v q=>u.fW b o v (I.base.fW b o v q),fun b ps q=>?_⟩,
  aB.xn (fun b o hb ho=>dU b o hb ho),jB,Bg,fJ,fun b hb o ho=>?_,fun b o q hn o' fA=>?_,hE⟩
 ·have q1:=I.base.keep b o q n hn zaj;have n1:=I.base.free b o q n zaj;have gf:=nL b o q hn;exact into b o q1 gf o<|u.keep b o q1 n1 gf zaj
 ·obtain⟨sl,q1⟩:=I.base.slot b o q n hn zaj;have n1:=I.base.free b o q n zaj;have gf:b∈bS (envOfC qual scope s₀.heap.objs.size f cd::outer):=zas _ hn;obtain⟨ug,q2⟩:=u.slot b _ q1 n1 gf zaj;obtain⟨Bh,q3⟩:=gH b gf _ q2;exact⟨Bh,q3⟩
 ·obtain⟨o1,q1⟩:=I.base.there b o q zaj;exact u.free b o1 q1 (I.base.free b o q n zaj) zaj
 ·obtain⟨o1,q1⟩:=I.base.there b o q zaj;obtain⟨o2,q2⟩:=u.there b o1 q1 zaj;by_cases hm:b∈bS (envOfC qual scope s₀.heap.objs.size f cd::outer)
  ·obtain⟨sl,q3⟩:=gH b hm o2 q2;exact⟨_,q3⟩
  ·exact⟨o2,into b o1 q1 hm o2 q2⟩
 ·obtain⟨m1,e1⟩:=I.base.gW b ps q;obtain⟨m2,e2⟩:=u.gW b _ e1;exact⟨m1++m2,by rw[e2,Array.append_assoc]⟩
 ·obtain⟨gY,hH⟩:=zcg.mp hb;obtain⟨o2,q2⟩:=(aB b gY hH).xl;have q3:=dU b o2 hb q2;have ka:h'.get? b=some o:=ho;rw[q3] at ka;cases ka;exact c1 b hb _ q2
 ·obtain⟨o1,q1⟩:=I.base.there b o q zaj;obtain⟨o2,q2⟩:=u.there b o1 q1 zaj;have gf:=nL b o q hn;have q3:=into b o1 q1 gf o2 q2;have ka:h'.get? b=some o':=fA;rw[q3] at ka;cases ka;exact c2 b o1 q1 gf _ q2
def Raises(X:Cx)(E:XK):Prop:= ∀wv σ H s h' e cls vs,Inv X wv σ H s->Heap.MadeExcOf s.heap h' e cls vs->E cls none H->X.xe (.ref e) {s with heap:=h'}
theorem Uz:Raises (mz (eQ P w) P w K mg base N qual scope f cd A outer s₀ H₀ E) E:=by
 intro wv σ H s h1 e cls vs I hx hE;have mM:=I.ok.frames;have hL:s₀.heap.objs.size<= (envOfC qual scope s₀.heap.objs.size f cd).locals:=I.ok.above;have nL:∀b o,s₀.heap.get? b=some o->b∉bS outer->b∉bS (envOfC qual scope s₀.heap.objs.size f cd::outer):=fun b o hb hn hm=>by
  have Bf:b∈ (envOfC qual scope s₀.heap.objs.size f cd).locals::bS outer:=hm;rcases zac.mp Bf with rfl|z
  ·exact absurd (Heap.lt_size hb) (Nat.not_lt.mpr hL)
  ·exact hn z
 have oy:∀env∈ (envOfC qual scope s₀.heap.objs.size f cd::outer),∀b,env.frame=some b->b∈bS (envOfC qual scope s₀.heap.objs.size f cd::outer):=fun env he b hb=>zbv.mpr ⟨env,he,hb⟩;have uJ:eP e {s with heap:=h1}:=by
  obtain⟨t,ht,_,_⟩:=hx.there;exact⟨_,_,ht,rfl,rfl,rfl⟩
 refine wpAny_mono (uI G_ uJ (wpAny_leaves_madeW (Q:=fun _ ir=>∃h' t,ir={s with heap:=h'}/\Heap.FlyingW (hideAll s.heap (bS (envOfC qual scope s₀.heap.objs.size f cd::outer))) outer e cls (.ref t) h'/\h1.UpToSlots h') (E:=fun _ _=>False)
  mM rfl (fun b o q=>of_hideAll _ q) (PySem.W.funFrames_hide I.stack oy) hx fun h' t jB _ _ up=>⟨h',t,rfl,jB,up⟩)) (fun _ ir hq=>?_) (fun _ _ z=>z.1.elim)
 obtain⟨⟨h',t,rfl,jB,up⟩,Bg⟩:=hq;have into:∀b o,s.heap.get? b=some o->b∉bS (envOfC qual scope s₀.heap.objs.size f cd::outer)->h'.get? b=some o:=fun b o hb hn=>jB.1 b o (hideAll_get _ hb hn);have Bi:∀b,H b≠none->b∉bS (envOfC qual scope s₀.heap.objs.size f cd::outer):=fun b hb hm=>hb (I.v9 b hm);have gH:∀b∈bS (envOfC qual scope s₀.heap.objs.size f cd::outer),∀o,s.heap.get? b=some o->∃sl,h'.get? b=some {o with slots:=sl}:=fun b hb o ho=>by
  obtain⟨o1,j_,hd⟩:=(I.stack.mem hb).2;rw[ho] at j_;cases j_;exact up b o (hx.keeps b o ho) hd
 refine⟨e,cls,t,_,H,rfl,I.os,I.bare,⟨fun b o q n hn _=>?_,fun b o q n hn _=>?_,fun b o q n _=>I.base.free b o q n zaj,fun b o q _=>?_,I.base.bC,I.base.fW,I.base.gW⟩,
  I.aB.xn (fun b o hb ho=>into b o ho (Bi b hb)),jB,Bg,?_,fun b hb o ho=>?_,fun b o q hn o' fA=>?_,hE⟩
 ·exact into b o (I.base.keep b o q n hn zaj) (nL b o q hn)
 ·obtain⟨sl,q1⟩:=I.base.slot b o q n hn zaj;obtain⟨Bh,q3⟩:=gH b (zas _ hn) _ q1;exact⟨Bh,q3⟩
 ·obtain⟨o1,q1⟩:=I.base.there b o q zaj;by_cases hm:b∈bS (envOfC qual scope s₀.heap.objs.size f cd::outer)
  ·obtain⟨sl,q3⟩:=gH b hm o1 q1;exact⟨_,q3⟩
  ·exact⟨o1,into b o1 q1 hm⟩
 ·cases q:H e with
  |none=>rfl
  |some ho=>
   obtain⟨o2,q2⟩:=(I.aB e ho q).xl;rw[hx.new] at q2;cases q2
 ·obtain⟨gY,hH⟩:=zcg.mp hb;obtain⟨o2,q2⟩:=(I.aB b gY hH).xl;have q3:=into b o2 q2 (Bi b hb);have ka:h'.get? b=some o:=ho;rw[q3] at ka;cases ka;exact hideAll_get _ q2<|Bi b hb
 ·obtain⟨o1,q1⟩:=I.base.there b o q zaj;have gf:=nL b o q hn;have q3:=into b o1 q1 gf;have ka:h'.get? b=some o':=fA;rw[q3] at ka;cases ka;exact hideAll_get _ q1 gf
end
section
variable {X:Cx}
theorem UA{x:Str}{C:Addr}{bm:List Value}{B newId rY:String}{e:Expr}{es:List Expr}{t:TA}{np dW pos:Pos}{E:XK}(hc:X.calm=true)(O:OwnCls x C bm newId X.mg X.base)(FB:ExcBaseFacts B newId rY bm)(pV:Gl X x)
  (hd:(x==("__debug__":Str))=false) (ha:PA X (e::es) t) (hs:starEach (e::es) X.env=(false,eval e X.env)::starEach es X.env) (h1:(backTo dW<|starEach es X.env).any (·.1)=false) (hR:Raises X E):
  PS X (.Raise (some<|.Call (.Name x np) (e::es) [] dW) none pos) (AU C E t):=by
 intro wv s σ H D I h;obtain⟨tl,N,nm,q,bs,hdct,sn,sub,ab,col,dd,k0,k1,k2,k3,k5,mN,hC,hN,xp,T⟩:=O.obj;have hg:PE X (.Name x np) (tC<|.ref C):=EL pV O.bound rfl hd;refine wpAny_Raise_call_subT (C:=C) (nm:=nm) (q:=q) (N:=N) (bs:=bs) (bm:=tl) (hdct:=hdct) (sn:=sn) (sub:=sub) (ab:=ab) (col:=col) (dd:=dd) (k0:=k0) (k1:=k1) (k2:=k2) (k3:=k3) (k5:=k5)
  FB (mN:=mN) (T.hasType FB.hasBase) (I.ok.hd hc) (by rw[hs];show(false ||(backTo dW<|starEach es X.env).any (·.1))=false;rw[h1];rfl) xp
  (aG (hg wv s σ H (fun v H1=>v=.ref C/\AU C E t D σ H1) I ⟨rfl,h⟩) fun f s1 ⟨v,H1,I1,r1,ev,q1⟩=>?_)
 subst ev;obtain rfl:f=Value.ref C:=r1;refine⟨rfl,?_⟩;have hA:=ha dW wv s1 σ H1 _ I1 q1;rw[hs] at hA⊢;refine Calls.evalArgs_plain<|aG hA fun us s2 ⟨vs,H2,I2,r2,hl,q2⟩=>⟨rfl,?_,I2.bk _ _ hC,hN.keeps I2.bk,T.keeps I2.bk,fun h' e' hm=>hR wv σ H2 s2 h' e' _ _ I2 hm q2⟩;have:=r2.length;show us.length<=sizeLine;lia
end
theorem Ha{P:Program}{w:World}{l:List Env}{H H':Hp}{h h1 h' B:Heap}(u:Un (bS l) [] H H' h h1)(aB:bW P w H' h1)(fr:h1.FunFrames B l)
  (c1:∀b,H' b≠none->∀o,h1.get? b=some o->B.get? b=some o) (c2:∀b o,h.get? b=some o->b∉bS l->∀o',h1.get? b=some o'->B.get? b=some o') (st:B.StaysIn h') (up:h1.UpToSlots h'):
  Un (bS l) [] H H' h h'/\bW P w H' h'/\(∀b,H' b≠none->∀o,h'.get? b=some o->B.get? b=some o)/\(∀b o,h.get? b=some o->b∉bS l->∀o',h'.get? b=some o'->B.get? b=some o'):=by
 have dU:∀b o,H' b≠none->h1.get? b=some o->h'.get? b=some o:=fun b o hb ho=>st b o (c1 b hb o ho);have into:∀b o,h.get? b=some o->b∉bS l->∀o',h1.get? b=some o'->h'.get? b=some o':=fun b o hb hn o' fA=>st b o' (c2 b o hb hn o' fA);have gH:∀b∈bS l,∀o,h1.get? b=some o->∃sl,h'.get? b=some {o with slots:=sl}:=fun b hb o ho=>by
  obtain⟨o1,j_,hd⟩:=(fr.mem hb).2;rw[ho] at j_;cases j_;exact up b o ho hd
 refine⟨⟨fun b o q n hn _=>into b o q hn o<|u.keep b o q n hn zaj,fun b o q n hn _=>?_,u.free,fun b o q _=>?_,u.bC,u.fW,u.gW⟩,aB.xn<|fun b o hb ho=>dU b o hb ho,fun b hb o ho=>?_,fun b o q hn o' fA=>?_⟩
 ·obtain⟨sl,q1⟩:=u.slot b o q n hn zaj;obtain⟨ug,q2⟩:=gH b hn _ q1;exact⟨ug,q2⟩
 ·obtain⟨o1,q1⟩:=u.there b o q zaj;by_cases hm:b∈bS l
  ·obtain⟨sl,q3⟩:=gH b hm o1 q1;exact⟨_,q3⟩
  ·exact⟨o1,into b o q hm o1 q1⟩
 ·obtain⟨gY,hH⟩:=zcg.mp hb;obtain⟨o2,q2⟩:=(aB b gY hH).xl;have q3:=dU b o2 hb q2;rw[q3] at ho;cases ho;exact c1 b hb _ q2
 ·obtain⟨o2,q2⟩:=u.there b o q zaj;have q3:=into b o q hn o2 q2;rw[q3] at fA;cases fA;exact c2 b o q hn _ q2
def Cx.alt(X:Cx)(A:Around)(calm:Bool)(pn:List (Addr×Obj))(xe:Value->Shared->Prop):Cx:={X with A:=A,calm:=calm,pn:=pn,xe:=xe}
theorem Inv.alt{X:Cx}{wv jv pW:List (Addr×Obj)}{σ:St}{H:Hp}{s:Shared}{A':Around}{rZ:Bool}{Bj:Value->Shared->Prop}(I:Inv X wv σ H s)(hf:A'.frames=X.A.frames)(hc:rZ=true->A'.handled=none)(hp:∀p∈pW++jv,p∈X.pn++wv):
  Inv (X.alt A' rZ pW Bj) jv σ H s where
 ok:=⟨I.ok.mod,I.ok.kind,I.ok.glob,I.ok.blt,I.ok.above,I.ok.inj,I.ok.has,I.ok.vY,hc,hf.trans I.ok.frames,I.ok.jb,I.ok.O4,I.ok.bs,I.ok.nU,I.ok.vZ,I.ok.v7,I.ok.ju,I.ok.pA⟩
 os:=I.os
 bare:=I.bare
 base:=I.base
 loc:=I.loc
 cell:=I.cell
 free:=I.free
 ip:=I.ip
 pin:=fun p h=>I.pin p (hp p h)
 aB:=I.aB
 len:=I.len
theorem Inv.xq{X:Cx}{wv jv pW:List (Addr×Obj)}{σ:St}{H:Hp}{s:Shared}{A':Around}{rZ:Bool}{Bj:Value->Shared->Prop}(ok:X.Ok)(I:Inv (X.alt A' rZ pW Bj) jv σ H s)(hp:∀p∈X.pn++wv,p∈pW++jv):
  Inv X wv σ H s where
 ok:=ok
 os:=I.os
 bare:=I.bare
 base:=I.base
 loc:=I.loc
 cell:=I.cell
 free:=I.free
 ip:=I.ip
 pin:=fun p h=>I.pin p (hp p h)
 aB:=I.aB
 len:=I.len
theorem UB{P:Program}{w:World}{H:Hp}{h:Heap}{ea:Addr}{ob:Obj}(h1:h.get? ea=some ob):cA P w H h ea (.bK ob mG):=
 ⟨h1,trivial,⟨ob,h1⟩,fun _ _ _ _=>trivial⟩
theorem bW.more{P:Program}{w:World}{H:Hp}{h:Heap}{a:Addr}{o:HO}(ok:bW P w H h)(ha:H a=none)(x:cA P w (upd H a o) h a o):bW P w (upd H a o) h:=fun b u e=>by
 by_cases z:b=a
 ·subst z;rw[ax] at e;cases e;exact x
 ·rw[aI z] at e;exact(ok b u e).kO (fun _ _ _ q=>q) (fun c q=>by rw[aI<|bQ q ha];exact q) (fun c xs q=>by rw[aI<|bQ q ha];exact q)
section
variable {X:Cx}
theorem Inv.UC{wv:List (Addr×Obj)}{σ:St}{H:Hp}{s:Shared}{h':Heap}{m':Str->Option Value}{tk:Nat}(I:Inv X wv σ H s)(hn:h'.Ns X.env.locals m')(sb:Heap.SameBut X.env.locals s.heap h'):
  Inv X wv (List.replicate X.N.length none) H {s with heap:=h',toks:=tk} where
 ok:=I.ok
 os:=I.os
 bare:=I.bare
 base:=by
  have ne:∀b o,X.s₀.heap.get? b=some o->b≠X.env.locals:=fun b o q z=>by
   rw[z] at q;exact absurd (Heap.lt_size q)<|Nat.not_lt.mpr I.ok.above
  refine⟨fun b o q n hn hx=>(sb.2 b<|ne b o q).trans<|I.base.keep b o q n hn hx,fun b o q n hn hx=>?_,I.base.free,fun b o q hx=>?_,I.base.bC,I.base.fW,I.base.gW⟩
  ·obtain⟨sl,e⟩:=I.base.slot b o q n hn hx;exact⟨sl,(sb.2 b<|ne b o q).trans e⟩
  ·obtain⟨o',e⟩:=I.base.there b o q hx;exact⟨o',(sb.2 b<|ne b o q).trans e⟩
 loc:=⟨m',hn,fun i x v h1 h2=>by
  rw[List.getElem?_replicate] at h2
  split at h2<;>cases h2⟩
 cell:=fun x c h=>by
  obtain⟨v,o,e,d⟩:=I.cell x c h;refine⟨v,o,(sb.2 c<|fun z=>?_).trans e,d⟩;obtain⟨m,⟨o2,es,ep,e2,d2,_⟩,_⟩:=I.loc;rw[z,e2] at e;cases e;rw[d] at d2;cases d2
 free:=I.free
 ip:=I.ip
 pin:=fun p hp=>by
  obtain⟨a,b,c,d,e⟩:=I.pin p hp;exact⟨(sb.2 _ c).trans a,b,c,d,e⟩
 aB:=I.aB.xn fun b u hb hu=>(sb.2 b<|fun z=>hb (by rw[z];exact I.free)).trans hu
 len:=zce
def RT(X:Cx)(nm:Option Str)(iR:Pos)(wv:List (Addr×Obj))(D:Ends):Result->Shared->Prop:=fun r s₂=>match r with
 |.ok f=>match nm with
  |none=>SP X wv D f s₂
  |some n=>wpAny (model X.prog X.w) X.A (do bindName X.env n .none;unbindBehindTheSuite X.env n iR) (fun _ s₃=>SP X wv D f s₃) X.xe s₂
 |.error x=>cameBackBy (model X.prog X.w) X.A X.env X.xe x s₂
theorem Hb{x:Str}{nm:Option Str}{C:Addr}{i:Nat}{body:List Stmt}{b₀:Stmt}{mO:List Stmt}{tb:XK->TS}{th:Addr->TS}{np iR pos:Pos}(gA:X.stack=X.env::X.outer)(mM:X.env.frame=some X.env.locals)(hex:X.ex=[])
  (pV:Gl X x) (hd:(x==("__debug__":Str))=false) (jf:X.mg x=some (.ref C))
  (hb:∀(pn:List (Addr×Obj)) (xe:Value->Shared->Prop) (E:XK),PassesOwn (model X.prog X.w) X.A X.env xe->Passes (eQ X.prog X.w) (X.alt X.A X.calm pn xe) E->cP (X.alt X.A X.calm pn xe) body (tb E))
  (hk:∀(ea:Addr) (wv:List (Addr×Obj)) (D:Ends) (s5:Shared) (σ':St) (W:Shared->Prop),X.Ok->wpAny (model X.prog X.w) (X.A.mark (some (.ref ea))) (setFlight (.ref ea) none) (fun _ s=>W s) (fun _ _=>False) s5->
   (∀s,W s->∃H8,Inv (X.alt (X.A.mark<|some<|.ref ea) false (X.pn++wv) fun _ _=>False) [] σ' H8 s/\th ea {nx:=fun _ _=>False,rt:=D.rt} (σ'.set i<|some<|.ref ea) H8)->
   codeAny (model X.prog X.w) (X.A.mark (some (.ref ea))) (.handlers (.ref ea) [.ExceptHandler none nm (b₀::mO) iR] X.env) (RT X nm iR wv D) s5):
  PS X (.Try body [.ExceptHandler (some<|.Name x np) nm (b₀::mO) iR] [] [] pos) (oj X.K C i X.N.length tb th):=by
 intro wv s σ H D I h;refine wpAny_Try_except ?_;have P1:Passes (eQ X.prog X.w) (X.alt X.A X.calm (X.pn++wv) fun e s₁=>wpAny (model X.prog X.w) X.A (noteFrame e X.env) (fun _ s₂=>wpAny (model X.prog X.w) X.A (setFlight e none) (fun _ s₃=>wpAny (model X.prog X.w) X.A (handleBy e X.env [.ExceptHandler (some<|.Name x np) nm (b₀::mO) iR]) (SP X wv D) X.xe s₃) X.xe s₂) X.xe s₁) (xb X.K C i X.N.length th D):=by
  intro jv σ' H1 s1 e' s' I1 hx;obtain⟨ea,cls,t,B,H',rfl,os,bare,u,aB,fl,uJ,fJ,c1,c2,hm,UD⟩:=hx;have UE:X.A.frames=some (X.env::X.outer):=by rw[I.ok.frames,gA]
  have jB:Heap.FlyingW B (X.env::X.outer) ea cls (.ref t) s'.heap:=by rw[<-gA];exact fl
  refine wpAny_mono (uI G9 uJ<|wpAny_looks_onW (Q:=fun _ ir=>∃h',ir={s' with heap:=h'}/\Heap.HeldW B (X.env::X.outer) ea cls (.ref t) X.env.locals h'/\s'.heap.UpToSlots h') (E:=fun _ _=>False) UE mM jB fun h4 pX Bk=>⟨h4,rfl,pX,Bk⟩)
   (fun _ s4 hq=>?_) (fun _ _ z=>z.1.elim)
  obtain⟨⟨h4,rfl,pX,Bk⟩,xr⟩:=hq;refine wpAny_mono (uI Bc xr<|wpAny_landsW (s:={s' with heap:=h4}) (Q:=fun _ ir=>∃h',ir={s' with heap:=h'}/\Heap.FlyingW B (X.env::X.outer) ea cls (.ref t) h'/\h4.UpToSlots h') (E:=fun _ _=>False) pX fun h5 r9 Bl=>⟨h5,rfl,r9,Bl⟩)
   (fun _ s5 hq=>?_) (fun _ _ z=>z.1.elim)
  obtain⟨⟨h5,rfl,UG,Bl⟩,UH⟩:=hq;have r9:Heap.FlyingW B X.stack ea cls (.ref t) h5:=by rw[gA];exact UG
  obtain⟨u5,uK,UI,UJ⟩:=Ha (l:=X.stack) u aB fl.2.2.1 c1 c2 r9.1 (Bk.trans Bl);obtain⟨oe,ws,UK,UL,af2,af3⟩:=r9.first
  have I5:=I1.zS (s':={s' with heap:=h5}) (ch:=[]) os u5 uK bare (fun b z=>absurd z zaj)
  refine wpAny_handleBy_cons (codeAny_handlers_test ?_) (by intro q;cases q)
  have uc:Inv (X.alt (X.A.mark<|some<|.ref ea) false (X.pn++wv) fun _ _=>False) [] σ' H' {s' with heap:=h5}:=I5.alt (A':=X.A.mark (some<|.ref ea)) (rZ:=false) (pW:=X.pn++wv) (jv:=[]) rfl (fun z=>nomatch z) (fun p hp=>zaa.mpr<|.inl (by rw[zae] at hp;exact hp))
  refine t_ uc pV jf ?_ hd;have LT:PySem.W.Looks (model X.prog X.w) h5 (typeOf<|.ref ea) cls:=by
   subst UL;exact(PySem.W.Looks.ld UK).andThen .now
  refine(PySem.W.exm_one I5.cX LT hm).here ?_;refine hk ea wv D _ σ' _ I.ok (wpAny_mono (uI Bc UH<|lands_againW (s:={s' with heap:=h5}) (Q:=fun _ ir=>∃h',ir={s' with heap:=h'}/\Heap.FlyingW B X.stack ea cls (.ref t) h'/\h5.UpToSlots h') (E:=fun _ _=>False) r9 fun h6 r_ Bm=>⟨h6,rfl,r_,Bm⟩) (fun _ _ hq=>hq)<|fun _ _ z=>z.1.elim) fun s6 hq=>?_
  obtain⟨⟨h6,rfl,r_,Bm⟩,UM⟩:=hq;obtain⟨u6,UN,Bn,xu⟩:=Ha (l:=X.stack) u5 uK r9.2.2.1 UI UJ r_.1 Bm;obtain⟨sf,Hc,xv,UO,Bo,_⟩:=r_.first
  have UP:xa sf cls Hc:=by
   obtain⟨o',vs',q1,q2,q3,q4⟩:=UM;have lB:h6.get? ea=some o':=q1;rw[xv] at lB;cases lB;rw[Bo] at q2;cases q2;exact⟨UO,Bo,q3,q4⟩
  have ne1:s1.heap.get? ea=none:=by
   cases q:s1.heap.get? ea with
   |none=>rfl
   |some o1=>
    by_cases He:ea∈bS X.stack
    ·obtain⟨o2,gY,hd2⟩:=(r_.2.2.1.mem He).2;rw[xv] at gY;cases gY;exact(hd2 _ Bo).elim
    ·have:=xu ea o1 q He sf xv;rw[r_.2.1] at this;cases this
  have u7:Un (bS X.stack) [] H1 (upd H' ea (.bK sf mG)) s1.heap h6:=⟨u6.keep,u6.slot,fun b o q n hx=>by
    rw[aI (fun z=>by rw[z,ne1] at q;cases q)];exact u6.free b o q n hx,u6.there,fun b xs q=>by
    have q':=u6.bC b xs q;rw[aI<|bQ q' fJ];exact q',fun b o v q=>by
    have q':=u6.fW b o v q;rw[aI<|bQ q' fJ];exact q',fun b ps q=>by
    obtain⟨more,q'⟩:=u6.gW b ps q;exact⟨more,by rw[aI (bQ q' fJ)];exact q'⟩⟩
  have UQ:bW X.prog X.w (upd H' ea<|.bK sf mG) h6:=UN.more fJ (UB xv);have I7:=I1.zS (s':={s' with heap:=h6}) (ch:=[]) os u7 UQ bare (fun b z=>absurd z zaj)
  have I8:Inv (X.alt (X.A.mark<|some<|.ref ea) false (X.pn++wv) fun _ _=>False) [] σ' (upd H' ea<|.bK sf mG) {s' with heap:=h6}:=I7.alt (A':=X.A.mark (some<|.ref ea)) (rZ:=false) (pW:=X.pn++wv) (jv:=[]) rfl (fun z=>nomatch z) (fun p hp=>zaa.mpr<|.inl (by rw[zae] at hp;exact hp))
  exact⟨_,I8,UD ea sf Hc σ' fJ I1.len UP⟩
 refine wpAny_mono (hb _ _ _ PassesOwn.looking P1 [] s σ H {nx:=D.nx,rt:=D.rt} (I.alt rfl I.ok.hd<|fun p hp=>by simpa using hp) h) (fun f s1 hs=>?_) fun e' s' hx=>hx
 cases f with
 |next=>
  obtain⟨σ',H',I',q⟩:=hs;exact EV wv s1 σ' H' D (I'.xq I.ok<|fun p hp=>by simpa using hp) q
 |brk=>obtain⟨_,_,_,z⟩:=hs;exact z.elim
 |cont=>obtain⟨_,_,_,z⟩:=hs;exact z.elim
 |ret v=>
  obtain⟨v',σ',H',I',r,q⟩:=hs;exact⟨v',σ',H',I'.xq I.ok<|fun p hp=>by simpa using hp,r,q⟩
theorem UR{x n:Str}{C:Addr}{i:Nat}{body:List Stmt}{b₀:Stmt}{mO:List Stmt}{tb:XK->TS}{th:Addr->TS}{np iR pos:Pos}(gA:X.stack=X.env::X.outer)(mM:X.env.frame=some X.env.locals)(hex:X.ex=[])
  (pV:Gl X x) (hd:(x==("__debug__":Str))=false) (jf:X.mg x=some (.ref C)) (nd:X.N.Nodup) (hN:X.N[i]?=some n) (nZ:X.env.scope.names.lookup n=some .local)
  (hb:∀(pn:List (Addr×Obj)) (xe:Value->Shared->Prop) (E:XK),PassesOwn (model X.prog X.w) X.A X.env xe->Passes (eQ X.prog X.w) (X.alt X.A X.calm pn xe) E->cP (X.alt X.A X.calm pn xe) body (tb E))
  (hh:∀(ea:Addr) (pn:List (Addr×Obj)),cP (X.alt (X.A.mark<|some<|.ref ea) false pn fun _ _=>False) (b₀::mO)<|th ea):
  PS X (.Try body [.ExceptHandler (some<|.Name x np) (some n) (b₀::mO) iR] [] [] pos) (oj X.K C i X.N.length tb th):=
 Hb gA mM hex pV hd jf hb fun ea wv D s5 σ' W ok hw hW=>codeAny_handlers_suite_as (wpAny_mono hw (fun _ s6 w=>by
  obtain⟨H8,I8,h8⟩:=hW s6 w;refine zR (X:=X.alt (X.A.mark<|some<|.ref ea) false (X.pn++wv) fun _ _=>False) (v:=.ref ea) I8 nd hN (.inl nZ) rfl (fun s9 I9=>?_)<|.inr nZ;refine wpAny_mono (hh ea (X.pn++wv) [] s9 _ _ {nx:=fun _ _=>False,rt:=D.rt} I9 h8) (fun f xx hs=>?_) fun _ _ z=>z.elim;cases f with
  |next=>obtain⟨_,_,_,z⟩:=hs;exact z.elim
  |brk=>obtain⟨_,_,_,z⟩:=hs;exact z.elim
  |cont=>obtain⟨_,_,_,z⟩:=hs;exact z.elim
  |ret v=>
   obtain⟨v',Hf,oz,Bp,r,q⟩:=hs;have Hg:Inv X wv Hf oz xx:=Bp.xq ok (fun p hp=>by simpa using hp)
   obtain⟨m,hn,_⟩:=Hg.loc;refine wpAny_nameGoes nZ hn (by rw[ok.kind];rfl) fun h' m' wa sb=>?_
   exact⟨v',_,oz,Hg.UC wa sb,r,q⟩) fun _ _ z=>z.elim)
theorem US{x:Str}{C:Addr}{body:List Stmt}{b₀:Stmt}{mO:List Stmt}{tb:XK->TS}{th:Addr->TS}{np iR pos:Pos}(gA:X.stack=X.env::X.outer)(mM:X.env.frame=some X.env.locals)(hex:X.ex=[])
  (pV:Gl X x) (hd:(x==("__debug__":Str))=false) (jf:X.mg x=some (.ref C))
  (hb:∀(pn:List (Addr×Obj)) (xe:Value->Shared->Prop) (E:XK),PassesOwn (model X.prog X.w) X.A X.env xe->Passes (eQ X.prog X.w) (X.alt X.A X.calm pn xe) E->cP (X.alt X.A X.calm pn xe) body (tb E))
  (hh:∀(ea:Addr) (pn:List (Addr×Obj)),cP (X.alt (X.A.mark<|some<|.ref ea) false pn fun _ _=>False) (b₀::mO)<|th ea):
  PS X (.Try body [.ExceptHandler (some<|.Name x np) none (b₀::mO) iR] [] [] pos) (oj X.K C X.N.length X.N.length tb th):=
 Hb gA mM hex pV hd jf hb fun ea wv D s5 σ' W ok hw hW=>codeAny_handlers_suite (wpAny_mono hw (fun _ s6 w=>by
  obtain⟨H8,I8,h8⟩:=hW s6 w;rw[List.set_eq_of_length_le (show σ'.length<=X.N.length from zbw I8.len)] at h8
  refine wpAny_mono (hh ea (X.pn++wv) [] s6 _ _ {nx:=fun _ _=>False,rt:=D.rt} I8 h8) (fun f xx hs=>?_) fun _ _ z=>z.elim;cases f with
  |next=>obtain⟨_,_,_,z⟩:=hs;exact z.elim
  |brk=>obtain⟨_,_,_,z⟩:=hs;exact z.elim
  |cont=>obtain⟨_,_,_,z⟩:=hs;exact z.elim
  |ret v=>
   obtain⟨v',Hf,oz,Bp,r,q⟩:=hs;exact⟨v',_,oz,Bp.xq ok (fun p hp=>by simpa using hp),r,q⟩) fun _ _ z=>z.elim)
end
def iS(A:Around)(H:Hp):Prop:= ∃e D,A.handled=some (.ref e)/\ExcAt H e D
def Hd(X:Cx):Prop:=iS X.A X.H₀
theorem ExcAt.keeps{H H':Hp}{e D:Addr}(h:ExcAt H e D)(k:∀b o u,H b=some (.bK o u)->H' b=some (.bK o u)):ExcAt H' e D:=by
 obtain⟨ob,vs,h1,h2⟩:=h;exact⟨ob,vs,k _ _ _ h1,h2⟩
theorem iS.keeps{A:Around}{H H':Hp}(h:iS A H)(k:∀b o u,H b=some (.bK o u)->H' b=some (.bK o u)):iS A H':=by
 obtain⟨e,D,h1,h2⟩:=h;exact⟨e,D,h1,h2.keeps k⟩
theorem iS.uH{P:Program}{w:World}{A:Around}{H:Hp}{h:Heap}(x:iS A H)(ok:bW P w H h):rX A h:=by
 obtain⟨e,D,h1,ob,vs,h2,h3⟩:=x;exact .inr ⟨e,ob,vs,h1,(ok e _ h2).1,h3.data,h3.Tb⟩
section
variable {X:Cx}{wv:List (Addr×Obj)}{σ:St}{H:Hp}{s:Shared}
theorem Hd.at(h:Hd X)(I:Inv X wv σ H s):iS X.A H:=iS.keeps h I.base.fW
theorem Hd.uH(h:Hd X)(I:Inv X wv σ H s):rX X.A s.heap:=(h.at I).uH I.aB
end
theorem UT{P:Program}{w:World}{K:Frag}{tg:Expr}(a it:Addr):AJ Hd P w K tg (eZ K a) [it] it (fun i h=>h.IsListIter it a i) where
 mem:=by simp
 obj:=(wm (P:=P) (w:=w) (K:=K) (tg:=tg) a it).obj
 keep:=(wm (P:=P) (w:=w) (K:=K) (tg:=tg) a it).keep
 item:=by
  intro X hP hw hK hc i wv s σ H E I hf st hg;subst hP hw hK;obtain⟨xs,x,hq,hx⟩:=hg;obtain⟨ao,rv,p,hz⟩:=I.list hq;obtain⟨u,hu,ru⟩:=rv.get hx;obtain⟨f0,f1,f2,f3,f4,f5⟩:=hf it (by simp)
  refine wpAny_pyNext_list_item st p.isList (x:=u) (by simpa using hu) fun h' jU sb=>?_
  have I1:Inv X wv σ H {s with heap:=h'}:=I.turned (t':=s.toks) (fun b o hb e=>(sb.2 b hb).trans e) f0 f1 f3 f4 f5
  obtain⟨o,e,c,d⟩:=id jU;exact⟨u,rfl,zY (s:={s with heap:=h'}) e c d (by decide) ⟨x,H,I1,ru,⟨rfl,fun ys hy=>by rw[I.we hy hq];exact hx⟩,jU,fun b hb=>(hf b hb).1⟩⟩
 done:=by
  intro X hP hw hK hc i wv s σ H E I hf st hg;subst hP hw hK;obtain⟨xs,hq,hx⟩:=hg;obtain⟨ao,rv,p,hz⟩:=I.list hq;obtain⟨f0,f1,f2,f3,f4,f5⟩:=hf it (by simp)
  have hl:=rv.length;exact Ue (hc.uH I) st p.isList (by simp;lia) fun h' eb=>⟨rfl,I.turned (t':=s.toks) (fun b o hb e=>eb b o hb e) f0 f1 f3 f4 f5⟩
 self:=(wm (P:=P) (w:=w) (K:=K) (tg:=tg) a it).self
section
variable {X:Cx}{tg:Expr}
theorem UU{l:Expr}{tl:TE}(hl:PE X l tl):wN Hd X tg l (ua X.K tl):=by
 intro wv s σ H R I h;refine aG (hl wv s σ H _ I h) fun v s1 ⟨x,H1,I1,r1,q1⟩=>?_;obtain⟨a,e,⟨xs,hq⟩,q⟩:=q1;subst e;cases r1;obtain⟨ao,rv,p,hz⟩:=I1.list hq;refine wpAny_pyIter_list p.isList ?_;refine⟨s1.heap.objs.size,[s1.heap.objs.size],_,_,H1,rfl,I1.kept (t':=s1.toks) fun b o e=>Heap.get?_push_of_some _ e,UT a _,⟨_,Heap.get?_push_size _ rfl,rfl,rfl⟩,fun b hb=>?_,q⟩;have e:b=s1.heap.objs.size:=by simpa using hb
 subst e;exact I1.wk (zqR _)<|I1.aB.fresh<|zqR _
theorem UW{X:Cx}:∀H,iS X.A H->∀Xc:Cx,Xc.A=X.A->Xc.calm=X.calm->Xc.H₀=H->Hd Xc:=fun H h Xc a _ b=>by
 show iS Xc.A Xc.H₀;rw[a,b];exact h
theorem UX:dD X (.builtin "isinstance") (rR X.K):=by
 intro wv s σ H xs us Q I r h
 match xs,h with
 |[.ref ea,c],h=>
  obtain⟨D,b,⟨ob,vs,h1,h2⟩,hC,hc,hk,hq⟩:=h;cases r with
  |cons r1 r=>
   cases r with
   |cons r2 r=>
    cases r
    rename_i u1 u2
    cases (show u1=Value.ref ea from r1)
    have e2:u2=cV c:=by
     rcases hc with⟨C,rfl⟩|⟨n,rfl⟩
     ·exact r2
     ·exact r2
    subst e2;have at_:=(I.aB ea _ h1).1;have inst:InstAt s.heap ea ob D none:=⟨at_,h2.cls,by unfold PySem.W.notCls;rw[h2.data],by rw[h2.dict];trivial⟩
    exact kia_one (Uk hC.ux hC.uz hC.hk hC.ha hC.hn hC.nV hC.hm hC.hb) I.cX inst hk (fun z=>nomatch z) fun tk=>⟨.bl b,H,I.tok tk,rfl,hq⟩
end
structure iy (k:Nat) (A:Around):Prop where
 dp:A.depth+3*k+5<recursionLimit
 un:A.units+16*k+200<cLine
theorem dE.h{k:Nat}{A:Around}(r:dE k A):iy k A:=⟨r.dp,r.un⟩
theorem iy.mark{k:Nat}{A:Around}(r:iy k A)(v:Option Value):iy k (A.mark v):=⟨r.dp,r.un⟩
theorem iy.deeper{k:Nat}{A:Around}(r:iy (k+1) A)(env:Env):iy k (A.deeper env):=
 ⟨by have:=r.dp;show A.depth+1+3*k+5<_;lia,by have:=r.un;show A.units+3+16*k+200<_;lia⟩
theorem iy.depth{k:Nat}{A:Around}(r:iy k A):A.depth<recursionLimit:=by have:=r.dp;lia
theorem iy.units{k:Nat}{A:Around}(r:iy k A):A.units+64<cLine:=by have:=r.un;lia
def UY(outer:List Env)(P:Program)(w:World)(H:Hp)(s:Shared)(Q:VK)(r:Result)(s':Shared):Prop:=
 match r with
 |.ok (.ret u)=>CE outer P w H s Q u s'
 |_=>False
structure pY (P:Program) (w:World) (K:Frag) (mg:Str->Option Value) (base:Heap) (k:Nat) (f:Addr) (fd:FuncData) (ps:List Str) (sp:Sp):Prop where
 len:∀vs H Q E,sp vs H Q E->vs.length=ps.length
 run:∀A outer s H (args:Args) us vs Q,iy k A->iS A H->mr P w K mg base A outer s H->BindsTo s fd args (ps.zip us)->Vals vs us->sp vs H Q E0->
  codeAny (model P w) A (.call (.ref f) args) (UY outer P w H s Q) s
theorem pY.mono{P:Program}{w:World}{K:Frag}{mg:Str->Option Value}{base:Heap}{j k:Nat}{f:Addr}{fd:FuncData}{ps:List Str}{sp:Sp}(F:pY P w K mg base j f fd ps sp)(h:j<=k):pY P w K mg base k f fd ps sp:=
 ⟨F.len,fun A outer s H args us vs Q hr=>F.run A outer s H args us vs Q ⟨by have:=hr.dp;lia,by have:=hr.un;lia⟩⟩
def xy(CX:cg)(P:Program)(w:World)(K:Frag)(mg:Str->Option Value)(base:Heap)(N:List Str)(qual:Str)(scope:Scope)(f:Addr)(cd:Value)(A:Around)(outer:List Env)(s:Shared)(H:Hp):Cx:=
 (mz CX P w K mg base N qual scope f cd {A with handled:=none} outer s H E0).alt (A.deeper<|envOfC qual scope s.heap.objs.size f cd) false [] fun _ _=>False
theorem UZ{CX:cg}{P:Program}{w:World}{K:Frag}{mg:Str->Option Value}{base:Heap}{k:Nat}{f:Addr}{name qual:Str}{params:Arguments}{body:List Stmt}{scope:Scope}{dV kV doc pm bo ct oc:Value}{an od:Option Addr}
  {gX:Array (Option Value)}{N ps:List Str}{sp:Sp} (lk:K.lookup f=some ⟨oc,od,.func<|PySem.W.fnOf name qual params body scope dV kV doc pm an bo ct,gX⟩) (iK:PySem.W.codeIn K bo qual=true) (S:nW N ps scope)
  (len:∀vs H Q E,sp vs H Q E->vs.length=ps.length)
  (Ae:∀A outer s H vs Q,iy k (A.deeper (envOfC qual scope s.heap.objs.size f bo))->iS A H->sp vs H Q E0->
   ∃t,cP (xy CX P w K mg base N qual scope f bo A outer s H) body t/\t {nx:=fun _ H'=>Q .az H',rt:=Q} (start N vs) H):
  pY P w K mg base (k+1) f (PySem.W.fnOf name qual params body scope dV kV doc pm an bo ct) ps sp:=by
 refine⟨len,fun A outer s H args us vs Q hr hh e0 hb r jd=>?_⟩;have hl:=len _ _ _ _ jd;have KX:K.In s.heap:=e0.mod.pz.keeps fun b o e=>(e0.bs b o e).1;have lim:s.heap.NoLimit:=e0.mod.nolimit.keeps fun b o e=>(e0.bs b o e).1;have Af:∀y∈ps.zip us,scope.names.lookup y.1=some .local\/(scope.names.lookup y.1=some .cell/\((cellsFrom (s.heap.objs.size+1) scope.names []).lookup y.1).isSome=true):=fun⟨n,v⟩ hy=>by
  rcases S.par n (zbP hy).1 with q|q
  ·exact .inl q
  ·exact .inr ⟨q,cellsFrom_some _ _ _<|.inl q⟩
 refine codeAny_call_function hr.depth (KX _ _ lk) rfl S.co S.gen rfl (codeRec_of KX iK)<|hb _ _ _ _ ?_;refine wpAny_newFunctionEnv_cells S.kind Af fun env he s1 x=>?_;subst he;refine⟨lim.keeps x.toInCall.keep,codeAny_func ?_⟩;obtain⟨t,ht,hq⟩:=Ae A outer s H vs Q (hr.deeper _) hh jd;have U0:mr P w K mg base {A with handled:=none} outer s H:=⟨e0.frames,e0.mod,e0.bs,e0.nU,e0.ju,e0.pA,e0.aB,e0.bare⟩
 have I0:Inv (mz CX P w K mg base N qual scope f bo {A with handled:=none} outer s H E0) [] (start N vs) H s1:=FF S rfl U0 hl r x
 have I:Inv (xy CX P w K mg base N qual scope f bo A outer s H) [] (start N vs) H s1:=I0.alt rfl (fun z=>nomatch z) (fun p hp=>hp);refine wpAny_mono (ht [] s1 (start N vs) H _ I hq) (fun fl s' hs=>?_) fun e s' hs=>hs.elim;have fin:∀{σ':St}{H':Hp}{v:V}{u:Value},Inv (xy CX P w K mg base N qual scope f bo A outer s H) [] σ' H' s'->RelV v u->Q v H'->CE outer P w H s Q u s':=
  fun {σ' H' v u} J rv q=>⟨v,H',J.os,J.bare,J.base,J.aB,rv,q⟩
 cases fl with
 |ret u=>
  obtain⟨v,σ',H',J,rv,q⟩:=hs;exact fin J rv q
 |next=>
  obtain⟨σ',H',J,q⟩:=hs;exact fin (v:=V.az) (u:=Value.none) J rfl q
 |brk=>
  obtain⟨_,_,_,q⟩:=hs;exact False.elim q
 |cont=>
  obtain⟨_,_,_,q⟩:=hs;exact False.elim q
theorem U1{CX:cg}{P:Program}{w:World}{K:Frag}{mg:Str->Option Value}{base:Heap}{N:List Str}{qual:Str}{scope:Scope}{f:Addr}{cd:Value}{A:Around}{outer:List Env}{s:Shared}{H:Hp}(h:iS A H):Hd (xy CX P w K mg base N qual scope f cd A outer s H):=h
section
variable {X:Cx}{k:Nat}{f:Addr}{fd:FuncData}{ps:List Str}{sp:Sp}{x:Str}{p pos:Pos}{e:Expr}{ta:TE}{hv:Option Addr}
theorem U2(F:pY X.prog X.w X.K X.mg X.base k f fd ps sp)(hr:iy k X.A)(hg:Gl X x)(hm:X.mg x=some (.ref f))(hk:PySem.W.keepIn X.K (.ref f)=true)(hb:Binds X.K fd ps [])(hh:∀e,hv=some e->X.A.handled=some (.ref e))
  (ha:PE X e ta) (hs:noStar e=true) (mw:(x==("__debug__":Str))=false):PE X (.Call (.Name x p) [e] [] pos) (GO sp hv<|dF ta iq):=by
 intro wv s σ H Q I h;have he:starEach [e] X.env=(false,eval e X.env)::starEach [] X.env:=by cases e<;>first|rfl|cases hs
 refine wpAny_Call_Name_kw<|t_ I hg hm ?_ mw;have hA:PA X [e] (dF ta iq):=jW ha pK he;refine callWith_K (h₀:=X.base) I.ok.mod.pz hk (aG (hA pos wv s σ H _ I h) fun us s1 ⟨vs,H1,I1,r,⟨ea,D,h1,h2⟩,q⟩=>⟨I1.cX,?_⟩) he rfl;have r2:Vals vs us:=r;have hl:us.length=ps.length:=by rw[<-r2.length];exact F.len _ _ _ _ q
 have rO:=hb s1 us I1.cX (by rw[zae];exact hl)
 rw[zae] at rO;refine wpAny_call<|codeAny_mono (F.run X.A X.stack s1 H1 ⟨us,[]⟩ us vs Q hr ⟨ea,D,hh ea h1,h2⟩ I1.Aa rO r2 q) fun r s' hq=>?_;cases r with
 |error e=>exact False.elim hq
 |ok fl=>
  cases fl with
  |ret u=>exact I1.after hq
  |next=>exact False.elim hq
  |brk=>exact False.elim hq
  |cont=>exact False.elim hq
end
def Hh(CX:cg)(X:Cx)(x:Str)(sp:Sp):Prop:=
 ∃k f fd ps,cI X.prog X.w X.K X.mg X.base CX k f fd ps sp/\dE k X.A/\X.mg x=some (.ref f)/\PySem.W.keepIn X.K (.ref f)=true/\Binds X.K fd ps []
def xB(CX:cg)(X:Cx)(C:Addr)(m:Str)(sp:Sp):Prop:=
 fY X.K C/\∃k f fd ps,Meth X.K C m f/\cI X.prog X.w X.K X.mg X.base CX k f fd ps sp/\dE k X.A/\Binds X.K fd ps []
def Hi(CX:cg)(X:Cx)(x:Str)(C:Addr)(sp:Sp):Prop:=
 ∃k f fd ps,Mk X.K C f/\cI X.prog X.w X.K X.mg X.base CX k f fd ps sp/\dE (k+1) X.A/\X.mg x=some (.ref C)/\Binds X.K fd ps []
def Hj(X:Cx)(x:Str)(sp:Sp):Prop:=
 ∃k f fd ps,pY X.prog X.w X.K X.mg X.base k f fd ps sp/\iy k X.A/\X.mg x=some (.ref f)/\PySem.W.keepIn X.K (.ref f)=true/\Binds X.K fd ps []
def Hk(X:Cx)(x:Str)(C:Addr):Prop:= ∃bm B newId rY,OwnCls x C bm newId X.mg X.base/\ExcBaseFacts B newId rY bm
structure Good (CX:cg) (S:cJ) (Γ:bx) (X:Cx):Prop where
 N:X.N=S.N
 sc:X.env.scope=S.sc
 K:X.K=Γ.K
 calm:S.md=0->X.calm=true
 units:X.A.units+64<cLine
 fns:S.md=0->∀j x,S.fn[j]?=some x->Hh CX X x (Γ.fs j)
 eE:∀j x,S.gn[j]?=some x->∃u,X.mg x=some u/\RelV (Γ.gv j) u
 cC:∀x,S.bl.contains x=true->X.mg x=none
 pass:Passes CX X Γ.E
 lE:∀outer H s e s',CX outer H s E0 e s'->False
 mP:∀p kvs,Γ.sd p kvs->∀h:Heap,X.K.In h->∃vs,KV kvs vs/\h.DictOf (dS X.prog X.w) p vs
 mQ:S.md=0->∀j m,S.mn[j]?=some m->xB CX X (Γ.ms j).1 m (Γ.ms j).2
 oA:S.md=0->∀j x,S.kn[j]?=some x->Hi CX X x (Γ.kt j).1 (Γ.kt j).2
 si:∀j x,S.en[j]?=some x->Hk X x (Γ.ex j)
 mR:∀j x,S.hn[j]?=some x->Hj X x (Γ.hs j)
 oB:∀e,Γ.hv=some e->X.A.handled=some (.ref e)
 pZ:S.md=1->Hd X
theorem xC{S:cJ}(h:(if S.md=0 then 0 else 2)=0):S.md=0:=by
 split at h
 ·assumption
 ·cases h
section
variable {CX:cg}{S:cJ}{Γ:bx}{X:Cx}
theorem Good.inner(G:Good CX S Γ X)(c:uF)(ln:List Str)(fv:List (Str×Nat))(ex:List Addr)(C:Addr)(s:Shared)(H:Hp):
  Good CX (G5 S c ln fv) Γ.calm (iw X c.sc (ln++fv.map (·.1)) ex C s H) where
 N:=rfl
 sc:=by
  show relabel c.sc X.env=AZ c.sc S.sc;rw[<-G.sc];rfl
 K:=G.K
 calm:=fun h=>G.calm (xC h)
 units:=G.units
 fns:=fun m j x h=>G.fns (xC m) j x h
 eE:=G.eE
 cC:=G.cC
 pass:=fun _ _ _ _ _ _ _ h=>(G.lE _ _ _ _ _ h).elim
 lE:=G.lE
 mP:=G.mP
 mQ:=fun z j m h=>G.mQ (xC z) j m h
 oA:=fun z j x h=>G.oA (xC z) j x h
 si:=fun j x h=>by simp[G5] at h
 mR:=fun j x h=>G.mR j x h
 oB:=fun e h=>G.oB e h
 pZ:=fun h=>by
  have h':(if S.md=0 then 0 else 2)=1:=h
  split at h'<;>cases h'
theorem Good.gl(G:Good CX S Γ X){x:Str}(h:mL S.sc x=true):Gl X x:=by
 show X.env.scope.names.lookup x=_;rw[G.sc];exact TH h
theorem dn{e:Expr}{es:List Expr}{env:Env}(h:noStar e=true):starEach (e::es) env=(false,eval e env)::starEach es env:=by
 cases e<;>first|rfl|cases h
theorem pO{o:Expr}{x:Str}{env:Env}(h:ow o=true):attributeBase o x env (eval o env)=eval o env:=by
 unfold attributeBase
 split
 ·cases h
 ·rfl
theorem uL{e:Expr}{env:Env}(h:uG e=true):∀x,foldedSetIterable e env x=pure x:=by
 intro x;cases e<;>first|rfl|cases h
def gg(es:List Expr):Bool:=es.all noStar
theorem jC(env:Env)(pos:Pos):∀(es:List Expr),gg es=true->(backTo pos<|starEach es env).any (·.1)=false
 |[],h=>rfl
 |e::es,h=>by
  simp only[gg,zbk,zaf] at h
  rw[dn h.1];have ih:=jC env pos es h.2;show(false ||(backTo pos<|starEach es env).any (·.1))=false;rw[ih];rfl
theorem Bq(env:Env)(pos:Pos):∀(es:List Expr),gg es=true->(backTo pos<|starEach es env).all (fun x=> !x.1)=true
 |[],h=>rfl
 |e::es,h=>by
  simp only[gg,zbk,zaf] at h
  rw[dn h.1];have ih:=Bq env pos es h.2;show(!false && (backTo pos<|starEach es env).all (fun x=> !x.1))=true;rw[ih];rfl
theorem dq{e:Expr}{es:List Expr}(h:gg (e::es)=true):noStar e=true/\gg es=true:=by
 simp only[gg,zbk,zaf] at h
 exact h
theorem Br(G:Good CX S Γ X){c:uF}{ln:List Str}{fv:List (Str×Nat)}(h:A9 S c ln fv=true):
  jY X c.sc ln fv/\(∀x∈ln,c.sc.names.lookup x=some .local)/\(ln++fv.map (·.1)).Nodup/\uG c.iter=true:=by
 simp only[A9,zaf,decide_eq_true_eq,zaX,Bool.or_eq_true] at h
 obtain⟨⟨⟨⟨⟨⟨⟨h1,h2⟩,h3⟩,h4⟩,h5⟩,h6⟩,h7⟩,h8⟩:=h;refine⟨⟨h1,fun y hy=>h2 y hy,fun y hy hl=>?_,fun y hy hf=>?_,fun p hp=>?_⟩,h6,h7,h8⟩
 ·rcases h3 y hy with z|z
  ·exact absurd hl z
  ·exact z
 ·show X.env.scope.names.lookup y.1=_\/X.env.scope.names.lookup y.1=_;rw[G.sc];rcases h4 y hy with(z|z)|z
  ·exact absurd hf z
  ·exact .inl z
  ·exact .inr z
 ·rw[G.N];exact h5 p hp
theorem Hl(hc:X.calm=true){c:uF}{tk:Option Nat}{ln:List Str}{fv:List (Str×Nat)}(h:A0 tk c.tg=some ln)(hl:∀x∈ln,c.sc.names.lookup x=some .local)(hn:(ln++fv.map (·.1)).Nodup):
  uq X c.sc ln fv c.tg tk:=by
 unfold A0 at h
 split at h
 ·rename_i x p he
  cases h;rw[he];exact GH (hl x (by simp)) hn
 ·rename_i x p y q k pos he
  cases h;rw[he];exact SD hc (hl x (by simp)) (hl y (by simp)) hn
 ·cases h
theorem U3{xs:List V}{H:Hp}{Q:VK}{K:Frag}(h:mJ K .int xs H Q):(∃i,xs=[.int i]/\Q (.int i) H)\/∃k,xs=[.bl k]/\Q (.int (if k then 1 else 0)) H:=by
 match xs,h with
 |[.int i],h=>exact .inl ⟨i,rfl,h⟩
 |[.bl k],h=>exact .inr ⟨k,rfl,h⟩
theorem Hm{K:Frag}{x:V}{H:Hp}{Q:Nat->Prop}(h:uk K x H Q):∃n,Fs K x H n/\Q n:=by
 match x,h with
 |.str y,h=>exact⟨_,⟨h.1,rfl⟩,h.2⟩
 |.ref p,.inl ⟨xs,a,b⟩=>exact⟨_,.inl ⟨xs,a,rfl⟩,b⟩
 |.ref p,.inr ⟨xs,a,b⟩=>exact⟨_,.inr ⟨xs,a,rfl⟩,b⟩
inductive U4 (X:Cx) (b:mH):Prop where
 |fn (id:String) (hv:bootBuiltins b.nm=some (.builtin id)) (hc:dD X (.builtin id) (mJ X.K b))
 |ty (T:String) (hv:bootBuiltins b.nm=some (.type T)) (hc:dD X (.type T) (mJ X.K b))
theorem boot_min:bootBuiltins "min"=some (.builtin "min"):=by decide+kernel
theorem boot_max:bootBuiltins "max"=some (.builtin "max"):=by decide+kernel
theorem boot_abs:bootBuiltins "abs"=some (.builtin "abs"):=by decide+kernel
theorem boot_sum:bootBuiltins "sum"=some (.builtin "sum"):=by decide+kernel
theorem Hn:bootBuiltins "isinstance"=some (.builtin "isinstance"):=by decide+kernel
theorem U5:bootBuiltins "int"=some (.type "int"):=by decide+kernel
theorem Bs:bootBuiltins "list"=some (.type "list"):=by decide+kernel
theorem U6:bootBuiltins "tuple"=some (.type "tuple"):=by decide+kernel
theorem Ho(f:Nat->Int)(lt:Nat->Nat->Bool)(h:∀i j,lt i j=decide (f i<f j)):∀n,argBest lt n<=n/\∀i,i<=n->f (argBest lt n)<=f i
 | 0=>⟨zqR _,fun i hi=>by
   obtain rfl:i=0:=by lia
   exact zaT _⟩
 |n+1=>by
  obtain⟨a,b⟩:=Ho f lt h n;have e:argBest lt (n+1)=if lt (n+1) (argBest lt n)=true then n+1 else argBest lt n:=rfl
  rw[e,h]
  split
  ·rename_i q
   have q:=of_decide_eq_true q;refine⟨zqR _,fun i hi=>?_⟩;by_cases z:i=n+1
   ·rw[z];exact zaT _
   ·have:=b i (by lia);lia
  ·rename_i q
   have q:¬f (n+1) <f (argBest lt n):=fun z=>q (zqT z);refine⟨by lia,fun i hi=>?_⟩
   by_cases z:i=n+1
   ·rw[z];lia
   ·exact b i (by lia)
theorem Hq{xs:Array (Int×Tok)}{i:Nat}(h:i<xs.size):numAt xs i=xs[i].1:=by
 unfold numAt;rw[zbm h];rfl
theorem U7{xs:Array (Int×Tok)}{i:Nat}(h:i<xs.size):numAt xs i∈xs.toList.map (·.1):=by
 rw[Hq h];exact zaY.mpr ⟨xs[i],by simp,rfl⟩
theorem U8{xs:Array (Int×Tok)}{n:Int}(h:n∈xs.toList.map (·.1)):∃i,i<xs.size/\n=numAt xs i:=by
 obtain⟨y,hy,rfl⟩:=zaY.mp h;obtain⟨i,hi,rfl⟩:=List.getElem_of_mem hy;have fI:i<xs.size:=by simpa using hi
 exact⟨i,fI,by rw[Hq fI];simp⟩
theorem U9{wv:List (Addr×Obj)}{σ:St}{H:Hp}{s:Shared}{p:Addr}{ns:List Int}(I:Inv X wv σ H s)(hq:av X.K H p (ns.map V.int)):∃xs:Array (Int×Tok),s.heap.IsList p (intItems xs)/\ns=xs.toList.map (·.1):=by
 obtain⟨ao,rv,pl,hz⟩:=I.list hq;have hi:=intsAre_of rv;obtain⟨xs,hx⟩:=hi.allInts.items;refine⟨xs,hx ▸ pl.isList,?_⟩;rw[<-nums_intItems,<-hx];exact(show numsOf ao.toArray.toList=ns from hi.numsOf).symm
theorem U_(hc:X.calm=true):dD X (.builtin "min") (fun xs H Q=>∃p ns,xs=[.ref p]/\av X.K H p (ns.map V.int)/\ns≠ []/\∀m:Int,m∈ns->(∀n∈ns,m<=n)->Q (.int m) H):=by
 intro wv s σ H xs us Q I r h;obtain⟨p,ns,rfl,hq,jA,q⟩:=h;obtain⟨u,rfl,ru⟩:=vals1 r;cases ru;obtain⟨xs,hl,rfl⟩:=U9 I hq;have sz:0<xs.size:=Nat.pos_of_ne_zero fun z=>jA (by rw[Array.eq_empty_of_size_eq_zero z];rfl)
 refine min_intList (I.ok.hd hc) hl sz fun v h' tk hv hk=>?_;obtain⟨t,rfl⟩:=intItems_at hv;obtain⟨b1,b2⟩:=Ho (numAt xs) (fun i j=>decide<|numAt xs i<numAt xs j) (fun _ _=>rfl) (xs.size - 1);refine⟨.int _,H,I.kept (t':=tk) hk,⟨t,rfl⟩,q _ (U7 (by lia)) fun n hn=>?_⟩
 obtain⟨i,hi,rfl⟩:=U8 hn;exact b2 i (by lia)
theorem Vb{x:Str}{acc:Array Value}(h:ItemsOf (SignAt x) acc x.cps.size):Vals (signs x) acc.toList:=by
 have go:∀(l:List Nat) (us:List Value),us.length=l.length->(∀(j:Nat) (v:Value),us[j]?=some v->∃(c:Nat) (t:Tok),l[j]?=some c/\v=Value.str ⟨#[c]⟩ t)->Vals (l.map fun c=>V.str ⟨#[c]⟩) us:=by
  intro l
  induction l with
  |nil=>
   intro us hl _;rw[zaH.mp hl];exact .nil
  |cons c l ih=>
   intro us hl hv;cases us with
   |nil=>cases hl
   |cons u us=>
    obtain⟨c',t,e1,e2⟩:=hv 0 u rfl;have pQ:c=c':=by simpa using e1
    subst pQ;exact .cons ⟨t,e2⟩ (ih us (by simpa using hl) fun j v hj=>by
     obtain⟨c2,t2,g1,g2⟩:=hv (j+1) v (by simpa using hj)
     exact⟨c2,t2,by simpa using g1,g2⟩)
 refine go x.cps.toList acc.toList ?_ fun j v hj=>?_
 ·have:=h.1;simpa using this
 ·obtain⟨c,t,e1,e2⟩:=h.2 j v (by simpa using hj)
  exact⟨c,t,by simpa using e1,e2⟩
theorem Vc(x:Str):(signs x).length=x.length:=by simp[signs,Str.length]
theorem Vd(hc:X.calm=true):dD X (.type "list") (fun xs H Q=>∃x,xs=[.str x]/\x.length<=sizeLine/\∀l,H l=none->Q (.ref l) (upd H l<|.lst<|signs x)):=by
 intro wv s σ H xs us Q I r h;obtain⟨x,rfl,hx,q⟩:=h;obtain⟨u,rfl,t,rfl⟩:=vals1 r;refine call_list_str (I.ok.hd hc) x t (fun h' tk kZ c' hk e gI=>?_) hx;have rv:=Vb gI;exact⟨.ref s.heap.objs.size,_,I.laid (t':=tk) hk (zqR _) (show cA X.prog X.w _ h' _ (.lst<|signs x) from⟨by rw[Vc];exact hx,kZ.toList,c',rv,by simpa using e⟩),rfl,q _<|I.aB.fresh<|zqR _⟩
theorem Ve(hc:X.calm=true)(b:mH):U4 X b:=by
 cases b with
 |len=>exact .fn "len" boot_len (dD.imp Ft fun xs H Q h=>by
   rcases xs with _|⟨x,_|⟨_,_⟩⟩ <;>(try exact False.elim h)
   obtain⟨n,h1,h2⟩:=Hm (Q:=fun n=>Q (.int n) H) h;exact⟨x,n,rfl,h1,h2⟩)
 |min=>exact .fn "min" boot_min (dD.imp ((Qk hc).or (U_ hc)) fun xs H Q h=>by
   match xs,h with
   |[.int i,.int j],h=>exact .inl ⟨i,j,rfl,h⟩
   |[.ref p],⟨ns,h1,h2,h3⟩=>exact .inr ⟨p,ns,rfl,h1,h2,h3⟩)
 |max=>exact .fn "max" boot_max fun _ _ _ _ xs _ _ _ _ h=>by rcases xs with _|⟨y0,_|⟨y1,_⟩⟩ <;>first|exact False.elim h| (cases y0<;>exact False.elim h)
 |sum=>exact .fn "sum" boot_sum (dD.imp (SX hc) fun xs H Q h=>by
   rcases xs with _|⟨x,_|⟨_,_⟩⟩ <;>(try exact False.elim h) <;>cases x<;>(try exact False.elim h)
   obtain⟨ns,h1,h2⟩:=h;exact⟨_,ns,rfl,h1,h2⟩)
 |abs=>exact .fn "abs" boot_abs fun _ _ _ _ xs _ _ _ _ h=>by rcases xs with _|⟨y0,_|⟨y1,_⟩⟩ <;>first|exact False.elim h| (cases y0<;>exact False.elim h)
 |int=>exact .ty "int" U5 (dD.imp Ql fun xs H Q h=>U3 h)
 |list=>exact .ty "list" Bs (dD.imp (Q7.or (Vd hc)) fun xs H Q h=>by
   rcases xs with _|⟨x,_|⟨_,_⟩⟩ <;>(try exact False.elim h) <;>cases x<;>(try exact False.elim h)
   ·exact .inr ⟨_,rfl,h.1,h.2⟩
   ·obtain⟨ys,h1,h2⟩:=h;exact .inl ⟨_,ys,rfl,h1,h2⟩)
 |tuple=>exact .ty "tuple" U6 fun _ _ _ _ xs _ _ _ _ h=>by rcases xs with _|⟨y0,_|⟨y1,_⟩⟩ <;>first|exact False.elim h| (cases y0<;>exact False.elim h)
structure Vf (X:Cx) (m:iO) (id:String):Prop where
 pa:PlainAttrs (uE m)
 slot:Slot (uE m) m.nm id
 ty:typeOf (.builtin id)=pure (.type "method_descriptor")
 mt:rG X id (xf X.K m)
theorem Vg{P:Program}{w:World}{k:Key}{u:Value}(r:RelV (kV k) u):(dS P w).is k u=true:=by
 cases k with
 |inl i=>obtain⟨t,e⟩:=(show ∃t,u=Value.int i t from r);subst e;exact EB P w i t
 |inr x=>obtain⟨t,e⟩:=(show ∃t,u=Value.str x t from r);subst e;exact vV P w x t
theorem Vh{kvs:List (Key×V)}{vs:List (Key×Value)}(r:KV kvs vs)(k:Key){v:V}(h:mK kvs k=some v):∃u,valueAt vs k=some u/\RelV v u:=by
 unfold KV at r
 induction r with
 |nil=>cases h
 | @cons p q ps qs hh t ih=>
  obtain⟨h1,h2⟩:=hh;by_cases e:p.1=k
  ·have e':q.1=k:=h1.symm.trans e;have b:valueAt (q::qs) k=some q.2:=by simp[valueAt,zaN,e']
   have a:mK (p::ps) k=some p.2:=by simp[mK,zaN,e]
   rw[a] at h;cases h;exact⟨_,b,h2⟩
  ·have e':¬q.1=k:=fun z=>e (h1.trans z);have b:valueAt (q::qs) k=valueAt qs k:=by simp[valueAt,zaN,e']
   have a:mK (p::ps) k=mK ps k:=by simp[mK,zaN,e]
   rw[a] at h;rw[b];exact ih h
theorem Vi{sd:Addr->List (Key×V)->Prop}(Bt:∀p kvs,sd p kvs->∀h:Heap,X.K.In h->∃vs,KV kvs vs/\h.DictOf (dS X.prog X.w) p vs):kW X (GY sd):=by
 intro value slice wv s σ H x y v u Q I rx ry h hs;obtain⟨p,kvs,k,z,rfl,rfl,hq,he,q⟩:=h;cases rx;obtain⟨vs,r,dd⟩:=Bt p kvs hq s.heap I.cX;obtain⟨w,ew,je⟩:=Vh r k he;exact subscriptTail_builtinR (x:=w) dd.mapOf.typeIs PySem.F.slot_dict_getitem.lookup
  (wpAny_getItem_of (Q:=fun r s'=>r=w/\EP X wv σ Q r s') (Vg ry) dd.mapOf ew ⟨rfl,z,H,I.tok _,je,q⟩) hs
theorem Vj{sd:Addr->List (Key×V)->Prop}(Bt:∀p kvs,sd p kvs->∀h:Heap,X.K.In h->∃vs,KV kvs vs/\h.DictOf (dS X.prog X.w) p vs):kW X (lA X.K sd):=QV.or (QW.or<|QX.or<|Vi Bt)
theorem Vk:rG X "list.index" (fun x vs H Q=>∃l y xs,x=.ref l/\vs=[y]/\av X.K H l xs/\gZ y=true/\xs.all gZ=true/\dm y xs=true/\Q (.int (xs.findIdx (fun z=>e9 z y):Nat)) H):=by
 intro wv s σ H x vs v us Q I rx rv h;obtain⟨l,y,xs,rfl,rfl,hq,fy,fs,oy,q⟩:=h;cases rx;obtain⟨u,rfl,ru⟩:=vals1 rv;obtain⟨ao,r,⟨⟨cls,dd,data,sl⟩,n,ho,hc,hd0,hd⟩,hz⟩:=I.list hq
 simp only at hc hd
 subst hc hd;have hlen:=r.length;have e:∀j (h1:j<ao.length) (h2:j<xs.length),fQ y ao[j]=e9 xs[j] y:=fun j h1 h2=>by
  obtain⟨w,e1,r1⟩:=r.get (i:=j) (x:=xs[j]) (by simp[h2])
  have e2:=zar h1;rw[e1] at e2;rw[<-zao e2];exact An r1<|zaX.mp fs _<|List.getElem_mem h2
 have hj:xs.findIdx (fun z=>e9 z y) <xs.length:=List.findIdx_lt_length.mpr (List.any_eq_true.mp oy);have hn:=pI;refine call_meets PySem.F.slot_list_index ⟨_,ho,rfl⟩ PySem.F.entry_list_index (PySem.F.args_list_index_2 _ _)
  (PySem.SeqAt.list_indexAt l ao.toArray n dd sl u (fQ y) (xs.findIdx fun z=>e9 z y) (by simp;lia) (by lia) ?_ ?_) ⟨ho,fun z mS=>rH ru fy r fs z (by simpa using mS),⟨.int _,H,I.tok _,⟨_,rfl⟩,q⟩⟩
 ·show fQ y ao[xs.findIdx fun z=>e9 z y]=true;rw[e _ (by lia) hj]
  exact List.findIdx_getElem (w:=hj)
 ·intro j Vl aN;show fQ y ao[j]=false;rw[e j (by simpa using Vl) (by lia)]
  simpa using List.not_of_lt_findIdx aN
theorem Hr(m:iO):∃id,Vf X m id:=by
 cases m with
 |append=>exact⟨_,F.plainAttrs_list,F.slot_list_append,F.type_list_append,fun wv s σ H x xs v us Q I rx rv h=>by
   cases x<;>(try exact False.elim h) <;>rcases xs with _|⟨y0,_|⟨_,_⟩⟩ <;>(try exact False.elim h)
   obtain⟨zs,h1,h2,h3⟩:=h;exact Rh wv s σ H _ _ v us Q I rx rv ⟨_,zs,_,rfl,rfl,h1,h2,h3⟩⟩
 |pop=>exact⟨_,F.plainAttrs_list,F.slot_list_pop,F.type_list_pop,fun wv s σ H x xs v us Q I rx rv h=>by
   cases x<;>(try exact False.elim h) <;>rcases xs with _|⟨_,_⟩ <;>(try exact False.elim h)
   obtain⟨zs,y,h1,h2,h3⟩:=h;exact Rl wv s σ H _ _ v us Q I rx rv ⟨_,zs,y,rfl,rfl,h1,h2,h3⟩⟩
 |extend=>exact⟨_,F.plainAttrs_list,F.slot_list_extend,F.type_list_extend,fun wv s σ H x xs v us Q I rx rv h=>by
   cases x<;>(try exact False.elim h) <;>rcases xs with _|⟨y0,_|⟨_,_⟩⟩ <;>(try exact False.elim h) <;>cases y0<;>(try exact False.elim h)
   obtain⟨ys,zs,h1,h2,h3,h4⟩:=h;exact Rj wv s σ H _ _ v us Q I rx rv ⟨_,_,ys,zs,rfl,rfl,h1,h2,h3,h4⟩⟩
 |join=>exact⟨_,F.plainAttrs_str,F.slot_str_join,F.type_str_join,fun wv s σ H x xs v us Q I rx rv h=>by
   cases x<;>(try exact False.elim h) <;>rcases xs with _|⟨y0,_|⟨_,_⟩⟩ <;>(try exact False.elim h) <;>cases y0<;>(try exact False.elim h)
   obtain⟨ts,h1,h2,h3⟩:=h;exact S0 wv s σ H _ _ v us Q I rx rv ⟨_,_,ts,rfl,rfl,h1,h2,h3⟩⟩
 |lstrip=>exact⟨_,F.plainAttrs_str,F.slot_str_lstrip,F.type_str_lstrip,fun wv s σ H x xs v us Q I rx rv h=>by
   cases x<;>(try exact False.elim h) <;>rcases xs with _|⟨y0,_|⟨_,_⟩⟩ <;>(try exact False.elim h) <;>cases y0<;>(try exact False.elim h)
   obtain⟨h1,h2⟩:=h;exact S_ wv s σ H _ _ v us Q I rx rv ⟨_,_,rfl,rfl,h1,h2⟩⟩
 |starts=>exact⟨_,F.plainAttrs_str,F.slot_str_startswith,F.type_str_startswith,fun _ _ _ _ x xs _ _ _ _ _ _ h=>by cases x<;>rcases xs with _|⟨y0,_|⟨y1,_⟩⟩ <;>first|exact False.elim h| (cases y0<;>exact False.elim h)⟩
 |find=>exact⟨_,F.plainAttrs_str,F.slot_str_find,F.type_str_find,fun _ _ _ _ x xs _ _ _ _ _ _ h=>by cases x<;>rcases xs with _|⟨y0,_|⟨y1,_⟩⟩ <;>first|exact False.elim h| (cases y0<;>exact False.elim h)⟩
 |count=>exact⟨_,F.plainAttrs_str,F.slot_str_count,F.type_str_count,fun _ _ _ _ x xs _ _ _ _ _ _ h=>by cases x<;>rcases xs with _|⟨y0,_|⟨y1,_⟩⟩ <;>first|exact False.elim h| (cases y0<;>exact False.elim h)⟩
 |reverse=>exact⟨_,F.plainAttrs_list,F.slot_list_reverse,F.type_list_reverse,fun _ _ _ _ x xs _ _ _ _ _ _ h=>by cases x<;>rcases xs with _|⟨y0,_|⟨y1,_⟩⟩ <;>first|exact False.elim h| (cases y0<;>exact False.elim h)⟩
 |index=>exact⟨_,F.plainAttrs_list,F.slot_list_index,F.type_list_index,fun _ _ _ _ x xs _ _ _ _ _ _ h=>by cases x<;>rcases xs with _|⟨y0,_|⟨y1,_⟩⟩ <;>first|exact False.elim h| (cases y0<;>exact False.elim h)⟩
 |GP=>exact⟨_,F.plainAttrs_list,F.slot_list_count,F.type_list_count,fun _ _ _ _ x xs _ _ _ _ _ _ h=>by cases x<;>rcases xs with _|⟨y0,_|⟨y1,_⟩⟩ <;>first|exact False.elim h| (cases y0<;>exact False.elim h)⟩
 |rS=>exact⟨_,F.plainAttrs_list,F.slot_list_index,F.type_list_index,fun wv s σ H x xs v us Q I rx rv h=>by
   cases x<;>(try exact False.elim h) <;>rcases xs with _|⟨y0,_|⟨_,_⟩⟩ <;>(try exact False.elim h)
   obtain⟨zs,h1,h2,h3,h4,h5⟩:=h;exact Vk wv s σ H _ _ v us Q I rx rv ⟨_,_,zs,rfl,rfl,h1,h2,h3,h4,h5⟩⟩
 |clear=>exact⟨_,F.plainAttrs_list,F.slot_list_clear,F.type_list_clear,fun wv s σ H x xs v us Q I rx rv h=>by
   cases x<;>(try exact False.elim h) <;>rcases xs with _|⟨_,_⟩ <;>(try exact False.elim h)
   obtain⟨zs,h1,h2⟩:=h;exact Rn wv s σ H _ _ v us Q I rx rv ⟨_,zs,rfl,rfl,h1,h2⟩⟩
theorem Vm{wv:List (Addr×Obj)}{σ:St}{H:Hp}{s:Shared}{T:Ty}{x:V}{u:Value}{Qb:Bool->Prop}{Q:Value->Shared->Prop}{E:Value->Shared->Prop}(I:Inv X wv σ H s)(rx:RelV x u)(h:bX T x H Qb)
  (hq:∀b tk,Qb b->Q (.bool b) {s with toks:=tk}):wpAny (model X.prog X.w) X.A (call (.builtin "isinstance") [u,.type T.nm]) Q E s:=by
 match x,rx,h with
 |.az,rx,h=>exact mq I rx (.az) (SW _ T) fun tk=>hq _ _ h
 |.bl b,rx,h=>exact mq I rx (.bl b) (oi X.K .bool T) fun tk=>hq _ _ (by cases T<;>exact h)
 |.int i,rx,h=>exact mq I rx (.int i) (oi X.K .int T) fun tk=>hq _ _ (by cases T<;>exact h)
 |.str i,rx,h=>exact mq I rx (.str i) (oi X.K .str T) fun tk=>hq _ _ (by cases T<;>exact h)
 |.ref a,rx,h=>
  cases e:H a with
  |none=>simp only[bX,e] at h
  |some o=>
   match o,e with
   |.lst xs,e=>simp only[bX,e] at h;exact mq I rx (.lst e) (oi X.K .list T) fun tk=>hq _ _ (by cases T<;>exact h)
   |.bK ob (.lst xs),e=>simp only[bX,e] at h;exact mq I rx (.bK e) (oi X.K .list T) fun tk=>hq _ _ (by cases T<;>exact h)
   |.tup xs,e=>simp only[bX,e] at h;exact mq I rx (.tup e) (oi X.K .tuple T) fun tk=>hq _ _ (by cases T<;>exact h)
   |.dK xs,e=>simp only[bX,e] at h;exact mq I rx (.dK e) (oi X.K .dict T) fun tk=>hq _ _ (by cases T<;>exact h)
   |.dT xs,e=>simp only[bX,e] at h;exact mq I rx (.dT e) (oi X.K .dict T) fun tk=>hq _ _ (by cases T<;>exact h)
   |.set _ _,e=>simp only[bX,e] at h
   |.ins _ _ _,e=>simp only[bX,e] at h
   |.own _,e=>simp only[bX,e] at h
   |.xd _,e=>simp only[bX,e] at h
   |.met _ _,e=>simp only[bX,e] at h
   |.gz _ _,e=>simp only[bX,e] at h
   |.kJ _,e=>simp only[bX,e] at h
   |.ext _,e=>simp only[bX,e] at h
   |.bK ob (.tup xs),e=>simp only[bX,e] at h
   |.bK ob (.dK xs),e=>simp only[bX,e] at h
   |.bK ob (.dT xs),e=>simp only[bX,e] at h
   |.bK ob (.set _ _),e=>simp only[bX,e] at h
   |.bK ob (.ins _ _ _),e=>simp only[bX,e] at h
   |.bK ob (.own _),e=>simp only[bX,e] at h
   |.bK ob (.xd _),e=>simp only[bX,e] at h
   |.bK ob (.met _ _),e=>simp only[bX,e] at h
   |.bK ob (.gz _ _),e=>simp only[bX,e] at h
   |.bK ob (.kJ _),e=>simp only[bX,e] at h
   |.bK ob (.ext _),e=>simp only[bX,e] at h
   |.bK ob (.bK _ _),e=>simp only[bX,e] at h
theorem Vn(T:Ty):bootBuiltins (Str.ofString T.nm)=some (.type T.nm):=by cases T<;>decide+kernel
theorem Vo(T:Ty):dD X (.builtin "isinstance") (om T):=by
 intro wv s σ H xs us Q I r h
 match xs,r,h with
 |[x,.ty n],r,⟨e,h⟩=>
  subst e;obtain⟨u,w',rfl,ru,je⟩:=vals2 r;cases je;exact Vm I ru h fun b tk hb=>⟨.bl b,H,I.tok tk,rfl,hb⟩
theorem Vp{T:Ty}{a:Expr}{ta:TE}{p q pos:Pos}(ha:PE X a ta)(hs:noStar a=true)(hg:Gl X "isinstance")(hm:X.mg "isinstance"=none)(Vq:Gl X (Str.ofString T.nm))(Vr:X.mg (Str.ofString T.nm)=none):
  PE X (.Call (.Name "isinstance" p) [a,.Name (Str.ofString T.nm) q] [] pos) (fZ (om T)<|dF ta<|dF (tC<|.ty T.nm) iq):=by
 have hT:PE X (.Name (Str.ofString T.nm) q) (tC<|.ty T.nm):=EM Vq Vr (Vn T) rfl (by cases T<;>decide) (by cases T<;>decide)
 exact wC (Vo T) hg hm Hn (jW ha (jW hT pK rfl)<|dn hs) (by decide) (by decide) (dn hs) rfl
end
section
variable {X:Cx}
theorem Vs:Ah X (rW X.K):=by
 intro wv s σ H x v vl vu lo hi sl Q I rx hs pl pu h
 match x,rx,h with
 |.ref a,rx,.inl ⟨xs,h1,h2⟩=>exact Q3 wv s σ H _ v vl vu lo hi sl Q I rx hs pl pu ⟨a,xs,rfl,h1,h2⟩
 |.ref a,rx,.inr h=>exact False.elim h
 |.str z,rx,⟨h1,h2⟩=>
  obtain⟨t,rfl⟩:=rx;obtain⟨l,el,ml⟩:∃l:Option (Int×Tok),vl=partValue l/\l.map (·.1)=lo:=by
   cases pl with
   |none=>exact⟨none,rfl,rfl⟩
   |int i t=>exact⟨some (i,t),rfl,rfl⟩
  obtain⟨u,eu,mu⟩:∃u:Option (Int×Tok),vu=partValue u/\u.map (·.1)=hi:=by
   cases pu with
   |none=>exact⟨none,rfl,rfl⟩
   |int i t=>exact⟨some (i,t),rfl,rfl⟩
  subst el eu;refine⟨"str",_,F.slot_str_getitem.lookup,typeIs_str _ _ _,?_⟩;refine wpAny_getItem_str_slice (l:=l) (u:=u) (st:=none) hs rfl ?_;obtain⟨b1,b2,b3⟩:=Am lo hi z.length;have hp:slicePicked z l u none=(List.range<|HT.di z.length z.length hi - HT.di z.length 0 lo).map (HT.di z.length 0 lo+ ·):=by
   show Builtin.Str.strSliceIndices (l.map (·.1)) (u.map (·.1)) 1 z.length=_;rw[ml,mu];have e0:Builtin.Str.strSliceIndices lo hi 1 z.length=sliceRange (sliceBounds lo hi none z.length).1 (sliceBounds lo hi none z.length).2.1 (sliceBounds lo hi none z.length).2.2:=rfl;rw[e0,b1,b2,b3,sliceRange_one]
  have hc:((slicePicked z l u none).filterMap (z.cps[·]?))=mF z.cps.toList lo hi:=by
   show(Builtin.Str.strSliceIndices (l.map (·.1)) (u.map (·.1)) 1 z.length).filterMap (z.cps[·]?)=_;rw[ml,mu,Ta]
  have hz:z.cps.toList.length=z.length:=by simp[Str.length]
  have hA:=HT.FI z.length 0 (zqZ _) lo;have hB:=HT.FI z.length z.length (zqR _) hi;unfold sliceMade;refine post_val_or_made (fun _=>?_) fun t' k=>?_
  ·show(List.toArray ((slicePicked z l u none).filterMap (z.cps[·]?))).size<=sizeLine;rw[hc,zag];have:(mF z.cps.toList lo hi).length<=z.cps.toList.length:=by unfold mF;simp only[zaE,zaB];lia
   lia
  ·have e:(if (((none:Option (Int×Tok)).map (·.1)).getD 1==1 && (slicePicked z l u none).length==z.length)=true then z else ⟨((slicePicked z l u none).filterMap (z.cps[·]?)).toArray⟩)=lh z lo hi:=by
    split
    ·rename_i hq
     simp only[zaf,beq_iff_eq] at hq
     have Vt:=hq.2;rw[hp,zab,zbU] at Vt;have a0:HT.di z.length 0 lo=0:=by lia
     have b0:HT.di z.length z.length hi=z.length:=by lia
     unfold lh mF;rw[hz,a0,b0,<-hz,Nat.sub_zero,zbn,zbA]
    ·rw[hc];rfl
   rw[e];exact⟨.str _,H,I.tok k,⟨t',rfl⟩,h2⟩
theorem Vu:wt X (unaryOp .USub) GX:=by
 intro wv s σ H x v Q I rx h
 match x,rx,h with
 |.int i,rx,h=>exact PZ wv s σ H _ v Q I rx ⟨i,rfl,h⟩
theorem Vv{a:Expr}{ta:TE}{pos:Pos}(ha:PE X a ta):PE X (.UnaryOp .Not a pos) (AV X.K ta):=by
 intro wv s σ H Q I h;refine UnaryOp_<|aG (ha wv s σ H _ I h) fun v s1 ⟨x,H1,I1,r1,q1⟩=>not_of ?_;exact aG (Fq wv s1 σ H1 x v (fun b H2=>Q (.bl<|!b) H2) I1 r1<|GW q1) fun b s2 ⟨H2,I2,q2⟩=>⟨.bl<|!b,H2,I2,rfl,q2⟩
theorem xD{a:Expr}{ta:TE}(ha:PE X a ta)(he:∀whole,isTrue a X.env whole=(do let v <-whole;standAt a.pos;holding [v] (truthy v))):PT X a (gG X.K ta):=by
 intro wv s σ H Q I h;exact isTrue_plain (aG (ha wv s σ H _ I h) fun v s1 ⟨x,H1,I1,r1,q1⟩=>Fq wv s1 σ H1 x v Q I1 r1 (GW q1))<|he _
theorem Vw{m:iO}{o e:Expr}{es:List Expr}{to:TE}{t:TA}{apos dW:Pos}(ho:PE X o to)(ha:PA X (e::es) t)(hb:ow o=true)(hl:(apos.endLine==dW.line)=true)(hn:(e::es).length<29)
  (hs:starEach (e::es) X.env=(false,eval e X.env)::starEach es X.env) (h1:(backTo dW<|starEach es X.env).any (·.1)=false) (h2:(backTo dW<|starEach (e::es) X.env).all (fun x=> !x.1)=true):
  PE X (.Call (.Attribute o m.nm apos) (e::es) [] dW) (rV X.K m to t):=by
 obtain⟨id,M⟩:=Hr (X:=X) m;exact Ra M.pa M.slot M.ty M.mt ho ha (pO hb) (by
  rw[h2];show(true && true && decide ((e::es).length+0+0<30))=true;rw[zqT (by lia)];rfl) hl hs h1
theorem Vx{m:iO}{o:Expr}{to:TE}{apos dW:Pos}(ho:PE X o to)(hb:ow o=true)(hl:(apos.endLine==dW.line)=true):
  PE X (.Call (.Attribute o m.nm apos) [] [] dW) (rV X.K m to iq):=by
 obtain⟨id,M⟩:=Hr (X:=X) m;exact Q_ M.pa M.slot M.ty M.mt ho (pO hb) hl
end
section
variable {X:Cx}{CX:cg}
theorem Hs{o:Expr}{m:Str}{apos pos:Pos}{args:List Expr}{Q:Value->Shared->Prop}{E:Value->Shared->Prop}{A:Around}{s:Shared}{env:Env}{prog:Program}{w:World}
  (hb:ow o=true) (hl:(apos.endLine==pos.line)=true) (hn:args.length<29) (hf:(backTo pos<|starEach args env).all (fun x=> !x.1)=true)
  (h:wpAny (model prog w) A (eval o env) (fun ov s1=>∀pl,wpAny (model prog w) A (getMethod ov m pl) (fun fx s2=>wpAny (model prog w) A (callWith pos fx.1 fx.2 (backTo pos<|starEach args env)<|backToKw pos<|keywordEach [] env) Q E s2) E s1) E s):
  wpAny (model prog w) A (eval (.Call (.Attribute o m apos) args [] pos) env) Q E s:=by
 have Vy:methodCallForm (args.length+0) (backTo pos<|starEach args env) (backToKw pos<|keywordEach [] env)=true:=by
  show((backTo pos<|starEach args env).all (fun x=> !x.1) && true && decide (args.length+0+0<30))=true;rw[hf,zqT (by lia)];rfl
 have line:methodCallPos true o env apos pos=pure pos:=by unfold methodCallPos;simp[hl]
 rw[arm_eval_Call,pO hb];refine wpAny_bind<|wpAny_mono h (fun ov s1 h1=>wpAny_bind<|wpAny_standAt ?_) fun _ _ e=>e;unfold methodCall;rw[show([]:List Keyword).length=0 from rfl,Vy]
 refine wpAny_bind<|wpAny_holding<|wpAny_mono (h1 _) (fun fx s2 h2=>?_) fun _ _ e=>e;exact wpAny_bind<|wpAny_of_eq line h2
theorem Vz{o e:Expr}{es:List Expr}{to:TE}{t:TA}{apos pos:Pos}{C:Addr}{m:Str}{sp:Sp}{E:XK}(M:xB CX X C m sp)(hx:Passes CX X E)(ho:PE X o to)(ha:PA X (e::es) t)(hb:ow o=true)(hl:(apos.endLine==pos.line)=true)(hn:(e::es).length<29)
  (hs:starEach (e::es) X.env=(false,eval e X.env)::starEach es X.env) (h1:(backTo pos<|starEach es X.env).any (·.1)=false) (h2:(backTo pos<|starEach (e::es) X.env).all (fun x=> !x.1)=true):
  PE X (.Call (.Attribute o m apos) (e::es) [] pos) (pL C m sp [] E to t):=by
 obtain⟨c,k,f,fd,ps,hm,F,hr,Bu⟩:=M;intro wv s σ H Q I h;refine Hs hb hl hn h2<|aG (ho wv s σ H _ I h) fun u s1 ⟨x,H1,I1,rx,a,dx,fs,ex,ea,l,q⟩=>fun pl=>?_;subst ex;obtain rfl:u=Value.ref a:=rx;refine Fw I1 ea c hm l ?_;refine callWith_K (first:=[.ref a]) (h₀:=X.base) I.ok.mod.pz hm.kp (aG (ha pos wv s1 σ H1 _ I1 q) fun us s2 ⟨vs,H2,I2,r,q2⟩=>⟨I2.cX,?_⟩) hs h1
 exact Ad (us:=.ref a::us) (vs:=.ref a::vs) F hr Bu .nil hx I2 (.cons rfl r) q2
theorem VA{o:Expr}{to:TE}{apos pos:Pos}{C:Addr}{m:Str}{sp:Sp}{E:XK}(M:xB CX X C m sp)(hx:Passes CX X E)(ho:PE X o to)(hb:ow o=true)(hl:(apos.endLine==pos.line)=true):
  PE X (.Call (.Attribute o m apos) [] [] pos) (pL C m sp [] E to iq):=by
 obtain⟨c,k,f,fd,ps,hm,F,hr,Bu⟩:=M;intro wv s σ H Q I h;refine Hs hb hl (by decide) rfl<|aG (ho wv s σ H _ I h) fun u s1 ⟨x,H1,I1,rx,a,dx,fs,ex,ea,l,q⟩=>fun pl=>?_
 subst ex;obtain rfl:u=Value.ref a:=rx;refine Fw I1 ea c hm l ?_;exact PySem.W.callWith_K0 (first:=[.ref a]) I1.cX hm.kp<|Ad (us:=[.ref a]) (vs:=[.ref a]) F hr Bu .nil hx I1 (.cons rfl .nil) q
end
def sj(K:Frag)(n:Nat)(t:kR):TG:=fun v σ H Q=>∃a xs,v=.ref a/\(aM K H a xs\/False)/\xs.length=n/\t xs σ H Q
theorem VB{X:Cx}{es:List Expr}{k:Nat}{t:kR}{n:Nat}{pos:Pos}(hc:X.calm=true)(h:rD X es t)
  (hn:(assignEach es X.env).length=n) (gA:(assignEach es X.env).findIdx? (·.1)=none):PG X (.Tuple es k pos) (sj X.K n t):=by
 intro wv s σ H v u Q I r hw;obtain⟨a,xs,e1,hq,hl,hw⟩:=hw;rcases hq with hq|hq
 ·exact E4 hc h hn gA wv s σ H v u Q I r ⟨a,xs,e1,hq,hl,hw⟩
 ·exact hq.elim
def p6:List Nat->kR
 |[]=>zW
 |i::r=>wj (fX i) (p6 r)
def VC(to:TE)(tl th:TO):TG:=fun v σ H Q=>to σ H fun o H1=>tl σ H1 fun i H2=>th σ H2 fun j H3=>∃l b xs ys a c,o=.ref l/\v=.ref b/\i=some a/\j=some c/\H3 l=some (.lst xs)/\H3 b=some (.lst ys)/\l≠b/\
 0<=a/\a<=c/\c<=xs.length/\xs.length+ys.length<=sizeLine/\Q σ (upd H3 l<|.lst<|xs.take a.toNat++ys++xs.drop c.toNat)
mutual
def cK(Γ:bx):RS->TS
 |.asg i e=>kS (ah Γ e) (fX i)
 |.rT i e=>kS (ah Γ e) (fX i)
 |.set o ix e=>kS (ah Γ e) (E5 (ah Γ o) (ah Γ ix) Al)
 |.dput o i e=>Ge (ah Γ o) (ah Γ i) (ah Γ e)
 |.drop e=>EX (ah Γ e)
 |.ret e=>EY (ah Γ e)
 |.Tn=>Pp
 |.ite c t e=>EZ (bA Γ c) (ay Γ t) (ay Γ e)
 |.j0 i k ao body=>wo (iQ Γ k ao) (fX i) (ay Γ body)
 |.j5 is k ao body=>wo (iQ Γ k ao) (sj Γ.K is.length<|p6 is) (ay Γ body)
 |.mI c body=>E6 (bA Γ c) (ay Γ body)
 |.pass=>zU
 |.brk=>Pl
 |.cont=>EW
 |.never=>Pr
 |.To o lo hi e=>kS (ah Γ e) (VC (ah Γ o) (pM<|ah Γ lo)<|pM<|ah Γ hi)
 |.gF o f e=>z9 Γ.K (ah Γ o) (ah Γ e) f
 |.Tp is e=>kS (ah Γ e) (sj Γ.K is.length<|p6 is)
 |.jz j as=>AU (Γ.ex j) Γ.E (aY Γ as)
 |.uD n i j body su=>fun D σ H=>∃C,Γ.gv j=.ref C/\oj Γ.K C i n (fun E=>ay {Γ with E:=E} body) (fun ea=>ay {Γ with E:=E0,hv:=some ea} su) D σ H
 |.Tq k i j f as su=>fun D σ H=>∃C,Γ.gv j=.ref C/\Td Γ.K C i k (Γ.fs f) (aY {Γ with E:=E0} as) (fun ea=>ay {Γ with E:=E0,hv:=some ea} su) D σ H
def ay(Γ:bx):List RS->TS
 |[]=>zU
 |s::r=>EU (cK Γ s) (ay Γ r)
end
def uM:Expr->Bool
 |.Slice ..=>false|_=>true
def xF:Expr->Bool
 |.ListComp ..=>false|.SetComp ..=>false|.DictComp ..=>false|_=>true
def Ht(sc:Scope)(x:Str)(line:Nat)(s:Scope)(p:Pos):Bool:=
 decide (sc.kind=.function) && decide (sc.names.lookup x=some .local) && (line==p.line) && !(s.names.any fun(n,k)=>n==x && (k==.local ||k==.cell))
def sk(N:List Str)(sc:Scope):List Nat->List Str->Bool
 |[],xs=>xs.isEmpty
 |i::r,xs=>match xs with
  |[]=>false
  |x::t=>decide (N[i]?=some x) && loc sc x && sk N sc r t
structure de (CX:cg) (S:cJ) (Γ:bx) (X:Cx):Prop extends Good CX S Γ X where
 nd:S.N.Nodup
 mT:∀x,X.fn x=true
 own:PassesOwn (model X.prog X.w) X.A X.env X.xe
 p7:X.env.scope.kind=.function
 rs:∀(j:Nat) x,S.en[j]?=some x->Raises X Γ.E
 jb:X.stack=X.env::X.outer
 gH:X.env.frame=some X.env.locals
 oC:X.ex=[]
 p8:CX=eQ X.prog X.w
def qV(S:cJ)(i:Nat)(x:Str):Bool:=decide (S.N[i]?=some x) && AX S.sc x && !(x==("__debug__":Str)) && !(x==("__classdict__":Str))
def kG(S:cJ)(j:Nat)(x:Str):Bool:=decide (S.gn[j]?=some x) && mL S.sc x && !(x==("__debug__":Str))
def kF(S:cJ)(j:Nat)(x:Str):Bool:=decide (S.fn[j]?=some x) && mL S.sc x && !(x==("__debug__":Str))
def kK(S:cJ)(j:Nat)(x:Str):Bool:=decide (S.kn[j]?=some x) && mL S.sc x && !(x==("__debug__":Str))
def kB(S:cJ)(x y:Str):Bool:=decide (x=y) && mL S.sc x && S.bl.contains x
def kM(o:Expr)(m:Str)(x:Str)(n:Nat)(a c:Pos):Bool:=decide (x=m) && ow o && (a.endLine==c.line) && decide (n<29)
def kL(S:cJ)(i:Nat)(x:Str):Bool:=decide (S.N[i]?=some x) && loc S.sc x
section
variable {CX:cg}{S:cJ}{Γ:bx}{X:Cx}{e e2 a b c d:Expr}{es:List Expr}{x:Str}{p q pos:Pos}{r ra rb rc:RE}{rs:List RE}{i j:Nat}
theorem aa(G:Good CX S Γ X)(h:qV S i x=true:=by kernel_rfl):PE X (.Name x p) (ah Γ<|.v i):=by
 simp only[qV,zaf,decide_eq_true_eq,zaO] at h
 exact O9 (by rw[G.N];exact h.1.1.1) (by rw[G.sc];exact TF h.1.1.2) h.1.2 h.2
theorem aw{v:Int}{k:Nat}:PE X (.Constant (.int v) k p) (ah Γ<|.c<|.int v):=O_
theorem aC{v:Str}{k:Nat}:PE X (.Constant (.str v) k p) (ah Γ<|.c<|.str v):=Pc
theorem dY{v:Bool}{k:Nat}:PE X (.Constant (.bool v) k p) (ah Γ<|.c<|.bl v):=Pa
theorem iU{k:Nat}:PE X (.Constant .none k p) (ah Γ<|.c .az):=Pb
theorem so(G:Good CX S Γ X)(h:kG S j x=true:=by kernel_rfl):PE X (.Name x p) (ah Γ<|.g j):=by
 simp only[kG,zaf,decide_eq_true_eq,zaO] at h
 obtain⟨u,hm,r⟩:=G.eE j x h.1.1;exact EL (G.gl h.1.2) hm r h.2
theorem aF{op:Operator}(G:Good CX S Γ X)(ha:PE X a (ah Γ ra))(hb:PE X b (ah Γ rb)):PE X (.BinOp a op b p) (ah Γ<|.bin op ra rb):=by
 show PE X _ (fO (rQ Γ.K op) (ah Γ ra)<|ah Γ rb);rw[<-G.K];exact PL (SH op) ha hb
theorem gh(ha:PE X a (ah Γ ra)):PE X (.UnaryOp .USub a p) (ah Γ<|.neg ra):=PM Vu ha
theorem jh{op:CmpOp}(G:Good CX S Γ X)(ha:PE X a (ah Γ ra))(hb:PE X b (ah Γ rb))(hm:behindInMarks op b=false:=by kernel_rfl):PE X (.Compare a [op] [b] p) (ah Γ<|.cmp op ra rb):=by
 show PE X _ (fO (dG Γ.K op) (ah Γ ra)<|ah Γ rb);rw[<-G.K];exact Qe (w9 G.units op) ha hb hm
theorem VD{op gB:CmpOp}(G:Good CX S Γ X)(ha:PE X a (ah Γ ra))(hb:PE X b (ah Γ rb))(hc:PE X c (ah Γ rc))(hm:lastMarks [op,gB] [b,c]=false:=by kernel_rfl):PE X (.Compare a [op,gB] [b,c] p) (ah Γ<|.uB op gB ra rb rc):=by
 show PE X _ (wz (dG Γ.K op) (dG Γ.K gB) (ah Γ ra) (ah Γ rb)<|ah Γ rc);rw[<-G.K];exact Qh (w9 G.units op) (w9 G.units gB) ha hb hc hm
theorem mU(h:PE X e (ah Γ r)):PE X (.BoolOp .And [e] p) (ah Γ<|.and [r]):=Pf h
theorem kb{r2:RE}(h:PE X e (ah Γ r))(t:PE X (.BoolOp .And (e2::es) p) (ah Γ<|.and (r2::rs))):PE X (.BoolOp .And (e::e2::es) p) (ah Γ<|.and (r::r2::rs)):=Pg h t
theorem uN(G:Good CX S Γ X)(ha:PE X a (ah Γ ra)):PE X (.UnaryOp .Not a p) (ah Γ<|.not ra):=by
 show PE X _ (AV Γ.K<|ah Γ ra);rw[<-G.K];exact Vv ha
theorem xG(hc:PT X c (bA Γ rc))(ha:PE X a (ah Γ ra))(hb:PE X b (ah Γ rb)):PE X (.IfExp c a b p) (ah Γ<|.pT rc ra rb):=Ph hc ha hb
theorem ak:PA X [] (aY Γ []):=pK
theorem ag(h:PE X e (ah Γ r))(t:PA X es (aY Γ rs))(hs:noStar e=true:=by kernel_rfl):PA X (e::es) (aY Γ (r::rs)):=jW h t (dn hs)
theorem aV(G:Good CX S Γ X)(hA:PA X (e::es) (aY Γ (r::rs)))(h:kF S j x=true:=by kernel_rfl)(hn:gg (e::es)=true:=by kernel_rfl)(hq:S.md=0:=by rfl):PE X (.Call (.Name x p) (e::es) [] pos) (ah Γ<|.call j (r::rs)):=by
 simp only[kF,zaf,decide_eq_true_eq,zaO] at h
 obtain⟨k,f,fd,ps,F,hr,hm,hk,hb⟩:=G.fns hq j x h.1.1;exact QJ F hr (G.gl h.1.2) hm hk hb .nil G.pass hA h.2 (dn (dq hn).1)<|jC _ _ es (dq hn).2
theorem xH(G:Good CX S Γ X)(hA:PA X (e::es) (aY Γ (r::rs)))(h:kK S j x=true:=by kernel_rfl)(hn:gg (e::es)=true:=by kernel_rfl)(hq:S.md=0:=by rfl):PE X (.Call (.Name x p) (e::es) [] pos) (ah Γ<|.make j (r::rs)):=by
 simp only[kK,zaf,decide_eq_true_eq,zaO] at h
 obtain⟨k,f,fd,ps,M,F,hr,hm,hb⟩:=G.oA hq j x h.1.1;exact QL M F hr (G.gl h.1.2) hm hb .nil G.pass hA h.2 (dn (dq hn).1)<|jC _ _ es (dq hn).2
theorem bY{t:mH}(G:Good CX S Γ X)(hA:PA X (e::es) (aY Γ (r::rs)))(h:kB S x t.nm=true:=by kernel_rfl)(hn:gg (e::es)=true:=by kernel_rfl)(hq:S.md=0:=by rfl):PE X (.Call (.Name x p) (e::es) [] pos) (ah Γ<|.blt t (r::rs)):=by
 simp only[kB,zaf,decide_eq_true_eq] at h
 obtain⟨⟨rfl,h2⟩,h3⟩:=h;have n1:t.nm≠"__name__":=by cases t<;>decide
 have n2:(t.nm==("__debug__":Str))=false:=by cases t<;>decide
 show PE X _ (fZ (mJ Γ.K t)<|aY Γ (r::rs));rw[<-G.K];cases Ve (X:=X) (G.calm hq) t with
 |fn id hv hc=>exact wC hc (G.gl h2) (G.cC _ h3) hv hA n1 n2 (dn (dq hn).1) (jC _ _ es (dq hn).2)
 |ty T hv hc=>exact QO hc (G.gl h2) (G.cC _ h3) hv hA n1 n2 (dn (dq hn).1) (jC _ _ es (dq hn).2)
theorem mV{T:Ty}{y:Str}(G:Good CX S Γ X)(ha:PE X a (ah Γ ra))(h:kB S x "isinstance"=true:=by kernel_rfl)(h2:kB S y (Str.ofString T.nm)=true:=by kernel_rfl)(hs:noStar a=true:=by kernel_rfl):PE X (.Call (.Name x p) [a,.Name y q] [] pos) (ah Γ<|.g7 T ra):=by
 simp only[kB,zaf,decide_eq_true_eq] at h h2
 obtain⟨⟨rfl,g2⟩,g3⟩:=h;obtain⟨⟨rfl,k2⟩,k3⟩:=h2;exact Vp ha hs (G.gl g2) (G.cC _ g3) (G.gl k2)<|G.cC _ k3
theorem uO(G:Good CX S Γ X)(ha:PE X a (ah Γ ra))(hb:PE X b (ah Γ rb))(h:kB S x "isinstance"=true:=by kernel_rfl)(hn:gg [a,b]=true:=by kernel_rfl):PE X (.Call (.Name x p) [a,b] [] pos) (ah Γ<|.iP ra rb):=by
 simp only[kB,zaf,decide_eq_true_eq] at h
 obtain⟨⟨rfl,g2⟩,g3⟩:=h;show PE X _ (fZ (rR Γ.K)<|dF (ah Γ ra)<|dF (ah Γ rb) iq);rw[<-G.K];exact wC UX (G.gl g2) (G.cC _ g3) Hn (jW ha (jW hb pK<|dn (dq (dq hn).2).1)<|dn (dq hn).1) (by decide) (by decide) (dn (dq hn).1)<|jC _ _ _ (dq hn).2
theorem VE{n:String}(G:Good CX S Γ X)(hv:bootBuiltins (Str.ofString n)=some (.type n))(h1:Str.ofString n≠"__name__")(h2:(Str.ofString n==("__debug__":Str))=false)(h:kB S x (Str.ofString n)=true:=by kernel_rfl):PE X (.Name x p) (ah Γ<|.c<|.ty n):=by
 simp only[kB,zaf,decide_eq_true_eq] at h
 obtain⟨⟨rfl,g2⟩,g3⟩:=h;exact EM (G.gl g2) (G.cC _ g3) hv rfl h1 h2
def kH(S:cJ)(j:Nat)(x:Str):Bool:=decide (S.hn[j]?=some x) && mL S.sc x && !(x==("__debug__":Str))
theorem VF(G:Good CX S Γ X)(ha:PE X a (ah Γ ra))(h:kH S j x=true:=by kernel_rfl)(hs:noStar a=true:=by kernel_rfl):PE X (.Call (.Name x p) [a] [] pos) (ah Γ<|.uC j ra):=by
 simp only[kH,zaf,decide_eq_true_eq,zaO] at h
 obtain⟨k,f,fd,ps,F,hr,hm,hk,hb⟩:=G.mR j x h.1.1;exact U2 F hr (G.gl h.1.2) hm hk hb G.oB ha hs h.2
theorem xI{m:iO}{o:Expr}{ro:RE}{ap:Pos}(G:Good CX S Γ X)(ho:PE X o (ah Γ ro))(h:kM o m.nm x 0 ap pos=true:=by kernel_rfl):PE X (.Call (.Attribute o x ap) [] [] pos) (ah Γ<|.bh m ro []):=by
 simp only[kM,zaf,decide_eq_true_eq] at h
 obtain⟨⟨⟨rfl,h2⟩,h3⟩, -⟩:=h;show PE X _ (rV Γ.K m (ah Γ ro) iq);rw[<-G.K];exact Vx ho h2 h3
theorem cq{m:iO}{o:Expr}{ro:RE}{ap:Pos}(G:Good CX S Γ X)(ho:PE X o (ah Γ ro))(hA:PA X (e::es) (aY Γ (r::rs)))(h:kM o m.nm x (es.length+1) ap pos=true:=by kernel_rfl)(hn:gg (e::es)=true:=by kernel_rfl):PE X (.Call (.Attribute o x ap) (e::es) [] pos) (ah Γ<|.bh m ro (r::rs)):=by
 simp only[kM,zaf,decide_eq_true_eq] at h
 obtain⟨⟨⟨rfl,h2⟩,h3⟩,h4⟩:=h;show PE X _ (rV Γ.K m (ah Γ ro)<|aY Γ (r::rs));rw[<-G.K];exact Vw ho hA h2 h3 h4 (dn (dq hn).1) (jC _ _ es (dq hn).2)<|Bq _ _ (e::es) hn
theorem bU{f:Str}{ro:RE}(G:Good CX S Γ X)(ho:PE X a (ah Γ ro))(h:ow a=true:=by kernel_rfl):PE X (.Attribute a f p) (ah Γ<|.fld ro f):=by
 show PE X _ (wB Γ.K (ah Γ ro) f);rw[<-G.K];exact QC ho<|pO h
theorem jD{m:Str}{o:Expr}{ro:RE}{ap:Pos}(G:Good CX S Γ X)(ho:PE X o (ah Γ ro))(h:(kM o m m 0 ap pos && decide (S.mn[j]?=some m))=true:=by kernel_rfl)(hq:S.md=0:=by rfl):PE X (.Call (.Attribute o m ap) [] [] pos) (ah Γ<|.bz j m ro []):=by
 simp only[kM,zaf,decide_eq_true_eq] at h
 obtain⟨⟨⟨⟨-,h2⟩,h3⟩, -⟩,h5⟩:=h;exact VA (G.mQ hq j _ h5) G.pass ho h2 h3
theorem dr{m:Str}{o:Expr}{ro:RE}{ap:Pos}(G:Good CX S Γ X)(ho:PE X o (ah Γ ro))(hA:PA X (e::es) (aY Γ (r::rs)))(h:(kM o m m (es.length+1) ap pos && decide (S.mn[j]?=some m))=true:=by kernel_rfl)(hn:gg (e::es)=true:=by kernel_rfl)(hq:S.md=0:=by rfl):PE X (.Call (.Attribute o m ap) (e::es) [] pos) (ah Γ<|.bz j m ro (r::rs)):=by
 simp only[kM,zaf,decide_eq_true_eq] at h
 obtain⟨⟨⟨⟨-,h2⟩,h3⟩,h4⟩,h5⟩:=h;exact Vz (G.mQ hq j _ h5) G.pass ho hA h2 h3 h4 (dn (dq hn).1) (jC _ _ es (dq hn).2)<|Bq _ _ (e::es) hn
theorem VG(h:uM b=true):FN b:=fun o i=>by cases b<;>first|rfl|cases h
theorem aQ(G:Good CX S Γ X)(ha:PE X a (ah Γ ra))(hb:PE X b (ah Γ rb))(h:uM b=true:=by kernel_rfl):PE X (.Subscript a b p) (ah Γ<|.ix ra rb):=by
 show PE X _ (fO (lA Γ.K Γ.sd) (ah Γ ra)<|ah Γ rb);rw[<-G.K];exact QU (Vj G.mP) ha hb<|VG h
theorem VH(h:uM b=true):AH b:=fun ov iv=>by cases b<;>first|rfl|cases h
theorem cE(G:Good CX S Γ X)(ha:PE X a (ah Γ ra))(hb:PE X b (ah Γ rb))(h:uM b=true:=by kernel_rfl):PE X (.Subscript a b p) (ah Γ<|.ba ra rb):=
 RO (by have:=G.units;lia) ha hb (VH h)
theorem kd{lo hi:Option Expr}{rl rh:Option RE}(G:Good CX S Γ X)(ha:PE X a (ah Γ ra))(hl:PO X lo (ou Γ rl))(hh:PO X hi (ou Γ rh)):PE X (.Subscript a (.Slice lo hi none q) p) (ah Γ<|.sl ra rl rh):=by
 show PE X _ (Ai (rW Γ.K) (ah Γ ra) (ou Γ rl)<|ou Γ rh);rw[<-G.K];exact QR Vs ha hl hh
theorem sq:PO X none (ou Γ none):=wD
theorem g_(ha:PE X a (ah Γ ra)):PO X (some a) (ou Γ<|some ra):=wF ha
theorem eR{k}(hA:PA X es (aY Γ rs)):PE X (.Tuple es k p) (ah Γ<|.tup rs):=QG hA
theorem bJ(hA:PA X es (aY Γ rs)):PE X (.List es p) (ah Γ<|.lst rs):=QH hA
def uP(CX:cg)(S:cJ)(Γ:bx)(cond:Option RE)(ifs:List Expr):Prop:=match cond with
 |none=>ifs=[]
 |some r=>∃e0,ifs=[e0]/\∀X,Good CX S Γ X->PT X e0 (bA Γ r)
theorem uQ:uP CX S Γ none []:=rfl
theorem p9(h:∀X,Good CX S Γ X->PT X e (bA Γ r)):uP CX S Γ (some r) [e]:=⟨e,rfl,h⟩
def kC(S:cJ)(tk:Option Nat)(tg iter:Expr)(sc:Scope)(k:IK)(ln:List Str)(fv:List (Str×Nat)):Bool:=decide (A0 tk tg=some ln) && (decide (k≠ .zip)||tk.isSome) && A9 S ⟨.Constant .none 0 ⟨0,0,0,0⟩,tg,iter,[],sc⟩ ln fv
abbrev cS(S:cJ)(sc:Scope)(ln:List Str)(fv:List (Str×Nat)):cJ:={S with N:=ln++fv.map (·.1),sc:=AZ sc S.sc,en:=[],md:=if S.md=0 then 0 else 2}
theorem mW{tk:Option Nat}{fv:List (Str×Nat)}{k:IK}{ao:List RE}{cond:Option RE}{elt:RE}{el tg iter:Expr}{ifs:List Expr}{sc:Scope}{ln:List Str}(G:Good CX S Γ X)(h:kC S tk tg iter sc k ln fv=true)(hi:PI X tg iter (iQ Γ k ao))
  (hc:uP CX (cS S sc ln fv) Γ.calm cond ifs) (he:∀X,Good CX (cS S sc ln fv) Γ.calm X->PE X el (ah Γ.calm elt)) (hq:S.md=0:=by rfl):PE X (.ListComp el [⟨tg,iter,ifs,0⟩] sc p) (ah Γ<|.comp tk fv k ao cond elt):=by
 simp only[kC,zaf,decide_eq_true_eq] at h
 obtain⟨⟨h1,h2⟩,h3⟩:=h;obtain⟨o1,o2,o3,o4⟩:=Br (c:=⟨.Constant .none 0 ⟨0,0,0,0⟩,tg,iter,[],sc⟩) G h3;show PE X _ (og Γ.K (iQ Γ k ao) tk fv (xg Γ.calm cond)<|ah Γ.calm elt);rw[<-G.K];refine Sy o1 (G.calm hq) hi (Hl (c:=⟨.Constant .none 0 ⟨0,0,0,0⟩,tg,iter,[],sc⟩) (G.calm hq) h1 o2 o3) ?_ (fun ex C s H=>he _<|G.inner ⟨.Constant .none 0 ⟨0,0,0,0⟩,tg,iter,[],sc⟩ ln fv ex C s H)<|uL o4;cases cond with
 |none=>exact hc
 |some r=>
  obtain⟨e0,q,hq⟩:=hc;exact⟨e0,q,fun ex C s H=>hq _<|G.inner ⟨.Constant .none 0 ⟨0,0,0,0⟩,tg,iter,[],sc⟩ ln fv ex C s H⟩
theorem fK(h:PT X a (bA Γ ra)):PT X (.UnaryOp .Not a p) (bA Γ<|.not ra):=Pd h
theorem p_(h:PT X e (bA Γ r)):PW X (.BoolOp .And [e] p) (bA Γ<|.and [r]):=pw_and1 h
theorem mX{r2:RE}(h:PT X e (bA Γ r))(t:PW X (.BoolOp .And (e2::es) p) (bA Γ<|.and (r2::rs))):PW X (.BoolOp .And (e::e2::es) p) (bA Γ<|.and (r::r2::rs)):=pw_and h t
theorem qd(h:PT X e (bA Γ r)):PW X (.BoolOp .Or [e] p) (bA Γ<|.or [r]):=pw_or1 h
theorem qe{r2:RE}(h:PT X e (bA Γ r))(t:PW X (.BoolOp .Or (e2::es) p) (bA Γ<|.or (r2::rs))):PW X (.BoolOp .Or (e::e2::es) p) (bA Γ<|.or (r::r2::rs)):=pw_or h t
theorem aU{op:CmpOp}(G:Good CX S Γ X)(ha:PE X a (ah Γ ra))(hb:PE X b (ah Γ rb))(hm:behindInMarks op b=false:=by kernel_rfl):PT X (.Compare a [op] [b] p) (bA Γ<|.cmp op ra rb):=by
 show PT X _ (rF<|fO (dG Γ.K op) (ah Γ ra)<|ah Γ rb);rw[<-G.K];exact Qg (w9 G.units op) ha hb hm
theorem VI(G:Good CX S Γ X)(h:PE X (.Name x p) (ah Γ<|.v i)):PT X (.Name x p) (bA Γ<|.v i):=by
 show PT X _ (gG Γ.K<|ah Γ<|.v i);rw[<-G.K];exact xD h fun _=>rfl
theorem gJ(G:Good CX S Γ X)(h:PE X (.Call a es [] p) (ah Γ<|.call j rs)):PT X (.Call a es [] p) (bA Γ<|.call j rs):=by
 show PT X _ (gG Γ.K<|ah Γ<|.call j rs);rw[<-G.K];exact xD h fun _=>rfl
theorem VJ(G:Good CX S Γ X)(h:PE X (.Call a es [] p) (ah Γ<|.iP ra rb)):PT X (.Call a es [] p) (bA Γ<|.iP ra rb):=by
 show PT X _ (gG Γ.K<|ah Γ<|.iP ra rb);rw[<-G.K];exact xD h fun _=>rfl
theorem Bv{T:Ty}(G:Good CX S Γ X)(h:PE X (.Call a es [] p) (ah Γ<|.g7 T ra)):PT X (.Call a es [] p) (bA Γ<|.g7 T ra):=by
 show PT X _ (gG Γ.K<|ah Γ<|.g7 T ra);rw[<-G.K];exact xD h fun _=>rfl
theorem hJ{tg:Expr}(G:Good CX S Γ X)(ha:PE X a (ah Γ ra)):PI X tg a (iQ Γ .list [ra]):=by
 show PI X tg a (ua Γ.K<|ah Γ ra);rw[<-G.K];exact PD ha
theorem uR{tg:Expr}(G:Good CX S Γ X)(ha:PE X a (ah Γ ra))(h:kB S x "range"=true:=by kernel_rfl)(hs:noStar a=true:=by kernel_rfl):PI X tg (.Call (.Name x p) [a] [] pos) (iQ Γ .gz [ra]):=by
 simp only[kB,zaf,decide_eq_true_eq] at h
 obtain⟨⟨rfl,h2⟩,h3⟩:=h;exact PF (G.gl h2) (G.cC _ h3) (jW ha pK<|dn hs)<|dn hs
theorem VL{tg:Expr}(G:Good CX S Γ X)(ha:PE X a (ah Γ ra))(hb:PE X b (ah Γ rb))(h:kB S x "range"=true:=by kernel_rfl)(hs:noStar a=true:=by kernel_rfl)(jV:noStar b=true:=by kernel_rfl):PI X tg (.Call (.Name x p) [a,b] [] pos) (iQ Γ .uA [ra,rb]):=by
 simp only[kB,zaf,decide_eq_true_eq] at h
 obtain⟨⟨rfl,h2⟩,h3⟩:=h;exact PH (G.gl h2) (G.cC _ h3) (jW ha (jW hb pK<|dn jV)<|dn hs) (by rw[dn hs,dn jV];rfl)<|dn jV
theorem Hu{ts:List Expr}{k}{tp:Pos}(G:Good CX S Γ X)(ha:PE X a (ah Γ ra))(hb:PE X b (ah Γ rb))(h:kB S x "zip"=true:=by kernel_rfl)(hn:gg [a,b]=true:=by kernel_rfl):PI X (.Tuple ts k tp) (.Call (.Name x p) [a,b] [] pos) (iQ Γ .zip [ra,rb]):=by
 simp only[kB,zaf,decide_eq_true_eq] at h
 obtain⟨⟨rfl,h2⟩,h3⟩:=h;show PI X _ _ (AW Γ.K<|dF (ah Γ ra)<|aY Γ [rb]);rw[<-G.K];exact TQ (G.gl h2) (G.cC _ h3) (jW ha (jW hb pK<|dn (dq (dq hn).2).1)<|dn (dq hn).1) (dn (dq hn).1)<|jC _ _ _ (dq hn).2
end
section
variable {CX:cg}{S:cJ}{Γ:bx}{X:Cx}{e a b c v:Expr}{es:List Expr}{x:Str}{p q pos:Pos}{r ra rb rc:RE}{i j:Nat}{st:Stmt}{Hv:List Stmt}{s:RS}{ss t u:List RS}
theorem Bw{v:Expr}{t:Option Expr}{l:Nat}{env:Env}(h:xF v=true):swapsWith v t l env=pure false:=by
 cases v<;>first|rfl|cases h
theorem VM{v:Expr}{x:Str}{p:Pos}{l:Nat}{env:Env}(h:env.kindOf x=some .cell):swapsWith v (some<|.Name x p) l env=pure false:=by
 cases v<;>first
  |rfl
  |(unfold swapsWith;simp only[h];have q:(some NameKind.cell==some NameKind.local)=false:=rfl;simp only[q,Bool.and_false,Bool.false_and])
theorem Hw{v o i:Expr}{p:Pos}{l:Nat}{env:Env}:swapsWith v (some<|.Subscript o i p) l env=pure false:=by
 cases v<;>rfl
theorem VN{v o i:Expr}{p:Pos}{env:Env}:swappedStores [.Subscript o i p] v env=pure none:=by
 cases v<;>rfl
theorem de.name(G:de CX S Γ X)(h:kL S i x=true):PG X (.Name x p) (fX i):=by
 simp only[kL,zaf,decide_eq_true_eq] at h
 exact wg (by rw[G.N];exact G.nd) (by rw[G.N];exact h.1) (by rw[G.sc];exact AY h.2)<|.inl<|G.mT x
theorem ar:cP X [] (ay Γ []):=EV
theorem aj(h:PS X st (cK Γ s))(t:cP X Hv (ay Γ ss)):cP X (st::Hv) (ay Γ (s::ss)):=Pk h t
theorem aR(G:de CX S Γ X)(he:PE X v (ah Γ r))(h:kL S i x=true:=by kernel_rfl)(hc:(xF v ||decide (S.sc.names.lookup x=some .cell))=true:=by kernel_rfl):PS X (.Assign [.Name x p] v q) (cK Γ<|.asg i r):=by
 simp only[kL,zaf,decide_eq_true_eq,Bool.or_eq_true] at h hc
 refine Px (by rw[G.N];exact G.nd) (by rw[G.N];exact h.1) (by rw[G.sc];exact AY h.2) he ?_<|.inl<|G.mT x
 rcases hc with h4|h4
 ·exact Bw h4
 ·exact VM (by show X.env.scope.names.lookup x=_;rw[G.sc];exact h4)
theorem Hx{tk:Option Nat}{fv:List (Str×Nat)}{k:IK}{ao:List RE}{cond:Option RE}{elt:RE}{el tg iter:Expr}{ifs:List Expr}{sc:Scope}{ln:List Str}{pc:Pos}(G:de CX S Γ X)(h0:kL S i x=true)(hs:Ht S.sc x p.line sc pc=true)(h:kC S tk tg iter sc k ln fv=true)(hi:PI X tg iter (iQ Γ k ao))
  (hc:uP CX (cS S sc ln fv) Γ.calm cond ifs) (he:∀X,Good CX (cS S sc ln fv) Γ.calm X->PE X el (ah Γ.calm elt)) (hq:S.md=0:=by rfl):PS X (.Assign [.Name x p] (.ListComp el [⟨tg,iter,ifs,0⟩] sc pc) q) (cK Γ<|.rT i<|.comp tk fv k ao cond elt):=by
 simp only[kC,kL,Ht,zaf,decide_eq_true_eq,beq_iff_eq,zaO] at h h0 hs
 obtain⟨⟨h1,h2⟩,h3⟩:=h;obtain⟨o1,o2,o3,o4⟩:=Br (c:=⟨.Constant .none 0 ⟨0,0,0,0⟩,tg,iter,[],sc⟩) G.toGood h3;show PS X _ (kS (og Γ.K (iQ Γ k ao) tk fv (xg Γ.calm cond)<|ah Γ.calm elt)<|fX i);rw[<-G.K];refine Sz (by rw[G.N];exact G.nd) (by rw[G.N];exact h0.1) (by rw[G.sc];exact AY h0.2) ?_ o1 (G.calm hq) hi (Hl (c:=⟨.Constant .none 0 ⟨0,0,0,0⟩,tg,iter,[],sc⟩) (G.calm hq) h1 o2 o3) ?_ (fun ex C s H=>he _<|G.toGood.inner ⟨.Constant .none 0 ⟨0,0,0,0⟩,tg,iter,[],sc⟩ ln fv ex C s H) (uL o4)<|.inl<|G.mT x
 ·have e1:X.env.kindOf x=some .local:=by show X.env.scope.names.lookup x=_;rw[G.sc];exact hs.1.1.2
  have e2:X.env.blockKind=.function:=by unfold Env.blockKind;rw[G.p7];rfl
  unfold swapsWith
  simp only[e1,e2,hs.1.2,hs.2]
  show pure (true && true && (pc.line==pc.line) && !false)=pure true;rw[beq_self_eq_true];rfl
 ·cases cond with
  |none=>exact hc
  |some r=>
   obtain⟨e0,q,hq⟩:=hc;exact⟨e0,q,fun ex C s H=>hq _<|G.toGood.inner ⟨.Constant .none 0 ⟨0,0,0,0⟩,tg,iter,[],sc⟩ ln fv ex C s H⟩
theorem sv(he:PE X v (ah Γ r))(ha:PE X a (ah Γ ra))(hb:PE X b (ah Γ rb))(h:uM b=true:=by kernel_rfl):PS X (.Assign [.Subscript a b p] v q) (cK Γ<|.set ra rb r):=
 Pw he (Pu ha hb set_list (by intro w;cases b<;>first|rfl|cases h)) (by exact Hw (o:=a) (i:=b) (p:=p) (l:=q.line) (env:=X.env)) VN rfl
theorem xJ(G:de CX S Γ X)(he:PE X v (ah Γ r))(ha:PE X a (ah Γ ra))(hb:PE X b (ah Γ rb)):PS X (.Assign [.Subscript a b p] v q) (cK Γ<|.dput ra rb r):=
 RP (by have:=G.toGood.units;lia) ha hb he (by exact Hw (o:=a) (i:=b) (p:=p) (l:=q.line) (env:=X.env))
theorem iW{f:Str}(G:de CX S Γ X)(ho:PE X a (ah Γ ra))(he:PE X v (ah Γ r))(h:xF v=true:=by kernel_rfl):PS X (.Assign [.Attribute a f p] v q) (cK Γ<|.gF ra f r):=by
 show PS X _ (z9 Γ.K (ah Γ ra) (ah Γ r) f);rw[<-G.K];exact QD ho he<|Bw h
theorem bG(he:PE X v (ah Γ r))(h:xF v=true:=by kernel_rfl):PS X (.Expr v p) (cK Γ<|.drop r):=Pn he (Bw h)
theorem aS(he:PE X v (ah Γ r)):PS X (.Return (some v) p) (cK Γ<|.ret r):=Po he
theorem a_{as bs:List Stmt}(hc:PT X c (bA Γ rc))(ha:cP X as (ay Γ t))(hb:cP X bs (ay Γ u)):PS X (.If c as bs p) (cK Γ<|.ite rc t u):=Pq hc ha hb
theorem sx{as:List Stmt}(G:de CX S Γ X)(hc:PT X c (bA Γ rc))(ha:cP X as (ay Γ t)):PS X (.While c as [] p) (cK Γ<|.mI rc t):=Py G.own hc ha
theorem qf{k:IK}{ao:List RE}{iter:Expr}{as:List Stmt}(G:de CX S Γ X)(hi:PI X (.Name x p) iter (iQ Γ k ao))(ha:cP X as (ay Γ t))(h:kL S i x=true:=by kernel_rfl)(hs:uG iter=true:=by kernel_rfl)(hq:S.md=0:=by rfl):PS X (.For (.Name x p) iter as [] q) (cK Γ<|.j0 i k ao t):=
 Fb G.own (G.calm hq) hi (G.name h) ha (uL hs)
theorem Hy(G:de CX S Γ X):∀is (xs:List (Str×Pos)),sk S.N S.sc is (xs.map (·.1))=true->
  rD X (xs.map fun y=>.Name y.1 y.2) (p6 is)/\(assignEach (xs.map fun y=>Expr.Name y.1 y.2) X.env).length=is.length/\(assignEach (xs.map fun y=>Expr.Name y.1 y.2) X.env).findIdx? (·.1)=none
 |[],xs,h=>by
  simp only[sk,List.isEmpty_iff,List.map_eq_nil_iff] at h
  subst h;exact⟨E2,rfl,rfl⟩
 |i::r,[],h=>by simp only[zbc,sk] at h;cases h
 |i::r,y::t,h=>by
  simp only[zax,sk,zaf] at h
  obtain⟨i1,i2,i3⟩:=Hy G r t h.2;refine⟨zX (G.name (by simp only[kL,zaf];exact h.1)) i1 rfl,?_,?_⟩
  ·show(assignEach _ X.env).length+1=r.length+1;rw[i2]
  ·show List.findIdx? (·.1) ((false,assign (.Name y.1 y.2) X.env)::assignEach _ X.env)=none;rw[List.findIdx?_cons,i3];rfl
theorem sy{is:List Nat}{k:IK}{ao:List RE}{iter:Expr}{as:List Stmt}{kt}{tp:Pos}(xs:List (Str×Pos))(G:de CX S Γ X)(hi:PI X (.Tuple (xs.map fun y=>.Name y.1 y.2) kt tp) iter (iQ Γ k ao))(ha:cP X as (ay Γ t))(h:sk S.N S.sc is (xs.map (·.1))=true:=by kernel_rfl)(hs:uG iter=true:=by kernel_rfl)(hq:S.md=0:=by rfl):
  PS X (.For (.Tuple (xs.map fun y=>.Name y.1 y.2) kt tp) iter as [] q) (cK Γ<|.j5 is k ao t):=by
 obtain⟨i1,i2,i3⟩:=Hy G is xs h;show PS X _ (wo (iQ Γ k ao) (sj Γ.K is.length<|p6 is)<|ay Γ t);rw[<-G.K];exact Fb G.own (G.calm hq) hi (VB (G.calm hq) i1 i2 i3) ha<|uL hs
def kX(S:cJ)(j:Nat)(x:Str):Bool:=decide (S.en[j]?=some x) && mL S.sc x && !(x==("__debug__":Str))
theorem lG{rs:List RE}{np dW:Pos}(G:de CX S Γ X)(hA:PA X (e::es) (aY Γ (r::rs)))(h:kX S j x=true:=by kernel_rfl)(hn:gg (e::es)=true:=by kernel_rfl)(hq:S.md=0:=by rfl):PS X (.Raise (some<|.Call (.Name x np) (e::es) [] dW) none pos) (cK Γ<|.jz j (r::rs)):=by
 simp only[kX,zaf,decide_eq_true_eq,zaO] at h
 obtain⟨bm,B,newId,rY,O,FB⟩:=G.si j x h.1.1;exact UA (G.calm hq) O FB (G.gl h.1.2) h.2 hA (dn (dq hn).1) (jC _ _ es (dq hn).2)<|G.rs j x h.1.1
abbrev tS(S:cJ):cJ:={S with en:=[]}
abbrev hS(S:cJ):cJ:={S with en:=[],md:=2}
theorem de.Hz(G:de CX S Γ X)(pn:List (Addr×Obj))(xe:Value->Shared->Prop)(E:XK)(ho:PassesOwn (model X.prog X.w) X.A X.env xe)(hp:Passes (eQ X.prog X.w) (X.alt X.A X.calm pn xe) E):
  de CX (tS S) {Γ with E:=E} (X.alt X.A X.calm pn xe):=
 {N:=G.N,sc:=G.sc,K:=G.K,calm:=G.calm,units:=G.units,fns:=G.fns,eE:=G.eE,cC:=G.cC,pass:=by rw[G.p8];exact hp,lE:=G.lE,mP:=G.mP,mQ:=G.mQ,oA:=G.oA,
  si:=fun _ _ h=>(by simp at h),mR:=G.mR,oB:=G.oB,pZ:=G.pZ,nd:=G.nd,mT:=G.mT,own:=ho,p7:=G.p7,rs:=fun _ _ h=>(by simp at h),jb:=G.jb,gH:=G.gH,oC:=G.oC,p8:=G.p8}
theorem de.held(G:de CX S Γ X)(ea:Addr)(pn:List (Addr×Obj)):
  de CX (hS S) {Γ with E:=E0,hv:=some ea} (X.alt (X.A.mark<|some<|.ref ea) false pn fun _ _=>False):=
 {N:=G.N,sc:=G.sc,K:=G.K,calm:=fun h=>(nomatch h),units:=G.units,fns:=fun h=>(nomatch h),eE:=G.eE,cC:=G.cC,pass:=fun _ _ _ _ _ _ _ h=>(G.lE _ _ _ _ _ h).elim,lE:=G.lE,mP:=G.mP,mQ:=fun h=>(nomatch h),oA:=fun h=>(nomatch h),
  si:=fun _ _ h=>(by simp at h),mR:=fun j x h=>(by
   obtain⟨k,f,fd,ps,F,r,m⟩:=G.mR j x h;exact⟨k,f,fd,ps,F,r.mark _,m⟩),
  oB:=fun e h=>(by cases h;rfl),pZ:=fun h=>(nomatch h),nd:=G.nd,mT:=G.mT,own:=PassesOwn.never,p7:=G.p7,rs:=fun _ _ h=>(by simp at h),jb:=G.jb,gH:=G.gH,oC:=G.oC,p8:=G.p8}
theorem VO{n:Nat}{y:Str}{np iR:Pos}{body su:List Stmt}{b₀:Stmt}{rb ke:List RS}(G:de CX S Γ X)(h:kG S j x=true)(hn:(decide (S.N.length=n) && decide (S.N[i]?=some y) && decide (S.sc.names.lookup y=some .local))=true)
  (hb:∀{Γ:bx}{X:Cx},de CX (tS S) Γ X->cP X body (ay Γ rb)) (hs:∀{Γ:bx}{X:Cx},de CX (hS S) Γ X->cP X (b₀::su) (ay Γ ke)):
  PS X (.Try body [.ExceptHandler (some<|.Name x np) (some y) (b₀::su) iR] [] [] pos) (cK Γ<|.uD n i j rb ke):=by
 simp only[kG,zaf,decide_eq_true_eq,zaO] at h hn
 obtain⟨u,hm,hu⟩:=G.eE j x h.1.1;intro wv s σ H D I q;obtain⟨C,e,q⟩:=(show ∃C,Γ.gv j=.ref C/\oj Γ.K C i n (fun E=>ay {Γ with E:=E} rb) (fun ea=>ay {Γ with E:=E0,hv:=some ea} ke) D σ H from q)
 rw[e] at hu;have Bx:u=.ref C:=hu;subst Bx;have hl:X.N.length=n:=by rw[G.N];exact hn.1.1
 have q':oj X.K C i X.N.length (fun E=>ay {Γ with E:=E} rb) (fun ea=>ay {Γ with E:=E0,hv:=some ea} ke) D σ H:=by rw[G.K,hl];exact q
 exact UR (tb:=fun E=>ay {Γ with E:=E} rb) (th:=fun ea=>ay {Γ with E:=E0,hv:=some ea} ke) G.jb G.gH G.oC (G.gl h.1.2) h.2 hm (by rw[G.N];exact G.nd) (by rw[G.N];exact hn.1.2) (by rw[G.sc];exact hn.2)
  (fun pn xe E ho hp=>hb<|G.Hz pn xe E ho hp) (fun ea pn=>hs<|G.held ea pn) wv s σ H D I q'
theorem VP:PS X (.Continue p) (cK Γ .cont):=Pm
end
section
variable {P:Program}{w:World}{K:Frag}{mg:Str->Option Value}{base:Heap}
def lH(P:Program)(w:World)(K:Frag)(mg:Str->Option Value)(base:Heap)(k:Nat)(x:Str)(sp:Sp):Prop:=
 ∃f fd ps,cI P w K mg base (eQ P w) k f fd ps sp/\mg x=some (.ref f)/\PySem.W.keepIn K (.ref f)=true/\Binds K fd ps []
theorem lH.mono{j k:Nat}{x:Str}{sp:Sp}(h:lH P w K mg base j x sp)(hk:j<=k):lH P w K mg base k x sp:=by
 obtain⟨f,fd,ps,F,r⟩:=h;exact⟨f,fd,ps,F.mono hk,r⟩
def oE(tab:List (Str×Sp))(j:Nat):Sp:=match tab[j]? with
 |some p=>p.2
 |none=>fun _ _ _ _=>False
def qg(tab:List (Str×V))(j:Nat):V:=match tab[j]? with
 |some p=>p.2
 |none=>.az
structure uS (mg:Str->Option Value) (p:Str×V):Prop where
 ex:∃u,mg p.1=some u/\RelV p.2 u
def lI(tab:List (Str×Addr×Sp))(j:Nat):Addr×Sp:=match tab[j]? with
 |some p=>p.2
 |none=>(0,fun _ _ _ _=>False)
def xM(tab:List (Str×Addr))(j:Nat):Addr:=match tab[j]? with
 |some p=>p.2
 |none=>0
abbrev aO(K:Frag)(tab:List (Str×Sp))(gt:List (Str×V))(dk:List (Addr×List (Key×V)):=[])(mt kt:List (Str×Addr×Sp):=[])(et:List (Str×Addr):=[])(ht:List (Str×Sp):=[])(E:XK:=E0):bx:=
 {K:=K,fs:=oE tab,gv:=qg gt,E:=E,sd:=fun p kvs=>(p,kvs)∈dk,ms:=lI mt,kt:=lI kt,ex:=xM et,hs:=oE ht,hv:=none}
def hU(P:Program)(w:World)(K:Frag)(mg:Str->Option Value)(base:Heap)(k:Nat)(p:Str×Addr×Sp):Prop:=
 fY K p.2.1/\∃f fd ps,Meth K p.2.1 p.1 f/\cI P w K mg base (eQ P w) k f fd ps p.2.2/\Binds K fd ps []
def qi(P:Program)(w:World)(K:Frag)(mg:Str->Option Value)(base:Heap)(k:Nat)(p:Str×Addr×Sp):Prop:=
 ∃j f fd ps,j+1<=k/\Mk K p.2.1 f/\cI P w K mg base (eQ P w) j f fd ps p.2.2/\mg p.1=some (.ref p.2.1)/\Binds K fd ps []
theorem hU.mono{j k:Nat}{p:Str×Addr×Sp}(h:hU P w K mg base j p)(hk:j<=k):hU P w K mg base k p:=by
 obtain⟨c,f,fd,ps,m,F,b⟩:=h;exact⟨c,f,fd,ps,m,F.mono hk,b⟩
theorem qi.mono{j k:Nat}{p:Str×Addr×Sp}(h:qi P w K mg base j p)(hk:j<=k):qi P w K mg base k p:=by
 obtain⟨i,f,fd,ps,m,r⟩:=h;exact⟨i,f,fd,ps,zay m hk,r⟩
def xO(P:Program)(w:World)(K:Frag)(q:Addr×List (Key×V)):Prop:= ∀h:Heap,K.In h->∃vs,KV q.2 vs/\h.DictOf (dS P w) q.1 vs
abbrev sA(N:List Str)(sc:Scope)(tab:List Str)(gt:List Str)(bl:List Str)(mn kn:List Str:=[])(en hn:List Str:=[])(md:Nat:=0):cJ:={N:=N,sc:=sc,fn:=tab,gn:=gt,bl:=bl,mn:=mn,kn:=kn,en:=en,hn:=hn,md:=md}
def xQ(mg:Str->Option Value)(base:Heap)(p:Str×Addr):Prop:= ∃bm B newId rY,OwnCls p.1 p.2 bm newId mg base/\ExcBaseFacts B newId rY bm
def oF(P:Program)(w:World)(K:Frag)(mg:Str->Option Value)(base:Heap)(k:Nat)(x:Str)(sp:Sp):Prop:=
 ∃f fd ps,pY P w K mg base k f fd ps sp/\mg x=some (.ref f)/\PySem.W.keepIn K (.ref f)=true/\Binds K fd ps []
theorem oF.mono{P:Program}{w:World}{K:Frag}{mg:Str->Option Value}{base:Heap}{j k:Nat}{x:Str}{sp:Sp}(h:oF P w K mg base j x sp)(hk:j<=k):oF P w K mg base k x sp:=by
 obtain⟨f,fd,ps,F,r⟩:=h;exact⟨f,fd,ps,F.mono hk,r⟩
theorem VQ{x qual:Str}{st:Stmt}{f:Addr}{fd:FuncData}{N ps:List Str}{k:Nat}{sp:Sp}(F:n_ K x qual st f fd)(S:nW N ps (eO st))
  (tab:List (Str×Sp)) (gt:List (Str×V)) (bl:List Str) (mt kt:List (Str×Addr×Sp)) (et:List (Str×Addr)) (ht:List (Str×Sp)) (body:List RS)
  (hm:∀{CX:cg}{Γ:bx}{X:Cx},de CX (sA N (eO st) (tab.map (·.1)) (gt.map (·.1)) bl (mt.map (·.1)) (kt.map (·.1)) (et.map (·.1)) (ht.map (·.1))) Γ X->cP X (fE st) (ay Γ body))
  (By:∀p∈tab,lH P w K mg base k p.1 p.2) (qj:∀p∈gt,uS mg p) (mY:∀y∈bl,mg y=none) (dk:List (Addr×List (Key×V))) (Bz:∀q∈dk,xO P w K q)
  (BA:∀p∈mt,hU P w K mg base k p) (BB:∀p∈kt,qi P w K mg base k p) (het:∀p∈et,xQ mg base p) (BC:∀p∈ht,oF P w K mg base k p.1 p.2)
  (len:∀vs H Q E,sp vs H Q E->vs.length=ps.length)
  (qk:∀vs H Q E,sp vs H Q E->ay (aO K tab gt dk mt kt et ht E) body {nx:=fun _ H'=>Q .az H',rt:=Q} (start N vs) H):cI P w K mg base (eQ P w) (k+1) f fd ps sp:=by
 obtain⟨oc,od,kV,doc,pm,an,bo,ct,gX,rfl,lk,iK⟩:=F.ex;refine QN lk iK S len fun A outer s H vs Q E hr jd=>⟨_,hm (CX:=eQ P w) (Γ:=aO K tab gt dk mt kt et ht E) ?_,qk vs H Q E jd⟩;refine {N:=rfl,sc:=rfl,K:=rfl,calm:=fun _=>rfl,units:=hr.units,fns:=fun _ j y hj=>?_,eE:=fun j y hj=>?_,cC:=fun y hy=>?_,pass:=Uy,lE:=fun _ _ _ _ _ h=>xo h,mP:=fun p kvs h=>Bz _ h,mQ:=fun _ j y hj=>?_,oA:=fun _ j y hj=>?_,si:=fun j y hj=>?_,mR:=fun j y hj=>?_,oB:=fun _ h=>(nomatch h),pZ:=fun h=>(nomatch h),nd:=S.nd,mT:=fun _=>rfl,own:=PassesOwn.leaving,p7:=S.kind,rs:=fun _ _ _=>Uz,jb:=rfl,gH:=rfl,oC:=rfl,p8:=rfl}
 ·have bH:(tab.map (·.1))[j]?=some y:=hj;rw[zai] at bH;cases q:tab[j]? with
  |none=>rw[q] at bH;cases bH
  |some p=>
   rw[q] at bH;have e:p.1=y:=zao bH;obtain⟨f',ql,iX,F',m',k',b'⟩:=By p (zak q);have es:oE tab j=p.2:=by unfold oE;rw[q]
   show Hh (eQ P w) _ y (oE tab j);rw[es,<-e];exact⟨k,f',ql,iX,F',hr,m',k',b'⟩
 ·have bH:(gt.map (·.1))[j]?=some y:=hj;rw[zai] at bH;cases q:gt[j]? with
  |none=>rw[q] at bH;cases bH
  |some p=>
   rw[q] at bH;have e:p.1=y:=zao bH;obtain⟨u,h1,h2⟩:=(qj p<|zak q).ex;have es:qg gt j=p.2:=by unfold qg;rw[q]
   show ∃u,mg y=some u/\RelV (qg gt j) u;rw[es,<-e];exact⟨u,h1,h2⟩
 ·exact mY y (by simpa using hy)
 ·have bH:(mt.map (·.1))[j]?=some y:=hj;rw[zai] at bH;cases q:mt[j]? with
  |none=>rw[q] at bH;cases bH
  |some p=>
   rw[q] at bH;have e:p.1=y:=zao bH;obtain⟨c,f',ql,iX,m',F',b'⟩:=BA p (zak q);have es:lI mt j=p.2:=by unfold lI;rw[q]
   show xB (eQ P w) _ (lI mt j).1 y (lI mt j).2;rw[es,<-e];exact⟨c,k,f',ql,iX,m',F',hr,b'⟩
 ·have bH:(kt.map (·.1))[j]?=some y:=hj;rw[zai] at bH;cases q:kt[j]? with
  |none=>rw[q] at bH;cases bH
  |some p=>
   rw[q] at bH;have e:p.1=y:=zao bH;obtain⟨i,f',ql,iX,hi,m',F',g',b'⟩:=BB p (zak q);have es:lI kt j=p.2:=by unfold lI;rw[q]
   show Hi (eQ P w) _ y (lI kt j).1 (lI kt j).2;rw[es,<-e];exact⟨i,f',ql,iX,m',F',hr.mono hi,g',b'⟩
 ·have bH:(et.map (·.1))[j]?=some y:=hj;rw[zai] at bH;cases q:et[j]? with
  |none=>rw[q] at bH;cases bH
  |some p=>
   rw[q] at bH;have e:p.1=y:=zao bH;have es:xM et j=p.2:=by unfold xM;rw[q]
   show Hk _ y (xM et j);rw[es,<-e];exact het p<|zak q
 ·have bH:(ht.map (·.1))[j]?=some y:=hj;rw[zai] at bH;cases q:ht[j]? with
  |none=>rw[q] at bH;cases bH
  |some p=>
   rw[q] at bH;have e:p.1=y:=zao bH;obtain⟨f',ql,iX,F',m',k',b'⟩:=BC p (zak q);have es:oE ht j=p.2:=by unfold oE;rw[q]
   show Hj _ y (oE ht j);rw[es,<-e];exact⟨k,f',ql,iX,F',hr.h,m',k',b'⟩
end
section
variable {P:Program}{w:World}{K:Frag}{mg:Str->Option Value}{base:Heap}{x qual:Str}{st:Stmt}{f:Addr}{fd:FuncData}{N ps:List Str}{k:Nat}{sp:Sp}
theorem VR(F:n_ K x qual st f fd)(S:nW N ps (eO st))(jf:mg x=some (.ref f))(hb:Binds K fd ps [])
  (gt:List (Str×V)) (bl:List Str) (body:List RS)
  (hm:∀{CX:cg}{Γ:bx}{X:Cx},de CX (sA N (eO st) [] (gt.map (·.1)) bl (md:=1)) Γ X->cP X (fE st) (ay Γ body))
  (qj:∀p∈gt,uS mg p) (mY:∀y∈bl,mg y=none) (len:∀vs H Q E,sp vs H Q E->vs.length=ps.length)
  (qk:∀vs H Q,sp vs H Q E0->ay (aO K [] gt) body {nx:=fun _ H'=>Q .az H',rt:=Q} (start N vs) H):oF P w K mg base (k+1) x sp:=by
 obtain⟨oc,od,kV,doc,pm,an,bo,ct,gX,rfl,lk,iK⟩:=F.ex;refine⟨f,_,ps,UZ (CX:=eQ P w) lk iK S len fun A outer s H vs Q hr hh jd=>⟨_,hm (CX:=eQ P w) (Γ:=aO K [] gt) ?_,qk vs H Q jd⟩,jf,F.kp,hb⟩;refine {N:=rfl,sc:=rfl,K:=rfl,calm:=fun h=>(nomatch h),units:=hr.units,fns:=fun h=>(nomatch h),eE:=fun j y hj=>?_,cC:=fun y hy=>?_,pass:=fun _ _ _ _ _ _ _ h=>(xo h).elim,lE:=fun _ _ _ _ _ h=>xo h,mP:=fun p kvs h=>(nomatch h),mQ:=fun h=>(nomatch h),oA:=fun h=>(nomatch h),si:=fun j y hj=>(nomatch hj),mR:=fun j y hj=>(nomatch hj),oB:=fun _ h=>(nomatch h),pZ:=fun _=>U1 hh,nd:=S.nd,mT:=fun _=>rfl,own:=PassesOwn.never,p7:=S.kind,rs:=fun _ _ hj=>(nomatch hj),jb:=rfl,gH:=rfl,oC:=rfl,p8:=rfl}
 ·have bH:(gt.map (·.1))[j]?=some y:=hj;rw[zai] at bH;cases q:gt[j]? with
  |none=>rw[q] at bH;cases bH
  |some p=>
   rw[q] at bH;have e:p.1=y:=zao bH;obtain⟨u,h1,h2⟩:=(qj p<|zak q).ex;have es:qg gt j=p.2:=by unfold qg;rw[q]
   show ∃u,mg y=some u/\RelV (qg gt j) u;rw[es,<-e];exact⟨u,h1,h2⟩
 ·exact mY y (by simpa using hy)
theorem cI.top{k:Nat}(F:cI P w K mg base (eQ P w) k f fd ps sp):cI P w K mg base um k f fd ps (fun vs H Q _=>sp vs H Q E0):=
 ⟨fun vs H Q E h=>F.len vs H Q E0 h,fun A outer s H args us vs Q E hr e0 hb hv hs=>codeAny_mono (F.run A outer s H args us vs Q E0 hr e0 hb hv hs) fun r s' h=>by
  cases r with
  |error e=>exact(xo h).elim
  |ok fl=>cases fl<;>exact h⟩
end
section
variable {Γ:bx}{D:Ends}{σ:St}{H:Hp}{r:List RS}{Q:VK}
theorem HA{i:Nat}{e:RE}(h:ah Γ e σ H fun x H1=>ay Γ r D (σ.set i<|some x) H1):ay Γ (.asg i e::r) D σ H:=h
theorem VS{i:Nat}{e:RE}(h:ah Γ e σ H fun x H1=>ay Γ r D (σ.set i<|some x) H1):ay Γ (.rT i e::r) D σ H:=h
theorem HB{b:mH}{as:List RE}(h:aY Γ as σ H fun vs H1=>mJ Γ.K b vs H1 Q):ah Γ (.blt b as) σ H Q:=h
theorem HC{a:RE}{Q:List V->Hp->Prop}(h:ah Γ a σ H fun x H1=>Q [x] H1):aY Γ [a] σ H Q:=h
end
end L2
variable {H H' H1 H2 H0:L2.Hp}{σ:L2.St}{Γ:L2.bx}{Q:L2.VK}{n i j:Nat}{a C L hp i1 i2 l1 l2 z dx lo ed be lg:PySem.Addr}{xs ys:List L2.V}{v:L2.V}{D:L2.Ends}{body:List L2.RS}{as:List L2.RE}{fv:List (PySem.Str×Nat)}{bj:List Nat}{e o:L2.RE}{y s:PySem.Str}
namespace L2.B
open PySem PySem.Spec PyProof.Rows
def mZ:List Str:=["thing"]
noncomputable def HD:List RS:=
 [.ret<|.and [(.g7 .int<|.v 0),(.not<|.g7 .bool<|.v 0)]]
def af:List Str:=[]
def HE:List Str:=["isinstance","int","bool"]
def BD:List Str:=["thing","words"]
noncomputable def BE:List RS:=
 [.ret<|.and [(.g7 .str<|.v 0),(.cmp .In (.v 0)<|.v 1)]]
def HF:List Str:=["isinstance","str"]
noncomputable def BF:List RS:=
 [.ret<|.and [(.g7 .str<|.v 0),(.cmp .Eq (.bh .lstrip (.v 0) [.g 0])<|.c<|.str "")]]
def VT:List Str:=["SIGNS"]
noncomputable def xR:List RS:=
 [.ite (.or [(.not (.g7 .tuple (.v 0))),(.cmp .NotEq (.blt .len [.v 0]) (.c (.int 2)))]) [.ret (.c (.bl false))] [],
 .ite (.call 0 [(.ix (.v 0)<|.c<|.int 0),(.tup [(.c<|.str "keep")])]) [.ret<|.and [(.call 1 [(.ix (.v 0)<|.c<|.int 1)]),(.cmp .GtE (.ix (.v 0)<|.c<|.int 1)<|.c<|.int 1)]] [],
 .ret (.and [(.call 0 [(.ix (.v 0) (.c (.int 0))),(.tup [(.c (.str "cut")),(.c (.str "put"))])]),(.call 2 [(.ix (.v 0) (.c (.int 1)))]),(.cmp .NotEq (.ix (.v 0) (.c (.int 1))) (.c (.str "")))])]
def VU:List Str:=["is_word","is_whole","is_text"]
def VW:List Str:=["isinstance","tuple","len"]
def HG:List Str:=["word","ahead"]
noncomputable def HH:List RS:=
 [.ret<|.and [(.cmp .NotEq (.v 0)<|.v 1),(.not<|.and [(.cmp .Eq (.v 1)<|.c<|.str "cut"),(.cmp .Eq (.v 0)<|.c<|.str "put")])]]
def HI:List Str:=["change","ahead","part"]
noncomputable def HJ:List RS:=
 [.ite (.not (.g7 .list (.v 0))) [.jz 0 [(.c (.str "a change is a list"))]] [],
 .asg 1 (.c<|.str ""),
 .j0 2 .list [.v 0] [.ite (.not (.call 0 [.v 2])) [.jz 0 [(.c (.str "a part is a keep of 1 sign or more, or a cut or put of a text that is not empty"))]] [],
  .ite (.not<|.call 1 [(.ix (.v 2)<|.c<|.int 0),.v 1]) [.jz 0 [(.c<|.str "neighbours have two words, and no put stands right behind a cut")]] [],
  .asg 1 (.ix (.v 2) (.c (.int 0)))]]
def VX:List Str:=["is_part","may_follow"]
def VY:List Str:=["isinstance","list"]
def VZ:List Str:=["BadChange"]
def HK:List Str:=["part"]
noncomputable def HL:List RS:=
 [.ret<|.pT (.cmp .Eq (.ix (.v 0)<|.c<|.int 0)<|.c<|.str "keep") (.ix (.v 0)<|.c<|.int 1)<|.blt .len [(.ix (.v 0)<|.c<|.int 1)]]
def eT:List Str:=["len"]
def HM:List Str:=["change","over","gives"]
noncomputable def HN:List RS:=
 [.drop (.call 0 [.v 0]),
 .asg 1 (.blt .sum [(.comp none [] .list [.v 0] (some<|.cmp .NotEq (.ix (.v 0)<|.c<|.int 0)<|.c<|.str "put")<|.call 1 [.v 0])]),
 .asg 2 (.blt .sum [(.comp none [] .list [.v 0] (some<|.cmp .NotEq (.ix (.v 0)<|.c<|.int 0)<|.c<|.str "cut")<|.call 1 [.v 0])]),
 .ret (.tup [.v 1,.v 2])]
def V0:List Str:=["need_change","part_size"]
def V1:List Str:=["sum"]
def HP:List Str:=["change","size"]
noncomputable def HQ:List RS:=
 [.ite (.and [(.cmp .Gt (.blt .len [.v 0]) (.c (.int 0))),(.cmp .Eq (.ix (.ix (.v 0) (.neg (.c (.int 1)))) (.c (.int 0))) (.c (.str "keep")))]) [.asg 1 (.bin .Add (.v 1) (.ix (.bh .pop (.v 0) []) (.c (.int 1))))] [],
 .drop (.bh .append (.v 0) [(.tup [(.c (.str "keep")),.v 1])])]
def HR:List Str:=["change","puts","cuts","put","cut"]
noncomputable def HS:List RS:=
 [.asg 3 (.bh .join (.c (.str "")) [.v 1]),
 .asg 4 (.bh .join (.c<|.str "") [.v 2]),
 .ite (.cmp .NotEq (.v 3)<|.c<|.str "") [.drop<|.bh .append (.v 0) [(.tup [(.c<|.str "put"),.v 3])]] [],
 .ite (.cmp .NotEq (.v 4) (.c (.str ""))) [.drop (.bh .append (.v 0) [(.tup [(.c (.str "cut")),.v 4])])] []]
def HU:List Str:=["parts","change","puts","cuts","word","what"]
noncomputable def HV:List RS:=
 [.asg 1 (.lst []),
 .asg 2 (.lst []),
 .asg 3 (.lst []),
 .j5 [4,5] .list [.v 0] [.ite (.cmp .Eq (.v 4) (.c (.str "put"))) [.drop (.bh .append (.v 2) [.v 5])] [.ite (.cmp .Eq (.v 4) (.c (.str "cut"))) [.drop (.bh .append (.v 3) [.v 5])] [.ite (.cmp .Gt (.v 5) (.c (.int 0))) [.drop (.call 0 [.v 1,.v 2,.v 3]),
     .asg 2 (.lst []),
     .asg 3 (.lst []),
     .drop (.call 1 [.v 1,.v 5])] []]]],
 .drop (.call 0 [.v 1,.v 2,.v 3]),
 .ret (.v 1)]
def V2:List Str:=["add_texts","add_keep"]
def HW:List Str:=["change"]
noncomputable def HX:List RS:=
 [.drop (.call 0 [.v 0]),
 .ret (.call 1 [(.comp (some 2) [] .list [.v 0] none (.tup [(.ix (.g 0) (.v 0)),.v 1]))])]
def V3:List Str:=["need_change","neat"]
def V4:List Str:=["WAYS_BACK"]
def HY:List Str:=["_law_script","_law_k"]
noncomputable def HZ:List RS:=
 [.ite (.cmp .Lt (.v 1) (.blt .len [.v 0])) [.ret (.ix (.v 0) (.v 1))] [],
 .ret (.c (.int 0))]
def H9:List Str:=["thing","least","most"]
noncomputable def H_:List RS:=
 [.ret<|.and [(.call 0 [.v 0]),(.uB .LtE .LtE (.v 1) (.v 0)<|.v 2)]]
def Ia:List Str:=["is_whole"]
end L2.B
namespace L2
open PySem PySem.Spec PyProof.Rows
section
variable {X:Cx}
end
end L2
namespace L2.B
open PySem PySem.Spec PyProof.Rows
def Ib:List Str:=["_law_text","_law_change","_law_found","_law_at","_law_word","_law_thing"]
noncomputable def Ic:List RS:=
 [.asg 2 (.c (.str "")),
 .asg 3 (.c<|.int 0),
 .j5 [4,5] .list [.v 1] [.ite (.cmp .Eq (.v 4) (.c (.str "put"))) [.asg 2 (.bin .Add (.v 2) (.v 5))] [.ite (.cmp .Eq (.v 4) (.c (.str "keep"))) [.asg 2 (.bin .Add (.v 2) (.sl (.v 0) (some (.v 3)) (some (.bin .Add (.v 3) (.v 5))))),
    .asg 3 (.bin .Add (.v 3) (.v 5))] [.asg 3 (.bin .Add (.v 3) (.blt .len [.v 5]))]]],
 .ret (.v 2)]
end L2.B
namespace L2
open PySem PySem.Spec PyProof.Rows
section
variable {X:Cx}
end
section
variable {X:Cx}
end
end L2
namespace L2.B
open PySem PySem.Spec PyProof.Rows
end L2.B
namespace L2.Ie
open PySem PySem.W PyProof.Rows
section
variable {n:Nat}{lt:Nat->Nat->Bool}{p:Array Nat}
variable {cmp:Nat->Nat->(Bool->Shared->Prop)->Shared->Prop}{R:Shared->Prop}
end
end L2.Ie
namespace L2
open PySem PySem.Spec PyProof.Rows PySem.W L2.Ie
end L2
namespace L2
open PySem PySem.Spec PyProof.Rows
end L2
namespace L2.B
open PySem PySem.Spec PyProof.Rows
end L2.B
namespace L2
open PySem PySem.Spec PyProof.Rows
def uT:List (TE×TE)->St->Hp->(List (V×V)->Hp->Prop)->Prop
 |[],_,H,Q=>Q [] H
 |(tk,tv)::r,σ,H,Q=>tk σ H fun x H1=>tv σ H1 fun y H2=>uT r σ H2 fun ps H3=>Q ((x,y)::ps) H3
abbrev VV:List (V×V)->List (Value×Value)->Prop:=Paired fun p q=>RelV p.1 q.1/\RelV p.2 q.2
def oG(X:Cx)(pos:Pos)(keys:List (Option Expr))(values:List Expr)(m6:List (TE×TE)):Prop:=
 ∀(wv:List (Addr×Obj)) (s:Shared) (σ:St) (H:Hp) (Q:List (V×V)->Hp->Prop),Inv X wv σ H s->uT m6 σ H Q->
  wpAny (model X.prog X.w) X.A (evalPairs<|pairTrees keys values X.env pos) (fun vs s'=>∃ps H',Inv X wv σ H' s'/\VV ps vs/\Q ps H') X.xe s
theorem V5{X:Cx}{pos:Pos}:oG X pos [] [] []:=fun wv s σ H Q I h=>pairTrees_nil_walk ⟨[],H,I,.nil,h⟩
theorem V6{X:Cx}{pos:Pos}{k v:Expr}{ks:List (Option Expr)}{vs:List Expr}{tk tv:TE}{m6:List (TE×TE)}(hk:PE X k tk)(hv:PE X v tv)(hr:oG X pos ks vs m6):
  oG X pos (some k::ks) (v::vs) ((tk,tv)::m6):=fun wv s σ H Q I h=>
 pairTrees_cons_walk (aG (hk wv s σ H _ I h) fun u s1 ⟨x,H1,I1,rx,q1⟩=>aG (hv wv s1 σ H1 _ I1 q1) fun w2 s2 ⟨y,H2,I2,ry,q2⟩=>
  aG (hr wv s2 σ H2 _ I2 q2) fun ws s3 ⟨ps,H3,I3,rel,q3⟩=>⟨(x,y)::ps,H3,I3,.cons ⟨rx,ry⟩ rel,q3⟩)
def jE(kvs more:List (Key×V)):List (Key×V):=more.foldl (fun acc kv=>putK acc kv.1 kv.2) kvs
theorem KV.merge:∀{more:List (Key×V)}{rs:List (Key×Value)}{kvs:List (Key×V)}{vs:List (Key×Value)},KV more rs->KV kvs vs->KV (jE kvs more) (merged vs rs):=by
 intro more rs kvs vs r;unfold KV at r
 induction r generalizing kvs vs with
 |nil=>intro q;exact q
 | @cons p q ps qs h t ih=>
  intro r0;have e:KV (putK kvs p.1 p.2) (stored vs q.1 q.2):=by
   have:=r0.put p.1 h.2;rw[<-h.1];exact this
  exact ih e
theorem Ig:∀(more kvs:List (Key×V)),(jE kvs more).length<=kvs.length+more.length
 |[],kvs=>by show kvs.length<=kvs.length+0;omega
 |p::r,kvs=>by
  have h1:=Ig r (putK kvs p.1 p.2);have h2:=AA kvs p.1 p.2;show(jE (putK kvs p.1 p.2) r).length<=_;rw[zaq];omega
theorem Ih{P:Program}{w:World}:∀{kvs:List (Key×V)}{ws:List (Value×Value)},VV (kvs.map fun kv=>(kV kv.1,kv.2)) ws->∃rs,Carries (dS P w) ws rs/\KV kvs rs
 |[],_,r=>by rw[zbc] at r;cases r;exact⟨[],True.intro,.nil⟩
 |p::kvs,_,r=>by
  rw[zax] at r;cases r with
  | @cons a b as bs h t=>
   obtain⟨rs,c,q⟩:=Ih (P:=P) (w:=w) t;obtain⟨b1,b2⟩:=b;exact⟨(p.1,b2)::rs,⟨wK h.1,rfl,c⟩,.cons ⟨rfl,h.2⟩ q⟩
def BG(m6:List (TE×TE)):TE:=fun σ H Q=>∀p,H p=none->uT m6 σ (upd H p<|.dK []) fun ps H2=>H2 p=some (.dK [])/\∃kvs:List (Key×V),ps=kvs.map (fun kv=>(kV kv.1,kv.2))/\kvs.length<=15/\Q (.ref p) (upd H2 p<|.dK<|jE [] kvs)
theorem V7{X:Cx}{pos:Pos}{keys:List (Option Expr)}{values:List Expr}{m6:List (TE×TE)}(h:oG X pos keys values m6)(rL:keys.all (·.isSome)=true)(hl:keys.length=values.length)(h0:keys≠ [])
  (V8:keys.length<=15):PE X (.Dict keys values pos) (BG m6):=by
 intro wv s σ H Q I q;have hn:=I.aB.fresh (zqR s.heap.objs.size);have I1:=I.laid (a:=s.heap.objs.size) (o:=.dK []) (h':=s.heap.push {cls:=.type "dict",data:=.dict #[]}) (t':=s.toks) (fun _ _ q=>Heap.get?_push_of_some _ q) (zqR _) (RQ s.heap I.big);refine wpAny_Dict_walk (knd:=dS X.prog X.w) rL hl h0 V8<|aG (h wv _ σ _ _ I1<|q _ hn) fun ws s2 ⟨ps,H2,I2,rel,e,kvs,ep,lk,q2⟩=>?_;subst ep;obtain⟨rs,c,rk⟩:=Ih (P:=X.prog) (w:=X.w) rel;obtain⟨z,hd,vs0,r0,dd⟩:=F9 I2.aB e;cases r0;refine⟨rs,c,dd,fun h' pP hs=>⟨.ref s.heap.objs.size,_,?_,rfl,q2⟩⟩;have hz:(jE [] kvs).length<=sizeLine:=by
  have h1:=Ig kvs [];rw[zbf] at h1;rw[sizeLine_eq];omega
 have he:∃q,h'.get? s.heap.objs.size=some q:=let ⟨q,_,_,hq,_⟩:=pP;⟨q,hq⟩;exact AG I2 (by rw[e];exact True.intro) hs he<|F_ hz hd (rk.merge .nil) pP
def qm:List (Key×V)->List V
 |[]=>[]
 |kv::r=>kV kv.1::kv.2::qm r
def qo:List (V×V)->List V
 |[]=>[]
 |p::r=>p.1::p.2::qo r
def oH:Frag->TA->TE:=fun _ t σ H Q=>∀p,H p=none->t σ (upd H p<|.dK []) fun vs H2=>H2 p=some (.dK [])/\∃kvs:List (Key×V),vs=qm kvs/\kvs.length<=15/\Q (.ref p) (upd H2 p<|.dK<|jE [] kvs)
def oI(Γ:bx):List RE->List (TE×TE)
 |a::b::r=>(ah Γ a,ah Γ b)::oI Γ r
 |_=>[]
theorem BH:∀(rs:List RE) H (Q:List V->Hp->Prop),rs.length % 2=0->aY Γ rs σ H Q=uT (oI Γ rs) σ H fun ps H2=>Q (qo ps) H2
 |[],H,Q,_=>rfl
 |[a],H,Q,e=>absurd e (by show ¬(1 % 2=0);decide)
 |a::b::r,H,Q,e=>by
  have e':r.length % 2=0:=by
   have:(r.length+1+1) % 2=0:=e;lia
  show(ah Γ a σ H fun x H1=>ah Γ b σ H1 fun y H2=>aY Γ r σ H2 fun vs H3=>Q (x::y::vs) H3)=ah Γ a σ H fun x H1=>ah Γ b σ H1 fun y H2=>uT (oI Γ r) σ H2 fun ps H3=>Q (x::y::qo ps) H3
  congr 1
  funext x H1
  congr 1
  funext y H2
  exact BH r H2 (fun vs H3=>Q (x::y::vs) H3) e'
theorem xS:∀(ps:List (V×V)) kvs,qo ps=qm kvs↔ps=kvs.map fun kv=>(kV kv.1,kv.2)
 |[],[]=>⟨fun _=>rfl,fun _=>rfl⟩
 |[],kv::r=>⟨(fun h=>by cases h),(fun h=>by cases h)⟩
 |p::ps,[]=>⟨(fun h=>by cases h),(fun h=>by cases h)⟩
 |p::ps,kv::r=>by
  constructor
  ·intro h;have h1:p.1=kV kv.1:=(zaZ h).1;have h2:p.2=kv.2:=(zaZ (zaZ h).2).1;have h3:=(xS ps r).mp (zaZ (zaZ h).2).2;rw[h3,zax,<-h1,<-h2]
  ·intro h;rw[zax] at h;obtain⟨h1,h2⟩:=zaZ h;show p.1::p.2::qo ps=kV kv.1::kv.2::qm r;rw[(xS ps r).mpr h2,h1]
theorem V9{K:Frag}(rs:List RE)(e:rs.length % 2=0):oH K (aY Γ rs)=BG (oI Γ rs):=by
 funext σ H Q
 unfold oH BG
 apply propext
 constructor
 ·intro h p hp;have:=h p hp;rw[BH rs _ _ e] at this;have e2:(fun(ps:List (V×V)) (H2:Hp)=>H2 p=some (.dK [])/\∃kvs:List (Key×V),qo ps=qm kvs/\kvs.length<=15/\Q (.ref p) (upd H2 p<|.dK<|jE [] kvs))=fun ps H2=>H2 p=some (.dK [])/\∃kvs:List (Key×V),ps=kvs.map (fun kv=>(kV kv.1,kv.2))/\kvs.length<=15/\Q (.ref p) (upd H2 p<|.dK<|jE [] kvs):=by
   funext ps H2
   simp only[xS]
  rw[e2] at this;exact this
 ·intro h p hp;have:=h p hp;rw[BH rs _ _ e];have e2:(fun(ps:List (V×V)) (H2:Hp)=>H2 p=some (.dK [])/\∃kvs:List (Key×V),qo ps=qm kvs/\kvs.length<=15/\Q (.ref p) (upd H2 p<|.dK<|jE [] kvs))=fun ps H2=>H2 p=some (.dK [])/\∃kvs:List (Key×V),ps=kvs.map (fun kv=>(kV kv.1,kv.2))/\kvs.length<=15/\Q (.ref p) (upd H2 p<|.dK<|jE [] kvs):=by
   funext ps H2
   simp only[xS]
  rw[e2];exact this
section
variable {CX:cg}{S:cJ}{Γ:bx}{X:Cx}{pos:Pos}{k v:Expr}{ks:List (Option Expr)}{vs:List Expr}{rk rv:RE}{rs:List RE}
theorem Ii:oG X pos [] [] (oI Γ []):=V5
theorem kf(hk:PE X k (ah Γ rk))(hv:PE X v (ah Γ rv))(h:oG X pos ks vs (oI Γ rs)):oG X pos (some k::ks) (v::vs) (oI Γ (rk::rv::rs)):=V6 hk hv h
def Ij(keys:List (Option Expr))(values:List Expr)(rs:List RE):Bool:=keys.all (·.isSome) && decide (keys.length=values.length) && decide (keys.length≠0) && decide (keys.length<=15) && decide (rs.length % 2=0)
theorem Ik(hp:oG X pos ks vs (oI Γ rs))(h:Ij ks vs rs=true:=by kernel_rfl):PE X (.Dict ks vs pos) (ah Γ<|.xt oH rs):=by
 simp only[Ij,zaf,decide_eq_true_eq] at h
 obtain⟨⟨⟨⟨h1,h2⟩,h3⟩,h4⟩,h5⟩:=h;show PE X _ (oH Γ.K<|aY Γ rs);rw[V9 rs h5];exact V7 hp h1 h2 (fun z=>h3 (by rw[z];rfl)) h4
end
def m7(xs:List V)(lo hi st:Option Int):List V:=(sliceRange (sliceBounds lo hi st xs.length).1 (sliceBounds lo hi st xs.length).2.1 (sliceBounds lo hi st xs.length).2.2).filterMap (xs[·]?)
def oJ(K:Frag):V->Option Int->Option Int->Option Int->Hp->VK->Prop:=fun x lo hi st H Q=>∃a xs,x=.ref a/\av K H a xs/\st≠some 0/\∀p,H p=none->Q (.ref p) (upd H p<|.lst<|m7 xs lo hi st)
theorem Il{us:List Value}(r:Vals xs us):∀(is:List Nat),Vals (is.filterMap (xs[·]?)) (is.filterMap (us.toArray[·]?))
 |[]=>.nil
 |i::is=>by
  have ih:=Il r is;by_cases h:i<xs.length
  ·obtain⟨w,e1,r1⟩:=r.get (i:=i) (x:=xs[i]) (by simp[h])
   have e2:xs[i]?=some xs[i]:=by simp[h]
   have e3:us.toArray[i]?=some w:=by simpa using e1
   rw[zch e2,zch e3];exact .cons r1 ih
  ·have hl:=r.length;have e2:xs[i]?=none:=by simp;lia
   have e3:us.toArray[i]?=none:=by simp;lia
   rw[List.filterMap_cons_none e2,List.filterMap_cons_none e3];exact ih
section
variable {X:Cx}{e ee el st:Expr}{te tl ts:TE}{p2 pos:Pos}
theorem V_{wv:List (Addr×Obj)}{s:Shared}{x:V}{v vl vu vs:Value}{lo hi k:Option Int}{sl:Addr}(I:Inv X wv σ H s)(rx:RelV x v)(hs:s.heap.IsSliceOf sl vl vu vs)(pl:IsPart vl lo)(pu:IsPart vu hi)(ps:IsPart vs k)(h:oJ X.K x lo hi k H Q):
  ∃T id,typeLookup (.type T) "__getitem__"=pure (some<|.builtin id)/\s.TypeIs v T/\wpAny (model X.prog X.w) X.A (getItem v<|.ref sl) (EP X wv σ Q) X.xe s:=by
 obtain⟨a,xs,rfl,hx,h0,q⟩:=h;cases rx;obtain⟨ao,r,ht,hz⟩:=I.list hx;have hlen:=r.length;refine⟨"list",_,slot_list_getitem.lookup,ht.isList.typeIs,?_⟩;refine wpAny_getItem_list_slice ht.isList hs pl pu ps h0 ?_ (by rw[zag] <;>lia)
 have hle:=slicePick_size_le ao.toArray lo hi k;refine⟨.ref s.heap.objs.size,_,I.laid (t':=s.toks) (o:=.lst (m7 xs lo hi k)) (fun b ob q=>Heap.get?_push_of_some _ q) (zqR _) ?_,rfl,q _<|I.aB.fresh<|zqR _⟩;have hv:=Il r (sliceRange (sliceBounds lo hi k xs.length).1 (sliceBounds lo hi k xs.length).2.1 (sliceBounds lo hi k xs.length).2.2);have e:(slicePick ao.toArray lo hi k)=((sliceRange (sliceBounds lo hi k xs.length).1 (sliceBounds lo hi k xs.length).2.1 (sliceBounds lo hi k xs.length).2.2).filterMap (ao.toArray[·]?)).toArray:=by
  unfold slicePick;rw[zag,<-hlen]
 refine⟨?_,_,0,hv,by rw[<-e];exact Heap.get?_push_size _ rfl⟩
 have:=hv.length;unfold m7;rw[this,<-zag,<-e];have h2:ao.toArray.size=ao.length:=zag;lia
def BI(K:Frag)(te:TE)(tl th ts:TO):TE:=fun σ H Q=>te σ H fun x H1=>tl σ H1 fun l H2=>th σ H2 fun u H3=>ts σ H3 fun k H4=>oJ K x l u k H4 Q
theorem Im{lo hi:Option Expr}{to tu ts:TO}(he:PE X ee te)(hl:PO X lo to)(hu:PO X hi tu)(hs:PO X (some st) ts):PE X (.Subscript ee (.Slice lo hi (some st) p2) pos) (BI X.K te to tu ts):=by
 intro wv s σ H Q I h;refine Subscript_<|aG (he wv s σ H _ I h) fun v s1 ⟨x,H1,I1,r1,q1⟩=>?_;refine wpAny_Slice<|aG (hl wv s1 σ H1 _ I1 q1) fun vl s2 ⟨l,H2,I2,pl,q2⟩=>aG (hu wv s2 σ H2 _ I2 q2) fun vu s3 ⟨u,H3,I3,pu,q3⟩=>aG (hs wv s3 σ H3 _ I3 q3) fun vs s4 ⟨k,H4,I4,pk,q4⟩=>?_;have I5:Inv X wv σ H4 {s4 with heap:=s4.heap.push {cls:=.type "slice",data:=.fields #[vl,vu,vs]}}:=I4.kept (t':=s4.toks) fun b ob q=>Heap.get?_push_of_some _ q
 obtain⟨T,id,hT,ht,hg⟩:=V_ (sl:=s4.heap.objs.size) I5 r1 (Heap.IsSliceOf.new ..) pl pu pk q4;show wpAny (model X.prog X.w) X.A (subscriptTail ee (.Slice lo hi (some st) p2) v<|.ref s4.heap.objs.size) (EP X wv σ Q) X.xe {s4 with heap:=s4.heap.push {cls:=.type "slice",data:=.fields #[vl,vu,vs]}}
 exact tail_any (ops:=[v,.ref s4.heap.objs.size]) ht hT hg (by with_unfolding_all rfl)
end
def lJ(lo:Option Int)(k:Int):Frag->TA->TE:=fun K t σ H Q=>t σ H fun vs H1=>match vs with
 |[x]=>oJ K x lo none (some k) H1 Q
 |_=>False
theorem Wa{K:Frag}{ra rl rs:RE}{i k:Int}(hl:∀σ H Q,ah Γ rl σ H Q=Q (.int i) H)(hs:∀σ H Q,ah Γ rs σ H Q=Q (.int k) H):lJ (some i) k K (aY Γ [ra])=BI K (ah Γ ra) (pM<|ah Γ rl) uh (pM<|ah Γ rs):=by
 funext σ H Q
 show(ah Γ ra σ H fun x H1=>oJ K x (some i) none (some k) H1 Q)=ah Γ ra σ H fun x H1=>ah Γ rl σ H1 fun y H2=>∃i',y=V.int i'/\ah Γ rs σ H2 fun z H3=>∃k',z=V.int k'/\oJ K x (some i') none (some k') H3 Q
 congr 1
 funext x H1
 rw[hl]
 apply propext
 constructor
 ·intro h;refine⟨i,rfl,?_⟩;rw[hs];exact⟨k,rfl,h⟩
 ·rintro⟨i',e,h⟩;cases e;rw[hs] at h;obtain⟨k',e,h⟩:=h;cases e;exact h
theorem Wb{K:Frag}{ra rs:RE}{k:Int}(hs:∀σ H Q,ah Γ rs σ H Q=Q (.int k) H):lJ none k K (aY Γ [ra])=BI K (ah Γ ra) uh uh (pM<|ah Γ rs):=by
 funext σ H Q
 show(ah Γ ra σ H fun x H1=>oJ K x none none (some k) H1 Q)=ah Γ ra σ H fun x H1=>ah Γ rs σ H1 fun z H3=>∃k',z=V.int k'/\oJ K x none none (some k') H3 Q
 congr 1
 funext x H1
 rw[hs]
 apply propext
 constructor
 ·intro h;exact⟨k,rfl,h⟩
 ·rintro⟨k',e,h⟩;cases e;exact h
section
variable {CX:cg}{S:cJ}{Γ:bx}{X:Cx}{a:Expr}{ra:RE}{p q p1 p2 p3:Pos}
theorem Io{i k:Int}{c1 c2}(G:Good CX S Γ X)(ha:PE X a (ah Γ ra))(h1:PE X (.Constant (.int i) c1 p1) (ah Γ<|.c<|.int i))(h2:PE X (.Constant (.int k) c2 p2) (ah Γ<|.c<|.int k)):PE X (.Subscript a (.Slice (some<|.Constant (.int i) c1 p1) none (some<|.Constant (.int k) c2 p2) q) p) (ah Γ<|.xt (lJ (some i) k) [ra]):=by
 show PE X _ (lJ (some i) k Γ.K<|aY Γ [ra]);rw[Wa (Γ:=Γ) (rl:=.c (.int i)) (rs:=.c (.int k)) (fun _ _ _=>rfl)<|fun _ _ _=>rfl,<-G.K];exact Im ha (wF h1) wD<|wF h2
theorem Wc{k:Int}{c2}(G:Good CX S Γ X)(ha:PE X a (ah Γ ra))(h2:PE X (.UnaryOp .USub (.Constant (.int k) c2 p2) p3) (ah Γ<|.neg<|.c<|.int k)):PE X (.Subscript a (.Slice none none (some<|.UnaryOp .USub (.Constant (.int k) c2 p2) p3) q) p) (ah Γ<|.xt (lJ none<|-k) [ra]):=by
 show PE X _ (lJ none (-k) Γ.K<|aY Γ [ra]);rw[Wb (Γ:=Γ) (rs:=.neg (.c<|.int k)) (k:= -k) ?_,<-G.K]
 ·exact Im ha wD wD (wF h2)
 ·intro σ H Q
  apply propext
  constructor
  ·intro h;exact h
  ·intro h;exact h
end
theorem Wd:typeLookup (.type "list_reverseiterator") "__len__"=pure none:=by rw[typeLookup_type,builtinLookup_eq_fast];kernel_rfl
theorem We:typeLookup (.type "list_reverseiterator") "__length_hint__"=pure (some<|.builtin "list_reverseiterator.__length_hint__"):=by rw[typeLookup_type,builtinLookup_eq_fast];kernel_rfl
section
variable {prog:Program}{w:World}{A:Around}{E:Value->Shared->Prop}{s:Shared}
theorem Wf{I:Addr}{Q:Bool->Shared->Prop}(hT:s.TypeIs (.ref I) "list_reverseiterator")(h:Q false s):wpAny (model prog w) A (Builtin.List.listLengthHint<|.ref I) Q E s:=by
 unfold Builtin.List.listLengthHint;refine wpAny_bind<|wpAny_specialOf hT Wd ?_;show wpAny _ A (specialOf (Value.ref I) (Str.ofString "__length_hint__") >>=_) _ _ _;refine wpAny_bind<|wpAny_specialOf hT We ?_;generalize Ip:("list_reverseiterator.__length_hint__":String)=Wg
 wp_delta
 rw[show splitId Wg=some ("list_reverseiterator","__length_hint__") from by subst Ip;decide+kernel]
 subst Ip;refine wpAny_bind<|wpAny_isInstance (T:="list_reverseiterator") (b:=true) hT (by rw[isSubtype_type];kernel_rfl) ?_
 refine wpAny_ite_split (fun eF=>absurd eF (by decide))<|fun _=>?_
 refine wpAny_ite_split (fun _=>?_)<|fun eF=>absurd (by decide+kernel) eF
 refine wpAny_ite_split (fun eF=>absurd eF (by decide))<|fun _=>?_
 exact wpAny_pure h
theorem Wh{Q:Value->Shared->Prop}{I l:Addr}{items:Array Value}(hh:A.handled=none)(hit:s.heap.IsRevIter I l ((items.size:Int) - 1))(hl:s.heap.IsList l items)(jA:l≠I)(hn:items.size<=sizeLine)
  (hQ:∀h' tk kZ c',(∀b o,b≠I->s.heap.get? b=some o->h'.get? b=some o)->
   h'.get? s.heap.objs.size=some {cls:=.type "list",dict:=none,data:=.seq kZ c',slots:= #[]}->ItemsOf (fun i v=>items[items.size - 1 - i]?=some v) kZ items.size->Q (.ref s.heap.objs.size) {s with heap:=h',toks:=tk}):
  wpAny (model prog w) A (call (.type "list") [.ref I]) Q E s:=by
 have hI:I<s.heap.objs.size:=by obtain⟨o,ho,_⟩:=hit;exact Heap.lt_size ho
 have aN:l<s.heap.objs.size:=by obtain⟨o,ho,_⟩:=hl;exact Heap.lt_size ho
 refine callType_codes (Q₁:=fun obj s₁=>obj=.ref s.heap.objs.size/\s₁={s with heap:=s.heap.push {cls:=.type "list",data:=.seq #[]}}) F.called_list (F.typeCall_list_1 _) F.entry_list_init
  (code_list_new _ ⟨rfl,rfl⟩) fun obj s₁ h₁=>?_
 obtain⟨rfl,rfl⟩:=h₁;have hS:(s.heap.push {cls:=.type "list",data:=.seq #[]}).get? s.heap.objs.size=some {cls:=.type "list",data:=.seq #[]}:=Heap.get?_push_size _ rfl;refine⟨⟨_,hS,rfl⟩,F.args_list_init_2 _ _,?_⟩;have Wi:(s.heap.push {cls:=.type "list",data:=.seq #[]}).IsRevIter I l ((items.size:Int) - 1):=hit.at fun o e=>Heap.get?_push_of_some _ e;have dz:(s.heap.push {cls:=.type "list",data:=.seq #[]}).IsList l items:=hl.at fun o e=>Heap.get?_push_of_some _ e;have Wj:∀b o,s.heap.get? b=some o->(s.heap.push {cls:=.type "list",data:=.seq #[]}).get? b=some o:=fun b o e=>Heap.get?_push_of_some _ e;have Iq:∀b o,s.heap.get? b=some o->b≠s.heap.objs.size:=fun b o e=>zap (Heap.lt_size e);generalize hS0:s.heap.objs.size=S at*;generalize s.heap.push {cls:=.type "list",data:=.seq #[]}=h1 at*;show wpAny _ _ (do let old <-Builtin.List.listItems (.ref S);Builtin.List.listUpdate (.ref S) (fun _=> #[]);letGo old.toList.reverse;Builtin.List.listExtendWith (.ref S) (.ref I) .none) _ _ {s with heap:=h1}
 refine wpAny_bind ?_;unfold Builtin.List.listItems;refine wpAny_bind<|wpAny_seqItems hS rfl<|wpAny_pure ?_;show wpAny _ _ (updateSeq S (fun _=> #[]) >>=fun _=>letGo (#[]:Array Value).toList.reverse>>=fun _=>Builtin.List.listExtendWith (.ref S) (.ref I) .none) _ _ {s with heap:=h1}
 refine wpAny_bind<|wpAny_updateSeq hS rfl ?_;have sD:=Heap.get?_update_self (Obj.mapSeq<|fun _=>(#[]:Array Value)) hS rfl;have dZ:∀b o,b≠S->h1.get? b=some o->(h1.update S<|Obj.mapSeq<|fun _=>(#[]:Array Value)).get? b=some o:=
  fun b o hb e=>(Heap.get?_update_other _ _<|Ne.symm hb).trans e
 have BJ:I≠S:=zap hI;have Ir:l≠S:=zap aN;have BK:=Wi.at (h':=h1.update S (Obj.mapSeq<|fun _=>(#[]:Array Value))) fun o e=>dZ I o BJ e;have eo:=dz.at (h':=h1.update S (Obj.mapSeq<|fun _=>(#[]:Array Value))) fun o e=>dZ l o Ir e;refine wpAny_bind<|wpAny_letGo ?_;generalize h1.update S (Obj.mapSeq<|fun _=>(#[]:Array Value))=h2 at*;have hT:({s with heap:=h2}:Shared).TypeIs (.ref I) "list_reverseiterator":=BK.typeIs (s:={s with heap:=h2})
 unfold Builtin.List.listExtendWith;refine wpAny_bind<|wpAny_typeOf hT ?_;have m8:Builtin.List.listSameRef (.ref S) (.ref I)=false:=by simp[Builtin.List.listSameRef,Ne.symm BJ]
 have sE:(Value.type "list_reverseiterator"==Value.type "list")=false:=by decide
 have BL:(Value.type "list_reverseiterator"==Value.type "tuple")=false:=by decide
 simp only[m8,sE,BL,zbj,zaV,if_false]
 refine wpAny_bind<|wpAny_pyIter_revIter BK ?_;refine wpAny_bind<|wpAny_holding<|Wf hT ?_;have W:=(Walks.listRev (prog:=prog) (w:=w) (A:=A.in1.in1) hh I l jA items).toS;have Wk:S∉ [I,l]:=fun hm=>by
  rcases zac.mp hm with e|hm
  ·exact BJ e.symm
  ·exact Ir (zad.mp hm).symm
 refine wpAny_ite_split (fun eF=>absurd eF (by decide))<|fun _=>wpAny_pure ⟨plainId_quiet F.plain_extend_loop _,?_⟩
 refine codeAny_extend_loopS W hn S Wk _ items.size 0 _ #[] _ rfl (zqZ _) ⟨zqZ _,?_,eo⟩ sD (ItemsOf.nil _) fun s' kZ c' hm oK gI=>?_
 ·have e:(items.size:Int) - 1 - ((0:Nat):Int)=(items.size:Int) - 1:=by lia
  rw[e];exact BK
 ·rw[Moved.eq_with hm];refine⟨rfl,hQ s'.heap s'.toks kZ c' (fun b o hb e=>hm.heap b o (fun BM=>?_)<|dZ b o (Iq b o e)<|Wj b o e) oK gI⟩;rcases zac.mp BM with e'|BM
  ·exact Iq b o e e'
  ·exact hb (zad.mp BM)
end
theorem Wl{x:V}{u:Value}(r:RelV x u):∀{xs:List V}{us:List Value},Vals xs us->Vals (xs++[x]) (us++[u]):=fun h=>Vals.append h (.cons r .nil)
theorem Iu:∀{xs:List V}{us:List Value},Vals xs us->Vals xs.reverse us.reverse
 |[],[],.nil=>.nil
 |x::xs,u::us,.cons r h=>by
  rw[zaC,zaC];exact Wl r<|Iu h
theorem Wm{ao:List Value}{acc:Array Value}(h:ItemsOf (fun i v=>ao.toArray[ao.toArray.size - 1 - i]?=some v) acc ao.toArray.size):acc.toList=ao.reverse:=by
 obtain⟨h1,h2⟩:=h;refine List.ext_getElem? fun i=>?_;by_cases hi:i<ao.length
 ·have hs:i<acc.size:=by rw[h1];simpa using hi
  have e:=h2 i acc[i] (zbm hs);rw[List.getElem?_reverse hi];have e2:acc.toList[i]?=some acc[i]:=by simp[hs]
  rw[e2]
  simpa using e.symm
 ·have hs:acc.toList.length=ao.length:=by simpa using h1
  rw[zci (by lia),zci (by rw[zaJ];lia)]
def xT(K:Frag):List V->Hp->VK->Prop:=fun xs H Q=>∃p ys,xs=[.ref p]/\av K H p ys/\∀l,H l=none->Q (.ref l) (upd H l<|.lst ys.reverse)
def BN:Frag->TA->TE:=fun K t=>fZ (xT K) t
theorem boot_reversed:bootBuiltins "reversed"=some (.type "reversed"):=by decide+kernel
section
variable {CX:cg}{S:cJ}{Γ:bx}{X:Cx}{e:Expr}{es:List Expr}{x y:Str}{p p2 pos lK:Pos}{r:RE}{rs:List RE}
theorem Wn{t:TA}(hc:X.calm=true)(g1:Gl X "list")(m1:X.mg "list"=none)(g2:Gl X "reversed")(m2:X.mg "reversed"=none)(ha:PA X [e] t)(hs:starEach [e] X.env=[(false,eval e X.env)]):
  PE X (.Call (.Name "list" p) [.Call (.Name "reversed" p2) [e] [] lK] [] pos) (fZ (xT X.K) t):=by
 intro wv s σ H Q I h;refine wpAny_Call_Name_kw<|kQ I g1 m1 Bs ?_ (by decide) (by decide)
 refine PyProof.Rows.callWith_type1 ?_ rfl rfl;show wpAny _ _ (spliced ((false,eval (.Call (.Name "reversed" p2) [e] [] lK) X.env)::backTo pos (starEach [] X.env))) _ _ s;refine Calls.spliced_cons ?_;refine wpAny_Call_Name_kw<|kQ I g2 m2 boot_reversed ?_ (by decide) (by decide)
 refine PyProof.Rows.callWith_type1 ?_ hs rfl;refine aG (ha lK wv s σ H _ I h) fun us s1 ⟨vs,H1,I1,r1,q1⟩=>?_;obtain⟨l,ys,rfl,hq,q⟩:=q1;obtain⟨u,rfl,ru⟩:=vals1 r1;cases ru;obtain⟨ao,rv,pl,hz⟩:=I1.list hq;have hl:=pl.isList;have aN:l<s1.heap.objs.size:=by obtain⟨o,ho,_⟩:=hl;exact Heap.lt_size ho
 refine call_reversed_list hl ?_;refine Calls.spliced_nil ?_;have hln:=rv.length;refine Wh (I.ok.hd hc) (items:=ao.toArray) ⟨_,Heap.get?_push_size _ rfl,rfl,rfl⟩ (hl.push _) (zap aN) (by simp only[zag];lia) fun h' tk kZ c' kp e gI=>?_
 have ea:=Wm gI;refine⟨.ref _,_,I1.laid (a:=(s1.heap.push (revObj l ((ao.toArray.size:Int) - 1))).objs.size) (t':=tk) (fun b o eb=>kp b o (zap (Heap.lt_size eb)) (Heap.get?_push_of_some _ eb)) (by rw[Heap.size_push];exact zaI _)
  (show cA X.prog X.w _ h' _ (.lst ys.reverse) from⟨by rw[zaJ];exact hz,kZ.toList,c',by rw[ea];exact Iu rv,by simpa using e⟩),rfl,q _ (I1.aB.fresh (by rw[Heap.size_push];exact zaI _))⟩
theorem Wo(G:Good CX S Γ X)(hA:PA X [e] (aY Γ [r]))(h:kB S x "list"=true:=by kernel_rfl)(h':kB S y "reversed"=true:=by kernel_rfl)(hn:gg [e]=true:=by kernel_rfl)(hq:S.md=0:=by rfl):PE X (.Call (.Name x p) [.Call (.Name y p2) [e] [] lK] [] pos) (ah Γ<|.xt BN [r]):=by
 simp only[kB,zaf,decide_eq_true_eq] at h h'
 obtain⟨⟨rfl,h2⟩,h3⟩:=h;obtain⟨⟨rfl,h5⟩,h6⟩:=h';show PE X _ (fZ (xT Γ.K)<|aY Γ [r]);rw[<-G.K];exact Wn (G.calm hq) (G.gl h2) (G.cC _ h3) (G.gl h5) (G.cC _ h6) hA<|dn (dq hn).1
end
end L2
namespace L2.B
open PySem PySem.Spec PyProof.Rows
def Iv:List Str:=["changes","pairs"]
noncomputable def Iw:List RS:=
 [.mI (.cmp .Gt (.blt .len [.v 0]) (.c (.int 1))) [.rT 1 (.comp (some 2) [] .zip [(.xt (lJ (some 0) 2) [.v 0]),(.xt (lJ (some 1) 2) [.v 0])] none (.call 0 [.v 0,.v 1])),
  .asg 0 (.bin .Add (.v 1) (.sl (.v 0) (some (.bin .Mult (.c (.int 2)) (.blt .len [.v 1]))) none))],
 .ret (.ix (.v 0) (.c (.int 0)))]
def Wq:List Str:=["then"]
def kg:List Str:=["len","zip"]
def Iy:List Str:=["self","size"]
noncomputable def Iz:List RS:=
 [.ite (.or [(.not (.call 0 [.v 1])),(.cmp .Lt (.v 1) (.c (.int 0)))]) [.jz 0 [(.c (.str "a text has no such number of signs"))]] [],
 .gF (.v 0) "here" (.c<|.int 0),
 .gF (.v 0) "lengths" (.lst [.v 1]),
 .gF (.v 0) "parents" (.lst [.c .az]),
 .gF (.v 0) "edges" (.lst [.c .az]),
 .gF (.v 0) "below" (.lst [(.lst [])]),
 .gF (.v 0) "last_gone" (.lst [.c .az])]
def Wr:List Str:=["NoPlace"]
def iY:List Str:=["self","node"]
noncomputable def IA:List RS:=
 [.ite (.not<|.call 0 [.v 1,(.c<|.int 0),(.bin .Sub (.bz 0 "many" (.v 0) [])<|.c<|.int 1)]) [.jz 0 [(.c<|.str "there is no such node")]] []]
def Ws:List Str:=["is_between"]
def Wt:List Str:=["many"]
def xU:List Str:=["NoNode"]
def xV:List Str:=["self","change"]
noncomputable def IB:List RS:=
 [.ite (.cmp .NotEq (.ix (.call 0 [.v 1])<|.c<|.int 0)<|.ix (.fld (.v 0) "lengths")<|.fld (.v 0) "here") [.jz 0 [(.c<|.str "the change is over a text of another number of signs")]] []]
def IC:List Str:=["sizes"]
def BO:List Str:=["BadFit"]
def lL:List Str:=["self"]
noncomputable def ID:List RS:=
 [.ret<|.blt .len [(.fld (.v 0) "parents")]]
noncomputable def BP:List RS:=
 [.drop (.bz 0 "need_node" (.v 0) [.v 1]),
 .ret (.ix (.fld (.v 0) "parents") (.v 1))]
def BQ:List Str:=["need_node"]
noncomputable def BR:List RS:=
 [.drop (.bz 0 "need_node" (.v 0) [.v 1]),
 .ret (.ix (.fld (.v 0) "lengths") (.v 1))]
def IE:List Str:=["self","change","node"]
noncomputable def IF:List RS:=
 [.drop (.bz 0 "need_over" (.v 0) [.v 1]),
 .asg 2 (.bz 1 "many" (.v 0) []),
 .drop (.bh .append (.fld (.v 0) "parents") [(.fld (.v 0) "here")]),
 .drop (.bh .append (.fld (.v 0) "edges") [(.blt .list [.v 1])]),
 .drop (.bh .append (.fld (.v 0) "lengths") [(.ix (.call 0 [.v 1])<|.c<|.int 1)]),
 .drop (.bh .append (.fld (.v 0) "below") [(.lst [])]),
 .drop (.bh .append (.fld (.v 0) "last_gone") [.c .az]),
 .drop (.bh .append (.ix (.fld (.v 0) "below")<|.fld (.v 0) "here") [.v 2]),
 .gF (.v 0) "here" (.v 2),
 .ret (.v 2)]
def BS:List Str:=["list"]
def Wu:List Str:=["need_over","many"]
def IG:List Str:=["self","node","other"]
noncomputable def IH:List RS:=
 [.ret<|.pT (.cmp .Eq (.ix (.fld (.v 0) "parents")<|.v 2)<|.v 1) (.ix (.fld (.v 0) "edges")<|.v 2)<|.call 0 [(.ix (.fld (.v 0) "edges")<|.v 1)]]
def Wv:List Str:=["back"]
noncomputable def II:List RS:=
 [.ite (.cmp .Eq (.fld (.v 0) "here") (.c (.int 0))) [.jz 0 [(.c (.str "the root has no parent"))]] [],
 .ret (.bz 0 "along" (.v 0) [(.lst [(.fld (.v 0) "here"),(.ix (.fld (.v 0) "parents") (.fld (.v 0) "here"))])])]
def IJ:List Str:=["along"]
def IL:List Str:=["self","child"]
noncomputable def IM:List RS:=
 [.asg 1 (.ix (.fld (.v 0) "last_gone") (.fld (.v 0) "here")),
 .ite (.cmp .Is (.v 1)<|.c .az) [.jz 0 [(.c<|.str "this node has no child")]] [],
 .ret (.bz 0 "along" (.v 0) [(.lst [(.fld (.v 0) "here"),.v 1])])]
noncomputable def BU:List RS:=
 [.ret<|.bz 0 "along" (.v 0) [(.bz 1 "way" (.v 0) [(.fld (.v 0) "here"),.v 1])]]
def Ww:List Str:=["along","way"]
def IP:List Str:=["self","node","row"]
noncomputable def IQ:List RS:=
 [.asg 2 (.lst [.v 1]),
 .mI (.cmp .NotEq (.ix (.v 2)<|.neg<|.c<|.int 1)<|.c<|.int 0) [.drop<|.bh .append (.v 2) [(.ix (.fld (.v 0) "parents")<|.ix (.v 2)<|.neg<|.c<|.int 1)]],
 .ret (.v 2)]
def BV:List Str:=["self","one","other","ups","downs"]
noncomputable def xW:List RS:=
 [.drop (.bz 0 "need_node" (.v 0) [.v 1]),
 .drop (.bz 0 "need_node" (.v 0) [.v 2]),
 .asg 3 (.bz 1 "upward" (.v 0) [.v 1]),
 .asg 4 (.bz 1 "upward" (.v 0) [.v 2]),
 .mI (.and [(.cmp .Gt (.blt .len [.v 3]) (.c (.int 1))),(.cmp .Gt (.blt .len [.v 4]) (.c (.int 1))),(.cmp .Eq (.ix (.v 3) (.neg (.c (.int 2)))) (.ix (.v 4) (.neg (.c (.int 2)))))]) [.drop (.bh .pop (.v 3) []),
  .drop (.bh .pop (.v 4) [])],
 .ret (.bin .Add (.v 3) (.xt BN [(.sl (.v 4) none (some (.neg (.c (.int 1)))))]))]
def Wx:List Str:=["len","list","reversed"]
def Wy:List Str:=["need_node","upward"]
structure gK (K:Frag) (C:Addr):Prop where
 cl:fY K C
 iz:fP K C "here"
 uU:fP K C "lengths"
 oM:fP K C "parents"
 xX:fP K C "edges"
 xY:fP K C "below"
 xZ:fP K C "last_gone"
end L2.B
namespace L2.N
open PySem PySem.Spec
theorem Wz(n:Nat):sliceRange ((n:Int) - 1) (-1) (-1)=(List.range n).map fun k=>n - 1 - k:=by
 unfold sliceRange;have h1:¬((-1:Int) >0):=by decide
 simp only[h1,if_false]
 have e:(if (n:Int) - 1> -1 then ((n:Int) - 1 - -1 - -1 - 1) / (- -1) else 0).toNat=n:=by
  by_cases z:n=0
  ·subst z;rfl
  ·rw[if_pos (by lia)]
   have:((n:Int) - 1 - -1 - -1 - 1) / (- -1)=n:=by
    have h2:(n:Int) - 1 - -1 - -1 - 1=n:=by lia
    rw[h2];show(n:Int) / 1=n;exact Int.ediv_one _
   rw[this];lia
 rw[e];refine zbo fun k hk=>?_;have:=zbL.mp hk;show((n:Int) - 1+ -1* (k:Int)).toNat=n - 1 - k;lia
theorem WA(xs:List V):m7 xs none none (some<|-1)=xs.reverse:=by
 unfold m7;show(sliceRange ((xs.length:Int) - 1) (-1)<|-1).filterMap (xs[·]?)=xs.reverse;rw[Wz,zbB];refine List.ext_getElem? fun i=>?_;have e:(List.range xs.length).filterMap ((fun x=>xs[x]?)∘fun k=>xs.length - 1 - k)=xs.reverse:=by
  have:∀m,m<=xs.length->(List.range m).filterMap ((fun x=>xs[x]?)∘fun k=>xs.length - 1 - k)=xs.reverse.take m:=by
   intro m
   induction m with
   |zero=>intro _;rfl
   |succ m ih=>
    intro hm;rw[List.range_succ,List.filterMap_append,ih (by lia),zbp,List.getElem?_reverse (by lia)]
    have h:xs.length - 1 - m<xs.length:=by lia
    have e1:((fun x=>xs[x]?)∘fun k=>xs.length - 1 - k) m=some xs[xs.length - 1 - m]:=zar h;rw[zch e1,zar h];rfl
  rw[this xs.length<|zqR _,zaG (by rw[zaJ];exact zqR _)]
 rw[e]
def dB:List V->List V
 |[]=>[]
 |[x]=>[x]
 |x::_::r=>x::dB r
theorem IS(a n:Nat)(ha:a<=n):sliceRange (a:Int) (n:Int) 2=(List.range<|(n - a+1) / 2).map fun k=>a+2*k:=by
 unfold sliceRange;have h1:(2:Int) >0:=by decide
 simp only[h1,if_true]
 have e:(if (a:Int) < (n:Int) then ((n:Int) - (a:Int)+2 - 1) / 2 else 0).toNat=(n - a+1) / 2:=by
  by_cases z:a<n
  ·rw[if_pos (by lia)];lia
  ·rw[if_neg (by lia)];lia
 rw[e];refine zbo fun k hk=>?_;show((a:Int)+2* (k:Int)).toNat=a+2*k;lia
theorem BW:∀xs,((List.range<|(xs.length+1) / 2).map fun k=>2*k).filterMap (xs[·]?)=dB xs
 |[]=>rfl
 |[x]=>by
  have e:([x].length+1) / 2=1:=by simp
  rw[e]
  simp[dB]
 |x::y::r=>by
  have ih:=BW r;have e:((x::y::r).length+1) / 2=(r.length+1) / 2+1:=by
   show(r.length+1+1+1) / 2=_;lia
  rw[e,List.range_succ_eq_map,zax,zbh,zbM];show x::List.filterMap _ _=x::dB r;rw[<-ih,zbB,zbB]
  congr 1
theorem WC(xs:List V):m7 xs (some 0) none (some 2)=dB xs:=by
 unfold m7;have e:sliceBounds (some 0) none (some 2) xs.length=(((0:Nat):Int),(xs.length:Int),2):=by
  unfold sliceBounds
  simp
  lia
 rw[e];show(sliceRange ((0:Nat):Int) (xs.length:Int) 2).filterMap (xs[·]?)=_;rw[IS 0 _<|zqZ _,Nat.sub_zero,<-BW xs]
 congr 1
 refine zbo fun k _=>?_;lia
theorem WD(xs:List V):m7 xs (some 1) none (some 2)=dB (xs.drop 1):=by
 unfold m7;cases xs with
 |nil=>rfl
 |cons x r=>
  have e:sliceBounds (some 1) none (some 2) (x::r).length=(((1:Nat):Int),((x::r).length:Int),2):=by
   unfold sliceBounds
   simp
   lia
  rw[e];show(sliceRange ((1:Nat):Int) ((x::r).length:Int) 2).filterMap ((x::r)[·]?)=_;rw[IS 1 _ (by rw[zaq];lia)]
  show _=dB r;rw[<-BW r,zbB,zbB,zaq,Nat.add_sub_cancel]
  congr 1
  funext k
  show(x::r)[1+2*k]?=r[2*k]?;rw[Nat.add_comm 1<|2*k,zbC]
end L2.N
namespace L2.B
open PySem PySem.Spec PyProof.Rows
def d6(H H':Hp):Prop:= ∀b xs,H b=some (.tup xs)->H' b=some (.tup xs)
theorem df(h:aA H H'):d6 H H':=fun b xs e=>h b _ e
theorem sameNew{p:Addr}{o:HO}(h:H p=none):aA H (upd H p o):=fun b u e=>by rw[aI<|bQ e h];exact e
def aP(c:Addr)(H H':Hp):Prop:= ∀b o,H b=some o->b≠c->H' b=some o
theorem aP.upd{c:Addr}{o:HO}:aP c H (upd H c o):=fun b u e n=>by rw[aI n];exact e
theorem aP.trans{c:Addr}(a:aP c H H1)(b:aP c H1 H2):aP c H H2:=fun d o e n=>b d o (a d o e n) n
theorem aP.same{c:Addr}(a:aP c H H1)(b:aA H1 H2):aP c H H2:=fun d o e n=>b d o (a d o e n)
theorem sameBut{c:Addr}(a:aA H H1)(b:aP c H1 H2):aP c H H2:=fun d o e n=>b d o (a d o e) n
theorem qp{c:Addr}(a:aA H H1)(hc:H c=none)(b:aP c H1 H2):aA H H2:=fun d o e=>b d o (a d o e) (bQ e hc)
theorem aP.bC{c:Addr}(h:aP c H H')(hc:H c=some (.lst xs)):d6 H H':=fun b ys e=>h b _ e (fun z=>by rw[z,hc] at e;cases e)
theorem iF{c:Bool}{A B:Prop}(q:B)(h:c=false:=by first|rfl|decide):if c=true then A else B:=by
 rw[h];exact iu q
theorem iT{c:Bool}{A B:Prop}(q:A)(h:c=true:=by first|rfl|decide):if c=true then A else B:=by
 rw[h];exact fF q
inductive Pt where|keep (n:Int)|put (s:Str)|cut (s:Str)
 deriving DecidableEq
def Pt.word:Pt->Str|.keep _=> "keep" |.put _=> "put" |.cut _=> "cut"
def Pt.val:Pt->V|.keep n=>.int n|.put s=>.str s|.cut s=>.str s
def jF(H:Hp)(v:V)(p:Pt):Prop:= ∃a,v=.ref a/\H a=some (.tup [.str p.word,p.val])
abbrev aX(H:Hp):List V->List Pt->Prop:=Paired (jF H)
theorem jF.mono{p:Pt}(t:d6 H H')(h:jF H v p):jF H' v p:=by
 obtain⟨a,e,h⟩:=h;exact⟨a,e,t _ _ h⟩
theorem aX.mono(t:d6 H H'):∀{vs:List V}{ps:List Pt},aX H vs ps->aX H' vs ps
 |_,_,.nil=>.nil
 |_,_,.cons h r=>.cons (h.mono t) (aX.mono t r)
theorem aX.get:∀{vs:List V}{ps:List Pt}{i:Nat}{v:V},aX H vs ps->vs[i]?=some v->∃p,ps[i]?=some p/\jF H v p
 |_,_,i,v,.nil,e=>by simp at e
 |_,_,0,v,.cons h r,e=>by simp at e;subst e;exact⟨_,rfl,h⟩
 |_,_,i+1,v,.cons h r,e=>by
  obtain⟨p,a,b⟩:=aX.get (i:=i) r (by simpa using e)
  exact⟨p,by simpa using a,b⟩
theorem aX.snoc{vs:List V}{ps:List Pt}{p:Pt}(h:aX H vs ps)(q:jF H v p):aX H (vs++[v]) (ps++[p]):=Paired.snoc h q
theorem aX.dropLast:∀{vs:List V}{ps:List Pt},aX H vs ps->aX H vs.dropLast ps.dropLast
 |_,_,.nil=>.nil
 |_,_,.cons h .nil=>.nil
 |_,_,.cons h (.cons h2 r)=>.cons h (aX.dropLast<|.cons h2 r)
def gL(w a:Str):Bool:=w !=a && !(a=="cut" && w=="put")
def IT:Sp:=fun vs H Q E=>∃w a,vs=[.str w,.str a]/\Q (.bl<|gL w a) H
theorem WE{K:Frag}(vs:List V)(H:Hp)(Q:VK)(E:XK)(h:IT vs H Q E):ay (aO K [] [] (E:=E)) HH {nx:=fun _ H'=>Q .az H',rt:=Q} (start HG vs) H:=by
 obtain⟨w,a,rfl,q⟩:=h;refine⟨_,rfl,_,rfl,_,rfl,?_⟩;unfold gL at q;refine gE (fun h=>?_)<|fun h=>?_
 ·rw[zaS,iM] at h;have e:(w !=a)=true:=h;rw[e] at q;refine⟨_,rfl,_,rfl,?_⟩;refine gE (fun h2=>?_)<|fun h2=>?_
  ·rw[zaM,iM] at h2;rw[h2] at q;refine⟨_,rfl,?_⟩;show Q (.bl<|!(false ^^ decide (V.str w=V.str "put"))) H;rw[zaM,iM];exact q
  ·rw[zaM,iM] at h2;have e2:(a=="cut")=false:=by simpa using h2
   rw[e2] at q;exact q
 ·rw[zaS,iM] at h;have e:(w !=a)=false:=by simpa using h
  rw[e] at q;exact q
def sG:Pt->Int|.keep n=>n|.put s=>s.length|.cut s=>s.length
def BX:Pt->Prop|.keep _=>True|.put s=>s.length<=1000000|.cut s=>s.length<=1000000
theorem cz(h:n<=1000000):n<=sizeLine:=zay h (by decide)
theorem dJ(h:n<=1000000):n<sizeLine:=Nat.lt_of_le_of_lt h (by decide)
def sI:Sp:=fun vs H Q E=>∃v p,vs=[v]/\jF H v p/\BX p/\Q (.int<|sG p) H
theorem WG{K:Frag}(vs:List V)(H:Hp)(Q:VK)(E:XK)(h:sI vs H Q E):ay (aO K [] [] (E:=E)) HL {nx:=fun _ H'=>Q .az H',rt:=Q} (start HK vs) H:=by
 obtain⟨v,p,rfl,⟨a,rfl,ha⟩,ho,q⟩:=h;refine⟨_,rfl,.inr<|.inl ⟨_,_,_,_,rfl,rfl,aM.of ha,rfl,_,rfl,?_⟩⟩;rw[zaM,iM];cases p with
 |keep n=>exact fF ⟨_,rfl,.inr<|.inl ⟨_,_,_,_,rfl,rfl,aM.of ha,rfl,q⟩⟩
 |put s=>exact iu ⟨_,rfl,.inr<|.inl ⟨_,_,_,_,rfl,rfl,aM.of ha,rfl,cz ho,q⟩⟩
 |cut s=>exact iu ⟨_,rfl,.inr<|.inl ⟨_,_,_,_,rfl,rfl,aM.of ha,rfl,cz ho,q⟩⟩
def cell(ns:List Int)(k:Nat):Int:=ns.getD k 0
def BY(K:Frag):Sp:=fun vs H Q E=>∃(a:Addr) (ns:List Int) (k:Int),vs=[.ref a,.int k]/\av K H a (ns.map V.int)/\0<=k/\Q (.int<|cell ns k.toNat) H
theorem WH{K:Frag}(vs:List V)(H:Hp)(Q:VK)(E:XK)(h:BY K vs H Q E):ay (aO K [] [] (E:=E)) HZ {nx:=fun _ H'=>Q .az H',rt:=Q} (start HY vs) H:=by
 obtain⟨a,ns,k,rfl,ha,hk,q⟩:=h;refine⟨_,rfl,_,rfl,.inl ⟨_,ha,trivial,_,rfl,?_⟩⟩;rw[zab];refine gE (fun h=>?_)<|fun h=>?_
 ·have aN:k< (ns.length:Int):=of_decide_eq_true h;refine⟨_,rfl,_,rfl,.inl ⟨_,_,_,_,rfl,rfl,ha,?_,q⟩⟩;have e:=cB (xs:=ns.map V.int) (j:=k.toNat) (v:=.int (cell ns k.toNat)) (by
   have:k.toNat<ns.length:=by lia
   simp[cell,this])
  rw[show((k.toNat:Nat):Int)=k by lia] at e
  exact e
 ·have hge:¬k< (ns.length:Int):=fun z=>h (zqT z);have e:cell ns k.toNat=0:=by
   have z:ns[k.toNat]?=none:=List.getElem?_eq_none_iff.mpr (by lia)
   unfold cell;rw[List.getD_eq_getElem?_getD,z];rfl
  rw[e] at q;exact q
def SG:Str:=" !\"#$&'()*+,-./0123456789:;<=>?@ABCDEFGHIJKLMNOPQRSTUVWXYZ[\\]^_`abcdefghijklmnopqrstuvwxyz{|}~\n"
def good(x:Str):Prop:=x.length<=1000000/\∀c∈x.cps.toList,SG.cps.contains c=true
theorem takeWhile_all{α:Type}(p:α->Bool):∀l:List α,(∀c∈l,p c=true)->l.takeWhile p=l
 |[],_=>rfl
 |c::l,h=>by rw[List.takeWhile_cons,h c zat,takeWhile_all p l fun d hd=>h d (zas _ hd)];rfl
theorem WI(x y:Str)(h:∀c∈x.cps.toList,y.cps.contains c=true):Txt.lstripChars x y="":=by
 have e0:stripLo y.cps.contains true x=x.length:=by
  unfold stripLo;rw[if_pos rfl,takeWhile_all _ _ h]
  simp[Str.length]
 have e1:stripHi y.cps.contains false x x.length=x.length:=rfl;unfold Txt.lstripChars Txt.stripBy stripSame stripped;rw[e0,e1]
 split
 ·rename_i hq
  simp only[zaf,beq_iff_eq] at hq
  have:x.cps= #[]:=Array.eq_empty_of_size_eq_zero hq.1;obtain⟨c⟩:=x;have e:c= #[]:=this;subst e
  rfl
 ·show(⟨x.cps.extract x.length x.length⟩:Str)=_;have:x.cps.extract x.length x.length= #[]:=by simp[Str.length]
  rw[this];rfl
theorem IU{T:Ty}{k:Bool->Prop}(h:H a=some (.tup xs))(q:k (T==.tuple)):bX T (.ref a) H k:=by
 show(match H a with|some (.lst _)=>k (T==.list)|some (.bK _<|.lst _)=>k (T==.list)|some (.tup _)=>k (T==.tuple)|some (.dK _)=>k (T==.dict)|some (.dT _)=>k (T==.dict)|_=>False)
 rw[h];exact q
theorem IV{T:Ty}{k:Bool->Prop}(h:H a=some (.lst xs))(q:k (T==.list)):bX T (.ref a) H k:=by
 show(match H a with|some (.lst _)=>k (T==.list)|some (.bK _<|.lst _)=>k (T==.list)|some (.tup _)=>k (T==.tuple)|some (.dK _)=>k (T==.dict)|some (.dT _)=>k (T==.dict)|_=>False)
 rw[h];exact q
abbrev gS:List (Str×V):=[("SIGNS",.str SG)]
def WJ:Sp:=fun vs H Q E=>∃x,vs=[.str x]/\good x/\Q (.bl true) H
theorem WK{K:Frag}(vs:List V)(H:Hp)(Q:VK)(E:XK)(h:WJ vs H Q E):ay (aO K [] gS (E:=E)) BF {nx:=fun _ H'=>Q .az H',rt:=Q} (start mZ vs) H:=by
 obtain⟨x,rfl,hx,q⟩:=h;refine⟨_,rfl,rfl,_,rfl,fF ⟨_,rfl,rfl,cz hx.1,?_⟩⟩;show Q (.bl<|false ^^ decide (V.str (Txt.lstripChars x SG)=V.str "")) H;rw[WI x SG hx.2,zqT rfl];exact q
def bO:Pt->Prop|.keep n=>1<=n|.put s=>good s/\s≠"" |.cut s=>good s/\s≠""
def WL(K:Frag):Sp:=fun vs H Q E=>∃w p xs,vs=[.str w,.ref p]/\aM K H p xs/\xs.all gZ=true/\Q (.bl<|dm (.str w) xs) H
theorem WM{K:Frag}(vs:List V)(H:Hp)(Q:VK)(E:XK)(h:WL K vs H Q E):ay (aO K [] [] (E:=E)) BE {nx:=fun _ H'=>Q .az H',rt:=Q} (start BD vs) H:=by
 obtain⟨w,p,xs,rfl,hp,hf,q⟩:=h;exact⟨_,rfl,rfl,_,rfl,fF ⟨_,rfl,_,rfl,p,xs,rfl,.inr hp,rfl,hf,q⟩⟩
def BZ:Sp:=fun vs H Q E=>∃v p,vs=[v]/\jF H v p/\bO p/\∀H',aA H H'->Q (.bl true) H'
def chainOk:Str->List Pt->Bool
 |_,[]=>true
 |a,p::r=>gL p.word a && chainOk p.word r
def qq(a:Str)(ps:List Pt):Nat->Str
 | 0=>a
 |i+1=>match ps[i]? with|some p=>p.word|none=> ""
theorem IW:∀ps a (i:Nat) p,chainOk a ps=true->ps[i]?=some p->gL p.word (qq a ps i)=true
 |[],_,_,_,_,h=>by simp at h
 |q::r,a,0,p,h,e=>by
  simp only[chainOk,zaf] at h
  simp at e;subst e;exact h.1
 |q::r,a,i+1,p,h,e=>by
  simp only[chainOk,zaf] at h
  have e':r[i]?=some p:=by simpa using e
  have ih:=IW r q.word i p h.2 e';cases i with
  |zero=>simpa[qq] using ih
  |succ i=>simpa[qq] using ih
abbrev WN:List (Str×Sp):=[("is_part",BZ),("may_follow",IT)]
def B0:Sp:=fun vs H Q E=>∃a xs ps,vs=[.ref a]/\H a=some (.lst xs)/\aX H xs ps/\(∀p∈ps,bO p)/\chainOk "" ps=true/\∀H',aA H H'->Q .az H'
theorem WO{K:Frag}{et:List (Str×Addr)}(vs:List V)(H:Hp)(Q:VK)(E:XK)(h:B0 vs H Q E):ay (aO K WN [] (et:=et) (E:=E)) HJ {nx:=fun _ H'=>Q .az H',rt:=Q} (start HI vs) H:=by
 obtain⟨a,xs,ps,rfl,ha,cZ,aB,dQ,q⟩:=h;refine⟨_,rfl,rfl,IV ha ⟨_,rfl,a,rfl,⟨_,av.of ha⟩,kT (K:=K) (a:=a) (xs:=xs) (fun i σ H2=>∃v,σ=[some (.ref a),some (.str (qq "" ps i)),v]/\aA H H2) ⟨none,rfl,aA.refl _⟩
  (fun i σ H2 _ ⟨_,_,s2⟩=>av.of (s2 _ _ ha)) ?_ ?_⟩⟩
 ·rintro i x σ H2 hi ⟨v,rfl,s2⟩;obtain⟨p,hp,kh⟩:=cZ.get hi;obtain⟨b,rfl,hb⟩:=kh.mono (df s2);refine⟨_,rfl,_,p,rfl,⟨b,rfl,hb⟩,aB p<|zak hp,fun H3 s3=>?_⟩;refine⟨_,rfl,.inr<|.inl ⟨_,_,_,_,rfl,rfl,aM.of<|s3 _ _ hb,rfl,_,rfl,p.word,_,rfl,?_⟩⟩;have e:=IW ps "" i p dQ hp;show(fun c H1=>if (!c)=true then _ else _) (gL p.word<|qq "" ps i) H3
  rw[e];refine⟨_,rfl,.inr<|.inl ⟨_,_,_,_,rfl,rfl,aM.of<|s3 _ _ hb,rfl,some<|.ref b,?_,s2.trans s3⟩⟩;show[some<|V.ref a,some<|V.str p.word,some<|V.ref b]=_;have e2:qq "" ps (i+1)=p.word:=by simp only[qq,hp]
  rw[e2]
 ·rintro σ H2 ⟨v,rfl,s2⟩;exact q H2 s2
def overOf(ps:List Pt):List Int:=(ps.filter fun p=>decide (p.word≠ ("put":Str))).map sG
def sJ(ps:List Pt):List Int:=(ps.filter fun p=>decide (p.word≠ ("cut":Str))).map sG
abbrev IX:List (Str×Sp):=[("need_change",B0),("part_size",sI)]
def m_:Sp:=fun vs H Q E=>∃a xs ps,vs=[.ref a]/\H a=some (.lst xs)/\aX H xs ps/\(∀p∈ps,bO p)/\chainOk "" ps=true/\ps.length<=1000000/\
 ∀t H',aA H H'->H' t=some (.tup [.int (overOf ps).sum,.int (sJ ps).sum])->Q (.ref t) H'
theorem x4{p:Pt}(h:bO p):BX p:=by
 cases p with
 |keep n=>trivial
 |put s=>exact h.1.1
 |cut s=>exact h.1.1
theorem WQ{α:Type}(p:α->Bool)(l:List α)(i:Nat)(v:α)(h:l[i]?=some v):(l.take<|i+1).filter p=(l.take i).filter p++(if p v then [v] else []):=by
 rw[zbp,h,zbD];cases hp:p v<;>simp[hp]
theorem WR{K:Frag}(vs:List V)(H:Hp)(Q:VK)(E:XK)(h:m_ vs H Q E):ay (aO K IX [] (E:=E)) HN {nx:=fun _ H'=>Q .az H',rt:=Q} (start HM vs) H:=by
 obtain⟨a,xs,ps,rfl,ha,cZ,aB,dQ,hlen,q⟩:=h;refine⟨_,rfl,a,xs,ps,rfl,ha,cZ,aB,dQ,fun H1 s1=>?_⟩;have hl:=Paired.length cZ;have comp:∀w H1 Q1 σ,aA H H1->σ[0]?=some (some<|.ref a)->
   (∀b H2,aA H H2->H2 b=some (.lst<|((ps.filter fun p=>decide (p.word≠w)).map sG).map V.int)->Q1 (.ref b) H2)->
   ah (aO K IX [] (E:=E)) (.comp none [] .list [.v 0] (some<|.cmp .NotEq (.ix (.v 0)<|.c<|.int 0)<|.c<|.str w)<|.call 1 [.v 0]) σ H1 Q1:=by
  intro w H1 Q1 σ s1 hσ hq;refine⟨_,hσ,a,rfl,⟨_,av.of<|s1 _ _ ha⟩,fun i m ys H2=>m=xs.length - i/\i<=xs.length/\aA H H2/\ys=(((ps.take i).filter fun p=>decide (p.word≠w)).map sG).map V.int,⟨_,rfl,zqZ _,s1,rfl⟩,?_⟩;rintro i m ys H2 ⟨rfl,hi,s2,rfl⟩;by_cases aN:i<xs.length
  ·refine .inr ⟨⟨xs,xs[i],av.of<|s2 _ _ ha,by simp[aN]⟩,?_⟩
   rintro x H3 ⟨rfl,hx⟩;have jX:=hx xs (av.of<|s2 _ _ ha);obtain⟨p,hp,kh⟩:=cZ.get jX;obtain⟨b,rfl,hb⟩:=kh.mono (df s2);refine⟨_,rfl,.inr<|.inl ⟨_,_,_,_,rfl,rfl,aM.of hb,rfl,_,rfl,?_⟩⟩;rw[zaS,iM];have tf:=WQ (fun p=>decide<|p.word≠w) ps i p hp;have hc:((ps.take i).filter fun p=>decide (p.word≠w)).length<=1000000:=zay (zbE _ _) (zay (List.length_take_le _ _) (by lia))
   refine gE (fun h=>?_)<|fun h=>?_
   ·have e:decide (p.word≠w)=true:=by simpa using h
    refine⟨_,rfl,_,p,rfl,⟨b,rfl,hb⟩,x4<|aB p<|zak hp,?_,xs.length - (i+1),by lia,rfl,aN,s2,?_⟩
    ·rw[zab,zab];exact dJ hc
    ·rw[tf,e];simp
   ·have e:decide (p.word≠w)=false:=by simpa using h
    refine⟨xs.length - (i+1),by lia,rfl,aN,s2,?_⟩
    rw[tf,e];simp
  ·have iA:i=xs.length:=by lia
   subst iA;refine .inl ⟨⟨xs,av.of<|s2 _ _ ha,zqR _⟩,fun p hp=>?_⟩;have e:ps.take xs.length=ps:=zaG (by lia)
   rw[e];exact hq p _ (s2.trans<|sameNew hp) ax
 refine HA<|HB<|HC<|comp "put" H1 _ _ s1 rfl fun b1 H2 s2 e2=>⟨_,av.of e2,?_⟩;refine HA<|HB<|HC<|comp "cut" H2 _ _ s2 rfl fun b2 H3 s3 e3=>⟨_,av.of e3,?_⟩;refine⟨_,rfl,_,rfl,eJ,fun t ht=>?_⟩;exact q t _ (s3.trans<|sameNew ht) ax
def cat(ts:List Str):Str:=Txt.join "" ts
def sz(ts:List Str):Nat:=(ts.map Str.length).sum
theorem ofString_empty:(Str.ofString "")=⟨#[]⟩:=rfl
theorem sL(ts:List Str):(cat ts).cps.toList=(ts.map fun t=>t.cps.toList).flatten:=by
 have e:(Str.ofString "").cps= #[]:=rfl;cases ts with
 |nil=>rfl
 |cons t r=>
  show(r.foldl (fun acc p=>acc++(Str.ofString "").cps++p.cps) t.cps).toList=_;rw[e];have go:∀(r:List Str) (acc:Array Nat),(r.foldl (fun acc p=>acc++ #[]++p.cps) acc).toList=acc.toList++(r.map fun t=>t.cps.toList).flatten:=by
   intro r
   induction r with
   |nil=>intro acc;simp
   |cons q r ih=>
    intro acc;show(r.foldl (fun acc p=>acc++ #[]++p.cps)<|acc++ #[]++q.cps).toList=_;rw[ih];simp
  rw[go];simp
theorem jG{x:Str}(h:x.cps.toList=y.cps.toList):x=y:=by
 obtain⟨x⟩:=x;obtain⟨y⟩:=y;exact congrArg Str.mk<|Array.toList_inj.mp h
theorem app_list(x y:Str):(x++y).cps.toList=x.cps.toList++y.cps.toList:=by
 show(x.cps++y.cps).toList=_
 simp
theorem WS(a b:List Str):cat (a++b)=cat a++cat b:=jG (by rw[app_list,sL,sL,sL];simp)
theorem WT(x:Str):cat [x]=x:=jG (by rw[sL];simp)
theorem len_list(x:Str):x.length=x.cps.toList.length:=by simp[Str.length]
theorem IY(ts:List Str):(cat ts).length=sz ts:=by
 rw[len_list,sL,List.length_flatten];unfold sz;rw[zbh]
 congr 1
theorem IZ(x:Str):x++(Str.ofString "")=x:=jG (by rw[app_list];simp[ofString_empty])
theorem sM(x:Str):(Str.ofString "")++x=x:=jG (by rw[app_list];simp[ofString_empty])
theorem I_(a b:List Str):sz (a++b)=sz a+sz b:=by simp[sz]
theorem joinOk_of{ts:List Str}(h:sz ts<=1000000):JoinOk "" ts=true:=by
 have go:∀l (n:Nat),l.foldl (· + ·.length+(Str.ofString "").length) n=n+sz l:=by
  intro l
  induction l with
  |nil=>intro n;rfl
  |cons t r ih=>
   intro n;show r.foldl _ (n+t.length+0)=_;rw[ih];show n+t.length+0+sz r=n+(t.length+sz r);lia
 unfold JoinOk;have e:ts.toArray.foldl (· + ·.length+(Str.ofString "").length) 0=sz ts:=by
  rw[List.foldl_toArray,go,Nat.zero_add]
 rw[e];show(!decide (sz ts>sizeLine))=true;rw[zqF (by have:=cz h;lia)]
 rfl
def txt(mk:Str->Pt)(x:Str):List Pt:=if x="" then [] else [mk x]
def dN(ch:List Pt)(cG cR:List Str):List Pt:=ch++txt .put (cat cG)++txt .cut (cat cR)
def Ja:Sp:=fun vs H Q E=>∃c p q xs ps cG cR,vs=[.ref c,.ref p,.ref q]/\H c=some (.lst xs)/\aX H xs ps/\H p=some (.lst<|cG.map .str)/\H q=some (.lst<|cR.map .str)/\
 sz cG<=1000000/\sz cR<=1000000/\ps.length<=900000/\∀H' bB,aP c H H'->H' c=some (.lst bB)->aX H' bB (dN ps cG cR)->Q .az H'
theorem WU{K:Frag}(vs:List V)(H:Hp)(Q:VK)(E:XK)(h:Ja vs H Q E):ay (aO K [] [] (E:=E)) HS {nx:=fun _ H'=>Q .az H',rt:=Q} (start HR vs) H:=by
 obtain⟨c,p,q,xs,ps,cG,cR,rfl,hc,cZ,hp,hq,WV,WW,hl,k⟩:=h;have hlen:=Paired.length cZ;refine⟨rfl,_,rfl,cG,av.of hp,joinOk_of WV,?_⟩;refine⟨rfl,_,rfl,cR,av.of hq,joinOk_of WW,?_⟩;have Jb:∀(i:Nat) w x (mk:Str->Pt) H1 ji jj σ D,(∀y,(mk y).word=w/\(mk y).val=.str y)->H1 c=some (.lst ji)->aX H1 ji jj->jj.length<=950000->σ[0]?=some (some<|.ref c)->σ[i]?=some (some<|.str x)->
   (∀H2 iB,aP c H1 H2->H2 c=some (.lst iB)->aX H2 iB (jj++txt mk x)->D.nx σ H2)->
   cK (aO K [] [] (E:=E)) (.ite (.cmp .NotEq (.v i)<|.c<|.str "") [.drop<|.bh .append (.v 0) [(.tup [(.c<|.str w),.v i])]] []) D σ H1:=by
  intro i w x mk H1 ji jj σ D Jc iZ sN dz h0 hi kk;have WX:=Paired.length sN;refine⟨_,hi,_,rfl,?_⟩;rw[zaS,iM];refine gE (fun h=>?_)<|fun h=>?_
  ·have ne:x≠"":=by simpa using h
   refine⟨_,h0,.inl ⟨rfl,_,av.of iZ⟩,_,hi,eJ,fun t ht=>?_⟩;have uV:c≠t:=bQ iZ ht;refine⟨ji,(by rw[aI uV];exact iZ),dJ (by lia),kk _ (ji++[.ref t]) ((sameBut (sameNew ht) aP.upd)) ax ?_⟩
   have tt:d6 H1 (upd (upd H1 t<|.tup [.str w,.str x]) c<|.lst<|ji++[.ref t]):=(sameBut (sameNew ht) aP.upd).bC iZ;unfold txt;rw[if_neg ne];refine aX.snoc (sN.mono tt) ⟨t,rfl,?_⟩;rw[aI uV.symm,ax,(Jc x).1,(Jc x).2]
  ·have e:x="":=by simpa using h
   refine kk H1 ji (fun b o e _=>e) iZ ?_;unfold txt;rw[if_pos e,zae];exact sN
 refine Jb 3 "put" (cat cG) .put H xs ps _ _ (fun _=>⟨rfl,rfl⟩) hc cZ (by lia) rfl rfl fun H2 iB b2 da ni=>?_
 have l2:(ps++txt .put (cat cG)).length<=950000:=by
  rw[zqA];have:(txt .put<|cat cG).length<=1:=by unfold txt;split<;>simp
  lia
 refine Jb 4 "cut" (cat cR) .cut H2 iB _ _ _ (fun _=>⟨rfl,rfl⟩) da ni l2 rfl rfl fun H3 jH b3 fS WY=>?_;exact k H3 jH (b2.trans b3) fS WY
def c7(ch:List Pt)(n:Int):List Pt:=match ch.getLast? with
 |some (.keep m)=>ch.dropLast++[.keep<|n+m]
 |_=>ch++[.keep n]
def Jd:Sp:=fun vs H Q E=>∃c n xs ps,vs=[.ref c,.int n]/\H c=some (.lst xs)/\aX H xs ps/\ps.length<=900000/\
 ∀H' bB,aP c H H'->H' c=some (.lst bB)->aX H' bB (c7 ps n)->Q .az H'
theorem aX.last{ps:List Pt}(h:aX H xs ps)(hn:xs.length≠0):∃v p,xs[xs.length - 1]?=some v/\gc xs (-1)=some v/\ps.getLast?=some p/\jF H v p:=by
 have aN:xs.length - 1<xs.length:=by lia
 obtain⟨p,hp,pv⟩:=h.get (i:=xs.length - 1) (v:=xs[xs.length - 1]) (by simp[aN])
 refine⟨xs[xs.length - 1],p,by simp[aN],?_,?_,pv⟩
 ·unfold gc f_;have:¬(0:Int)<= -1:=by decide
  rw[if_neg this,if_pos (by lia)]
  have e:((-1:Int)+(xs.length:Int)).toNat=xs.length - 1:=by lia
  show xs[((-1:Int)+(xs.length:Int)).toNat]?=_;rw[e];simp[aN]
 ·rw[List.getLast?_eq_getElem?,<-Paired.length h];exact hp
theorem WZ{K:Frag}(vs:List V)(H:Hp)(Q:VK)(E:XK)(h:Jd vs H Q E):ay (aO K [] [] (E:=E)) HQ {nx:=fun _ H'=>Q .az H',rt:=Q} (start HP vs) H:=by
 obtain⟨c,n,xs,ps,rfl,hc,cZ,hl,k⟩:=h;have hlen:=Paired.length cZ;have fin:∀(m:Int) H1 ji jj,aP c H H1->H1 c=some (.lst ji)->aX H1 ji jj->jj.length<=900000->c7 ps n=jj++[.keep m]->
   ay (aO K [] [] (E:=E)) [.drop<|.bh .append (.v 0) [(.tup [(.c<|.str "keep"),.v 1])]] {nx:=fun _ H'=>Q .az H',rt:=Q} [some<|.ref c,some<|.int m] H1:=by
  intro m H1 ji jj b1 iZ sN dz e;have WX:=Paired.length sN;refine⟨_,rfl,.inl ⟨rfl,_,av.of iZ⟩,_,rfl,eJ,fun t ht=>?_⟩;have uV:c≠t:=bQ iZ ht;refine⟨ji,(by rw[aI uV];exact iZ),dJ (by lia),k _ (ji++[.ref t]) (b1.trans<|sameBut (sameNew ht) aP.upd) ax ?_⟩
  rw[e];refine aX.snoc (sN.mono<|(sameBut (sameNew ht) aP.upd).bC iZ) ⟨t,rfl,?_⟩;rw[aI uV.symm,ax];rfl
 refine⟨_,rfl,.inl ⟨_,av.of hc,trivial,_,rfl,?_⟩⟩;refine gE (fun h=>?_)<|fun h=>?_
 ·have hn:xs.length≠0:=by
   have:=of_decide_eq_true h;lia
  obtain⟨v,p,e1,e2,e3,a,rfl,ha⟩:=cZ.last hn;refine⟨_,rfl,.inl ⟨_,_,_,_,rfl,rfl,av.of hc,e2,.inr<|.inl ⟨_,_,_,_,rfl,rfl,aM.of ha,rfl,_,rfl,?_⟩⟩⟩;rw[zaM,iM];cases p with
  |keep m=>
   have ki:upd H c (.lst xs.dropLast) a=some (.tup [.str "keep",.int m]):=by rw[aI<|jr ha hc (by intro z;cases z)];exact ha
   refine⟨_,rfl,_,rfl,.inl ⟨rfl,_,av.of hc⟩,xs,_,hc,e1,.inr<|.inl ⟨_,_,_,_,rfl,rfl,aM.of ki,rfl,?_⟩⟩
   ·refine fin (n+m) _ xs.dropLast ps.dropLast aP.upd ax (cZ.dropLast.mono<|aP.upd.bC hc) (by rw[zcf];lia) ?_
    unfold c7;rw[e3]
  |put s=>exact fin n H xs ps (fun b o e _=>e) hc cZ hl (by unfold c7;rw[e3])
  |cut s=>exact fin n H xs ps (fun b o e _=>e) hc cZ hl (by unfold c7;rw[e3])
 ·have e0:ps=[]:=by
   have:¬(0:Int) < (xs.length:Int):=fun z=>h (zqT z);exact zaH.mp (by lia)
  exact fin n H xs ps (fun b o e _=>e) hc cZ hl (by rw[e0];rfl)
abbrev NS:=List Pt×List Str×List Str
def dt:NS->Pt->NS
 |(ch,p,c),.put s=>(ch,p++[s],c)
 |(ch,p,c),.cut s=>(ch,p,c++[s])
 |(ch,p,c),.keep n=>if 0<n then (c7 (dN ch p c) n,[],[]) else (ch,p,c)
def nj(ps:List Pt):List Pt:=let s:=ps.foldl dt ([],[],[]);dN s.1 s.2.1 s.2.2
def eU:Pt->Nat|.keep _=>0|.put s=>s.length|.cut s=>s.length
def aD(ps:List Pt):Nat:=(ps.map eU).sum
theorem W0(ps:List Pt)(i:Nat):aD (ps.take i)<=aD ps:=by
 have:aD ps=aD (ps.take i)+aD (ps.drop i):=by
  unfold aD;rw[<-zbV,<-zam,zbF]
 lia
theorem W7{ps:List Pt}{p:Pt}(h:ps[i]?=some p):aD (ps.take<|i+1)=aD (ps.take i)+eU p:=by
 rw[zbp,h]
 simp[aD]
theorem W8{α β:Type}{f:β->α->β}{b:β}{l:List α}{i:Nat}{p:α}(h:l[i]?=some p):(l.take<|i+1).foldl f b=f ((l.take i).foldl f b) p:=by
 rw[zbp,h,List.foldl_append]
 rfl
theorem Je(mk:Str->Pt)(x:Str):(txt mk x).length<=1:=by unfold txt;split<;>simp
theorem x5(ch:List Pt)(p c:List Str):(dN ch p c).length<=ch.length+2:=by
 unfold dN;have:=Je .put (cat p);have:=Je .cut (cat c)
 simp only[zqA]
 lia
theorem B1(ch:List Pt)(n:Int):(c7 ch n).length<=ch.length+1:=by
 unfold c7
 split
 ·simp only[zqA,zcf,zaR];lia
 ·simp
abbrev W9:List (Str×Sp):=[("add_texts",Ja),("add_keep",Jd)]
def oN:Sp:=fun vs H Q E=>∃a xs ps,vs=[.ref a]/\H a=some (.lst xs)/\aX H xs ps/\ps.length<=100000/\aD ps<=100000/\
 ∀b H' ys,aA H H'->H b=none->H' b=some (.lst ys)->aX H' ys (nj ps)->Q (.ref b) H'
theorem W_{K:Frag}(vs:List V)(H:Hp)(Q:VK)(E:XK)(h:oN vs H Q E):ay (aO K W9 [] (E:=E)) HV {nx:=fun _ H'=>Q .az H',rt:=Q} (start HU vs) H:=by
 obtain⟨a,xs,ps,rfl,ha,cZ,hl,ht,k⟩:=h;have hlen:=Paired.length cZ;refine⟨zqZ _,fun c hc=>⟨zqZ _,fun p0 uW=>⟨zqZ _,fun q0 sO=>?_⟩⟩⟩;have B2:c≠p0:=fun z=>by rw[<-z,ax] at uW;cases uW
 have Jf:c≠q0:=fun z=>by rw[<-z,aI B2,ax] at sO;cases sO
 have Jg:p0≠q0:=fun z=>by rw[<-z,ax] at sO;cases sO
 have s0:aA H (upd (upd (upd H c<|.lst []) p0<|.lst []) q0<|.lst []):=(sameNew hc).trans ((sameNew uW).trans<|sameNew sO);have Xa:H p0=none:=(sameNew hc).free uW;have Xb:H q0=none:=((sameNew hc).trans<|sameNew uW).free sO;refine⟨_,rfl,a,rfl,⟨_,av.of (s0 _ _ ha)⟩,kT (K:=K) (a:=a) (xs:=xs) (fun i σ H2=>∃p q ch cG cR nk w x,σ=[some (.ref a),some (.ref c),some (.ref p),some (.ref q),w,x]/\H p=none/\H q=none/\p≠c/\q≠c/\p≠q/\aA H H2/\
   H2 c=some (.lst nk)/\aX H2 nk ch/\H2 p=some (.lst (cG.map .str))/\H2 q=some (.lst (cR.map .str))/\(ps.take i).foldl dt ([],[],[])=(ch,cG,cR)/\ch.length<=3*i/\cG.length<=i/\cR.length<=i/\sz cG+sz cR<=aD (ps.take i))
  ⟨p0,q0,[],[],[],[],none,none,rfl,Xa,Xb,B2.symm,Jf.symm,Jg,s0,(by rw[aI Jf,aI B2,ax]),.nil,(by rw[aI Jg,ax];rfl),ax,rfl,by simp,by simp,by simp,by simp[sz]⟩
  (fun i σ H2 _ ⟨_,_,_,_,_,_,_,_,_,_,_,_,_,_,s2,_⟩=>av.of (s2 _ _ ha)) ?_ ?_⟩
 ·rintro i x σ H2 hi ⟨p,q,ch,cG,cR,nk,w,x',rfl,fp,fq,pc,qc,pq,s2,sQ,dQ,oO,oP,ef,l1,l2,l3,l4⟩;obtain⟨pt,qr,kh⟩:=cZ.get hi;obtain⟨b,rfl,hb⟩:=kh.mono (df s2);have fI:i<ps.length:=(zal.mp qr).1;have x6:(ps.take<|i+1).foldl dt ([],[],[])=dt (ch,cG,cR) pt:=by rw[W8 qr,ef]
  have et:=W7 qr;have tb:=W0 ps i;refine⟨b,_,rfl,.inl<|aM.of hb,rfl,_,_,rfl,_,_,rfl,rfl,?_⟩;cases pt with
  |put s=>
   refine⟨_,rfl,_,rfl,_,rfl,.inl ⟨rfl,_,av.of oO⟩,_,rfl,_,oO,dJ (by rw[zab];lia),?_⟩
   have bt:aP p H2 (upd H2 p<|.lst<|cG.map V.str++[.str s]):=aP.upd;refine⟨p,q,ch,cG++[s],cR,nk,_,_,rfl,fp,fq,pc,qc,pq,qp s2 fp bt,bt _ _ sQ pc.symm,dQ.mono<|bt.bC oO,(by rw[ax,zam];rfl),bt _ _ oP pq.symm,x6,by lia,by simp;lia,by lia,?_⟩
   rw[I_,et];show sz cG+(s.length+0)+sz cR<=aD (ps.take i)+s.length;lia
  |cut s=>
   refine⟨_,rfl,_,rfl,_,rfl,_,rfl,_,rfl,.inl ⟨rfl,_,av.of oP⟩,_,rfl,_,oP,dJ (by rw[zab];lia),?_⟩
   have bt:aP q H2 (upd H2 q<|.lst<|cR.map V.str++[.str s]):=aP.upd;refine⟨p,q,ch,cG,cR++[s],nk,_,_,rfl,fp,fq,pc,qc,pq,qp s2 fq bt,bt _ _ sQ qc.symm,dQ.mono<|bt.bC oP,bt _ _ oO pq,(by rw[ax,zam];rfl),x6,by lia,by lia,by simp;lia,?_⟩
   rw[I_,et];show sz cG+(sz cR+(s.length+0))<=aD (ps.take i)+s.length;lia
  |keep n=>
   refine⟨_,rfl,_,rfl,_,rfl,_,rfl,_,rfl,trivial,_,rfl,?_⟩;refine gE (fun h=>?_)<|fun h=>?_
   ·have hn:0<n:=of_decide_eq_true h;have e2:dt (ch,cG,cR) (.keep n)=(c7 (dN ch cG cR) n,[],[]):=if_pos hn;refine⟨_,rfl,_,rfl,_,rfl,c,p,q,nk,ch,cG,cR,rfl,sQ,dQ,oO,oP,by lia,by lia,by lia,fun H3 jH b3 x8 B3=>?_⟩
    have s3:aA H H3:=qp s2 hc b3;refine⟨zqZ _,fun p1 nq=>⟨zqZ _,fun q1 uX=>?_⟩⟩;have B4:c≠p1:=bQ x8 nq;have jI:upd H3 p1 (.lst []) c=some (.lst jH):=by rw[aI B4];exact x8
    have B5:c≠q1:=bQ jI uX;have Jh:p1≠q1:=fun z=>by rw[<-z,ax] at uX;cases uX
    have nr:upd (upd H3 p1<|.lst []) q1 (.lst []) c=some (.lst jH):=by rw[aI B5];exact jI
    have s5:aA H3 (upd (upd H3 p1<|.lst []) q1<|.lst []):=(sameNew nq).trans (sameNew uX);refine⟨_,rfl,_,rfl,c,n,jH,_,rfl,nr,B3.mono<|df s5,?_,fun H6 Xd b6 uY Xe=>?_⟩
    ·have:=x5 ch cG cR;lia
    ·refine⟨p1,q1,_,[],[],Xd,_,_,rfl,s3.free nq,(s3.trans<|sameNew nq).free uX,B4.symm,B5.symm,Jh,qp (s3.trans s5) hc b6,uY,Xe,b6 _ _ (by rw[aI Jh,ax];rfl) B4.symm,b6 _ _ (by rw[ax];rfl) B5.symm,x6.trans e2,?_,by simp,by simp,by simp[sz]⟩
     have:=x5 ch cG cR;have:=B1 (dN ch cG cR) n;lia
   ·have hn:¬0<n:=fun z=>h (zqT z);have e2:dt (ch,cG,cR) (.keep n)=(ch,cG,cR):=if_neg hn;refine⟨p,q,ch,cG,cR,nk,_,_,rfl,fp,fq,pc,qc,pq,s2,sQ,dQ,oO,oP,x6.trans e2,by lia,by lia,by lia,by lia⟩
 ·rintro σ H2 ⟨p,q,ch,cG,cR,nk,w,x',rfl,fp,fq,pc,qc,pq,s2,sQ,dQ,oO,oP,ef,l1,l2,l3,l4⟩;have e:ps.take xs.length=ps:=zaG (by lia)
  rw[e] at ef l4;refine⟨_,rfl,_,rfl,_,rfl,c,p,q,nk,ch,cG,cR,rfl,sQ,dQ,oO,oP,by lia,by lia,by lia,fun H3 jH b3 x8 B3=>?_⟩
  refine⟨_,rfl,k c H3 jH (qp s2 hc b3) hc x8 ?_⟩;unfold nj;rw[ef];exact B3
def A1:Str:=" !\"#$&'()*+,-./0123456789:;<=>?@ABCDEFGHIJKLMNOPQRSTUVWXYZ[\\]^_`"
def A2:Str:="abcdefghijklmnopqrstuvwxyz{|}~\n"
def Ji(al:Str):Prop:=0<al.length/\al.length<=1000/\∀c∈al.cps.toList,SG.cps.contains c=true
theorem Xf{al:Str}(h:(decide (0<al.length) && decide (al.length<=1000) && al.cps.toList.all fun c=>SG.cps.contains c)=true):Ji al:=by
 simp only[zaf,decide_eq_true_eq,zaX] at h
 exact⟨h.1.1,h.1.2,h.2⟩
theorem Xg:Ji (A1++A2):=Xf (by decide+kernel)
theorem Xh:A1.length+A2.length<=sizeLine:=by decide+kernel
def B6(t:Str):Prop:=t.length=1/\∀c∈t.cps.toList,SG.cps.contains c=true
theorem x9:∀ts,(∀t∈ts,B6 t)->sz ts=ts.length
 |[],_=>rfl
 |t::r,h=>by
  show t.length+sz r=r.length+1;rw[(h t zat).1,x9 r fun q hq=>h q (zas _ hq)];lia
theorem Xi{ts:List Str}(h:∀t∈ts,B6 t)(hl:ts.length<=1000):good (cat ts):=by
 refine⟨by rw[IY,x9 ts h];lia,fun c hc=>?_⟩
 rw[sL,List.mem_flatten] at hc;obtain⟨l,hl,hc⟩:=hc;obtain⟨t,ht,rfl⟩:=zaY.mp hl;exact(h t ht).2 c hc
def iC:Pt->Prop|.keep n=>0<=n|.put s=>good s/\s.length<=100000|.cut s=>good s/\s.length<=100000
abbrev Row:=Str×Str×Int
def bM:List Row×Row->Pt->List Row×Row
 |(pre,r),.keep n=>(pre,(r.1,r.2.1,r.2.2+n))
 |(pre,r),.put s=>if s="" then (pre,r) else if 0<r.2.2 then (pre++[r],(Str.ofString ""++s,"",0)) else (pre,(r.1++s,r.2.1,r.2.2))
 |(pre,r),.cut s=>if s="" then (pre,r) else if 0<r.2.2 then (pre++[r],("",Str.ofString ""++s,0)) else (pre,(r.1,r.2.1++s,r.2.2))
def gM(r:Row):List Pt:=txt .put r.1++txt .cut r.2.1++(if r.2.2=0 then [] else [.keep r.2.2])
def cT(rows:List Row):List Pt:=(rows.map gM).flatten
def Xj(ps:List Pt):List Row:=let s:=ps.foldl bM ([],("","",0));s.1++[s.2]
def fU(ps:List Pt):List Pt:=cT (Xj ps)
abbrev Dn(Q:VK):Ends:={nx:=fun _ H'=>Q .az H',rt:=Q}
abbrev bE(sp:Sp)(Γ:XK->bx)(b:List RS)(N:List Str):Prop:= ∀vs H Q E,sp vs H Q E->ay (Γ E) b (Dn Q) (start N vs) H
theorem qt(x y:Str):(x++y).length=x.length+y.length:=by rw[len_list,app_list,zqA,<-len_list,<-len_list]
theorem x_(a b:List Row):cT (a++b)=cT a++cT b:=by simp[cT]
theorem uZ(r:Row):cT [r]=gM r:=by simp[cT]
theorem B7{r:Row}(h:0<r.2.2):gM r=txt .put r.1++txt .cut r.2.1++[.keep r.2.2]:=by
 unfold gM;rw[if_neg (by lia)]
theorem Jj{r:Row}(h:r.2.2=0):gM r=txt .put r.1++txt .cut r.2.1:=by
 unfold gM;rw[if_pos h,zae]
def Jk:Pt->Bool|.keep _=>true|_=>false
theorem u0{ch:List Pt}{n:Int}(h:∀p,ch.getLast?=some p->Jk p=false):c7 ch n=ch++[.keep n]:=by
 unfold c7
 split
 ·rename_i m e
  have:=h _ e;cases this
 ·rfl
theorem u9(ch:List Pt)(m n:Int):c7 (ch++[.keep m]) n=ch++[.keep<|n+m]:=by
 unfold c7;rw[zcj]
 simp
theorem txt_nil(mk:Str->Pt):txt mk ""=[]:=if_pos rfl
theorem gN{mk:Str->Pt}{x:Str}(h:x≠""):txt mk x=[mk x]:=if_neg h
theorem Xk{pre:List Row}{r:Row}(h:pre≠ []->r.1≠""\/r.2.1≠""):∀p,(cT pre++txt .put r.1++txt .cut r.2.1).getLast?=some p->Jk p=false:=by
 intro p hp;by_cases h2:r.2.1=""
 ·rw[h2,txt_nil,zae] at hp;by_cases h1:r.1=""
  ·rw[h1,txt_nil,zae] at hp;by_cases mB:pre=[]
   ·rw[mB] at hp
    simp[cT] at hp
   ·rcases h mB with z|z
    ·exact absurd h1 z
    ·exact absurd h2 z
  ·rw[gN h1,zcj] at hp
   simp at hp;subst hp;rfl
 ·rw[gN h2,zcj] at hp
  simp at hp;subst hp;rfl
def Rel(s:NS)(t:List Row×Row):Prop:=
 (∀x∈t.1,0<x.2.2)/\(t.1≠ []->t.2.1≠""\/t.2.2.1≠"")/\0<=t.2.2.2/\
  ((t.2.2.2=0/\s.1=cT t.1/\cat s.2.1=t.2.1/\cat s.2.2=t.2.2.1)\/(0<t.2.2.2/\s.1=cT (t.1++[t.2])/\cat s.2.1=""/\cat s.2.2=""))
theorem oQ(a:List Str)(s:Str):cat (a++[s])=cat a++s:=by rw[WS,WT]
theorem Xl{s:NS}{t:List Row×Row}{p:Pt}(R:Rel s t)(hp:iC p):Rel (dt s p) (bM t p):=by
 obtain⟨ch,pu,cu⟩:=s;obtain⟨pre,r⟩:=t;obtain⟨r1,r2,r3,r4⟩:=R
 simp only at r1 r2 r3 r4
 cases p with
 |keep n=>
  have u_:0<=n:=hp;by_cases hn:0<n
  ·have e1:dt (ch,pu,cu) (.keep n)=(c7 (dN ch pu cu) n,[],[]):=if_pos hn;rw[e1];refine⟨r1,r2,by show 0<=r.2.2+n;lia,.inr ⟨by show 0<r.2.2+n;lia,?_,rfl,rfl⟩⟩
   show c7 (dN ch pu cu) n=cT (pre++[(r.1,r.2.1,r.2.2+n)]);rw[x_,uZ,B7 (r:=(r.1,r.2.1,r.2.2+n)) (by show 0<r.2.2+n;lia)]
   rcases r4 with⟨k0,e2,e3,e4⟩|⟨k0,e2,e3,e4⟩
   ·have ea:dN ch pu cu=cT pre++txt .put r.1++txt .cut r.2.1:=by unfold dN;rw[e2,e3,e4]
    rw[ea,u0<|Xk r2];show _=cT pre++(txt .put r.1++txt .cut r.2.1++[.keep<|r.2.2+n]);rw[k0,Int.zero_add];simp
   ·have ea:dN ch pu cu=cT pre++(txt .put r.1++txt .cut r.2.1)++[.keep r.2.2]:=by
     unfold dN;rw[e2,e3,e4,txt_nil,txt_nil,zae,zae,x_,uZ,B7 k0];simp
    rw[ea,u9];show _=cT pre++(txt .put r.1++txt .cut r.2.1++[.keep<|r.2.2+n]);rw[Int.add_comm n];simp
  ·have e0:n=0:=by lia
   have e1:dt (ch,pu,cu) (.keep n)=(ch,pu,cu):=if_neg hn;have e2:bM (pre,r) (.keep n)=(pre,r):=by show(pre,(r.1,r.2.1,r.2.2+n))=_;rw[e0,Int.add_zero]
   rw[e1,e2];exact⟨r1,r2,r3,r4⟩
 |put x=>
  show Rel (ch,pu++[x],cu) (bM (pre,r)<|.put x);by_cases hx:x=""
  ·have e2:bM (pre,r) (.put x)=(pre,r):=if_pos hx;rw[e2];refine⟨r1,r2,r3,?_⟩;have e:cat (pu++[x])=cat pu:=by rw[oQ,hx];exact IZ _
   show _\/_
   simp only[e]
   exact r4
  ·by_cases hk:0<r.2.2
   ·have e2:bM (pre,r) (.put x)=(pre++[r],((Str.ofString ""++x,Str.ofString "",0):Row)):=by show(if x="" then _ else if 0<r.2.2 then _ else _)=_;rw[if_neg hx,if_pos hk]
    rw[e2];rcases r4 with⟨k0,_⟩|⟨_,e5,e3,e4⟩
    ·lia
    ·refine⟨fun y hy=>?_,fun _=>.inl (by rw[sM];exact hx),zaT _,.inl ⟨rfl,e5,?_,e4⟩⟩
     ·rcases zaa.mp hy with z|z
      ·exact r1 y z
      ·rw[zad.mp z];exact hk
     ·show cat (pu++[x])=_;rw[oQ,e3]
   ·have e2:bM (pre,r) (.put x)=(pre,(r.1++x,r.2.1,r.2.2)):=by show(if x="" then _ else if 0<r.2.2 then _ else _)=_;rw[if_neg hx,if_neg hk]
    rw[e2];rcases r4 with⟨k0,e5,e3,e4⟩|⟨k0,_⟩
    ·refine⟨r1,fun _=>.inl ?_,r3,.inl ⟨k0,e5,?_,e4⟩⟩
     ·intro z;have:=congrArg Str.length z;rw[qt] at this;have l0:(Str.ofString "").length=0:=rfl;rw[l0] at this;have oR:x.length=0:=by lia
      exact hx<|jG (by rw[len_list] at oR;rw[zaH.mp oR];rfl)
     ·show cat (pu++[x])=_;rw[oQ,e3]
    ·lia
 |cut x=>
  show Rel (ch,pu,cu++[x]) (bM (pre,r)<|.cut x);by_cases hx:x=""
  ·have e2:bM (pre,r) (.cut x)=(pre,r):=if_pos hx;rw[e2];refine⟨r1,r2,r3,?_⟩;have e:cat (cu++[x])=cat cu:=by rw[oQ,hx];exact IZ _
   show _\/_
   simp only[e]
   exact r4
  ·by_cases hk:0<r.2.2
   ·have e2:bM (pre,r) (.cut x)=(pre++[r],((Str.ofString "",Str.ofString ""++x,0):Row)):=by show(if x="" then _ else if 0<r.2.2 then _ else _)=_;rw[if_neg hx,if_pos hk]
    rw[e2];rcases r4 with⟨k0,_⟩|⟨_,e5,e3,e4⟩
    ·lia
    ·refine⟨fun y hy=>?_,fun _=>.inr (by rw[sM];exact hx),zaT _,.inl ⟨rfl,e5,e3,?_⟩⟩
     ·rcases zaa.mp hy with z|z
      ·exact r1 y z
      ·rw[zad.mp z];exact hk
     ·show cat (cu++[x])=_;rw[oQ,e4]
   ·have e2:bM (pre,r) (.cut x)=(pre,(r.1,r.2.1++x,r.2.2)):=by show(if x="" then _ else if 0<r.2.2 then _ else _)=_;rw[if_neg hx,if_neg hk]
    rw[e2];rcases r4 with⟨k0,e5,e3,e4⟩|⟨k0,_⟩
    ·refine⟨r1,fun _=>.inr ?_,r3,.inl ⟨k0,e5,e3,?_⟩⟩
     ·intro z;have:=congrArg Str.length z;rw[qt] at this;have l0:(Str.ofString "").length=0:=rfl;rw[l0] at this;have oR:x.length=0:=by lia
      exact hx<|jG (by rw[len_list] at oR;rw[zaH.mp oR];rfl)
     ·show cat (cu++[x])=_;rw[oQ,e4]
    ·lia
theorem Jl:∀(ps:List Pt) (s:NS) (t:List Row×Row),Rel s t->(∀p∈ps,iC p)->Rel (ps.foldl dt s) (ps.foldl bM t)
 |[],s,t,R,_=>R
 |p::r,s,t,R,h=>Jl r _ _ (Xl R<|h p zat) fun q hq=>h q (zas _ hq)
theorem Xm(ps:List Pt)(h:∀p∈ps,iC p):Rel (ps.foldl dt ([],[],[])) (ps.foldl bM ([],((Str.ofString "",Str.ofString "",0):Row))):=
 Jl ps _ _ ⟨(fun x hx=>by cases hx),fun z=>absurd rfl z,zaT _,.inl ⟨rfl,rfl,rfl,rfl⟩⟩ h
theorem B8(ps:List Pt)(h:∀p∈ps,iC p):nj ps=fU ps:=by
 obtain⟨r1,r2,r3,r4⟩:=Xm ps h;show dN _ _ _=cT (_++[_]);generalize ps.foldl dt ([],[],[])=s at r4⊢;generalize ps.foldl bM ([],((Str.ofString "",Str.ofString "",0):Row))=t at r1 r2 r3 r4⊢;unfold dN;rcases r4 with⟨k0,e5,e3,e4⟩|⟨k0,e5,e3,e4⟩
 ·rw[e5,e3,e4,x_,uZ,Jj k0];simp
 ·rw[e5,e3,e4,txt_nil,txt_nil];simp
def sg(x:Str):Prop:= ∀c∈x.cps.toList,SG.cps.contains c=true
theorem sR{x:Str}(a:sg x)(b:sg y):sg (x++y):=fun c hc=>by
 rw[app_list] at hc;rcases zaa.mp hc with z|z
 ·exact a c z
 ·exact b c z
theorem jJ:sg (Str.ofString ""):=fun c hc=>by cases hc
def kj(r:Row):Nat:=r.1.length+r.2.1.length
structure RI (n:Nat) (t:List Row×Row):Prop where
 pos:∀x∈t.1,0<x.2.2
 nn:0<=t.2.2.2
 s1:∀x∈t.1++[t.2],sg x.1/\sg x.2.1
 tl:∀x∈ (t.1++[t.2]).tail,x.1≠""\/x.2.1≠""
 aD:((t.1++[t.2]).map kj).sum=n
theorem Jm{x:Str}(h:x≠""):x++y≠"":=fun z=>by
 have:=congrArg Str.length z;rw[qt] at this;have l0:(Str.ofString "").length=0:=rfl;rw[l0] at this;have oR:x.length=0:=by lia
 exact h<|jG (by rw[len_list] at oR;rw[zaH.mp oR];rfl)
theorem Jn{α:Type}(l:List α)(a:α):(l++[a]).tail=if l=[] then [] else l.tail++[a]:=by
 cases l with
 |nil=>rfl
 |cons b r=>simp
theorem B9{m:Nat}{pre:List Row}{r r':Row}(I:RI n (pre,r))(h0:0<=r'.2.2)(h1:sg r'.1/\sg r'.2.1)(h2:(r.1≠""->r'.1≠"")/\(r.2.1≠""->r'.2.1≠""))(h3:kj r'=kj r+m):RI (n+m) (pre,r'):=by
 refine⟨I.pos,h0,fun x hx=>?_,fun x hx=>?_,?_⟩
 ·rcases zaa.mp hx with z|z
  ·exact I.s1 x (zaA _ z)
  ·rw[zad.mp z];exact h1
 ·have t1:=I.tl
  simp only at t1 hx
  rw[Jn] at hx t1;by_cases hp:pre=[]
  ·rw[if_pos hp] at hx;cases hx
  ·rw[if_neg hp] at hx t1;rcases zaa.mp hx with z|z
   ·exact t1 x (zaA _ z)
   ·rw[zad.mp z];rcases t1 r (by simp) with q|q
    ·exact .inl (h2.1 q)
    ·exact .inr (h2.2 q)
 ·have:=I.aD
  simp only[zam,zbV,zax,zbc,zbG,List.sum_nil] at this⊢
  lia
theorem Jo{m:Nat}{pre:List Row}{r r':Row}(I:RI n (pre,r))(hk:0<r.2.2)(h0:0<=r'.2.2)(h1:sg r'.1/\sg r'.2.1)(h2:r'.1≠""\/r'.2.1≠"")(h3:kj r'=m):RI (n+m) (pre++[r],r'):=by
 refine⟨fun x hx=>?_,h0,fun x hx=>?_,fun x hx=>?_,?_⟩
 ·rcases zaa.mp hx with z|z
  ·exact I.pos x z
  ·rw[zad.mp z];exact hk
 ·rcases zaa.mp hx with z|z
  ·exact I.s1 x z
  ·rw[zad.mp z];exact h1
 ·have t1:=I.tl
  simp only at t1 hx
  rw[Jn,if_neg (by simp)] at hx
  rcases zaa.mp hx with z|z
  ·exact t1 x z
  ·rw[zad.mp z];exact h2
 ·have:=I.aD
  simp only[zam,zbV,zax,zbc,zbG,List.sum_nil] at this⊢
  lia
theorem Xn{t:List Row×Row}{p:Pt}(I:RI n t)(hp:iC p):RI (n+eU p) (bM t p):=by
 obtain⟨pre,r⟩:=t;have hs:=I.s1 r (by simp)
 have Jp:0<=r.2.2:=I.nn;have e0:(Str.ofString "").length=0:=rfl;cases p with
 |keep m=>exact B9 I (by show 0<=r.2.2+m;have:0<=m:=hp;lia) hs ⟨fun z=>z,fun z=>z⟩ rfl
 |put x=>
  have gx:sg x:=hp.1.2;by_cases hx:x=""
  ·have e2:bM (pre,r) (.put x)=(pre,r):=if_pos hx;have e3:eU (.put x)=0:=by show x.length=0;rw[hx];rfl
   rw[e2,e3];exact I
  ·by_cases hk:0<r.2.2
   ·have e2:bM (pre,r) (.put x)=(pre++[r],((Str.ofString ""++x,Str.ofString "",0):Row)):=by show(if x="" then _ else if 0<r.2.2 then _ else _)=_;rw[if_neg hx,if_pos hk]
    rw[e2];refine Jo I hk (zaT _) ⟨sR jJ gx,jJ⟩ (.inl (by rw[sM];exact hx)) ?_
    show(Str.ofString ""++x).length+(Str.ofString "").length=x.length;rw[qt,e0];lia
   ·have e2:bM (pre,r) (.put x)=(pre,(r.1++x,r.2.1,r.2.2)):=by show(if x="" then _ else if 0<r.2.2 then _ else _)=_;rw[if_neg hx,if_neg hk]
    rw[e2];refine B9 I Jp ⟨sR hs.1 gx,hs.2⟩ ⟨Jm,fun z=>z⟩ ?_;show(r.1++x).length+r.2.1.length=r.1.length+r.2.1.length+x.length;rw[qt];lia
 |cut x=>
  have gx:sg x:=hp.1.2;by_cases hx:x=""
  ·have e2:bM (pre,r) (.cut x)=(pre,r):=if_pos hx;have e3:eU (.cut x)=0:=by show x.length=0;rw[hx];rfl
   rw[e2,e3];exact I
  ·by_cases hk:0<r.2.2
   ·have e2:bM (pre,r) (.cut x)=(pre++[r],((Str.ofString "",Str.ofString ""++x,0):Row)):=by show(if x="" then _ else if 0<r.2.2 then _ else _)=_;rw[if_neg hx,if_pos hk]
    rw[e2];refine Jo I hk (zaT _) ⟨jJ,sR jJ gx⟩ (.inr (by rw[sM];exact hx)) ?_
    show(Str.ofString "").length+(Str.ofString ""++x).length=x.length;rw[qt,e0];lia
   ·have e2:bM (pre,r) (.cut x)=(pre,(r.1,r.2.1++x,r.2.2)):=by show(if x="" then _ else if 0<r.2.2 then _ else _)=_;rw[if_neg hx,if_neg hk]
    rw[e2];refine B9 I Jp ⟨hs.1,sR hs.2 gx⟩ ⟨fun z=>z,Jm⟩ ?_;show r.1.length+(r.2.1++x).length=r.1.length+r.2.1.length+x.length;rw[qt];lia
theorem B_:∀ps (n:Nat) (t:List Row×Row),RI n t->(∀p∈ps,iC p)->RI (n+aD ps) (ps.foldl bM t)
 |[],n,t,I,_=>I
 |p::r,n,t,I,h=>by
  have:=B_ r _ _ (Xn I<|h p zat) fun q hq=>h q (zas _ hq);have e:n+eU p+aD r=n+aD (p::r):=by show _=n+(eU p+aD r);lia
  rw[e] at this;exact this
theorem Jq{r:Row}{a:Str}{wr:List Pt}(ha:a=""\/(a="keep"/\(r.1≠""\/r.2.1≠"")))(hk:0<r.2.2)(h:chainOk "keep" wr=true):chainOk a (gM r++wr)=true:=by
 rw[B7 hk];by_cases h1:r.1="" <;>by_cases h2:r.2.1=""
 ·rw[h1,h2,txt_nil,txt_nil];rcases ha with rfl|⟨_,z|z⟩
  ·exact h
  ·exact absurd h1 z
  ·exact absurd h2 z
 ·rw[h1,txt_nil,gN h2];rcases ha with rfl|⟨rfl,_⟩ <;>exact h
 ·rw[h2,txt_nil,gN h1];rcases ha with rfl|⟨rfl,_⟩ <;>exact h
 ·rw[gN h1,gN h2];rcases ha with rfl|⟨rfl,_⟩ <;>exact h
theorem chain_last{r:Row}{a:Str}(ha:a=""\/(a="keep"/\(r.1≠""\/r.2.1≠"")))(hk:0<=r.2.2):chainOk a (gM r)=true:=by
 by_cases h0:0<r.2.2
 ·have:=Jq (wr:=[]) ha h0 rfl;rw[zae] at this;exact this
 ·rw[Jj (by lia)]
  by_cases h1:r.1="" <;>by_cases h2:r.2.1=""
  ·rw[h1,h2,txt_nil,txt_nil];rfl
  ·rw[h1,txt_nil,gN h2];rcases ha with rfl|⟨rfl,_⟩ <;>rfl
  ·rw[h2,txt_nil,gN h1];rcases ha with rfl|⟨rfl,_⟩ <;>rfl
  ·rw[gN h1,gN h2];rcases ha with rfl|⟨rfl,_⟩ <;>rfl
theorem Jr:∀(pre:List Row) (r:Row) (a:Str),(∀x∈pre,0<x.2.2)->0<=r.2.2->(a=""\/(a="keep"/\∀x,(pre++[r]).head?=some x->x.1≠""\/x.2.1≠""))->(∀x∈ (pre++[r]).tail,x.1≠""\/x.2.1≠"")->
  chainOk a (cT<|pre++[r])=true
 |[],r,a,_,hk,ha,_=>by
  rw[zbe,uZ];exact chain_last (ha.imp id fun⟨x,y⟩=>⟨x,y r rfl⟩) hk
 |q::pre,r,a,hp,hk,ha,ht=>by
  have e:cT (q::pre++[r])=gM q++cT (pre++[r]):=by simp[cT]
  rw[e];refine Jq (ha.imp id fun⟨x,y⟩=>⟨x,y q rfl⟩) (hp q zat) ?_;refine Jr pre r "keep" (fun x hx=>hp x<|zas _ hx) hk (.inr ⟨rfl,fun x hx=>ht x ?_⟩) fun x hx=>ht x (zck hx);show x∈pre++[r];exact List.mem_of_mem_head? hx
theorem Xo{r:Row}{p:Pt}(hs:sg r.1/\sg r.2.1)(hl:kj r<=1000000)(hk:0<=r.2.2)(h:p∈gM r):bO p:=by
 unfold gM txt at h;unfold kj at hl;rcases zaa.mp h with h|h
 ·rcases zaa.mp h with h|h
  ·split at h
   ·cases h
   ·rename_i ne
    rw[zad.mp h];exact⟨⟨by lia,hs.1⟩,ne⟩
  ·split at h
   ·cases h
   ·rename_i ne
    rw[zad.mp h];exact⟨⟨by lia,hs.2⟩,ne⟩
 ·split at h
  ·cases h
  ·rw[zad.mp h];show 1<=r.2.2;lia
theorem Xp(r:Row):aD (gM r)=kj r:=by
 have t1:∀(mk:Str->Pt) x,(∀y,eU (mk y)=y.length)->aD (txt mk x)=x.length:=by
  intro mk x h;unfold txt;by_cases e:x=""
  ·rw[if_pos e,e];rfl
  ·rw[if_neg e];show eU (mk x)+0=_;rw[h,Nat.add_zero]
 have ta:∀a b:List Pt,aD (a++b)=aD a+aD b:=fun a b=>by simp[aD]
 unfold gM kj;rw[ta,ta,t1 .put _ fun _=>rfl,t1 .cut _ fun _=>rfl]
 split
 ·rfl
 ·rfl
theorem Ca:∀rows:List Row,aD (cT rows)=(rows.map kj).sum
 |[]=>rfl
 |r::rows=>by
  have e:cT (r::rows)=gM r++cT rows:=by simp[cT]
  have ta:∀a b:List Pt,aD (a++b)=aD a+aD b:=fun a b=>by simp[aD]
  rw[e,ta,Xp,Ca rows];rfl
theorem Xq{l:List Row}{x:Row}(h:x∈l):kj x<= (l.map kj).sum:=by
 induction l with
 |nil=>cases h
 |cons a l ih=>
  rw[zax,zbG];rcases zac.mp h with rfl|h
  ·lia
  ·have:=ih h;lia
theorem Js(ps:List Pt)(h:∀p∈ps,iC p)(ht:aD ps<=100000):chainOk "" (fU ps)=true/\(∀p∈fU ps,bO p)/\aD (fU ps)<=100000:=by
 have I:=B_ ps 0 ([],((Str.ofString "",Str.ofString "",0):Row)) ⟨(fun x hx=>by cases hx),zaT _,(fun x hx=>by rw[zad.mp hx];exact⟨jJ,jJ⟩),(fun x hx=>by cases hx),rfl⟩ h
 rw[Nat.zero_add] at I;have e:fU ps=cT ((ps.foldl bM ([],((Str.ofString "",Str.ofString "",0):Row))).1++[(ps.foldl bM ([],((Str.ofString "",Str.ofString "",0):Row))).2]):=rfl;rw[e];generalize ps.foldl bM ([],((Str.ofString "",Str.ofString "",0):Row))=t at I;refine⟨Jr t.1 t.2 "" I.pos I.nn (.inl rfl) I.tl,fun p hp=>?_,by rw[Ca,I.aD];exact ht⟩
 unfold cT at hp;rw[List.mem_flatten] at hp;obtain⟨l,hl,hp⟩:=hp;obtain⟨x,hx,rfl⟩:=zaY.mp hl;have hle:=Xq hx;rw[I.aD] at hle;refine Xo (I.s1 x hx) (by lia) ?_ hp
 rcases zaa.mp hx with z|z
 ·have:=I.pos x z;lia
 ·rw[zad.mp z];exact I.nn
theorem Jt(ps:List Pt):(nj ps).length<=3*ps.length+2:=by
 have go:∀(l:List Pt) (s:NS),(l.foldl dt s).1.length<=s.1.length+3*l.length:=by
  intro l
  induction l with
  |nil=>intro s;simp
  |cons p l ih=>
   intro s;have h1:=ih (dt s p);have h2:(dt s p).1.length<=s.1.length+3:=by
    obtain⟨ch,pu,cu⟩:=s;cases p with
    |keep n=>
     by_cases hn:0<n
     ·have e1:dt (ch,pu,cu) (.keep n)=(c7 (dN ch pu cu) n,[],[]):=if_pos hn;rw[e1];have:=x5 ch pu cu;have:=B1 (dN ch pu cu) n;show(c7 (dN ch pu cu) n).length<=ch.length+3;lia
     ·have e1:dt (ch,pu,cu) (.keep n)=(ch,pu,cu):=if_neg hn;rw[e1];show ch.length<=ch.length+3;lia
    |put x=>show ch.length<=ch.length+3;lia
    |cut x=>show ch.length<=ch.length+3;lia
   rw[zbR,zaq];lia
 have h1:=go ps ([],[],[]);have h2:=x5 (ps.foldl dt ([],[],[])).1 (ps.foldl dt ([],[],[])).2.1 (ps.foldl dt ([],[],[])).2.2;show(dN _ _ _).length<=_
 simp only[zbf] at h1
 lia
def Xr:Pt->PyData|.keep n=>.int n|.put s=>.str s|.cut s=>.str s
def toD(p:Pt):PyData:=.tuple [.str p.word,Xr p]
def km:Pt->Prop|.keep _=>True|.put s=>sg s|.cut s=>sg s
theorem Ju{x:Str}(h:sg x):PyData.strOk x=true:=by
 have small:∀c,SG.cps.contains c=true->c<0x110000:=by
  have all:SG.cps.toList.all (fun c=>decide<|c<0x110000)=true:=by decide+kernel
  intro c hc;have hm:c∈SG.cps.toList:=by simpa using hc
  exact of_decide_eq_true<|zaX.mp all c hm
 unfold PyData.strOk;rw[Array.all_eq_true'];intro c hc;exact zqT<|small c<|h c (by simpa using hc)
theorem toD_ok{p:Pt}(h:km p):(toD p).canLay0=true/\(toD p).depth=1:=by
 cases p with
 |keep n=>exact⟨(by show(PyData.strOk (Str.ofString "keep") && (true && true))=true;decide+kernel),rfl⟩
 |put s=>
  refine⟨?_,rfl⟩;show(PyData.strOk (Str.ofString "put") && (PyData.strOk s && true))=true;rw[Ju h];decide+kernel
 |cut s=>
  refine⟨?_,rfl⟩;show(PyData.strOk (Str.ofString "cut") && (PyData.strOk s && true))=true;rw[Ju h];decide+kernel
theorem Jv:∀(ps:List Pt),(∀p∈ps,km p)->PyData.canLayAll0 (ps.map toD)=true/\PyData.depthAll (ps.map toD)<=1
 |[],_=>⟨rfl,zqZ _⟩
 |p::r,h=>by
  obtain⟨a,b⟩:=toD_ok (h p zat);obtain⟨c,d⟩:=Jv r fun q hq=>h q (zas _ hq);refine⟨?_,?_⟩
  ·show((toD p).canLay0 && PyData.canLayAll0 (r.map toD))=true;rw[a,c];rfl
  ·show max (toD p).depth (PyData.depthAll<|r.map toD)<=1;rw[b];lia
theorem Xs{ps:List Pt}(h:∀p∈ps,km p):SeqAt.shaped (.list<|ps.map toD)=true:=by
 obtain⟨c,d⟩:=Jv ps h;unfold SeqAt.shaped;have e:(PyData.list<|ps.map toD).canLay0=true:=c;have e2:(PyData.list<|ps.map toD).depth<=64:=by show PyData.depthAll (ps.map toD)+1<=64;lia
 rw[e,zqT e2];rfl
theorem Jw:∀{vs:List V}{ps:List Pt},aX H vs ps->IsL H (ps.map toD) vs
 |_,_,.nil=>rfl
 |_,_,.cons (a:=v) (b:=p) ⟨a,e,h⟩ r=>by
  refine⟨v,_,rfl,?_,Jw r⟩;refine⟨a,_,e,h,.str p.word,[p.val],rfl,rfl,p.val,[],rfl,?_,rfl⟩;cases p<;>rfl
theorem Xt{p:Pt}(h:bO p):km p:=by
 cases p with
 |keep n=>trivial
 |put s=>exact h.1.2
 |cut s=>exact h.1.2
def Pt.oS:Pt->Pt|.keep n=>.keep n|.put s=>.cut s|.cut s=>.put s
def dg(ps:List Pt):List Pt:=ps.map Pt.oS
theorem Xu{ps:List Pt}(h:∀p∈ps,iC p):∀p∈dg ps,iC p:=by
 intro p hp;obtain⟨q,hq,rfl⟩:=zaY.mp hp;have:=h q hq;cases q<;>exact this
theorem Cb(ps:List Pt):aD (dg ps)=aD ps:=by
 unfold aD dg;rw[zbh]
 congr 1
 refine zbo fun p _=>?_;cases p<;>rfl
theorem Xv(ps:List Pt)(h:∀p∈ps,iC p):RI (aD ps) (ps.foldl bM ([],((Str.ofString "",Str.ofString "",0):Row))):=by
 have I:=B_ ps 0 ([],((Str.ofString "",Str.ofString "",0):Row)) ⟨(fun x hx=>by cases hx),zaT _,(fun x hx=>by rw[zad.mp hx];exact⟨jJ,jJ⟩),(fun x hx=>by cases hx),rfl⟩ h
 rwa [Nat.zero_add] at I
theorem Xw{p:Pt}(h:bO p)(ht:eU p<=100000):iC p:=by
 cases p with
 |keep n=>exact Int.le_trans (by decide) (show(1:Int)<=n from h)
 |put s=>exact⟨h.1,ht⟩
 |cut s=>exact⟨h.1,ht⟩
theorem Xx{ps:List Pt}{p:Pt}(h:p∈ps):eU p<=aD ps:=by
 induction ps with
 |nil=>cases h
 |cons q ps ih=>
  have e:aD (q::ps)=eU q+aD ps:=by simp[aD]
  rw[e];rcases zac.mp h with rfl|h
  ·lia
  ·have:=ih h;lia
theorem Jx{ps:List Pt}(h:∀p∈ps,bO p)(ht:aD ps<=100000):∀p∈ps,iC p:=fun p hp=>Xw (h p hp) (zay (Xx hp) ht)
inductive Run:List Nat->List Pt->List Nat->Prop
 |nil:Run [] [] []
 |keep {a l r:List Nat}{n:Int}{ps:List Pt}:n=a.length->Run l ps r->Run (a++l) (.keep n::ps) (a++r)
 |put {s:Str}{l r:List Nat}{ps:List Pt}:Run l ps r->Run l (.put s::ps) (s.cps.toList++r)
 |cut {s:Str}{l r:List Nat}{ps:List Pt}:Run l ps r->Run (s.cps.toList++l) (.cut s::ps) r
theorem Run.oS{l r:List Nat}{ps:List Pt}(h:Run l ps r):Run r (dg ps) l:=by
 induction h with
 |nil=>exact .nil
 |keep e _ ih=>exact .keep e ih
 |put _ ih=>exact .cut ih
 |cut _ ih=>exact .put ih
theorem Run.app{l l' r r':List Nat}{ps qs:List Pt}(h:Run l ps r)(h':Run l' qs r'):Run (l++l') (ps++qs) (r++r'):=by
 induction h with
 |nil=>exact h'
 |keep e _ ih=>rw[zah,zah];exact .keep e ih
 |put _ ih=>rw[zah];exact .put ih
 |cut _ ih=>rw[zah];exact .cut ih
theorem Run.over{l r:List Nat}{ps:List Pt}(h:Run l ps r):(overOf ps).sum=l.length:=by
 induction h with
 |nil=>rfl
 | @keep a l r n ps e _ ih=>
  have e2:overOf (.keep n::ps)=n::overOf ps:=rfl;rw[e2,zbG,ih,e,zqA]
  simp
 | @put s l r ps _ ih=>
  have e2:overOf (.put s::ps)=overOf ps:=rfl;rw[e2,ih]
 | @cut s l r ps _ ih=>
  have e2:overOf (.cut s::ps)=(s.length:Int)::overOf ps:=rfl;rw[e2,zbG,ih,zqA,len_list]
  simp
def qu(r:Row)(l q:List Nat):Prop:= ∃k:List Nat,r.2.2=k.length/\l=r.2.1.cps.toList++k/\q=r.1.cps.toList++k
inductive nu:List Row->List Nat->List Nat->Prop
 |nil:nu [] [] []
 |snoc {rs:List Row}{r:Row}{l q l' q':List Nat}:nu rs l q->qu r l' q'->nu (rs++[r]) (l++l') (q++q')
theorem Cc:Run [] (txt .put s) s.cps.toList:=by
 by_cases h:s=""
 ·rw[h,txt_nil];exact .nil
 ·rw[gN h];have:=Run.put (s:=s) Run.nil
  rwa [zae] at this
theorem Jy:Run s.cps.toList (txt .cut s) []:=by
 have:=(Cc (s:=s)).oS;have e:dg (txt .put s)=txt .cut s:=by
  unfold txt;split<;>rfl
 rwa [e] at this
theorem qu.run{r:Row}{l q:List Nat}(h:qu r l q):Run l (gM r) q:=by
 obtain⟨k,hk,rfl,rfl⟩:=h;have h3:Run k (if r.2.2=0 then [] else [.keep r.2.2]) k:=by
  split
  ·rename_i h
   have:k=[]:=zaH.mp (by lia)
   rw[this];exact .nil
  ·have:=Run.keep (a:=k) hk Run.nil
   rwa [zae] at this
 have:=((Cc (s:=r.1)).app<|Jy (s:=r.2.1)).app h3
 simpa[gM] using this
theorem nu.run{rs:List Row}{l q:List Nat}(h:nu rs l q):Run l (cT rs) q:=by
 induction h with
 |nil=>exact .nil
 |snoc _ h2 ih=>rw[x_,uZ];exact ih.app h2.run
def One:Pt->List Nat->List Nat->Prop
 |.keep n,l,q=>l=q/\n=l.length
 |.put s,l,q=>l=[]/\q=s.cps.toList
 |.cut s,l,q=>l=s.cps.toList/\q=[]
theorem Jz{p:Pt}{l q:List Nat}{ps:List Pt}(h:Run l (p::ps) q):∃l1 l2 q1 q2,l=l1++l2/\q=q1++q2/\Run l2 ps q2/\
  One p l1 q1:=by
 cases h with
 |keep e h=>exact⟨_,_,_,_,rfl,rfl,h,rfl,e⟩
 |put h=>exact⟨[],_,_,_,rfl,rfl,h,rfl,rfl⟩
 |cut h=>exact⟨_,_,[],_,rfl,rfl,h,rfl,rfl⟩
theorem Xy{pre:List Row}{r:Row}{p:Pt}{l0 q0 l1 q1 l2 q2:List Nat}(h0:nu pre l0 q0)(h1:qu r l1 q1)
  (hp:One p l2 q2):
  ∃qv qw qx lB,nu (bM (pre,r) p).1 qv qw/\qu (bM (pre,r) p).2 qx lB/\l0++l1++l2=qv++qx/\q0++q1++q2=qw++lB:=by
 cases p with
 |keep n=>
  obtain⟨rfl,rfl⟩:=hp;obtain⟨k,hk,rfl,rfl⟩:=h1;refine⟨l0,q0,_,_,h0,⟨k++l2,?_,rfl,rfl⟩,by simp[bM],by simp[bM]⟩
  show r.2.2+(l2.length:Int)=_;rw[hk,zqA];simp
 |put s=>
  obtain⟨rfl,rfl⟩:=hp;by_cases hs:s=""
  ·have e:bM (pre,r) (.put s)=(pre,r):=by simp only[bM,if_pos hs]
   rw[e];refine⟨l0,q0,l1,q1,h0,h1,by simp,?_⟩
   rw[hs];show q0++q1++(Str.ofString "").cps.toList=_;rw[ofString_empty];simp
  ·by_cases hk:0<r.2.2
   ·have e:bM (pre,r) (.put s)=(pre++[r],((Str.ofString ""++s,"",0):Row)):=by simp only[bM,if_neg hs,if_pos hk]
    rw[e];refine⟨_,_,[],s.cps.toList,h0.snoc h1,⟨[],rfl,rfl,?_⟩,by simp,by simp⟩
    show s.cps.toList=(Str.ofString ""++s).cps.toList++[];rw[sM];simp
   ·have e:bM (pre,r) (.put s)=(pre,(r.1++s,r.2.1,r.2.2)):=by simp only[bM,if_neg hs,if_neg hk]
    rw[e];obtain⟨k,pU,rfl,rfl⟩:=h1;have:k=[]:=zaH.mp (by lia)
    subst this;refine⟨l0,q0,r.2.1.cps.toList,r.1.cps.toList++s.cps.toList,h0,⟨[],pU,by simp,by simp[app_list]⟩,by simp,by simp⟩
 |cut s=>
  obtain⟨rfl,rfl⟩:=hp;by_cases hs:s=""
  ·have e:bM (pre,r) (.cut s)=(pre,r):=by simp only[bM,if_pos hs]
   rw[e];refine⟨l0,q0,l1,q1,h0,h1,?_,by simp⟩
   rw[hs];show l0++l1++(Str.ofString "").cps.toList=_;rw[ofString_empty];simp
  ·by_cases hk:0<r.2.2
   ·have e:bM (pre,r) (.cut s)=(pre++[r],(("",Str.ofString ""++s,0):Row)):=by simp only[bM,if_neg hs,if_pos hk]
    rw[e];refine⟨_,_,s.cps.toList,[],h0.snoc h1,⟨[],rfl,?_,rfl⟩,by simp,by simp⟩
    show s.cps.toList=(Str.ofString ""++s).cps.toList++[];rw[sM];simp
   ·have e:bM (pre,r) (.cut s)=(pre,(r.1,r.2.1++s,r.2.2)):=by simp only[bM,if_neg hs,if_neg hk]
    rw[e];obtain⟨k,pU,rfl,rfl⟩:=h1;have:k=[]:=zaH.mp (by lia)
    subst this;refine⟨l0,q0,r.2.1.cps.toList++s.cps.toList,r.1.cps.toList,h0,⟨[],pU,by simp[app_list],by simp⟩,by simp,by simp⟩
theorem JA:∀ps pre (r:Row) l0 q0 l1 q1 l2 q2,nu pre l0 q0->qu r l1 q1->Run l2 ps q2->
  ∃qv qw qx lB,nu (ps.foldl bM (pre,r)).1 qv qw/\qu (ps.foldl bM (pre,r)).2 qx lB/\l0++l1++l2=qv++qx/\q0++q1++q2=qw++lB
 |[],pre,r,l0,q0,l1,q1,l2,q2,h0,h1,h2=>by
  cases h2;exact⟨l0,q0,l1,q1,h0,h1,by simp,by simp⟩
 |p::ps,pre,r,l0,q0,l1,q1,l2,q2,h0,h1,h2=>by
  obtain⟨a,b,c,d,rfl,rfl,h3,h4⟩:=Jz h2;obtain⟨qv,qw,qx,lB,g0,g1,e1,e2⟩:=Xy h0 h1 h4;obtain⟨Xz,XA,XB,XC,f0,f1,e3,e4⟩:=JA ps _ _ qv qw qx lB b d g0 g1 h3;refine⟨Xz,XA,XB,XC,f0,f1,?_,?_⟩
  ·rw[<-e3,<-e1];simp
  ·rw[<-e4,<-e2];simp
theorem JB{ps:List Pt}{l q:List Nat}(h:Run l ps q):Run l (fU ps) q:=by
 obtain⟨l0,q0,l1,q1,h0,h1,e1,e2⟩:=JA ps [] ("","",0) [] [] [] [] l q .nil ⟨[],rfl,rfl,rfl⟩ h;have:=(h0.snoc h1).run;rw[<-e1,<-e2] at this;exact this
def WB:List (Key×V):=[(.inr "keep",.str "keep"),(.inr "cut",.str "put"),(.inr "put",.str "cut")]
abbrev XD:List (Str×Sp):=[("need_change",B0),("neat",oN)]
def ya:Sp:=fun vs H Q E=>∃a xs ps,vs=[.ref a]/\H a=some (.lst xs)/\aX H xs ps/\(∀p∈ps,bO p)/\chainOk "" ps=true/\ps.length<=100000/\aD ps<=100000/\
 ∀b H' ys,aA H H'->H b=none->H' b=some (.lst ys)->aX H' ys (nj<|dg ps)->Q (.ref b) H'
theorem XE{K:Frag}{p:Addr}(vs:List V)(H:Hp)(Q:VK)(E:XK)(h:ya vs H Q E):ay (aO K XD [("WAYS_BACK",.ref p)] [(p,WB)] (E:=E)) HX {nx:=fun _ H'=>Q .az H',rt:=Q} (start HW vs) H:=by
 obtain⟨a,xs,ps,rfl,ha,cZ,aB,dQ,hl,ht,q⟩:=h;refine⟨_,rfl,a,xs,ps,rfl,ha,cZ,aB,dQ,fun H1 s1=>?_⟩;have hlen:=Paired.length cZ;refine⟨_,rfl,a,rfl,⟨_,av.of<|s1 _ _ ha⟩,fun i m ys H2=>m=xs.length - i/\i<=xs.length/\aA H H2/\aX H2 ys (dg<|ps.take i),⟨_,rfl,zqZ _,s1,.nil⟩,?_⟩;rintro i m ys H2 ⟨rfl,hi,s2,hy⟩;by_cases aN:i<xs.length
 ·refine .inr ⟨⟨xs,xs[i],av.of<|s2 _ _ ha,by simp[aN]⟩,?_⟩
  rintro x H3 ⟨rfl,hx⟩;have jX:=hx xs (av.of<|s2 _ _ ha);obtain⟨pt,hp,kh⟩:=cZ.get jX;obtain⟨b,rfl,hb⟩:=kh.mono (df s2);have hyl:=Paired.length hy;have hv:mK WB (.inr pt.word)=some (.str pt.oS.word):=by
   cases pt<;>first|rfl| (show mK WB _=_;decide+kernel)
  refine⟨b,_,rfl,aM.of hb,rfl,_,rfl,.inr<|.inr<|.inr ⟨p,WB,.inr pt.word,_,rfl,rfl,zad.2 rfl,hv,?_⟩⟩;refine⟨_,rfl,by show 2<=sizeLine;decide,fun t yb=>⟨?_,xs.length - (i+1),by lia,rfl,aN,s2.trans<|sameNew yb,?_⟩⟩
  ·have:(dg<|ps.take i).length=i:=by simp[dg];lia
   exact dJ (by lia)
  ·have e:dg (ps.take<|i+1)=dg (ps.take i)++[pt.oS]:=by
    rw[zbp,hp];simp[dg]
   rw[e];refine(hy.mono<|df<|sameNew yb).snoc ⟨t,rfl,?_⟩;rw[ax];cases pt<;>rfl
 ·have iA:i=xs.length:=by lia
  subst iA;refine .inl ⟨⟨xs,av.of<|s2 _ _ ha,zqR _⟩,fun b hb=>?_⟩;have e:dg (ps.take xs.length)=dg ps:=by rw[hlen,zbA]
  rw[e] at hy;have sb:=sameNew (o:=.lst ys) hb;refine⟨b,ys,dg ps,rfl,ax,hy.mono<|df sb,by simp[dg];lia,by rw[Cb];exact ht,fun c H3 zs s3 hc h3 hz=>?_⟩
  exact q c H3 zs (s2.trans<|sb.trans s3) ((s2.trans sb).free hc) h3 hz
theorem JC{x:Str}{a b c:List Nat}(h:x.cps.toList=a++(b++c))(n:Int)(hn:n=b.length):lh x (some (a.length:Int)) (some<|(a.length:Int)+n)=⟨b.toArray⟩:=by
 have e1:(a.length:Int)+n=((a.length+b.length:Nat):Int):=by rw[hn];simp
 unfold lh mF;rw[e1,HT.nX,HT.nX,h];have l1:(a++(b++c)).length=a.length+(b.length+c.length):=by simp
 rw[l1];have m1:min a.length (a.length+(b.length+c.length))=a.length:=by lia
 have m2:min (a.length+b.length) (a.length+(b.length+c.length))=a.length+b.length:=by lia
 rw[m1,m2,List.drop_left,show a.length+b.length - a.length=b.length by lia,zbW]
theorem yc(x:Str):(⟨x.cps.toList.toArray⟩:Str)=x:=jG rfl
theorem Cd(ps:List Pt)(h:∀p∈ps,iC p):aD (fU ps)=aD ps:=by
 have I:=Xv ps h;have e:fU ps=cT ((ps.foldl bM ([],((Str.ofString "",Str.ofString "",0):Row))).1++[(ps.foldl bM ([],((Str.ofString "",Str.ofString "",0):Row))).2]):=rfl;rw[e,Ca,I.aD]
inductive At where|K|P (c:Nat)|C (c:Nat)
 deriving DecidableEq
abbrev Form:=List Nat×List Nat×List (List Nat×List Nat)
def nb:List At->Form
 |[]=>([],[],[])
 |.P c::xs=>(c::(nb xs).1,(nb xs).2.1,(nb xs).2.2)
 |.C c::xs=>((nb xs).1,c::(nb xs).2.1,(nb xs).2.2)
 |.K::xs=>([],[],((nb xs).1,(nb xs).2.1)::(nb xs).2.2)
def fit:List Nat->List At->Prop
 |l,[]=>l=[]
 |l,.P _::xs=>fit l xs
 |[],.K::_=>False
 |_::l,.K::xs=>fit l xs
 |[],.C _::_=>False
 |a::l,.C c::xs=>a=c/\fit l xs
abbrev Sg:=Sum Nat Nat
def res(i:Nat):List At->List Sg
 |[]=>[]
 |.P c::xs=>.inr c::res i xs
 |.K::xs=>.inl i::res (i+1) xs
 |.C _::xs=>res (i+1) xs
theorem qy:∀xs (i j:Nat),Sum.inl j∈res i xs->i<=j
 |[],i,j,h=>by cases h
 |.P c::xs,i,j,h=>by
  rcases zac.mp h with z|z
  ·cases z
  ·exact qy xs i j z
 |.K::xs,i,j,h=>by
  rcases zac.mp h with z|z
  ·cases z;exact zqR _
  ·have:=qy xs (i+1) j z;lia
 |.C c::xs,i,j,h=>by have:=qy xs (i+1) j h;lia
def out:List Nat->List At->List Nat
 |l,[]=>[]
 |l,.P c::xs=>c::out l xs
 |[],.K::xs=>out [] xs
 |a::l,.K::xs=>a::out l xs
 |[],.C _::xs=>out [] xs
 |_::l,.C _::xs=>out l xs
inductive cj:List At->List At->List At->Prop
 |nil:cj [] [] []
 |p {c xs ys zs}:cj xs ys zs->cj xs (.P c::ys) (.P c::zs)
 |c {c xs ys zs}:cj xs ys zs->cj (.C c::xs) ys (.C c::zs)
 |kk {xs ys zs}:cj xs ys zs->cj (.K::xs) (.K::ys) (.K::zs)
 |kc {c xs ys zs}:cj xs ys zs->cj (.K::xs) (.C c::ys) (.C c::zs)
 |pk {c xs ys zs}:cj xs ys zs->cj (.P c::xs) (.K::ys) (.P c::zs)
 |pc {c xs ys zs}:cj xs ys zs->cj (.P c::xs) (.C c::ys) zs
def sb(r:List Sg)(k:Nat):Sg->Sg
 |.inr c=>.inr c
 |.inl j=>r.getD (j - k) (.inr 0)
def sub(r:List Sg)(k:Nat)(t:List Sg):List Sg:=t.map (sb r k)
theorem yd(x:Sg)(r:List Sg)(k:Nat)(t:List Sg)(h:∀j,Sum.inl j∈t->k+1<=j):sub (x::r) k t=sub r (k+1) t:=by
 refine zbo fun y hy=>?_;cases y with
 |inr c=>rfl
 |inl j=>
  have:=h j hy
  simp only[sb]
  rw[show j - k=(j - (k+1))+1 by lia,List.getD_cons_succ]
theorem XF{xs ys zs:List At}(h:cj xs ys zs):∀l (i k:Nat),fit l xs->fit (out l xs) ys->fit l zs/\out l zs=out (out l xs) ys/\res i zs=sub (res i xs) k (res k ys):=by
 induction h with
 |nil=>intro l i k h1 h2;exact⟨h1,rfl,rfl⟩
 | @p c xs ys zs _ ih=>
  intro l i k h1 h2;obtain⟨a,b,d⟩:=ih l i k h1 h2;refine⟨a,?_,?_⟩
  ·show c::out l zs=c::out (out l xs) ys;rw[b]
  ·show Sum.inr c::res i zs=_;rw[d];rfl
 | @c c xs ys zs _ ih=>
  intro l i k h1 h2;cases l with
  |nil=>exact h1.elim
  |cons a l=>
   obtain⟨rfl,h1⟩:=h1;obtain⟨e1,e2,e3⟩:=ih l (i+1) k h1 h2;exact⟨⟨rfl,e1⟩,e2,e3⟩
 | @kk xs ys zs _ ih=>
  intro l i k h1 h2;cases l with
  |nil=>exact h1.elim
  |cons a l=>
   obtain⟨e1,e2,e3⟩:=ih l (i+1) (k+1) h1 h2;refine⟨e1,?_,?_⟩
   ·show a::out l zs=a::out (out l xs) ys;rw[e2]
   ·show Sum.inl i::res (i+1) zs=sub (Sum.inl i::res (i+1) xs) k (Sum.inl k::res (k+1) ys);rw[e3];show _=sb (Sum.inl i::res (i+1) xs) k (Sum.inl k)::sub (Sum.inl i::res (i+1) xs) k (res (k+1) ys);rw[yd _ _ _ _ fun j hj=>qy ys (k+1) j hj]
    simp only[sb]
    rw[zbq,List.getD_cons_zero]
 | @kc c xs ys zs _ ih=>
  intro l i k h1 h2;cases l with
  |nil=>exact h1.elim
  |cons a l=>
   obtain⟨rfl,h2⟩:=h2;obtain⟨e1,e2,e3⟩:=ih l (i+1) (k+1) h1 h2;refine⟨⟨rfl,e1⟩,e2,?_⟩;show res (i+1) zs=sub (Sum.inl i::res (i+1) xs) k (res (k+1) ys);rw[e3,yd _ _ _ _ fun j hj=>qy ys (k+1) j hj]
 | @pk c xs ys zs _ ih=>
  intro l i k h1 h2;obtain⟨e1,e2,e3⟩:=ih l i (k+1) h1 h2;refine⟨e1,?_,?_⟩
  ·show c::out l zs=c::out (out l xs) ys;rw[e2]
  ·show Sum.inr c::res i zs=sub (Sum.inr c::res i xs) k (Sum.inl k::res (k+1) ys);rw[e3];show _=sb (Sum.inr c::res i xs) k (Sum.inl k)::sub (Sum.inr c::res i xs) k (res (k+1) ys);rw[yd _ _ _ _ fun j hj=>qy ys (k+1) j hj]
   simp only[sb]
   rw[zbq,List.getD_cons_zero]
 | @pc c xs ys zs _ ih=>
  intro l i k h1 h2;obtain⟨_,h2⟩:=h2;obtain⟨e1,e2,e3⟩:=ih l i (k+1) h1 h2;refine⟨e1,e2,?_⟩;show res i zs=sub (Sum.inr c::res i xs) k (res (k+1) ys);rw[e3,yd _ _ _ _ fun j hj=>qy ys (k+1) j hj]
def sw:At->At|.K=>.K|.P c=>.C c|.C c=>.P c
def lM:Nat->List Nat->List Nat->List (List Nat×List Nat)->List Sg
 |i,p,q,[]=>p.map .inr
 |i,p,q,(p',q')::r=>p.map .inr++ .inl (i+q.length)::lM (i+q.length+1) p' q' r
theorem XG(c:Nat):∀(r:List (List Nat×List Nat)) (i:Nat) p q,lM (i+1) p q r=lM i p (c::q) r
 |[],i,p,q=>rfl
 |(p',q')::r,i,p,q=>by
  simp only[lM,zaq]
  rw[show i+1+q.length=i+(q.length+1) by lia]
theorem XH(c:Nat):∀(r:List (List Nat×List Nat)) (i:Nat) p q,lM i (c::p) q r=.inr c::lM i p q r
 |[],i,p,q=>rfl
 |(p',q')::r,i,p,q=>rfl
theorem vb:∀xs (i:Nat),res i xs=lM i (nb xs).1 (nb xs).2.1 (nb xs).2.2
 |[],i=>rfl
 |.P c::xs,i=>by
  show Sum.inr c::res i xs=lM i (c::(nb xs).1) _ _;rw[vb xs i,XH];rfl
 |.C c::xs,i=>by
  show res (i+1) xs=lM i (nb xs).1 (c::(nb xs).2.1) _;rw[vb xs<|i+1,XG c];rfl
 |.K::xs,i=>by
  show Sum.inl i::res (i+1) xs=Sum.inl (i+0)::lM (i+0+1) _ _ _;rw[vb xs<|i+1];rfl
theorem XI{xs ys:List At}(h:nb xs=nb ys)(i:Nat):res i xs=res i ys:=by rw[vb,vb,h]
def jk:List Nat->List Nat->List (List Nat×List Nat)->Form->Form
 |p,q,[],F=>(p++F.1,q++F.2.1,F.2.2)
 |p,q,(a,b)::r,F=>(p,q,((jk a b r F).1,(jk a b r F).2.1)::(jk a b r F).2.2)
theorem XJ(c:Nat)(p q:List Nat)(r:List (List Nat×List Nat))(F:Form):jk (c::p) q r F=(c::(jk p q r F).1,(jk p q r F).2.1,(jk p q r F).2.2):=by
 cases r<;>rfl
theorem XM(c:Nat)(p q:List Nat)(r:List (List Nat×List Nat))(F:Form):jk p (c::q) r F=((jk p q r F).1,c::(jk p q r F).2.1,(jk p q r F).2.2):=by
 cases r<;>rfl
theorem qz:∀xs ys,nb (xs++ys)=jk (nb xs).1 (nb xs).2.1 (nb xs).2.2 (nb ys)
 |[],ys=>rfl
 |.K::xs,ys=>by
  simp only[zbi,nb,qz xs ys];rfl
 |.P c::xs,ys=>by
  simp only[zbi,nb,qz xs ys,XJ]
 |.C c::xs,ys=>by
  simp only[zbi,nb,qz xs ys,XM]
theorem Ce{xs bB ys dA:List At}(h:nb xs=nb bB)(h':nb ys=nb dA):nb (xs++ys)=nb (bB++dA):=by rw[qz,qz,h,h']
theorem JD:∀p,nb (p.map .P)=(p,[],[])
 |[]=>rfl
 |c::p=>by simp only[zax,nb,JD p]
theorem JE:∀p,nb (p.map .C)=([],p,[])
 |[]=>rfl
 |c::p=>by simp only[zax,nb,JE p]
theorem XN(p q:List Nat):nb (q.map .C++p.map .P)=nb (p.map .P++q.map .C):=by
 rw[qz,qz,JD,JE]
 simp[jk]
def rK(n:Nat):List At:=List.replicate n .K
theorem ye:∀a l xs,fit (a++l) (rK a.length++xs)↔fit l xs
 |[],l,xs=>Iff.rfl
 |c::a,l,xs=>ye a l xs
theorem yf:∀a l xs,out (a++l) (rK a.length++xs)=a++out l xs
 |[],l,xs=>rfl
 |c::a,l,xs=>by
  show c::out (a++l) (rK a.length++xs)=_;rw[yf a l xs];rfl
theorem vc:∀(s l:List Nat) (xs:List At),fit l (s.map .P++xs)↔fit l xs
 |[],l,xs=>Iff.rfl
 |c::s,l,xs=>vc s l xs
theorem yg:∀s l xs,out l (s.map .P++xs)=s++out l xs
 |[],l,xs=>rfl
 |c::s,l,xs=>by
  show c::out l (s.map .P++xs)=_;rw[yg s l xs];rfl
theorem Cf:∀s l xs,fit (s++l) (s.map .C++xs)↔fit l xs
 |[],l,xs=>Iff.rfl
 |c::s,l,xs=>by
  show c=c/\fit (s++l) (s.map .C++xs)↔_;rw[Cf s l xs];simp
theorem yh:∀s l xs,out (s++l) (s.map .C++xs)=out l xs
 |[],l,xs=>rfl
 |c::s,l,xs=>yh s l xs
end L2.B
variable {ps other:List L2.B.Pt}{n2 d n1:Nat}{aJ:List (List Nat)}{S p1 p2:PySem.Addr}
namespace L2.B
open PySem PySem.Spec PyProof.Rows
def bP:Pt->List At
 |.keep n=>rK n.toNat
 |.put s=>s.cps.toList.map .P
 |.cut s=>s.cps.toList.map .C
def aL(ps:List Pt):List At:=(ps.map bP).flatten
theorem gi(p:Pt)(ps:List Pt):aL (p::ps)=bP p++aL ps:=rfl
theorem jK(ps qs:List Pt):aL (ps++qs)=aL ps++aL qs:=by simp[aL]
theorem lN(p:Pt):aL [p]=bP p:=by simp[aL]
def gO:Pt->Prop|.keep n=>0<=n|_=>True
theorem XO{p:Pt}(h:iC p):gO p:=by cases p<;>first|exact h|trivial
theorem yi{p:Pt}(h:bO p):gO p:=by
 cases p with
 |keep n=>exact Int.le_trans (by decide) (show(1:Int)<=n from h)
 |_=>trivial
theorem Run.fits{l r:List Nat}(h:Run l ps r):fit l (aL ps)/\out l (aL ps)=r:=by
 induction h with
 |nil=>exact⟨rfl,rfl⟩
 | @keep a l r n ps e _ ih=>
  rw[gi];have e1:bP (.keep n)=rK a.length:=by show rK n.toNat=_;rw[e];simp
  rw[e1];exact⟨(ye a l _).mpr ih.1,by rw[yf,ih.2]⟩
 | @put s l r ps _ ih=>
  rw[gi];exact⟨(vc _ l _).mpr ih.1,by show out l (s.cps.toList.map .P++_)=_;rw[yg,ih.2]⟩
 | @cut s l r ps _ ih=>
  rw[gi];exact⟨(Cf _ l _).mpr ih.1,by show out _ (s.cps.toList.map .C++_)=_;rw[yh,ih.2]⟩
theorem JF:∀(n:Nat) l xs,fit l (rK n++xs)->∃a b,l=a++b/\a.length=n
 | 0,l,xs,h=>⟨[],l,rfl,rfl⟩
 |n+1,[],xs,h=>(show False from h).elim
 |n+1,c::l,xs,h=>by
  obtain⟨a,b,e,hl⟩:=JF n l xs h;exact⟨c::a,b,by rw[e];rfl,by simp[hl]⟩
theorem yj:∀s l xs,fit l (s.map .C++xs)->∃b,l=s++b
 |[],l,xs,h=>⟨l,rfl⟩
 |c::s,[],xs,h=>(show False from h).elim
 |c::s,d::l,xs,h=>by
  obtain⟨e,h⟩:=(show d=c/\fit l (s.map .C++xs) from h)
  obtain⟨b,e2⟩:=yj s l xs h;exact⟨b,by rw[e,e2];rfl⟩
theorem vd:∀ps l,(∀p∈ps,gO p)->fit l (aL ps)->Run l ps (out l<|aL ps)
 |[],l,_,h=>by
  have:l=[]:=h;subst this;exact .nil
 |.keep n::ps,l,hn,h=>by
  rw[gi] at h⊢;obtain⟨a,b,rfl,ha⟩:=JF _ _ _ h;have u_:0<=n:=hn _ (.head _);have e1:bP (.keep n)=rK a.length:=by show rK n.toNat=_;rw[ha]
  rw[e1] at h⊢;rw[yf];exact .keep (by lia)<|vd ps b (fun p hp=>hn p<|.tail _ hp)<|(ye a b _).mp h
 |.put s::ps,l,hn,h=>by
  rw[gi] at h⊢;show Run l _ (out l<|s.cps.toList.map .P++_);rw[yg];exact .put<|vd ps l (fun p hp=>hn p<|.tail _ hp)<|(vc _ l _).mp h
 |.cut s::ps,l,hn,h=>by
  rw[gi] at h⊢;obtain⟨b,rfl⟩:=yj _ _ _ h;show Run _ _ (out _<|s.cps.toList.map .C++_);rw[yh];exact .cut<|vd ps b (fun p hp=>hn p<|.tail _ hp)<|(Cf _ b _).mp h
def ko(s:NS):List At:=aL s.1++((cat s.2.1).cps.toList.map .P++(cat s.2.2).cps.toList.map .C)
theorem JG(mk:Str->Pt)(f:Nat->At)(h:∀s,bP (mk s)=s.cps.toList.map f)(x:Str):aL (txt mk x)=x.cps.toList.map f:=by
 by_cases hx:x=""
 ·rw[hx,txt_nil];rfl
 ·rw[gN hx,lN,h]
theorem JH(ch:List Pt)(p c:List Str):aL (dN ch p c)=ko (ch,p,c):=by
 unfold dN ko;rw[jK,jK,JG .put .P<|fun _=>rfl,JG .cut .C<|fun _=>rfl,zah]
theorem JI(m n:Nat):rK m++rK n=rK (m+n):=by unfold rK;rw[List.replicate_append_replicate]
theorem XQ(ch:List Pt)(n:Int)(hn:0<=n)(h:∀p∈ch,gO p):aL (c7 ch n)=aL ch++rK n.toNat:=by
 unfold c7
 split
 ·rename_i m e
  have hm:Pt.keep m∈ch:=List.mem_of_getLast? e;have XR:0<=m:=h _ hm;have ec:ch=ch.dropLast++[.keep m]:=by
   have jA:ch≠ []:=by intro z;rw[z] at hm;cases hm
   rw[List.getLast?_eq_some_getLast jA] at e;have e':=zao e;rw[<-e',List.dropLast_concat_getLast]
  conv=>rhs;rw[ec]
  rw[jK,jK,lN,lN,zah];show _++rK (n+m).toNat=_++(rK m.toNat++rK n.toNat);rw[JI,show(n+m).toNat=m.toNat+n.toNat by lia]
 ·rw[jK,lN];rfl
theorem JJ{mk:Str->Pt}(h:∀s,gO<|mk s)(x:Str):∀p∈txt mk x,gO p:=by
 intro p hp;unfold txt at hp
 split at hp
 ·cases hp
 ·rw[zad.mp hp];exact h x
theorem JK{ch:List Pt}(p c:List Str)(h:∀p∈ch,gO p):∀q∈dN ch p c,gO q:=by
 intro q hq;unfold dN at hq;rcases zaa.mp hq with z|z
 ·rcases zaa.mp z with z|z
  ·exact h q z
  ·exact JJ (mk:=.put) (fun _=>trivial) _ q z
 ·exact JJ (mk:=.cut) (fun _=>trivial) _ q z
theorem XS{ch:List Pt}{n:Int}(hn:0<=n)(h:∀p∈ch,gO p):∀q∈c7 ch n,gO q:=by
 intro q hq;unfold c7 at hq
 split at hq
 ·rename_i m e
  rcases zaa.mp hq with z|z
  ·exact h q ((List.dropLast_sublist ch).subset z)
  ·rw[zad.mp z];have XR:0<=m:=h _ (List.mem_of_getLast? e);show 0<=n+m;lia
 ·rcases zaa.mp hq with z|z
  ·exact h q z
  ·rw[zad.mp z];exact hn
theorem XT(s:NS)(p:Pt)(hp:gO p)(h:∀q∈s.1,gO q):nb (ko<|dt s p)=nb (ko s++bP p)/\∀q∈ (dt s p).1,gO q:=by
 obtain⟨ch,pu,cu⟩:=s;cases p with
 |put x=>
  refine⟨?_,h⟩;show nb (aL ch++((cat<|pu++[x]).cps.toList.map .P++(cat cu).cps.toList.map .C))=nb (aL ch++((cat pu).cps.toList.map .P++(cat cu).cps.toList.map .C)++x.cps.toList.map .P);rw[oQ,app_list,zam,zah,zah,zah];refine Ce rfl<|Ce rfl ?_;exact(XN _ _).symm
 |cut x=>
  refine⟨?_,h⟩;show nb (aL ch++((cat pu).cps.toList.map .P++(cat<|cu++[x]).cps.toList.map .C))=nb (aL ch++((cat pu).cps.toList.map .P++(cat cu).cps.toList.map .C)++x.cps.toList.map .C);rw[oQ,app_list,zam,zah,zah]
 |keep n=>
  have u_:0<=n:=hp;by_cases hn:0<n
  ·have e:dt (ch,pu,cu) (.keep n)=(c7 (dN ch pu cu) n,[],[]):=if_pos hn;rw[e];refine⟨?_,XS u_<|JK _ _ h⟩;show nb (aL (c7 (dN ch pu cu) n)++[])=nb (ko (ch,pu,cu)++rK n.toNat);rw[zae,XQ _ _ u_<|JK _ _ h,JH]
  ·have e:dt (ch,pu,cu) (.keep n)=(ch,pu,cu):=if_neg hn;rw[e];refine⟨?_,h⟩;show _=nb (ko (ch,pu,cu)++rK n.toNat);rw[show n.toNat=0 by lia]
   show _=nb (_++[]);rw[zae]
theorem JL:∀ps (s:NS),(∀p∈ps,gO p)->(∀q∈s.1,gO q)->nb (ko<|ps.foldl dt s)=nb (ko s++aL ps)
 |[],s,_,_=>by show nb (ko s)=nb (ko s++[]);rw[zae]
 |p::ps,s,h,hs=>by
  obtain⟨a,b⟩:=XT s p (h p<|.head _) hs;show nb (ko<|ps.foldl dt<|dt s p)=_;rw[JL ps _ (fun q hq=>h q<|.tail _ hq) b,gi,<-zah];exact Ce a rfl
theorem JM(ps:List Pt)(h:∀p∈ps,gO p):nb (aL<|nj ps)=nb (aL ps):=by
 unfold nj;have e:=JL ps ([],[],[]) h (fun q hq=>by cases hq)
 generalize ps.foldl dt ([],[],[])=s at e⊢;show nb (aL<|dN s.1 s.2.1 s.2.2)=_;rw[JH];exact e
theorem Cg(h:s≠""):∃c r,s.cps.toList=c::r:=by
 cases e:s.cps.toList with
 |nil=>exact absurd (jG (by rw[e];rfl)) h
 |cons c r=>exact⟨c,r,rfl⟩
noncomputable def JN:List RS:=
 [.gF (.v 0) "parts" (.blt .list [.v 1]),
 .gF (.v 0) "passed_by" (.c<|.int 0),
 .gF (.v 0) "offset" (.c (.int 0))]
noncomputable def JO:List RS:=
 [.ret<|.pT (.cmp .Lt (.fld (.v 0) "passed_by")<|.blt .len [(.fld (.v 0) "parts")]) (.ix (.ix (.fld (.v 0) "parts")<|.fld (.v 0) "passed_by")<|.c<|.int 0)<|.c<|.str ""]
noncomputable def JP:List RS:=
 [.ret<|.bin .Sub (.call 0 [(.ix (.fld (.v 0) "parts")<|.fld (.v 0) "passed_by")])<|.fld (.v 0) "offset"]
def XU:List Str:=["part_size"]
def JQ:List Str:=["self","size","part","begin","end"]
noncomputable def Ci:List RS:=
 [.asg 2 (.ix (.fld (.v 0) "parts") (.fld (.v 0) "passed_by")),
 .asg 3 (.fld (.v 0) "offset"),
 .asg 4 (.bin .Add (.v 3)<|.v 1),
 .gF (.v 0) "offset" (.v 4),
 .ite (.cmp .Eq (.bz 0 "left" (.v 0) []) (.c (.int 0))) [.gF (.v 0) "passed_by" (.bin .Add (.fld (.v 0) "passed_by") (.c (.int 1))),
  .gF (.v 0) "offset" (.c (.int 0))] [],
 .ret (.tup [(.ix (.v 2) (.c (.int 0))),(.pT (.cmp .Eq (.ix (.v 2) (.c (.int 0))) (.c (.str "keep"))) (.v 1) (.sl (.ix (.v 2) (.c (.int 1))) (some (.v 3)) (some (.v 4))))])]
def XW:List Str:=["left"]
def JR:List Str:=["given","text"]
noncomputable def JS:List RS:=
 [.ite (.cmp .Eq (.ix (.v 0) (.c (.int 0))) (.c (.str "keep"))) [.ret (.lst [(.tup [(.c (.str "cut")),.v 1])])] [],
 .ite (.cmp .NotEq (.ix (.v 0)<|.c<|.int 1)<|.v 1) [.jz 0 [(.c<|.str "what the first change puts is cut otherwise")]] [],
 .ret (.lst [])]
def JT:List Str:=["walk","part","parts","place","size","given"]
noncomputable def JU:List RS:=
 [.asg 2 (.lst []),
 .asg 3 (.c<|.int 0),
 .mI (.cmp .Lt (.v 3) (.call 0 [.v 1])) [.ite (.cmp .Eq (.bz 0 "word" (.v 0) []) (.c (.str "cut"))) [.drop (.bh .append (.v 2) [(.bz 1 "take" (.v 0) [(.bz 2 "left" (.v 0) [])])]),
   .cont] [],
  .asg 4 (.blt .min [(.bz 2 "left" (.v 0) []),(.bin .Sub (.call 0 [.v 1])<|.v 3)]),
  .asg 5 (.bz 1 "take" (.v 0) [.v 4]),
  .ite (.cmp .Eq (.ix (.v 1)<|.c<|.int 0)<|.c<|.str "keep") [.drop<|.bh .append (.v 2) [.v 5]] [.drop<|.bh .extend (.v 2) [(.call 1 [.v 5,(.sl (.ix (.v 1)<|.c<|.int 1) (some<|.v 3)<|some<|.bin .Add (.v 3)<|.v 4)])]],
  .asg 3 (.bin .Add (.v 3) (.v 4))],
 .ret (.v 2)]
def XX:List Str:=["part_size","cut_behind"]
def XY:List Str:=["min"]
def JV:List Str:=["word","take","left"]
def JW:List Str:=["one","other","walk","parts","part"]
noncomputable def JX:List RS:=
 [.ite (.cmp .NotEq (.ix (.call 0 [.v 0]) (.c (.int 1))) (.ix (.call 0 [.v 1]) (.c (.int 0)))) [.jz 0 [(.c (.str "the other change is over another number of signs than the first one gives"))]] [],
 .asg 2 (.make 0 [.v 0]),
 .asg 3 (.lst []),
 .j0 4 .list [.v 1] [.ite (.cmp .Eq (.ix (.v 4)<|.c<|.int 0)<|.c<|.str "put") [.drop<|.bh .append (.v 3) [.v 4]] [.drop<|.bh .extend (.v 3) [(.call 1 [.v 2,.v 4])]]],
 .mI (.cmp .NotEq (.bz 0 "word" (.v 2) [])<|.c<|.str "") [.drop<|.bh .append (.v 3) [(.bz 1 "take" (.v 2) [(.bz 2 "left" (.v 2) [])])]],
 .ret (.call 2 [.v 3])]
def XZ:List Str:=["sizes","parts_behind","neat"]
def X0:List Str:=["Walk"]
structure qA (K:Frag) (C:Addr):Prop where
 cl:fY K C
 vf:fP K C "parts"
 qB:fP K C "passed_by"
 vg:fP K C "offset"
theorem nv{k:Str}{r:List (Str×V)}:((k,v)::r).lookup k=some v:=by simp[List.lookup]
theorem dC{k j:Str}{r:List (Str×V)}(h:¬k=j):((j,v)::r).lookup k=r.lookup k:=by
 have:(k==j)=false:=by simpa using h
 simp[List.lookup,this]
theorem Cj{k:Str}{w:V}{r:List (Str×V)}:cf k v ((k,w)::r)=(k,v)::r:=by simp[cf]
theorem e_{k j:Str}{w:V}{r:List (Str×V)}(h:¬j=k):cf k v ((j,w)::r)=(j,w)::cf k v r:=by simp[cf,h]
theorem X1{T:Ty}{P Q:Bool->Prop}(h:bX T v H P)(i:∀b,P b->Q b):bX T v H Q:=by
 cases v with
 |ref a=>
  unfold bX at h⊢
  simp only at h⊢
  split at h
  all_goals first|exact i _ h|exact h.elim
 |az=>exact i _ h
 |bl b=>exact i _ h
 |int _=>exact i _ h
 |str _=>exact i _ h
 |_=>exact False.elim h
theorem X3{T:Ty}{P:Bool->Prop}(h:bX T v H P)(s:aA H H'):bX T v H' P:=by
 cases v with
 |ref a=>
  unfold bX at h⊢
  simp only at h⊢
  cases e:H a with
  |none=>rw[e] at h;exact h.elim
  |some o=>rw[e] at h;rw[s _ _ e];exact h
 |az=>exact h
 |bl b=>exact h
 |int _=>exact h
 |str _=>exact h
 |_=>exact False.elim h
def jm(T:Ty)(v:V)(H:Hp):Prop:=bX T v H fun b=>b=false
theorem jm.same{T:Ty}(h:jm T v H)(s:aA H H'):jm T v H':=X3 h s
theorem jm.go{T:Ty}{Q:Bool->Prop}(h:jm T v H)(q:Q false):bX T v H Q:=X1 h fun b e=>by rw[e];exact q
def X4(x:Str):Bool:=x.cps.toList.all fun c=>SG.cps.contains c
theorem JY{α:Type}(p:α->Bool):∀l:List α,l.all p=false->(l.takeWhile p).length<l.length
 |[],h=>by cases h
 |c::l,h=>by
  rw[List.takeWhile_cons];cases hc:p c with
  |false=>simp
  |true=>
   rw[zbk,hc,Bool.true_and] at h;have:=JY p l h
   simp;lia
theorem X5(x y:Str)(h:(x.cps.toList.all fun c=>y.cps.contains c)=false):Txt.lstripChars x y≠"":=by
 have lt:=JY _ _ h;have e0:stripLo y.cps.contains true x=(x.cps.toList.takeWhile y.cps.contains).length:=by
  unfold stripLo;rw[if_pos rfl]
 have e1:∀n,stripHi y.cps.contains false x n=x.length:=fun n=>rfl;intro z;have z2:=congrArg Str.length z;have l0:(Str.ofString "").length=0:=rfl;rw[l0] at z2;unfold Txt.lstripChars Txt.stripBy stripSame stripped at z2;rw[e0,e1] at z2;have hx:x.cps.size=x.cps.toList.length:=by simp
 split at z2
 ·have:x.cps.size=0:=z2;lia
 ·have z3:(x.cps.extract (x.cps.toList.takeWhile y.cps.contains).length x.cps.size).size=0:=z2;rw[Array.size_extract,Nat.min_self] at z3;have z4:x.cps.size - (List.takeWhile (fun c=>y.cps.contains c) x.cps.toList).length=0:=z3;lia
def vh(v:V)(H:Hp):Prop:=(∃x,v=.str x/\x.length<=1000000/\X4 x=false)\/jm .str v H
theorem vh.same(h:vh v H)(s:aA H H'):vh v H':=by
 rcases h with h|h
 ·exact .inl h
 ·exact .inr (h.same s)
def lO(v:V)(H:Hp):Prop:=(∃b,v=.bl b)\/jm .int v H
theorem lO.same(h:lO v H)(s:aA H H'):lO v H':=by
 rcases h with h|h
 ·exact .inl h
 ·exact .inr (h.same s)
def oT:Sp:=fun vs H Q E=>∃v,vs=[v]/\((∃i,v=.int i/\Q (.bl true) H)\/(lO v H/\Q (.bl false) H))
theorem X6{K:Frag}:bE (oT) (fun E=>aO K [] [] (E:=E)) HD mZ:=by
 intro vs H Q E h;obtain⟨v,rfl,⟨i,rfl,q⟩|⟨⟨b,rfl⟩|hn,q⟩⟩:=h
 ·exact⟨_,rfl,rfl,_,rfl,fF ⟨_,rfl,rfl,q⟩⟩
 ·exact⟨_,rfl,rfl,_,rfl,fF ⟨_,rfl,rfl,q⟩⟩
 ·exact⟨_,rfl,rfl,hn.go ⟨_,rfl,iu q⟩⟩
def JZ:Sp:=fun vs H Q E=>∃v,vs=[v]/\((∃x,v=.str x/\good x/\Q (.bl true) H)\/(vh v H/\Q (.bl false) H))
theorem X7{K:Frag}:bE (JZ) (fun E=>aO K [] gS (E:=E)) BF mZ:=by
 intro vs H Q E h;obtain⟨v,rfl,⟨x,rfl,hx,q⟩|⟨⟨x,rfl,hl,hx⟩|hn,q⟩⟩:=h
 ·exact WK _ _ _ _ ⟨x,rfl,hx,q⟩
 ·refine⟨_,rfl,rfl,_,rfl,fF ⟨_,rfl,rfl,cz hl,?_⟩⟩;show Q (.bl<|false ^^ decide (V.str (Txt.lstripChars x SG)=V.str "")) H;rw[zqF<|fun z=>X5 x SG hx (by injection z)]
  exact q
 ·exact⟨_,rfl,rfl,hn.go ⟨_,rfl,iu q⟩⟩
def J0(K:Frag):Sp:=fun vs H Q E=>∃v p xs,vs=[v,.ref p]/\aM K H p xs/\xs.all gZ=true/\((∃w,v=.str w/\Q (.bl<|dm (.str w) xs) H)\/(jm .str v H/\Q (.bl false) H))
theorem X8{K:Frag}:bE (J0 K) (fun E=>aO K [] [] (E:=E)) BE BD:=by
 intro vs H Q E h;obtain⟨v,p,xs,rfl,hp,hf,⟨w,rfl,q⟩|⟨hn,q⟩⟩:=h
 ·exact WM _ _ _ _ ⟨w,p,xs,rfl,hp,hf,q⟩
 ·exact⟨_,rfl,rfl,hn.go ⟨_,rfl,iu q⟩⟩
def X9(v:V)(H:Hp):Prop:=jm .tuple v H\/∃a xs,v=.ref a/\H a=some (.tup xs)/\xs.length<=1000000/\(xs.length≠2\/∃w t,xs=[w,t]/\
 (jm .str w H\/(∃s,w=.str s/\s≠"keep"/\s≠"cut"/\s≠"put")\/(w=.str "keep"/\(lO t H\/∃n,t=.int n/\n<1))\/((w=.str "cut"\/w=.str "put")/\(vh t H\/t=.str ""))))
abbrev yk(K:Frag):List (Str×Sp):=[("is_word",J0 K),("is_whole",oT),("is_text",JZ)]
def J3:Sp:=fun vs H Q E=>∃v,vs=[v]/\((∃p,jF H v p/\bO p/\∀H',aA H H'->Q (.bl true) H')\/(X9 v H/\∀H',aA H H'->Q (.bl false) H'))
theorem J4(s t:Str):dm (.str s) [.str t]=(t==s):=by
 unfold dm;show(e9 (.str t) (.str s)||false)=_;rw[zbj];rfl
theorem X_{K:Frag}:bE (J3) (fun E=>aO K (yk K) [] (E:=E)) xR mZ:=by
 intro vs H Q E h;have two:∀a w t Q1 H1 σ,σ[0]?=some (some<|.ref a)->H1 a=some (.tup [w,t])->
   (∀(tt:Addr) H2,aA H1 H2->∀b:Bool,(b=true->w=.str "cut"\/w=.str "put")->(b=false->w≠ .str "cut"/\w≠ .str "put")->Q1 (.bl b) H2)->(jm .str w H1\/∃s,w=.str s)->
   ah (aO K (yk K) [] (E:=E)) (.call 0 [(.ix (.v 0)<|.c<|.int 0),(.tup [(.c<|.str "cut"),(.c<|.str "put")])]) σ H1 Q1:=by
  intro a w t Q1 H1 σ h0 ha q hw;refine⟨_,h0,.inr<|.inl ⟨_,_,_,_,rfl,rfl,aM.of ha,rfl,eJ,fun t ht=>?_⟩⟩;have s2:=sameNew (o:=.tup [V.str "cut",V.str "put"]) ht;refine⟨w,t,_,rfl,aM.of ax,rfl,?_⟩;rcases hw with hw|⟨s,rfl⟩
  ·refine .inr ⟨hw.same s2,q t _ s2 false (fun z=>by cases z) fun _=>⟨?_,?_⟩⟩
   ·rintro rfl;cases (show true=false from hw)
   ·rintro rfl;cases (show true=false from hw)
  ·refine .inl ⟨s,rfl,q t _ s2 _ (fun z=>?_) fun z=>?_⟩
   ·have z':((Str.ofString "cut"==s)||((Str.ofString "put"==s)||false))=true:=z
    simp only[zbj,Bool.or_eq_true,beq_iff_eq] at z'
    rcases z' with z'|z'<;>subst z'
    ·exact .inl rfl
    ·exact .inr rfl
   ·have z':((Str.ofString "cut"==s)||((Str.ofString "put"==s)||false))=false:=z
    simp only[zbj,Bool.or_eq_false_iff,beq_eq_false_iff_ne] at z'
    exact⟨fun y=>z'.1 (by injection y with y;exact y.symm),fun y=>z'.2 (by injection y with y;exact y.symm)⟩
 obtain⟨v,rfl,⟨p,⟨a,rfl,ha⟩,hp,q⟩|⟨hn|⟨a,xs,rfl,ha,hl,hb⟩,q⟩⟩:=h
 ·refine⟨_,rfl,rfl,IU ha ⟨_,rfl,.inr ⟨_,aM.of ha,_,rfl,?_⟩⟩⟩;refine⟨_,rfl,.inr<|.inl ⟨_,_,_,_,rfl,rfl,aM.of ha,rfl,dw,fun t1 vi=>?_⟩⟩;have s1:=sameNew (o:=.tup [V.str "keep"]) vi;refine⟨.str p.word,t1,[.str "keep"],rfl,aM.of ax,rfl,.inl ⟨p.word,rfl,?_⟩⟩;have jL:=s1 _ _ ha;generalize upd H t1 (.tup [V.str "keep"])=H1 at s1 jL;have fin:∀s,good s->s≠""->H1 a=some (.tup [.str p.word,.str s])->p.word="put"\/p.word="cut"->ay (aO K (yk K) [] (E:=E)) (xR.drop 2) (Dn Q) (start mZ [.ref a]) H1:=by
   intro s gs ns hs hw;refine two a (.str p.word) (.str s) _ H1 _ rfl hs (fun tt H2 s2 b sS yl=>?_)<|.inr ⟨_,rfl⟩;have eb:b=true:=by
    cases b with
    |true=>rfl
    |false=>
     obtain⟨z1,z2⟩:=yl rfl;rcases hw with z|z
     ·exact absurd (congrArg V.str z) z2
     ·exact absurd (congrArg V.str z) z1
   subst eb;have qC:=s2 _ _ hs;refine⟨_,rfl,fF ⟨_,rfl,.inr<|.inl ⟨_,_,_,_,rfl,rfl,aM.of qC,rfl,.str s,rfl,.inl ⟨s,rfl,gs,_,rfl,?_⟩⟩⟩⟩;refine fF ⟨_,rfl,.inr<|.inl ⟨_,_,_,_,rfl,rfl,aM.of qC,rfl,?_⟩⟩;show Q (.bl<|true ^^ decide (V.str s=V.str "")) _;rw[zqF<|fun z=>ns (by injection z)]
   exact q _<|s1.trans s2
  cases p with
  |keep n=>
   rw[show dm (.str (Pt.keep n).word) [.str "keep"]=true by show dm (.str "keep") [.str "keep"]=true;decide]
   refine⟨_,rfl,.inr<|.inl ⟨_,_,_,_,rfl,rfl,aM.of jL,rfl,.int n,rfl,.inl ⟨n,rfl,_,rfl,?_⟩⟩⟩;refine fF ⟨_,rfl,.inr<|.inl ⟨_,_,_,_,rfl,rfl,aM.of jL,rfl,trivial,?_⟩⟩;show Q (.bl<|decide<|1<=n) H1;rw[zqT (show(1:Int)<=n from hp)]
   exact q _ s1
  |put s=>
   rw[show dm (.str (Pt.put s).word) [.str "keep"]=false by show dm (.str "put") [.str "keep"]=false;decide]
   exact fin s hp.1 hp.2 jL<|.inl rfl
  |cut s=>
   rw[show dm (.str (Pt.cut s).word) [.str "keep"]=false by show dm (.str "cut") [.str "keep"]=false;decide]
   exact fin s hp.1 hp.2 jL<|.inr rfl
 ·exact⟨_,rfl,rfl,hn.go<|q _<|aA.refl _⟩
 ·refine⟨_,rfl,rfl,IU ha ⟨_,rfl,.inr ⟨_,aM.of ha,_,rfl,?_⟩⟩⟩;show if (true ^^ decide (V.int (xs.length:Int)=V.int 2))=true then _ else _
  rcases hb with hb|⟨w,t,rfl,hb⟩
  ·rw[zqF<|fun z=>hb (by injection z with z;lia)]
   exact q _<|aA.refl _
  ·refine⟨_,rfl,.inr<|.inl ⟨_,_,_,_,rfl,rfl,aM.of ha,rfl,dw,fun t1 vi=>?_⟩⟩;have s1:=sameNew (o:=.tup [V.str "keep"]) vi;refine⟨w,t1,[.str "keep"],rfl,aM.of ax,rfl,?_⟩;have jL:=s1 _ _ ha;generalize upd H t1 (.tup [V.str "keep"])=H1 at s1 jL;have no:(jm .str w H1\/∃s,w=.str s)->w≠ .str "cut"->w≠ .str "put"->ay (aO K (yk K) [] (E:=E)) (xR.drop 2) (Dn Q) (start mZ [.ref a]) H1:=by
    intro hw n1 n2;refine two a w t _ H1 _ rfl jL (fun tt H2 s2 b sS yl=>?_) hw;have eb:b=false:=by
     cases b with
     |false=>rfl
     |true=>rcases sS rfl with z|z;exact absurd z n1;exact absurd z n2
    subst eb;exact⟨_,rfl,iu<|q _<|s1.trans s2⟩
   rcases hb with hb|⟨s,rfl,n0,n1,n2⟩|⟨rfl,hb⟩|⟨hw,hb⟩
   ·refine .inr ⟨hb.same s1,no (.inl<|hb.same s1) ?_ ?_⟩
    ·rintro rfl;cases (show true=false from hb)
    ·rintro rfl;cases (show true=false from hb)
   ·refine .inl ⟨s,rfl,?_⟩;rw[J4,beq_eq_false_iff_ne.mpr<|Ne.symm n0];exact no (.inr ⟨s,rfl⟩) (fun z=>n1 (by injection z))<|fun z=>n2 (by injection z)
   ·refine .inl ⟨_,rfl,?_⟩;rw[show dm (.str "keep") [.str "keep"]=true by decide]
    refine⟨_,rfl,.inr<|.inl ⟨_,_,_,_,rfl,rfl,aM.of jL,rfl,t,rfl,?_⟩⟩;rcases hb with hb|⟨n,rfl,hn⟩
    ·exact .inr ⟨hb.same s1,_,rfl,iu<|q _ s1⟩
    ·refine .inl ⟨n,rfl,_,rfl,fF ⟨_,rfl,.inr<|.inl ⟨_,_,_,_,rfl,rfl,aM.of jL,rfl,trivial,?_⟩⟩⟩;show Q (.bl<|decide<|1<=n) H1;rw[zqF (by lia)]
     exact q _ s1
   ·have Ya:∃s,w=.str s/\(Str.ofString "keep"==s)=false:=by
     rcases hw with rfl|rfl
     ·exact⟨_,rfl,by decide⟩
     ·exact⟨_,rfl,by decide⟩
    obtain⟨s,rfl,hk⟩:=Ya;refine .inl ⟨s,rfl,?_⟩;rw[J4,hk];refine two a (.str s) t _ H1 _ rfl jL (fun tt H2 s2 b sS yl=>?_)<|.inr ⟨s,rfl⟩;have eb:b=true:=by
     cases b with
     |true=>rfl
     |false=>
      obtain⟨z1,z2⟩:=yl rfl;rcases hw with z|z
      ·exact absurd z z1
      ·exact absurd z z2
    subst eb;have nz:=s2 _ _ jL;refine⟨_,rfl,fF ⟨_,rfl,.inr<|.inl ⟨_,_,_,_,rfl,rfl,aM.of nz,rfl,t,rfl,?_⟩⟩⟩;rcases hb with hb|rfl
    ·exact .inr ⟨hb.same<|s1.trans s2,_,rfl,iu<|q _<|s1.trans s2⟩
    ·refine .inl ⟨_,rfl,⟨by decide,fun c hc=>by cases hc⟩,_,rfl,fF ⟨_,rfl,.inr<|.inl ⟨_,_,_,_,rfl,rfl,aM.of nz,rfl,?_⟩⟩⟩
     exact q _<|s1.trans s2
theorem Yb{vs:List V}{E:XK}(h:BZ vs H Q E):J3 vs H Q E:=by
 obtain⟨v,p,rfl,hp,ho,q⟩:=h;exact⟨_,rfl,.inl ⟨p,hp,ho,q⟩⟩
def sT(a b:Sp):Sp:=fun vs H Q E=>a vs H Q E\/b vs H Q E
end L2.B
namespace L2
open PySem PySem.Spec PyProof.Rows
section
variable {Γ:bx}{D:Ends}{σ:St}{H:Hp}{r:List RS}{Q:VK}{QA:List V->Hp->Prop}{QT:Bool->Hp->Prop}
theorem ae(h:σ[i]?=some (some v))(q:Q v H):ah Γ (.v i) σ H Q:=⟨_,h,q⟩
theorem au(q:Q v H):ah Γ (.c v) σ H Q:=q
theorem ym(q:Q (Γ.gv j) H):ah Γ (.g j) σ H Q:=q
theorem aK{op:Operator}{a b:RE}(h:ah Γ a σ H fun x H1=>ah Γ b σ H1 fun y H2=>rQ Γ.K op x y H2 Q):ah Γ (.bin op a b) σ H Q:=h
theorem vj{op:CmpOp}{a b:RE}(h:ah Γ a σ H fun x H1=>ah Γ b σ H1 fun y H2=>dG Γ.K op x y H2 Q):ah Γ (.cmp op a b) σ H Q:=h
theorem bD{a b:RE}(h:ah Γ a σ H fun x H1=>ah Γ b σ H1 fun y H2=>lA Γ.K Γ.sd x y H2 Q):ah Γ (.ix a b) σ H Q:=h
theorem Yc(h:aY Γ as σ H fun vs H1=>Γ.fs j (vs++[]) H1 Q Γ.E):ah Γ (.call j as) σ H Q:=h
theorem bZ(sp:Sp)(hs:Γ.fs j=sp)(h:aY Γ as σ H fun vs H1=>sp vs H1 Q Γ.E):ah Γ (.call j as) σ H Q:=by
 subst hs;refine Yc ?_;have e:(fun(vs:List V) (H1:Hp)=>Γ.fs j (vs++[]) H1 Q Γ.E)=fun vs H1=>Γ.fs j vs H1 Q Γ.E:=by
  funext vs H1;rw[zae]
 rw[e];exact h
theorem yn{b:mH}(h:aY Γ as σ H fun vs H1=>mJ Γ.K b vs H1 Q):ah Γ (.blt b as) σ H Q:=h
theorem kq(h:aY Γ as σ H fun xs H1=>xs.length<=sizeLine/\∀p,H1 p=none->Q (.ref p) (upd H1 p<|.tup xs)):ah Γ (.tup as) σ H Q:=h
theorem cm(h:aY Γ as σ H fun xs H1=>xs.length<=sizeLine/\∀p,H1 p=none->Q (.ref p) (upd H1 p<|.lst xs)):ah Γ (.lst as) σ H Q:=h
theorem yo{a c:RE}(h:ah Γ a σ H fun x H1=>ah Γ c σ H1 fun y H2=>rR Γ.K [x,y] H2 Q):ah Γ (.iP a c) σ H Q:=h
theorem Yd{a c:RE}(h:ah Γ a σ H fun x H1=>ah Γ c σ H1 fun y H2=>rR Γ.K [x,y] H2 fun z H3=>j6 Γ.K z H3 fun b=>QT b H3):bA Γ (.iP a c) σ H QT:=h
theorem aE(q:QA [] H):aY Γ [] σ H QA:=q
theorem aq{a:RE}(h:ah Γ a σ H fun x H1=>aY Γ as σ H1 fun xs H2=>QA (x::xs) H2):aY Γ (a::as) σ H QA:=h
theorem bc(h:ah Γ e σ H fun x H1=>ay Γ r D (σ.set i<|some x) H1):ay Γ (.asg i e::r) D σ H:=h
theorem bN(h:ah Γ e σ H fun _ H1=>ay Γ r D σ H1):ay Γ (.drop e::r) D σ H:=h
theorem bI(h:ah Γ e σ H D.rt):ay Γ (.ret e::r) D σ H:=h
end
end L2
namespace L2.B
open PySem PySem.Spec PyProof.Rows
structure vk (K:Frag) (cs:List Addr) (cU:Addr) (D:Addr) (j:Nat):Prop where
 cls:uw K D
 yp:∀i c,cs[i]?=some c->kitOne K (.ref D) (.ref c)=some (decide<|i=j)
 cU:kitOne K (.ref D) (.ref cU)=some true
 val:kitOne K (.ref D) (.type "ValueError")=some true
theorem _root_.L2.ExcAt.same{ea D:Addr}(h:ExcAt H ea D)(s:aA H H'):ExcAt H' ea D:=ExcAt.keeps h fun b o u e=>s b _ e
theorem Paired.app{α β:Type}{R:α->β->Prop}:∀{xs bB:List α}{ys dA:List β},Paired R xs ys->Paired R bB dA->Paired R (xs++bB) (ys++dA)
 |_,_,_,_,.nil,s=>s
 |_,_,_,_,.cons r t,s=>.cons r (Paired.app t s)
theorem Ye{ea D:Addr}{n:String}{b:Bool}{Q:Bool->Hp->Prop}(h0:σ[i]?=some (some<|.ref ea))(he:ExcAt H ea D)(hc:uw Γ.K D)(hk:kitOne Γ.K (.ref D) (.type n)=some b)(q:Q b H):bA Γ (.iP (.v i)<|.c<|.ty n) σ H Q:=
 Yd (ae h0<|au ⟨D,b,he,hc,.inr ⟨_,rfl⟩,hk,q⟩)
theorem Run.good{l r:List Nat}(h:Run l ps r)(hl:∀c∈l,SG.cps.contains c=true)(hp:∀p∈ps,km p):∀c∈r,SG.cps.contains c=true:=by
 induction h with
 |nil=>exact hl
 |keep e _ ih=>
  intro c hc;rcases zaa.mp hc with z|z
  ·exact hl c (zaa.mpr<|.inl z)
  ·exact ih (fun d hd=>hl d<|zaa.mpr<|.inr hd) (fun p h=>hp p<|.tail _ h) c z
 |put _ ih=>
  intro c hc;rcases zaa.mp hc with z|z
  ·exact(hp _ (.head _):sg _) c z
  ·exact ih hl (fun p h=>hp p<|.tail _ h) c z
 |cut _ ih=>exact ih (fun d hd=>hl d<|zaa.mpr<|.inr hd) (fun p h=>hp p<|.tail _ h)
theorem Ck{x:Str}(k:Nat)(n:Int)(m:Nat)(hn:n=m):lh x (some (k:Int)) (some<|(k:Int)+n)=⟨((x.cps.toList.drop k).take m).toArray⟩:=by
 have e1:(k:Int)+n=((k+m:Nat):Int):=by rw[hn];simp
 unfold lh mF;rw[e1,HT.nX,HT.nX]
 congr 1
 by_cases h:k<=x.cps.toList.length
 ·rw[show min k x.cps.toList.length=k by lia]
  by_cases h2:k+m<=x.cps.toList.length
  ·rw[show min (k+m) x.cps.toList.length=k+m by lia,Nat.add_sub_cancel_left]
  ·rw[show min (k+m) x.cps.toList.length=x.cps.toList.length by lia,zaG (by rw[zaB];lia),zaG (by rw[zaB];lia)]
 ·rw[show min k x.cps.toList.length=x.cps.toList.length by lia,zbX,zbY (by lia),zbH,zbH]
def yq:Sp:=fun vs H Q E=>∃x a xs ps r,vs=[.str x,.ref a]/\good x/\H a=some (.lst xs)/\aX H xs ps/\(∀p∈ps,BX p)/\Run x.cps.toList ps r/\r.length<=1000000/\Q (.str ⟨r.toArray⟩) H
def bq:Pt->Nat|.keep n=>n.toNat|.put s=>s.length|.cut s=>s.length
def cw:Pt->Nat->Pt
 |.keep n,o=>.keep (n - o)
 |.put s,o=>.put ⟨(s.cps.toList.drop o).toArray⟩
 |.cut s,o=>.cut ⟨(s.cps.toList.drop o).toArray⟩
def cx:Pt->Nat->Pt
 |.keep _,o=>.keep o
 |.put s,o=>.put ⟨(s.cps.toList.take o).toArray⟩
 |.cut s,o=>.cut ⟨(s.cps.toList.take o).toArray⟩
theorem J5(p:Pt)(o:Nat):(cw p o).word=p.word:=by cases p<;>rfl
theorem Yf(p:Pt)(o:Nat):(cx p o).word=p.word:=by cases p<;>rfl
theorem sU{p:Pt}(h:bO p):sG p=(bq p:Int)/\1<=bq p:=by
 cases p with
 |keep n=>
  have h1:(1:Int)<=n:=h;exact⟨by show n=(n.toNat:Int);lia,by show 1<=n.toNat;lia⟩
 |put s=>
  obtain⟨c,r,e⟩:=Cg h.2;exact⟨rfl,by show 1<=s.length;rw[len_list,e];simp⟩
 |cut s=>
  obtain⟨c,r,e⟩:=Cg h.2;exact⟨rfl,by show 1<=s.length;rw[len_list,e];simp⟩
theorem jM(l:List Nat):(⟨l.toArray⟩:Str).length=l.length:=by rw[len_list]
theorem lQ(p:Pt)(o:Nat)(h:o<=bq p):bq (cw p o)=bq p - o:=by
 cases p with
 |keep n=>
  have h':o<=n.toNat:=h;show(n - (o:Int)).toNat=n.toNat - o;lia
 |put s=>show(⟨(s.cps.toList.drop o).toArray⟩:Str).length=s.length - o;rw[jM,zaB,<-len_list]
 |cut s=>show(⟨(s.cps.toList.drop o).toArray⟩:Str).length=s.length - o;rw[jM,zaB,<-len_list]
theorem Cm(p:Pt)(o:Nat)(h:o<=bq p):bq (cx p o)=o:=by
 cases p with
 |keep n=>show((o:Int)).toNat=o;lia
 |put s=>
  have h':o<=s.length:=h;rw[len_list] at h';show(⟨(s.cps.toList.take o).toArray⟩:Str).length=o;rw[jM,zaE];lia
 |cut s=>
  have h':o<=s.length:=h;rw[len_list] at h';show(⟨(s.cps.toList.take o).toArray⟩:Str).length=o;rw[jM,zaE];lia
theorem drop_zero(p:Pt):cw p 0=p:=by
 cases p with
 |keep n=>show Pt.keep (n - ((0:Nat):Int))=_;rw[show n - ((0:Nat):Int)=n by lia]
 |put s=>show Pt.put ⟨(s.cps.toList.drop 0).toArray⟩=_;rw[zbn,yc]
 |cut s=>show Pt.cut ⟨(s.cps.toList.drop 0).toArray⟩=_;rw[zbn,yc]
theorem drop_drop(p:Pt)(a b:Nat):cw (cw p a) b=cw p (a+b):=by
 cases p with
 |keep n=>show Pt.keep (n - (a:Int) - (b:Int))=Pt.keep (n - ((a+b:Nat):Int));congr 1;lia
 |put s=>show Pt.put ⟨((s.cps.toList.drop a).drop b).toArray⟩=Pt.put ⟨(s.cps.toList.drop<|a+b).toArray⟩;rw[List.drop_drop]
 |cut s=>show Pt.cut ⟨((s.cps.toList.drop a).drop b).toArray⟩=Pt.cut ⟨(s.cps.toList.drop<|a+b).toArray⟩;rw[List.drop_drop]
theorem take_all(p:Pt)(h:gO p):cx p (bq p)=p:=by
 cases p with
 |keep n=>
  have h':0<=n:=h;show Pt.keep ((n.toNat:Nat):Int)=_;rw[show((n.toNat:Nat):Int)=n by lia]
 |put s=>show Pt.put ⟨(s.cps.toList.take s.length).toArray⟩=_;rw[len_list,zbA,yc]
 |cut s=>show Pt.cut ⟨(s.cps.toList.take s.length).toArray⟩=_;rw[len_list,zbA,yc]
theorem yr(p:Pt)(o:Nat)(h:o<=bq p):bP p=bP (cx p o)++bP (cw p o):=by
 cases p with
 |keep n=>
  have h':o<=n.toNat:=h;show rK n.toNat=rK ((o:Nat):Int).toNat++rK (n - (o:Int)).toNat;rw[JI];congr 1;lia
 |put s=>
  show s.cps.toList.map At.P=(s.cps.toList.take o).map At.P++(s.cps.toList.drop o).map At.P;rw[<-zam,zbF]
 |cut s=>
  show s.cps.toList.map At.C=(s.cps.toList.take o).map At.C++(s.cps.toList.drop o).map At.C;rw[<-zam,zbF]
theorem yt(h:good s)(l:List Nat)(hl:l.length<=s.length)(hm:∀c∈l,c∈s.cps.toList):good ⟨l.toArray⟩:=
 ⟨by rw[jM];exact zay hl h.1,fun c hc=>h.2 c<|hm c hc⟩
theorem yu{l:List Nat}(h:l≠ []):(⟨l.toArray⟩:Str)≠"":=fun z=>h (by have:=congrArg (fun s=>s.cps.toList) z;exact this)
theorem Cn{p:Pt}{o:Nat}(h:bO p)(ho:o<bq p):bO (cw p o):=by
 cases p with
 |keep n=>
  have h':o<n.toNat:=ho;show(1:Int)<=n - (o:Int);lia
 |put s=>
  have h':o<s.cps.toList.length:=by rw[<-len_list];exact ho
  exact⟨yt h.1 _ (by rw[zaB,<-len_list];lia) fun c hc=>zbI hc,yu (by intro z;have:=congrArg List.length z;rw[zaB] at this;have t2:s.cps.toList.length - o=0:=this;lia)⟩
 |cut s=>
  have h':o<s.cps.toList.length:=by rw[<-len_list];exact ho
  exact⟨yt h.1 _ (by rw[zaB,<-len_list];lia) fun c hc=>zbI hc,yu (by intro z;have:=congrArg List.length z;rw[zaB] at this;have t2:s.cps.toList.length - o=0:=this;lia)⟩
theorem J6{p:Pt}{o:Nat}(h:bO p)(ho:1<=o)(h1:o<=bq p):bO (cx p o):=by
 cases p with
 |keep n=>show(1:Int)<= (o:Int);lia
 |put s=>
  have h':o<=s.cps.toList.length:=by rw[<-len_list];exact h1
  exact⟨yt h.1 _ (by rw[zaE,<-len_list];lia) fun c hc=>zcl hc,yu (by intro z;have:=congrArg List.length z;rw[zaE] at this;have t2:min o s.cps.toList.length=0:=this;lia)⟩
 |cut s=>
  have h':o<=s.cps.toList.length:=by rw[<-len_list];exact h1
  exact⟨yt h.1 _ (by rw[zaE,<-len_list];lia) fun c hc=>zcl hc,yu (by intro z;have:=congrArg List.length z;rw[zaE] at this;have t2:min o s.cps.toList.length=0:=this;lia)⟩
def wf(L:Addr)(i o:Int):List (Str×V):=[("parts",.ref L),("passed_by",.int i),("offset",.int o)]
theorem yv{i o:Int}:(wf L i o).lookup ("parts":Str)=some (.ref L):=nv
theorem vm{i o:Int}:(wf L i o).lookup ("passed_by":Str)=some (.int i):=(dC (by decide+kernel)).trans nv
theorem J7{i o:Int}:(wf L i o).lookup ("offset":Str)=some (.int o):=(dC (by decide+kernel)).trans ((dC (by decide+kernel)).trans nv)
theorem yw{i o:Int}{m:Str}(h1:¬m="parts")(h2:¬m="passed_by")(h3:¬m="offset"):(wf L i o).lookup m=none:=(dC h1).trans ((dC h2).trans<|(dC h3).trans rfl)
theorem J8{i o k:Int}:cf "offset" (.int k) (wf L i o)=wf L i k:=by
 unfold wf;rw[e_ (by decide+kernel),e_ (by decide+kernel),Cj]
theorem Yg{i o k:Int}:cf "passed_by" (.int k) (wf L i o)=wf L k o:=by
 unfold wf;rw[e_ (by decide+kernel),Cj]
theorem Yh:cf "offset" (.int 0) (cf "passed_by" (.int 0)<|cf "parts" (.ref L) [])=wf L 0 0:=by
 have e1:cf "parts" (V.ref L) []=[(("parts":Str),V.ref L)]:=rfl;rw[e1,e_ (by decide+kernel)]
 have e2:cf "passed_by" (V.int 0) []=[(("passed_by":Str),V.int 0)]:=rfl;rw[e2,e_ (by decide+kernel),e_ (by decide+kernel)]
 rfl
def cL(C:Addr)(H:Hp)(w L:Addr)(rs:List Pt):Prop:= ∃(dx:Addr) (xs:List V) (ps:List Pt) (i o:Nat),H w=some (.ins C dx<|wf L i o)/\H L=some (.lst xs)/\aX H xs ps/\(∀p∈ps,bO p)/\ps.length<=100000/\
 ((ps.drop i=[]/\rs=[])\/∃p t,ps.drop i=p::t/\o<bq p/\rs=cw p o::t)
theorem cL.keep{w:Addr}{rs:List Pt}(h:cL C H w L rs)(k:∀b o,H b=some o->b=w\/b=L\/(∃xs,o=.tup xs)->H' b=some o):cL C H' w L rs:=by
 obtain⟨dx,xs,ps,i,o,h1,h2,h3,h4⟩:=h;exact⟨dx,xs,ps,i,o,k _ _ h1<|.inl rfl,k _ _ h2<|.inr<|.inl rfl,h3.mono fun b ys e=>k _ _ e (.inr<|.inr ⟨ys,rfl⟩),h4⟩
theorem cL.same{w:Addr}{rs:List Pt}(h:cL C H w L rs)(s:aA H H'):cL C H' w L rs:=h.keep fun b o e _=>s b o e
theorem cL.but{w c:Addr}{rs:List Pt}(h:cL C H w L rs)(b:aP c H H')(hc:H c=some (.lst xs))(hn:c≠L):cL C H' w L rs:=by
 refine h.keep fun d o e z=>b d o e ?_;obtain⟨dx,_,_,_,_,h1,_⟩:=h;rcases z with rfl|rfl|⟨ys,rfl⟩
 ·exact jr h1 hc (by intro z;cases z)
 ·exact hn.symm
 ·exact jr e hc (by intro z;cases z)
theorem cL.ok{w:Addr}{rs:List Pt}(h:cL C H w L rs):∀p∈rs,bO p:=by
 obtain⟨dx,xs,ps,i,o,h1,h2,h3,h4,h5,⟨_,rfl⟩|⟨p,t,e,ho,rfl⟩⟩:=h
 ·intro p hp;cases hp
 ·have hm:∀q∈p::t,bO q:=fun q hq=>h4 q (zbI (by rw[e];exact hq))
  intro q hq;rcases zac.mp hq with rfl|hq
  ·exact Cn (hm p<|.head _) ho
  ·exact hm q (.tail _ hq)
def Co:List Pt->Str
 |[]=> ""
 |p::_=>p.word
def yx(C:Addr):Sp:=fun vs H Q E=>∃w dx a xs ps,vs=[.ref w,.ref a]/\H w=some (.ins C dx [])/\H a=some (.lst xs)/\aX H xs ps/\(∀p∈ps,bO p)/\ps.length<=100000/\
 ∀L H',H L=none->L≠w->aP w H H'->cL C H' w L ps->Q .az H'
theorem Yi{K:Frag}(T:qA K C):bE (yx C) (fun E=>aO K [] [] (E:=E)) JN xV:=by
 intro vs H Q E h;obtain⟨w,dx,a,xs,ps,rfl,hw,ha,cZ,aB,hl,k⟩:=h;refine⟨_,rfl,xs,.inl<|av.of ha,fun L hL=>?_⟩;have nw:w≠L:=bQ hw hL;refine⟨_,rfl,w,C,dx,[],rfl,(by rw[aI nw];exact hw),T.cl,T.vf,(by show 0<1000;decide),?_⟩
 refine⟨_,rfl,w,C,dx,_,rfl,ax,T.cl,T.qB,(by show 1<1000;decide),?_⟩
 refine⟨_,rfl,w,C,dx,_,rfl,ax,T.cl,T.vg,(by show 2<1000;decide),?_⟩
 rw[vW,vW];have b:aP w H (upd (upd H L<|.lst xs) w<|.ins C dx<|cf "offset" (.int 0)<|cf "passed_by" (.int 0)<|cf "parts" (.ref L) []):=fun c o e n=>by rw[aI n,aI<|bQ e hL];exact e
 refine k L _ hL nw.symm b ⟨dx,xs,ps,0,0,?_,?_,cZ.mono ?_,aB,hl,?_⟩
 ·rw[ax,Yh];rfl
 ·rw[aI nw.symm,ax]
 ·intro c ys e;exact b c _ e<|jr e hw (by intro z;cases z)
 ·cases ps with
  |nil=>exact .inl ⟨rfl,rfl⟩
  |cons p t=>exact .inr ⟨p,t,rfl,(sU<|aB p<|.head _).2,by rw[drop_zero]⟩
theorem Cp{p:Pt}{t:List Pt}(h:ps.drop i=p::t):ps[i]?=some p/\ps.drop (i+1)=t/\i<ps.length:=by
 have hl:i<ps.length:=by
  rcases Nat.lt_or_ge i ps.length with z|z
  ·exact z
  ·rw[zbY z] at h;cases h
 refine⟨?_,?_,hl⟩
 ·have:=congrArg List.head? h;rw[List.head?_drop] at this
  simpa using this
 ·rw[<-List.drop_drop,h];rfl
theorem aX.at{p:Pt}(h:aX H xs ps)(e:ps[i]?=some p):∃a,xs[i]?=some (.ref a)/\H a=some (.tup [.str p.word,p.val]):=by
 have hl:=Paired.length h;have hi:i<xs.length:=by rw[hl];exact(zal.mp e).1
 obtain⟨q,hq,a,ea,ha⟩:=h.get (i:=i) (v:=xs[i]) (by simp[hi])
 rw[e] at hq;cases hq;exact⟨a,by rw[<-ea];simp[hi],ha⟩
def qD(C:Addr):Sp:=fun vs H Q E=>∃w L rs,vs=[.ref w]/\cL C H w L rs/\Q (.str<|Co rs) H
theorem Yj{K:Frag}(T:qA K C):bE (qD C) (fun E=>aO K [] [] (E:=E)) JO lL:=by
 intro vs H Q E h;obtain⟨w,L,rs,rfl,⟨dx,xs,ps,i,o,h1,h2,h3,h4,h5,h6⟩,q⟩:=h;have hl:=Paired.length h3;refine⟨_,rfl,w,C,dx,_,_,rfl,h1,T.cl,T.qB,vm,_,rfl,w,C,dx,_,_,rfl,h1,T.cl,T.vf,yv,.inl ⟨_,av.of h2,trivial,_,rfl,?_⟩⟩;rcases h6 with⟨e,rfl⟩|⟨p,t,e,ho,rfl⟩
 ·have:ps.length<=i:=by
   rcases Nat.lt_or_ge i ps.length with z|z
   ·rw[zbr z] at e;cases e
   ·exact z
  exact iF q<|zqF (by lia)
 ·obtain⟨e1,e2,e3⟩:=Cp e;obtain⟨a,ea,ha⟩:=h3.at e1;refine iT ?_<|zqT (by lia)
  refine⟨_,rfl,w,C,dx,_,_,rfl,h1,T.cl,T.vf,yv,_,rfl,w,C,dx,_,_,rfl,h1,T.cl,T.qB,vm,.inl ⟨_,_,_,_,rfl,rfl,av.of h2,cB ea,?_⟩⟩;refine .inr<|.inl ⟨_,_,_,_,rfl,rfl,aM.of ha,rfl,?_⟩;rw[show Co (cw p o::t)=p.word from J5 p o] at q
  exact q
def yy(C:Addr):Sp:=fun vs H Q E=>∃(w L dx:Addr) (xs:List V) (ps:List Pt) (i o:Nat) (p:Pt),vs=[.ref w]/\H w=some (.ins C dx<|wf L i o)/\H L=some (.lst xs)/\aX H xs ps/\ps[i]?=some p/\bO p/\Q (.int<|(bq p:Int) - (o:Int)) H
theorem Yk{K:Frag}(T:qA K C):bE (yy C) (fun E=>aO K [("part_size",sI)] [] (E:=E)) JP lL:=by
 intro vs H Q E h;obtain⟨w,L,dx,xs,ps,i,o,p,rfl,h1,h2,h3,e1,hp,q⟩:=h;obtain⟨a,ea,ha⟩:=h3.at e1;refine⟨_,rfl,w,C,dx,_,_,rfl,h1,T.cl,T.vf,yv,_,rfl,w,C,dx,_,_,rfl,h1,T.cl,T.qB,vm,.inl ⟨_,_,_,_,rfl,rfl,av.of h2,cB ea,?_⟩⟩;refine⟨_,p,rfl,⟨a,rfl,ha⟩,x4 hp,?_⟩;refine⟨_,rfl,w,C,dx,_,_,rfl,h1,T.cl,T.vg,J7,trivial,?_⟩;rw[(sU hp).1];exact q
def oU(C:Addr):Sp:=fun vs H Q E=>∃w L p t,vs=[.ref w]/\cL C H w L (p::t)/\Q (.int (bq p:Int)) H
theorem Yl{vs:List V}{E:XK}(h:oU C vs H Q E):yy C vs H Q E:=by
 obtain⟨w,L,p,t,rfl,⟨dx,xs,ps,i,o,h1,h2,h3,h4,h5,⟨_,e⟩|⟨p',t',e,ho,e'⟩⟩,q⟩:=h
 ·cases e
 ·cases e';obtain⟨e1,_,_⟩:=Cp e;refine⟨w,L,dx,xs,ps,i,o,p',rfl,h1,h2,h3,e1,h4 _<|zak e1,?_⟩;rw[lQ p' o (by lia)] at q
  rw[show((bq p':Int) - (o:Int))=((bq p' - o:Nat):Int) by lia]
  exact q
def hV(p:Pt)(t:List Pt)(k:Nat):List Pt:=if k=bq p then t else cw p k::t
def qE(C:Addr):Sp:=fun vs H Q E=>∃(w L:Addr) (p:Pt) (t:List Pt) (k:Nat),vs=[.ref w,.int (k:Int)]/\cL C H w L (p::t)/\1<=k/\k<=bq p/\
 ∀r H',aP w H H'->H' r=some (.tup [.str (cx p k).word,(cx p k).val])->H r=none->cL C H' w L (hV p t k)->Q (.ref r) H'
theorem Ym{K:Frag}(T:qA K C):bE (qE C) (fun E=>aO K [] [] [] [("left",C,yy C)] (E:=E)) Ci JQ:=by
 intro vs H Q E h;obtain⟨w,L,p,t,k,rfl,⟨dx,xs,ps,i,o,h1,h2,h3,h4,h5,⟨_,e⟩|⟨p',t',e,ho,e'⟩⟩,oV,Cq,q⟩:=h
 ·cases e
 cases e';obtain⟨e1,e2,e3⟩:=Cp e;obtain⟨a,ea,ha⟩:=h3.at e1;have hp:=h4 _ (zak e1);rw[lQ p' o (by lia)] at Cq
 have J9:w≠L:=jr h1 h2 (by intro z;cases z)
 have Yn:a≠w:=jr ha h1 (by intro z;cases z)
 refine⟨_,rfl,w,C,dx,_,_,rfl,h1,T.cl,T.vf,yv,_,rfl,w,C,dx,_,_,rfl,h1,T.cl,T.qB,vm,.inl ⟨_,_,_,_,rfl,rfl,av.of h2,cB ea,?_⟩⟩;refine⟨_,rfl,w,C,dx,_,_,rfl,h1,T.cl,T.vg,J7,?_⟩;refine⟨_,rfl,_,rfl,?_⟩;refine⟨_,rfl,_,rfl,w,C,dx,_,rfl,h1,T.cl,T.vg,(by show 3<1000;decide),?_⟩
 rw[J8,show(o:Int)+(k:Int)=((o+k:Nat):Int) by lia]
 have tup:∀(fs:List (Str×V)),d6 H (upd H w<|.ins C dx fs):=fun fs b ys eb=>by rw[aI<|jr eb h1 (by intro z;cases z)];exact eb
 refine⟨_,rfl,w,dx,_,rfl,ax,yw (by decide+kernel) (by decide+kernel) (by decide+kernel),w,L,dx,xs,ps,i,o+k,p',rfl,ax,(by rw[aI J9.symm];exact h2),h3.mono<|tup _,e1,hp,?_⟩
 have fin:∀(i' o':Nat),((ps.drop i'=[]/\hV (cw p' o) t k=[])\/∃p t',ps.drop i'=p::t'/\o'<bq p/\hV (cw p' o) t k=cw p o'::t')->
   ay (aO K [] [] [] [("left",C,yy C)] (E:=E)) (Ci.drop 5) (Dn Q) [some<|.ref w,some<|.int (k:Int),some<|.ref a,some<|.int (o:Int),some<|.int ((o+k:Nat):Int)] (upd H w<|.ins C dx<|wf L (i':Int) (o':Int)):=by
  intro i' o' hr;have ki:upd H w (.ins C dx<|wf L (i':Int) (o':Int)) a=some (.tup [.str p'.word,p'.val]):=by rw[aI Yn];exact ha
  have done:∀v:V,v=(cx (cw p' o) k).val->∀r,upd H w (.ins C dx<|wf L (i':Int) (o':Int)) r=none->Q (.ref r) (upd (upd H w<|.ins C dx<|wf L (i':Int) (o':Int)) r<|.tup [.str p'.word,v]):=by
   rintro v rfl r oW;have J_:r≠w:=fun z=>by rw[z,ax] at oW;cases oW
   have Ka:H r=none:=by rw[aI J_] at oW;exact oW
   have bt:aP w H (upd (upd H w<|.ins C dx<|wf L (i':Int) (o':Int)) r<|.tup [.str p'.word,(cx (cw p' o) k).val]):=fun b ob eb Yo=>by rw[aI<|bQ eb Ka,aI Yo];exact eb
   refine q r _ bt (by rw[ax,Yf,J5]) Ka ⟨dx,xs,ps,i',o',?_,bt _ _ h2 J9.symm,h3.mono fun b ys eb=>bt b _ eb (jr eb h1 (by intro z;cases z)),h4,h5,hr⟩
   rw[aI J_.symm,ax]
  refine⟨_,rfl,.inr<|.inl ⟨_,_,_,_,rfl,rfl,aM.of ki,rfl,?_⟩⟩;refine⟨_,rfl,.inr<|.inl ⟨_,_,_,_,rfl,rfl,aM.of ki,rfl,_,rfl,?_⟩⟩;rw[zaM,iM];cases p' with
  |keep n=>exact fF ⟨_,rfl,eJ,done _ rfl⟩
  |put s=>
   refine iu ⟨_,rfl,.inr<|.inl ⟨_,_,_,_,rfl,rfl,aM.of ki,rfl,_,rfl,_,rfl,_,rfl,_,rfl,cz hp.1.1,eJ,done _ ?_⟩⟩;show V.str (lh s (some (o:Int))<|some ((o+k:Nat):Int))=V.str ⟨((s.cps.toList.drop o).take k).toArray⟩;rw[zbJ,Ck o (k:Int) k rfl]
  |cut s=>
   refine iu ⟨_,rfl,.inr<|.inl ⟨_,_,_,_,rfl,rfl,aM.of ki,rfl,_,rfl,_,rfl,_,rfl,_,rfl,cz hp.1.1,eJ,done _ ?_⟩⟩;show V.str (lh s (some (o:Int))<|some ((o+k:Nat):Int))=V.str ⟨((s.cps.toList.drop o).take k).toArray⟩;rw[zbJ,Ck o (k:Int) k rfl]
 refine⟨_,rfl,?_⟩;rw[zaM];by_cases hz:k=bq p' - o
 ·refine iT ?_ (zqT (by congr 1;lia))
  refine⟨_,rfl,w,C,dx,_,_,rfl,ax,T.cl,T.qB,vm,_,rfl,w,C,dx,_,rfl,ax,T.cl,T.qB,(by show 3<1000;decide),?_⟩
  rw[vW,Yg];refine⟨_,rfl,w,C,dx,_,rfl,ax,T.cl,T.vg,(by show 3<1000;decide),?_⟩
  rw[vW,J8,show(i:Int)+1=((i+1:Nat):Int) by lia]
  refine fin (i+1) 0 ?_;have er:hV (cw p' o) t k=t:=if_pos (by rw[lQ p' o (by lia)];exact hz)
  rw[er,e2];cases t with
  |nil=>exact .inl ⟨rfl,rfl⟩
  |cons p2 t2=>
   have hm:bO p2:=h4 p2 (zbI (by rw[e];exact .tail _ (.head _)))
   exact .inr ⟨p2,t2,rfl,(sU hm).2,by rw[drop_zero]⟩
 ·refine iF ?_ (zqF (by intro z;have z':(bq p':Int) - ((o+k:Nat):Int)=0:=(by injection z);lia))
  refine fin i (o+k)<|.inr ⟨p',t,e,by lia,?_⟩
  have er:hV (cw p' o) t k=cw (cw p' o) k::t:=if_neg (by rw[lQ p' o (by lia)];exact hz)
  rw[er,drop_drop]
theorem cj.app{xs ys zs bB dA du:List At}(h:cj xs ys zs)(h':cj bB dA du):cj (xs++bB) (ys++dA) (zs++du):=by
 induction h with
 |nil=>exact h'
 |p _ ih=>exact .p ih
 |c _ ih=>exact .c ih
 |kk _ ih=>exact .kk ih
 |kc _ ih=>exact .kc ih
 |pk _ ih=>exact .pk ih
 |pc _ ih=>exact .pc ih
theorem Kb:∀s:List Nat,cj [] (s.map .P) (s.map .P)
 |[]=>.nil
 |c::s=>.p (Kb s)
theorem Cr:∀s:List Nat,cj (s.map .C) [] (s.map .C)
 |[]=>.nil
 |c::s=>.c (Cr s)
theorem Kc:∀n:Nat,cj (rK n) (rK n) (rK n)
 | 0=>.nil
 |n+1=>.kk (Kc n)
theorem Kd:∀s:List Nat,cj (rK s.length) (s.map .C) (s.map .C)
 |[]=>.nil
 |c::s=>.kc (Kd s)
theorem Ke:∀s:List Nat,cj (s.map .P) (rK s.length) (s.map .P)
 |[]=>.nil
 |c::s=>.pk (Ke s)
theorem Kf:∀s:List Nat,cj (s.map .P) (s.map .C) []
 |[]=>.nil
 |c::s=>.pc (Kf s)
def eV:List At->Nat
 |[]=>0
 |.P _::xs=>eV xs
 |.K::xs=>eV xs+1
 |.C _::xs=>eV xs+1
def eE:List At->Nat
 |[]=>0
 |.P _::xs=>eE xs+1
 |.K::xs=>eE xs+1
 |.C _::xs=>eE xs
def cnt:List At->Nat
 |[]=>0
 |.K::xs=>cnt xs
 |.P _::xs=>cnt xs+1
 |.C _::xs=>cnt xs+1
theorem qF:∀xs l,fit l xs->l.length=eV xs
 |[],l,h=>by cases h;rfl
 |.P c::xs,l,h=>qF xs l h
 |.K::xs,[],h=>h.elim
 |.K::xs,a::l,h=>by simp[eV,qF xs l h]
 |.C c::xs,[],h=>h.elim
 |.C c::xs,a::l,h=>by simp[eV,qF xs l h.2]
theorem yz:∀xs l,fit l xs->(out l xs).length=eE xs
 |[],l,h=>rfl
 |.P c::xs,l,h=>by simp[out,eE,yz xs l h]
 |.K::xs,[],h=>h.elim
 |.K::xs,a::l,h=>by simp[out,eE,yz xs l h]
 |.C c::xs,[],h=>h.elim
 |.C c::xs,a::l,h=>yz xs l h.2
theorem yA:∀xs ys,eV (xs++ys)=eV xs+eV ys
 |[],ys=>by simp[eV]
 |.P c::xs,ys=>yA xs ys
 |.K::xs,ys=>by simp only[zbi,eV,yA xs ys];lia
 |.C c::xs,ys=>by simp only[zbi,eV,yA xs ys];lia
theorem yB:∀xs ys,cnt (xs++ys)=cnt xs+cnt ys
 |[],ys=>by simp[cnt]
 |.K::xs,ys=>yB xs ys
 |.P c::xs,ys=>by simp only[zbi,cnt,yB xs ys];lia
 |.C c::xs,ys=>by simp only[zbi,cnt,yB xs ys];lia
theorem cj.cnt{xs ys zs:List At}(h:cj xs ys zs):cnt zs<=B.cnt xs+B.cnt ys:=by
 induction h<;>simp only[B.cnt] <;>lia
theorem qG{ys:List At}:∀xs l,fit l (xs++ys)->∃l1 l2,l=l1++l2/\fit l1 xs/\fit l2 ys/\out l (xs++ys)=out l1 xs++out l2 ys
 |[],l,h=>⟨[],l,rfl,rfl,h,rfl⟩
 |.P c::xs,l,h=>by
  obtain⟨l1,l2,rfl,a,b,d⟩:=qG xs l h;exact⟨l1,l2,rfl,a,b,by show c::out _ (xs++ys)=c::(out l1 xs++out l2 ys);rw[d]⟩
 |.K::xs,[],h=>(show False from h).elim
 |.K::xs,e::l,h=>by
  obtain⟨l1,l2,rfl,a,b,d⟩:=qG xs l h;exact⟨e::l1,l2,rfl,a,b,by show e::out _ (xs++ys)=e::(out l1 xs++out l2 ys);rw[d]⟩
 |.C c::xs,[],h=>(show False from h).elim
 |.C c::xs,e::l,h=>by
  obtain⟨h0,h⟩:=(show e=c/\fit l (xs++ys) from h)
  obtain⟨l1,l2,rfl,a,b,d⟩:=qG xs l h;exact⟨e::l1,l2,rfl,⟨h0,a⟩,b,d⟩
theorem Yp{a b:List Nat}{ys zs:List At}(h:fit (a++b) (ys++zs))(hl:a.length=eV ys):fit a ys/\fit b zs:=by
 obtain⟨l1,l2,e,h1,h2,_⟩:=qG ys _ h;have:=qF _ _ h1;obtain⟨rfl,rfl⟩:=List.append_inj e (by lia)
 exact⟨h1,h2⟩
theorem Kg(n:Nat):eV (rK n)=n:=by
 induction n with
 |zero=>rfl
 |succ n ih=>show eV (rK n)+1=_;rw[ih]
theorem vn(s:List Nat):eV (s.map .C)=s.length:=by
 induction s with
 |nil=>rfl
 |cons c s ih=>show eV (s.map .C)+1=_;rw[ih];rfl
theorem Yq(n:Nat):eE (rK n)=n:=by
 induction n with
 |zero=>rfl
 |succ n ih=>show eE (rK n)+1=_;rw[ih]
theorem Yr(s:List Nat):eE (s.map .P)=s.length:=by
 induction s with
 |nil=>rfl
 |cons c s ih=>show eE (s.map .P)+1=_;rw[ih];rfl
theorem Kh:∀xs l,fit l xs->out l xs=[]->∀x∈xs,∃c,x=.C c
 |[],l,_,_,x,hx=>by cases hx
 |.P c::xs,l,h,e,x,hx=>by cases e
 |.K::xs,[],h,_,_,_=>h.elim
 |.K::xs,a::l,h,e,x,hx=>by cases e
 |.C c::xs,[],h,_,_,_=>h.elim
 |.C c::xs,a::l,h,e,x,hx=>by
  rcases zac.mp hx with rfl|hx
  ·exact⟨c,rfl⟩
  ·exact Kh xs l h.2 e x hx
end L2.B
namespace L2
open PySem PySem.Spec PyProof.Rows
section
variable {Γ:bx}{D:Ends}{σ:St}{H:Hp}{r:List RS}{Q:VK}{QA:List V->Hp->Prop}{QT:Bool->Hp->Prop}
theorem vo{m:Str}(C:Addr)(sp:Sp)(hm:Γ.ms j=(C,sp))(h:ah Γ o σ H fun x H1=>∃a dx fs,x=.ref a/\H1 a=some (.ins C dx fs)/\fs.lookup m=none/\sp [x] H1 Q Γ.E):ah Γ (.bz j m o []) σ H Q:=by
 show pL (Γ.ms j).1 m (Γ.ms j).2 [] Γ.E (ah Γ o) (aY Γ []) σ H Q;rw[hm];exact h
theorem jN{m:Str}{a:RE}(C:Addr)(sp:Sp)(hm:Γ.ms j=(C,sp))(h:ah Γ o σ H fun x H1=>∃p dx fs,x=.ref p/\H1 p=some (.ins C dx fs)/\fs.lookup m=none/\ah Γ a σ H1 fun y H2=>sp [x,y] H2 Q Γ.E):ah Γ (.bz j m o [a]) σ H Q:=by
 show pL (Γ.ms j).1 m (Γ.ms j).2 [] Γ.E (ah Γ o) (aY Γ [a]) σ H Q;rw[hm];exact h
theorem yC{a:RE}(C:Addr)(sp:Sp)(hm:Γ.kt j=(C,sp))(h:ah Γ a σ H fun y H1=>∀x dx,H1 x=none->H1 dx=none->dx≠x->sp [.ref x,y] (upd (upd H1 dx<|.own x) x<|.ins C dx []) (fun v H2=>v=.az/\Q (.ref x) H2) Γ.E):ah Γ (.make j [a]) σ H Q:=by
 show Ac (Γ.kt j).1 (Γ.kt j).2 [] Γ.E (aY Γ [a]) σ H Q;rw[hm];exact h
theorem sV{c:RE}(W:Nat->St->Hp->Prop)(h0:∃m,W m σ H)
  (h:∀m σ H,W m σ H->bA Γ c σ H fun b H1=>if b=true then ∃N:St->Hp->Prop,(∀σ' H',N σ' H'->∃m',m'<m/\W m' σ' H')/\ay Γ body {{D with nx:=ay Γ r D} with nx:=N,ct:=N,bk:=ay Γ r D} σ H1 else ay Γ r D σ H1):ay Γ (.mI c body::r) D σ H:=⟨W,h0,h⟩
theorem br{c:RE}{t e:List RS}(h:bA Γ c σ H fun b H1=>if b=true then ay Γ t {D with nx:=ay Γ r D} σ H1 else ay Γ e {D with nx:=ay Γ r D} σ H1):ay Γ (.ite c t e::r) D σ H:=h
theorem aZ{op:CmpOp}{a b:RE}(h:ah Γ a σ H fun x H1=>ah Γ b σ H1 fun y H2=>dG Γ.K op x y H2 fun z H3=>∃k,z=.bl k/\QT k H3):bA Γ (.cmp op a b) σ H QT:=h
theorem dv{f:Str}(h:ah Γ o σ H fun x H1=>∃a C dx fs v,x=.ref a/\H1 a=some (.ins C dx fs)/\fY Γ.K C/\fP Γ.K C f/\fs.lookup f=some v/\Q v H1):ah Γ (.fld o f) σ H Q:=h
theorem fg{m:iO}{a:RE}(h:ah Γ o σ H fun x H1=>rJ Γ.K (uE m) x H1/\ah Γ a σ H1 fun y H2=>xf Γ.K m x [y] H2 Q):ah Γ (.bh m o [a]) σ H Q:=h
theorem i7{K:Frag}{x:Str}(q:Q (.bl<|x==y) H):dG K .Eq (.str x) (.str y) H Q:=by
 show Q (.bl<|false ^^ decide (V.str x=V.str y)) H;rw[zaM,iM];exact q
theorem vp{K:Frag}{x:Str}(q:Q (.bl<|x !=y) H):dG K .NotEq (.str x) (.str y) H Q:=by
 show Q (.bl<|true ^^ decide (V.str x=V.str y)) H;rw[zaS,iM];exact q
end
end L2
namespace L2.B
open PySem PySem.Spec PyProof.Rows
theorem cL.ob{w:Addr}{rs:List Pt}(h:cL C H w L rs):∃(dx:Addr) (i o:Int),H w=some (.ins C dx<|wf L i o):=by
 obtain⟨dx,xs,ps,i,o,h1,_⟩:=h;exact⟨dx,i,o,h1⟩
theorem Cs{i o:Int}:(wf L i o).lookup ("word":Str)=none/\(wf L i o).lookup ("left":Str)=none/\(wf L i o).lookup ("take":Str)=none:=
 ⟨yw (by decide+kernel) (by decide+kernel) (by decide+kernel),yw (by decide+kernel) (by decide+kernel) (by decide+kernel),yw (by decide+kernel) (by decide+kernel) (by decide+kernel)⟩
def yD:Sp:=fun vs H Q E=>∃v p u,vs=[v,.str u]/\jF H v p/\((∃n,p=.keep n/\∀c t H',aA H H'->H c=none->H' c=some (.lst [.ref t])->H' t=some (.tup [.str "cut",.str u])->Q (.ref c) H')\/
 (p=.put u/\∀c H',aA H H'->H c=none->H' c=some (.lst [])->Q (.ref c) H'))
theorem Ys{K:Frag}{et:List (Str×Addr)}:bE (yD) (fun E=>aO K [] [] (et:=et) (E:=E)) JS JR:=by
 intro vs H Q E h;obtain⟨v,p,u,rfl,⟨a,rfl,ha⟩,⟨n,rfl,q⟩|⟨rfl,q⟩⟩:=h
 ·refine⟨_,rfl,.inr<|.inl ⟨_,_,_,_,rfl,rfl,aM.of ha,rfl,_,rfl,?_⟩⟩;refine⟨_,rfl,eJ,fun t ht=>⟨dw,fun c hc=>?_⟩⟩;have s1:=sameNew (o:=.tup [V.str "cut",V.str u]) ht;have s2:=sameNew (o:=.lst [V.ref t]) hc;exact q c t _ (s1.trans s2) (s1.free hc) ax<|s2 _ _ ax
 ·refine⟨_,rfl,.inr<|.inl ⟨_,_,_,_,rfl,rfl,aM.of ha,rfl,_,rfl,?_⟩⟩;refine⟨_,rfl,.inr<|.inl ⟨_,_,_,_,rfl,rfl,aM.of ha,rfl,_,rfl,_,rfl,?_⟩⟩;rw[zaS,zqT (show(Pt.put u).val=V.str u from rfl)]
  exact⟨zqZ _,fun c hc=>q c _ (sameNew hc) hc ax⟩
theorem Yt(p:Pt)(t:List Pt)(k:Nat):(hV p t k).length<=t.length+1:=by
 unfold hV;split<;>simp
theorem Ki{p:Pt}(t:List Pt){k:Nat}(hk:k<=bq p):aL (p::t)=bP (cx p k)++aL (hV p t k):=by
 unfold hV;rw[gi,yr p k hk]
 split
 ·rename_i e
  have:bP (cw p k)=[]:=by
   have hz:=lQ p k hk;rw[e,zbq] at hz;cases p with
   |keep n=>
    have mS:(n - (k:Int)).toNat=0:=by rw[e];exact hz
    show rK (n - (k:Int)).toNat=[];rw[mS];rfl
   |put s=>
    rw[<-e] at hz;have mS:(⟨(s.cps.toList.drop k).toArray⟩:Str).length=0:=hz;rw[jM] at mS;show(s.cps.toList.drop k).map At.P=[];rw[zaH.mp mS];rfl
   |cut s=>
    rw[<-e] at hz;have mS:(⟨(s.cps.toList.drop k).toArray⟩:Str).length=0:=hz;rw[jM] at mS;show(s.cps.toList.drop k).map At.C=[];rw[zaH.mp mS];rfl
  rw[this,zae]
 ·rw[gi,zah]
theorem yE(p:Pt):(bP p).length=bq p:=by
 cases p with
 |keep n=>show(rK n.toNat).length=_;unfold rK;rw[zce];rfl
 |put s=>show(s.cps.toList.map At.P).length=_;rw[zab,<-len_list];rfl
 |cut s=>show(s.cps.toList.map At.C).length=_;rw[zab,<-len_list];rfl
theorem Yu{p:Pt}(t:List Pt){k:Nat}(h1:1<=k)(hk:k<=bq p):(aL<|hV p t k).length< (aL (p::t)).length:=by
 rw[Ki t hk,zqA,yE,Cm p k hk];lia
theorem Kj{w:Addr}{rs:List Pt}(hm:Γ.ms j=(C,qD C))(hi:σ[i]?=some (some<|.ref w))(W:cL C H w L rs)(q:Q (.str<|Co rs) H):ah Γ (.bz j "word" (.v i) []) σ H Q:=by
 obtain⟨dx,a,b,h1⟩:=W.ob;exact vo C (qD C) hm<|ae hi ⟨w,dx,_,rfl,h1,Cs.1,w,L,rs,rfl,W,q⟩
theorem Ct{w:Addr}{p:Pt}{t:List Pt}(hm:Γ.ms j=(C,oU C))(hi:σ[i]?=some (some<|.ref w))(W:cL C H w L (p::t))(q:Q (.int (bq p:Int)) H):ah Γ (.bz j "left" (.v i) []) σ H Q:=by
 obtain⟨dx,a,b,h1⟩:=W.ob;exact vo C (oU C) hm<|ae hi ⟨w,dx,_,rfl,h1,Cs.2.1,w,L,p,t,rfl,W,q⟩
theorem Cu{w:Addr}{p:Pt}{t:List Pt}{k:Nat}{a:RE}(hm:Γ.ms j=(C,qE C))(hi:σ[i]?=some (some<|.ref w))(W:cL C H w L (p::t))(h1:1<=k)(hk:k<=bq p)
  (ha:∀Q':VK,Q' (.int (k:Int)) H->ah Γ a σ H Q') (q:∀r H',aP w H H'->H' r=some (.tup [.str (cx p k).word,(cx p k).val])->H r=none->cL C H' w L (hV p t k)->Q (.ref r) H'):ah Γ (.bz j "take" (.v i) [a]) σ H Q:=by
 obtain⟨dx,x,b,h0⟩:=W.ob;refine jN C (qE C) hm<|ae hi ⟨w,dx,_,rfl,h0,Cs.2.2,ha _ ?_⟩;exact⟨w,L,p,t,k,rfl,W,h1,hk,q⟩
def yF(C:Addr):Sp:=fun vs H Q E=>∃w L v rs part l ys,vs=[.ref w,v]/\cL C H w L rs/\jF H v part/\bO part/\(∀s,part≠ .put s)/\rs.length<=100000/\fit l (aL rs)/\fit (out l<|aL rs) (bP part++ys)/\
 ∀c H' bB res eW l' zs,aP w H H'->H c=none->H' c=some (.lst bB)->aX H' bB res->(∀p∈res,bO p)->cL C H' w L eW->aL rs=zs++aL eW->cj zs (bP part) (aL res)->
  fit l' (aL eW)->fit (out l'<|aL eW) ys->res.length+eW.length<=rs.length+1->Q (.ref c) H'
theorem aP.yG{w:Addr}{fs:List (Str×V)}(b:aP w H H')(h:H w=some (.ins C dx fs)):d6 H H':=fun c xs e=>b c _ e (jr e h (by intro z;cases z))
theorem Yv{k m:Nat}:cx (cw (.cut s) k) m=.cut ⟨((s.cps.toList.drop k).take m).toArray⟩:=rfl
theorem Yw{K:Frag}:bE (yF C) (fun E=>aO K [("part_size",sI),("cut_behind",yD)] [] [] [("word",C,qD C),("take",C,qE C),("left",C,oU C)] (E:=E)) JU JT:=by
 intro vs H Q E h;obtain⟨w,L,v,rs,part,l,ys,rfl,W,⟨pa,rfl,nA⟩,aB,vq,Cv,qH,Cw,q⟩:=h;obtain⟨Yx,aga⟩:=sU aB;refine bc<|cm<|aE ⟨zqZ _,fun c hc=>?_⟩;refine bc<|au ?_;have b0:aP w H (upd H c<|.lst []):=fun b o e _=>by rw[aI<|bQ e hc];exact e
 obtain⟨dx0,i0,o0,Kk⟩:=W.ob;have vt:c≠w:=fun z=>by rw[z,Kk] at hc;cases hc
 have vv:c≠L:=by
  obtain⟨_,_,_,_,_,_,hL,_⟩:=W;exact(bQ hL hc).symm
 refine sV (fun m σ H'=>∃(k:Nat) (u4 u5:Option V) (bB:List V) (res eW:List Pt) (l':List Nat) (zs:List At),m=(aL eW).length/\σ=[some (.ref w),some (.ref pa),some (.ref c),some (.int (k:Int)),u4,u5]/\aP w H H'/\H' c=some (.lst bB)/\aX H' bB res/\
   (∀p∈res,bO p)/\cL C H' w L eW/\aL rs=zs++aL eW/\cj zs (bP (cx part k)) (aL res)/\k<=bq part/\fit l' (aL eW)/\fit (out l' (aL eW)) (bP (cw part k)++ys)/\res.length+eW.length<=rs.length+(if k=bq part then 1 else 0))
  ⟨_,0,none,none,[],[],rs,l,[],rfl,rfl,b0,ax,.nil,(fun p hp=>by cases hp),W.same<|sameNew hc,rfl,?_,zqZ _,qH,by rw[drop_zero];exact Cw,by simp⟩ ?_
 ·have e:bP (cx part 0)=[]:=zaH.mp (by rw[yE,Cm part 0<|zqZ _])
  rw[e];exact .nil
 rintro m σ H1 ⟨k,u4,u5,bB,res,eW,l',zs,rfl,rfl,b1,yH,iD,i8,W1,ez,hX,hk,nB,lR,hlen⟩;have Cy:H1 pa=some (.tup [.str part.word,part.val]):=b1 _ _ nA (jr nA Kk (by intro z;cases z))
 have hxl:=Paired.length iD;have sz:∀{σ:St}{Q1:VK},σ[1]?=some (some<|.ref pa)->Q1 (.int (bq part:Int)) H1->ah (aO K [("part_size",sI),("cut_behind",yD)] [] [] [("word",C,qD C),("take",C,qE C),("left",C,oU C)] (E:=E)) (.call 0 [.v 1]) σ H1 Q1:=by
  intro σ Q1 h1 hq;refine bZ sI rfl<|aq<|ae h1<|aE ⟨_,part,rfl,⟨pa,rfl,Cy⟩,x4 aB,?_⟩;rw[Yx];exact hq
 refine aZ<|ae rfl<|sz rfl ⟨trivial,_,rfl,?_⟩;by_cases qI:k<bq part
 ·refine iT ⟨_,fun σ' H' z=>z,?_⟩ (zqT (by lia))
  have hod:=Cn aB qI;have rP:(if k=bq part then 1 else 0)=0:=if_neg (by lia)
  rw[rP] at hlen;cases eW with
  |nil=>
   exfalso
   have e1:out l' (aL [])=[]:=rfl;rw[e1] at lR;have:=qF _ _ lR;rw[yA] at this;have hov:eV (bP<|cw part k)=bq part - k:=by
    rw[<-lQ part k hk];cases part with
    |keep n=>exact Kg _
    |put s=>exact absurd rfl (vq s)
    |cut s=>show eV ((s.cps.toList.drop k).map At.C)=_;rw[vn];show _=(⟨(s.cps.toList.drop k).toArray⟩:Str).length;rw[jM]
   simp only[zbf] at this
   lia
  |cons p t=>
   have hp:=W1.ok p (.head _);obtain⟨Yy,Cz⟩:=sU hp;refine br<|aZ<|Kj (C:=C) rfl rfl W1<|au<|i7 ⟨_,rfl,?_⟩;show if ((p.word:Str)=="cut")=true then _ else _
   have app:∀(H2:Hp) (iB:List V) (a:Addr) (pt:Pt),aP w H H2->H2 c=some (.lst iB)->aX H2 iB res->H2 a=some (.tup [.str pt.word,pt.val])->
     aP w H (upd H2 c<|.lst<|iB++[V.ref a])/\aX (upd H2 c<|.lst<|iB++[V.ref a]) (iB++[V.ref a]) (res++[pt]):=by
    intro H2 iB a pt bb da ni nz;have tt:d6 H2 (upd H2 c<|.lst<|iB++[V.ref a]):=aP.upd.bC da;exact⟨fun b o e n=>by rw[aI<|bQ e hc];exact bb b o e n,aX.snoc (ni.mono tt) ⟨a,rfl,tt _ _ nz⟩⟩
   have yI:∀(H2:Hp) (iB Kl:List V) (CA:List Pt),H2 c=some (.lst iB)->cL C H2 w L CA->cL C (upd H2 c<|.lst Kl) w L CA:=fun H2 iB Kl CA da W2=>W2.but aP.upd da vv;by_cases nC:p.word="cut"
   ·
    rw[nC];obtain⟨s,rfl⟩:∃s,p=.cut s:=by
     cases p with
     |keep n=>exact absurd (show(Str.ofString "keep")="cut" from nC) (by decide)
     |put s=>exact absurd (show(Str.ofString "put")="cut" from nC) (by decide)
     |cut s=>exact⟨s,rfl⟩
    have ta:cx (.cut s) (bq<|.cut s)=.cut s:=take_all _ trivial;have re:hV (.cut s) t (bq<|.cut s)=t:=if_pos rfl;refine bN<|fg<|ae rfl ⟨.inl ⟨rfl,_,av.of yH⟩,Cu (C:=C) (k:=bq (.cut s)) rfl rfl W1 Cz (zqR _) (fun Q' hq=>Ct (C:=C) rfl rfl W1 hq) fun a H2 b2 ha t9 W2=>?_⟩;rw[ta] at ha;rw[re] at W2;have da:H2 c=some (.lst bB):=b2 _ _ yH vt;obtain⟨Yz,i1,o1,yJ⟩:=W1.ob;have ni:aX H2 bB res:=iD.mono (b2.yG yJ);obtain⟨bb,pp⟩:=app H2 bB a (.cut s) (b1.trans b2) da ni ha;refine⟨bB,da,dJ (by lia),?_⟩
    rw[gi] at nB lR ez;obtain⟨la,lb,rfl,f1,f2,f3⟩:=qG _ _ nB;have f0:out la (bP<|.cut s)=[]:=by
     obtain⟨b,rfl⟩:=yj s.cps.toList la [] (by rw[zae];exact f1)
     have:=qF _ _ f1;have e1:eV (bP<|.cut s)=s.cps.toList.length:=vn _;rw[e1,zqA] at this;have:b=[]:=zaH.mp (by lia)
     subst this;have:=yh s.cps.toList [] []
     simp only[zae] at this
     rw[zae];exact this
    rw[f3,f0,zbe] at lR;refine⟨_,?_,k,u4,u5,bB++[V.ref a],res++[.cut s],t,lb,zs++bP (.cut s),rfl,rfl,bb,ax,pp,?_,yI H2 _ _ _ da W2,by rw[ez,zah],?_,hk,f2,lR,?_⟩
    ·rw[gi,zqA,yE];lia
    ·intro x hx;rcases zaa.mp hx with z|z
     ·exact i8 x z
     ·rw[zad.mp z];exact hp
    ·have:=hX.app (Cr s.cps.toList);rw[zae] at this;rw[jK,lN];exact this
    ·rw[rP];simp only[zqA,zaq,zbf] at hlen⊢;lia
   ·have jA:((p.word:Str)=="cut")=false:=beq_eq_false_iff_ne.mpr nC;rw[jA];obtain⟨n,hn⟩:∃n,n=min (bq p) (bq part - k):=⟨_,rfl⟩;have gf:1<=n:=by lia
    have jc:n<=bq p:=by lia
    have hn3:n<=bq part - k:=by lia
    have emin:(if ((bq part:Int) - (k:Int)) < (bq p:Int) then ((bq part:Int) - (k:Int)) else (bq p:Int))=(n:Int):=by
     split<;>lia
    refine bc<|yn<|aq<|Ct (C:=C) rfl rfl W1<|aq<|aK<|sz rfl<|ae rfl ⟨trivial,aE ?_⟩;show ay _ _ _ ([some<|.ref w,some<|.ref pa,some<|.ref c,some<|.int (k:Int),u4,u5].set 4 (some<|V.int (if ((bq part:Int) - (k:Int)) < (bq p:Int) then ((bq part:Int) - (k:Int)) else (bq p:Int)))) H1
    rw[emin];refine bc<|Cu (C:=C) (k:=n) rfl rfl W1 gf jc (fun Q' hq=>ae rfl hq) fun a H2 b2 ha t9 W2=>?_;have da:H2 c=some (.lst bB):=b2 _ _ yH vt;obtain⟨Yz,i1,o1,yJ⟩:=W1.ob;have ni:aX H2 bB res:=iD.mono (b2.yG yJ);have Km:H2 pa=some (.tup [.str part.word,part.val]):=b2 _ _ Cy (jr Cy yJ (by intro z;cases z))
    have CB:=b1.trans b2;have YA:=J6 hp gf jc;have eA:=Ki t jc;have eB:bP (cw part k)=bP (cx (cw part k) n)++bP (cw part<|k+n):=by
     rw[yr (cw part k) n (by rw[lQ part k hk];lia),drop_drop]
    have eC:bP (cx part<|k+n)=bP (cx part k)++bP (cx (cw part k) n):=by
     have h1:=yr part (k+n) (by lia)
     have h2:=yr part k hk;rw[eB] at h2;rw[h2,<-zah] at h1;exact(List.append_inj_left' h1 rfl).symm
    rw[eA] at nB lR ez;obtain⟨la,lb,rfl,f1,f2,f3⟩:=qG _ _ nB;rw[f3,eB,zah] at lR;have YB:(out la<|bP<|cx p n).length=n:=by
     rw[yz _ _ f1];cases p with
     |keep m=>exact Yq n
     |put s=>show eE ((s.cps.toList.take n).map At.P)=n;rw[Yr,zaE];have hh:n<=s.length:=jc;rw[len_list] at hh;lia
     |cut s=>exact absurd rfl nC
    have CC:eV (bP<|cx (cw part k) n)=n:=by
     have e:bq (cx (cw part k) n)=n:=Cm _ _ (by rw[lQ part k hk];lia)
     cases part with
     |keep m=>exact Kg n
     |put s=>exact absurd rfl (vq s)
     |cut s=>
      have e':(⟨((s.cps.toList.drop k).take n).toArray⟩:Str).length=n:=e;rw[jM] at e';show eV (((s.cps.toList.drop k).take n).map At.C)=n;rw[vn];exact e'
    obtain⟨g1,g2⟩:=Yp lR (by rw[YB,CC])
    have fin:∀(H3:Hp) (jH:List V) (sW:List Pt),aP w H H3->H3 c=some (.lst jH)->aX H3 jH sW->(∀x∈sW,bO x)->cL C H3 w L (hV p t n)->cj (zs++bP (cx p n)) (bP<|cx part<|k+n) (aL sW)->sW.length<=res.length+1->
      ∃m',m'< (aL (p::t)).length/\∃(k':Nat) (YC YD:Option V) (bB:List V) (res eW:List Pt) (l':List Nat) (zs:List At),m'=(aL eW).length/\[some<|V.ref w,some<|.ref pa,some<|.ref c,some<|.int<|(k:Int)+(n:Int),some<|.int (n:Int),some<|.ref a]=[some<|.ref w,some<|.ref pa,some<|.ref c,some<|.int (k':Int),YC,YD]/\aP w H H3/\H3 c=some (.lst bB)/\aX H3 bB res/\
      (∀p∈res,bO p)/\cL C H3 w L eW/\aL rs=zs++aL eW/\cj zs (bP<|cx part k') (aL res)/\k'<=bq part/\fit l' (aL eW)/\fit (out l'<|aL eW) (bP (cw part k')++ys)/\res.length+eW.length<=rs.length+(if k'=bq part then 1 else 0):=by
     intro H3 jH sW b3 fS YE YF W3 YG Kn;refine⟨_,Yu t gf jc,k+n,some<|.int (n:Int),some<|.ref a,jH,sW,hV p t n,lb,zs++bP (cx p n),rfl,by rw[zbJ],b3,fS,YE,YF,W3,by rw[ez,zah],YG,by lia,f2,g2,?_⟩
     have r1:=Yt p t n
     simp only[zaq] at hlen
     by_cases hz:n=bq p
     ·have r2:hV p t n=t:=if_pos hz;rw[r2];split<;>lia
     ·rw[if_pos (show k+n=bq part by lia)];lia
    refine br<|aZ<|bD<|ae rfl<|au<|.inr<|.inl ⟨_,_,_,_,rfl,rfl,aM.of Km,rfl,au<|i7 ⟨_,rfl,?_⟩⟩;cases part with
    |put s=>exact absurd rfl (vq s)
    |keep m=>
     refine fF ?_;refine bN<|fg<|ae rfl ⟨.inl ⟨rfl,_,av.of da⟩,ae rfl ⟨bB,da,dJ (by lia),?_⟩⟩
     obtain⟨bb,pp⟩:=app H2 bB a (cx p n) CB da ni ha;refine bc<|aK<|ae rfl<|ae rfl ?_;refine fin _ _ (res++[cx p n]) bb ax pp ?_ (yI H2 _ _ _ da W2) ?_ (by simp)
     ·intro x hx;rcases zaa.mp hx with z|z
      ·exact i8 x z
      ·rw[zad.mp z];exact YA
     ·rw[eC,jK,lN];refine hX.app ?_;show cj (bP<|cx p n) (rK ((n:Nat):Int).toNat) (bP<|cx p n);rw[zbb];cases p with
      |keep m'=>show cj (rK ((n:Nat):Int).toNat) (rK n) (rK ((n:Nat):Int).toNat);rw[zbb];exact Kc n
      |put s=>
       have:=Ke (s.cps.toList.take n);rw[zaE] at this;have hh:n<=s.length:=jc;rw[len_list] at hh;rw[show min n s.cps.toList.length=n by lia] at this
       exact this
      |cut s=>exact absurd rfl nC
    |cut s=>
     refine iu ?_;have jV:H2 pa=some (.tup [.str "cut",.str s]):=Km;refine bN<|fg<|ae rfl ⟨.inl ⟨rfl,_,av.of da⟩,bZ yD rfl<|aq<|ae rfl<|aq ?_⟩;refine⟨_,rfl,.inr<|.inl ⟨_,_,_,_,rfl,rfl,aM.of jV,rfl,_,rfl,_,rfl,_,rfl,_,rfl,_,rfl,cz aB.1.1,?_⟩⟩;rw[Ck k (n:Int) n rfl];generalize hu:((s.cps.toList.drop k).take n)=u at*;have qJ:bP (cx (cw (.cut s) k) n)=u.map At.C:=by rw[<-hu];rfl
     have YH:u.length=n:=by rw[qJ,vn] at CC;exact CC
     rw[qJ] at g1;refine⟨_,cx p n,⟨u.toArray⟩,rfl,⟨a,rfl,ha⟩,?_⟩;cases p with
     |cut s'=>exact absurd rfl nC
     |keep m=>
      refine .inl ⟨_,rfl,fun d tt H3 s3 hd CD YI=>?_⟩;have fS:=s3 _ _ da;refine⟨bB,[V.ref tt],fS,CD,cz (by simp;lia),?_⟩
      obtain⟨bb,pp⟩:=app H3 bB tt (.cut ⟨u.toArray⟩) (fun b o e nn=>s3 b o<|CB b o e nn) fS (ni.mono<|df s3) YI;refine bc<|aK<|ae rfl<|ae rfl ?_;refine fin _ _ (res++[.cut ⟨u.toArray⟩]) bb ax pp ?_ (yI H3 _ _ _ fS<|W2.same s3) ?_ (by simp)
      ·intro x hx;rcases zaa.mp hx with z|z
       ·exact i8 x z
       ·rw[zad.mp z];have:=J6 (Cn aB qI) gf (show n<=bq (cw (.cut s) k) by rw[lQ _ k hk];lia)
        rw[Yv,hu] at this;exact this
      ·rw[eC,jK,lN,qJ];refine hX.app ?_;show cj (rK ((n:Nat):Int).toNat) (u.map At.C) (u.map At.C);rw[zbb,<-YH];exact Kd u
     |put s'=>
      have eu:(s'.cps.toList.take n)=u:=by
       have YJ:fit la ((s'.cps.toList.take n).map At.P++[]):=by rw[zae];exact f1
       have yK:la=[]:=(vc _ _ _).mp YJ;subst yK;have o1:out [] (bP<|cx (.put s') n)=s'.cps.toList.take n:=by
        have:=yg (s'.cps.toList.take n) [] [];rw[zae] at this;exact this.trans<|zae _
       rw[o1] at g1;obtain⟨b,e⟩:=yj u _ [] (by rw[zae];exact g1)
       have dz:=qF _ _ g1;rw[vn] at dz;rw[e,zqA] at dz;have:b=[]:=zaH.mp (by lia)
       rw[this,zae] at e;exact e
      refine .inr ⟨by show Pt.put ⟨(s'.cps.toList.take n).toArray⟩=_;rw[eu],fun d H3 s3 hd CD=>?_⟩
      have fS:=s3 _ _ da;refine⟨bB,[],fS,CD,cz (by simp;lia),?_⟩
      rw[zae];have tt:d6 H3 (upd H3 c<|.lst bB):=aP.upd.bC fS;refine bc<|aK<|ae rfl<|ae rfl ?_;refine fin _ _ res (fun b o e nn=>by rw[aI<|bQ e hc];exact s3 b o (CB b o e nn)) ax ((ni.mono<|df s3).mono tt) i8 (yI H3 _ _ _ fS<|W2.same s3) ?_ (by lia)
      rw[eC,qJ];have:=hX.app (Kf u);rw[zae] at this;show cj (zs++(s'.cps.toList.take n).map At.P) _ _;rw[eu];exact this
 ·refine iF ?_ (zqF (by lia))
  have YK:k=bq part:=by lia
  subst YK;rw[take_all part<|yi aB] at hX;have e0:bP (cw part<|bq part)=[]:=zaH.mp (by rw[yE,lQ part _<|zqR _,zbq])
  rw[e0,zbe] at lR;rw[if_pos rfl] at hlen;exact bI<|ae rfl<|q c H1 bB res eW l' zs b1 hc yH iD i8 W1 ez hX nB lR hlen
theorem YL(ps:List Pt):sJ ps=overOf (dg ps):=by
 unfold sJ overOf dg;rw[List.filter_map,zbh]
 congr 1
 ·funext p;cases p<;>rfl
 ·congr 1
  funext p
  cases p with
  |keep n=>show(decide<|(Str.ofString "keep")≠"cut")=decide ((Str.ofString "keep")≠"put");decide
  |put n=>show(decide<|(Str.ofString "put")≠"cut")=decide ((Str.ofString "cut")≠"put");decide
  |cut n=>show(decide<|(Str.ofString "cut")≠"cut")=decide ((Str.ofString "put")≠"put");decide
theorem Run.gives{l r:List Nat}(h:Run l ps r):(sJ ps).sum=r.length:=by
 rw[YL];exact h.oS.over
theorem YM(p:Pt):cnt (bP p)=eU p:=by
 cases p with
 |keep n=>
  show cnt (rK n.toNat)=0;have:∀m,cnt (rK m)=0:=fun m=>by
   induction m with
   |zero=>rfl
   |succ m ih=>exact ih
  exact this _
 |put s=>
  show cnt (s.cps.toList.map At.P)=s.length;rw[len_list]
  induction s.cps.toList with
  |nil=>rfl
  |cons c t ih=>show cnt (t.map At.P)+1=_;rw[ih];rfl
 |cut s=>
  show cnt (s.cps.toList.map At.C)=s.length;rw[len_list]
  induction s.cps.toList with
  |nil=>rfl
  |cons c t ih=>show cnt (t.map At.C)+1=_;rw[ih];rfl
theorem CG(ps:List Pt):cnt (aL ps)=aD ps:=by
 induction ps with
 |nil=>rfl
 |cons p ps ih=>
  rw[gi,yB,YM,ih]
  simp[aD]
theorem Ko{p:Pt}(h:ps[i]?=some p):aL (ps.take<|i+1)=aL (ps.take i)++bP p:=by
 rw[zbp,h,jK]
 simp[aL]
theorem drop_cons{p:Pt}(h:ps[i]?=some p):ps.drop i=p::ps.drop (i+1):=by
 have hi:i<ps.length:=(zal.mp h).1;rw[zbr hi]
 congr 1
 exact zao<|(zar hi).symm.trans h
structure vw (one other ps:List Pt) (l r:List Nat):Prop where
 ok:∀p∈ps,bO p
 ch:chainOk "" ps=true
 run:Run l ps r
 res:res 0 (aL ps)=sub (res 0<|aL one) 0 (res 0<|aL other)
 len:ps.length<=3* (one.length+other.length)+2
 aD:aD ps<=aD one+aD other
 aG:∃zs,cj (aL one) (aL other) zs/\nb (aL ps)=nb zs
def yL:Sp:=fun vs H Q E=>∃a b xs ys one other l m r,vs=[.ref a,.ref b]/\H a=some (.lst xs)/\H b=some (.lst ys)/\aX H xs one/\aX H ys other/\(∀p∈one,bO p)/\(∀p∈other,bO p)/\chainOk "" one=true/\chainOk "" other=true/\
 one.length+other.length<=30000/\aD one+aD other<=100000/\Run l one m/\Run m other r/\
 ∀c H' zs ps,aA H H'->H c=none->H' c=some (.lst zs)->aX H' zs ps->vw one other ps l r->Q (.ref c) H'
theorem YN{one res:List Pt}{l m r:List Nat}(h1:Run l one m)(h2:Run m other r)(ho:∀p∈res,bO p)(hl:res.length<=one.length+other.length)(ht:B.aD one+B.aD other<=100000)(h:cj (aL one) (aL other) (aL res)):vw one other (nj res) l r/\B.aD res<=100000:=by
 have CH:B.aD res<=B.aD one+B.aD other:=by
  have:=h.cnt;rw[CG,CG,CG] at this;exact this
 have vx:=Jx ho (by lia:B.aD res<=100000)
 have heq:=B8 res vx;obtain⟨g1,g2,_⟩:=Js res vx (by lia)
 obtain⟨f1,f2⟩:=h1.fits;obtain⟨f3,f4⟩:=h2.fits;rw[<-f2] at f3 f4;obtain⟨e1,e2,e3⟩:=XF h l 0 0 f1 f3;have vy:=JM res fun p hp=>yi (ho p hp);have gP:Run l res r:=by
  have:=vd res l (fun p hp=>yi<|ho p hp) e1;rw[e2,f4] at this;exact this
 have hnl:=Jt res;refine⟨⟨by rw[heq];exact g2,by rw[heq];exact g1,by rw[heq];exact JB gP,by rw[XI vy,e3],by lia,by rw[heq,Cd res vx];exact CH,_,h,vy⟩,by lia⟩
theorem YO{K:Frag}{et:List (Str×Addr)}(T:qA K C):bE (yL) (fun E=>aO K [("sizes",m_),("parts_behind",yF C),("neat",oN)] [] [] [("word",C,qD C),("take",C,qE C),("left",C,oU C)] [("Walk",C,yx C)] (et:=et) (E:=E)) JX JW:=by
 intro vs H Q E h;obtain⟨a,b,xs,ys,one,other,l,m,r,rfl,ha,hb,oh,CI,j_,gY,iZ,da,hlen,YQ,CJ,oW,q⟩:=h;have lx:=Paired.length oh;have ly:=Paired.length CI;obtain⟨f1,f2⟩:=CJ.fits;obtain⟨f3,f4⟩:=oW.fits;rw[<-f2] at f3;refine br<|aZ<|bD<|bZ m_ rfl<|aq<|ae rfl<|aE ⟨a,xs,one,rfl,ha,oh,j_,iZ,by lia,fun t1 H1 s1 vi=>?_⟩
 refine au<|.inr<|.inl ⟨_,_,_,_,rfl,rfl,aM.of vi,rfl,?_⟩;refine bD<|bZ m_ rfl<|aq<|ae rfl<|aE ⟨b,ys,other,rfl,s1 _ _ hb,CI.mono<|df s1,gY,da,by lia,fun t2 H2 s2 yM=>?_⟩
 refine au<|.inr<|.inl ⟨_,_,_,_,rfl,rfl,aM.of yM,rfl,?_⟩;show ∃k,V.bl (true ^^ decide (V.int (sJ one).sum=V.int (overOf other).sum))=V.bl k/\_;refine⟨_,rfl,?_⟩;rw[CJ.gives,oW.over,zqT rfl];have fN:=s1.trans s2;refine bc<|yC C (yx C) rfl<|ae rfl fun w dx hw YR jA=>?_;have s3:aA H2 (upd (upd H2 dx<|.own w) w<|.ins C dx []):=fun b o e=>by rw[aI<|bQ e hw,aI<|bQ e YR];exact e
 have iE:=fN.trans s3;refine⟨w,dx,a,xs,one,rfl,ax,iE _ _ ha,oh.mono<|df iE,j_,by lia,fun L H3 hL hLw b3 W=>⟨rfl,?_⟩⟩
 have CK:aA H H3:=fun b o e=>b3 b o (iE b o e) (bQ (fN b o e) hw);have fw:H w=none:=fN.free hw;refine bc<|cm<|aE ⟨zqZ _,fun c hc=>?_⟩;have fc:H c=none:=CK.free hc;have vv:c≠L:=by
  obtain⟨_,_,_,_,_,_,YS,_⟩:=W;exact(bQ YS hc).symm
 have vt:c≠w:=by
  obtain⟨_,_,_,hW⟩:=W.ob;exact(bQ hW hc).symm
 have Kp:∀{H4 H5:Hp},aA H H4->aP w H4 H5->aA H H5:=fun s b d o e=>b d o (s d o e) (bQ e fw);have CL:∀{H4:Hp}{o:HO},aA H H4->aA H (upd H4 c o):=fun s d o e=>by rw[aI<|bQ e fc];exact s d o e
 refine⟨_,rfl,b,rfl,⟨_,av.of ((sameNew (o:=.lst []) hc) _ _ (CK _ _ hb))⟩,kT (K:=K) (a:=b) (xs:=ys) (fun i σ H4=>∃u du res rs l' zs,σ=[some (.ref a),some (.ref b),some (.ref w),some (.ref c),u]/\aA H H4/\H4 c=some (.lst du)/\
   aX H4 du res/\(∀p∈res,bO p)/\cL C H4 w L rs/\aL one=zs++aL rs/\cj zs (aL (other.take i)) (aL res)/\fit l' (aL rs)/\fit (out l' (aL rs)) (aL (other.drop i))/\res.length+rs.length<=one.length+i)
  ⟨none,[],[],one,l,[],rfl,CK.trans<|sameNew hc,ax,.nil,(fun p hp=>by cases hp),W.same<|sameNew hc,rfl,.nil,f1,f3,by simp⟩
  (fun i σ H4 _ ⟨_,_,_,_,_,_,_,s4,_⟩=>av.of (s4 _ _ hb)) ?_ ?_⟩
 ·rintro i y σ H4 hi ⟨u,du,res,rs,l',zs,rfl,s4,jI,iD,i8,W4,ez,hX,fa,fb,Kq⟩;obtain⟨p,hp,kh⟩:=CI.get hi;obtain⟨pa,rfl,nA⟩:=kh.mono (df s4);have fI:i<other.length:=(zal.mp hp).1;have qK:=gY p (zak hp);have YT:=Paired.length iD;rw[drop_cons hp,gi] at fb;refine br<|aZ<|bD<|ae rfl<|au<|.inr<|.inl ⟨_,_,_,_,rfl,rfl,aM.of nA,rfl,au<|i7 ⟨_,rfl,?_⟩⟩;have wr:(∀s,p≠ .put s)->ay (aO K [("sizes",m_),("parts_behind",yF C),("neat",oN)] [] [] [("word",C,qD C),("take",C,qE C),("left",C,oU C)] [("Walk",C,yx C)] (et:=et) (E:=E)) [.drop<|.bh .extend (.v 3) [(.call 1 [.v 2,.v 4])]]
    {nx:=fun σ H4=>∃u du res rs l' zs,σ=[some (.ref a),some (.ref b),some (.ref w),some (.ref c),u]/\aA H H4/\H4 c=some (.lst du)/\
   aX H4 du res/\(∀p∈res,bO p)/\cL C H4 w L rs/\aL one=zs++aL rs/\cj zs (aL (other.take (i+1))) (aL res)/\fit l' (aL rs)/\fit (out l' (aL rs)) (aL (other.drop (i+1)))/\res.length+rs.length<=one.length+(i+1),rt:=Q} [some (.ref a),some (.ref b),some (.ref w),some (.ref c),some (.ref pa)] H4:=by
   intro vq;refine bN<|fg<|ae rfl ⟨.inl ⟨rfl,_,av.of jI⟩,bZ (yF C) rfl<|aq<|ae rfl<|aq<|ae rfl<|aE ?_⟩;refine⟨w,L,_,rs,p,l',_,rfl,W4,⟨pa,rfl,nA⟩,qK,vq,by lia,fa,fb,fun d H5 CM YU YV l5 YW b5 hd YX Kr YY W5 YZ nE Y0 Y1 nF=>?_⟩
   have nr:H5 c=some (.lst du):=b5 _ _ jI vt;obtain⟨_,_,_,Y2⟩:=W4.ob;have agi:=Paired.length Kr;refine⟨du,CM,nr,YX,cz (by lia),?_⟩
   have tt:d6 H5 (upd H5 c<|.lst<|du++CM):=aP.upd.bC nr;refine⟨some<|.ref pa,du++CM,res++YU,YV,l5,zs++YW,rfl,CL<|Kp s4 b5,ax,Paired.app ((iD.mono<|b5.yG Y2).mono tt)<|Kr.mono tt,?_,W5.but aP.upd nr vv,by rw[ez,YZ,zah],?_,Y0,Y1,?_⟩
   ·intro x hx;rcases zaa.mp hx with z|z
    ·exact i8 x z
    ·exact YY x z
   ·rw[Ko hp,jK];exact hX.app nE
   ·simp only[zqA];lia
  cases p with
  |put s=>
   refine fF ?_;refine bN<|fg<|ae rfl ⟨.inl ⟨rfl,_,av.of jI⟩,ae rfl ⟨du,jI,dJ (by lia),?_⟩⟩
   have tt:d6 H4 (upd H4 c<|.lst<|du++[V.ref pa]):=aP.upd.bC jI;refine⟨some<|.ref pa,du++[V.ref pa],res++[.put s],rs,l',zs,rfl,CL s4,ax,aX.snoc (iD.mono tt) ⟨pa,rfl,tt _ _ nA⟩,?_,W4.but aP.upd jI vv,ez,?_,fa,(vc _ _ _).mp fb,by simp;lia⟩
   ·intro x hx;rcases zaa.mp hx with z|z
    ·exact i8 x z
    ·rw[zad.mp z];exact qK
   ·rw[Ko hp,jK,lN];have:=hX.app (Kb s.cps.toList);rw[zae] at this;exact this
  |keep n=>exact iu (wr fun s z=>by cases z)
  |cut s=>exact iu (wr fun s z=>by cases z)
 ·rintro σ H4 ⟨u,du,res,rs,l',zs,rfl,s4,jI,iD,i8,W4,ez,hX,fa,fb,Kq⟩;rw[ly,zbA] at hX;rw[ly,zbX] at fb;have oe:out l' (aL rs)=[]:=fb;refine sV (fun mm σ H5=>∃du res rs l' zs,mm=rs.length/\σ=[some (.ref a),some (.ref b),some (.ref w),some (.ref c),u]/\aA H H5/\H5 c=some (.lst du)/\
   aX H5 du res/\(∀p∈res,bO p)/\cL C H5 w L rs/\aL one=zs++aL rs/\cj zs (aL other) (aL res)/\fit l' (aL rs)/\out l' (aL rs)=[]/\res.length+rs.length<=one.length+other.length)
   ⟨_,du,res,rs,l',zs,rfl,rfl,s4,jI,iD,i8,W4,ez,hX,fa,oe,by lia⟩ ?_
  clear hX fa oe fb ez W4 iD i8 jI s4 Kq res rs l' zs du H4;rintro mm σ H5 ⟨du,res,rs,l',zs,rfl,rfl,s5,nr,iD,i8,W5,ez,hX,fa,oe,nF⟩;have YT:=Paired.length iD;refine aZ<|Kj (C:=C) rfl rfl W5<|au<|vp ⟨_,rfl,?_⟩;cases rs with
  |nil=>
   refine iF ?_ rfl;rw[show aL []=[] from rfl,zae] at ez
   subst ez;obtain⟨J,CH⟩:=YN CJ oW i8 (by simp at nF;lia) YQ hX
   refine bI<|bZ oN rfl<|aq<|ae rfl<|aE ⟨c,du,res,rfl,nr,iD,by simp at nF;lia,CH,fun d H6 ws s6 hd h6 oX=>?_⟩
   exact q d H6 ws _ (s5.trans s6) (s5.free hd) h6 oX J
  |cons p t=>
   have qK:=W5.ok p (.head _);obtain⟨Yy,Cz⟩:=sU qK;have nC:∃s,p=.cut s:=by
    have rL:=Kh _ _ fa oe;cases p with
    |cut s=>exact⟨s,rfl⟩
    |keep n=>
     exfalso
     have gf:(1:Int)<=n:=qK;obtain⟨c',e⟩:=rL .K (by rw[gi];refine zaA _ ?_;show At.K∈rK n.toNat;unfold rK;rw[List.mem_replicate];exact⟨by lia,rfl⟩)
     cases e
    |put s=>
     exfalso
     obtain⟨c0,r0,e0⟩:=Cg qK.2;obtain⟨c',e⟩:=rL (.P c0) (by rw[gi];refine zaA _ ?_;show At.P c0∈s.cps.toList.map At.P;rw[e0];exact .head _)
     cases e
   obtain⟨s,rfl⟩:=nC;have ta:cx (.cut s) (bq<|.cut s)=.cut s:=take_all _ trivial;have re:hV (.cut s) t (bq<|.cut s)=t:=if_pos rfl;refine iT ⟨_,fun σ' H' z=>z,?_⟩ rfl;refine bN<|fg<|ae rfl ⟨.inl ⟨rfl,_,av.of nr⟩,Cu (C:=C) (k:=bq (.cut s)) rfl rfl W5 Cz (zqR _) (fun Q' hq=>Ct (C:=C) rfl rfl W5 hq) fun pa H6 b6 nA t9 W6=>?_⟩;rw[ta] at nA;rw[re] at W6;have uY:H6 c=some (.lst du):=b6 _ _ nr vt;obtain⟨_,_,_,Y3⟩:=W5.ob
   simp only[zaq] at nF
   refine⟨du,uY,dJ (by lia),?_⟩
   have tt:d6 H6 (upd H6 c<|.lst<|du++[V.ref pa]):=aP.upd.bC uY;rw[gi] at fa oe ez;obtain⟨la,lb,rfl,g1,g2,g3⟩:=qG _ _ fa;rw[g3] at oe;refine⟨t.length,by simp,du++[V.ref pa],res++[.cut s],t,lb,zs++bP (.cut s),rfl,rfl,CL<|Kp s5 b6,ax,aX.snoc ((iD.mono<|b6.yG Y3).mono tt) ⟨pa,rfl,tt _ _ nA⟩,?_,W6.but aP.upd uY vv,by rw[ez,zah],?_,g2,(List.append_eq_nil_iff.mp oe).2,by simp;lia⟩
   ·intro x hx;rcases zaa.mp hx with z|z
    ·exact i8 x z
    ·rw[zad.mp z];exact qK
   ·rw[jK,lN];have:=hX.app (Cr s.cps.toList);rw[zae] at this;exact this
end L2.B
namespace L2.B
open PySem PySem.Spec PyProof.Rows
theorem Y4(ps:List Pt):aL (dg ps)=(aL ps).map sw:=by
 induction ps with
 |nil=>rfl
 |cons p ps ih=>
  have e:dg (p::ps)=p.oS::dg ps:=rfl;rw[e,gi,gi,zam,ih]
  congr 1
  cases p with
  |keep n=>show rK n.toNat=(rK n.toNat).map sw;unfold rK;rw[List.map_replicate];rfl
  |put s=>show s.cps.toList.map At.C=(s.cps.toList.map At.P).map sw;rw[zbh];rfl
  |cut s=>show s.cps.toList.map At.P=(s.cps.toList.map At.C).map sw;rw[zbh];rfl
structure qL (ps:List Pt) (l r:List Nat):Prop where
 ok:∀p∈ps,bO p
 ch:chainOk "" ps=true
 run:Run l ps r
def bk(ps:List Pt):List Pt:=nj (dg ps)
theorem qL.bk{l r:List Nat}(h:qL ps l r)(ht:aD ps<=100000):qL (bk ps) r l/\aD (B.bk ps)=aD ps/\(B.bk ps).length<=3*ps.length+2/\nb (aL<|B.bk ps)=nb ((aL ps).map sw):=by
 have vx:=Jx h.ok ht;have yN:=Xu vx;have lS:aD (dg ps)<=100000:=by rw[Cb];exact ht
 obtain⟨g1,g2,_⟩:=Js (dg ps) yN lS;have heq:=B8 (dg ps) yN;have hl:=Jt (dg ps);have hsl:(dg ps).length=ps.length:=by simp[dg]
 have vy:=JM (dg ps) fun p hp=>XO (yN p hp);rw[Y4] at vy;refine⟨⟨?_,?_,?_⟩,?_,?_,vy⟩
 ·unfold B.bk;rw[heq];exact g2
 ·unfold B.bk;rw[heq];exact g1
 ·unfold B.bk;rw[heq];exact JB h.run.oS
 ·unfold B.bk;rw[heq,Cd _ yN,Cb]
 ·unfold B.bk;lia
theorem vw.chg{one:List Pt}{l r:List Nat}(h:vw one other ps l r):qL ps l r:=⟨h.ok,h.ch,h.run⟩
theorem Y5:aL (fU [.keep (n:Int)])=rK n/\(∀p∈fU [.keep (n:Int)],bO p)/\chainOk "" (fU [.keep (n:Int)])=true/\(fU [.keep (n:Int)]).length<=1/\aD (fU [.keep (n:Int)])=0:=by
 have hr:∀p∈ [Pt.keep (n:Int)],iC p:=fun p hp=>by rw[zad.mp hp];show(0:Int)<= (n:Int);lia
 have e:fU [.keep (n:Int)]=if n=0 then [] else [.keep (n:Int)]:=by
  have e1:fU [.keep (n:Int)]=txt .put ""++txt .cut ""++(if ((0:Int)+(n:Int))=0 then [] else [.keep<|(0:Int)+(n:Int)]):=by
   show cT [("","",(0:Int)+(n:Int))]=_
   simp[cT,gM]
  rw[e1,txt_nil,txt_nil,Int.zero_add];by_cases h:n=0
  ·rw[if_pos h,if_pos (by lia)];rfl
  ·rw[if_neg h,if_neg (by lia)];rfl
 rw[e];by_cases h:n=0
 ·rw[if_pos h,h];exact⟨rfl,(fun p hp=>by cases hp),rfl,zqZ _,rfl⟩
 ·rw[if_neg h];refine⟨by rw[lN];show rK ((n:Int)).toNat=_;rw[zbb],(fun p hp=>?_),?_,zqR _,rfl⟩
  ·rw[zad.mp hp];show(1:Int)<= (n:Int);lia
  ·show(gL "keep" "" && true)=true;decide
theorem Y6{l:List Nat}:qL (fU [.keep (l.length:Int)]) l l:=by
 obtain⟨e,o,c,_,_⟩:=Y5 (n:=l.length);refine⟨o,c,?_⟩;have hf:fit l (aL<|fU [.keep (l.length:Int)]):=by
  rw[e];have:=(ye l [] []).mpr rfl;rw[zae,zae] at this;exact this
 have:=vd _ l (fun p hp=>yi<|o p hp) hf;rw[e] at this;have h2:=yf l [] [];rw[zae,zae] at h2;have h3:out [] ([]:List At)=[]:=rfl;rw[h2,h3,zae] at this;exact this
def dO(H:Hp)(b:Addr)(ps:List Pt)(l r:List Nat):Prop:= ∃xs,H b=some (.lst xs)/\aX H xs ps/\qL ps l r
theorem dO.same{b:Addr}{l r:List Nat}(h:dO H b ps l r)(s:aA H H'):dO H' b ps l r:=by
 obtain⟨xs,h1,h2,h3⟩:=h;exact⟨xs,s _ _ h1,h2.mono<|df s,h3⟩
theorem dO.keep{b:Addr}{l r:List Nat}(h:dO H b ps l r)(hb:∀o,H b=some o->H' b=some o)(t:d6 H H'):dO H' b ps l r:=by
 obtain⟨xs,h1,h2,h3⟩:=h;exact⟨xs,hb _ h1,h2.mono t,h3⟩
theorem dO.chg{b:Addr}{l r:List Nat}(h:dO H b ps l r):qL ps l r:=by
 obtain⟨_,_,_,h⟩:=h;exact h
section
variable {H:Hp}{Q:VK}{E:XK}
theorem Y7{b:Addr}{one:List Pt}{l m r:List Nat}(h1:dO H a one l m)(h2:dO H b other m r)(hl:one.length+other.length<=30000)(ht:aD one+aD other<=100000)
  (q:∀c H' ps,aA H H'->H c=none->dO H' c ps l r->vw one other ps l r->Q (.ref c) H'):yL [.ref a,.ref b] H Q E:=by
 obtain⟨xs,a1,a2,a3⟩:=h1;obtain⟨ys,b1,b2,b3⟩:=h2;exact⟨a,b,xs,ys,one,other,l,m,r,rfl,a1,b1,a2,b2,a3.ok,b3.ok,a3.ch,b3.ch,hl,ht,a3.run,b3.run,fun c H' zs ps s hc h3 h4 J=>q c H' ps s hc ⟨zs,h3,h4,J.chg⟩ J⟩
theorem Y8{l r:List Nat}(h:dO H a ps l r)(hl:ps.length<=30000)(ht:aD ps<=100000)
  (q:∀c H',aA H H'->H c=none->dO H' c (bk ps) r l->Q (.ref c) H'):ya [.ref a] H Q E:=by
 obtain⟨xs,a1,a2,a3⟩:=h;exact⟨a,xs,ps,rfl,a1,a2,a3.ok,a3.ch,by lia,ht,fun c H' ys s hc h3 h4=>q c H' s hc ⟨ys,h3,h4,(a3.bk ht).1⟩⟩
theorem Y9{x:Str}{r:List Nat}(hx:good x)(h:dO H a ps x.cps.toList r)(hr:r.length<=1000000)(q:Q (.str ⟨r.toArray⟩) H):yq [.str x,.ref a] H Q E:=by
 obtain⟨xs,a1,a2,a3⟩:=h;exact⟨x,a,xs,ps,r,rfl,hx,a1,a2,fun p hp=>x4<|a3.ok p hp,a3.run,hr,q⟩
end
end L2.B
namespace L2.B
open PySem PySem.StrLaws
end L2.B
namespace L2.B
open PySem PySem.Spec PyProof.Rows
end L2.B
namespace L2.B
open PySem PySem.Spec PyProof.Rows
theorem cp{K:Frag}{sd:Addr->List (Key×V)->Prop}{i:Int}(h:H a=some (.lst xs))(e:gc xs i=some v)(q:Q v H):lA K sd (.ref a) (.int i) H Q:=
 .inl ⟨_,_,_,_,rfl,rfl,av.of h,e,q⟩
end L2.B
namespace L2
open PySem PySem.Spec PyProof.Rows
theorem lU{α:Type _}{p:α->Prop}:∀x∈ ([]:List α),p x:=fun _ h=>nomatch h
theorem lV{α:Type _}{p:α->Prop}{a:α}{l:List α}(h:p a)(t:∀x∈l,p x):∀x∈a::l,p x:=List.forall_mem_cons.2 ⟨h,t⟩
inductive jO (w:World):List DictEntry->List (Key×V)->List (Key×Value)->Prop
 |nil:jO w [] [] []
 |cons {x:Str}{t:Tok}{v:V}{u:Value}{es:List DictEntry}{kvs:List (Key×V)}{vs:List (Key×Value)}:RelV v u->jO w es kvs vs->
   jO w (⟨PyData.keyHash w.params x,.str x t,u⟩::es) ((.inr x,v)::kvs) ((.inr x,u)::vs)
section
variable {P:Program}{w:World}{K:Frag}
theorem jO.kv{es:List DictEntry}{kvs:List (Key×V)}{vs:List (Key×Value)}(h:jO w es kvs vs):KV kvs vs:=by
 induction h with
 |nil=>exact .nil
 |cons r _ ih=>exact .cons ⟨rfl,r⟩ ih
theorem jO.pairs{es:List DictEntry}{kvs:List (Key×V)}{vs:List (Key×Value)}(h:jO w es kvs vs):Pairs (dS P w) es vs:=by
 induction h with
 |nil=>exact .nil
 |cons r _ ih=>exact .cons (vV P w _ _) rfl ih
theorem jO.keys{es:List DictEntry}{kvs:List (Key×V)}{vs:List (Key×Value)}(h:jO w es kvs vs):∀e∈es,∃k,(dS P w).is k e.key=true/\e.hash=(dS P w).hash k:=by
 induction h with
 |nil=>intro e he;cases he
 | @cons x t v u es kvs vs r _ ih=>
  intro e he;rcases zac.mp he with rfl|he
  ·exact⟨.inr x,vV P w _ _,rfl⟩
  ·exact ih e he
theorem jO.same{es:List DictEntry}{kvs:List (Key×V)}{vs:List (Key×Value)}(h:jO w es kvs vs):vs.map (·.1)=kvs.map (·.1):=by
 induction h with
 |nil=>rfl
 |cons r _ ih=>simp only[zax,ih]
theorem Y_{p:Addr}{es:Array DictEntry}{kvs:List (Key×V)}{vs:List (Key×Value)}(hl:K.lookup p=some ⟨.type "dict",none,.dict es n,#[]⟩)(hk:jO w es.toList kvs vs)(nd:(kvs.map (·.1)).Nodup):xO P w K (p,kvs):=fun h X=>
 ⟨vs,hk.kv,_,es,n,X p _ hl,⟨rfl,rfl,rfl⟩,rfl,(fun e he=>hk.keys e (by simpa using he)),hk.pairs,by rw[hk.same];exact nd⟩
end
section
variable {P:Program}{w:World}{K:Frag}{mg:Str->Option Value}{base:Heap}{k:Nat}
theorem cI.or{CX:cg}{f:Addr}{fd:FuncData}{ps:List Str}{a b:Sp}(A:cI P w K mg base CX k f fd ps a)(C:cI P w K mg base CX k f fd ps b):cI P w K mg base CX k f fd ps (B.sT a b):=
 ⟨fun vs H Q E h=>h.elim (A.len vs H Q E)<|C.len vs H Q E,fun A' outer s H args us vs Q E hr e0 hb hv hs=>hs.elim (A.run A' outer s H args us vs Q E hr e0 hb hv)<|C.run A' outer s H args us vs Q E hr e0 hb hv⟩
theorem cI.weak{CX:cg}{f:Addr}{fd:FuncData}{ps:List Str}{a b:Sp}(A:cI P w K mg base CX k f fd ps b)(h:∀vs H Q E,a vs H Q E->b vs H Q E):cI P w K mg base CX k f fd ps a:=
 ⟨fun vs H Q E q=>A.len vs H Q E<|h _ _ _ _ q,fun A' outer s H args us vs Q E hr e0 hb hv hs=>A.run A' outer s H args us vs Q E hr e0 hb hv<|h _ _ _ _ hs⟩
theorem lH.weak{x:Str}{a b:Sp}(T:lH P w K mg base k x b)(h:∀vs H Q E,a vs H Q E->b vs H Q E):lH P w K mg base k x a:=by
 obtain⟨f,fd,ps,F,r⟩:=T;exact⟨f,fd,ps,F.weak h,r⟩
theorem hU.weak{x:Str}{a b:Sp}(T:hU P w K mg base k (x,C,b))(h:∀vs H Q E,a vs H Q E->b vs H Q E):hU P w K mg base k (x,C,a):=by
 obtain⟨c,f,fd,ps,m,F,r⟩:=T;exact⟨c,f,fd,ps,m,F.weak h,r⟩
open PySem.W in
theorem Za{x:Str}(X:K.In base)(G:base.Ns mainGlobals mg)(e:nsIn K mainGlobals x=some (some<|.ref C))(q:excIn K C [.type "ValueError",.type "Exception",.type "BaseException",.type "object"] "ValueError.__new__"=true):xQ mg base (x,C):=by
 refine⟨_,_,_,_,⟨mg_of X G e,?_⟩,PySem.F.excBase_ValueError⟩;unfold excIn at q
 split at q
 ·rename_i dd cd sl ho
  split at q
  ·rename_i C' bm k0 k1 k2 k3 n k5 hm hs
   simp only[zaf,beq_iff_eq,zaO] at q
   obtain⟨⟨⟨⟨⟨rfl,rfl⟩,Ks⟩,ht⟩,aB⟩,xp⟩:=q;obtain⟨nm,bs,mro,ns,qn,hd,sn,sub,ab,col,del⟩:=cd
   dsimp only at hm Ks aB xp
   subst hm Ks;obtain⟨sl⟩:=sl;have qC:sl=_:=hs;subst qC;exact⟨bm,ns,nm,qn,bs,hd,sn,sub,ab,col,dd,k0,k1,k2,k3,k5,_,X _ _ ho,.of_isNs<|isNs_of_in X aB,nsMap_none_of_in X aB xp,tail_of_in X ht⟩
  ·cases q
 ·cases q
end
end L2
namespace L2.B
open PySem PySem.Spec PyProof.Rows
def qM(v:V)(lo hi:Int)(H:Hp):Prop:=lO v H\/∃i,v=.int i/\(i<lo\/hi<i)
def CO:Sp:=fun vs H Q E=>∃(v:V) (lo hi:Int),vs=[v,.int lo,.int hi]/\((∃i,v=.int i/\lo<=i/\i<=hi/\Q (.bl true) H)\/(qM v lo hi H/\Q (.bl false) H))
theorem Zb{K:Frag}:bE (CO) (fun E=>aO K [("is_whole",oT)] [] (E:=E)) H_ H9:=by
 intro vs H Q E h;have chain:∀(i lo hi:Int) (b:Bool) H,decide (lo<=i/\i<=hi)=b->Q (.bl b) H->ah (aO K [("is_whole",oT)] [] (E:=E)) (.uB .LtE .LtE (.v 1) (.v 0)<|.v 2) [some<|.int i,some<|.int lo,some<|.int hi] H Q:=by
  intro i lo hi b H hb q;refine⟨_,rfl,_,rfl,trivial,_,rfl,?_⟩;refine gE (fun h1=>?_)<|fun h1=>?_
  ·refine⟨_,rfl,trivial,?_⟩;have m8:lo<=i:=of_decide_eq_true h1;have e:decide (i<=hi)=b:=by rw[<-hb];simp[m8]
   show Q (.bl<|decide<|i<=hi) H;rw[e];exact q
  ·have m8:¬lo<=i:=fun z=>h1 (zqT z);have e:b=false:=by rw[<-hb];simp[m8]
   have e2:decide (lo<=i)=false:=zqF m8;rw[e] at q
   first
    |exact q
    | (show Q (.bl<|decide<|lo<=i) H;rw[e2];exact q)
 obtain⟨v,lo,hi,rfl,⟨i,rfl,h1,h2,q⟩|⟨hn|⟨i,rfl,hb⟩,q⟩⟩:=h
 ·exact⟨_,rfl,_,rfl,.inl ⟨i,rfl,_,rfl,fF<|chain i lo hi true H (by simp[h1,h2]) q⟩⟩
 ·exact⟨_,rfl,_,rfl,.inr ⟨hn,_,rfl,iu q⟩⟩
 ·exact⟨_,rfl,_,rfl,.inl ⟨i,rfl,_,rfl,fF<|chain i lo hi false H (by rw[zqF];rintro⟨a,b⟩;lia) q⟩⟩
end L2.B
namespace L2
open PySem PySem.Spec PyProof.Rows
section
variable {Γ:bx}{D:Ends}{σ:St}{H:Hp}{r:List RS}{Q:VK}{QA:List V->Hp->Prop}{QT:Bool->Hp->Prop}
theorem fV{K:Frag}{b:Bool}{QB:Bool->Prop}(h:QB b):j6 K (.bl b) H QB:=h
theorem gj{a:RE}(h:bA Γ a σ H fun b H1=>QT (!b) H1):bA Γ (.not a) σ H QT:=h
theorem hZ(sp:Sp)(hs:Γ.fs j=sp)(h:aY Γ as σ H fun vs H1=>sp vs H1 (fun x H2=>j6 Γ.K x H2 fun b=>QT b H2) Γ.E):bA Γ (.call j as) σ H QT:=by
 subst hs;show aY Γ as σ H fun vs H1=>Γ.fs j (vs++[]) H1 (fun x H2=>j6 Γ.K x H2 fun b=>QT b H2) Γ.E;have e:(fun(vs:List V) (H1:Hp)=>Γ.fs j (vs++[]) H1 (fun x H2=>j6 Γ.K x H2 fun b=>QT b H2) Γ.E)=fun vs H1=>Γ.fs j vs H1 (fun x H2=>j6 Γ.K x H2 fun b=>QT b H2) Γ.E:=by
  funext vs H1;rw[zae]
 rw[e];exact h
theorem nG{a b:RE}(h:bA Γ a σ H fun c H1=>if c=true then QT true H1 else bA Γ b σ H1 QT):bA Γ (.or [a,b]) σ H QT:=h
theorem sX{a b:RE}(h:bA Γ a σ H fun c H1=>if c=true then bA Γ b σ H1 QT else QT false H1):bA Γ (.and [a,b]) σ H QT:=h
end
end L2
namespace L2.B
open PySem PySem.Spec PyProof.Rows
section
variable {Γ:bx}{σ:St}{H:Hp}{Q:VK}{QT:Bool->Hp->Prop}{K:Frag}
theorem qN{a b:RE}{r:List RE}(h:bA Γ a σ H fun c H1=>if c=true then bA Γ (.and (b::r)) σ H1 QT else QT false H1):bA Γ (.and (a::b::r)) σ H QT:=h
theorem Kt{a:RE}(h:bA Γ a σ H QT):bA Γ (.and [a]) σ H QT:=h
theorem Zc{T:Ty}{a:RE}(h:ah Γ a σ H fun x H1=>bX T x H1 fun b=>QT b H1):bA Γ (.g7 T a) σ H QT:=by
 show gG Γ.K (fZ (om T)<|dF (ah Γ a)<|dF (tC<|.ty T.nm) iq) σ H QT;have e:∀q,(fun(x:V) (H1:Hp)=>bX T x H1 fun b=>q (.bl b) H1)=fun x H1=>om T [x,.ty T.nm] H1 q:=by
  intro q;funext x H1;simp[om]
 show ah Γ a σ H fun x H1=>om T [x,.ty T.nm] H1 fun v H2=>j6 Γ.K v H2 fun b=>QT b H2;rw[<-e];exact h
theorem qO{sd:Addr->List (Key×V)->Prop}{i:Int}(h:H a=some (.tup xs))(e:gc xs i=some v)(q:Q v H):lA K sd (.ref a) (.int i) H Q:=
 .inr (.inl ⟨_,_,_,_,rfl,rfl,aM.of h,e,q⟩)
theorem eG{x y:Int}(q:Q (.bl<|decide<|x=y) H):dG K .Eq (.int x) (.int y) H Q:=by
 show Q (.bl<|false ^^ decide (V.int x=V.int y)) H;rw[zaM,show decide (V.int x=V.int y)=decide (x=y) from decide_eq_decide.mpr ⟨fun z=>by injection z,fun z=>by rw[z]⟩];exact q
theorem yO{x y:Int}(q:Q (.bl<|!decide (x=y)) H):dG K .NotEq (.int x) (.int y) H Q:=by
 show Q (.bl<|true ^^ decide (V.int x=V.int y)) H;rw[zaS,show decide (V.int x=V.int y)=decide (x=y) from decide_eq_decide.mpr ⟨fun z=>by injection z,fun z=>by rw[z]⟩];exact q
theorem jn{i j:Int}(h:Q (.int<|i+j) H):rQ K .Add (.int i) (.int j) H Q:=h
end
end L2.B
namespace L2.N
open PySem PySem.Spec PyProof.Rows L2.B
end L2.N
namespace L2.N
open PySem PySem.Spec L2.B
theorem cM{r:List RS}(h:ay Γ r D σ H):ay Γ [] {D with nx:=ay Γ r D} σ H:=h
end L2.N
namespace L2.B
open PySem PySem.Spec PyProof.Rows
theorem Zd{K:Frag}{QQ:List V->Hp->Addr->Prop}{te:TE}{lo:Int}(hl:n<=1000000)(P:Nat->List V->Hp->Prop)(p0:P 0 [] H)
  (step:∀i ys H2,i<n->aA H H2->P i ys H2->∀Q':VK,(∀y H3,aA H2 H3->P (i+1) (ys++[y]) H3->Q' y H3)->te (some (.int<|lo+i)::cb σ fv) H2 Q')
  (fin:∀ys H2 p,aA H H2->P n ys H2->H2 p=none->QQ ys H2 p):∃W:Nat->Nat->List V->Hp->Prop,(∃m,W 0 m [] H)/\∀i m ys H2,W i m ys H2->
   ((eK lo n).stop i H2/\∀p,H2 p=none->QQ ys H2 p)\/
   ((eK lo n).go i H2/\∀x H3,(eK lo n).fB i H2 x H3->iN K none x H3 fun zs=>jZ none (zs.map some++cb σ fv) H3 fun b H5=>
    if b=true then te (zs.map some++cb σ fv) H5 fun y H6=>ys.length<sizeLine/\∃m',m'<m/\W (i+1) m' (ys++[y]) H6 else ∃m',m'<m/\W (i+1) m' ys H5):=by
 refine⟨fun i m ys H2=>m=n - i/\i<=n/\ys.length=i/\aA H H2/\P i ys H2,⟨_,rfl,zqZ _,rfl,aA.refl _,p0⟩,?_⟩;rintro i m ys H2 ⟨rfl,hi,hy,s,p⟩;by_cases aN:i<n
 ·refine .inr ⟨aN,?_⟩;rintro x H3 ⟨rfl,rfl⟩;exact step i ys _ aN s p _ fun y H4 s4 p4=>⟨dJ (by lia),n - (i+1),by lia,rfl,aN,by simp[hy],s.trans s4,p4⟩
 ·have iA:i=n:=by lia
  subst iA;exact .inl ⟨zqR _,fun q hq=>fin ys _ q s p hq⟩
end L2.B
namespace L2.N
open PySem PySem.Spec L2.B
section
variable {Γ:bx}{D:Ends}{σ:St}{H:Hp}{r:List RS}{Q:VK}
theorem qP{x:RE}(A B:VK)(eF:∀v H1,A v H1↔B v H1)(ha:ah Γ x σ H A):ah Γ x σ H B:=by
 have:A=B:=funext fun x=>funext fun H1=>propext (eF x H1);rw[<-this];exact ha
theorem CQ{m:Str}{a b:RE}(C:Addr)(sp:Sp)(hm:Γ.ms j=(C,sp))(h:ah Γ o σ H fun x H1=>∃p dx fs,x=.ref p/\H1 p=some (.ins C dx fs)/\fs.lookup m=none/\ah Γ a σ H1 fun y H2=>ah Γ b σ H2 fun z H3=>sp [x,y,z] H3 Q Γ.E):ah Γ (.bz j m o [a,b]) σ H Q:=by
 show pL (Γ.ms j).1 m (Γ.ms j).2 [] Γ.E (ah Γ o) (aY Γ [a,b]) σ H Q;rw[hm];exact h
theorem dP{x:RE}(h:ah Γ x σ H fun v H1=>uk Γ.K v H1 fun n=>Q (.int n) H1):ah Γ (.blt .len [x]) σ H Q:=h
end
section
variable {Γ:bx}{D:Ends}{σ:St}{H:Hp}{r:List RS}{Q:VK}{QT:Bool->Hp->Prop}
theorem oY{f:Str}(h:ah Γ e σ H fun v H1=>ah Γ o σ H1 fun x H2=>∃a C dx fs,x=.ref a/\H2 a=some (.ins C dx fs)/\fY Γ.K C/\fP Γ.K C f/\fs.length<1000/\ay Γ r D σ (upd H2 a<|.ins C dx<|cf f v fs)):ay Γ (.gF o f e::r) D σ H:=h
end
theorem CS{r:List RS}{x:RE}(h:ah Γ x σ H fun v H1=>∃a,v=.ref a/\(∃xs,av Γ.K H1 a xs)/\∃W:Nat->Nat->St->Hp->Prop,(∃m,W 0 m σ H1)/\∀j m σ H,W j m σ H->
  ((eZ Γ.K a).stop j H/\({D with nx:=ay Γ r D}:Ends).nx σ H)\/((eZ Γ.K a).go j H/\∃N:St->Hp->Prop,(∀σ' H',N σ' H'->∃m',m'<m/\W (j+1) m' σ' H')/\∀x H',(eZ Γ.K a).fB j H x H'->fX i x σ H' fun σ2 H2=>ay Γ body {({D with nx:=ay Γ r D}:Ends) with nx:=N,ct:=N,bk:=({D with nx:=ay Γ r D}:Ends).nx} σ2 H2)):
  ay Γ (.j0 i .list [x] body::r) D σ H:=qP (x:=x) _ _ (fun _ _=>Iff.rfl) h
theorem Ze:(("keep":Str)==("cut":Str))=false:=by decide+kernel
theorem Zf:(("cut":Str)==("cut":Str))=true:=by decide+kernel
theorem CT{l r:List Nat}{n:Int}(h:Run l (.keep n::ps) r):∃a l' r',l=a++l'/\r=a++r'/\n=a.length/\Run l' ps r':=by
 cases h with|keep e h=>exact⟨_,_,_,rfl,rfl,e,h⟩
theorem Ku{l r:List Nat}(h:Run l (.put s::ps) r):∃r',r=s.cps.toList++r'/\Run l ps r':=by
 cases h with|put h=>exact⟨_,rfl,h⟩
theorem Kv{l r:List Nat}(h:Run l (.cut s::ps) r):∃l',l=s.cps.toList++l'/\Run l' ps r:=by
 cases h with|cut h=>exact⟨_,rfl,h⟩
theorem Zg:(("put":Str)==("put":Str))=true:=by decide+kernel
theorem Zh:(("keep":Str)==("put":Str))=false:=by decide+kernel
theorem Zi:(("cut":Str)==("put":Str))=false:=by decide+kernel
theorem Zj:(("cut":Str)==("keep":Str))=false:=by decide+kernel
theorem Zk{K:Frag}:bE (yq) (fun E=>aO K [] [] (E:=E)) Ic Ib:=by
 intro vs H Q E h;obtain⟨x,a,xs,ps,r,rfl,hx,ha,cZ,aB,hr,Cv,q⟩:=h;have hlen:=Paired.length cZ;refine⟨_,rfl,a,rfl,⟨_,av.of ha⟩,kT (K:=K) (a:=a) (xs:=xs) (fun i σ H2=>∃l1 l2 q1 q2 w v,σ=[some (.str x),some (.ref a),some (.str ⟨q1.toArray⟩),some (.int ((l1.length:Nat):Int)),w,v]/\H2=H/\
   x.cps.toList=l1++l2/\r=q1++q2/\Run l2 (ps.drop i) q2)
  ⟨[],x.cps.toList,[],r,none,none,rfl,rfl,rfl,rfl,hr⟩ (fun i σ H2 _ ⟨_,_,_,_,_,_,_,e,_⟩=>e ▸ av.of ha) ?_ ?_⟩
 ·rintro i y σ H2 hi ⟨l1,l2,q1,q2,w,v,rfl,rfl,e1,e2,gP⟩;obtain⟨pt,qr,b,rfl,hb⟩:=cZ.get hi;have fI:i<ps.length:=(zal.mp qr).1;have ed:ps.drop i=pt::ps.drop (i+1):=by
   rw[zbr fI]
   congr 1
   exact zao<|(zar fI).symm.trans qr
  rw[ed] at gP;obtain⟨la,lb,qa,qb,rfl,rfl,CU,one⟩:=Jz gP;have Zl:=aB pt (zak qr);have Kw:q1.length+qa.length<=1000000:=by rw[e2] at Cv;simp at Cv;lia
  refine⟨b,_,rfl,.inl<|aM.of hb,rfl,_,_,rfl,_,_,rfl,rfl,?_⟩;cases pt with
  |put s=>
   obtain⟨rfl,rfl⟩:=one;refine⟨_,rfl,_,rfl,_,rfl,_,rfl,cz (by rw[len_list,len_list];exact Kw),?_⟩
   refine⟨l1,lb,q1++s.cps.toList,qb,some<|.str "put",some<|.str s,?_,rfl,e1,by rw[e2];simp,CU⟩
   show[_,_,some<|V.str<|⟨q1.toArray⟩++s,_,_,_]=_;rw[show(⟨q1.toArray⟩++s:Str)=⟨(q1++s.cps.toList).toArray⟩ from jG (by rw[app_list])]
   rfl
  |cut s=>
   obtain⟨rfl,rfl⟩:=one;refine⟨_,rfl,_,rfl,_,rfl,_,rfl,_,rfl,_,rfl,cz Zl,?_⟩;refine⟨l1++s.cps.toList,lb,q1,qb,some<|.str "cut",some<|.str s,?_,rfl,by rw[e1];simp,e2,CU⟩
   show[_,_,_,some<|V.int<|(l1.length:Int)+(s.length:Int),_,_]=_;rw[zqA,<-len_list,zbJ]
   rfl
  |keep n=>
   obtain⟨rfl,hn⟩:=one;refine⟨_,rfl,_,rfl,_,rfl,_,rfl,?_⟩;refine⟨_,rfl,_,rfl,_,rfl,_,rfl,_,rfl,_,rfl,_,rfl,cz hx.1,?_⟩;rw[JC e1 n hn];refine⟨cz (by rw[len_list,len_list];exact Kw),?_⟩
   refine⟨_,rfl,_,rfl,?_⟩;refine⟨l1++la,lb,q1++la,qb,some<|.str "keep",some<|.int n,?_,rfl,by rw[e1];simp,by rw[e2];simp,CU⟩
   show[_,_,some<|V.str<|⟨q1.toArray⟩++ ⟨la.toArray⟩,some<|V.int<|(l1.length:Int)+n,_,_]=_;rw[show(⟨q1.toArray⟩++ ⟨la.toArray⟩:Str)=⟨(q1++la).toArray⟩ from jG (by rw[app_list]),zqA,hn,zbJ]
   rfl
 ·rintro σ H2 ⟨l1,l2,q1,q2,w,v,rfl,rfl,e1,e2,gP⟩;rw[hlen,zbX] at gP;cases gP;rw[zae] at e2;subst e2;exact⟨_,rfl,q⟩
theorem Kx{α β:Type}{R:α->β->Prop}:∀{ps:List β}{p:β}{xs:List α},Paired R xs (ps++[p])->∃lW x,xs=lW++[x]/\Paired R lW ps/\R x p
 |[],p,_,.cons h .nil=>⟨[],_,rfl,.nil,h⟩
 |q::ps,p,_,.cons h r=>by
  obtain⟨lW,x,e,a,b⟩:=Kx (ps:=ps) r;exact⟨_::lW,x,by rw[e];rfl,.cons h a,b⟩
section
variable {Γ:bx}{D:Ends}{σ:St}{H:Hp}{r:List RS}{Q:VK}
theorem h9{i:Int}(h:Q (.int<|-i) H):ah Γ (.neg<|.c<|.int i) σ H Q:=h
theorem sY{ix:RE}(h:ah Γ e σ H fun v H1=>ah Γ o σ H1 fun x H2=>ah Γ ix σ H2 fun y H3=>Al x y v H3 fun H4=>ay Γ r D σ H4):ay Γ (.set o ix e::r) D σ H:=h
theorem CV{is:List Nat}{x:RE}(h:ah Γ x σ H fun v H1=>∃a,v=.ref a/\(∃xs,av Γ.K H1 a xs)/\∃W:Nat->Nat->St->Hp->Prop,(∃m,W 0 m σ H1)/\∀j m σ H,W j m σ H->
  ((eZ Γ.K a).stop j H/\({D with nx:=ay Γ r D}:Ends).nx σ H)\/((eZ Γ.K a).go j H/\∃N:St->Hp->Prop,(∀σ' H',N σ' H'->∃m',m'<m/\W (j+1) m' σ' H')/\∀x H',(eZ Γ.K a).fB j H x H'->sj Γ.K is.length (p6 is) x σ H' fun σ2 H2=>ay Γ body {({D with nx:=ay Γ r D}:Ends) with nx:=N,ct:=N,bk:=({D with nx:=ay Γ r D}:Ends).nx} σ2 H2)):
  ay Γ (.j5 is .list [x] body::r) D σ H:=qP (x:=x) _ _ (fun _ _=>Iff.rfl) h
end
theorem Zm{K:Frag}{b:Addr}(ha:H a=some (.lst xs))(hb:H b=some (.lst []))(hx:aX H xs ps)(ho:∀p∈ps,km p)(q:Q (.bl<|decide<|ps≠ []) H):
  dG K .NotEq (.ref a) (.ref b) H Q:=by
 refine⟨.list<|ps.map toD,.list [],⟨a,xs,rfl,ha,Jw hx⟩,⟨b,[],rfl,hb,rfl⟩,Xs ho,(by decide),?_⟩
 have e:(true ^^ PyData.eqv (.list<|ps.map toD) (.list []))=decide (ps≠ []):=by
  cases ps with
  |nil=>rfl
  |cons p r=>rfl
 rw[e];exact q
theorem Ky{x w:Str}(mk:Str->Pt)(hw:(mk x).word=w)(hv:(mk x).val=.str x)(hσ:σ[i]?=some (some<|.str x))
  (k:∀b H' ys,aA H H'->H b=none->H' b=some (.lst ys)->aX H' ys (B.txt mk x)->Q (.ref b) H'):
  ah Γ (.bin .Mult (.lst [(.tup [(.c<|.str w),.v i])])<|.blt .int [(.cmp .NotEq (.v i)<|.c<|.str "")]) σ H Q:=by
 refine aK<|cm<|aq<|kq<|aq<|au<|aq<|ae hσ<|aE ⟨eJ,fun t ft=>aE ⟨dw,fun l fl=>?_⟩⟩;have s1:=sameNew (o:=.tup [.str w,.str x]) ft;have s2:=sameNew (o:=.lst [V.ref t]) fl;refine yn<|aq<|vj<|ae hσ<|au<|vp<|aE ?_;show AS (.ref l) (.int (if (x !=("":Str))=true then 1 else 0)) _ Q
 by_cases hx:x=""
 ·have e:(x !=("":Str))=false:=by rw[hx];decide
  rw[e];refine⟨l,0,[.ref t],rfl,rfl,ax,by decide,by decide,Nat.le_of_ble_eq_true rfl,fun p fp=>?_⟩
  exact k p _ _ ((s1.trans s2).trans<|sameNew fp) ((s1.trans s2).free fp) ax (by rw[hx,B.txt_nil];exact .nil)
 ·have e:(x !=("":Str))=true:=by simp[hx]
  rw[e];refine⟨l,1,[.ref t],rfl,rfl,ax,by decide,by decide,Nat.le_of_ble_eq_true rfl,fun p fp=>?_⟩
  refine k p _ [.ref t] ((s1.trans s2).trans<|sameNew fp) ((s1.trans s2).free fp) ax ?_;rw[B.gN hx];exact .cons ⟨t,rfl,by rw[hw,hv];exact(s2.trans<|sameNew fp) _ _ ax⟩ .nil
theorem Zn(n:Nat):f_ (n+1) (-1)=some n:=by
 unfold f_;have:¬(0:Int)<= -1:=by decide
 rw[if_neg this,if_pos (by lia)]
 congr 1
 lia
theorem CW:(("keep":Str)==("keep":Str))=true:=by decide+kernel
theorem Zo:(("put":Str)==("keep":Str))=false:=by decide+kernel
def jP(a:Str):List Pt->Str
 |[]=>a
 |p::r=>jP p.word r
theorem sZ:∀F a G,chainOk a (F++G)=(chainOk a F && chainOk (jP a F) G)
 |[],a,G=>by simp[chainOk,jP]
 |p::F,a,G=>by
  show(gL p.word a && chainOk p.word (F++G))=_;rw[sZ F p.word G,<-Bool.and_assoc];rfl
theorem vz:∀F a G,jP a (F++G)=jP (jP a F) G
 |[],a,G=>rfl
 |p::F,a,G=>vz F p.word G
structure Kz (F:List Pt):Prop where
 ok:∀p∈F,bO p
 ch:chainOk "" F=true
 la:jP "" F=""\/jP "" F="keep"
def tl(P C:Str):List Pt:=B.txt .put P++B.txt .cut C
theorem KA{w P C:Str}(h:w=""\/w="keep"):chainOk w (tl P C)=true:=by
 unfold tl;by_cases hp:P="" <;>by_cases hc:C=""
 ·rw[hp,hc,B.txt_nil,B.txt_nil];rfl
 ·rw[hp,B.txt_nil,B.gN hc];rcases h with rfl|rfl
  ·show(gL "cut" "" && true)=true;decide+kernel
  ·show(gL "cut" "keep" && true)=true;decide+kernel
 ·rw[hc,B.txt_nil,B.gN hp];rcases h with rfl|rfl
  ·show(gL "put" "" && true)=true;decide+kernel
  ·show(gL "put" "keep" && true)=true;decide+kernel
 ·rw[B.gN hp,B.gN hc];rcases h with rfl|rfl
  ·show(gL "put" "" && (gL "cut" "put" && true))=true;decide+kernel
  ·show(gL "put" "keep" && (gL "cut" "put" && true))=true;decide+kernel
theorem KC(P C:Str):(tl P C).length<=2:=by
 unfold tl B.txt;by_cases hp:P="" <;>by_cases hc:C="" <;>simp[hp,hc]
theorem KD{P C:Str}(hp:good P)(hc:good C):∀q∈tl P C,bO q:=by
 intro q hq;unfold tl B.txt at hq;rcases zaa.mp hq with h|h
 ·by_cases z:P=""
  ·rw[if_pos z] at h;cases h
  ·rw[if_neg z] at h;rw[zad.mp h];exact⟨hp,z⟩
 ·by_cases z:C=""
  ·rw[if_pos z] at h;cases h
  ·rw[if_neg z] at h;rw[zad.mp h];exact⟨hc,z⟩
theorem KG{l r:List Nat}{F:List Pt}{P C:Str}(h:Run l F r):Run (l++C.cps.toList) (F++tl P C) (r++P.cps.toList):=by
 have:=h.app (Cc (s:=P)|>.app (Jy (s:=C)));rw[zbe,zae] at this;exact this
theorem yP:∀{F G:List Pt}{l r:List Nat},Run l (F++G) r->∃l1 l2 r1 r2,l=l1++l2/\r=r1++r2/\Run l1 F r1/\Run l2 G r2
 |[],G,l,r,h=>⟨[],l,[],r,rfl,rfl,.nil,h⟩
 |.keep n::F,G,l,r,h=>by
  obtain⟨a,l',r',rfl,rfl,e,h'⟩:=CT h;obtain⟨l1,l2,r1,r2,rfl,rfl,h1,h2⟩:=yP (F:=F) h';exact⟨a++l1,l2,a++r1,r2,by simp,by simp,.keep e h1,h2⟩
 |.put s::F,G,l,r,h=>by
  obtain⟨r',rfl,h'⟩:=Ku h;obtain⟨l1,l2,r1,r2,rfl,rfl,h1,h2⟩:=yP (F:=F) h';exact⟨l1,l2,s.cps.toList++r1,r2,rfl,by simp,.put h1,h2⟩
 |.cut s::F,G,l,r,h=>by
  obtain⟨l',rfl,h'⟩:=Kv h;obtain⟨l1,l2,r1,r2,rfl,rfl,h1,h2⟩:=yP (F:=F) h';exact⟨s.cps.toList++l1,l2,r1,r2,by simp,rfl,.cut h1,h2⟩
theorem KH{l r:List Nat}(h:Run l [] r):l=[]/\r=[]:=by cases h;exact⟨rfl,rfl⟩
theorem yQ{c:List Nat}{n:Int}(h:n=c.length):Run c [.keep n] c:=by
 have:=Run.keep (a:=c) h Run.nil;rw[zae] at this;exact this
theorem CY(F:List Pt):(∃F' m,F=F'++[.keep m])\/((jP "" F=""\/jP "" F="put"\/jP "" F="cut")/\∀n,c7 F n=F++[.keep n]):=by
 rcases List.eq_nil_or_concat F with rfl|⟨F',p,hF⟩
 ·exact .inr ⟨.inl rfl,fun n=>rfl⟩
 ·rw[List.concat_eq_append] at hF;subst hF;cases p with
  |keep m=>exact .inl ⟨F',m,rfl⟩
  |put z=>exact .inr ⟨.inr<|.inl (by rw[vz];rfl),fun n=>u0 fun q hq=>by rw[zbZ] at hq;cases hq;rfl⟩
  |cut z=>exact .inr ⟨.inr<|.inr (by rw[vz];rfl),fun n=>u0 fun q hq=>by rw[zbZ] at hq;cases hq;rfl⟩
theorem Zp{F:List Pt}{l r c:List Nat}{n:Int}(h:Run l F r)(hn:n=c.length):Run (l++c) (c7 F n) (r++c):=by
 rcases CY F with⟨F',m,rfl⟩|⟨_,e⟩
 ·rw[u9];obtain⟨l1,l2,r1,r2,rfl,rfl,h1,h2⟩:=yP h;obtain⟨a,l',r',rfl,rfl,e,h'⟩:=CT h2;obtain⟨rfl,rfl⟩:=KH h';rw[zae,zah,zah];exact h1.app<|yQ (by rw[zqA,e,hn];lia)
 ·rw[e];exact h.app (yQ hn)
theorem Zq{F:List Pt}{n:Int}(h:∀p∈F,bO p)(hc:chainOk "" F=true)(hn:1<=n):Kz (c7 F n):=by
 rcases CY F with⟨F',m,rfl⟩|⟨hw,e⟩
 ·rw[u9];rw[sZ] at hc;have hm:1<=m:=h (.keep m) (by simp)
  refine⟨fun p hp=>?_,?_,.inr (by rw[vz];rfl)⟩
  ·rcases zaa.mp hp with q|q
   ·exact h p (by simp[q])
   ·rw[zad.mp q];show 1<=n+m;lia
  ·rw[sZ];exact hc
 ·rw[e];refine⟨fun p hp=>?_,?_,.inr (by rw[vz];rfl)⟩
  ·rcases zaa.mp hp with q|q
   ·exact h p q
   ·rw[zad.mp q];exact hn
  ·rw[sZ,hc];show(true && (gL "keep" (jP "" F) && true))=true;rcases hw with z|z|z<;>rw[z] <;>decide+kernel
theorem Zr{p:Pt}(h:bO p):km p:=by
 cases p with
 |keep n=>trivial
 |put s=>exact h.1.2
 |cut s=>exact h.1.2
theorem KI{w wd va:Option V}{f:Addr}{P C:Str}{F:List Pt}{wr:List RS}(hf:H f=some (.lst ys))(pv:aX H ys F)(hl:F.length<=900000)
  (k:∀f' H' dA,aA H H'->H f'=none->H' f'=some (.lst dA)->aX H' dA (F++tl P C)->ay Γ wr D [w,some<|.ref f',some<|.str "",some<|.str "",wd,va] H'):
  ay Γ (.asg 1 (.bin .Add (.bin .Add (.v 1) (.bin .Mult (.lst [(.tup [(.c (.str "put")),.v 2])]) (.blt .int [(.cmp .NotEq (.v 2) (.c (.str "")))]))) (.bin .Mult (.lst [(.tup [(.c (.str "cut")),.v 3])]) (.blt .int [(.cmp .NotEq (.v 3) (.c (.str "")))])))::
   .asg 2 (.c (.str "")):: .asg 3 (.c (.str ""))::wr) D [w,some (.ref f),some (.str P),some (.str C),wd,va] H:=by
 have lf:=Paired.length pv;refine bc<|aK<|aK<|ae rfl<|Ky .put rfl rfl rfl fun b1 H1 y1 s1 n1 h1 p1=>?_;have l1:=Paired.length p1;have g1:(B.txt .put P).length<=1:=by unfold B.txt;by_cases z:P="" <;>simp[z]
 refine .inl ⟨f,b1,ys,y1,rfl,rfl,s1 _ _ hf,h1,cz (by lia),fun b2 n2=>?_⟩
 have s2:=sameNew (o:=.lst (ys++y1)) n2;refine Ky .cut rfl rfl rfl fun b3 H3 y3 s3 n3 h3 p3=>?_;have l3:=Paired.length p3;have g3:(B.txt .cut C).length<=1:=by unfold B.txt;by_cases z:C="" <;>simp[z]
 refine .inl ⟨b2,b3,ys++y1,y3,rfl,rfl,s3 _ _ ax,h3,cz (by rw[zqA];lia),fun b4 n4=>?_⟩
 have s4:=sameNew (o:=.lst (ys++y1++y3)) n4;have yR:=s1.trans (s2.trans<|s3.trans s4);refine bc<|au<|bc<|au ?_;refine k b4 _ (ys++y1++y3) yR ((s1.trans<|s2.trans s3).free n4) ax ?_;unfold tl;rw[<-zah];exact B.Paired.app (B.Paired.app (pv.mono<|df yR)<|aX.mono (df<|s2.trans<|s3.trans s4) p1)<|aX.mono (df s4) p3
theorem Zs:(("end":Str)==("put":Str))=false:=by decide+kernel
theorem Zt:(("end":Str)==("cut":Str))=false:=by decide+kernel
theorem KJ:(("end":Str)==("keep":Str))=false:=by decide+kernel
theorem lX{K:Frag}{x y:Int}(q:Q (.bl<|decide<|y<x) H):dG K .Gt (.int x) (.int y) H Q:=⟨trivial,q⟩
theorem yS{x:Str}(h:sg x)(hl:x.length<=1000000):good x:=⟨hl,h⟩
section
variable {Γ:bx}{D:Ends}{σ:St}{H:Hp}{r:List RS}{Q:VK}
theorem KL{a lo hi:RE}(h:ah Γ a σ H fun x H1=>ah Γ lo σ H1 fun i H2=>∃i':Int,i=.int i'/\ah Γ hi σ H2 fun j H3=>∃j':Int,j=.int j'/\rW Γ.K x (some i') (some j') H3 Q):ah Γ (.sl a (some lo)<|some hi) σ H Q:=h
theorem KN{x:RE}(h:ah Γ x σ H fun v H1=>∃n:Int,[v]=[.int n]/\ -(2 ^ 62)<=n/\n<2 ^ 62/\∃W:Nat->Nat->St->Hp->Prop,(∃m,W 0 m σ H1)/\∀j m σ H,W j m σ H->
  ((eK 0 n.toNat).stop j H/\({D with nx:=ay Γ r D}:Ends).nx σ H)\/((eK 0 n.toNat).go j H/\∃N:St->Hp->Prop,(∀σ' H',N σ' H'->∃m',m'<m/\W (j+1) m' σ' H')/\∀x H',(eK 0 n.toNat).fB j H x H'->fX i x σ H' fun σ2 H2=>ay Γ body {({D with nx:=ay Γ r D}:Ends) with nx:=N,ct:=N,bk:=({D with nx:=ay Γ r D}:Ends).nx} σ2 H2)):
  ay Γ (.j0 i .gz [x] body::r) D σ H:=qP (x:=x) _ _ (fun _ _=>Iff.rfl) h
theorem Zu{b0:Addr}{w:Str}(hσ:σ[i]?=some (some<|.ref b0))(hb:H b0=some (.lst ys))(h:ah Γ e σ H fun v H1=>2<=sizeLine/\∀t,H1 t=none->∃zs,upd H1 t (.tup [.str w,v]) b0=some (.lst zs)/\zs.length<sizeLine/\ay Γ r D σ (upd (upd H1 t<|.tup [.str w,v]) b0<|.lst<|zs++[.ref t])):
  ay Γ (.drop (.bh .append (.v i) [(.tup [(.c<|.str w),e])])::r) D σ H:=
 bN (fg<|ae hσ ⟨.inl ⟨rfl,_,av.of hb⟩,kq<|aq<|au<|aq<|qP (x:=e) _ _ (fun _ _=>Iff.rfl) h⟩)
end
theorem push{b0:Addr}{p:Pt}{w:Str}{R:Hp->Prop}(s:aA H H1)(hb:H b0=some (.lst ys))(pv:aX H ys ps)(hl:ps.length<=900000)(hw:p.word=w)(hv:p.val=v)(k:∀H' dA,aP b0 H H'->H' b0=some (.lst dA)->aX H' dA (ps++[p])->R H'):
  2<=sizeLine/\∀t,H1 t=none->∃zs,upd H1 t (.tup [.str w,v]) b0=some (.lst zs)/\zs.length<sizeLine/\R (upd (upd H1 t<|.tup [.str w,v]) b0<|.lst<|zs++[.ref t]):=by
 refine⟨by decide,fun t ft=>?_⟩
 have s2:=s.trans (sameNew (o:=.tup [.str w,v]) ft);have lx:=Paired.length pv;have bb:aP b0 H (upd (upd H1 t<|.tup [.str w,v]) b0<|.lst<|ys++[.ref t]):=fun b o e ne=>by rw[aI ne];exact s2 _ _ e
 have nt:t≠b0:=fun z=>by rw[z,s _ _ hb] at ft;cases ft
 refine⟨ys,s2 _ _ hb,dJ (by lia),k _ _ bb ax ?_⟩
 exact B.Paired.app (pv.mono<|bb.bC hb)<|.cons ⟨t,rfl,by rw[aI nt,ax,hw,hv]⟩ .nil
theorem ltI{K:Frag}{x y:Int}(q:Q (.bl<|decide<|x<y) H):dG K .Lt (.int x) (.int y) H Q:=⟨trivial,q⟩
theorem Zv{t a b:RE}(h:bA Γ t σ H fun c H1=>if c=true then ah Γ a σ H1 Q else ah Γ b σ H1 Q):ah Γ (.pT t a b) σ H Q:=h
end L2.N
namespace L2.N
open PySem PySem.Spec L2.B
theorem Zw(xs:List V)(i j:Nat):eN xs (some (i:Int)) (some (j:Int))=(xs.drop i).take (j - i):=by
 unfold eN;rw[HT.nX,HT.nX];by_cases h:i<=xs.length
 ·by_cases h2:j<=xs.length
  ·rw[show min i xs.length=i by lia,show min j xs.length=j by lia]
  ·rw[show min i xs.length=i by lia,show min j xs.length=xs.length by lia,zaG (by rw[zaB];lia),zaG (by rw[zaB];lia)]
 ·rw[zbY (by lia),zbY (by lia),zbH,zbH]
def gV:Option Nat->V
 |none=>.az
 |some n=>.int n
section
variable {K:Frag}
end
section
variable {K:Frag}{CP C:Addr}
theorem Zx{b:Bool}{QT:Bool->Hp->Prop}(h:σ[i]?=some (some<|.bl b))(q:QT b H):bA Γ (.v i) σ H QT:=⟨_,h,q⟩
end
theorem CZ{a hi:RE}(h:ah Γ a σ H fun x H1=>ah Γ hi σ H1 fun j H3=>∃j':Int,j=.int j'/\rW Γ.K x none (some j') H3 Q):ah Γ (.sl a none<|some hi) σ H Q:=h
theorem KO(xs:List V)(n:Nat):eN xs none (some (n:Int))=xs.take n:=by
 unfold eN;rw[HT.Ag,HT.nX];show(xs.drop 0).take (min n xs.length - 0)=_;rw[zbn,Nat.sub_zero];by_cases h:n<=xs.length
 ·rw[Nat.min_eq_left h]
 ·rw[Nat.min_eq_right (by lia),zaG<|zqR _,zaG (by lia)]
section
variable {K:Frag}
theorem Zy{r:List RS}(h:ah Γ e σ H fun v H1=>ay Γ r D (σ.set i<|some v) H1):ay Γ (.rT i e::r) D σ H:=h
end
section
variable {K:Frag}
end
section
variable {K:Frag}
end
theorem C0{α:Type}{l:List α}{i:Nat}{x:α}(h:l[i]?=some x):l.take (i+1)=l.take i++[x]:=by
 have aN:i<l.length:=(zal.mp h).1;rw[List.take_succ_eq_append_getElem aN,(zal.mp h).2]
section
variable {K:Frag}
end
theorem Zz{K:Frag}{QQ:List V->Hp->Addr->Prop}{te:TE}{b:Addr}(ha:H a=some (.lst xs))(hb:H b=some (.lst ys))(hl:xs.length<=1000000)(P:Nat->List V->Hp->Prop)(p0:P 0 [] H)(pm:∀i zs H2 H3,P i zs H2->aA H2 H3->P i zs H3)
  (step:∀i x y zs H2,xs[i]?=some x->ys[i]?=some y->aA H H2->P i zs H2->∀Q':VK,(∀z H3,aA H2 H3->P (i+1) (zs++[z]) H3->Q' z H3)->te (some x::some y::cb σ fv) H2 Q')
  (fin:∀zs H2 p,aA H H2->P (min xs.length ys.length) zs H2->H2 p=none->QQ zs H2 p):∃W:Nat->Nat->List V->Hp->Prop,(∃m,W 0 m [] H)/\∀i m zs H2,W i m zs H2->
   ((j7 K a b).stop i H2/\∀p,H2 p=none->QQ zs H2 p)\/
   ((j7 K a b).go i H2/\∀x H3,(j7 K a b).fB i H2 x H3->iN K (some 2) x H3 fun ws=>jZ none (ws.map some++cb σ fv) H3 fun b H5=>
    if b=true then te (ws.map some++cb σ fv) H5 fun y H6=>zs.length<sizeLine/\∃m',m'<m/\W (i+1) m' (zs++[y]) H6 else ∃m',m'<m/\W (i+1) m' zs H5):=by
 refine⟨fun i m zs H2=>m=min xs.length ys.length - i/\i<=min xs.length ys.length/\zs.length=i/\aA H H2/\P i zs H2,⟨_,rfl,zqZ _,rfl,aA.refl _,p0⟩,?_⟩;rintro i m zs H2 ⟨rfl,hi,hy,s,p⟩;by_cases aN:i<min xs.length ys.length
 ·have h1:i<xs.length:=by lia
  have h2:i<ys.length:=by lia
  refine .inr ⟨⟨xs,ys,av.of<|s _ _ ha,av.of<|s _ _ hb,h1,h2⟩,?_⟩;rintro x H3 ⟨T,hT,rfl,hx⟩;have jX:=hx xs ys xs[i] ys[i] (av.of<|s _ _ ha) (av.of<|s _ _ hb) (zar h1) (zar h2);subst jX;have s3:=sameNew (o:=.tup [xs[i],ys[i]]) hT;refine⟨T,_,rfl,aM.of ax,rfl,?_⟩;exact step i xs[i] ys[i] zs _ (zar h1) (zar h2) (s.trans s3) (pm _ _ _ _ p s3) _ fun y H4 s4 p4=>⟨dJ (by lia),min xs.length ys.length - (i+1),by lia,rfl,aN,by simp[hy],(s.trans s3).trans s4,p4⟩
 ·have iA:i=min xs.length ys.length:=by lia
  subst iA;exact .inl ⟨⟨xs,ys,av.of<|s _ _ ha,av.of<|s _ _ hb,rfl⟩,fun q hq=>fin zs _ q s p hq⟩
section
variable {K:Frag}
end
section
variable {K:Frag}
end
section
variable {Γ:bx}{σ:St}{n:Nat}{H0:Hp}
theorem KP{a lo:RE}(h:ah Γ a σ H fun x H1=>ah Γ lo σ H1 fun j H3=>∃j':Int,j=.int j'/\rW Γ.K x (some j') none H3 Q):ah Γ (.sl a (some lo) none) σ H Q:=h
theorem ZA(h:aY Γ as σ H fun vs H1=>xT Γ.K vs H1 Q):ah Γ (.xt BN as) σ H Q:=h
theorem C1(xs:List V)(i:Nat):eN xs (some (i:Int)) none=xs.drop i:=by
 unfold eN;rw[HT.nX,HT.Ag];by_cases z:i<=xs.length
 ·rw[Nat.min_eq_left z,zaG (by rw[zaB];lia)]
 ·rw[Nat.min_eq_right (by lia),List.drop_eq_nil_of_le<|zqR _,List.drop_eq_nil_of_le (by lia),zbH]
end
theorem KQ(h:s.length=0):s="":=by
 have e:s.cps.toList=[]:=zcm (by rw[<-len_list];exact h)
 exact jG (by rw[e];rfl)
theorem s_:∀ps a,(∀p∈ps,bO p)->chainOk a ps=true->ps.length<=2*B.aD ps+(if a="keep" then 0 else 1)
 |[],a,_,_=>zqZ _
 |p::r,a,ho,hc=>by
  have eY:(gL p.word a && chainOk p.word r)=true:=hc;rw[zaf] at eY;have ih:=s_ r p.word (fun q hq=>ho q<|.tail _ hq) eY.2;have ht:B.aD (p::r)=B.eU p+B.aD r:=by simp[B.aD]
  have hp:=ho p (.head _);rw[zaq,ht];cases p with
  |keep n=>
   have e:(Pt.keep n).word=("keep":Str):=rfl;rw[e,if_pos rfl] at ih;have ha:a≠"keep":=by
    intro z;rw[e,z] at eY;have:=eY.1
    revert this
    decide+kernel
   rw[if_neg ha];show r.length+1<=2* (0+B.aD r)+1;lia
  |put s=>
   have e:(Pt.put s).word≠ ("keep":Str):=by show("put":Str)≠"keep";decide
   rw[if_neg e] at ih;have hs:1<=s.length:=by
    have:=hp.2;by_cases z:s.length=0
    ·exact absurd (KQ z) this
    ·lia
   show r.length+1<=2* (s.length+B.aD r)+_;lia
  |cut s=>
   have e:(Pt.cut s).word≠ ("keep":Str):=by show("cut":Str)≠"keep";decide
   rw[if_neg e] at ih;have hs:1<=s.length:=by
    have:=hp.2;by_cases z:s.length=0
    ·exact absurd (KQ z) this
    ·lia
   show r.length+1<=2* (s.length+B.aD r)+_;lia
def dh(H:Hp):List V->List Nat->List Nat->Nat->Prop
 |[],l,r,t=>l=r/\t=0
 |v::vs,l,r,t=>∃a ps m t',v=.ref a/\dO H a ps l m/\dh H vs m r t'/\t=B.aD ps+t'
theorem dh.same(s:aA H H'):∀{vs:List V}{l r:List Nat}{t:Nat},dh H vs l r t->dh H' vs l r t
 |[],_,_,_,h=>h
 |v::vs,_,_,_,⟨a,ps,m,t',e,h1,h2,h3⟩=>⟨a,ps,m,t',e,h1.same s,dh.same s h2,h3⟩
theorem dh.app:∀{xs ys:List V}{l m r:List Nat}{t t':Nat},dh H xs l m t->dh H ys m r t'->dh H (xs++ys) l r (t+t')
 |[],_,_,_,_,_,_,⟨e,z⟩,h=>by rw[e,z,Nat.zero_add];exact h
 |v::vs,_,_,_,_,_,_,⟨a,ps,m,t',e,h1,h2,h3⟩,h=>⟨a,ps,m,_,e,h1,dh.app h2 h,by rw[h3,Nat.add_assoc]⟩
theorem KR:∀xs (i:Nat),(dB xs)[i]?=xs[2*i]?
 |[],i=>by simp[dB]
 |[x],0=>by simp[dB]
 |[x],i+1=>by
  have:2* (i+1)=(2*i+1)+1:=by lia
  rw[this]
  simp[dB]
 |x::y::r,0=>by simp[dB]
 |x::y::r,i+1=>by
  have:2* (i+1)=(2*i)+1+1:=by lia
  rw[this,zbC,zbC,<-KR r i]
  simp[dB]
theorem C3:∀xs,(dB xs).length=(xs.length+1) / 2
 |[]=>by simp[dB]
 |[x]=>by simp[dB]
 |x::y::r=>by
  have e:dB (x::y::r)=x::dB r:=by simp[dB]
  rw[e,zaq,C3 r];show _=(r.length+1+1+1) / 2;lia
def C4:Sp:=fun vs H Q E=>∃(a:Addr) (xs:List V) (l r:List Nat) (t:Nat),vs=[.ref a]/\H a=some (.lst xs)/\dh H xs l r t/\1<=xs.length/\xs.length<=10000/\t<=14000/\
 ∀(c:Addr) (ps:List Pt) (H':Hp),aA H H'->dO H' c ps l r->B.aD ps<=t->(H c=none\/xs=[.ref c])->Q (.ref c) H'
def C5(H:Hp)(xs:List V):Prop:= ∃c r,xs=V.ref c::r/\H c=none
theorem ZC{H:Hp}{x y:V}(hx:xs[2*i]?=some x)(hy:xs[2*i+1]?=some y):xs.drop (2*i)=x::y::xs.drop (2* (i+1)):=by
 obtain⟨h1,e1⟩:=zal.mp hx;obtain⟨h2,e2⟩:=zal.mp hy;rw[zbr h1,zbr h2,e1,e2,show 2* (i+1)=2*i+1+1 by lia]
section
variable {K:Frag}
theorem ZD:bE (C4) (fun E=>aO K [("then",yL)] [] (E:=E)) Iw Iv:=by
 intro vs H Q E h;obtain⟨a0,lW,l,r,t,rfl,ha,hc,h1,h2,ht,q⟩:=h;refine sV (fun m σ H2=>∃(a:Addr) (xs:List V) (t2:Nat) (u1:Option V),m=xs.length/\σ=[some<|.ref a,u1]/\aA H H2/\H2 a=some (.lst xs)/\dh H2 xs l r t2/\1<=xs.length/\xs.length<=10000/\t2<=t/\(xs=lW\/C5 H xs)) ⟨_,a0,lW,t,none,rfl,rfl,aA.refl _,ha,hc,h1,h2,zqR _,.inl rfl⟩ ?_;rintro m σ H2 ⟨a,xs,t2,u1,rfl,rfl,s2,nz,da,k1,k2,k3,k4⟩;refine aZ<|dP<|ae rfl<|.inl ⟨_,av.of nz,au<|N.lX ⟨_,rfl,?_⟩⟩;by_cases z:1<xs.length
 ·refine iT ?_ (zqT (by lia))
  refine⟨fun σ' H'=>∃(a':Addr) (bB:List V) (t3:Nat) (u1:Option V),bB.length<xs.length/\σ'=[some<|.ref a',u1]/\aA H H'/\H' a'=some (.lst bB)/\dh H' bB l r t3/\1<=bB.length/\bB.length<=10000/\t3<=t/\(bB=lW\/C5 H bB),?_,?_⟩
  ·rintro σ' H' ⟨a',bB,t3,u1,aN,e,s',ki,eY,j1,j2,j3,j4⟩;exact⟨_,aN,a',bB,t3,u1,rfl,e,s',ki,eY,j1,j2,j3,j4⟩
  ·refine Zy ?_;refine⟨_,rfl,a,xs,rfl,av.of nz,(by decide),fun p1 f1=>?_⟩
   rw[WC];have s3:=sameNew (o:=.lst (dB xs)) f1;have nq:upd H2 p1 (.lst<|dB xs) p1=some (.lst<|dB xs):=ax;have tj:=s3 _ _ nz;generalize upd H2 p1 (.lst<|dB xs)=H3 at s3 nq tj⊢;refine⟨_,rfl,a,xs,rfl,av.of tj,(by decide),fun p2 f2=>?_⟩
   rw[WD];have s4:=sameNew (o:=.lst (dB<|xs.drop 1)) f2;have kY:upd H3 p2 (.lst<|dB<|xs.drop 1) p2=some (.lst<|dB<|xs.drop 1):=ax;have C6:=s4 _ _ nq;have KS:=s4 _ _ tj;generalize upd H3 p2 (.lst<|dB<|xs.drop 1)=H4 at s4 kY C6 KS⊢;have qQ:=s3.trans s4;have ZE:=dh.same qQ da;have KU:=C3 xs;have C7:=C3 (xs.drop 1);rw[zaB] at C7;refine⟨p1,p2,rfl,⟨_,av.of C6⟩,⟨_,av.of kY⟩,?_⟩;refine Zz C6 kY (by lia) (fun i zs H5=>zs.length=i/\(i=0\/C5 H zs)/\∃(m:List Nat) (t5 t6:Nat),dh H5 zs l m t5/\dh H5 (xs.drop<|2*i) m r t6/\t5+t6<=t) ⟨rfl,.inl rfl,l,0,t2,⟨rfl,rfl⟩,ZE,by lia⟩ (fun i zs H5 H6 ⟨e,nf,m,t5,t6,c1,c2,c3⟩ s=>⟨e,nf,m,t5,t6,dh.same s c1,dh.same s c2,c3⟩) ?_ ?_
   ·intro i x y zs H5 hx hy s5 ⟨ez,nf,m,t5,t6,c1,c2,c3⟩ Q' kk;rw[KR] at hx hy;have pN:xs[2*i+1]?=some y:=by
     rw[List.getElem?_drop] at hy;rw[show 2*i+1=1+2*i by lia];exact hy
    rw[ZC (H:=H5) hx pN] at c2;obtain⟨a1,jj,m1,t7,rfl,d1,⟨a2,C8,m2,t8,rfl,d2,c4,e8⟩,e7⟩:=c2;have n1:=s_ jj "" d1.chg.ok d1.chg.ch;have n2:=s_ C8 "" d2.chg.ok d2.chg.ch;have l1:jj.length<=2*B.aD jj+1:=n1;have l2:C8.length<=2*B.aD C8+1:=n2;refine bZ yL rfl<|aq<|ae rfl<|aq<|ae rfl<|aE<|Y7 d1 d2 (by lia) (by lia) fun c H6 ps s6 fc dc J=>kk _ _ s6 ?_
    have jt:=J.aD;refine⟨by rw[zqA,ez];rfl,.inr ?_,m2,t5+B.aD ps,t8,dh.app (dh.same s6 c1) ⟨c,ps,m2,0,rfl,dc,⟨rfl,rfl⟩,rfl⟩,dh.same s6 c4,by lia⟩
    have yT:H c=none:=(s2.trans<|qQ.trans s5).free fc;rcases nf with rfl|⟨c0,r0,rfl,f0⟩
    ·have:zs=[]:=zcm ez;subst this;exact⟨c,[],rfl,yT⟩
    ·exact⟨c0,r0++[.ref c],rfl,f0⟩
   ·intro zs H5 p5 s5 ⟨ez,nf,m,t5,t6,c1,c2,c3⟩ f5;rw[KU,C7] at ez c2;have en:min ((xs.length+1) / 2) ((xs.length - 1+1) / 2)=xs.length / 2:=by lia
    rw[en] at ez c2;have s6:=sameNew (o:=.lst zs) f5;have h5:upd H5 p5 (.lst zs) p5=some (.lst zs):=ax;have vA:=(s5.trans s6) _ _ KS;have Bn:=dh.same s6 c1;have xu:=dh.same s6 c2;generalize upd H5 p5 (.lst zs)=H6 at s6 h5 vA Bn xu⊢;have oZ:=(qQ.trans s5).trans s6;refine bc<|aK<|ae rfl<|KP<|ae rfl<|aK<|au<|dP<|ae rfl<|.inl ⟨_,av.of h5,⟨.inl ⟨by decide,by decide⟩,⟨_,rfl,.inl ⟨xs,av.of vA,fun w fw=>?_⟩⟩⟩⟩
    have ew:eN xs (some<|2* ((zs.length:Nat):Int)) none=xs.drop (2* (xs.length / 2)):=by
     rw[show 2* ((zs.length:Nat):Int)=((2* (xs.length / 2):Nat):Int) by rw[ez];lia,C1]
    rw[ew];have s7:=sameNew (o:=.lst (xs.drop<|2* (xs.length / 2))) fw;refine .inl ⟨p5,w,zs,_,rfl,rfl,s7 _ _ h5,ax,cz (by rw[zaB];lia),fun a' ZF=>?_⟩
    have s8:=sameNew (o:=.lst (zs++xs.drop (2* (xs.length / 2)))) ZF;refine⟨a',_,t5+t6,_,?_,rfl,s2.trans<|(oZ.trans s7).trans s8,ax,dh.same (s7.trans s8)<|dh.app Bn xu,?_,?_,c3,.inr ?_⟩
    ·rw[zqA,zaB];lia
    ·rw[zqA,zaB];lia
    ·rw[zqA,zaB];lia
    ·rw[KU,C7,en] at nf;rcases nf with nf|⟨c0,r0,e0,f0⟩
     ·exact absurd nf (by lia)
     ·exact⟨c0,_,by rw[e0];rfl,f0⟩
 ·refine iF ?_ (zqF (by lia))
  obtain⟨v,rfl⟩:∃v,xs=[v]:=by
   match xs,k1,z with
   |[v],_,_=>exact⟨v,rfl⟩
   |v::w::r,_,z=>exact absurd (by show 1<r.length+1+1;lia) z
  obtain⟨c,ps,m,t',rfl,dQ,⟨rfl,rfl⟩,e⟩:=da;refine bI<|bD<|ae rfl<|au<|cp nz rfl<|q c ps H2 s2 dQ (by lia) ?_
  rcases k4 with k4|⟨c0,r0,e0,f0⟩
  ·exact .inr k4.symm
  ·cases e0;exact .inl f0
end
def h6(wn:Int)(lo pa ed be lg:Addr):List (Str×V):=[("here",.int wn),("lengths",.ref lo),("parents",.ref pa),("edges",.ref ed),("below",.ref be),("last_gone",.ref lg)]
section
variable {wn:Int}{lo pa ed be lg:Addr}
theorem jQ:(h6 wn lo pa ed be lg).lookup ("here":Str)=some (V.int wn):=nv
theorem yU:(h6 wn lo pa ed be lg).lookup ("lengths":Str)=some (V.ref lo):=(dC (by decide+kernel)).trans nv
theorem qR:(h6 wn lo pa ed be lg).lookup ("parents":Str)=some (V.ref pa):=(dC (by decide+kernel)).trans ((dC (by decide+kernel)).trans nv)
theorem C9:(h6 wn lo pa ed be lg).lookup ("edges":Str)=some (V.ref ed):=(dC (by decide+kernel)).trans ((dC (by decide+kernel)).trans<|(dC (by decide+kernel)).trans nv)
theorem C_:(h6 wn lo pa ed be lg).lookup ("below":Str)=some (V.ref be):=(dC (by decide+kernel)).trans ((dC (by decide+kernel)).trans<|(dC (by decide+kernel)).trans<|(dC (by decide+kernel)).trans nv)
theorem Dc:(h6 wn lo pa ed be lg).lookup ("last_gone":Str)=some (V.ref lg):=(dC (by decide+kernel)).trans ((dC (by decide+kernel)).trans<|(dC (by decide+kernel)).trans<|(dC (by decide+kernel)).trans<|(dC (by decide+kernel)).trans nv)
theorem ZH{m:Str}(h1:¬m="here")(h2:¬m="lengths")(h3:¬m="parents")(h4:¬m="edges")(h5:¬m="below")(ZI:¬m="last_gone"):(h6 wn lo pa ed be lg).lookup m=none:=
 (dC h1).trans ((dC h2).trans<|(dC h3).trans<|(dC h4).trans<|(dC h5).trans<|(dC ZI).trans rfl)
def ku:List Str:=["here","lengths","parents","edges","below","last_gone"]
theorem gQ{wn:Int}{pa:Addr}{m:Str}(h:ku.all (fun x=>decide<|¬m=x)=true:=by decide+kernel):(h6 wn lo pa ed be lg).lookup m=none:=by
 have g:∀x∈ku,¬m=x:=fun x hx=>of_decide_eq_true (zaX.mp h x hx);exact ZH (g _ (by unfold ku;simp)) (g _ (by unfold ku;simp)) (g _ (by unfold ku;simp)) (g _ (by unfold ku;simp)) (g _ (by unfold ku;simp))<|g _ (by unfold ku;simp)
end
structure dR (ww:List (Option Nat)):Prop where
 rt:ww[0]?=some none
 up:∀i,0<i->i<ww.length->∃j,ww[i]?=some (some j)/\j<i
structure fi (C:Addr) (H:Hp) (p dx lo pa ed be lg:Addr) (wn:Nat) (bj:List Nat) (ww:List (Option Nat)):Prop where
 ob:H p=some (.ins C dx<|h6 (wn:Nat) lo pa ed be lg)
 ol:H lo=some (.lst<|bj.map fun n=>V.int (n:Nat))
 op:H pa=some (.lst<|ww.map gV)
 ln:bj.length=ww.length
 tr:dR ww
 hr:wn<ww.length
 sz:ww.length<=100000
theorem fi.same{p pa:Addr}{wn:Nat}{ww:List (Option Nat)}(A:fi C H p dx lo pa ed be lg wn bj ww)(s:aA H H'):fi C H' p dx lo pa ed be lg wn bj ww:=⟨s _ _ A.ob,s _ _ A.ol,s _ _ A.op,A.ln,A.tr,A.hr,A.sz⟩
section
variable {K:Frag}{C CN:Addr}
def tm(C:Addr):Sp:=fun vs H Q E=>∃(p dx lo pa ed be lg:Addr) (wn:Nat) (bj:List Nat) (ww:List (Option Nat)),vs=[.ref p]/\fi C H p dx lo pa ed be lg wn bj ww/\Q (.int (ww.length:Nat)) H
theorem ZJ(T:gK K C):bE (tm C) (fun E=>aO K [] [] (E:=E)) ID lL:=by
 intro vs H Q E h;obtain⟨p,dx,lo,pa,ed,be,lg,wn,bj,ww,rfl,A,q⟩:=h;refine bI<|dP<|dv<|ae rfl ⟨p,C,dx,_,_,rfl,A.ob,T.cl,T.oM,qR,.inl ⟨_,av.of A.op,?_⟩⟩;rw[zab];exact q
def i9(C CN:Addr):Sp:=fun vs H Q E=>∃(p dx lo pa ed be lg:Addr) (wn:Nat) (bj:List Nat) (ww:List (Option Nat)) (v:V),vs=[.ref p,v]/\fi C H p dx lo pa ed be lg wn bj ww/\((∃n:Nat,v=.int n/\n<ww.length/\Q .az H)\/(qM v 0 ((ww.length:Nat) - 1:Int) H/\E (.ref CN) none H))
theorem ZK:bE (i9 C CN) (fun E=>aO K [("is_between",CO)] [] [] [("many",C,tm C)] (et:=[("NoNode",CN)]) (E:=E)) IA iY:=by
 intro vs H Q E h;obtain⟨p,dx,lo,pa,ed,be,lg,wn,bj,ww,v,rfl,A,h⟩:=h;refine br<|gj<|hZ CO rfl<|aq<|ae rfl<|aq<|au<|aq<|aK<|vo C (tm C) rfl<|ae rfl ⟨p,dx,_,rfl,A.ob,gQ,p,dx,lo,pa,ed,be,lg,wn,bj,ww,rfl,A,au ⟨trivial,aE ⟨_,_,_,rfl,?_⟩⟩⟩;rcases h with⟨n,rfl,hn,q⟩|⟨hn,q⟩
 ·exact .inl ⟨_,rfl,by lia,by lia,fV<|iF (cM q) rfl⟩
 ·exact .inr ⟨hn,fV<|iT ⟨dw,q⟩ rfl⟩
def Dd(C:Addr):Sp:=fun vs H Q E=>∃(p dx lo pa ed be lg:Addr) (wn:Nat) (bj:List Nat) (ww:List (Option Nat)) (n:Nat) (o:Option Nat),vs=[.ref p,.int n]/\fi C H p dx lo pa ed be lg wn bj ww/\ww[n]?=some o/\Q (gV o) H
theorem ZM(T:gK K C):bE (Dd C) (fun E=>aO K [] [] [] [("need_node",C,i9 C CN)] (E:=E)) BP iY:=by
 intro vs H Q E h;obtain⟨p,dx,lo,pa,ed,be,lg,wn,bj,ww,n,o,rfl,A,hn,q⟩:=h;have hl:=(zal.mp hn).1;refine bN<|jN C (i9 C CN) rfl<|ae rfl ⟨p,dx,_,rfl,A.ob,gQ,ae rfl ⟨p,dx,lo,pa,ed,be,lg,wn,bj,ww,_,rfl,A,.inl ⟨n,rfl,hl,?_⟩⟩⟩;exact bI<|bD<|dv<|ae rfl ⟨p,C,dx,_,_,rfl,A.ob,T.cl,T.oM,qR,ae rfl<|cp A.op (cB (by rw[zai,hn];rfl)) q⟩
def KW(C:Addr):Sp:=fun vs H Q E=>∃(p dx lo pa ed be lg:Addr) (wn:Nat) (bj:List Nat) (ww:List (Option Nat)) (n k:Nat),vs=[.ref p,.int n]/\fi C H p dx lo pa ed be lg wn bj ww/\bj[n]?=some k/\Q (.int (k:Nat)) H
theorem ZN(T:gK K C):bE (KW C) (fun E=>aO K [] [] [] [("need_node",C,i9 C CN)] (E:=E)) BR iY:=by
 intro vs H Q E h;obtain⟨p,dx,lo,pa,ed,be,lg,wn,bj,ww,n,k,rfl,A,hn,q⟩:=h;have hl:=(zal.mp hn).1;have ln:=A.ln;refine bN<|jN C (i9 C CN) rfl<|ae rfl ⟨p,dx,_,rfl,A.ob,gQ,ae rfl ⟨p,dx,lo,pa,ed,be,lg,wn,bj,ww,_,rfl,A,.inl ⟨n,rfl,by lia,?_⟩⟩⟩
 exact bI<|bD<|dv<|ae rfl ⟨p,C,dx,_,_,rfl,A.ob,T.cl,T.uU,yU,ae rfl<|cp A.ol (cB (by rw[zai,hn];rfl)) q⟩
end
def ups(ww:List (Option Nat)):Nat->Nat->List Nat
 | 0,n=>[n]
 |f+1,n=>match ww[n]? with
  |some (some j)=>n::ups ww f j
  |_=>[n]
theorem ZO{ww:List (Option Nat)}(T:dR ww):∀(n f:Nat),n<ww.length->n<=f->ups ww f n=ups ww n n:=by
 intro n
 induction n using Nat.strongRecOn with
 |ind n ih=>
  intro f hn hf;cases n with
  |zero=>
   cases f with
   |zero=>rfl
   |succ f=>
    unfold ups;rw[T.rt]
  |succ n=>
   cases f with
   |zero=>exact absurd hf (by lia)
   |succ f=>
    obtain⟨j,hj,aN⟩:=T.up (n+1) (by lia) hn
    have e1:ups ww (f+1) (n+1)=(n+1)::ups ww f j:=by
     show(match ww[n+1]? with|some (some j)=>(n+1)::ups ww f j|_=>[n+1])=_
     rw[hj]
    have e2:ups ww (n+1) (n+1)=(n+1)::ups ww n j:=by
     show(match ww[n+1]? with|some (some j)=>(n+1)::ups ww n j|_=>[n+1])=_
     rw[hj]
    rw[e1,e2,ih j (by lia) f (by lia) (by lia),ih j (by lia) n (by lia) (by lia)]
theorem KY{ww:List (Option Nat)}:ups ww 0 0=[0]:=rfl
theorem kx{ww:List (Option Nat)}(T:dR ww)(h0:0<n)(hn:n<ww.length):∃j,ww[n]?=some (some j)/\j<n/\ups ww n n=n::ups ww j j:=by
 obtain⟨j,hj,aN⟩:=T.up n h0 hn;refine⟨j,hj,aN,?_⟩;cases n with
 |zero=>exact absurd h0 (by decide)
 |succ n=>
  have e2:ups ww (n+1) (n+1)=(n+1)::ups ww n j:=by
   show(match ww[n+1]? with|some (some j)=>(n+1)::ups ww n j|_=>[n+1])=_
   rw[hj]
  rw[e2,ZO T j n (by lia) (by lia)]
theorem tw{ww:List (Option Nat)}(T:dR ww):∀(n:Nat),n<ww.length->(ups ww n n).length<=n+1:=by
 intro n
 induction n using Nat.strongRecOn with
 |ind n ih=>
  intro hn;by_cases z:n=0
  ·subst z;exact zqR _
  ·obtain⟨j,_,aN,e⟩:=kx T (by lia) hn
   have:=ih j aN (by lia)
   rw[e,zaq];lia
section
variable {K:Frag}{C CN:Addr}
def tD(C:Addr):Sp:=fun vs H Q E=>∃(p dx lo pa ed be lg:Addr) (wn:Nat) (bj:List Nat) (ww:List (Option Nat)) (n:Nat),vs=[.ref p,.int n]/\fi C H p dx lo pa ed be lg wn bj ww/\n<ww.length/\
 ∀b H',aA H H'->H b=none->H' b=some (.lst<|(ups ww n n).map fun k=>V.int (k:Nat))->Q (.ref b) H'
theorem ZP(T:gK K C):bE (tD C) (fun E=>aO K [] [] (E:=E)) IQ IP:=by
 intro vs H Q E h;obtain⟨p,dx,lo,pa,ed,be,lg,wn,bj,ww,n,rfl,A,hn,q⟩:=h;have sz:=A.sz;refine bc<|cm<|aq<|ae rfl<|aE ⟨dw,fun L fL=>?_⟩;have s0:=sameNew (o:=.lst [V.int (n:Nat)]) fL;refine sV (fun m σ H2=>∃(pre:List Nat) (k:Nat),m=k/\σ=[some<|.ref p,some<|.int (n:Nat),some<|.ref L]/\aA H H2/\H2 L=some (.lst<|(pre.map fun k=>V.int (k:Nat))++[V.int (k:Nat)])/\k<ww.length/\pre.length+k<=n/\ups ww n n=pre++ups ww k k)
  ⟨n,[],n,rfl,rfl,s0,ax,hn,by show 0+n<=n;lia,rfl⟩ ?_
 rintro m σ H2 ⟨pre,k,rfl,rfl,s2,hL,hk,hp,eu⟩;refine aZ<|bD<|ae rfl<|h9<|.inl ⟨L,_, -1,_,rfl,rfl,av.of hL,kU _ _,au<|yO ⟨_,rfl,?_⟩⟩;by_cases z:m=0
 ·subst z;refine iF ?_ (by simp)
  refine bI<|ae rfl<|q L H2 s2 fL ?_;rw[eu,KY,zam];exact hL
 ·refine iT ?_ (by simp;lia)
  obtain⟨j,hj,aN,es⟩:=kx A.tr (by lia) hk
  refine⟨fun σ' H'=>∃(pre:List Nat) (k:Nat),k<m/\σ'=[some<|.ref p,some<|.int (n:Nat),some<|.ref L]/\aA H H'/\H' L=some (.lst<|(pre.map fun k=>V.int (k:Nat))++[V.int (k:Nat)])/\k<ww.length/\pre.length+k<=n/\ups ww n n=pre++ups ww k k,?_,?_⟩
  ·rintro σ' H' ⟨De,k',Df,e,wr⟩;exact⟨k',Df,De,k',rfl,e,wr⟩
  ·have A2:=A.same s2;refine bN<|fg<|ae rfl ⟨.inl ⟨rfl,_,av.of hL⟩,bD<|dv<|ae rfl ⟨p,C,dx,_,_,rfl,A2.ob,T.cl,T.oM,qR,bD<|ae rfl<|h9<|.inl ⟨L,_, -1,_,rfl,rfl,av.of hL,kU _ _,?_⟩⟩⟩;refine cp A2.op (cB (by rw[zai,hj];rfl)) ?_
   refine⟨_,hL,dJ (by rw[zqA,zab];show pre.length+1<=1000000;lia),?_⟩
   have b1:aP L H2 (upd H2 L<|.lst<|((pre.map fun k=>V.int (k:Nat))++[V.int (m:Nat)])++[gV<|some j]):=aP.upd;refine⟨pre++[m],j,aN,rfl,fun c o e=>b1 c o (s2 _ _ e)<|bQ e fL,?_,by lia,by rw[zqA];show pre.length+1+j<=n;lia,by rw[eu,es,zah];rfl⟩
   rw[ax,zam];rfl
end
def strip:List Nat->List Nat->List Nat×List Nat
 |r::a::as,s::b::bs=>if a=b then strip (a::as) (b::bs) else (r::a::as,s::b::bs)
 |x,y=>(x,y)
def gR(ww:List (Option Nat))(one other:Nat):List Nat:=(strip (ups ww one one).reverse (ups ww other other).reverse).1.reverse++(strip (ups ww one one).reverse (ups ww other other).reverse).2.tail
abbrev iV(l:List Nat):List V:=l.map fun k=>V.int (k:Nat)
theorem KZ{α:Type}(xs:List α)(v w:α):gc (xs++[v,w]) (-2)=some v:=by
 have hl:(xs++[v,w]).length=xs.length+2:=by simp
 unfold gc f_;rw[hl];have h1:¬(0:Int)<= -2:=by decide
 rw[if_neg h1,if_pos (by lia)]
 have e:(-2+((xs.length:Int)+2)).toNat=xs.length:=by lia
 simp[e]
theorem o7(r:Nat)(l:List Nat):iV (r::l).reverse=iV l.reverse++[V.int (r:Nat)]:=by
 show List.map _ (r::l).reverse=_;rw[zaC,zam];rfl
theorem K0(r:Nat)(y:List Nat):strip [r] y=([r],y):=by
 unfold strip
 simp
theorem K1(x:List Nat)(s:Nat):strip x [s]=(x,[s]):=by
 unfold strip
 simp
theorem K2{r s a b:Nat}{as bs:List Nat}(h:a≠b):strip (r::a::as) (s::b::bs)=(r::a::as,s::b::bs):=by
 unfold strip;rw[if_neg h]
theorem strip_eq{r s a:Nat}{as bs:List Nat}:strip (r::a::as) (s::a::bs)=strip (a::as) (a::bs):=by
 conv=>lhs;unfold strip
 rw[if_pos rfl]
theorem K3(l:List Nat):iV l.reverse=(iV l).reverse:=by unfold iV;rw[List.map_reverse]
section
variable {K:Frag}{C CN:Addr}
def vB(C:Addr):Sp:=fun vs H Q E=>∃(p dx lo pa ed be lg:Addr) (wn:Nat) (bj:List Nat) (ww:List (Option Nat)) (n m:Nat),vs=[.ref p,.int n,.int m]/\fi C H p dx lo pa ed be lg wn bj ww/\n<ww.length/\m<ww.length/\
 ∀b H',aA H H'->H b=none->H' b=some (.lst<|iV<|gR ww n m)->Q (.ref b) H'
theorem ZQ:bE (vB C) (fun E=>aO K [] [] [] [("need_node",C,i9 C CN),("upward",C,tD C)] (E:=E)) xW BV:=by
 intro vs H Q E h;obtain⟨p,dx,lo,pa,ed,be,lg,wn,bj,ww,n,m,rfl,A,hn,hm,q⟩:=h;have sz:=A.sz;refine bN<|jN C (i9 C CN) rfl<|ae rfl ⟨p,dx,_,rfl,A.ob,gQ,ae rfl ⟨p,dx,lo,pa,ed,be,lg,wn,bj,ww,_,rfl,A,.inl ⟨n,rfl,hn,?_⟩⟩⟩;refine bN<|jN C (i9 C CN) rfl<|ae rfl ⟨p,dx,_,rfl,A.ob,gQ,ae rfl ⟨p,dx,lo,pa,ed,be,lg,wn,bj,ww,_,rfl,A,.inl ⟨m,rfl,hm,?_⟩⟩⟩;refine bc<|jN C (tD C) rfl<|ae rfl ⟨p,dx,_,rfl,A.ob,gQ,ae rfl ⟨p,dx,lo,pa,ed,be,lg,wn,bj,ww,n,rfl,A,hn,fun u H1 s1 fu hu=>?_⟩⟩;have A1:=A.same s1;refine bc<|jN C (tD C) rfl<|ae rfl ⟨p,dx,_,rfl,A1.ob,gQ,ae rfl ⟨p,dx,lo,pa,ed,be,lg,wn,bj,ww,m,rfl,A1,hm,fun d H2 s2 fd hd=>?_⟩⟩;have ZR:=s2 _ _ hu;have K4:d≠u:=fun z=>by rw[z,hu] at fd;cases fd
 have fN:=s1.trans s2;have ZS:=s1.free fd;have lu:=tw A.tr n hn;have ld:=tw A.tr m hm;have ne:∀k,k<ww.length->(ups ww k k).reverse≠ []:=by
  intro k hk z;have z':=List.reverse_eq_nil_iff.mp z;by_cases k0:k=0
  ·subst k0;cases z'
  ·obtain⟨j,_,_,e⟩:=kx A.tr (by lia) hk
   rw[e] at z';cases z'
 refine sV (fun mm σ H3=>∃x y,mm=x.length/\σ=[some<|.ref p,some<|.int (n:Nat),some<|.int (m:Nat),some<|.ref u,some<|.ref d]/\aA H H3/\H3 u=some (.lst<|iV x.reverse)/\H3 d=some (.lst<|iV y.reverse)/\x≠ []/\y≠ []/\x.length<=n+1/\y.length<=m+1/\strip (ups ww n n).reverse (ups ww m m).reverse=strip x y)
  ⟨_,(ups ww n n).reverse,(ups ww m m).reverse,rfl,rfl,fN,by rw[zaU];exact ZR,by rw[zaU];exact hd,ne n hn,ne m hm,by rw[zaJ];exact lu,by rw[zaJ];exact ld,rfl⟩ ?_
 rintro mm σ H3 ⟨x,y,rfl,rfl,s3,nH,o8,nx,ny,lx,ly,es⟩;have vC:(iV x.reverse).length=x.length:=by rw[zab,zaJ]
 have vD:(iV y.reverse).length=y.length:=by rw[zab,zaJ]
 have fin:strip x y=(x,y)->ay (aO K [] [] [] [("need_node",C,i9 C CN),("upward",C,tD C)] (E:=E)) (xW.drop 5) (Dn Q) [some<|.ref p,some<|.int (n:Nat),some<|.int (m:Nat),some<|.ref u,some<|.ref d] H3:=by
  intro e;refine bI<|aK<|ae rfl<|ZA<|aq<|CZ<|ae rfl<|h9 ⟨_,rfl,.inl ⟨_,av.of o8,fun w fw=>aE ⟨w,_,rfl,av.of ax,fun v fv=>?_⟩⟩⟩;have s4:=sameNew (o:=.lst (eN (iV y.reverse) none<|some<|-1)) fw;have s5:=sameNew (o:=.lst (eN (iV y.reverse) none<|some<|-1).reverse) fv;have ec:(eN (iV y.reverse) none<|some<|-1).reverse=iV y.tail:=by
   cases y with
   |nil=>exact absurd rfl ny
   |cons b bs=>
    have e1:iV (b::bs).reverse=iV bs.reverse++[V.int (b:Nat)]:=by
     show List.map _ (b::bs).reverse=_;rw[zaC,zam];rfl
    rw[e1];unfold eN;rw[HT.Ag];have e2:HT.di (iV bs.reverse++[V.int (b:Nat)]).length (iV bs.reverse++[V.int (b:Nat)]).length (some<|-1)=(iV bs.reverse).length:=by
     have hl:(iV bs.reverse++[V.int (b:Nat)]).length=(iV bs.reverse).length+1:=by rw[zqA];rfl
     rw[hl];unfold HT.di
     simp
     lia
    rw[e2,zbn,Nat.sub_zero,zbW,K3,zaU];rfl
  refine .inl ⟨u,v,_,_,rfl,rfl,(s4.trans s5) _ _ nH,ax,cz (by rw[zaJ];have:=FJ (iV y.reverse) none (some<|-1);lia),fun b fb=>?_⟩
  have s6:=sameNew (o:=.lst (iV x.reverse++(eN (iV y.reverse) none<|some<|-1).reverse)) fb;refine q b _ (s3.trans<|(s4.trans s5).trans s6) (s3.free<|(s4.trans s5).free fb) ?_;rw[ax,ec];unfold gR;rw[es,e];show some (HO.lst<|iV x.reverse++iV y.tail)=some (HO.lst<|iV<|x.reverse++y.tail);unfold iV;rw[zam]
 match x,nx,lx,es,fin,nH,vC with
 |[r],_,lx,es,fin,nH,vC=>
  refine qN<|aZ<|dP<|ae rfl<|.inl ⟨_,av.of nH,au<|N.lX ⟨_,rfl,iF (iF (fin<|K0 r y) rfl)<|zqF (by rw[vC];show ¬((1:Nat):Int) >1;decide)⟩⟩
 |r::a::as,_,lx,es,fin,nH,vC=>
  refine qN<|aZ<|dP<|ae rfl<|.inl ⟨_,av.of nH,au<|N.lX ⟨_,rfl,iT ?_<|zqT (by rw[vC,zaq,zaq];lia)⟩⟩
  match y,ny,ly,es,fin,o8,vD with
  |[s],_,ly,es,fin,o8,vD=>
   refine qN<|aZ<|dP<|ae rfl<|.inl ⟨_,av.of o8,au<|N.lX ⟨_,rfl,iF (iF (fin<|K1 _ s) rfl)<|zqF (by rw[vD];show ¬((1:Nat):Int) >1;decide)⟩⟩
  |s::b::bs,_,ly,es,fin,o8,vD=>
   refine qN<|aZ<|dP<|ae rfl<|.inl ⟨_,av.of o8,au<|N.lX ⟨_,rfl,iT ?_<|zqT (by rw[vD,zaq,zaq];lia)⟩⟩
   have ex:iV (r::a::as).reverse=iV as.reverse++[V.int (a:Nat),V.int (r:Nat)]:=by rw[o7,o7,zah];rfl
   have ey:iV (s::b::bs).reverse=iV bs.reverse++[V.int (b:Nat),V.int (s:Nat)]:=by rw[o7,o7,zah];rfl
   refine Kt<|aZ<|bD<|ae rfl<|h9<|cp nH (by rw[ex];exact KZ _ _ _)<|bD<|ae rfl<|h9<|cp o8 (by rw[ey];exact KZ _ _ _)<|eG ⟨_,rfl,?_⟩
   by_cases z:a=b
   ·subst z;refine iT ?_ (by simp)
    refine⟨fun σ' H'=>∃x' y',x'.length< (r::a::as).length/\σ'=[some<|.ref p,some<|.int (n:Nat),some<|.int (m:Nat),some<|.ref u,some<|.ref d]/\aA H H'/\H' u=some (.lst<|iV x'.reverse)/\H' d=some (.lst<|iV y'.reverse)/\x'≠ []/\y'≠ []/\x'.length<=n+1/\y'.length<=m+1/\strip (ups ww n n).reverse (ups ww m m).reverse=strip x' y',?_,?_⟩
    ·rintro σ' H' ⟨x',y',aN,wr⟩;exact⟨_,aN,x',y',rfl,wr⟩
    ·have e1:(iV (r::a::as).reverse).dropLast=iV (a::as).reverse:=by rw[o7,List.dropLast_concat]
     have e2:(iV (s::a::bs).reverse).dropLast=iV (a::bs).reverse:=by rw[o7,List.dropLast_concat]
     refine⟨_,rfl,.inl ⟨rfl,_,av.of nH⟩,_,V.int (r:Nat),nH,(by rw[o7,zqA];show(iV (a::as).reverse++[V.int (r:Nat)])[(iV (a::as).reverse).length+1 - 1]?=_;simp),?_⟩
     rw[e1];have b1:aP u H3 (upd H3 u<|.lst<|iV (a::as).reverse):=aP.upd;have K5:upd H3 u (.lst<|iV (a::as).reverse) u=some (.lst<|iV (a::as).reverse):=ax;have pX:=b1 _ _ o8 K4;have s4:aA H (upd H3 u<|.lst<|iV (a::as).reverse):=fun c o e=>b1 c o (s3 _ _ e) (bQ e fu);generalize upd H3 u (.lst<|iV (a::as).reverse)=H4 at b1 K5 pX s4⊢;refine⟨_,rfl,.inl ⟨rfl,_,av.of pX⟩,_,V.int (s:Nat),pX,(by rw[o7,zqA];show(iV (a::bs).reverse++[V.int (s:Nat)])[(iV (a::bs).reverse).length+1 - 1]?=_;simp),?_⟩
     rw[e2];have b2:aP d H4 (upd H4 d<|.lst<|iV (a::bs).reverse):=aP.upd;have lx':as.length+1+1<=n+1:=lx;have ly':bs.length+1+1<=m+1:=ly;exact⟨a::as,a::bs,by show as.length+1<as.length+1+1;lia,rfl,fun c o e=>b2 c o (s4 _ _ e)<|bQ e ZS,b2 _ _ K5<|Ne.symm K4,ax,(by simp),(by simp),by show as.length+1<=_;lia,by show bs.length+1<=_;lia,by rw[es,strip_eq]⟩
   ·exact iF (fin<|K2 z) (by simp;lia)
end
def qS(H:Hp)(es:List V)(ww:List (Option Nat))(aJ:List (List Nat))(T:Nat):Prop:= ∀(i j:Nat),ww[i]?=some (some j)->∃a ps lj li,es[i]?=some (V.ref a)/\aJ[j]?=some lj/\aJ[i]?=some li/\dO H a ps lj li/\B.aD ps<=T
theorem qS.same{es:List V}{ww:List (Option Nat)}{T:Nat}(h:qS H es ww aJ T)(s:aA H H'):qS H' es ww aJ T:=fun i j e=>by
 obtain⟨a,ps,lj,li,h1,h2,h3,h4,h5⟩:=h i j e;exact⟨a,ps,lj,li,h1,h2,h3,h4.same s,h5⟩
section
variable {K:Frag}{C CN:Addr}
theorem yV{o:Option Nat}(q:Q (.bl<|decide<|o=some n) H):dG K .Eq (gV o) (.int (n:Nat)) H Q:=by
 cases o with
 |none=>
  have e:decide ((none:Option Nat)=some n)=false:=by simp
  rw[e] at q
  first
   |exact q
   |exact⟨.none,.int (n:Nat),rfl,rfl,rfl,rfl,q⟩
 |some k=>
  refine eG ?_;by_cases z:k=n
  ·subst z;have e:decide (some k=some k)=true:=by simp
   rw[e] at q
   simpa using q
  ·have e:decide (some k=some n)=false:=by simp[z]
   rw[e] at q;have e2:decide (((k:Nat):Int)=((n:Nat):Int))=false:=by simp;lia
   rw[e2];exact q
def Dg(C:Addr):Sp:=fun vs H Q E=>∃(p dx lo pa ed be lg:Addr) (wn:Nat) (bj:List Nat) (ww:List (Option Nat)) (es:List V) (aJ:List (List Nat)) (T n m:Nat) (ln lm:List Nat),vs=[.ref p,.int n,.int m]/\fi C H p dx lo pa ed be lg wn bj ww/\H ed=some (.lst es)/\qS H es ww aJ T/\T<=14000/\aJ[n]?=some ln/\aJ[m]?=some lm/\
 m<ww.length/\(ww[m]?=some (some n)\/(ww[m]?≠some (some n)/\ww[n]?=some (some m)))/\∀(c:Addr) (ps:List Pt) (H':Hp),aA H H'->dO H' c ps ln lm->B.aD ps<=T->Q (.ref c) H'
theorem ZT(T:gK K C):bE (Dg C) (fun E=>aO K [("back",ya)] [] (E:=E)) IH IG:=by
 intro vs H Q E h;obtain⟨p,dx,lo,pa,ed,be,lg,wn,bj,ww,es,aJ,t,n,m,ln,lm,rfl,A,he,hE,ht,hn,hm,ZU,hd,q⟩:=h;have yW:ww[m]?=some ww[m]:=zar ZU;refine bI<|Zv<|aZ<|bD<|dv<|ae rfl ⟨p,C,dx,_,_,rfl,A.ob,T.cl,T.oM,qR,ae rfl<|cp A.op (cB (by rw[zai,yW];rfl))<|ae rfl<|yV ⟨_,rfl,?_⟩⟩
 by_cases z:ww[m]=some n
 ·refine iT ?_ (zqT z);rw[z] at yW;obtain⟨a,ps,lj,li,h1,h2,h3,h4,h5⟩:=hE m n yW;rw[hn] at h2;cases h2;rw[hm] at h3;cases h3;exact bD<|dv<|ae rfl ⟨p,C,dx,_,_,rfl,A.ob,T.cl,T.xX,C9,ae rfl<|cp he (cB h1)<|q a ps H (aA.refl _) h4 h5⟩
 ·refine iF ?_ (zqF z);have tE:ww[n]?=some (some m):=by
   rcases hd with hd|hd
   ·rw[yW] at hd;exact absurd (zao hd) z
   ·exact hd.2
  obtain⟨a,ps,lj,li,h1,h2,h3,h4,h5⟩:=hE n m tE;rw[hm] at h2;cases h2;rw[hn] at h3;cases h3;have cl:ps.length<=2*B.aD ps+1:=s_ ps "" h4.chg.ok h4.chg.ch;have hb:=(h4.chg.bk (by lia)).2
  refine bZ ya rfl<|aq<|bD<|dv<|ae rfl ⟨p,C,dx,_,_,rfl,A.ob,T.cl,T.xX,C9,ae rfl<|cp he (cB h1)<|aE<|Y8 h4 (by lia) (by lia) fun c H' s fc hc=>q c _ H' s hc ?_⟩
  have:=hb.1;lia
end
section
variable {K:Frag}{C CF:Addr}
def Dh(C CF:Addr):Sp:=fun vs H Q E=>∃(p dx lo pa ed be lg:Addr) (wn:Nat) (bj:List Nat) (ww:List (Option Nat)) (c:Addr) (ps:List Pt) (l r:List Nat) (k:Nat),vs=[.ref p,.ref c]/\fi C H p dx lo pa ed be lg wn bj ww/\dO H c ps l r/\B.aD ps<=100000/\bj[wn]?=some k/\
 ((l.length=k/\∀H',aA H H'->Q .az H')\/(l.length≠k/\∀H',aA H H'->E (.ref CF) none H'))
theorem ZV(T:gK K C):bE (Dh C CF) (fun E=>aO K [("sizes",m_)] [] (et:=[("BadFit",CF)]) (E:=E)) IB xV:=by
 intro vs H Q E h;obtain⟨p,dx,lo,pa,ed,be,lg,wn,bj,ww,c,ps,l,r,k,rfl,A,⟨xs,h1,h2,h3⟩,ht,hk,h⟩:=h;have cl:ps.length<=2*B.aD ps+1:=s_ ps "" h3.ok h3.ch;refine br<|aZ<|bD<|bZ m_ rfl<|aq<|ae rfl<|aE ⟨c,xs,ps,rfl,h1,h2,h3.ok,h3.ch,by lia,fun t H' s yb=>au<|qO yb rfl ?_⟩
 have A1:=A.same s;refine bD<|dv<|ae rfl ⟨p,C,dx,_,_,rfl,A1.ob,T.cl,T.uU,yU,dv<|ae rfl ⟨p,C,dx,_,_,rfl,A1.ob,T.cl,T.iz,jQ,cp A1.ol (cB (by rw[zai,hk];rfl)) ?_⟩⟩
 have e:(overOf ps).sum=l.length:=h3.run.over;rw[e];refine yO ⟨_,rfl,?_⟩;rcases h with⟨e,q⟩|⟨e,q⟩
 ·subst e;exact iF (cM<|q _ s) (by simp)
 ·refine iT ⟨dw,q _ s⟩ ?_;have:decide (((l.length:Nat):Int)=((k:Nat):Int))=false:=by simp;lia
  rw[this];rfl
end
end L2.N
namespace ZL
open PySem
abbrev qT(h:Heap)(z TI TO a:Addr)(f:Bool):Prop:=
 h.get? z=some {cls:=.type "zip",dict:=none,data:=.fields #[rawInt a,.bool f,.bool false,.ref TI,.ref TO],slots:= #[]}
section
variable {prog:Program}{w:World}{A:Around}{E:Value->Shared->Prop}{s:Shared}
theorem alive{o:Obj}{Q:Option Obj->Shared->Prop}(ho:s.heap.get? a=some o)(h:Q (some o) s):wpAny (model prog w) A (loadIfAlive a) Q E s:=by
 have h':Q (s.heap.get? a) s:=by rw[ho];exact h
 exact fun _ _ _=>h'
theorem held{TI TO:Addr}{f:Bool}{oa:Obj}{Q:Bool->Shared->Prop}(hz:qT s.heap z TI TO a f)(ha:s.heap.get? a=some oa)
  (hQ:∀h',qT h' z TI TO a true->Heap.SameBut z s.heap h'->Q false {s with heap:=h'}):wpAny (model prog w) A (Builtin.SmallTypes.ownedTupleIsFree<|.ref z) Q E s:=by
 unfold Builtin.SmallTypes.ownedTupleIsFree;refine wpAny_bind<|wpAny_field hz rfl (x:=rawInt a) rfl ?_;show wpAny _ _ (loadIfAlive ((a:Nat):Int).toNat>>=_) _ _ _;rw[zbb];refine wpAny_bind<|alive ha ?_
 simp only[Option.isNone_some,zaV,if_false]
 refine wpAny_bind<|wpAny_field hz rfl (x:=.bool f) rfl ?_;cases f with
 |true=>
  simp
  exact wpAny_pure<|hQ _ hz ⟨rfl,fun _ _=>rfl⟩
 |false=>
  show wpAny _ _ (if (Value.bool false !=Value.bool true)=true then _ else _) _ _ _
  rw[if_pos (by decide)]
  refine wpAny_bind<|wpAny_setField_rec hz (by simp) fun h₁ yX gT=>?_
  exact wpAny_pure<|hQ h₁ yX gT
theorem ZW{TI TO:Addr}{f:Bool}{oa:Obj}{k1 k2:Nat}{xs ys:Array Value}{x y:Value}{Q:Value->Shared->Prop}(D:ZipApart z TI TO i1 i2 l1 l2)
  (hz:qT s.heap z TI TO a f) (ha:s.heap.get? a=some oa) (cQ:IsPair s.heap TI (.ref i1) (.ref i2))
  (h1:s.heap.IsListIter i1 l1 k1) (h2:s.heap.IsListIter i2 l2 k2) (dz:s.heap.IsList l1 xs) (eo:s.heap.IsList l2 ys) (hx:xs[k1]?=some x) (hy:ys[k2]?=some y)
  (hQ:∀h',qT h' z TI TO a true->h'.IsListIter i1 l1 (k1+1)->h'.IsListIter i2 l2 (k2+1)->IsPair h' s.heap.objs.size x y->h'.objs.size=s.heap.objs.size+1->
   (∀c o,c≠z->c≠i1->c≠i2->s.heap.get? c=some o->h'.get? c=some o)->Q (.ref s.heap.objs.size) {s with heap:=h'}):
  wpAny (model prog w) A (Builtin.«zip.__next__» ⟨[.ref z],[]⟩) (fun fin s'=>∃v,fin=.done (.ret v)/\Q v s') E s:=by
 show wpAny _ _ (field (.ref z) 2>>=_) _ _ _;refine wpAny_bind<|wpAny_field hz rfl (x:=.bool false) rfl ?_;show wpAny _ _ (field (.ref z) 3>>=_) _ _ _;refine wpAny_bind<|wpAny_field hz rfl (x:=.ref TI) rfl ?_;refine wpAny_bind<|wpAny_seqItems cQ rfl ?_;show wpAny _ _ (Builtin.SmallTypes.ownedTupleIsFree (.ref z) >>=_) _ _ _;refine wpAny_bind<|held hz ha fun h₁ yX gT=>?_
 simp only[zaV,if_false]
 refine wpAny_bind ?_;rw[<-Array.forIn_toList]
 simp only[List.forIn_cons,List.forIn_nil]
 refine wpAny_bind<|wpAny_bind<|wpAny_holding ?_;show wpAny _ _ (Builtin.SmallTypes.nextOf (.ref i1) >>=_) _ _ _;refine wpAny_bind<|wpAny_nextOf_list_item (h1.extBut gT.extBut D.i1z) (dz.extBut gT.extBut D.l1z) hx fun h₂ K6 ky=>wpAny_pure (wpAny_pure ?_);refine wpAny_bind<|wpAny_bind<|wpAny_holding ?_;show wpAny _ _ (Builtin.SmallTypes.nextOf (.ref i2) >>=_) _ _ _;refine wpAny_bind (wpAny_nextOf_list_item ((h2.extBut gT.extBut D.i2z).extBut ky.extBut D.i12.symm)
  ((eo.extBut gT.extBut D.l2z).extBut ky.extBut D.l2i1) hy fun h₃ ZX yY=>wpAny_pure (wpAny_pure (wpAny_pure ?_)))
 refine wpAny_bind<|wpAny_newTuple (hsz:=eJ) ?_;have hsz:h₃.objs.size=s.heap.objs.size:=by rw[yY.1,ky.1,gT.1]
 have ZY:∀c o,c≠z->c≠i1->c≠i2->s.heap.get? c=some o->h₃.get? c=some o:=fun c o c1 c3 c4 e=>yY.extBut _ _ c4 (ky.extBut _ _ c3<|gT.extBut _ _ c1 e);have ZZ:qT h₃ z TI TO a true:=yY.extBut _ _ D.i2z.symm (ky.extBut _ _ D.i1z.symm yX);refine wpAny_pure ⟨_,rfl,?_⟩;show Q (.ref h₃.objs.size) _;have q:=hQ (h₃.push {cls:=.type "tuple",data:=.seq #[x,y]}) (Heap.get?_push_of_some _ ZZ) ((K6.extBut yY.extBut D.i12).at fun o e=>Heap.get?_push_of_some _ e) (ZX.at fun o e=>Heap.get?_push_of_some _ e) (by rw[<-hsz];exact Heap.get?_push_size _ rfl) (by rw[Heap.size_push,hsz]) fun c o c1 c2 c3 e=>Heap.get?_push_of_some _ (ZY c o c1 c2 c3 e)
 rw[<-hsz] at q;exact q
theorem Z0{TI TO:Addr}{f:Bool}{oa:Obj}{k1 k2:Nat}{xs ys:Array Value}{Q:Fin->Shared->Prop}(hh:A.handled=none)(D:ZipApart z TI TO i1 i2 l1 l2)
  (hz:qT s.heap z TI TO a f) (ha:s.heap.get? a=some oa) (cQ:IsPair s.heap TI (.ref i1) (.ref i2))
  (h1:s.heap.IsListIter i1 l1 k1) (h2:s.heap.IsListIter i2 l2 k2) (dz:s.heap.IsList l1 xs) (eo:s.heap.IsList l2 ys) (tF:xs[k1]?=none\/ys[k2]?=none)
  (hE:∀h' e,(∀c o,c≠z->c≠i1->c≠i2->s.heap.get? c=some o->h'.get? c=some o)->(∃o,h'.get? e=some o/\o.cls=.type "StopIteration")->E (.ref e) {s with heap:=h'}):
  wpAny (model prog w) A (Builtin.«zip.__next__» ⟨[.ref z],[]⟩) Q E s:=by
 show wpAny _ _ (field (.ref z) 2>>=_) _ _ _;refine wpAny_bind<|wpAny_field hz rfl (x:=.bool false) rfl ?_;show wpAny _ _ (field (.ref z) 3>>=_) _ _ _;refine wpAny_bind<|wpAny_field hz rfl (x:=.ref TI) rfl ?_;refine wpAny_bind<|wpAny_seqItems cQ rfl ?_;show wpAny _ _ (Builtin.SmallTypes.ownedTupleIsFree (.ref z) >>=_) _ _ _;refine wpAny_bind<|held hz ha fun h₁ yX gT=>?_
 simp only[zaV,if_false]
 refine wpAny_bind ?_;rw[<-Array.forIn_toList]
 simp only[List.forIn_cons,List.forIn_nil]
 refine wpAny_bind<|wpAny_bind<|wpAny_holding ?_;show wpAny _ _ (Builtin.SmallTypes.nextOf (.ref i1) >>=_) _ _ _;cases hx:xs[k1]? with
 |none=>
  exact wpAny_bind<|wpAny_nextOf_list_end hh (h1.extBut gT.extBut D.i1z) (dz.extBut gT.extBut D.l1z) hx fun h₂ e ky he=>hE h₂ e (fun c o c1 c3 _ x=>ky _ _ c3<|gT.extBut _ _ c1 x) he
 |some x=>
  have hy:ys[k2]?=none:=by rcases tF with h|h;rw[hx] at h;cases h;exact h
  refine wpAny_bind<|wpAny_nextOf_list_item (h1.extBut gT.extBut D.i1z) (dz.extBut gT.extBut D.l1z) hx fun h₂ K6 ky=>wpAny_pure (wpAny_pure ?_);refine wpAny_bind<|wpAny_bind<|wpAny_holding ?_;show wpAny _ _ (Builtin.SmallTypes.nextOf (.ref i2) >>=_) _ _ _;exact wpAny_bind (wpAny_nextOf_list_end hh ((h2.extBut gT.extBut D.i2z).extBut ky.extBut D.i12.symm)
   ((eo.extBut gT.extBut D.l2z).extBut ky.extBut D.l2i1) hy fun h₄ e Z1 he=>hE h₄ e (fun c o c1 c3 c4 x=>Z1 _ _ c4 (ky.extBut _ _ c3 (gT.extBut _ _ c1 x))) he)
end
section
variable {prog:Program}{w:World}{A:Around}{E:Value->Shared->Prop}{s:Shared}
theorem Z2:typeLookup (.type "zip") "__len__"=pure none:=by rw[typeLookup_type,builtinLookup_eq_fast];kernel_rfl
theorem Z3:typeLookup (.type "zip") "__length_hint__"=pure none:=by rw[typeLookup_type,builtinLookup_eq_fast];kernel_rfl
theorem Z4{r:Addr}(hT:s.TypeIs (.ref r) "zip"){Q:Bool->Shared->Prop}(h:Q true s):wpAny (model prog w) A (Builtin.List.listLengthHint<|.ref r) Q E s:=by
 unfold Builtin.List.listLengthHint;refine wpAny_bind<|wpAny_specialOf hT Z2 ?_;show wpAny _ A (specialOf (Value.ref r) (Str.ofString "__length_hint__") >>=_) _ _ _;refine wpAny_bind<|wpAny_specialOf hT Z3 ?_;exact wpAny_pure h
def o9(h:Heap)(z TI TO i1 i2 l1 l2 S:Addr)(i:Nat):Prop:=IsPair h TI (.ref i1) (.ref i2)/\h.IsListIter i1 l1 i/\h.IsListIter i2 l2 i/\
 ((IsZip h z TI TO .none/\∃a b,IsPair h TO a b)\/∃a f oa,qT h z TI TO a f/\h.get? a=some oa/\a≠z/\a≠TO/\a≠i1/\a≠i2/\a≠S)
theorem Z5{TI TO:Addr}{xs ys:Array Value}{x y:Value}{Q:Option Value->Shared->Prop}(D:ZipApart z TI TO i1 i2 l1 l2)(st:o9 s.heap z TI TO i1 i2 l1 l2 S i)(hS:S<s.heap.objs.size)
  (dz:s.heap.IsList l1 xs) (eo:s.heap.IsList l2 ys) (hx:xs[i]?=some x) (hy:ys[i]?=some y)
  (hQ:∀h',o9 h' z TI TO i1 i2 l1 l2 S (i+1)->IsPair h' s.heap.objs.size x y->h'.objs.size=s.heap.objs.size+1->(∀c o,c≠z->c≠TO->c≠i1->c≠i2->s.heap.get? c=some o->h'.get? c=some o)->Q (some<|.ref s.heap.objs.size) {s with heap:=h'}):
  wpAny (model prog w) A (pyNext<|.ref z) Q E s:=by
 obtain⟨cQ,h1,h2,⟨hz,a,b,cY⟩|⟨a,f,oa,hz,ha,n1,n2,n3,n4,n5⟩⟩:=st
 ·have lt:∀{c o},s.heap.get? c=some o->s.heap.objs.size≠c:=fun e=>zaD (Heap.lt_size e);refine wpAny_pyNext_zip_item D hz cQ cY h1 h2 dz eo hx hy fun h' a1 a2 a3 a4 a5 a6 a7=>hQ h' ⟨a7 _ _ D.TIz D.TITO D.TIi1 D.TIi2 cQ,a3,a4,.inr ⟨_,false,_,a1,a5,lt hz,lt cY,?_,?_,zaD hS⟩⟩ a5 a6 a7
  ·obtain⟨_,e,_⟩:=h1;exact lt e
  ·obtain⟨_,e,_⟩:=h2;exact lt e
 ·have hT:s.TypeIs (.ref z) "zip":=⟨_,hz,rfl⟩;unfold pyNext;exact wpAny_bind (wpAny_attempt (wpAny_callSpecial?_slot (name:=Str.ofString "__next__") hT F.slot_zip_next
   (wpAny_call_entry F.slot_zip_next hT F.entry_zip_next
    (ZW D hz ha cQ h1 h2 dz eo hx hy fun h' a1 a3 a4 a5 a6 a7=>wpAny_pure (hQ h' ⟨a7 _ _ D.TIz D.TIi1 D.TIi2 cQ,a3,a4,.inr ⟨a,true,oa,a1,a7 _ _ n1 n3 n4 ha,n1,n2,n3,n4,n5⟩⟩ a5 a6 fun c o c1 _ c3 c4 e=>a7 c o c1 c3 c4 e)) (F.args_zip_next_1 _))))
theorem Z6{TI TO:Addr}{xs ys:Array Value}{Q:Option Value->Shared->Prop}(hh:A.handled=none)(D:ZipApart z TI TO i1 i2 l1 l2)(st:o9 s.heap z TI TO i1 i2 l1 l2 S i)
  (dz:s.heap.IsList l1 xs) (eo:s.heap.IsList l2 ys) (tF:xs[i]?=none\/ys[i]?=none)
  (hQ:∀h',(∀c o,c≠z->c≠TO->c≠i1->c≠i2->s.heap.get? c=some o->h'.get? c=some o)->Q none {s with heap:=h'}):wpAny (model prog w) A (pyNext<|.ref z) Q E s:=by
 obtain⟨cQ,h1,h2,⟨hz,a,b,cY⟩|⟨a,f,oa,hz,ha,n1,n2,n3,n4,n5⟩⟩:=st
 ·exact wpAny_pyNext_zip_end hh D hz cQ cY h1 h2 dz eo tF hQ
 ·have hT:s.TypeIs (.ref z) "zip":=⟨_,hz,rfl⟩;unfold pyNext;refine wpAny_bind (wpAny_attempt (wpAny_callSpecial?_slot (name:=Str.ofString "__next__") hT F.slot_zip_next
   (wpAny_call_entry F.slot_zip_next hT F.entry_zip_next (Z0 hh D hz ha cQ h1 h2 dz eo tF fun h' e hk he=>?_) (F.args_zip_next_1 _))))
  obtain⟨o,ho,hc⟩:=he;refine wpAny_bind<|wpAny_isInstance (T:="StopIteration") (b:=true) ⟨o,ho,hc⟩ isSubtype_stop ?_;exact wpAny_pure<|hQ _ fun c o c1 _ c3 c4 e=>hk c o c1 c3 c4 e
theorem o9.keep{h h':Heap}{TI TO:Addr}(st:o9 h z TI TO i1 i2 l1 l2 S i)(hk:∀b o,b≠S->h.get? b=some o->h'.get? b=some o)(n:z≠S/\TI≠S/\TO≠S/\i1≠S/\i2≠S):o9 h' z TI TO i1 i2 l1 l2 S i:=by
 obtain⟨cQ,h1,h2,⟨hz,a,b,cY⟩|⟨a,f,oa,hz,ha,n1,n2,n3,n4,n5⟩⟩:=st
 ·exact⟨hk _ _ n.2.1 cQ,h1.at fun o e=>hk _ o n.2.2.2.1 e,h2.at fun o e=>hk _ o n.2.2.2.2 e,.inl ⟨hk _ _ n.1 hz,a,b,hk _ _ n.2.2.1 cY⟩⟩
 ·exact⟨hk _ _ n.2.1 cQ,h1.at fun o e=>hk _ o n.2.2.2.1 e,h2.at fun o e=>hk _ o n.2.2.2.2 e,.inr ⟨a,f,oa,hk _ _ n.1 hz,hk _ _ n5 ha,n1,n2,n3,n4,n5⟩⟩
end
section
variable {prog:Program}{w:World}{A:Around}{s:Shared}{R:Result->Shared->Prop}{xs ys:Array Value}
structure ZG (xs ys:Array Value) (lo:Nat) (h:Heap) (as:List Addr):Prop where
 rise:as.Pairwise (· < ·)
 above:∀a∈as,@LE.le Nat _ lo a
 pairs:∀(j:Nat) a,as[j]?=some a->∃x y,xs[j]?=some x/\ys[j]?=some y/\IsPair h a x y
theorem Z7{TI TO:Addr}{lo:Nat}(hh:A.handled=none)(D:ZipApart z TI TO i1 i2 l1 l2)(nS:z≠S/\TI≠S/\TO≠S/\i1≠S/\i2≠S)(hl: @LT.lt Nat _ z lo/\ @LT.lt Nat _ TO lo/\ @LT.lt Nat _ i1 lo/\ @LT.lt Nat _ i2 lo/\ @LT.lt Nat _ S lo)
  (n1:l1≠S) (n2:l2≠S) (hn:min xs.size ys.size<=sizeLine) (res:Value) {h₁:Heap}
  (hR:∀h' tk acc c as,(∀b o,b≠S->b≠z->b≠TO->b≠i1->b≠i2->h₁.get? b=some o->h'.get? b=some o)->h'.get? S=some {cls:=.type "list",dict:=none,data:=.seq acc c,slots:= #[]}->as.length=min xs.size ys.size->ZG xs ys lo h' as->
   acc.toList=as.map Value.ref->R (.ok (.ret res)) {s with heap:=h',toks:=tk}):
  ∀(k i:Nat) h (tk c:Nat) acc as,min xs.size ys.size - i=k->i<=min xs.size ys.size->o9 h z TI TO i1 i2 l1 l2 S i->h.IsList l1 xs->h.IsList l2 ys->(∀b o,b≠S->b≠z->b≠TO->b≠i1->b≠i2->h₁.get? b=some o->h.get? b=some o)->
   h.get? S=some {cls:=.type "list",dict:=none,data:=.seq acc c,slots:= #[]}->acc.toList=as.map Value.ref->as.length=i->ZG xs ys lo h as-> @LE.le Nat _ lo h.objs.size->
   codeAny (model prog w) A (.builtin "list.extend.loop" ⟨[.ref S,.ref z,res],[]⟩) R {s with heap:=h,toks:=tk}:=by
 obtain⟨q1,q2,q3,q4,q5⟩:=hl;have K7:∀{a:Addr},@LE.le Nat _ lo a->a≠z/\a≠TO/\a≠i1/\a≠i2/\a≠S:=fun h=>⟨zaD<|zan q1 h,zaD<|zan q2 h,zaD<|zan q3 h,zaD<|zan q4 h,zaD<|zan q5 h⟩;intro k
 induction k with
 |zero=>
  intro i h tk c acc as hk hi gA yZ qU Di hS gI nI hG nZ;have oy:i=min xs.size ys.size:=by lia
  refine codeAny_builtin PySem.F.entry_extend_loop ?_;rw[Around.under_plainId PySem.F.plain_extend_loop _];show wpAny _ A.in1 (pyNext (.ref z) >>=_) _ _ _;have tF:xs[i]?=none\/ys[i]?=none:=by
   rcases Nat.le_total xs.size ys.size with q|q
   ·exact .inl (Array.getElem?_eq_none (by lia))
   ·exact .inr (Array.getElem?_eq_none (by lia))
  refine wpAny_bind<|Z6 (s:={s with heap:=h,toks:=tk}) (A:=A.in1) hh D gA yZ qU tF fun h' he=>?_
  refine wpAny_pure<|hR h' tk acc c as (fun b o b0 b1 b2 b3 b4 e=>he b o b1 b2 b3 b4<|Di b o b0 b1 b2 b3 b4 e) (he S _ nS.1.symm nS.2.2.1.symm nS.2.2.2.1.symm nS.2.2.2.2.symm hS) (by lia) ⟨hG.rise,hG.above,fun j a hj=>?_⟩ gI
  obtain⟨x,y,e1,e2,e3⟩:=hG.pairs j a hj;obtain⟨f1,f2,f3,f4,f5⟩:=K7 (hG.above a<|zak hj);exact⟨x,y,e1,e2,he a _ f1 f2 f3 f4 e3⟩
 |succ k ih=>
  intro i h tk c acc as hk hi gA yZ qU Di hS gI nI hG nZ;have Z8:i<xs.size:=by lia
  have Z9:i<ys.size:=by lia
  have hsz:acc.size=i:=by rw[<-zcd,gI,zab,nI]
  refine codeAny_builtin PySem.F.entry_extend_loop ?_;rw[Around.under_plainId PySem.F.plain_extend_loop _];show wpAny _ A.in1 (pyNext (.ref z) >>=_) _ _ _;refine wpAny_bind<|Z5 (s:={s with heap:=h,toks:=tk}) (S:=S) D gA (Heap.lt_size hS) yZ qU (zbm Z8) (zbm Z9) fun h' Z_ ht hz tG=>?_
  dsimp only at ht hz tG⊢
  have oK:=tG S _ nS.1.symm nS.2.2.1.symm nS.2.2.2.1.symm nS.2.2.2.2.symm hS;have up:∀b o,b≠S->h'.get? b=some o->(h'.update S (Obj.mapSeq (·.push (Value.ref h.objs.size)))).get? b=some o:=fun b o hb e=>(Heap.get?_update_other _ _<|Ne.symm hb).trans e;have K8:S<h.objs.size:=Heap.lt_size hS;show wpAny _ A.in1 (updateSeq S (·.push (Value.ref h.objs.size)) >>=_) _ _ _;refine wpAny_bind ?_;refine wpAny_updateSeq oK rfl (wpAny_pure ⟨plainId_quiet PySem.F.plain_extend_loop _,ih (i+1) _ tk _ (acc.push (Value.ref h.objs.size)) (as++[h.objs.size]) (by lia) (by lia) (Z_.keep up nS) (yZ.at fun o e=>up l1 o n1 (tG l1 o D.l1z D.l1TO D.l1i1 D.l1i2 e)) (qU.at fun o e=>up l2 o n2 (tG l2 o D.l2z D.l2TO D.l2i1 D.l2i2 e))
   (fun b o b0 b1 b2 b3 b4 e=>up b o b0 (tG b o b1 b2 b3 b4 (Di b o b0 b1 b2 b3 b4 e))) (Heap.get?_update_self _ oK rfl) (by rw[Array.toList_push,gI,zam];rfl) (by rw[zqA,nI];rfl) ⟨?_,?_,?_⟩ ?_⟩) (by rw[hsz];lia) (by show(acc.push (Value.ref h.objs.size)).size<=sizeLine+1;rw[Array.size_push,hsz];lia)
  ·refine List.pairwise_append.mpr ⟨hG.rise,List.pairwise_singleton _ _,fun a ha b hb=>?_⟩;rw[zad.mp hb];obtain⟨j,hj⟩:=zca.mp ha;obtain⟨_,_,_,_,e⟩:=hG.pairs j a hj;exact Heap.lt_size e
  ·intro a ha;rcases zaa.mp ha with ha|ha
   ·exact hG.above a ha
   ·rw[zad.mp ha];exact nZ
  ·intro j b hj;rcases Nat.lt_trichotomy j as.length with h1|h1|h1
   ·rw[zaw h1] at hj;obtain⟨x',y',e1,e2,e3⟩:=hG.pairs j b hj;obtain⟨f1,f2,f3,f4,f5⟩:=K7 (hG.above b<|zak hj);exact⟨x',y',e1,e2,up b _ f5<|tG b _ f1 f2 f3 f4 e3⟩
   ·subst h1;have hb:h.objs.size=b:=by simpa using hj
    subst hb;refine⟨xs[as.length],ys[as.length],?_,?_,up _ _ (zaD K8) ?_⟩
    ·exact zbm (by lia)
    ·exact zbm (by lia)
    ·subst nI;exact ht
   ·have aaa:(as++[h.objs.size])[j]?=none:=zci (by rw[zqA,zaR];lia)
    rw[aaa] at hj;cases hj
  ·have e:(h'.update S (Obj.mapSeq (·.push (Value.ref h.objs.size)))).get? h.objs.size=_:=up _ _ (zaD K8) ht;exact zbu<|Nat.lt_of_le_of_lt nZ<|Heap.lt_size e
end
section
variable {prog:Program}{w:World}{A:Around}{E:Value->Shared->Prop}{s:Shared}{xs ys:Array Value}
theorem aab{TI TO:Addr}{R:Result->Shared->Prop}(hh:A.handled=none)(D:ZipApart z TI TO i1 i2 l1 l2)(nS:z≠S/\TI≠S/\TO≠S/\i1≠S/\i2≠S)(n1:l1≠S)(n2:l2≠S)(hn:min xs.size ys.size<=sizeLine)
  (hz:IsZip s.heap z TI TO .none) (cQ:IsPair s.heap TI (.ref i1) (.ref i2)) (cY:∃a b,IsPair s.heap TO a b) (h1:s.heap.IsListIter i1 l1 0) (h2:s.heap.IsListIter i2 l2 0) (dz:s.heap.IsList l1 xs) (eo:s.heap.IsList l2 ys)
  (res:Value) (c₀:Nat) (hS:s.heap.get? S=some {cls:=.type "list",data:=.seq #[] c₀})
  (hR:∀h' tk acc c as,(∀b o,b≠S->b≠z->b≠TO->b≠i1->b≠i2->s.heap.get? b=some o->h'.get? b=some o)->h'.get? S=some {cls:=.type "list",dict:=none,data:=.seq acc c,slots:= #[]}->as.length=min xs.size ys.size->ZG xs ys s.heap.objs.size h' as->
   acc.toList=as.map Value.ref->R (.ok (.ret res)) {s with heap:=h',toks:=tk}):
  wpAny (model prog w) A.in1 (Builtin.List.listExtendWith (.ref S) (.ref z) res)
   (fun fin s'=>match fin with|.done f=>R (.ok f) s'|.again c'=>c'.quiet=true/\codeAny (model prog w) A c' R s') (fun e s'=>R (.error e) s') s:=by
 have hT:s.TypeIs (.ref z) "zip":=⟨_,hz,rfl⟩;unfold Builtin.List.listExtendWith;refine wpAny_bind<|wpAny_typeOf hT ?_;have e1:Builtin.List.listSameRef (.ref S) (.ref z)=false:=by simp[Builtin.List.listSameRef,nS.1.symm]
 have e2:(Value.type "zip"==Value.type "list")=false:=by decide
 have e3:(Value.type "zip"==Value.type "tuple")=false:=by decide
 simp only[e1,e2,e3,zbj,zaV,if_false]
 refine wpAny_bind<|wpAny_pyIter_zip hz ?_;refine wpAny_bind<|wpAny_holding<|Z4 hT ?_;show wpAny _ A.in1 (rule "list.extend.makes-room" >>=fun _=>Builtin.List.listTouch (.ref S) >>=fun _=>
  again (.builtin "list.extend.loop" ⟨[.ref S,.ref z,res],[]⟩)) _ _ _
 refine wpAny_bind<|wpAny_rule ?_;refine wpAny_bind ?_;show wpAny _ A.in1 (updateSeq S (·.push .none) >>=fun _=>updateSeq S (·.pop)) _ _ _;refine wpAny_bind<|wpAny_updateSeq hS rfl ?_;have sD:=Heap.get?_update_self (Obj.mapSeq (·.push Value.none)) hS rfl;refine wpAny_updateSeq (hz:=by seq_fits) sD rfl ?_
 have hS₃:=Heap.get?_update_self (Obj.mapSeq (·.pop)) sD rfl;have dZ:∀b o,b≠S->s.heap.get? b=some o->((s.heap.update S (Obj.mapSeq (·.push Value.none))).update S (Obj.mapSeq (·.pop))).get? b=some o:=
  fun b o hb e=>(Heap.get?_update_other _ _<|Ne.symm hb).trans ((Heap.get?_update_other _ _<|Ne.symm hb).trans e)
 have lt:∀{c o},s.heap.get? c=some o-> @LT.lt Nat _ c s.heap.objs.size:=fun e=>Heap.lt_size e;obtain⟨a,b,cY⟩:=cY;refine wpAny_pure ⟨plainId_quiet F.plain_extend_loop _,Z7 (s:=s) (h₁:=s.heap) (lo:=s.heap.objs.size) hh D nS ⟨lt hz,lt cY,?_,?_,lt hS⟩ n1 n2 hn res hR _ 0 _ _ _ _ [] rfl (zqZ _)
  (o9.keep ⟨cQ,h1,h2,.inl ⟨hz,a,b,cY⟩⟩ dZ nS) (dz.at fun o e=>dZ l1 o n1 e) (eo.at fun o e=>dZ l2 o n2 e) (fun b o b0 _ _ _ _ e=>dZ b o b0 e) hS₃ rfl rfl ⟨List.Pairwise.nil,(fun _ ha=>nomatch ha),(fun j a hj=>by simp at hj)⟩ ?_⟩
 ·obtain⟨_,e,_⟩:=h1;exact lt e
 ·obtain⟨_,e,_⟩:=h2;exact lt e
 ·rw[Heap.size_update,Heap.size_update];exact zqR _
theorem aad{TI TO:Addr}{R:Result->Shared->Prop}(hh:A.handled=none)(D:ZipApart z TI TO i1 i2 l1 l2)(nS:z≠S/\TI≠S/\TO≠S/\i1≠S/\i2≠S)(n1:l1≠S)(n2:l2≠S)(hn:min xs.size ys.size<=sizeLine)
  (hz:IsZip s.heap z TI TO .none) (cQ:IsPair s.heap TI (.ref i1) (.ref i2)) (cY:∃a b,IsPair s.heap TO a b) (h1:s.heap.IsListIter i1 l1 0) (h2:s.heap.IsListIter i2 l2 0) (dz:s.heap.IsList l1 xs) (eo:s.heap.IsList l2 ys)
  (hS:s.heap.get? S=some {cls:=.type "list",data:=.seq #[]})
  (hR:∀h' tk acc c as,(∀b o,b≠S->b≠z->b≠TO->b≠i1->b≠i2->s.heap.get? b=some o->h'.get? b=some o)->h'.get? S=some {cls:=.type "list",dict:=none,data:=.seq acc c,slots:= #[]}->as.length=min xs.size ys.size->ZG xs ys s.heap.objs.size h' as->
   acc.toList=as.map Value.ref->R (.ok (.ret .none)) {s with heap:=h',toks:=tk}):
  wpAny (model prog w) A.in1 (Builtin.«list.__init__» ⟨[.ref S,.ref z],[]⟩)
   (fun fin s'=>match fin with|.done f=>R (.ok f) s'|.again c'=>c'.quiet=true/\codeAny (model prog w) A c' R s') (fun e s'=>R (.error e) s') s:=by
 show wpAny _ _ (do let old <-Builtin.List.listItems (.ref S);Builtin.List.listUpdate (.ref S) (fun _=> #[]);letGo old.toList.reverse;Builtin.List.listExtendWith (.ref S) (.ref z) .none) _ _ s
 refine wpAny_bind ?_;unfold Builtin.List.listItems;refine wpAny_bind<|wpAny_seqItems hS rfl<|wpAny_pure ?_;show wpAny _ _ (updateSeq S (fun _=> #[]) >>=fun _=>letGo (#[]:Array Value).toList.reverse>>=fun _=>Builtin.List.listExtendWith (.ref S) (.ref z) .none) _ _ s;refine wpAny_bind<|wpAny_updateSeq hS rfl ?_;have sD:=Heap.get?_update_self (Obj.mapSeq<|fun _=>(#[]:Array Value)) hS rfl;have dZ:∀b o,b≠S->s.heap.get? b=some o->(s.heap.update S<|Obj.mapSeq<|fun _=>(#[]:Array Value)).get? b=some o:=
  fun b o hb e=>(Heap.get?_update_other _ _<|Ne.symm hb).trans e
 refine wpAny_bind<|wpAny_letGo ?_;obtain⟨a,b,cY⟩:=cY;refine aab hh D nS n1 n2 hn (dZ _ _ nS.1 hz) (dZ _ _ nS.2.1 cQ) ⟨a,b,dZ _ _ nS.2.2.1 cY⟩ (h1.at fun o e=>dZ _ o nS.2.2.2.1 e) (h2.at fun o e=>dZ _ o nS.2.2.2.2 e) (dz.at fun o e=>dZ l1 o n1 e) (eo.at fun o e=>dZ l2 o n2 e) .none _ sD fun h' tk acc c as hk oK hl hG gI=>?_;rw[Heap.size_update] at hG;exact hR h' tk acc c as (fun b o b0 b1 b2 b3 b4 e=>hk b o b0 b1 b2 b3 b4<|dZ b o b0 e) oK hl hG gI
theorem aae{TI TO:Addr}{Q:Value->Shared->Prop}(hh:A.handled=none)(D:ZipApart z TI TO i1 i2 l1 l2)(hn:min xs.size ys.size<=sizeLine)
  (hz:IsZip s.heap z TI TO .none) (cQ:IsPair s.heap TI (.ref i1) (.ref i2)) (cY:∃a b,IsPair s.heap TO a b) (h1:s.heap.IsListIter i1 l1 0) (h2:s.heap.IsListIter i2 l2 0) (dz:s.heap.IsList l1 xs) (eo:s.heap.IsList l2 ys)
  (hQ:∀h' tk acc c as,(∀b o,b≠z->b≠TO->b≠i1->b≠i2->s.heap.get? b=some o->h'.get? b=some o)->h'.get? s.heap.objs.size=some {cls:=.type "list",dict:=none,data:=.seq acc c,slots:= #[]}->as.length=min xs.size ys.size->ZG xs ys (s.heap.objs.size+1) h' as->
   acc.toList=as.map Value.ref->Q (.ref s.heap.objs.size) {s with heap:=h',toks:=tk}):
  wpAny (model prog w) A (call (.type "list") [.ref z]) Q E s:=by
 refine callType_codes (Q₁:=fun obj s₁=>obj=.ref s.heap.objs.size/\s₁={s with heap:=s.heap.push {cls:=.type "list",data:=.seq #[]}}) PySem.F.called_list (PySem.F.typeCall_list_1 _) PySem.F.entry_list_init
  (code_list_new _ ⟨rfl,rfl⟩) fun obj s₁ h₁=>?_
 obtain⟨rfl,rfl⟩:=h₁;have hS:(s.heap.push {cls:=.type "list",data:=.seq #[]}).get? s.heap.objs.size=some {cls:=.type "list",data:=.seq #[]}:=Heap.get?_push_size _ rfl;have ne:∀{c o},s.heap.get? c=some o->c≠s.heap.objs.size:=fun e=>zap (Heap.lt_size e);obtain⟨a,b,cY⟩:=cY;have p:∀c o,s.heap.get? c=some o->(s.heap.push {cls:=.type "list",data:=.seq #[]}).get? c=some o:=fun c o e=>Heap.get?_push_of_some _ e;refine⟨⟨_,hS,rfl⟩,PySem.F.args_list_init_2 _ _,aad (A:=A.in1) hh D ⟨ne hz,ne cQ,ne cY,?_,?_⟩ ?_ ?_ hn (p _ _ hz) (p _ _ cQ) ⟨a,b,p _ _ cY⟩ (h1.at fun o e=>p _ o e) (h2.at fun o e=>p _ o e) (dz.at fun o e=>p _ o e) (eo.at fun o e=>p _ o e) hS fun h' tk acc c as hk oK hl hG gI=>?_⟩
 ·obtain⟨_,e,_⟩:=h1;exact ne e
 ·obtain⟨_,e,_⟩:=h2;exact ne e
 ·obtain⟨_,e,_⟩:=dz;exact ne e
 ·obtain⟨_,e,_⟩:=eo;exact ne e
 rw[Heap.size_push] at hG;exact⟨rfl,hQ h' tk acc c as (fun b o b1 b2 b3 b4 e=>hk b o (ne e) b1 b2 b3 b4<|p b o e) oK hl hG gI⟩
end
end ZL
namespace L2
open PySem PySem.Spec PyProof.Rows
def Dj(K:Frag):List V->Hp->VK->Prop:=fun vs H Q=>∃a b xs ys,vs=[.ref a,.ref b]/\av K H a xs/\av K H b ys/\∀(ts:List Addr) (l:Addr) (H':Hp),ts.length=min xs.length ys.length->aA H H'->(∀t∈ts,H t=none)->H l=none->
 (∀(i:Nat) (t:Addr),ts[i]?=some t->∃u v,xs[i]?=some u/\ys[i]?=some v/\H' t=some (.tup [u,v]))->H' l=some (.lst<|ts.map V.ref)->Q (.ref l) H'
def K9:Frag->TA->TE:=fun K t=>fZ (Dj K) t
section
variable {X:Cx}{wv:List (Addr×Obj)}{σ:St}{H:Hp}{s s1:Shared}
theorem K_(I0:Inv X wv σ H0 s1):∀(ts:List Addr) {H:Hp},Inv X wv σ H s->(∀t∈ts,s1.heap.objs.size<=t/\H t=none/\∃u v a b,RelV a u/\RelV b v/\s.heap.IsTuple t #[u,v])->ts.Nodup->
  ∃H',Inv X wv σ H' s/\aA H H'/\(∀t∈ts,∃u v a b,RelV a u/\RelV b v/\s.heap.IsTuple t #[u,v]/\H' t=some (.tup [a,b]))/\∀c,c∉ts->H' c=H c
 |[],H,I,_,_=>⟨H,I,fun _ _ e=>e,(fun _ h=>nomatch h),fun _ _=>rfl⟩
 |T::ts,H,I,h,nd=>by
  obtain⟨j9,fT,u,v,a,b,ra,rb,tT⟩:=h T zat;have I2:Inv X wv σ (upd H T<|.tup [a,b]) s:=by
   refine Inv.wM I fT (zay I0.sz j9) (zaD<|zan I0.lt j9) (fun x c e q=>?_) (fun p hp q=>?_) ⟨by show 2<=sizeLine;decide,[u,v],.cons ra<|.cons rb .nil,tT⟩
   ·obtain⟨v',q'⟩:=I0.cell x c e;have:=q'.lt;rw[q] at this;exact absurd (zan this j9)<|zaz _
   ·have:=Heap.lt_size (I0.pin p hp).1;rw[q] at this;exact absurd (zan this j9)<|zaz _
  have nT:T∉ts:=(zaL.mp nd).1;obtain⟨H',I',sm,al,ot⟩:=K_ I0 ts I2 (fun t ht=>by
   obtain⟨q1,q2,q3⟩:=h t (zas _ ht);exact⟨q1,by rw[aI (show t≠T from fun e=>nT (by rw[<-e];exact ht))];exact q2,q3⟩) (zaL.mp nd).2
  refine⟨H',I',fun c o e=>sm _ _ (by rw[aI (fun z=>by rw[z,fT] at e;cases e)];exact e),fun t ht=>?_,fun c hc=>?_⟩
  ·rcases zac.mp ht with rfl|ht
   ·exact⟨u,v,a,b,ra,rb,tT,by rw[ot _ nT,ax]⟩
   ·exact al t ht
  ·rw[ot c<|fun q=>hc<|zas _ q,aI (show c≠T from fun e=>hc (by rw[e];exact zat))]
end
section
variable {CX:cg}{S:cJ}{Γ:bx}{X:Cx}{e1 e2:Expr}{es:List Expr}{x y:Str}{p p2 pos lK:Pos}{r1 r2:RE}{rs:List RE}
theorem aaf{t:TA}(hc:X.calm=true)(g1:Gl X "list")(m1:X.mg "list"=none)(g2:Gl X "zip")(m2:X.mg "zip"=none)(ha:PA X [e1,e2] t)(hs:starEach [e1,e2] X.env=(false,eval e1 X.env)::starEach [e2] X.env)(jy:(backTo lK<|starEach [e2] X.env).any (·.1)=false):
  PE X (.Call (.Name "list" p) [.Call (.Name "zip" p2) [e1,e2] [] lK] [] pos) (fZ (Dj X.K) t):=by
 intro wv s σ H Q I h;refine wpAny_Call_Name_kw<|kQ I g1 m1 Bs ?_ (by decide) (by decide)
 refine PyProof.Rows.callWith_type1 ?_ rfl rfl;show wpAny _ _ (spliced ((false,eval (.Call (.Name "zip" p2) [e1,e2] [] lK) X.env)::backTo pos (starEach [] X.env))) _ _ s;refine Calls.spliced_cons ?_;refine wpAny_Call_Name_kw<|kQ I g2 m2 boot_zip ?_ (by decide) (by decide)
 refine PyProof.Rows.callWith_type1 ?_ hs jy;refine aG (ha lK wv s σ H _ I h) fun us s1 ⟨vs,H1,I1,r1,q1⟩=>?_;obtain⟨l1,l2,xs,ys,rfl,hx,hy,q⟩:=q1;obtain⟨u,v,rfl,ru,rv⟩:=vals2 r1;cases ru;cases rv;obtain⟨j8,xi,p1,z1⟩:=I1.list hx;obtain⟨fD,xj,p2,z2⟩:=I1.list hy;have dz:=xi.length;have eo:=xj.length;refine call_zip_2 p1.isList p2.isList fun h' a1 a2 a3 a4 a5 a6 hk=>?_;refine Calls.spliced_nil ?_;have TR: @LT.lt Nat _ l1 s1.heap.objs.size:=by obtain⟨_,e,_⟩:=p1.isList;exact Heap.lt_size e
 have TU: @LT.lt Nat _ l2 s1.heap.objs.size:=by obtain⟨_,e,_⟩:=p2.isList;exact Heap.lt_size e
 have D:ZipApart (s1.heap.objs.size+4) (s1.heap.objs.size+2) (s1.heap.objs.size+3) s1.heap.objs.size (s1.heap.objs.size+1) l1 l2:=by
  constructor<;>(show @Ne Nat _ _;lia)
 refine ZL.aae (s:={s1 with heap:=h'}) (xs:=j8.toArray) (ys:=fD.toArray) (I.ok.hd hc) D (by simp only[zag];lia) a1 a2 ⟨_,_,a3⟩ a4 a5 (p1.isList.at fun o e=>hk _ o e) (p2.isList.at fun o e=>hk _ o e) fun h2 tk acc c as kp eS nI hG gI=>?_
 dsimp only at kp eS hG⊢
 rw[a6] at hG eS;have kk:∀b o,s1.heap.get? b=some o->h2.get? b=some o:=fun b o e=>by
  have lt: @LT.lt Nat _ b s1.heap.objs.size:=Heap.lt_size e;refine kp b o ?_ ?_ ?_ ?_ (hk b o e) <;>(show @Ne Nat _ _;lia)
 have I2:Inv X wv σ H1 {s1 with heap:=h2,toks:=tk}:=I1.kept kk
 have tE:∀t∈as,@LE.le Nat _ (s1.heap.objs.size+6) t:=fun t ht=>hG.above t ht;have vE:∀t∈as,∃u v a b,RelV a u/\RelV b v/\h2.IsTuple t #[u,v]:=fun t ht=>by
  obtain⟨j,hj⟩:=zca.mp ht;obtain⟨u,v,e1,e2,e3⟩:=hG.pairs j t hj;have e1:j8[j]?=some u:=by simpa using e1
  have e2:fD[j]?=some v:=by simpa using e2
  have j1:j<xs.length:=by have:=(zal.mp e1).1;lia
  have j2:j<ys.length:=by have:=(zal.mp e2).1;lia
  obtain⟨u',q1,q2⟩:=xi.get (i:=j) (x:=xs[j]) (by simp[j1])
  obtain⟨v',q3,q4⟩:=xj.get (i:=j) (x:=ys[j]) (by simp[j2])
  rw[e1] at q1;cases q1;rw[e2] at q3;cases q3;exact⟨u,v,_,_,q2,q4,⟨_,e3,rfl,_,rfl⟩⟩
 have nd:as.Nodup:=hG.rise.imp fun h=>zap h;have fr:∀t∈as,H1 t=none:=fun t ht=>I1.aB.fresh (zay (zaW _ 6)<|tE t ht);obtain⟨H',I3,sm,al,ot⟩:=K_ I1 as I2 (fun t ht=>⟨zay (zaW _ 6)<|tE t ht,fr t ht,vE t ht⟩) nd;have nl:s1.heap.objs.size+5∉as:=fun q=>absurd (tE _ q) (by lia)
 have vF:s1.heap.objs.size<=s1.heap.objs.size+5:=zaW _ 5;have fl:H1 (s1.heap.objs.size+5)=none:=I1.aB.fresh vF;have rl:Vals (as.map V.ref) acc.toList:=by
  rw[gI];clear gI hG nI vE nd fr al ot nl tE
  induction as with
  |nil=>exact .nil
  |cons t ts ih=>exact .cons rfl ih
 have ml:min xs.length ys.length<=sizeLine:=by lia
 have La:as.length=min xs.length ys.length:=by rw[nI];simp only[zag];lia
 have I4:Inv X wv σ (upd H' (s1.heap.objs.size+5)<|.lst<|as.map V.ref) {s1 with heap:=h2,toks:=tk}:=by
  refine Inv.wM I3 (by rw[ot _ nl];exact fl) (zay I1.sz vF) (zaD<|zan I1.lt vF) (fun x c e q=>?_) (fun p hp q=>?_) ⟨by rw[zab,La];exact ml,acc.toList,c,rl,by simpa using eS⟩
  ·obtain⟨v',q'⟩:=I1.cell x c e;have:=q'.lt;rw[q] at this;exact absurd (zan this vF)<|zaz _
  ·have:=Heap.lt_size (I1.pin p hp).1;rw[q] at this;exact absurd (zan this vF)<|zaz _
 show EP X wv σ Q (.ref h'.objs.size) _;rw[a6];refine⟨.ref<|s1.heap.objs.size+5,_,I4,rfl,q as (s1.heap.objs.size+5) _ La (fun b o e=>?_) fr fl (fun i t hi=>?_) ax⟩
 ·rw[aI (fun z=>by rw[z,fl] at e;cases e)];exact sm _ _ e
 ·obtain⟨u,v,e1,e2,e3⟩:=hG.pairs i t hi;obtain⟨u',v',a,b,ra,rb,tT,e⟩:=al t (zak hi);have eu:u'=u/\v'=v:=by
   obtain⟨o,ho,_,n,hd⟩:=tT;rw[e3] at ho;cases ho
   injection hd with hd
   simp at hd
   exact⟨hd.1.symm,hd.2.symm⟩
  obtain⟨rfl,rfl⟩:=eu;have e1:j8[i]?=some u':=by simpa using e1
  have e2:fD[i]?=some v':=by simpa using e2
  have j1:i<xs.length:=by have:=(zal.mp e1).1;lia
  have j2:i<ys.length:=by have:=(zal.mp e2).1;lia
  obtain⟨u2,q1,q2⟩:=xi.get (i:=i) (x:=xs[i]) (by simp[j1])
  obtain⟨v2,q3,q4⟩:=xj.get (i:=i) (x:=ys[i]) (by simp[j2])
  rw[e1] at q1;cases q1;rw[e2] at q3;cases q3;refine⟨xs[i],ys[i],by simp[j1],by simp[j2],?_⟩
  rw[aI (show t≠s1.heap.objs.size+5 from fun z=>nl (by rw[<-z];exact zak hi)),e,ra.inj q2,rb.inj q4]
theorem aag(G:Good CX S Γ X)(hA:PA X [e1,e2] (aY Γ [r1,r2]))(h:kB S x "list"=true:=by kernel_rfl)(h':kB S y "zip"=true:=by kernel_rfl)(hn:gg [e1,e2]=true:=by kernel_rfl)(hq:S.md=0:=by rfl):PE X (.Call (.Name x p) [.Call (.Name y p2) [e1,e2] [] lK] [] pos) (ah Γ<|.xt K9 [r1,r2]):=by
 simp only[kB,zaf,decide_eq_true_eq] at h h'
 obtain⟨⟨rfl,h2⟩,h3⟩:=h;obtain⟨⟨rfl,h5⟩,h6⟩:=h';show PE X _ (fZ (Dj Γ.K)<|aY Γ [r1,r2]);rw[<-G.K];have n1:=dq hn;exact aaf (G.calm hq) (G.gl h2) (G.cC _ h3) (G.gl h5) (G.cC _ h6) hA (dn n1.1)<|jC _ _ _ n1.2
end
end L2
namespace L2.N
open PySem PySem.Spec L2.B
def kids(ww:List (Option Nat))(i:Nat):List Nat:=(List.range ww.length).filter fun j=>ww[j]?==some (some i)
def bf(M:List Addr)(H H':Hp):Prop:= ∀b o,H b=some o->b∉M->H' b=some o
theorem bf.trans{M:List Addr}(a:bf M H H1)(b:bf M H1 H2):bf M H H2:=fun c o e n=>b c o (a c o e n) n
theorem bf.of{M:List Addr}(s:aA H H'):bf M H H':=fun c o e _=>s c o e
theorem bf.upd{M:List Addr}{c:Addr}{o:HO}(h:c∈M):bf M H (L2.upd H c o):=fun b u e n=>by rw[aI (show b≠c from fun z=>n (by rw[z];exact h))];exact e
theorem aH{b:Addr}{o o':HO}(n:a≠b)(h:H a=some o):L2.upd H b o' a=some o:=by rw[aI n];exact h
def h_(M:List Addr)(H:Hp):Prop:= ∀x∈M,∃o,H x=some o/\∀ys,o≠ .tup ys
theorem h_.same{M:List Addr}(h:h_ M H)(s:aA H H'):h_ M H':=fun x hx=>(h x hx).imp fun o e=>⟨s _ _ e.1,e.2⟩
theorem h_.upd{M:List Addr}{c:Addr}(h:h_ M H):h_ M (L2.upd H c<|.lst xs):=fun x hx=>by
 by_cases z:x=c
 ·subst z;exact⟨_,ax,fun ys e=>by cases e⟩
 ·rw[aI z];exact h x hx
theorem h_.no{M:List Addr}(h:h_ M H)(f:H a=none):a∉M:=fun q=>by
 obtain⟨o,e,_⟩:=h a q;rw[f] at e;cases e
theorem h_.bC{M:List Addr}(h:h_ M H)(b:bf M H H'):d6 H H':=fun c xs e=>b c _ e fun q=>by
 obtain⟨o,e',n⟩:=h c q;rw[e'] at e;exact n xs<|zao e
structure y2 (p lo pa ed be lg:Addr) (bs:List Addr):Prop where
 nd:(p::lo::pa::ed::be::lg::bs).Nodup
section
variable {p lo pa ed be lg:Addr}{bs:List Addr}
theorem y2.l(A:y2 p lo pa ed be lg bs):(p≠lo/\p≠pa/\p≠ed/\p≠be/\p≠lg/\p∉bs)/\(lo≠pa/\lo≠ed/\lo≠be/\lo≠lg/\lo∉bs)/\(pa≠ed/\pa≠be/\pa≠lg/\pa∉bs)/\(ed≠be/\ed≠lg/\ed∉bs)/\(be≠lg/\be∉bs)/\lg∉bs/\bs.Nodup:=by
 have h:=A.nd
 simp only[zaL,zac,not_or] at h
 exact⟨⟨h.1.1,h.1.2.1,h.1.2.2.1,h.1.2.2.2.1,h.1.2.2.2.2.1,h.1.2.2.2.2.2⟩,⟨h.2.1.1,h.2.1.2.1,h.2.1.2.2.1,h.2.1.2.2.2.1,h.2.1.2.2.2.2⟩,⟨h.2.2.1.1,h.2.2.1.2.1,h.2.2.1.2.2.1,h.2.2.1.2.2.2⟩,⟨h.2.2.2.1.1,h.2.2.2.1.2.1,h.2.2.2.1.2.2⟩,⟨h.2.2.2.2.1.1,h.2.2.2.2.1.2⟩,h.2.2.2.2.2.1,h.2.2.2.2.2.2⟩
end
def Dk(es:List V):List Addr:=es.filterMap fun v=>match v with|.ref a=>some a|_=>none
structure jo (C:Addr) (H:Hp) (p:Addr) (M Ed:List Addr) (wn:Nat) (ww:List (Option Nat)) (aJ:List (List Nat)) (last:List (Option Nat)) (T:Nat) (dx lo pa ed be lg:Addr) (bs:List Addr) (es:List V):Prop where
 ob:fi C H p dx lo pa ed be lg wn (aJ.map List.length) ww
 eM:M=p::lo::pa::ed::be::lg::bs
 ap:y2 p lo pa ed be lg bs
 he:H ed=some (.lst es)
 le:es.length=ww.length
 ea:Dk es=Ed
 e0:es[0]?=some .az
 ev:qS H es ww aJ T
 en:∀(i:Nat) a,es[i]?=some (V.ref a)->a∉M
 hb:H be=some (.lst<|bs.map V.ref)
 lb:bs.length=ww.length
 hk:∀(i:Nat) b,bs[i]?=some b->H b=some (.lst<|iV<|kids ww i)
 hg:H lg=some (.lst<|last.map gV)
 qW:last.length=ww.length
def cc(C:Addr)(H:Hp)(p:Addr)(M Ed:List Addr)(wn:Nat)(ww:List (Option Nat))(aJ:List (List Nat))(last:List (Option Nat))(T:Nat):Prop:= ∃dx lo pa ed be lg bs es,jo C H p M Ed wn ww aJ last T dx lo pa ed be lg bs es
section
variable {C:Addr}{H H':Hp}{p:Addr}{M Ed:List Addr}{wn:Nat}{ww:List (Option Nat)}{aJ:List (List Nat)}{last:List (Option Nat)}{T:Nat}{dx lo pa ed be lg:Addr}{bs:List Addr}{es:List V}
theorem jo.same(A:jo C H p M Ed wn ww aJ last T dx lo pa ed be lg bs es)(s:aA H H'):jo C H' p M Ed wn ww aJ last T dx lo pa ed be lg bs es:=
 ⟨A.ob.same s,A.eM,A.ap,s _ _ A.he,A.le,A.ea,A.e0,A.ev.same s,A.en,s _ _ A.hb,A.lb,fun i b e=>s _ _<|A.hk i b e,s _ _ A.hg,A.qW⟩
theorem cc.same(A:cc C H p M Ed wn ww aJ last T)(s:aA H H'):cc C H' p M Ed wn ww aJ last T:=by
 obtain⟨dx,lo,pa,ed,be,lg,bs,es,A⟩:=A;exact⟨dx,lo,pa,ed,be,lg,bs,es,A.same s⟩
theorem jo.live(A:jo C H p M Ed wn ww aJ last T dx lo pa ed be lg bs es):h_ M H:=fun x h=>by
 rw[A.eM] at h;rcases zac.mp h with rfl|h
 ·exact⟨_,A.ob.ob,fun ys e=>by cases e⟩
 rcases zac.mp h with rfl|h
 ·exact⟨_,A.ob.ol,fun ys e=>by cases e⟩
 rcases zac.mp h with rfl|h
 ·exact⟨_,A.ob.op,fun ys e=>by cases e⟩
 rcases zac.mp h with rfl|h
 ·exact⟨_,A.he,fun ys e=>by cases e⟩
 rcases zac.mp h with rfl|h
 ·exact⟨_,A.hb,fun ys e=>by cases e⟩
 rcases zac.mp h with rfl|h
 ·exact⟨_,A.hg,fun ys e=>by cases e⟩
 obtain⟨i,hi⟩:=zca.mp h;exact⟨_,A.hk i x hi,fun ys e=>by cases e⟩
theorem jo.aah(A:jo C H p M Ed wn ww aJ last T dx lo pa ed be lg bs es)(h:a∈Ed):∃xs,H a=some (.lst xs):=by
 rw[<-A.ea] at h;obtain⟨v,hv,e⟩:=zbv.mp h;obtain⟨i,hi⟩:=zca.mp hv;have e:v=.ref a:=by
  cases v with
  |ref b=>exact congrArg V.ref (zao e)
  |_=>cases e
 subst e;have h0:i≠0:=fun z=>by rw[z,A.e0] at hi;cases hi
 obtain⟨j,hj,_⟩:=A.ob.tr.up i (by lia) (by rw[<-A.le];exact(zal.mp hi).1)
 obtain⟨a',ps,lj,li,h1,_,_,⟨xs,hx,_⟩,_⟩:=A.ev i j hj;rw[hi] at h1;cases h1;exact⟨xs,hx⟩
theorem jo.keep(A:jo C H p M Ed wn ww aJ last T dx lo pa ed be lg bs es)(k:∀b o,b∈M\/b∈Ed->H b=some o->H' b=some o)(t:d6 H H'):jo C H' p M Ed wn ww aJ last T dx lo pa ed be lg bs es:=by
 have kM:∀b o,b∈p::lo::pa::ed::be::lg::bs->H b=some o->H' b=some o:=fun b o h e=>k b o (.inl (by rw[A.eM];exact h)) e
 refine⟨⟨kM _ _ (by simp) A.ob.ob,kM _ _ (by simp) A.ob.ol,kM _ _ (by simp) A.ob.op,A.ob.ln,A.ob.tr,A.ob.hr,A.ob.sz⟩,A.eM,A.ap,kM _ _ (by simp) A.he,A.le,A.ea,A.e0,fun i j e=>?_,A.en,kM _ _ (by simp) A.hb,A.lb,fun i b e=>kM _ _ (by simp[zak e])<|A.hk i b e,kM _ _ (by simp) A.hg,A.qW⟩
 obtain⟨a,ps,lj,li,h1,h2,h3,h4,h5⟩:=A.ev i j e;refine⟨a,ps,lj,li,h1,h2,h3,h4.keep (fun o e=>k a o (.inr ?_) e) t,h5⟩;rw[<-A.ea];exact zbv.mpr ⟨_,zak h1,rfl⟩
theorem cc.keep(A:cc C H p M Ed wn ww aJ last T)(k:∀b o,b∈M\/b∈Ed->H b=some o->H' b=some o)(t:d6 H H'):cc C H' p M Ed wn ww aJ last T:=by
 obtain⟨dx,lo,pa,ed,be,lg,bs,es,A⟩:=A;exact⟨dx,lo,pa,ed,be,lg,bs,es,A.keep k t⟩
theorem cc.own(A:cc C H p M Ed wn ww aJ last T)(f:H a=none):a∉M/\a∉Ed:=by
 obtain⟨dx,lo,pa,ed,be,lg,bs,es,A⟩:=A;refine⟨A.live.no f,fun h=>?_⟩;obtain⟨xs,e⟩:=A.aah h;rw[f] at e;cases e
theorem jo.Lb(A:jo C H p M Ed wn ww aJ last T dx lo pa ed be lg bs es)(b:bf M H H'):qS H' es ww aJ T:=fun i j e=>by
 obtain⟨a,ps,lj,li,h1,h2,h3,h4,h5⟩:=A.ev i j e;exact⟨a,ps,lj,li,h1,h2,h3,h4.keep (fun o e=>b a o e<|A.en i a h1)<|A.live.bC b,h5⟩
end
theorem Dl{ww:List (Option Nat)}{h:Nat}(T:dR ww):kids (ww++[some h]) i=kids ww i++(if h=i then [ww.length] else []):=by
 unfold kids;rw[zqA,zaR,List.range_succ,zbD]
 congr 1
 ·refine List.filter_congr fun j hj=>?_;rw[zaw<|zbL.mp hj]
 ·by_cases z:h=i
  ·subst z;simp
  ·simp[z]
theorem aai{ww:List (Option Nat)}(T:dR ww)(h:ww.length<=i):kids ww i=[]:=by
 unfold kids;refine List.filter_eq_nil_iff.mpr fun j hj=>?_;have hj:=zbL.mp hj;intro e;have e:ww[j]?=some (some i):=by simpa using e
 by_cases z:j=0
 ·subst z;rw[T.rt] at e;cases e
 ·obtain⟨k,h1,h2⟩:=T.up j (by lia) hj
  rw[h1] at e;cases e;lia
section
variable {Γ:bx}{D:Ends}{σ:St}{H:Hp}{r:List RS}{C p dx l:Addr}{fs:List (Str×V)}{f:Str}{lW:List V}
theorem Dm{x:RE}(h:ah Γ x σ H fun v H1=>mJ Γ.K .list [v] H1 Q):ah Γ (.blt .list [x]) σ H Q:=h
theorem vG{a:RE}(σ0:σ[0]?=some (some<|.ref p))(hp:H p=some (.ins C dx fs))(hf:fs.lookup f=some (.ref l))(c:fY Γ.K C)(n:fP Γ.K C f)(hl:H l=some (.lst lW))(h:ah Γ a σ H fun y H2=>∃xs,H2 l=some (.lst xs)/\xs.length<sizeLine/\ay Γ r D σ (upd H2 l<|.lst<|xs++[y])):
  ay Γ (.drop (.bh .append (.fld (.v 0) f) [a])::r) D σ H:=
 bN (fg<|dv<|ae σ0 ⟨p,C,dx,fs,_,rfl,hp,c,n,hf,.inl ⟨rfl,_,av.of hl⟩,h⟩)
end
theorem Dp{ww:List (Option Nat)}(T:dR ww){h:Nat}(hh:h<ww.length):dR (ww++[some h]):=by
 refine⟨by rw[zaw (by lia)];exact T.rt,fun i h0 hi=>?_⟩
 rw[zqA,zaR] at hi;by_cases z:i<ww.length
 ·rw[zaw z];exact T.up i h0 z
 ·have:i=ww.length:=by lia
  subst this;exact⟨h,by simp,hh⟩
theorem Lc{wn k:Int}{pa:Addr}:cf "here" (V.int k) (h6 wn lo pa ed be lg)=h6 k lo pa ed be lg:=Cj
structure jR (C:Addr) (H:Hp) (p dx lo pa ed be lg:Addr) (bs:List Addr) (hv:Int) (ls ps es bv gs:List V) (ks:Nat->List V):Prop where
 h1:H p=some (.ins C dx<|h6 hv lo pa ed be lg)
 h2:H lo=some (.lst ls)
 h3:H pa=some (.lst ps)
 h4:H ed=some (.lst es)
 h5:H be=some (.lst bv)
 h6:H lg=some (.lst gs)
 h7:∀i b,bs[i]?=some b->H b=some (.lst<|ks i)
section
variable {C:Addr}{H H':Hp}{p dx lo pa ed be lg:Addr}{bs:List Addr}{hv:Int}{ls ps es bv gs xs:List V}{ks:Nat->List V}
theorem jR.same(R:jR C H p dx lo pa ed be lg bs hv ls ps es bv gs ks)(s:aA H H'):jR C H' p dx lo pa ed be lg bs hv ls ps es bv gs ks:=
 ⟨s _ _ R.h1,s _ _ R.h2,s _ _ R.h3,s _ _ R.h4,s _ _ R.h5,s _ _ R.h6,fun i b e=>s _ _<|R.h7 i b e⟩
theorem jR.set(A:y2 p lo pa ed be lg bs)(R:jR C H p dx lo pa ed be lg bs hv ls ps es bv gs ks):
  jR C (L2.upd H lo<|.lst xs) p dx lo pa ed be lg bs hv xs ps es bv gs ks/\jR C (L2.upd H pa<|.lst xs) p dx lo pa ed be lg bs hv ls xs es bv gs ks/\jR C (L2.upd H ed<|.lst xs) p dx lo pa ed be lg bs hv ls ps xs bv gs ks/\jR C (L2.upd H be<|.lst xs) p dx lo pa ed be lg bs hv ls ps es xs gs ks/\jR C (L2.upd H lg<|.lst xs) p dx lo pa ed be lg bs hv ls ps es bv xs ks:=by
 obtain⟨⟨a1,a2,a3,a4,a5,a6⟩,⟨b1,b2,b3,b4,b5⟩,⟨c1,c2,c3,c4⟩,⟨d1,d2,d3⟩,⟨e1,e2⟩,g1,g2⟩:=A.l;have k:∀{c:Addr},c∉bs->∀i b,bs[i]?=some b->L2.upd H c (.lst xs) b=some (.lst<|ks i):=fun h i b hi=>aH (fun z=>h (by rw[<-z];exact zak hi)) (R.h7 i b hi)
 exact⟨⟨aH a1 R.h1,ax,aH b1.symm R.h3,aH b2.symm R.h4,aH b3.symm R.h5,aH b4.symm R.h6,k b5⟩,⟨aH a2 R.h1,aH b1 R.h2,ax,aH c1.symm R.h4,aH c2.symm R.h5,aH c3.symm R.h6,k c4⟩,⟨aH a3 R.h1,aH b2 R.h2,aH c1 R.h3,ax,aH d1.symm R.h5,aH d2.symm R.h6,k d3⟩,⟨aH a4 R.h1,aH b3 R.h2,aH c2 R.h3,aH d1 R.h4,ax,aH e1.symm R.h6,k e2⟩,aH a5 R.h1,aH b4 R.h2,aH c3 R.h3,aH d2 R.h4,aH e1 R.h5,ax,k g1⟩
end
section
variable {K:Frag}{C CF:Addr}
def Ld(C:Addr):Sp:=fun vs H Q E=>∃(p:Addr) (M Ed:List Addr) (wn:Nat) (ww:List (Option Nat)) (aJ:List (List Nat)) (last:List (Option Nat)) (T:Nat) (c:Addr) (ps:List Pt) (l r:List Nat),vs=[.ref p,.ref c]/\cc C H p M Ed wn ww aJ last T/\dO H c ps l r/\c∉M/\aJ[wn]?=some l/\B.aD ps<=T/\T<=100000/\ww.length<100000/\
 ∀(b a:Addr) (H':Hp),bf M H H'->H b=none->H a=none->cc C H' p (M++[b]) (Ed++[a]) ww.length (ww++[some wn]) (aJ++[r]) (last++[none]) T->Q (.int (ww.length:Nat)) H'
theorem aaj(X:gK K C):bE (Ld C) (fun E=>aO K [("sizes",m_)] [] [] [("need_over",C,Dh C CF),("many",C,tm C)] (E:=E)) IF IE:=by
 intro vs H Q E h;obtain⟨p,M,Ed,wn,ww,aJ,last,T,c,ps,l,r,rfl,⟨dx,lo,pa,ed,be,lg,bs,es,A⟩,hc,vH,hl,ht,hT,hn,q⟩:=h;have nJ:(aJ.map List.length)[wn]?=some l.length:=by rw[zai,hl];rfl
 refine bN<|jN C (Dh C CF) rfl<|ae rfl ⟨p,dx,_,rfl,A.ob.ob,gQ,ae rfl ⟨p,dx,lo,pa,ed,be,lg,wn,_,ww,c,ps,l,r,l.length,rfl,A.ob,hc,by lia,nJ,.inl ⟨rfl,fun H1 s1=>?_⟩⟩⟩
 have A1:=A.same s1;have iZ:=hc.same s1;refine bc<|vo C (tm C) rfl<|ae rfl ⟨p,dx,_,rfl,A1.ob.ob,gQ,p,dx,lo,pa,ed,be,lg,wn,_,ww,rfl,A1.ob,?_⟩;obtain⟨⟨a1,a2,a3,a4,a5,a6⟩,⟨b1,b2,b3,b4,b5⟩,⟨c1,c2,c3,c4⟩,⟨d1,d2,d3⟩,⟨e1,e2⟩,g1,g2⟩:=A.ap.l;have eM:=A.eM;have inM:p∈M/\lo∈M/\pa∈M/\ed∈M/\be∈M/\lg∈M/\∀b∈bs,b∈M:=by rw[eM];simp;exact fun b hb=>.inr (.inr<|.inr<|.inr<|.inr<|.inr hb)
 obtain⟨mp,ml,mpa,me,mb,mg,mbs⟩:=inM;have R1:jR C H1 p dx lo pa ed be lg bs wn _ _ es _ _ fun i=>iV (kids ww i):=⟨A1.ob.ob,A1.ob.ol,A1.ob.op,A1.he,A1.hb,A1.hg,A1.hk⟩;have sz:=A.ob.sz;have Dq:(aJ.map List.length).length=ww.length:=A.ob.ln;have iG:aJ.length=ww.length:=by rw[<-Dq,zab]
 have big:∀{n:Nat},n<=100000->n<sizeLine:=fun h=>dJ (by lia)
 have Le:=A1.live;refine vG rfl R1.h1 qR X.cl X.oM R1.h3<|dv<|ae rfl ⟨p,C,dx,_,_,rfl,R1.h1,X.cl,X.iz,jQ,_,R1.h3,big (by rw[zab];exact sz),?_⟩
 have ep:ww.map gV++[V.int (wn:Nat)]=(ww++[some wn]).map gV:=by rw[zam];rfl
 rw[ep];have k2:bf M H1 (upd H1 pa<|.lst<|(ww++[some wn]).map gV):=bf.upd mpa;have R2:=(R1.set (xs:=(ww++[some wn]).map gV) A.ap).2.1;have vI:=Le.upd (c:=pa) (xs:=(ww++[some wn]).map gV);have Lf:=iZ.keep (fun o e=>k2 c o e vH) (Le.bC k2);generalize upd H1 pa (.lst<|(ww++[some wn]).map gV)=H2 at k2 R2 Lf vI⊢;obtain⟨xs,hx,oh,tH⟩:=Lf;refine vG rfl R2.h1 C9 X.cl X.xX R2.h4<|Dm<|ae rfl ⟨xs,.inl<|av.of hx,fun a fa=>⟨_,aH (fun z=>by have:=R2.h4;rw[z,fa] at this;cases this) R2.h4,big (by rw[A.le];exact sz),?_⟩⟩
 have s3:=sameNew (o:=.lst xs) fa;have o_:a∉M:=vI.no fa;have Dr:=(vI.same s3).upd (c:=ed) (xs:=es++[V.ref a]);have nae:a≠ed:=fun z=>o_ (by rw[z];exact me)
 have k3:bf M H2 (upd (upd H2 a<|.lst xs) ed<|.lst<|es++[V.ref a]):=(bf.of s3).trans (bf.upd me);have tj:upd (upd H2 a<|.lst xs) ed (.lst<|es++[V.ref a]) a=some (.lst xs):=aH nae ax;have R3:=((R2.same s3).set (xs:=es++[V.ref a]) A.ap).2.2.1;have Lg:=k3 _ _ hx vH;have Ds:=oh.mono (vI.bC k3);generalize upd (upd H2 a<|.lst xs) ed (.lst<|es++[V.ref a])=H3 at k3 tj R3 Lg Ds Dr⊢;have k13:=k2.trans k3;have cl:ps.length<=2*B.aD ps+1:=s_ ps "" tH.ok tH.ch;refine vG rfl R3.h1 yU X.cl X.uU R3.h2<|bD<|bZ m_ rfl<|aq<|ae rfl<|aE ⟨c,xs,ps,rfl,Lg,Ds,tH.ok,tH.ch,by lia,fun t H4 s4 vJ=>au<|qO vJ rfl ⟨_,s4 _ _ R3.h2,big (by rw[zab];lia),?_⟩⟩
 have eg:(sJ ps).sum=r.length:=tH.run.gives;rw[eg];have el:(aJ.map List.length).map (fun n=>V.int (n:Nat))++[V.int (r.length:Nat)]=((aJ++[r]).map List.length).map (fun n=>V.int (n:Nat)):=by rw[zam,zam];rfl
 rw[el];generalize eL:((aJ++[r]).map List.length).map (fun n=>V.int (n:Nat))=ll;have k5:bf M H3 (upd H4 lo<|.lst ll):=(bf.of s4).trans (bf.upd ml);have nK:=k5 _ _ tj o_;have R5:=((R3.same s4).set (xs:=ll) A.ap).1;have y6:=(Dr.same s4).upd (c:=lo) (xs:=ll);have y7:=Ds.mono (Dr.bC k5);generalize upd H4 lo (.lst ll)=H5 at k5 nK R5 y6 y7⊢;have Dt:=k13.trans k5;refine vG rfl R5.h1 C_ X.cl X.xY R5.h5<|cm<|aE ⟨Ez,fun b fb=>⟨_,aH (fun z=>by have:=R5.h5;rw[z,fb] at this;cases this) R5.h5,big (by rw[zab,A.lb];exact sz),?_⟩⟩
 have s6:=sameNew (o:=.lst []) fb;have tI:b∉M:=y6.no fb;have nb:b≠be:=fun z=>tI (by rw[z];exact mb)
 have eb:bs.map V.ref++[V.ref b]=(bs++[b]).map V.ref:=by rw[zam];rfl
 rw[eb];have na:a≠b:=fun z=>by rw[z,fb] at nK;cases nK
 have k6:bf M H5 (upd (upd H5 b<|.lst []) be<|.lst<|(bs++[b]).map V.ref):=(bf.of s6).trans (bf.upd mb);have Lh:upd (upd H5 b<|.lst []) be (.lst<|(bs++[b]).map V.ref) b=some (.lst []):=aH nb ax;have vA:=k6 _ _ nK o_;have R6:=((R5.same s6).set (xs:=(bs++[b]).map V.ref) A.ap).2.2.2.1;have Du:=(y6.same s6).upd (c:=be) (xs:=(bs++[b]).map V.ref);have Li:=y7.mono (y6.bC k6);generalize upd (upd H5 b<|.lst []) be (.lst<|(bs++[b]).map V.ref)=H6 at k6 Lh vA R6 Du Li⊢;have k16:=Dt.trans k6;refine vG rfl R6.h1 Dc X.cl X.xZ R6.h6<|au ⟨_,R6.h6,big (by rw[zab,A.qW];exact sz),?_⟩
 have eg2:last.map gV++[V.az]=(last++[none]).map gV:=by rw[zam];rfl
 rw[eg2];have k7:bf M H6 (upd H6 lg<|.lst<|(last++[none]).map gV):=bf.upd mg;have Lj:=k7 _ _ Lh tI;have Lk:=k7 _ _ vA o_;have R7:=(R6.set (xs:=(last++[none]).map gV) A.ap).2.2.2.2;have Dv:=Du.upd (c:=lg) (xs:=(last++[none]).map gV);have Ll:=Li.mono (Du.bC k7);generalize upd H6 lg (.lst<|(last++[none]).map gV)=H7 at k7 Lj Lk R7 Dv Ll⊢;have k17:=k16.trans k7;have Dw:=A.ob.hr;have Lm:wn<bs.length:=by rw[A.lb];exact Dw
 have eh:bs[wn]?=some bs[wn]:=zar Lm;have qh:=R7.h7 wn _ eh;have mh:bs[wn]∈M:=mbs _ (zak eh);have aas:(iV<|kids ww wn).length<=100000:=by
  rw[zab];have:=zbE (fun j=>ww[j]?==some (some wn)) (List.range ww.length);rw[zbU] at this;exact zay this sz
 have ai:gc ((bs++[b]).map V.ref) ((wn:Nat):Int)=some (V.ref bs[wn]):=cB (by rw[zai,zaw Lm,eh];rfl)
 refine bN<|fg<|bD<|dv<|ae rfl ⟨p,C,dx,_,_,rfl,R7.h1,X.cl,X.xY,C_,dv<|ae rfl ⟨p,C,dx,_,_,rfl,R7.h1,X.cl,X.iz,jQ,cp R7.h5 ai ⟨.inl ⟨rfl,_,av.of qh⟩,ae rfl ⟨_,qh,big aas,?_⟩⟩⟩⟩;have eq8:iV (kids ww wn)++[V.int (ww.length:Nat)]=iV (kids (ww++[some wn]) wn):=by rw[Dl A.ob.tr,if_pos rfl];unfold iV;rw[zam];rfl
 rw[eq8];have k8:bf M H7 (upd H7 bs[wn] (.lst<|iV<|kids (ww++[some wn]) wn)):=bf.upd mh;have nh:∀{x:Addr},x∉bs->x≠bs[wn]:=fun h z=>h (by rw[z];exact zak eh)
 have Ln:=k8 _ _ Lj tI;have Lo:=k8 _ _ Lk o_;have q8:∀(i:Nat) (x:Addr),bs[i]?=some x->upd H7 bs[wn] (.lst<|iV<|kids (ww++[some wn]) wn) x=some (.lst<|iV<|kids (ww++[some wn]) i):=fun i x hi=>by
  by_cases z:i=wn
  ·subst z;rw[eh] at hi;cases hi;exact ax
  ·have jA:x≠bs[wn]:=fun zz=>z ((List.getElem?_inj (zal.mp hi).1 g2).mp (by rw[hi,eh,zz]))
   rw[aI jA,R7.h7 i x hi,Dl A.ob.tr,if_neg<|fun e=>z e.symm,zae]
 have R8:jR C (upd H7 bs[wn] (.lst<|iV<|kids (ww++[some wn]) wn)) p dx lo pa ed be lg bs wn ll _ _ _ _ fun i=>iV (kids (ww++[some wn]) i):=⟨aH (nh a6) R7.h1,aH (nh b5) R7.h2,aH (nh c4) R7.h3,aH (nh d3) R7.h4,aH (nh e2) R7.h5,aH (nh g1) R7.h6,q8⟩;have Lp:=Dv.upd (c:=bs[wn]) (xs:=iV (kids (ww++[some wn]) wn));have Lq:=Ll.mono (Dv.bC k8);generalize upd H7 bs[wn] (.lst<|iV<|kids (ww++[some wn]) wn)=H8 at k8 Ln Lo R8 Lp Lq⊢;have k18:=k17.trans k8;refine oY<|ae rfl<|ae rfl ⟨p,C,dx,_,rfl,R8.h1,X.cl,X.iz,(by show 6<1000;decide),?_⟩
 rw[Lc];have k9:bf M H8 (upd H8 p<|.ins C dx<|h6 (ww.length:Nat) lo pa ed be lg):=bf.upd mp;have Lr:=k18.trans k9;have ev9:qS (upd H8 p<|.ins C dx<|h6 (ww.length:Nat) lo pa ed be lg) es ww aJ T:=A1.Lb Lr;have pv9:=Lq.mono (Lp.bC k9);refine bI<|ae rfl<|q b a _ ((bf.of s1).trans Lr) ?_ ?_ ⟨dx,lo,pa,ed,be,lg,bs++[b],es++[V.ref a],?_⟩
 ·cases hz:H b with
  |none=>rfl
  |some o=>
   have h5:=Dt b o (s1 _ _ hz) tI;rw[fb] at h5;cases h5
 ·cases hz:H a with
  |none=>rfl
  |some o=>
   have h5:=k2 a o (s1 _ _ hz) o_;rw[fa] at h5;cases h5
 ·have np1:ww.length+1<=100000:=hn;refine⟨⟨ax,(by rw[eL];exact aH (Ne.symm a1) R8.h2),aH (Ne.symm a2) R8.h3,?_,Dp A.ob.tr Dw,?_,?_⟩,?_,⟨?_⟩,aH (Ne.symm a3) R8.h4,?_,(by unfold Dk;rw[List.filterMap_append];show Dk es++[a]=_;rw[A.ea]),(by rw[zaw (by rw[A.le];lia)];exact A.e0),?_,?_,aH (Ne.symm a4) R8.h5,?_,?_,aH (Ne.symm a5) R8.h6,?_⟩
  ·rw[zab,zqA,zqA,iG];rfl
  ·rw[zqA];exact zbO _
  ·rw[zqA];exact np1
  ·rw[eM];rfl
  ·have h:=A.ap.nd;rw[<-eM] at h;have:p::lo::pa::ed::be::lg::(bs++[b])=M++[b]:=by rw[eM];rfl
   rw[this];exact List.nodup_append.mpr ⟨h,(by simp),fun x hx y hy e=>tI (by rw[<-zad.mp hy,<-e];exact hx)⟩
  ·rw[zqA,zqA,A.le];rfl
  ·intro i j y8;by_cases z:i<ww.length
   ·rw[zaw z] at y8;obtain⟨a',iX,lj,li,h1,h2,h3,h4,h5⟩:=ev9 i j y8;have jl:=(zal.mp h2).1;exact⟨a',iX,lj,li,by rw[zaw (by rw[A.le];exact z)];exact h1,by rw[zaw jl];exact h2,by rw[zaw (by rw[iG];exact z)];exact h3,h4,h5⟩
   ·have zi:i=ww.length:=by
     have:=(zal.mp y8).1;rw[zqA,zaR] at this;lia
    subst zi;have:wn=j:=by simpa using y8
    subst this;exact⟨a,ps,l,r,by rw[<-A.le];simp,by rw[zaw (by rw[iG];exact Dw)];exact hl,by rw[<-iG];simp,⟨xs,aH (fun z=>o_ (by rw[z];exact mp)) Lo,pv9,tH⟩,ht⟩
  ·intro i x hx;have nx:x∉M/\x≠b:=by
    by_cases z:i<es.length
    ·rw[zaw z] at hx;have h1:=A.en i x hx;refine⟨h1,fun zz=>?_⟩;obtain⟨j,hj⟩:∃j,ww[i]?=some (some j):=by
      by_cases z0:i=0
      ·rw[z0,A.e0] at hx;cases hx
      ·obtain⟨j,q1,_⟩:=A.ob.tr.up i (by lia) (by rw[<-A.le];exact z)
       exact⟨j,q1⟩
     obtain⟨a',iX,lj,li,m8,_,_,h4,_⟩:=A1.ev i j hj;rw[hx] at m8;cases m8;obtain⟨ys,hy,_⟩:=h4;have:=Dt _ _ hy h1;rw[zz,fb] at this;cases this
    ·have zi:i=es.length:=by
      have:=(zal.mp hx).1;rw[zqA,zaR] at this;lia
     subst zi;have:a=x:=by simpa using hx
     subst this;exact⟨o_,na⟩
   intro h;rcases zaa.mp h with h|h
   ·exact nx.1 h
   ·exact nx.2 (zad.mp h)
  ·rw[zqA,zqA,A.lb];rfl
  ·intro i x hx;by_cases z:i<bs.length
   ·rw[zaw z] at hx;exact aH (fun zz=>a6 (by rw[<-zz];exact zak hx))<|R8.h7 i x hx
   ·have zi:i=bs.length:=by
     have:=(zal.mp hx).1;rw[zqA,zaR] at this;lia
    subst zi;have:b=x:=by simpa using hx
    subst this;rw[A.lb,Dl A.ob.tr,aai A.ob.tr<|zqR _,if_neg (by lia)]
    exact aH (fun zz=>tI (by rw[zz];exact mp)) Ln
  ·rw[zqA,zqA,A.qW];rfl
end
end L2.N
namespace L2.B
open PySem PySem.Spec PyProof.Rows
def Ls:List Str:=["self","way","steps","changes","change","node","other"]
noncomputable def Lu:List RS:=
 [.asg 2 (.xt K9 [.v 1,(.sl (.v 1) (some (.c (.int 1))) none)]),
 .asg 3 (.lst [(.call 0 [(.lst [(.tup [(.c<|.str "keep"),(.ix (.fld (.v 0) "lengths")<|.fld (.v 0) "here")])])])]),
 .asg 4 (.call 1 [(.bin .Add (.v 3)<|.comp (some 2) [("self",0)] .list [.v 2] none<|.bz 0 "edge" (.v 2) [.v 0,.v 1])]),
 .j5 [5,6] .list [.v 2] [.ite (.cmp .Eq (.ix (.fld (.v 0) "parents")<|.v 5)<|.v 6) [.set (.fld (.v 0) "last_gone") (.v 6)<|.v 5] []],
 .gF (.v 0) "here" (.ix (.v 1)<|.neg<|.c<|.int 1),
 .ret (.v 4)]
def aay:List Str:=["neat","joined_all"]
def aaz:List Str:=["list","zip"]
def aaA:List Str:=["edge"]
end L2.B
namespace L2.N
open PySem PySem.Spec L2.B
def kz(H:Hp):List V->List (V×V)->Prop:=Paired fun v p=>∃t,v=.ref t/\H t=some (.tup [p.1,p.2])
theorem kz.same(s:d6 H H'):∀{xs:List V}{ps:List (V×V)},kz H xs ps->kz H' xs ps
 |_,_,.nil=>.nil
 |_,_,.cons ⟨t,e,h⟩ r=>.cons ⟨t,e,s _ _ h⟩ (kz.same s r)
theorem kz.at:∀{xs:List V}{ps:List (V×V)}{i:Nat}{v:V},kz H xs ps->xs[i]?=some v->∃p t,ps[i]?=some p/\v=.ref t/\H t=some (.tup [p.1,p.2])
 |_,_,i,v,.nil,e=>by simp at e
 |_,_,0,v,.cons ⟨t,e',h⟩ r,e=>by simp at e;subst e;exact⟨_,t,rfl,e',h⟩
 |_,_,i+1,v,.cons h r,e=>by
  obtain⟨p,t,a,b⟩:=kz.at (i:=i) r (by simpa using e)
  exact⟨p,t,by simpa using a,b⟩
theorem Lv{α β:Type}{R:α->β->Prop}:∀{xs:List α}{ys:List β},xs.length=ys.length->(∀(i:Nat) x y,xs[i]?=some x->ys[i]?=some y->R x y)->Paired R xs ys
 |[],[],_,_=>.nil
 |[],_::_,h,_=>by cases h
 |_::_,[],h,_=>by cases h
 |x::xs,y::ys,h,k=>.cons (k 0 x y rfl rfl) (Lv (Nat.succ.inj h) fun i a b ha hb=>k (i+1) a b (by simpa using ha) (by simpa using hb))
section
variable {K:Frag}
theorem aaB{QQ:List V->Hp->Addr->Prop}{te:TE}{cs:List (V×V)}(ha:H a=some (.lst xs))(hc:kz H xs cs)(hl:cs.length<=1000000)(P:Nat->List V->Hp->Prop)(p0:P 0 [] H)
  (step:∀i c ys H2,cs[i]?=some c->aA H H2->P i ys H2->∀Q':VK,(∀y H3,aA H2 H3->P (i+1) (ys++[y]) H3->Q' y H3)->te (some c.1::some c.2::cb σ fv) H2 Q')
  (fin:∀ys H2 p,aA H H2->P cs.length ys H2->ys.length=cs.length->H2 p=none->QQ ys H2 p):∃W:Nat->Nat->List V->Hp->Prop,(∃m,W 0 m [] H)/\∀i m ys H2,W i m ys H2->
   ((eZ K a).stop i H2/\∀p,H2 p=none->QQ ys H2 p)\/
   ((eZ K a).go i H2/\∀x H3,(eZ K a).fB i H2 x H3->iN K (some 2) x H3 fun zs=>jZ none (zs.map some++cb σ fv) H3 fun b H5=>
    if b=true then te (zs.map some++cb σ fv) H5 fun y H6=>ys.length<sizeLine/\∃m',m'<m/\W (i+1) m' (ys++[y]) H6 else ∃m',m'<m/\W (i+1) m' ys H5):=by
 have lx:xs.length=cs.length:=Paired.length hc;refine⟨fun i m ys H2=>m=xs.length - i/\i<=xs.length/\ys.length=i/\aA H H2/\P i ys H2,⟨_,rfl,zqZ _,rfl,aA.refl _,p0⟩,?_⟩;rintro i m ys H2 ⟨rfl,hi,hy,s,p⟩;by_cases aN:i<xs.length
 ·refine .inr ⟨⟨xs,xs[i],av.of<|s _ _ ha,by simp[aN]⟩,?_⟩
  rintro x H3 ⟨rfl,hx⟩;obtain⟨c,t,wb,rfl,ht⟩:=kz.at hc (hx xs<|av.of<|s _ _ ha);refine⟨t,_,rfl,aM.of<|s _ _ ht,rfl,?_⟩;exact step i c ys _ wb s p _ fun y H4 s4 p4=>⟨dJ (by lia),xs.length - (i+1),by lia,rfl,aN,by simp[hy],s.trans s4,p4⟩
 ·have iA:i=xs.length:=by lia
  subst iA;refine .inl ⟨⟨xs,av.of<|s _ _ ha,zqR _⟩,fun q hq=>fin ys _ q s ?_ (by lia) hq⟩
  rw[<-lx];exact p
end
def tJ(ww:List (Option Nat))(n m:Nat):Prop:=ww[m]?=some (some n)\/ww[n]?=some (some m)
def aaC(ww:List (Option Nat))(ns:List Nat):Prop:= ∀i n m,ns[i]?=some n->ns[i+1]?=some m->tJ ww n m
def iH(ww:List (Option Nat))(la:List (Option Nat))(p:Nat×Nat):List (Option Nat):=if ww[p.1]?=some (some p.2) then la.set p.2 (some p.1) else la
def Dx(ww:List (Option Nat))(ns:List Nat)(la:List (Option Nat)):List (Option Nat):=(ns.zip ns.tail).foldl (iH ww) la
theorem Dy{ww:List (Option Nat)}:∀(ps:List (Nat×Nat)) la,(ps.foldl (iH ww) la).length=la.length
 |[],_=>rfl
 |p::ps,la=>by
  rw[zbR,Dy ps];unfold iH
  split
  ·rw[zbd]
  ·rfl
section
variable {K:Frag}{C:Addr}
theorem aaD(n:Nat):B.aD (fU [.keep (n:Int)])=0:=by
 rw[Cd [.keep (n:Int)] (by intro p hp;cases zad.mp hp;show(0:Int)<=_;lia)];rfl
theorem aaE{E:XK}{b t:Addr}{l:List Nat}(h:H b=some (.lst [.ref t]))(ht:H t=some (.tup [.str "keep",.int (l.length:Int)]))(hl:l.length<=100000)
  (q:∀c H',aA H H'->H c=none->dO H' c (fU [.keep (l.length:Int)]) l l->Q (.ref c) H'):oN [.ref b] H Q E:=by
 refine⟨b,[.ref t],[.keep (l.length:Int)],rfl,h,.cons ⟨t,rfl,ht⟩ .nil,(by show 1<=100000;decide),(by show 0+0<=100000;decide),fun c H' ys s hc h2 h3=>q c H' s hc ⟨ys,h2,?_,Y6⟩⟩
 rw[B8 [.keep (l.length:Int)] (by intro p hp;cases zad.mp hp;show(0:Int)<=_;lia)] at h3
 exact h3
def pb(C:Addr):Sp:=fun vs H Q E=>∃(p:Addr) (M Ed:List Addr) (wn d:Nat) (ww:List (Option Nat)) (aJ:List (List Nat)) (last:List (Option Nat)) (T:Nat) (w:Addr) (wr:List Nat) (l r:List Nat),vs=[.ref p,.ref w]/\cc C H p M Ed wn ww aJ last T/\H w=some (.lst<|iV (wn::wr))/\w∉M/\
 aaC ww (wn::wr)/\(∀n∈wr,n<ww.length)/\wr.length<=9000/\T*wr.length<=14000/\T<=14000/\(wn::wr)[wr.length]?=some d/\aJ[wn]?=some l/\aJ[d]?=some r/\l.length<=100000/\
 ∀(c:Addr) (ps:List Pt) (H':Hp),bf M H H'->H c=none->c∉M->dO H' c ps l r->B.aD ps<=T*wr.length->cc C H' p M Ed d ww aJ (Dx ww (wn::wr) last) T->Q (.ref c) H'
theorem aaF(X:gK K C):bE (pb C) (fun E=>aO K [("neat",oN),("joined_all",C4)] [] [] [("edge",C,Dg C)] (E:=E)) Lu Ls:=by
 intro vs H Q E h;obtain⟨p,M,Ed,wn,d,ww,aJ,last,T,w,wr,l,r,rfl,⟨dx,lo,pa,ed,be,lg,bs,es,A⟩,hw,nw,gA,oy,hle,hT,Dz,hd,hl,hr,nJ,q⟩:=h;have sz:=A.ob.sz;have Dq:(aJ.map List.length).length=ww.length:=A.ob.ln;have iG:aJ.length=ww.length:=by rw[<-Dq,zab]
 refine bc ?_;refine⟨_,rfl,_,rfl,⟨_,rfl,.inl ⟨_,av.of hw,fun w2 fw2=>?_⟩⟩⟩;have ec:eN (iV (wn::wr)) (some (1:Int)) none=iV wr:=by
  rw[show((1:Int))=((1:Nat):Int) from rfl,C1];rfl
 have s1:=sameNew (o:=.lst (eN (iV (wn::wr)) (some (1:Int)) none)) fw2;have DA:upd H w2 (.lst<|eN (iV (wn::wr)) (some (1:Int)) none) w2=some (.lst<|iV wr):=by rw[ax,ec]
 refine⟨w,w2,_,_,rfl,av.of<|s1 _ _ hw,av.of DA,fun ts L H2 DB s2 Lw fL lS hL=>?_⟩;generalize upd H w2 (.lst<|eN (iV (wn::wr)) (some (1:Int)) none)=H1 at s1 DA s2 Lw fL lS;have fN:=s1.trans s2;have DB:ts.length=wr.length:=by
  rw[DB,zab,zab,zaq];lia
 have hP:kz H2 (ts.map V.ref) (((wn::wr).zip wr).map fun p=>(V.int (p.1:Nat),V.int (p.2:Nat))):=by
  refine Lv (by rw[zab,zab,List.length_zip,zaq];lia) fun i v pr hv hp=>?_
  rw[zai] at hv hp;obtain⟨t,ht,rfl⟩:=zbl.mp hv;obtain⟨⟨n,m⟩,tK,rfl⟩:=zbl.mp hp;obtain⟨h1,h2⟩:=zcb.mp tK;obtain⟨u,v,e1,e2,e3⟩:=lS i t ht;rw[zai,h1] at e1;rw[zai,h2] at e2;cases e1;cases e2;exact⟨t,rfl,e3⟩
 have DC:((wn::wr).zip wr).length=wr.length:=by rw[List.length_zip,zaq];lia
 have A2:=A.same fN;have qX:=s2 _ _ (s1 _ _ hw);clear lS Lw s2 DA;have hlh:(aJ.map List.length)[wn]?=some l.length:=by rw[zai,hl];rfl
 refine bc<|cm<|aq<|bZ oN rfl<|aq<|cm<|aq<|kq<|aq<|au<|aq<|bD<|dv<|ae rfl ⟨p,C,dx,_,_,rfl,A2.ob.ob,X.cl,X.uU,yU,dv<|ae rfl ⟨p,C,dx,_,_,rfl,A2.ob.ob,X.cl,X.iz,jQ,cp A2.ob.ol (cB (by rw[zai,hlh];rfl))<|aE ⟨eJ,fun t ft=>aE ⟨dw,fun b fb=>aE ?_⟩⟩⟩⟩
 have s3:=sameNew (o:=.tup [V.str "keep",V.int (l.length:Nat)]) ft;have s4:=sameNew (o:=.lst [V.ref t]) fb;refine aaE ax (s4 _ _ ax) nJ fun c0 H5 s5 fc0 Lx=>aE ⟨dw,fun L2 Ly=>?_⟩;have Lz:=(s3.trans s4).trans s5;have aaJ:=(fN.trans<|s3.trans s4).free fc0;have s6:=sameNew (o:=.lst [V.ref c0]) Ly;have oZ:=Lz.trans s6;have qU:upd H5 L2 (.lst [V.ref c0]) L2=some (.lst [V.ref c0]):=ax;have y9:=Lx.same s6;have A6:=A2.same oZ;have DD:=hP.same (df oZ);have y_:=oZ _ _ hL;have oX:=oZ _ _ qX;have DE:=fN.trans oZ;generalize upd H5 L2 (.lst [V.ref c0])=H6 at s6 oZ qU y9 A6 DD y_ oX DE⊢;clear s3 s4 s5 Lz Lx ft fb Ly;have aaK:∀n,n<ww.length->∃x,aJ[n]?=some x:=fun n h=>⟨_,zar (by rw[iG];exact h)⟩
 have vK:∀(i n:Nat),(wn::wr)[i]?=some n->n<ww.length:=fun i n e=>by
  rcases zac.mp (zak e) with rfl|h
  ·exact A.ob.hr
  ·exact oy n h
 refine bc<|bZ C4 rfl<|aq<|aK<|ae rfl ?_;refine⟨_,rfl,L,rfl,⟨_,av.of y_⟩,aaB y_ DD (by rw[zab,DC];lia) (fun i ys H7=>∃(n t:Nat) (x:List Nat),(wn::wr)[i]?=some n/\aJ[n]?=some x/\dh H7 ys l x t/\t<=T*i) ⟨wn,0,l,rfl,hl,⟨rfl,rfl⟩,zqZ _⟩ ?_ ?_⟩
 ·intro i c ys H7 hc s7 ⟨n,t,x,hn,hx,cv,ht⟩ Q' kk;rw[zai] at hc;obtain⟨⟨n',m⟩,tK,rfl⟩:=zbl.mp hc;obtain⟨h1,h2⟩:=zcb.mp tK;rw[hn] at h1;have e:n=n':=zao h1;subst e;have sE:(wn::wr)[i+1]?=some m:=by rw[zbC];exact h2
  obtain⟨y,hy⟩:=aaK m (vK _ _ sE);have A7:=A6.same s7;have aaL:ww[m]?=some (some n)\/(ww[m]?≠some (some n)/\ww[n]?=some (some m)):=by
   rcases gA i n m hn sE with h|h
   ·exact .inl h
   ·by_cases z:ww[m]?=some (some n)
    ·exact .inl z
    ·exact .inr ⟨z,h⟩
  refine CQ C (Dg C) rfl<|ae rfl ⟨p,dx,_,rfl,A7.ob.ob,gQ,ae rfl<|ae rfl ⟨p,dx,lo,pa,ed,be,lg,wn,_,ww,es,aJ,T,n,m,x,y,rfl,A7.ob,A7.he,A7.ev,Dz,hx,hy,vK _ _ sE,aaL,fun c ps H8 s8 hc8 tt=>kk _ _ s8 ⟨m,t+B.aD ps,y,sE,hy,dh.app (dh.same s8 cv) ⟨c,ps,y,0,rfl,hc8,⟨rfl,rfl⟩,rfl⟩,?_⟩⟩⟩;rw[Nat.mul_add,Nat.mul_one];lia
 ·intro ys H7 b7 s7 ⟨n,t,x,hn,hx,cv,ht⟩ ly f7;rw[zab,DC] at hn ht ly;rw[hd] at hn;cases hn;rw[hr] at hx;cases hx;have s8:=sameNew (o:=.lst ys) f7;refine .inl ⟨L2,b7,_,_,rfl,rfl,s8 _ _<|s7 _ _ qU,ax,cz (by show 1+ys.length<=_;lia),fun b9 f9=>aE ?_⟩
  have s9:=sameNew (o:=.lst ([V.ref c0]++ys)) f9;have DF:=s7.trans (s8.trans s9);have ln9:([V.ref c0]++ys).length=1+ys.length:=by rw[zqA];rfl
  refine⟨b9,[V.ref c0]++ys,l,r,0+t,rfl,ax,⟨c0,_,l,t,rfl,y9.same DF,dh.same (s8.trans s9) cv,by rw[aaD]⟩,by lia,by lia,by lia,fun c ps oz xx aaN tt fc=>?_⟩
  have vL:=DF.trans xx;have sH:=DE.trans vL;have jS:=A6.same vL;have yT:H c=none:=by
   rcases fc with fc|fc
   ·exact(DE.trans DF).free fc
   ·cases ys with
    |nil=>cases fc;exact aaJ
    |cons y r'=>cases fc
  have vH:c∉M:=A.live.no yT;have aaO:=DD.same (df vL);have LA:=vL _ _ y_;have aaP:=vL _ _ oX;have fLH:H L=none:=s1.free fL;have nLM:L∉M:=A.live.no fLH;have lv:=jS.live;have DG:lg∈M:=by rw[A.eM];simp
  have mp:p∈M:=by rw[A.eM];simp
  obtain⟨⟨a1,a2,a3,a4,a5,a6⟩,⟨b1,b2,b3,b4,b5⟩,⟨c1,c2,c3,c4⟩,⟨d1,d2,d3⟩,⟨e1,e2⟩,g1,g2⟩:=A.ap.l;have ett:((wn::wr).zip wr)=(wn::wr).zip (wn::wr).tail:=rfl;refine CV<|ae rfl ⟨L,rfl,⟨_,av.of LA⟩,kT (K:=K) (a:=L) (xs:=ts.map V.ref) (fun i σ nM=>∃u5 u6,σ=[some<|.ref p,some<|.ref w,some<|.ref L,some<|.ref L2,some<|.ref c,u5,u6]/\aP lg oz nM/\nM lg=some (.lst<|((((wn::wr).zip wr).take i).foldl (iH ww) last).map gV)) ⟨none,none,rfl,fun _ _ e _=>e,jS.hg⟩ ?_ ?_ ?_⟩
  ·rintro i σ nM _ ⟨u5,u6,rfl,b,_⟩;exact av.of<|b _ _ LA fun z=>nLM (by rw[z];exact DG)
  ·rintro i x σ nM hi ⟨u5,u6,rfl,b,hg⟩;obtain⟨pr,t,vE,rfl,ht⟩:=kz.at aaO hi;rw[zai] at vE;obtain⟨⟨n,m⟩,tK,rfl⟩:=zbl.mp vE;obtain⟨h1,h2⟩:=zcb.mp tK;have hn:=vK _ _ h1;have hm:=vK (i+1) m (by rw[zbC];exact h2)
   have aaS:=b _ _ ht fun z=>by rw[z,jS.hg] at ht;cases ht
   refine⟨t,_,rfl,.inl<|aM.of aaS,rfl,_,_,rfl,_,_,rfl,rfl,?_⟩;have op:=b _ _ jS.ob.op c3;have oo:=b _ _ jS.ob.ob a5;have DH:ww[n]?=some ww[n]:=zar hn;have lla:=Dy (ww:=ww) (((wn::wr).zip wr).take i) last;have ll:=A.qW;refine br<|aZ<|bD<|dv<|ae rfl ⟨p,C,dx,_,_,rfl,oo,X.cl,X.oM,qR,ae rfl<|cp op (cB (by rw[zai,DH];rfl))<|ae rfl<|yV ⟨_,rfl,?_⟩⟩
   have qJ:(((wn::wr).zip wr).take<|i+1).foldl (iH ww) last=iH ww ((((wn::wr).zip wr).take i).foldl (iH ww) last) (n,m):=by
    rw[C0 tK,List.foldl_append];rfl
   by_cases z:ww[n]=some m
   ·refine iT ?_ (zqT z);refine sY<|ae rfl<|dv<|ae rfl ⟨p,C,dx,_,_,rfl,oo,X.cl,X.xZ,Dc,ae rfl ⟨lg,_,_,m,rfl,rfl,hg,?_,?_⟩⟩
    ·rw[zab,lla,ll];unfold f_;rw[if_pos (by lia),if_pos (by lia)];rfl
    ·refine⟨_,_,rfl,b.trans aP.upd,?_⟩;rw[ax,qJ];unfold iH;rw[DH,z,if_pos rfl,zbK];rfl
   ·refine iF ?_ (zqF z);refine⟨_,_,rfl,b,?_⟩;rw[qJ];unfold iH;rw[DH,if_neg<|fun e=>z<|zao e];exact hg
  ·rintro σ nM ⟨u5,u6,rfl,b,hg⟩;rw[zab,DB,zaG (by rw[DC];exact zqR _)] at hg
   have oo:=b _ _ jS.ob.ob a5;have aaU:=b _ _ aaP fun z=>nw (by rw[z];exact DG)
   have bL:bf M oz nM:=fun x o e n=>b x o e fun z=>n (by rw[z];exact DG)
   have aaV:gc (iV (wn::wr)) (-1)=some (V.int (d:Nat)):=by
    have e1:(wn::wr)=(wn::wr).dropLast++[d]:=by
     have e2:(wn::wr).getLast (by simp)=d:=by
      rw[List.getLast_eq_getElem];have:=(zal.mp hd).2
      simpa using this
     rw[<-e2,List.dropLast_concat_getLast]
    rw[e1];unfold iV;rw[zam];exact kU _ _
   refine oY<|bD<|ae rfl<|h9<|.inl ⟨w,_, -1,_,rfl,rfl,av.of aaU,aaV,ae rfl ⟨p,C,dx,_,rfl,oo,X.cl,X.iz,(by show 6<1000;decide),?_⟩⟩
   rw[Lc];have bp:bf M nM (upd nM p<|.ins C dx<|h6 (d:Nat) lo pa ed be lg):=bf.upd mp;have bb:=bL.trans bp;have k:∀{x:Addr}{o:HO},oz x=some o->x≠lg->x≠p->upd nM p (.ins C dx<|h6 (d:Nat) lo pa ed be lg) x=some o:=fun e n1 n2=>aH n2 (b _ _ e n1);refine bI<|ae rfl<|q c ps _ ((bf.of sH).trans bb) yT vH (aaN.keep (fun o e=>bb c o e vH)<|lv.bC bb) (by lia) ⟨dx,lo,pa,ed,be,lg,bs,es,?_⟩
   exact⟨⟨ax,k jS.ob.ol b4<|Ne.symm a1,k jS.ob.op c3<|Ne.symm a2,A.ob.ln,A.ob.tr,vK _ _ hd,A.ob.sz⟩,A.eM,A.ap,k jS.he d2<|Ne.symm a3,A.le,A.ea,A.e0,jS.Lb bb,A.en,k jS.hb e1<|Ne.symm a4,A.lb,fun i x hx=>k (jS.hk i x hx) (fun z=>g1 (by rw[<-z];exact zak hx))<|fun z=>a6 (by rw[<-z];exact zak hx),by rw[aI<|Ne.symm a5];exact hg,by show(((wn::wr).zip wr).foldl (iH ww) last).length=_;rw[Dy];exact A.qW⟩
end
def gk(R:Nat->Nat->Prop):List Nat->Prop
 |a::b::r=>R a b/\gk R (b::r)
 |_=>True
theorem DI{R:Nat->Nat->Prop}{m:Nat}{r:List Nat}:∀l,gk R (l++[m])->gk R (m::r)->gk R (l++m::r)
 |[],_,h=>h
 |[a],h,h'=>⟨h.1,h'⟩
 |a::b::l,h,h'=>⟨h.1,DI (b::l) h.2 h'⟩
theorem aaW{R:Nat->Nat->Prop}{m k:Nat}(h2:R m k):∀l,gk R (l++[m])->gk R (l++[m]++[k]):=fun l h=>by
 rw[zah];exact DI l h ⟨h2,trivial⟩
theorem DJ{R:Nat->Nat->Prop}{x:List Nat}:∀p,gk R (p++x)->gk R x
 |[],h=>h
 |[a],h=>by cases x with
  |nil=>trivial
  |cons b r=>exact h.2
 |a::b::p,h=>DJ (b::p) h.2
theorem za{R:Nat->Nat->Prop}:∀l,gk R l->gk (fun a b=>R b a) l.reverse
 |[],_=>trivial
 |[a],_=>trivial
 |a::b::r,h=>by
  have ih:=za (b::r) h.2;rw[zaC] at ih⊢;rw[zaC];exact aaW (R:=fun a b=>R b a) h.1 r.reverse ih
theorem DK{R S:Nat->Nat->Prop}(h:∀a b,R a b->S a b):∀l,gk R l->gk S l
 |[],_=>trivial
 |[a],_=>trivial
 |a::b::r,k=>⟨h _ _ k.1,DK h (b::r) k.2⟩
theorem LB{R:Nat->Nat->Prop}:∀l,gk R l->∀i n m,l[i]?=some n->l[i+1]?=some m->R n m
 |[],_,i,n,m,h,_=>by simp at h
 |[a],_,i,n,m,_,h=>by simp at h
 |a::b::r,k,0,n,m,h,h'=>by simp at h h';subst h h';exact k.1
 |a::b::r,k,i+1,n,m,h,h'=>LB (b::r) k.2 i n m (by simpa using h) (by simpa using h')
section
variable {ww:List (Option Nat)}
theorem tL(T:dR ww):∀n,n<ww.length->gk (fun a b=>ww[a]?=some (some b)) (ups ww n n)/\(∀k∈ups ww n n,k<ww.length)/\(∃r,ups ww n n=n::r)/\∃q,ups ww n n=q++[0]:=by
 intro n
 induction n using Nat.strongRecOn with
 |ind n ih=>
  intro hn;by_cases z:n=0
  ·subst z;exact⟨trivial,fun k hk=>by cases zad.mp hk;exact hn,⟨[],rfl⟩,⟨[],rfl⟩⟩
  ·obtain⟨j,hj,aN,e⟩:=kx T (by lia) hn
   obtain⟨h1,h2,⟨r,er⟩,⟨q,eq⟩⟩:=ih j aN (by lia)
   rw[e];refine⟨?_,fun k hk=>?_,⟨_,rfl⟩,⟨n::q,by rw[eq];rfl⟩⟩
   ·rw[er] at h1⊢;exact⟨hj,h1⟩
   ·rcases zac.mp hk with rfl|hk
    ·exact hn
    ·exact h2 k hk
theorem DL:∀x y (m:Nat) xs ys,x=m::xs->y=m::ys->∃m' bB dA p q,strip x y=(m'::bB,m'::dA)/\x=p++m'::bB/\y=q++m'::dA:=by
 intro x
 induction x with
 |nil=>intro y m xs ys h;cases h
 |cons a as ih=>
  intro y m xs ys h1 h2;cases h1;subst h2
  match as,ys,ih with
  |[],ys,_=>exact⟨a,[],ys,[],[],K0 a _,rfl,rfl⟩
  |b::bs,[],_=>exact⟨a,b::bs,[],[],[],K1 _ a,rfl,rfl⟩
  |b::bs,c::cs,ih=>
   by_cases z:b=c
   ·subst z;obtain⟨m',bB,dA,p,q,e,e1,e2⟩:=ih (b::cs) b bs cs rfl rfl;exact⟨m',bB,dA,a::p,a::q,by rw[strip_eq,e],by rw[e1];rfl,by rw[e2];rfl⟩
   ·exact⟨a,b::bs,c::cs,[],[],K2 z,rfl,rfl⟩
theorem DM(T:dR ww)(hn:n<ww.length)(hd:d<ww.length):∃(u v:List Nat) (m:Nat),gR ww n d=u++m::v/\(∃p,ups ww n n=u++m::p)/\(∃p,ups ww d d=v.reverse++m::p)/\gk (tJ ww) (gR ww n d)/\(∃r,gR ww n d=n::r)/\(∃q,gR ww n d=q++[d])/\(∀k∈gR ww n d,k<ww.length)/\u.length+v.length<=n+d:=by
 obtain⟨h1,h2,⟨r1,e1⟩,⟨q1,f1⟩⟩:=tL T n hn;obtain⟨g1,g2,⟨r2,e2⟩,⟨q2,f2⟩⟩:=tL T d hd;obtain⟨m,xs,ys,p,q,es,ex,ey⟩:=DL (ups ww n n).reverse (ups ww d d).reverse 0 q1.reverse q2.reverse (by rw[f1,zaP];rfl) (by rw[f2,zaP];rfl)
 have ew:gR ww n d=xs.reverse++m::ys:=by
  unfold gR;rw[es];show(m::xs).reverse++ys=_;rw[zaC,zah];rfl
 have eu:ups ww n n=xs.reverse++m::p.reverse:=by
  have:=congrArg List.reverse ex;rw[zaU,zaP,zaC,zah] at this;exact this
 have ed:ups ww d d=ys.reverse++m::q.reverse:=by
  have:=congrArg List.reverse ey;rw[zaU,zaP,zaC,zah] at this;exact this
 have c1:gk (tJ ww) (xs.reverse++[m]):=by
  have hx:=DJ p (by rw[<-ex];exact za _ h1)
  have:=za _ hx;rw[zaC] at this;exact DK (fun a b h=>.inr h) _ this
 have c2:gk (tJ ww) (m::ys):=DK (fun a b h=>.inl h) _ (DJ q (by rw[<-ey];exact za _ g1))
 have DN:=tw T n hn;have LC:=tw T d hd;rw[eu] at DN;rw[ed] at LC
 simp only[zqA,zaJ,zaq] at DN LC
 refine⟨xs.reverse,ys,m,ew,⟨_,eu⟩,⟨_,ed⟩,by rw[ew];exact DI _ c1 c2,?_,?_,?_,by rw[zaJ];lia⟩
 ·rw[eu] at e1;rw[ew];cases hx:xs.reverse with
  |nil=>rw[hx] at e1;cases e1;exact⟨_,rfl⟩
  |cons a b=>rw[hx] at e1;cases e1;exact⟨_,rfl⟩
 ·rw[ed] at e2;rw[ew];cases hy:ys.reverse with
  |nil=>
   rw[hy] at e2;have:ys=[]:=List.reverse_eq_nil_iff.mp hy;subst this;cases e2;exact⟨_,rfl⟩
  |cons a b=>
   rw[hy] at e2;have:ys=b.reverse++[a]:=by rw[<-zaU ys,hy,zaC]
   cases e2;exact⟨xs.reverse++m::b.reverse,by rw[this,zah];rfl⟩
 ·intro k hk;rw[ew] at hk;rcases zaa.mp hk with hk|hk
  ·exact h2 k (by rw[eu];exact zaA _ hk)
  ·rcases zac.mp hk with rfl|hk
   ·exact h2 k (by rw[eu];exact zau _ zat)
   ·exact g2 k (by rw[ed];exact zaA _ (zbs.mpr hk))
end
section
variable {K:Frag}{C CN:Addr}
def nN(C:Addr)(H:Hp)(p:Addr)(M Ed:List Addr)(wn d:Nat)(wr:List Nat)(ww:List (Option Nat))(aJ:List (List Nat))(last:List (Option Nat))(T:Nat)(l r:List Nat)(Q:VK):Prop:=
 ∀c ps H',bf M H H'->H c=none->c∉M->dO H' c ps l r->B.aD ps<=T*wr.length->cc C H' p M Ed d ww aJ (Dx ww (wn::wr) last) T->Q (.ref c) H'
def DO(C CN:Addr):Sp:=fun vs H Q E=>∃(p:Addr) (M Ed:List Addr) (wn:Nat) (ww:List (Option Nat)) (aJ:List (List Nat)) (last:List (Option Nat)) (T:Nat),vs=[.ref p]/\cc C H p M Ed wn ww aJ last T/\T<=14000/\
 ((∃(j:Nat) (l r:List Nat),ww[wn]?=some (some j)/\aJ[wn]?=some l/\aJ[j]?=some r/\l.length<=100000/\nN C H p M Ed wn j [j] ww aJ last T l r Q)\/(wn=0/\E (.ref CN) none H))
def DP(C CN:Addr):Sp:=fun vs H Q E=>∃(p:Addr) (M Ed:List Addr) (wn:Nat) (ww:List (Option Nat)) (aJ:List (List Nat)) (last:List (Option Nat)) (T:Nat),vs=[.ref p]/\cc C H p M Ed wn ww aJ last T/\T<=14000/\
 ((∃(j:Nat) (l r:List Nat),last[wn]?=some (some j)/\ww[j]?=some (some wn)/\aJ[wn]?=some l/\aJ[j]?=some r/\l.length<=100000/\nN C H p M Ed wn j [j] ww aJ last T l r Q)\/(last[wn]?=some none/\E (.ref CN) none H))
def zb(C:Addr):Sp:=fun vs H Q E=>∃(p:Addr) (M Ed:List Addr) (wn d:Nat) (ww:List (Option Nat)) (aJ:List (List Nat)) (last:List (Option Nat)) (T:Nat) (wr:List Nat) (l r:List Nat),vs=[.ref p,.int d]/\cc C H p M Ed wn ww aJ last T/\d<ww.length/\gR ww wn d=wn::wr/\wr.length<=9000/\T*wr.length<=14000/\T<=14000/\aJ[wn]?=some l/\aJ[d]?=some r/\l.length<=100000/\
 nN C H p M Ed wn d wr ww aJ last T l r Q
theorem nN.same{p:Addr}{M Ed:List Addr}{wn:Nat}{wr:List Nat}{ww:List (Option Nat)}{last:List (Option Nat)}{T:Nat}{l r:List Nat}(g:nN C H p M Ed wn d wr ww aJ last T l r Q)(s:aA H H1):nN C H1 p M Ed wn d wr ww aJ last T l r Q:=
 fun c ps H' b f n h t x=>g c ps H' ((bf.of s).trans b) (s.free f) n h t x
theorem aaX(X:gK K C):bE (DO C CN) (fun E=>aO K [] [] [] [("along",C,pb C)] (et:=[("NoNode",CN)]) (E:=E)) II lL:=by
 intro vs H Q E h;obtain⟨p,M,Ed,wn,ww,aJ,last,T,rfl,⟨dx,lo,pa,ed,be,lg,bs,es,A⟩,hT,h⟩:=h;refine br<|aZ<|dv<|ae rfl ⟨p,C,dx,_,_,rfl,A.ob.ob,X.cl,X.iz,jQ,au<|eG ⟨_,rfl,?_⟩⟩;rcases h with⟨j,l,r,hj,hl,hr,nJ,q⟩|⟨rfl,q⟩
 ·have h0:wn≠0:=fun z=>by rw[z,A.ob.tr.rt] at hj;cases hj
  refine iF (cM ?_)<|zqF (by lia)
  obtain⟨j',bH,aN⟩:=A.ob.tr.up wn (by lia) A.ob.hr
  rw[hj] at bH;cases bH;refine bI<|jN C (pb C) rfl<|ae rfl ⟨p,dx,_,rfl,A.ob.ob,gQ,cm<|aq<|dv<|ae rfl ⟨p,C,dx,_,_,rfl,A.ob.ob,X.cl,X.iz,jQ,aq<|bD<|dv<|ae rfl ⟨p,C,dx,_,_,rfl,A.ob.ob,X.cl,X.oM,qR,dv<|ae rfl ⟨p,C,dx,_,_,rfl,A.ob.ob,X.cl,X.iz,jQ,cp A.ob.op (cB (by rw[zai,hj];rfl))<|aE ⟨eJ,fun w fw=>?_⟩⟩⟩⟩⟩
  have s1:=sameNew (o:=.lst (iV [wn,j])) fw;refine⟨p,M,Ed,wn,j,ww,aJ,last,T,w,[j],l,r,rfl,⟨dx,lo,pa,ed,be,lg,bs,es,A.same s1⟩,ax,A.live.no fw,fun i n m h1 h2=>?_,fun n hn=>by cases zad.mp hn;exact Nat.lt_trans aN A.ob.hr,(by show 1<=9000;decide),by show T*1<=_;lia,hT,rfl,hl,hr,nJ,nN.same q s1⟩
  cases i with
  |zero=>cases h1;cases h2;exact .inr hj
  |succ i=>simp at h2
 ·exact iT ⟨dw,q⟩ rfl
theorem aaY(X:gK K C):bE (DP C CN) (fun E=>aO K [] [] [] [("along",C,pb C)] (et:=[("NoNode",CN)]) (E:=E)) IM IL:=by
 intro vs H Q E h;obtain⟨p,M,Ed,wn,ww,aJ,last,T,rfl,⟨dx,lo,pa,ed,be,lg,bs,es,A⟩,hT,h⟩:=h;obtain⟨o,ho⟩:∃o,last[wn]?=some o:=⟨_,zar (by rw[A.qW];exact A.ob.hr)⟩
 refine bc<|bD<|dv<|ae rfl ⟨p,C,dx,_,_,rfl,A.ob.ob,X.cl,X.xZ,Dc,dv<|ae rfl ⟨p,C,dx,_,_,rfl,A.ob.ob,X.cl,X.iz,jQ,cp A.hg (cB (by rw[zai,ho];rfl)) ?_⟩⟩
 rcases h with⟨j,l,r,hj,hp,hl,hr,nJ,q⟩|⟨hn,q⟩
 ·rw[ho] at hj;cases hj;have vM:=(zal.mp hp).1;refine br<|aZ<|ae rfl<|au ⟨rfl,_,rfl,iF (cM ?_) rfl⟩;refine bI<|jN C (pb C) rfl<|ae rfl ⟨p,dx,_,rfl,A.ob.ob,gQ,cm<|aq<|dv<|ae rfl ⟨p,C,dx,_,_,rfl,A.ob.ob,X.cl,X.iz,jQ,aq<|ae rfl<|aE ⟨eJ,fun w fw=>?_⟩⟩⟩;have s1:=sameNew (o:=.lst (iV [wn,j])) fw;refine⟨p,M,Ed,wn,j,ww,aJ,last,T,w,[j],l,r,rfl,⟨dx,lo,pa,ed,be,lg,bs,es,A.same s1⟩,ax,A.live.no fw,fun i n m h1 h2=>?_,fun n hn=>by cases zad.mp hn;exact vM,(by show 1<=9000;decide),by show T*1<=_;lia,hT,rfl,hl,hr,nJ,nN.same q s1⟩
  cases i with
  |zero=>cases h1;cases h2;exact .inl hp
  |succ i=>simp at h2
 ·rw[ho] at hn;cases hn;exact br<|aZ<|ae rfl<|au ⟨rfl,_,rfl,iT ⟨dw,q⟩ rfl⟩
theorem aaZ(X:gK K C):bE (zb C) (fun E=>aO K [] [] [] [("along",C,pb C),("way",C,vB C)] (E:=E)) BU iY:=by
 intro vs H Q E h;obtain⟨p,M,Ed,wn,d,ww,aJ,last,T,wr,l,r,rfl,⟨dx,lo,pa,ed,be,lg,bs,es,A⟩,hd,ew,hle,hT,Dz,hl,hr,nJ,q⟩:=h;refine bI<|jN C (pb C) rfl<|ae rfl ⟨p,dx,_,rfl,A.ob.ob,gQ,CQ C (vB C) rfl<|ae rfl ⟨p,dx,_,rfl,A.ob.ob,gQ,dv<|ae rfl ⟨p,C,dx,_,_,rfl,A.ob.ob,X.cl,X.iz,jQ,ae rfl ⟨p,dx,lo,pa,ed,be,lg,wn,_,ww,wn,d,rfl,A.ob,A.ob.hr,hd,fun w H1 s1 fw hw=>?_⟩⟩⟩⟩;obtain⟨u,v,m,e1,_,_,hc,_,⟨q',e2⟩,hk,_⟩:=DM A.ob.tr A.ob.hr hd;rw[ew] at hw hc e2 hk;have zc:(wn::wr)[wr.length]?=some d:=by
  rw[e2];have:q'.length=wr.length:=by
   have:=congrArg List.length e2
   simp only[zaq,zqA,zbf] at this
   lia
  rw[<-this];simp
 exact⟨p,M,Ed,wn,d,ww,aJ,last,T,w,wr,l,r,rfl,⟨dx,lo,pa,ed,be,lg,bs,es,A.same s1⟩,hw,A.live.no fw,fun i n m h1 h2=>LB _ hc i n m h1 h2,fun n hn=>hk n<|zas _ hn,hle,hT,Dz,zc,hl,hr,nJ,nN.same q s1⟩
end
section
variable {K:Frag}{C CP:Addr}
abbrev z1:List (Str×V):=[("here",.int 0)]
abbrev z2(lo:Addr):List (Str×V):=[("here",.int 0),("lengths",.ref lo)]
abbrev z3(lo pa:Addr):List (Str×V):=[("here",.int 0),("lengths",.ref lo),("parents",.ref pa)]
abbrev z4(lo pa ed:Addr):List (Str×V):=[("here",.int 0),("lengths",.ref lo),("parents",.ref pa),("edges",.ref ed)]
abbrev z5(lo pa ed be:Addr):List (Str×V):=[("here",.int 0),("lengths",.ref lo),("parents",.ref pa),("edges",.ref ed),("below",.ref be)]
def qY(C CP:Addr):Sp:=fun vs H Q E=>∃(p dx:Addr) (v:V),vs=[.ref p,v]/\H p=some (.ins C dx [])/\
 ((∃(x:List Nat) (T:Nat),v=.int (x.length:Nat)/\∀(M:List Addr) (H':Hp),aP p H H'->(∀a∈M,a≠p->H a=none)->cc C H' p M [] 0 [none] [x] [none] T->Q .az H')\/((lO v H\/∃i:Int,v=.int i/\i<0)/\E (.ref CP) none H))
theorem LD{p:Addr}(b:aP p H H')(f:H' a=none)(n:a≠p):H a=none:=by
 cases h:H a with
 |none=>rfl
 |some o=>rw[b a o h n] at f;cases f
theorem vN{p:Addr}{fs js:List (Str×V)}(b1:aP p H H1)(f:H1 a=none)(o1:H1 p=some (.ins C dx fs)):a≠p/\H a=none/\aP p H (upd (upd H1 a<|.lst xs) p<|.ins C dx js)/\upd (upd H1 a<|.lst xs) p (.ins C dx js) p=some (.ins C dx js)/\upd (upd H1 a<|.lst xs) p (.ins C dx js) a=some (.lst xs)/\
  ∀c o,H1 c=some o->c≠p->c≠a/\upd (upd H1 a<|.lst xs) p (.ins C dx js) c=some o:=by
 have n:a≠p:=fun z=>by rw[<-z,f] at o1;cases o1
 refine⟨n,LD b1 f n,(b1.same<|sameNew f).trans aP.upd,ax,aH n ax,fun c o e nc=>⟨fun z=>(by rw[z,f] at e;cases e),aH nc<|sameNew f _ _ e⟩⟩
theorem aa0(X:gK K C):bE (qY C CP) (fun E=>aO K [("is_whole",oT)] [] (et:=[("NoPlace",CP)]) (E:=E)) Iz Iy:=by
 intro vs H Q E h;obtain⟨p,dx,v,rfl,hp,h⟩:=h;rcases h with⟨x,T,rfl,q⟩|⟨hn,q⟩
 ·refine br (nG<|gj<|hZ oT rfl<|aq<|ae rfl<|aE ⟨_,rfl,.inl ⟨_,rfl,fV<|iF (aZ<|ae rfl<|au<|ltI ⟨_,rfl,iF (cM ?_)<|zqF (by lia)⟩) rfl⟩⟩)
  refine oY<|au<|ae rfl ⟨p,C,dx,_,rfl,hp,X.cl,X.iz,(by show 0<1000;decide),?_⟩
  rw[show cf "here" (V.int 0) []=z1 from rfl]
  have b1:aP p H (upd H p<|.ins C dx z1):=aP.upd;have o1:upd H p (.ins C dx z1) p=some (.ins C dx z1):=ax;generalize upd H p (.ins C dx z1)=H1 at b1 o1⊢;refine oY<|cm<|aq<|ae rfl<|aE ⟨dw,fun lo f2=>ae rfl ⟨p,C,dx,_,rfl,aH (fun z=>by rw[z,f2] at o1;cases o1) o1,X.cl,X.uU,(by show 1<1000;decide),?_⟩⟩
  have e2:cf "lengths" (V.ref lo) (z1)=z2 lo:=by rw[e_ (by decide+kernel)];rfl
  rw[e2];obtain⟨n2,r2,b2,o2,l2,w2⟩:=vN (js:=z2 lo) (xs:=[V.int (x.length:Nat)]) b1 f2 o1;clear w2;generalize upd (upd H1 lo<|.lst [V.int (x.length:Nat)]) p (.ins C dx<|z2 lo)=H2 at b2 o2 l2⊢;refine oY<|cm<|aq<|au<|aE ⟨dw,fun pa f3=>ae rfl ⟨p,C,dx,_,rfl,aH (fun z=>by rw[z,f3] at o2;cases o2) o2,X.cl,X.oM,(by show 2<1000;decide),?_⟩⟩
  have e3:cf "parents" (V.ref pa) (z2 lo)=z3 lo pa:=by rw[e_ (by decide+kernel),e_ (by decide+kernel)];rfl
  rw[e3];obtain⟨n3,r3,b3,o3,l3,w3⟩:=vN (js:=z3 lo pa) (xs:=[V.az]) b2 f3 o2;obtain⟨aa1,LF⟩:=w3 _ _ l2 n2;clear w3;generalize upd (upd H2 pa<|.lst [V.az]) p (.ins C dx<|z3 lo pa)=H3 at b3 o3 l3 LF⊢;refine oY<|cm<|aq<|au<|aE ⟨dw,fun ed f4=>ae rfl ⟨p,C,dx,_,rfl,aH (fun z=>by rw[z,f4] at o3;cases o3) o3,X.cl,X.xX,(by show 3<1000;decide),?_⟩⟩
  have e4:cf "edges" (V.ref ed) (z3 lo pa)=z4 lo pa ed:=by rw[e_ (by decide+kernel),e_ (by decide+kernel),e_ (by decide+kernel)];rfl
  rw[e4];obtain⟨n4,r4,b4,o4,l4,w4⟩:=vN (js:=z4 lo pa ed) (xs:=[V.az]) b3 f4 o3;obtain⟨aa2,zd⟩:=w4 _ _ LF n2;obtain⟨aa3,ze⟩:=w4 _ _ l3 n3;clear w4;generalize upd (upd H3 ed<|.lst [V.az]) p (.ins C dx<|z4 lo pa ed)=H4 at b4 o4 l4 zd ze⊢;refine oY<|cm<|aq<|cm<|aE ⟨Ez,fun b fb=>aE ⟨dw,fun be f5=>?_⟩⟩;have nb:b≠p:=fun z=>by rw[<-z,fb] at o4;cases o4
  have rb:=LD b4 fb nb;have sb:=sameNew (o:=.lst []) fb;have LG:=b4.same sb;have vO:=sb _ _ o4;have LH:upd H4 b (.lst []) b=some (.lst []):=ax;have ul:lo≠b:=fun z=>by rw[z,fb] at zd;cases zd
  have up:pa≠b:=fun z=>by rw[z,fb] at ze;cases ze
  have ue:ed≠b:=fun z=>by rw[z,fb] at l4;cases l4
  have LI:=sb _ _ zd;have LJ:=sb _ _ ze;have LK:=sb _ _ l4;generalize upd H4 b (.lst [])=H4' at LG vO LH LI LJ LK f5 sb⊢;refine(ae rfl ⟨p,C,dx,_,rfl,aH (fun z=>by rw[z,f5] at vO;cases vO) vO,X.cl,X.xY,(by show 4<1000;decide),?_⟩)
  have e5:cf "below" (V.ref be) (z4 lo pa ed)=z5 lo pa ed be:=by rw[e_ (by decide+kernel),e_ (by decide+kernel),e_ (by decide+kernel),e_ (by decide+kernel)];rfl
  rw[e5];obtain⟨n5,r5,b5,o5,l5,w5⟩:=vN (js:=z5 lo pa ed be) (xs:=[V.ref b]) LG f5 vO;obtain⟨aa5,LL⟩:=w5 _ _ LI n2;obtain⟨aa6,LM⟩:=w5 _ _ LJ n3;obtain⟨aa7,LN⟩:=w5 _ _ LK n4;obtain⟨aa8,LO⟩:=w5 _ _ LH nb;clear w5;generalize upd (upd H4' be<|.lst [V.ref b]) p (.ins C dx<|z5 lo pa ed be)=H5 at b5 o5 l5 LL LM LN LO⊢;refine oY<|cm<|aq<|au<|aE ⟨dw,fun lg f6=>ae rfl ⟨p,C,dx,_,rfl,aH (fun z=>by rw[z,f6] at o5;cases o5) o5,X.cl,X.xZ,(by show 5<1000;decide),?_⟩⟩
  have e6:cf "last_gone" (V.ref lg) (z5 lo pa ed be)=h6 (0:Nat) lo pa ed be lg:=by rw[e_ (by decide+kernel),e_ (by decide+kernel),e_ (by decide+kernel),e_ (by decide+kernel),e_ (by decide+kernel)];rfl
  rw[e6];obtain⟨n6,r6,b6,o6,l6,w6⟩:=vN (js:=h6 (0:Nat) lo pa ed be lg) (xs:=[V.az]) b5 f6 o5;obtain⟨aa9,LP⟩:=w6 _ _ LL n2;obtain⟨aa_,LQ⟩:=w6 _ _ LM n3;obtain⟨aba,LR⟩:=w6 _ _ LN n4;obtain⟨abb,LS⟩:=w6 _ _ LO nb;obtain⟨abc,LU⟩:=w6 _ _ l5 n5;clear w6;generalize upd (upd H5 lg<|.lst [V.az]) p (.ins C dx<|h6 (0:Nat) lo pa ed be lg)=H6 at b6 o6 l6 LP LQ LR LS LU⊢;refine q [p,lo,pa,ed,be,lg,b] H6 b6 (fun a ha na=>?_) ⟨dx,lo,pa,ed,be,lg,[b],[V.az],⟨o6,LP,LQ,rfl,⟨rfl,fun i h0 hi=>?_⟩,Nat.zero_lt_one,(by show 1<=100000;decide)⟩,rfl,⟨?_⟩,LR,rfl,rfl,rfl,fun i j e=>?_,fun i a e=>?_,LU,rfl,fun i a e=>?_,l6,rfl⟩
  ·simp only[zac,zaj,or_false] at ha
   rcases ha with rfl|rfl|rfl|rfl|rfl|rfl|rfl
   ·exact absurd rfl na
   ·exact r2
   ·exact r3
   ·exact r4
   ·exact r5
   ·exact r6
   ·exact rb
  ·exact absurd hi (by show ¬i<1;lia)
  ·simp only[zaL,zac,not_or,zaj,not_false_eq_true,and_true,List.nodup_nil]
   exact⟨⟨Ne.symm n2,Ne.symm n3,Ne.symm n4,Ne.symm n5,Ne.symm n6,Ne.symm nb⟩,⟨aa1,aa2,aa5,aa9,ul⟩,⟨aa3,aa6,aa_,up⟩,⟨aa7,aba,ue⟩,⟨abc,Ne.symm aa8⟩,Ne.symm abb⟩
  ·cases i with
   |zero=>cases e
   |succ i=>simp at e
  ·cases i with
   |zero=>cases e
   |succ i=>simp at e
  ·cases i with
   |zero=>cases e;exact LS
   |succ i=>simp at e
 ·rcases hn with hn|⟨i,rfl,hi⟩
  ·exact br (nG<|gj<|hZ oT rfl<|aq<|ae rfl<|aE ⟨_,rfl,.inr ⟨hn,fV<|iT (iT ⟨dw,q⟩ rfl) rfl⟩⟩)
  ·exact br (nG<|gj<|hZ oT rfl<|aq<|ae rfl<|aE ⟨_,rfl,.inl ⟨_,rfl,fV<|iF (aZ<|ae rfl<|au<|ltI ⟨_,rfl,iT ⟨dw,q⟩<|zqT hi⟩) rfl⟩⟩)
end
end L2.N
namespace L2.B
open PySem PySem.Spec PyProof.Rows
def LV:List Str:=["_law_cell","_law_size","_law_signs_here"]
noncomputable def LW:List RS:=
 [.asg 2 (.c (.str " !\"#$&'()*+,-./0123456789:;<=>?@ABCDEFGHIJKLMNOPQRSTUVWXYZ[\\]^_`")),
 .asg 2 (.bin .Add (.v 2)<|.c<|.str "abcdefghijklmnopqrstuvwxyz{|}~\n"),
 .ret (.bh .join (.c (.str "")) [(.comp none [("_law_signs_here",2),("_law_cell",0)] .gz [.v 1] none (.ix (.v 1) (.bin .Mod (.bin .Add (.v 2) (.bin .Mult (.v 0) (.bin .Add (.c (.int 1)) (.bin .Mod (.bin .FloorDiv (.v 2) (.c (.int 95))) (.c (.int 5)))))) (.c (.int 95)))))])]
def LX:List Str:=["range"]
def LY:List Str:=["_law_cell"]
noncomputable def LZ:List RS:=
 [.ite (.cmp .Eq (.bin .Mod (.bin .FloorDiv (.v 0) (.c (.int 21))) (.c (.int 8))) (.c (.int 1))) [.ret (.call 0 [(.bin .FloorDiv (.v 0) (.c (.int 168))),(.bin .Mod (.v 0) (.c (.int 401)))])] [],
 .ret (.call 0 [(.bin .FloorDiv (.v 0) (.c (.int 168))),(.bin .Mod (.v 0) (.c (.int 21)))])]
def abd:List Str:=["_law_signs"]
def L6:List Str:=["_law_parts","_law_found","_law_put","_law_cut","_law_word","_law_thing"]
noncomputable def L7:List RS:=
 [.asg 1 (.lst []),
 .asg 2 (.c<|.str ""),
 .asg 3 (.c<|.str ""),
 .j5 [4,5] .list [(.bin .Add (.v 0) (.lst [(.tup [(.c (.str "end")),(.c (.int 1))])]))] [.ite (.cmp .Eq (.v 4) (.c (.str "put"))) [.asg 2 (.bin .Add (.v 2) (.v 5))] [.ite (.cmp .Eq (.v 4) (.c (.str "cut"))) [.asg 3 (.bin .Add (.v 3) (.v 5))] [.ite (.cmp .Gt (.v 5) (.c (.int 0))) [.asg 1 (.bin .Add (.bin .Add (.v 1) (.bin .Mult (.lst [(.tup [(.c (.str "put")),.v 2])]) (.blt .int [(.cmp .NotEq (.v 2) (.c (.str "")))]))) (.bin .Mult (.lst [(.tup [(.c (.str "cut")),.v 3])]) (.blt .int [(.cmp .NotEq (.v 3) (.c (.str "")))]))),
     .asg 2 (.c<|.str ""),
     .asg 3 (.c<|.str ""),
     .ite (.and [(.cmp .Eq (.v 4) (.c (.str "keep"))),(.cmp .NotEq (.v 1) (.lst [])),(.cmp .Eq (.ix (.ix (.v 1) (.neg (.c (.int 1)))) (.c (.int 0))) (.c (.str "keep")))]) [.set (.v 1) (.neg (.c (.int 1))) (.tup [(.c (.str "keep")),(.bin .Add (.ix (.ix (.v 1) (.neg (.c (.int 1)))) (.c (.int 1))) (.v 5))])] [.ite (.cmp .Eq (.v 4) (.c (.str "keep"))) [.drop (.bh .append (.v 1) [(.tup [.v 4,.v 5])])] []]] []]]],
 .ret (.v 1)]
def abe:List Str:=["int"]
def L9:List Str:=["_law_cell","_law_text","_law_parts","_law_at","_law_more","_law_turn","_law_keep","_law_cut","_law_some"]
noncomputable def L_:List RS:=
 [.asg 2 (.lst []),
 .asg 3 (.c<|.int 0),
 .asg 4 (.bin .Mod (.bin .Mult (.v 0)<|.c<|.int 48271)<|.c<|.int 2147483647),
 .j0 5 .gz [(.bin .Add (.c (.int 1)) (.bin .Mod (.v 0) (.c (.int 4))))] [.asg 6 (.blt .min [(.bin .Sub (.blt .len [.v 1]) (.v 3)),(.bin .Mod (.v 4) (.c (.int 9)))]),
  .asg 7 (.blt .min [(.bin .Sub (.bin .Sub (.blt .len [.v 1])<|.v 3)<|.v 6),(.bin .Mod (.bin .FloorDiv (.v 4)<|.c<|.int 9)<|.c<|.int 4)]),
  .drop (.bh .append (.v 2) [(.tup [(.c<|.str "keep"),.v 6])]),
  .asg 8 (.lst [(.tup [(.c<|.str "put"),(.call 0 [(.bin .FloorDiv (.v 4)<|.c<|.int 180),(.bin .Mod (.bin .FloorDiv (.v 4)<|.c<|.int 36)<|.c<|.int 5)])]),(.tup [(.c<|.str "cut"),(.sl (.v 1) (some<|.bin .Add (.v 3)<|.v 6)<|some<|.bin .Add (.bin .Add (.v 3)<|.v 6)<|.v 7)])]),
  .asg 2 (.bin .Add (.v 2)<|.v 8),
  .asg 3 (.bin .Add (.bin .Add (.v 3)<|.v 6)<|.v 7),
  .asg 4 (.bin .Mod (.bin .Mult (.v 4) (.c (.int 48271))) (.c (.int 2147483647)))],
 .ret (.call 1 [(.bin .Add (.v 2) (.lst [(.tup [(.c (.str "keep")),(.bin .Sub (.blt .len [.v 1]) (.v 3))])]))])]
def abf:List Str:=["_law_signs","_law_neat"]
def abg:List Str:=["range","min","len"]
def Ma:List Str:=["_law_above","_law_node","_law_found"]
noncomputable def Mb:List RS:=
 [.asg 2 (.lst [.v 1]),
 .mI (.cmp .Gt (.ix (.v 2)<|.neg<|.c<|.int 1)<|.c<|.int 0) [.drop<|.bh .append (.v 2) [(.ix (.v 0)<|.ix (.v 2)<|.neg<|.c<|.int 1)]],
 .ret (.v 2)]
def Mc:List Str:=["_law_above","_law_one","_law_other","_law_up_here","_law_down","_law_meet"]
noncomputable def Md:List RS:=
 [.asg 3 (.call 0 [.v 0,.v 1]),
 .asg 4 (.call 0 [.v 0,.v 2]),
 .asg 5 (.ix (.comp none [("_law_down",4)] .list [.v 3] (some<|.cmp .In (.v 0)<|.v 1)<|.v 0)<|.c<|.int 0),
 .ret (.bin .Add (.bin .Add (.sl (.v 3) none (some (.bh .rS (.v 3) [.v 5]))) (.lst [.v 5])) (.xt (lJ none (-1)) [(.sl (.v 4) none (some (.bh .rS (.v 4) [.v 5])))]))]
def abh:List Str:=["_law_up"]
end L2.B
namespace L2.N
open PySem PySem.Spec L2.B
def tM:Sp:=fun vs H Q E=>∃(c:Int) (n:Int),vs=[.int c,.int n]/\0<=n/\n<=1000/\∀x H',good x->x.length=n.toNat->aA H H'->Q (.str x) H'
theorem abi:(A1++A2).length=95:=by decide+kernel
section
variable {K:Frag}
theorem abj:bE (tM) (fun E=>aO K [] [] (E:=E)) LW LV:=by
 intro vs H Q E h;obtain⟨c,n,rfl,u_,gf,k⟩:=h;have ho:=Xg;have c5:(0:Int) <5:=by decide
 have c95:(0:Int) <95:=by decide
 refine bc<|au<|bc<|aK<|ae rfl<|au ⟨Xh,?_⟩;refine bI ⟨rfl,_,rfl,n,rfl,by lia,by lia,fun i m ys H2=>m=n.toNat - i/\i<=n.toNat/\H2=H/\∃ts:List Str,ys=ts.map V.str/\ts.length=i/\∀t∈ts,B6 t,⟨_,rfl,zqZ _,rfl,[],rfl,rfl,fun t ht=>by cases ht⟩,?_⟩
 rintro i m ys H2 ⟨rfl,hi,rfl,ts,rfl,hl,lS⟩;by_cases aN:i<n.toNat
 ·refine .inr ⟨aN,?_⟩;rintro x H3 ⟨rfl,rfl⟩;have d0:0<=c / 95 % 5/\c / 95 % 5<5:=⟨zaF _ (by decide),zaQ _ (by decide)⟩
  refine bD<|ae rfl<|aK<|aK<|ae rfl<|aK<|ae rfl<|aK<|au<|aK<|aK<|ae rfl<|au ⟨⟨by decide,by decide⟩,au ⟨c5,jn ⟨.inl ⟨by lia,by lia⟩,jn<|au ⟨c95,?_⟩⟩⟩⟩
  obtain⟨j,ej⟩:∃j,j=(c+(0+(i:Int))* (1+c / 95 % 5)) % 95:=⟨_,rfl⟩;have hj0:0<=j:=by rw[ej];exact zaF _ (by decide)
  have hj1:j<95:=by rw[ej];exact zaQ _ (by decide)
  have vM:j.toNat< (A1++A2).cps.toList.length:=by rw[<-len_list,abi];lia
  refine .inr<|.inr<|.inl ⟨A1++A2,j,(A1++A2).cps.toList[j.toNat],rfl,(by rw[ej]),cz (by have:=ho.2.1;lia),?_,?_,n.toNat - (i+1),by lia,rfl,aN,rfl,ts++[⟨#[(A1++A2).cps.toList[j.toNat]]⟩],(by rw[zam];rfl),by simp[hl],?_⟩
  ·have e:=cB (xs:=(A1++A2).cps.toList) (j:=j.toNat) (v:=(A1++A2).cps.toList[j.toNat]) (by simp[vM])
   rw[show((j.toNat:Nat):Int)=j by lia] at e
   exact e
  ·rw[zab];exact dJ (by lia)
  ·intro t ht;rcases zaa.mp ht with z|z
   ·exact lS t z
   ·rw[zad.mp z];refine⟨rfl,fun d hd=>?_⟩;have:d=(A1++A2).cps.toList[j.toNat]:=by simpa using hd
    rw[this];exact ho.2.2 _<|List.getElem_mem vM
 ·have iA:i=n.toNat:=by lia
  refine .inl ⟨by show n.toNat<=i;lia,fun p hp=>?_⟩
  refine⟨ts,av.of ax,joinOk_of (by rw[x9 ts lS];lia),?_⟩
  exact k (cat ts) _ (Xi lS (by lia)) (by rw[IY,x9 ts lS,hl,iA])<|sameNew hp
def DQ:Sp:=fun vs H Q E=>∃(c:Int),vs=[.int c]/\∀x H',good x->x.length<=400->aA H H'->Q (.str x) H'
theorem abl:bE (DQ) (fun E=>aO K [("_law_signs",tM)] [] (E:=E)) LZ LY:=by
 intro vs H Q E h;obtain⟨c,rfl,k⟩:=h;have c8:(0:Int) <8:=by decide
 have vP:(0:Int) <21:=by decide
 have abm:(0:Int) <401:=by decide
 have d0:0<=c % 401/\c % 401<401:=⟨zaF _ (by decide),zaQ _ (by decide)⟩
 have d1:0<=c % 21/\c % 21<21:=⟨zaF _ (by decide),zaQ _ (by decide)⟩
 refine br<|aZ<|aK<|aK<|ae rfl<|au ⟨⟨by decide,by decide⟩,au ⟨c8,au<|eG ⟨_,rfl,?_⟩⟩⟩
 by_cases z:c / 21 % 8=1
 ·refine iT ?_ (zqT z);exact bI<|bZ tM rfl<|aq<|aK<|ae rfl<|au ⟨⟨by decide,by decide⟩,aq<|aK<|ae rfl<|au ⟨abm,aE ⟨_,_,rfl,by lia,by lia,fun x H' gx lx s=>k x H' gx (by lia) s⟩⟩⟩
 ·refine iF (cM ?_) (zqF z);exact bI<|bZ tM rfl<|aq<|aK<|ae rfl<|au ⟨⟨by decide,by decide⟩,aq<|aK<|ae rfl<|au ⟨vP,aE ⟨_,_,rfl,by lia,by lia,fun x H' gx lx s=>k x H' gx (by lia) s⟩⟩⟩
end
theorem nO(F G:List Pt):B.aD (F++G)=B.aD F+B.aD G:=by unfold B.aD;rw[zam,zbV]
theorem DR(p:Pt)(F:List Pt):B.aD (p::F)=B.eU p+B.aD F:=by simp[B.aD]
theorem Me(P C:Str):B.aD (tl P C)=P.length+C.length:=by
 unfold tl B.txt;rw[nO];by_cases hp:P="" <;>by_cases hc:C="" <;>simp[hp,hc,B.aD,B.eU] <;>rfl
theorem abn(F:List Pt)(n:Int):B.aD (c7 F n)=B.aD F:=by
 rcases CY F with⟨F',m,rfl⟩|⟨_,e⟩
 ·rw[u9,nO,nO];rfl
 ·rw[e,nO];rfl
theorem abo{w:Option V}{f:Addr}{P C:V}{n:Int}{F:List Pt}(hf:H f=some (.lst ys))(pv:aX H ys F)(ho:∀p∈F,km p)(hl:F.length<=900000)
  (k:∀H' dA,aP f H H'->H' f=some (.lst dA)->aX H' dA (c7 F n)->D.nx [w,some<|.ref f,some P,some C,some<|.str "keep",some<|.int n] H'):
  ay Γ [.ite (.and [(.cmp .Eq (.v 4)<|.c<|.str "keep"),(.cmp .NotEq (.v 1)<|.lst []),(.cmp .Eq (.ix (.ix (.v 1)<|.neg<|.c<|.int 1)<|.c<|.int 0)<|.c<|.str "keep")]) [.set (.v 1) (.neg<|.c<|.int 1)<|.tup [(.c<|.str "keep"),(.bin .Add (.ix (.ix (.v 1)<|.neg<|.c<|.int 1)<|.c<|.int 1)<|.v 5)]] [.ite (.cmp .Eq (.v 4)<|.c<|.str "keep") [.drop<|.bh .append (.v 1) [(.tup [.v 4,.v 5])]] []]]
   D [w,some<|.ref f,some P,some C,some<|.str "keep",some<|.int n] H:=by
 have lf:=Paired.length pv;have app:∀H1,aA H H1->c7 F n=F++[.keep n]->ay Γ [.ite (.cmp .Eq (.v 4)<|.c<|.str "keep") [.drop<|.bh .append (.v 1) [(.tup [.v 4,.v 5])]] []] {D with nx:=ay Γ [] D} [w,some<|.ref f,some P,some C,some<|.str "keep",some<|.int n] H1:=by
  intro H1 s1 e;refine br<|aZ<|ae rfl<|au<|i7 ⟨_,rfl,iT ?_ CW⟩;refine bN<|fg<|ae rfl ⟨.inl ⟨rfl,_,av.of<|s1 _ _ hf⟩,kq<|aq<|ae rfl<|aq<|ae rfl<|aE ⟨eJ,fun t ft=>⟨ys,(sameNew ft) _ _<|s1 _ _ hf,dJ (by lia),?_⟩⟩⟩
  have s2:=s1.trans (sameNew (o:=.tup [.str "keep",.int n]) ft);have bb:aP f H (upd (upd H1 t<|.tup [.str "keep",.int n]) f<|.lst<|ys++[V.ref t]):=fun b o e ne=>by rw[aI ne];exact s2 _ _ e
  have nt:t≠f:=fun z=>by rw[z,s1 _ _ hf] at ft;cases ft
  refine k _ _ bb ax ?_;rw[e];exact B.Paired.app (pv.mono<|bb.bC hf)<|.cons ⟨t,rfl,by rw[aI nt,ax];rfl⟩ .nil
 refine br<|qN<|aZ<|ae rfl<|au<|i7 ⟨_,rfl,iT ?_ CW⟩;refine qN<|aZ<|ae rfl<|cm<|aE ⟨zqZ _,fun e fe=>?_⟩;have s1:=sameNew (o:=.lst []) fe;refine Zm (s1 _ _ hf) ax (pv.mono<|df s1) ho ⟨_,rfl,?_⟩;rcases List.eq_nil_or_concat F with hF|⟨F',p,hF⟩
 ·refine iF (iF (app _ s1 (by rw[hF];rfl)) rfl) (by rw[hF];rfl)
 ·rw[List.concat_eq_append] at hF;refine iT ?_ (by rw[hF];simp)
  have Mf:=pv;rw[hF] at Mf;obtain⟨vQ,x,ey,p0,⟨b,ex,hb⟩⟩:=Kx Mf;have qH:=s1 _ _ hf;rw[ey,ex] at qH;have sS:=s1 _ _ hb;refine Kt<|aZ<|bD<|bD<|ae rfl<|h9<|cp qH (kU _ _)<|au<|qO sS rfl<|au<|i7 ⟨_,rfl,?_⟩;cases p with
  |keep m=>
   refine iT ?_ CW;refine sY<|kq<|aq<|au<|aq<|aK<|bD<|bD<|ae rfl<|h9<|cp qH (kU _ _)<|au<|qO sS rfl<|ae rfl<|jn<|aE ⟨eJ,fun t ft=>?_⟩;have s2:=s1.trans (sameNew (o:=.tup [.str "keep",.int<|m+n]) ft);have Cw:=(sameNew (o:=.tup [.str "keep",.int<|m+n]) ft) _ _ qH;refine ae rfl<|h9 ⟨f,_, -1,vQ.length,rfl,rfl,Cw,by rw[zqA];exact Zn _,?_⟩
   have es:(vQ++[V.ref b]).set vQ.length (.ref t)=vQ++[.ref t]:=by rw[List.set_append_right _ _<|zqR _,zbq];rfl
   rw[es];have bb:aP f H (upd (upd (upd H e<|.lst []) t<|.tup [.str "keep",.int<|m+n]) f<|.lst<|vQ++[V.ref t]):=fun b o e ne=>by rw[aI ne];exact s2 _ _ e
   have nt:t≠f:=fun z=>by rw[z,qH] at ft;cases ft
   refine k _ _ bb ax ?_;rw[hF,u9];exact B.Paired.app (aX.mono (bb.bC hf) p0)<|.cons ⟨t,rfl,by rw[aI nt,ax,Int.add_comm];rfl⟩ .nil
  |put z=>exact iF (app _ s1 (by rw[hF];exact u0 fun q hq=>by rw[zbZ] at hq;cases hq;rfl)) Zo
  |cut z=>exact iF (app _ s1 (by rw[hF];exact u0 fun q hq=>by rw[zbZ] at hq;cases hq;rfl)) Zj
def DS:List RS:=[.ite (.cmp .Eq (.v 4)<|.c<|.str "put") [.asg 2<|.bin .Add (.v 2)<|.v 5] [.ite (.cmp .Eq (.v 4)<|.c<|.str "cut") [.asg 3<|.bin .Add (.v 3)<|.v 5] [.ite (.cmp .Gt (.v 5)<|.c<|.int 0) [.asg 1<|.bin .Add (.bin .Add (.v 1)<|.bin .Mult (.lst [(.tup [(.c<|.str "put"),.v 2])])<|.blt .int [(.cmp .NotEq (.v 2)<|.c<|.str "")])<|.bin .Mult (.lst [(.tup [(.c<|.str "cut"),.v 3])])<|.blt .int [(.cmp .NotEq (.v 3)<|.c<|.str "")],.asg 2<|.c<|.str "",.asg 3<|.c<|.str "",.ite (.and [(.cmp .Eq (.v 4)<|.c<|.str "keep"),(.cmp .NotEq (.v 1)<|.lst []),(.cmp .Eq (.ix (.ix (.v 1)<|.neg<|.c<|.int 1)<|.c<|.int 0)<|.c<|.str "keep")]) [.set (.v 1) (.neg<|.c<|.int 1)<|.tup [(.c<|.str "keep"),(.bin .Add (.ix (.ix (.v 1)<|.neg<|.c<|.int 1)<|.c<|.int 1)<|.v 5)]] [.ite (.cmp .Eq (.v 4)<|.c<|.str "keep") [.drop<|.bh .append (.v 1) [(.tup [.v 4,.v 5])]] []]] []]]]
structure Mg (H:Hp) (a w2 e f:Addr) (xs ys:List V) (F:List Pt) (H2:Hp):Prop where
 sm:aA H H2
 fr:H f=none
 it:H2 w2=some (.lst<|xs++[.ref e])
 en:H2 e=some (.tup [.str "end",.int 1])
 ne:f≠w2
 li:H2 f=some (.lst ys)
 pv:aX H2 ys F
def zf(H:Hp)(a w2 e:Addr)(xs:List V)(l r:List Nat)(ps:List Pt)(i:Nat)(σ:St)(H2:Hp):Prop:=
 ∃f ys F P C u4 u5 l0 r0 l2 r2,σ=[some<|.ref a,some<|.ref f,some<|.str P,some<|.str C,u4,u5]/\Mg H a w2 e f xs ys F H2/\Kz F/\Run l0 F r0/\sg P/\sg C/\
  l=l0++(C.cps.toList++l2)/\r=r0++(P.cps.toList++r2)/\Run l2 (ps.drop i) r2/\F.length<=3*i/\B.aD F+P.length+C.length+B.aD (ps.drop i)<=B.aD ps
def Mh(H:Hp)(a w2 e:Addr)(xs:List V)(l r:List Nat)(n T:Nat)(σ:St)(H2:Hp):Prop:=
 ∃f ys F u2 u3 u4 u5,σ=[some<|.ref a,some<|.ref f,u2,u3,u4,u5]/\Mg H a w2 e f xs ys F H2/\(∀p∈F,bO p)/\chainOk "" F=true/\Run l F r/\F.length<=3*n+2/\B.aD F<=T
section
variable {Γ:bx}{D:Ends}{H H2:Hp}{a w2 e:Addr}{xs:List V}{l r:List Nat}{ps:List Pt}{i:Nat}{σ:St}
theorem abp(hl:l.length<=100000)(hr:r.length<=100000)(hn:ps.length<=1000)(I:zf H a w2 e xs l r ps ps.length σ H2)(hD:∀σ H',Mh H a w2 e xs l r ps.length (B.aD ps) σ H'->D.nx σ H'):
  ay Γ DS D ((σ.set 4<|some<|.str "end").set 5<|some<|.int 1) H2:=by
 obtain⟨f,ys,F,P,C,u4,u5,l0,r0,l2,r2,rfl,X,hF,hR,sP,sC,el,er,gP,lF,lT⟩:=I;rw[zbX] at gP;obtain⟨rfl,rfl⟩:=KH gP;rw[zae] at el er;have lP:=len_list P;have lC:=len_list C;have ll:l.length=l0.length+C.length:=by rw[el,zqA,lC]
 have lr:r.length=r0.length+P.length:=by rw[er,zqA,lP]
 refine br<|aZ<|ae rfl<|au<|i7 ⟨_,rfl,iF ?_ Zs⟩;refine br<|aZ<|ae rfl<|au<|i7 ⟨_,rfl,iF ?_ Zt⟩;refine br<|aZ<|ae rfl<|au<|lX ⟨_,rfl,iT ?_ rfl⟩;refine KI X.li X.pv (by lia) fun f' H3 dA s3 n3 h3 p3=>?_
 refine br<|qN<|aZ<|ae rfl<|au<|i7 ⟨_,rfl,iF (iF ?_ rfl) KJ⟩;refine br<|aZ<|ae rfl<|au<|i7 ⟨_,rfl,iF ?_ KJ⟩;refine hD _ _ ?_;have tln:=KC P C;refine⟨f',dA,F++tl P C,_,_,_,_,rfl,⟨X.sm.trans s3,X.sm.free n3,s3 _ _ X.it,s3 _ _ X.en,(bQ X.it n3).symm,h3,p3⟩,fun p hp=>?_,?_,?_,?_⟩
 ·rcases zaa.mp hp with q|q
  ·exact hF.ok p q
  ·exact KD (yS sP (by lia)) (yS sC (by lia)) p q
 ·rw[sZ,hF.ch,KA hF.la];rfl
 ·rw[el,er];exact KG hR
 ·exact⟨by rw[zqA];lia,by rw[nO,Me];lia⟩
theorem abr{q:Pt}{b:Addr}(hl:l.length<=100000)(hr:r.length<=100000)(hn:ps.length<=1000)(hq:ps[i]?=some q)(oq:km q)(I:zf H a w2 e xs l r ps i σ H2)(hD:∀σ H',zf H a w2 e xs l r ps (i+1) σ H'->D.nx σ H'):
  ay Γ DS D ((σ.set 4<|some<|.str q.word).set 5<|some q.val) H2:=by
 obtain⟨f,ys,F,P,C,u4,u5,l0,r0,l2,r2,rfl,X,hF,hR,sP,sC,el,er,gP,lF,lT⟩:=I;have aN:i<ps.length:=(zal.mp hq).1;have ed:ps.drop i=q::ps.drop (i+1):=by rw[zbr aN,(zal.mp hq).2]
 rw[ed] at gP;rw[ed,DR] at lT;have al:∀a b:Str,(a++b).length=a.length+b.length:=fun a b=>by rw[len_list,app_list,zqA,<-len_list,<-len_list]
 have e0:("":Str).length=0:=rfl;have lP:=len_list P;have lC:=len_list C;have ll:l.length=l0.length+(C.length+l2.length):=by rw[el,zqA,zqA,lC]
 have lr:r.length=r0.length+(P.length+r2.length):=by rw[er,zqA,zqA,lP]
 refine br<|aZ<|ae rfl<|au<|i7 ⟨_,rfl,?_⟩;cases q with
 |put z=>
  obtain⟨r',e2,h'⟩:=Ku gP;have lz:=len_list z;have Mi:r2.length=z.length+r'.length:=by rw[e2,zqA,<-lz]
  refine iT ?_ Zg;refine bc<|aK<|ae rfl<|ae rfl ⟨cz (by lia),?_⟩
  refine hD _ _ ?_;exact⟨f,ys,F,P++z,C,_,_,l0,r0,l2,r',rfl,X,hF,hR,sR sP oq,sC,el,by rw[er,e2,app_list];simp,h',by lia,by rw[al];have:B.eU (Pt.put z)=z.length:=rfl;lia⟩
 |cut z=>
  obtain⟨l',e1,h'⟩:=Kv gP;have lz:=len_list z;have ll2:l2.length=z.length+l'.length:=by rw[e1,zqA,<-lz]
  refine iF ?_ Zi;refine br<|aZ<|ae rfl<|au<|i7 ⟨_,rfl,iT ?_ Zf⟩;refine bc<|aK<|ae rfl<|ae rfl ⟨cz (by lia),?_⟩
  refine hD _ _ ?_;exact⟨f,ys,F,P,C++z,_,_,l0,r0,l',r2,rfl,X,hF,hR,sP,sR sC oq,by rw[el,e1,app_list];simp,er,h',by lia,by rw[al];have:B.eU (Pt.cut z)=z.length:=rfl;lia⟩
 |keep n=>
  obtain⟨c,l',r',e1,e2,e3,h'⟩:=CT gP;refine iF ?_ Zh;refine br<|aZ<|ae rfl<|au<|i7 ⟨_,rfl,iF ?_ Ze⟩;refine br<|aZ<|ae rfl<|au<|lX ⟨_,rfl,?_⟩;by_cases hz:0<n
  ·refine iT ?_ (zqT hz);refine KI X.li X.pv (by lia) fun f' H3 dA s3 n3 h3 p3=>?_
   have tln:=KC P C;have Mj:∀p∈F++tl P C,bO p:=fun p hp=>by
    rcases zaa.mp hp with q|q
    ·exact hF.ok p q
    ·exact KD (yS sP (by lia)) (yS sC (by lia)) p q
   have ch1:chainOk "" (F++tl P C)=true:=by rw[sZ,hF.ch,KA hF.la];rfl
   have lF1:(F++tl P C).length<=3*i+2:=by rw[zqA];lia
   refine abo h3 p3 (fun p hp=>Zr<|Mj p hp) (by lia) fun H4 y4 b4 h4 p4=>?_
   refine hD _ _ ?_;have nw:w2≠f':=bQ X.it n3;have fH:=X.sm.free n3;have lk:=B1 (F++tl P C) n;refine⟨f',y4,c7 (F++tl P C) n,"","",_,_,l0++C.cps.toList++c,r0++P.cps.toList++c,l',r',rfl,⟨qp (X.sm.trans s3) fH b4,fH,b4 _ _ (s3 _ _ X.it) nw,(b4.bC h3) _ _<|s3 _ _ X.en,nw.symm,h4,p4⟩,Zq Mj ch1 (by lia),Zp (KG hR) e3,jJ,jJ,?_,?_,h',by lia,by rw[abn,nO,Me,e0];have:B.eU (Pt.keep n)=0:=rfl;lia⟩
   ·rw[el,e1];show _=_++([]++l');simp
   ·rw[er,e2];show _=_++([]++r');simp
  ·refine iF ?_ (zqF hz);have c0:c=[]:=zcm (by lia)
   refine hD _ _ ?_;rw[c0,zbe] at e1 e2;exact⟨f,ys,F,P,C,_,_,l0,r0,l2,r2,rfl,X,hF,hR,sP,sC,el,er,by rw[e1,e2];exact h',by lia,by have:B.eU (Pt.keep n)=0:=rfl;lia⟩
end
def DT:Sp:=fun vs H Q E=>∃a xs ps l r,vs=[.ref a]/\H a=some (.lst xs)/\aX H xs ps/\Run l ps r/\(∀p∈ps,km p)/\ps.length<=1000/\l.length<=100000/\r.length<=100000/\
 ∀b H' ys qs,aA H H'->H b=none->H' b=some (.lst ys)->aX H' ys qs->(∀p∈qs,bO p)->chainOk "" qs=true->Run l qs r->qs.length<=3*ps.length+2->B.aD qs<=B.aD ps->Q (.ref b) H'
theorem abu{K:Frag}:bE (DT) (fun E=>aO K [] [] (E:=E)) L7 L6:=by
 intro vs H Q E h;obtain⟨a,xs,ps,l,r,rfl,ha,cZ,gP,aB,hn,hl,hr,k⟩:=h;have lx:=Paired.length cZ;refine bc<|cm<|aE ⟨zqZ _,fun f nf=>?_⟩;have s1:=sameNew (o:=.lst []) nf;refine bc<|au<|bc<|au ?_;refine CV (body:=DS)<|aK<|ae rfl<|cm<|aq<|kq<|aq<|au<|aq<|au<|aE ⟨eJ,fun e ne=>aE ⟨dw,fun g ng=>?_⟩⟩;have s2:=sameNew (o:=.tup [.str "end",.int 1]) ne;have s3:=sameNew (o:=.lst [V.ref e]) ng;refine .inl ⟨a,g,xs,[.ref e],rfl,rfl,(s1.trans<|s2.trans s3) _ _ ha,ax,cz (by show xs.length+1<=_;lia),fun w2 nw=>?_⟩
 have s4:=sameNew (o:=.lst (xs++[V.ref e])) nw;have yR:=s1.trans (s2.trans<|s3.trans s4);have fw:f≠w2:=fun z=>by
  rw[<-z] at nw;rw[(s2.trans s3) _ _ ax] at nw;cases nw
 refine⟨w2,rfl,⟨_,av.of ax⟩,kT (K:=K) (a:=w2) (xs:=xs++[.ref e]) (fun i σ H2=>(i<=ps.length/\zf H a w2 e xs l r ps i σ H2)\/(i=ps.length+1/\Mh H a w2 e xs l r ps.length (B.aD ps) σ H2)) ?_ ?_ ?_ ?_⟩
 ·refine .inl ⟨zqZ _,f,[],[],"","",_,_,[],[],l,r,rfl,⟨yR,nf,ax,(s3.trans s4) _ _ ax,fw,(s2.trans<|s3.trans s4) _ _ ax,.nil⟩,⟨fun p hp=>(by cases hp),rfl,.inl rfl⟩,.nil,jJ,jJ,rfl,rfl,gP,zqZ _,by rw[zbn];show 0+0+0+_<=_;lia⟩
 ·rintro i σ H2 _ (⟨_,f,ys,F,P,C,u4,u5,l0,r0,l2,r2,_,X,_⟩|⟨_,f,ys,F,u2,u3,u4,u5,_,X,_⟩)
  ·exact av.of X.it
  ·exact av.of X.it
 ·intro i x σ H2 hi I;have fI:i< (xs++[V.ref e]).length:=(zal.mp hi).1;have A_:i<ps.length+1:=by rw[zqA,lx] at fI;exact fI
  rcases I with⟨_,I⟩|⟨z,_⟩
  ·by_cases aN:i<ps.length
   ·rw[zaw (by lia)] at hi
    obtain⟨q,hq,kh⟩:=cZ.get hi;have sm:aA H H2:=by obtain⟨f,ys,F,P,C,u4,u5,l0,r0,l2,r2,_,X,_⟩:=I;exact X.sm
    obtain⟨b,rfl,hb⟩:=kh.mono (df sm);refine⟨b,_,rfl,.inl<|aM.of hb,rfl,_,_,rfl,_,_,rfl,rfl,?_⟩;exact abr (b:=b) hl hr hn hq (aB q<|zak hq) I fun σ' H' I'=>.inl ⟨aN,I'⟩
   ·have ei:i=ps.length:=by lia
    subst ei;have en:H2 e=some (.tup [.str "end",.int 1]):=by obtain⟨f,ys,F,P,C,u4,u5,l0,r0,l2,r2,_,X,_⟩:=I;exact X.en
    rw[zba (by lia),lx,zbq] at hi
    cases hi;refine⟨e,_,rfl,.inl<|aM.of en,rfl,_,_,rfl,_,_,rfl,rfl,?_⟩;exact abp hl hr hn I fun σ' H' I'=>.inr ⟨rfl,I'⟩
  ·lia
 ·rintro σ H2 (⟨h,_⟩|⟨_,f,ys,F,u2,u3,u4,u5,rfl,X,ok,ch,hR,lF⟩)
  ·rw[zqA,lx] at h;exact absurd h (by show ¬ps.length+1<=ps.length;lia)
  ·exact bI (ae rfl<|k f H2 ys F X.sm X.fr X.li X.pv ok ch hR lF.1 lF.2)
abbrev Ml:List (Str×Sp):=[("_law_signs",tM),("_law_neat",DT)]
def C2(H:Hp)(c:Int)(x:Str)(i:Nat)(σ:St)(H2:Hp):Prop:=
 ∃(b0:Addr) (ys:List V) (ps:List Pt) (l1 l2 r1:List Nat) (m:Int) (u5 u6 u7 u8:Option V),σ=[some<|.int c,some<|.str x,some<|.ref b0,some<|.int (l1.length:Nat),some<|.int m,u5,u6,u7,u8]/\aA H H2/\H b0=none/\H2 b0=some (.lst ys)/\aX H2 ys ps/\
  x.cps.toList=l1++l2/\Run l1 ps r1/\(∀p∈ps,km p)/\ps.length<=3*i/\r1.length<=l1.length+4*i/\B.aD ps<=7*i/\0<=m
def Mm:List RS:=[.asg 6 (.blt .min [(.bin .Sub (.blt .len [.v 1]) (.v 3)),(.bin .Mod (.v 4) (.c (.int 9)))]),
  .asg 7 (.blt .min [(.bin .Sub (.bin .Sub (.blt .len [.v 1])<|.v 3)<|.v 6),(.bin .Mod (.bin .FloorDiv (.v 4)<|.c<|.int 9)<|.c<|.int 4)]),
  .drop (.bh .append (.v 2) [(.tup [(.c<|.str "keep"),.v 6])]),
  .asg 8 (.lst [(.tup [(.c<|.str "put"),(.call 0 [(.bin .FloorDiv (.v 4)<|.c<|.int 180),(.bin .Mod (.bin .FloorDiv (.v 4)<|.c<|.int 36)<|.c<|.int 5)])]),(.tup [(.c<|.str "cut"),(.sl (.v 1) (some<|.bin .Add (.v 3)<|.v 6)<|some<|.bin .Add (.bin .Add (.v 3)<|.v 6)<|.v 7)])]),
  .asg 2 (.bin .Add (.v 2)<|.v 8),
  .asg 3 (.bin .Add (.bin .Add (.v 3)<|.v 6)<|.v 7),
  .asg 4 (.bin .Mod (.bin .Mult (.v 4) (.c (.int 48271))) (.c (.int 2147483647)))]
section
variable {K:Frag}{E:XK}{D:Ends}{H H2:Hp}{c:Int}{x:Str}{i:Nat}{σ:St}{v:V}
theorem abv(hx:good x)(hl:x.length<=10000)(hi:i<=4)(I:C2 H c x i σ H2)(hD:∀σ' H',C2 H c x (i+1) σ' H'->D.nx σ' H'):ay (aO K Ml [] (E:=E)) Mm D (σ.set 5<|some v) H2:=by
 obtain⟨b0,ys,ps,l1,l2,r1,m,u5,u6,u7,u8,rfl,sm,fr,hb,pv,ex,hR,aB,lp,lr,lT,hm⟩:=I;have lx:x.length=l1.length+l2.length:=by rw[len_list,ex,zqA]
 have c9:(0:Int) <9:=by decide
 have c4:(0:Int) <4:=by decide
 have c5:(0:Int) <5:=by decide
 have vP:(0:Int) <2147483647:=by decide
 have m9:0<=m % 9/\m % 9<9:=⟨zaF _ (by decide),zaQ _ (by decide)⟩
 have m4:0<=m / 9 % 4/\m / 9 % 4<4:=⟨zaF _ (by decide),zaQ _ (by decide)⟩
 have m5:0<=m / 36 % 5/\m / 36 % 5<5:=⟨zaF _ (by decide),zaQ _ (by decide)⟩
 refine bc<|yn<|aq<|aK<|dP<|ae rfl ⟨cz hx.1,ae rfl ⟨trivial,aq<|aK<|ae rfl<|au ⟨c9,aE ?_⟩⟩⟩;obtain⟨z,ez⟩:∃z:Int,z=(if m % 9< (x.length:Int) - (l1.length:Nat) then m % 9 else (x.length:Int) - (l1.length:Nat)):=⟨_,rfl⟩
 have z0:0<=z/\z<=l2.length:=by rw[ez];split<;>lia
 show ay _ _ D [some<|.int c,some<|.str x,some<|.ref b0,some<|.int (l1.length:Nat),some<|.int m,some v,some<|.int (if m % 9< (x.length:Int) - (l1.length:Nat) then m % 9 else (x.length:Int) - (l1.length:Nat)),u7,u8] H2
 rw[<-ez];obtain⟨la,lb,el,yK⟩:∃la lb,l2=la++lb/\z=la.length:=⟨l2.take z.toNat,l2.drop z.toNat,(zbF _ _).symm,by rw[zaE];lia⟩
 have lab:l2.length=la.length+lb.length:=by rw[el,zqA]
 refine bc<|yn<|aq<|aK<|aK<|dP<|ae rfl ⟨cz hx.1,ae rfl ⟨trivial,ae rfl ⟨trivial,aq<|aK<|aK<|ae rfl<|au ⟨⟨by decide,by decide⟩,au ⟨c4,aE ?_⟩⟩⟩⟩⟩
 obtain⟨y,ey⟩:∃y:Int,y=(if m / 9 % 4< (x.length:Int) - (l1.length:Nat) - z then m / 9 % 4 else (x.length:Int) - (l1.length:Nat) - z):=⟨_,rfl⟩
 have y0:0<=y/\y<=lb.length/\y<=3:=by rw[ey];split<;>lia
 show ay _ _ D [some<|.int c,some<|.str x,some<|.ref b0,some<|.int (l1.length:Nat),some<|.int m,some v,some<|.int z,some<|.int (if m / 9 % 4< (x.length:Int) - (l1.length:Nat) - z then m / 9 % 4 else (x.length:Int) - (l1.length:Nat) - z),u8] H2
 rw[<-ey];obtain⟨lc,ld,el2,Mn⟩:∃lc ld,lb=lc++ld/\y=lc.length:=⟨lb.take y.toNat,lb.drop y.toNat,(zbF _ _).symm,by rw[zaE];lia⟩
 refine Zu rfl hb<|ae rfl<|push (p:=.keep z) (aA.refl _) hb pv (by lia) rfl rfl fun H3 y3 b3 h3 p3=>?_
 have s3:=qp sm fr b3;refine bc<|cm<|aq<|kq<|aq<|au<|aq<|bZ tM rfl<|aq<|aK<|ae rfl<|au ⟨⟨by decide,by decide⟩,aq<|aK<|aK<|ae rfl<|au ⟨⟨by decide,by decide⟩,au ⟨c5,aE ⟨_,_,rfl,by lia,by lia,fun w H4 gw lw s4=>aE ⟨eJ,fun t1 f1=>?_⟩⟩⟩⟩⟩
 have s5:=sameNew (o:=.tup [V.str "put",V.str w]) f1;refine aq<|kq<|aq<|au<|aq<|KL<|ae rfl<|aK<|ae rfl<|ae rfl<|jn ⟨_,rfl,?_⟩;refine aK<|aK<|ae rfl<|ae rfl<|jn<|ae rfl<|jn ⟨_,rfl,cz hx.1,?_⟩;have DU:x.cps.toList=(l1++la)++(lc++ld):=by rw[ex,el,el2,zah]
 have e1:((l1.length:Nat):Int)+z=((l1++la).length:Nat):=by rw[zqA,yK];lia
 rw[e1];have ec:lh x (some (((l1++la).length:Nat):Int)) (some<|(((l1++la).length:Nat):Int)+y)=⟨lc.toArray⟩:=JC DU y Mn;rw[ec];refine aE ⟨eJ,fun t2 f2=>aE ⟨eJ,fun b8 f8=>?_⟩⟩;have s6:=sameNew (o:=.tup [V.str "cut",V.str ⟨lc.toArray⟩]) f2;have s7:=sameNew (o:=.lst [V.ref t1,V.ref t2]) f8;have BL:=(s4.trans<|s5.trans<|s6.trans s7) _ _ h3;have g1:upd H4 t1 (.tup [V.str "put",V.str w]) t1=some (.tup [V.str "put",V.str w]):=ax;have g2:upd (upd H4 t1<|.tup [V.str "put",V.str w]) t2 (.tup [V.str "cut",V.str ⟨lc.toArray⟩]) t2=some (.tup [V.str "cut",V.str ⟨lc.toArray⟩]):=ax;have l3:=Paired.length p3;have lps:(ps++[Pt.keep z]).length=ps.length+1:=by rw[zqA];rfl
 refine bc<|aK<|ae rfl<|ae rfl<|.inl ⟨b0,b8,y3,_,rfl,rfl,BL,ax,cz (by show y3.length+2<=_;lia),fun b9 f9=>?_⟩
 have s8:=sameNew (o:=.lst (y3++[V.ref t1,V.ref t2])) f9;have Mo:=s4.trans (s5.trans<|s6.trans<|s7.trans s8);refine bc<|aK<|aK<|ae rfl<|ae rfl<|jn<|ae rfl<|jn ?_;refine bc<|aK<|aK<|ae rfl<|au ⟨.inr ⟨by decide,by decide⟩,au ⟨vP,?_⟩⟩
 refine hD _ _ ⟨b9,_,(ps++[Pt.keep z])++[.put w,.cut ⟨lc.toArray⟩],l1++la++lc,ld,r1++la++w.cps.toList,m*48271 % 2147483647,some v,some<|.int z,some<|.int y,some<|.ref b8,?_,s3.trans Mo,?_,ax,?_,?_,?_,?_,?_,?_,?_,zaF _ (by decide)⟩
 ·show[some<|V.int c,some<|V.str x,some<|V.ref b9,some<|V.int<|((l1.length:Nat):Int)+z+y,some<|V.int<|m*48271 % 2147483647,some v,some<|V.int z,some<|V.int y,some<|V.ref b8]=_;rw[e1,@zqA _ (l1++la) lc,Mn];rfl
 ·exact(s3.trans<|s4.trans<|s5.trans<|s6.trans s7).free f9
 ·refine B.Paired.app (p3.mono<|df Mo) (.cons ⟨t1,rfl,(s6.trans<|s7.trans s8) _ _ g1⟩<|.cons ⟨t2,rfl,(s7.trans s8) _ _ g2⟩ .nil)
 ·rw[DU,zah];simp
 ·have R1:Run (l1++la) (ps++[Pt.keep z]) (r1++la):=hR.app (yQ yK);have R2:Run lc [.put w,.cut ⟨lc.toArray⟩] w.cps.toList:=by
   have:=Run.put (s:=w) (Run.cut (s:=⟨lc.toArray⟩) Run.nil);rw[zae,zae] at this;exact this
  exact R1.app R2
 ·intro p hp;rcases zaa.mp hp with q|q
  ·rcases zaa.mp q with q|q
   ·exact aB p q
   ·rw[zad.mp q];trivial
  ·rcases zac.mp q with rfl|q
   ·exact gw.2
   ·rw[zad.mp q];intro d hd;exact hx.2 d (by rw[DU];simp at hd;simp[hd])
 ·rw[zqA];show _+2<=_;lia
 ·rw[zqA,zqA,zqA,zqA,<-len_list];lia
 ·have e2:B.eU (Pt.put w)=w.length:=rfl;have e3:B.eU (Pt.cut ⟨lc.toArray⟩)=lc.length:=by show(Str.length ⟨lc.toArray⟩)=_;rw[len_list]
  have e4:B.aD [Pt.keep z]=0:=rfl;have e6:B.aD [Pt.put w,Pt.cut ⟨lc.toArray⟩]=w.length+(lc.length+0):=by rw[DR,DR,e2,e3];rfl
  rw[nO,nO,e4,e6];lia
def DV:Sp:=fun vs H Q E=>∃c x,vs=[.int c,.str x]/\good x/\x.length<=10000/\∀b H' ps r,aA H H'->H b=none->dO H' b ps x.cps.toList r->B.aD ps<=28->good ⟨r.toArray⟩->r.length<=x.length+16->Q (.ref b) H'
theorem abx:bE (DV) (fun E=>aO K Ml [] (E:=E)) L_ L9:=by
 intro vs H Q E h;obtain⟨c,x,rfl,hx,hl,k⟩:=h;have c4:(0:Int) <4:=by decide
 have m4:0<=c % 4/\c % 4<4:=⟨zaF _ (by decide),zaQ _ (by decide)⟩
 have vP:(0:Int) <2147483647:=by decide
 refine bc<|cm<|aE ⟨zqZ _,fun b0 n0=>?_⟩;have s1:=sameNew (o:=.lst []) n0;refine bc<|au<|bc<|aK<|aK<|ae rfl<|au ⟨.inr ⟨by decide,by decide⟩,au ⟨vP,?_⟩⟩
 refine KN (body:=Mm)<|aK<|au<|aK<|ae rfl<|au ⟨c4,jn ⟨1+c % 4,rfl,by lia,by lia,Fe (lo:=0) (n:=(1+c % 4).toNat) (C2 H c x) ?_ ?_ ?_⟩⟩
 ·exact⟨b0,[],[],[],_,[],_,none,none,none,none,rfl,s1,n0,ax,.nil,rfl,.nil,fun p hp=>(by cases hp),zqZ _,zqZ _,zqZ _,zaF _ (by decide)⟩
 ·intro i σ H2 hi I;exact abv hx hl (by lia) I fun σ' H' I'=>I'
 ·rintro σ H2 ⟨b0,ys,ps,l1,l2,r1,m,u5,u6,u7,u8,rfl,sm,fr,hb,pv,ex,hR,aB,lp,lr,lT,hm⟩;have lx:x.length=l1.length+l2.length:=by rw[len_list,ex,zqA]
  have i4:(1+c % 4).toNat<=4:=by lia
  have ly:=Paired.length pv;refine bI<|bZ DT rfl<|aq<|aK<|ae rfl<|cm<|aq<|kq<|aq<|au<|aq<|aK<|dP<|ae rfl ⟨cz hx.1,ae rfl ⟨trivial,aE ⟨eJ,fun t ft=>aE ⟨dw,fun b1 f1=>?_⟩⟩⟩⟩;have s2:=sameNew (o:=.tup [V.str "keep",V.int<|(x.length:Int) - (l1.length:Nat)]) ft;have s3:=sameNew (o:=.lst [V.ref t]) f1;refine .inl ⟨b0,b1,ys,_,rfl,rfl,(s2.trans s3) _ _ hb,ax,cz (by show ys.length+1<=_;lia),fun b2 f2=>aE ?_⟩
  have s4:=sameNew (o:=.lst (ys++[V.ref t])) f2;have qQ:=s2.trans (s3.trans s4);have R2:Run x.cps.toList (ps++[.keep<|(x.length:Int) - (l1.length:Nat)]) (r1++l2):=by rw[ex];exact hR.app (yQ (by lia))
  refine⟨b2,_,_,_,_,rfl,ax,B.Paired.app (pv.mono<|df qQ)<|.cons ⟨t,rfl,(s3.trans s4) _ _ ax⟩ .nil,R2,fun p hp=>?_,by rw[zqA];show ps.length+1<=_;lia,by rw[<-len_list];lia,by rw[zqA];lia,fun b H5 zs qs s5 nb hb5 y7 uK ch5 R5 lq tq=>?_⟩
  ·rcases zaa.mp hp with q|q
   ·exact aB p q
   ·rw[zad.mp q];trivial
  ·have e4:B.aD [Pt.keep<|(x.length:Int) - (l1.length:Nat)]=0:=rfl;rw[nO] at tq;have Mi:(r1++l2).length<=x.length+16:=by rw[zqA];lia
   refine k b H5 qs (r1++l2) (sm.trans<|qQ.trans s5) ((sm.trans qQ).free nb) ⟨zs,hb5,y7,uK,ch5,R5⟩ (by lia) ⟨by rw[jM];lia,R5.good hx.2 fun p hp=>Xt (uK p hp)⟩ Mi
end
section
variable {ww:List (Option Nat)}
theorem vR(T:dR ww):∀n,n<ww.length->∀k∈ups ww n n,k<=n:=by
 intro n
 induction n using Nat.strongRecOn with
 |ind n ih=>
  intro hn k hk;by_cases z:n=0
  ·subst z;cases zad.mp hk;exact zqR _
  ·obtain⟨j,hj,aN,e⟩:=kx T (by lia) hn
   rw[e] at hk;rcases zac.mp hk with rfl|hk
   ·exact zqR _
   ·have:=ih j aN (by lia) k hk
    lia
theorem Mp(T:dR ww):∀n,n<ww.length->∀k∈ups ww n n,∃q,ups ww n n=q++ups ww k k/\∀j∈q,k<j:=by
 intro n
 induction n using Nat.strongRecOn with
 |ind n ih=>
  intro hn k hk;by_cases z:n=0
  ·subst z;cases zad.mp hk;exact⟨[],rfl,fun j hj=>by cases hj⟩
  ·obtain⟨j,hj,aN,e⟩:=kx T (by lia) hn
   rw[e] at hk;rcases zac.mp hk with rfl|Mq
   ·exact⟨[],rfl,fun j hj=>by cases hj⟩
   ·obtain⟨q,eq,hq⟩:=ih j aN (by lia) k Mq
    refine⟨n::q,by rw[e,eq];rfl,fun i hi=>?_⟩
    rcases zac.mp hi with rfl|hi
    ·have:=vR T j (by lia) k Mq
     lia
    ·exact hq i hi
theorem Mr(r:Nat)(x0 y0:List Nat):∀c:List Nat,strip (c++r::x0) (c++r::y0)=strip (r::x0) (r::y0)
 |[]=>rfl
 |[a]=>strip_eq
 |a::b::c=>by
  have:=Mr r x0 y0 (b::c);show strip (a::b::(c++r::x0)) (a::b::(c++r::y0))=_;rw[strip_eq];exact this
theorem abA(T:dR ww)(hn:n<ww.length)(hd:d<ww.length):∃(u v:List Nat) (m:Nat) (p q:List Nat),gR ww n d=u++m::v/\ups ww n n=u++m::p/\ups ww d d=v.reverse++m::q/\(∀k∈u,k∉ups ww d d)/\m∉u/\m∉v:=by
 obtain⟨h1,h2,⟨r1,e1⟩,⟨q1,f1⟩⟩:=tL T n hn;obtain⟨g1,g2,⟨r2,e2⟩,⟨q2,f2⟩⟩:=tL T d hd;obtain⟨m,xs,ys,p,q,es,ex,ey⟩:=DL (ups ww n n).reverse (ups ww d d).reverse 0 q1.reverse q2.reverse (by rw[f1,zaP];rfl) (by rw[f2,zaP];rfl)
 have ew:gR ww n d=xs.reverse++m::ys:=by
  unfold gR;rw[es];show(m::xs).reverse++ys=_;rw[zaC,zah];rfl
 have eu:ups ww n n=xs.reverse++m::p.reverse:=by
  have:=congrArg List.reverse ex;rw[zaU,zaP,zaC,zah] at this;exact this
 have ed:ups ww d d=ys.reverse++m::q.reverse:=by
  have:=congrArg List.reverse ey;rw[zaU,zaP,zaC,zah] at this;exact this
 have key:∀k,k∈ups ww n n->k∈ups ww d d->k∉xs/\k∉ys:=by
  intro k oV Cq;obtain⟨a,ea,ha⟩:=Mp T n hn k oV;obtain⟨b,eb,hb⟩:=Mp T d hd k Cq;have qI:=h2 k oV;obtain⟨_,_,⟨rk,ek⟩,_⟩:=tL T k qI;have ra:(ups ww n n).reverse=rk.reverse++k::a.reverse:=by rw[ea,ek,zaP,zaC,zah];rfl
  have rb:(ups ww d d).reverse=rk.reverse++k::b.reverse:=by rw[eb,ek,zaP,zaC,zah];rfl
  rw[ra,rb,Mr] at es;obtain⟨m',bB,dA,p',q',rB,zM,Ms⟩:=DL (k::a.reverse) (k::b.reverse) k _ _ rfl rfl;rw[es] at rB;cases rB
  constructor
  ·intro hx;have:k∈a.reverse:=by
    cases p' with
    |nil=>cases zM;exact hx
    |cons c cs=>
     have e:=(zaZ zM).2;rw[e];exact zau _ (zas _ hx)
   exact zaz _<|ha k<|zbs.mp this
  ·intro hx;have:k∈b.reverse:=by
    cases q' with
    |nil=>cases Ms;exact hx
    |cons c cs=>
     have e:=(zaZ Ms).2;rw[e];exact zau _ (zas _ hx)
   exact zaz _<|hb k<|zbs.mp this
 have mm:=key m (by rw[eu];exact zau _ zat) (by rw[ed];exact zau _ zat)
 refine⟨xs.reverse,ys,m,p.reverse,q.reverse,ew,eu,ed,fun k hk h=>?_,fun h=>mm.1<|zbs.mp h,mm.2⟩;have pU:=zbs.mp hk;exact(key k (by rw[eu];exact zaA _ hk) h).1 pU
end
section
variable {K:Frag}
theorem abB{lo:Option Int}{k:Int}(h:ah Γ e σ H fun x H1=>oJ Γ.K x lo none (some k) H1 Q):ah Γ (.xt (lJ lo k) [e]) σ H Q:=h
def zg:Sp:=fun vs H Q E=>∃(a:Addr) (ww:List (Option Nat)) (n:Nat),vs=[.ref a,.int n]/\H a=some (.lst<|ww.map gV)/\dR ww/\n<ww.length/\ww.length<=100000/\∀b H',aA H H'->H b=none->H' b=some (.lst<|iV<|ups ww n n)->Q (.ref b) H'
theorem abC:bE (zg) (fun E=>aO K [] [] (E:=E)) Mb Ma:=by
 intro vs H Q E h;obtain⟨a,ww,n,rfl,ha,T,hn,sz,q⟩:=h;refine bc<|cm<|aq<|ae rfl<|aE ⟨dw,fun L fL=>?_⟩;have s0:=sameNew (o:=.lst [V.int (n:Nat)]) fL;refine sV (fun m σ H2=>∃(pre:List Nat) (k:Nat),m=k/\σ=[some<|.ref a,some<|.int (n:Nat),some<|.ref L]/\aA H H2/\H2 L=some (.lst<|iV pre++[V.int (k:Nat)])/\k<ww.length/\pre.length+k<=n/\ups ww n n=pre++ups ww k k)
  ⟨n,[],n,rfl,rfl,s0,ax,hn,by show 0+n<=n;lia,rfl⟩ ?_
 rintro m σ H2 ⟨pre,k,rfl,rfl,s2,hL,hk,hp,eu⟩;refine aZ<|bD<|ae rfl<|h9<|.inl ⟨L,_, -1,_,rfl,rfl,av.of hL,kU _ _,au<|lX ⟨_,rfl,?_⟩⟩;by_cases z:m=0
 ·subst z;refine iF ?_ (by simp)
  refine bI<|ae rfl<|q L H2 s2 fL ?_;rw[eu,KY];unfold iV;rw[zam];exact hL
 ·refine iT ?_ (zqT (by lia))
  obtain⟨j,hj,aN,es⟩:=kx T (by lia) hk
  refine⟨fun σ' H'=>∃(pre:List Nat) (k:Nat),k<m/\σ'=[some<|.ref a,some<|.int (n:Nat),some<|.ref L]/\aA H H'/\H' L=some (.lst<|iV pre++[V.int (k:Nat)])/\k<ww.length/\pre.length+k<=n/\ups ww n n=pre++ups ww k k,?_,?_⟩
  ·rintro σ' H' ⟨De,k',Df,e,wr⟩;exact⟨k',Df,De,k',rfl,e,wr⟩
  ·refine bN (fg<|ae rfl ⟨.inl ⟨rfl,_,av.of hL⟩,bD<|ae rfl<|bD<|ae rfl<|h9<|.inl ⟨L,_, -1,_,rfl,rfl,av.of hL,kU _ _,?_⟩⟩);refine cp (s2 _ _ ha) (cB (by rw[zai,hj];rfl)) ?_
   refine⟨_,hL,dJ (by rw[zqA,zab];show pre.length+1<=1000000;lia),?_⟩
   have b1:aP L H2 (upd H2 L<|.lst<|(iV pre++[V.int (m:Nat)])++[gV<|some j]):=aP.upd;refine⟨pre++[m],j,aN,rfl,fun c o e=>b1 c o (s2 _ _ e)<|bQ e fL,?_,by lia,by rw[zqA];show pre.length+1+j<=n;lia,by rw[eu,es,zah];rfl⟩
   rw[ax];unfold iV;rw[zam];rfl
theorem DW{QQ:List V->Hp->Addr->Prop}{te:TE}{tc:TT}(f:V->Bool)(ha:H a=some (.lst xs))(hl:xs.length<=1000000)
  (DX:∀x k,x∈xs->k (f x) H->tc (some x::cb σ fv) H k) (elt:∀x k,x∈xs->k x H->te (some x::cb σ fv) H k)
  (fin:∀p,H p=none->QQ (xs.filter f) H p):∃W:Nat->Nat->List V->Hp->Prop,(∃m,W 0 m [] H)/\∀i m ys H2,W i m ys H2->
   ((eZ K a).stop i H2/\∀p,H2 p=none->QQ ys H2 p)\/
   ((eZ K a).go i H2/\∀x H3,(eZ K a).fB i H2 x H3->iN K none x H3 fun zs=>jZ (some tc) (zs.map some++cb σ fv) H3 fun b H5=>
    if b=true then te (zs.map some++cb σ fv) H5 fun y H6=>ys.length<sizeLine/\∃m',m'<m/\W (i+1) m' (ys++[y]) H6 else ∃m',m'<m/\W (i+1) m' ys H5):=by
 refine⟨fun i m ys H2=>m=xs.length - i/\i<=xs.length/\ys=(xs.take i).filter f/\H2=H,⟨_,rfl,zqZ _,rfl,rfl⟩,?_⟩;rintro i m ys H2 ⟨rfl,hi,rfl,rfl⟩;by_cases aN:i<xs.length
 ·refine .inr ⟨⟨xs,xs[i],av.of ha,by simp[aN]⟩,?_⟩
  rintro x H3 ⟨rfl,hx⟩;have Mt:=hx xs (av.of ha);have hm:=zak Mt;have et:(xs.take<|i+1).filter f=(xs.take i).filter f++[x].filter f:=by rw[C0 Mt,zbD]
  refine DX x _ hm ?_;cases hf:f x with
  |true=>
   refine iT ?_ rfl;refine elt x _ hm ⟨dJ ?_,xs.length - (i+1),by lia,rfl,aN,?_,rfl⟩
   ·have:=zbE f (xs.take i);rw[zaE] at this;lia
   ·rw[et];simp[hf]
  |false=>
   refine iF ⟨xs.length - (i+1),by lia,rfl,aN,?_,rfl⟩ rfl
   rw[et];simp[hf]
 ·have iA:i=xs.length:=by lia
  subst iA;refine .inl ⟨⟨xs,av.of ha,zqR _⟩,fun q hq=>?_⟩;rw[zaG<|zqR _];exact fin q hq
theorem zh{l:List Nat}:dm (V.int (n:Nat)) (iV l)=l.contains n:=by
 unfold dm iV;rw[List.any_map,List.contains_eq_any_beq]
 congr 1
 funext k
 show(((k:Nat):Int)==((n:Nat):Int))=(n==k);by_cases z:k=n
 ·subst z;simp
 ·have e1:(((k:Nat):Int)==((n:Nat):Int))=false:=by simp;lia
  have e2:(n==k)=false:=by simp;lia
  rw[e1,e2]
theorem DY(l:List Nat):(iV l).all gZ=true:=by unfold iV;rw[List.all_map];exact zaX.mpr fun _ _=>rfl
theorem Mu{u p:List Nat}{m:Nat}(h:m∉u):(iV (u++m::p)).findIdx (fun z=>e9 z<|V.int (m:Nat))=u.length:=by
 induction u with
 |nil=>
  show List.findIdx _ (V.int (m:Nat)::_)=0;rw[List.findIdx_cons];have:e9 (V.int (m:Nat)) (V.int (m:Nat))=true:=by show(_==_)=true;simp
  rw[this];rfl
 |cons a u ih=>
  show List.findIdx _ (V.int (a:Nat)::iV (u++m::p))=_;rw[List.findIdx_cons];have:e9 (V.int (a:Nat)) (V.int (m:Nat))=false:=by
   show(((a:Nat):Int)==((m:Nat):Int))=false;have:a≠m:=fun z=>h (by rw[z];exact zat)
   simp;lia
  rw[this,ih fun q=>h (zas _ q)];rfl
def qZ:Sp:=fun vs H Q E=>∃(a:Addr) (ww:List (Option Nat)) (n d:Nat),vs=[.ref a,.int n,.int d]/\H a=some (.lst<|ww.map gV)/\dR ww/\n<ww.length/\d<ww.length/\ww.length<=100000/\∀b H',aA H H'->H b=none->H' b=some (.lst<|iV<|gR ww n d)->Q (.ref b) H'
theorem abD:bE (qZ) (fun E=>aO K [("_law_up",zg)] [] (E:=E)) Md Mc:=by
 intro vs H Q E h;obtain⟨a,ww,n,d,rfl,ha,T,hn,hd,sz,q⟩:=h;obtain⟨u,v,m,p,p',ew,eu,ed,hap,mu,mv⟩:=abA T hn hd;refine bc<|bZ zg rfl<|aq<|ae rfl<|aq<|ae rfl<|aE ⟨a,ww,n,rfl,ha,T,hn,sz,fun b1 H1 s1 f1 h1=>?_⟩;refine bc<|bZ zg rfl<|aq<|ae rfl<|aq<|ae rfl<|aE ⟨a,ww,d,rfl,s1 _ _ ha,T,hd,sz,fun b2 H2 s2 f2 h2=>?_⟩;have DZ:=s2 _ _ h1;have lu:=tw T n hn;have ld:=tw T d hd;have lu1:(iV<|ups ww n n).length<=1000000:=by rw[zab];lia
 have DN:(iV<|ups ww d d).length<=1000000:=by rw[zab];lia
 refine bc<|bD ?_;refine⟨_,rfl,b1,rfl,⟨_,av.of DZ⟩,DW (fun x=>dm x<|iV<|ups ww d d) DZ lu1 ?_ (fun x k _ q=>ae rfl q) ?_⟩
 ·intro x k hx q;obtain⟨i,_,rfl⟩:=zaY.mp hx;exact aZ<|ae rfl<|ae rfl ⟨b2,_,rfl,.inl<|av.of h2,rfl,DY _,_,rfl,q⟩
 ·intro b3 f3;have ef:(iV<|ups ww n n).filter (fun x=>dm x<|iV<|ups ww d d)=V.int (m:Nat)::(iV p).filter (fun x=>dm x<|iV<|ups ww d d):=by
   rw[eu];unfold iV;rw[zam,zbD];have e1:(u.map fun k=>V.int (k:Nat)).filter (fun x=>dm x<|iV<|ups ww d d)=[]:=by
    refine List.filter_eq_nil_iff.mpr fun x hx=>?_;obtain⟨k,hk,rfl⟩:=zaY.mp hx;rw[zh]
    simpa using hap k hk
   have e2:dm (V.int (m:Nat)) (iV<|ups ww d d)=true:=by
    rw[zh,ed];simp
   unfold iV at e1 e2;rw[e1,zbe,zax,List.filter_cons,if_pos e2]
  rw[ef];have s3:=sameNew (o:=.lst (V.int (m:Nat)::(iV p).filter (fun x=>dm x<|iV<|ups ww d d))) f3;have a0:gc (V.int (m:Nat)::(iV p).filter (fun x=>dm x<|iV<|ups ww d d)) 0=some (V.int (m:Nat)):=cB (j:=0) rfl;refine au<|cp ax a0 ?_;have zj:=s3 _ _ DZ;have Mv:=s3 _ _ h2;have sH:=(s1.trans s2).trans s3;generalize upd H2 b3 (.lst (V.int (m:Nat)::(iV p).filter (fun x=>dm x<|iV<|ups ww d d)))=H3 at s3 zj Mv sH⊢;have i1:(iV<|ups ww n n).findIdx (fun z=>e9 z<|V.int (m:Nat))=u.length:=by rw[eu];exact Mu mu
  have i2:(iV<|ups ww d d).findIdx (fun z=>e9 z<|V.int (m:Nat))=v.length:=by rw[ed,Mu<|fun h=>mv<|zbs.mp h,zaJ]
  have n1:dm (V.int (m:Nat)) (iV<|ups ww n n)=true:=by rw[zh,eu];simp
  have n2:dm (V.int (m:Nat)) (iV<|ups ww d d)=true:=by rw[zh,ed];simp
  refine bI<|aK<|aK<|CZ<|ae rfl<|fg<|ae rfl ⟨.inl ⟨rfl,_,av.of zj⟩,ae rfl ⟨_,av.of zj,rfl,DY _,n1,?_⟩⟩;rw[i1];refine⟨_,rfl,.inl ⟨_,av.of zj,fun b4 f4=>?_⟩⟩;rw[KO];have t1:(iV<|ups ww n n).take u.length=iV u:=by rw[eu];unfold iV;rw[<-List.map_take,zbW]
  rw[t1];have s4:=sameNew (o:=.lst (iV u)) f4;refine cm<|aq<|ae rfl<|aE ⟨dw,fun b5 f5=>?_⟩;have s5:=sameNew (o:=.lst [V.int (m:Nat)]) f5;have lu2:u.length<=100000:=by have:=congrArg List.length eu;simp at this;lia
  have vI:v.length<=100000:=by have:=congrArg List.length ed;simp at this;lia
  refine .inl ⟨b4,b5,_,_,rfl,rfl,s5 _ _ ax,ax,cz (by rw[zab];show u.length+1<=_;lia),fun b6 f6=>?_⟩
  have s6:=sameNew (o:=.lst (iV u++[V.int (m:Nat)])) f6;have zk:=s4.trans (s5.trans s6);have h6:upd (upd (upd H3 b4<|.lst<|iV u) b5<|.lst [V.int (m:Nat)]) b6 (.lst<|iV u++[V.int (m:Nat)]) b6=some (.lst<|iV u++[V.int (m:Nat)]):=ax;have zl:=zk _ _ Mv;generalize upd (upd (upd H3 b4<|.lst<|iV u) b5<|.lst [V.int (m:Nat)]) b6 (.lst<|iV u++[V.int (m:Nat)])=H6 at zk h6 zl⊢;refine abB<|CZ<|ae rfl<|fg<|ae rfl ⟨.inl ⟨rfl,_,av.of zl⟩,ae rfl ⟨_,av.of zl,rfl,DY _,n2,?_⟩⟩;rw[i2];refine⟨_,rfl,.inl ⟨_,av.of zl,fun b7 f7=>?_⟩⟩;rw[KO];have t2:(iV<|ups ww d d).take v.length=iV v.reverse:=by rw[ed];unfold iV;rw[<-List.map_take,<-zaJ,zbW]
  rw[t2];have s7:=sameNew (o:=.lst (iV v.reverse)) f7;refine⟨b7,_,rfl,av.of ax,(by decide),fun b8 f8=>?_⟩
  rw[WA];have e8:(iV v.reverse).reverse=iV v:=by rw[K3,zaU]
  rw[e8];have s8:=sameNew (o:=.lst (iV v)) f8;refine .inl ⟨b6,b8,_,_,rfl,rfl,(s7.trans s8) _ _ h6,ax,cz (by rw[zqA,zab,zab];show u.length+1+v.length<=_;lia),fun b9 f9=>?_⟩
  have s9:=sameNew (o:=.lst (iV u++[V.int (m:Nat)]++iV v)) f9;refine q b9 _ (sH.trans<|zk.trans<|s7.trans<|s8.trans s9) ((sH.trans<|zk.trans<|s7.trans s8).free f9) ?_;rw[ax,ew];unfold iV;rw[zam,zax,zah];rfl
end
def gm(ww:List (Option Nat))(p:Nat×Nat):Nat×Nat:=if ww[p.2]?=some (some p.1) then (p.1,p.2) else (p.2,p.1)
def jq(la:List (Option Nat))(p:Nat×Nat):List (Option Nat):=la.set p.1 (some p.2)
def Mw(ww:List (Option Nat))(ns:List Nat)(la:List (Option Nat)):List (Option Nat):=(ns.zip ns.tail).foldl (fun la p=>jq la<|gm ww p) la
structure i_ (ww:List (Option Nat)) (wn:Nat) (aW b_:List (Option Nat)):Prop where
 ll:aW.length=ww.length
 ls:b_.length=ww.length
 up:∀(a b:Nat),a∈ups ww wn wn->ww[a]?=some (some b)->aW[b]?=some (some a)
 no:∀(i:Nat),i∉ (ups ww wn wn).tail->aW[i]?=b_[i]?
 ok:∀(i k:Nat),b_[i]?=some (some k)->ww[k]?=some (some i)
section
variable {ww:List (Option Nat)}
theorem zm(T:dR ww)(h:ww[n]?=some (some j)):ups ww n n=n::ups ww j j/\j<n:=by
 have hn:=(zal.mp h).1;have h0:n≠0:=fun z=>by rw[z,T.rt] at h;cases h
 obtain⟨j',bH,aN,e⟩:=kx T (by lia) hn
 rw[h] at bH;cases bH;exact⟨e,aN⟩
theorem pd(T:dR ww)(h:ww[n]?=some (some j)):j<n/\n<ww.length:=⟨(zm T h).2,(zal.mp h).1⟩
theorem zo(T:dR ww)(hn:n<ww.length):∃r,ups ww n n=n::r/\∀k∈r,k<n:=by
 by_cases z:n=0
 ·subst z;exact⟨[],rfl,fun k hk=>by cases hk⟩
 ·obtain⟨j,hj,aN,e⟩:=kx T (by lia) hn
  exact⟨_,e,fun k hk=>by have:=vR T j (by lia) k hk;lia⟩
theorem i_.move(T:dR ww){wn:Nat}{aW b_:List (Option Nat)}(R:i_ ww wn aW b_)(hh:wn<ww.length)(h:tJ ww wn n):i_ ww n (jq aW<|gm ww (wn,n)) (iH ww b_ (wn,n)):=by
 rcases h with h|h
 ·
  obtain⟨e,aN⟩:=zm T h;have hn:=(pd T h).2;have e1:gm ww (wn,n)=(wn,n):=by unfold gm;rw[if_pos h]
  have e2:iH ww b_ (wn,n)=b_:=by
   unfold iH;rw[if_neg];intro z;have:=(pd T z).1;lia
  rw[e1,e2];unfold jq;refine⟨by rw[zbd];exact R.ll,R.ls,fun a b ha eF=>?_,fun i hi=>?_,R.ok⟩
  ·rw[e] at ha;rcases zac.mp ha with rfl|ha
   ·rw[h] at eF;cases eF;rw[zbt];simp[R.ll,hh]
   ·have hb:b<wn:=by
     have:=vR T wn hh a ha;have:=(pd T eF).1;lia
    rw[zaK (by lia)]
    exact R.up a b ha eF
  ·rw[e] at hi;have fI:i∉ups ww wn wn:=hi;obtain⟨r,er,_⟩:=zo T hh;have ne:wn≠i:=fun z=>fI (by rw[er,z];exact zat)
   rw[zaK ne];exact R.no i fun z=>fI (zck z)
 ·
  obtain⟨e,aN⟩:=zm T h;have e1:gm ww (wn,n)=(n,wn):=by
   unfold gm;rw[if_neg];intro z;have:=(pd T z).1;lia
  have e2:iH ww b_ (wn,n)=b_.set n (some wn):=by unfold iH;rw[if_pos h]
  rw[e1,e2];unfold jq;have hn:n<ww.length:=by lia
  obtain⟨r,er,hr⟩:=zo T hn;refine⟨by rw[zbd];exact R.ll,by rw[zbd];exact R.ls,fun a b ha eF=>?_,fun i hi=>?_,fun i k hk=>?_⟩
  ·have hb:b<n:=by
    have:=vR T n hn a ha;have:=(pd T eF).1;lia
   show(aW.set n<|some wn)[b]?=_;rw[zaK (by lia)]
   exact R.up a b (by rw[e];exact zas _ ha) eF
  ·show(aW.set n<|some wn)[i]?=_;by_cases z:n=i
   ·subst z;rw[zbt,zbt];simp[R.ll,R.ls,hn]
   ·rw[zaK z,zaK z];refine R.no i fun q=>?_;rw[e] at q;have q:i∈ups ww n n:=q;rw[er] at q hi;rcases zac.mp q with q|q
    ·exact z q.symm
    ·exact hi q
  ·by_cases z:n=i
   ·subst z;rw[zbt] at hk
    simp[R.ls,hn] at hk
    rw[<-hk];exact h
   ·rw[zaK z] at hk;exact R.ok i k hk
theorem i_.path(T:dR ww):∀wr (wn:Nat) aW b_,i_ ww wn aW b_->wn<ww.length->(∀k∈wr,k<ww.length)->gk (tJ ww) (wn::wr)->∃d,(wn::wr)[wr.length]?=some d/\i_ ww d (Mw ww (wn::wr) aW) (Dx ww (wn::wr) b_)
 |[],wn,aW,b_,R,_,_,_=>⟨wn,rfl,R⟩
 |n::wr,wn,aW,b_,R,hh,hk,hc=>by
  have R1:=R.move T hh hc.1;obtain⟨d,hd,R2⟩:=i_.path T wr n _ _ R1 (hk n zat) (fun k h=>hk k<|zas _ h) hc.2;refine⟨d,by simpa using hd,?_⟩
  exact R2
theorem Mx:∀(ps:List (Nat×Nat)) la,(ps.foldl (fun la p=>jq la<|gm ww p) la).length=la.length
 |[],_=>rfl
 |p::ps,la=>by rw[zbR,Mx ps];unfold jq;rw[zbd]
end
section
variable {K:Frag}{C CN:Addr}
theorem fi.m0{p pa:Addr}{wn:Nat}{ww:List (Option Nat)}(A:fi C H p dx lo pa ed be lg wn bj ww){m:Str}{sp:Sp}(hm:Γ.ms j=(C,sp))(h0:σ[i]?=some (some<|.ref p))(h:sp [.ref p] H Q Γ.E)(hn:ku.all (fun x=>decide<|¬m=x)=true:=by decide+kernel):ah Γ (.bz j m (.v i) []) σ H Q:=
 vo C sp hm (ae h0 ⟨p,dx,_,rfl,A.ob,gQ hn,h⟩)
theorem fi.m1{p pa:Addr}{wn:Nat}{ww:List (Option Nat)}(A:fi C H p dx lo pa ed be lg wn bj ww){m:Str}{sp:Sp}{a:RE}(hm:Γ.ms j=(C,sp))(h0:σ[i]?=some (some<|.ref p))(h:ah Γ a σ H fun y H2=>sp [.ref p,y] H2 Q Γ.E)(hn:ku.all (fun x=>decide<|¬m=x)=true:=by decide+kernel):ah Γ (.bz j m (.v i) [a]) σ H Q:=
 jN C sp hm (ae h0 ⟨p,dx,_,rfl,A.ob,gQ hn,h⟩)
theorem fi.m2{p pa:Addr}{wn:Nat}{ww:List (Option Nat)}(A:fi C H p dx lo pa ed be lg wn bj ww){m:Str}{sp:Sp}{a b:RE}(hm:Γ.ms j=(C,sp))(h0:σ[i]?=some (some<|.ref p))(h:ah Γ a σ H fun y H2=>ah Γ b σ H2 fun z H3=>sp [.ref p,y,z] H3 Q Γ.E)(hn:ku.all (fun x=>decide<|¬m=x)=true:=by decide+kernel):ah Γ (.bz j m (.v i) [a,b]) σ H Q:=
 CQ C sp hm (ae h0 ⟨p,dx,_,rfl,A.ob,gQ hn,h⟩)
def tN(C CN:Addr):Sp:=fun vs H Q E=>∃(p dx lo pa ed be lg:Addr) (wn:Nat) (bj:List Nat) (ww:List (Option Nat)) (v:V),vs=[.ref p,v]/\fi C H p dx lo pa ed be lg wn bj ww/\qM v 0 ((ww.length:Nat) - 1:Int) H/\E (.ref CN) none H
theorem abG:bE (tN C CN) (fun E=>aO K [] [] [] [("need_node",C,i9 C CN)] (E:=E)) BP iY:=by
 intro vs H Q E h;obtain⟨p,dx,lo,pa,ed,be,lg,wn,bj,ww,v,rfl,A,hn,q⟩:=h;exact bN<|A.m1 rfl rfl<|ae rfl ⟨p,dx,lo,pa,ed,be,lg,wn,bj,ww,_,rfl,A,.inr ⟨hn,q⟩⟩
theorem abH:bE (tN C CN) (fun E=>aO K [] [] [] [("need_node",C,i9 C CN)] (E:=E)) BR iY:=by
 intro vs H Q E h;obtain⟨p,dx,lo,pa,ed,be,lg,wn,bj,ww,v,rfl,A,hn,q⟩:=h;exact bN<|A.m1 rfl rfl<|ae rfl ⟨p,dx,lo,pa,ed,be,lg,wn,bj,ww,_,rfl,A,.inr ⟨hn,q⟩⟩
def D0(C CN:Addr):Sp:=fun vs H Q E=>∃(p dx lo pa ed be lg:Addr) (wn:Nat) (bj:List Nat) (ww:List (Option Nat)) (u v:V),vs=[.ref p,u,v]/\fi C H p dx lo pa ed be lg wn bj ww/\(qM u 0 ((ww.length:Nat) - 1:Int) H\/(∃n:Nat,u=.int n/\n<ww.length)/\qM v 0 ((ww.length:Nat) - 1:Int) H)/\E (.ref CN) none H
theorem abI:bE (D0 C CN) (fun E=>aO K [] [] [] [("need_node",C,i9 C CN),("upward",C,tD C)] (E:=E)) xW BV:=by
 intro vs H Q E h;obtain⟨p,dx,lo,pa,ed,be,lg,wn,bj,ww,u,v,rfl,A,hn|⟨⟨n,rfl,hl⟩,hn⟩,q⟩:=h
 ·exact bN (A.m1 rfl rfl<|ae rfl ⟨p,dx,lo,pa,ed,be,lg,wn,bj,ww,_,rfl,A,.inr ⟨hn,q⟩⟩)
 ·refine bN (A.m1 rfl rfl<|ae rfl ⟨p,dx,lo,pa,ed,be,lg,wn,bj,ww,_,rfl,A,.inl ⟨n,rfl,hl,?_⟩⟩);exact bN<|A.m1 rfl rfl<|ae rfl ⟨p,dx,lo,pa,ed,be,lg,wn,bj,ww,_,rfl,A,.inr ⟨hn,q⟩⟩
theorem abJ(X:gK K C):bE (tN C CN) (fun E=>aO K [] [] [] [("along",C,pb C),("way",C,D0 C CN)] (E:=E)) BU iY:=by
 intro vs H Q E h;obtain⟨p,dx,lo,pa,ed,be,lg,wn,bj,ww,v,rfl,A,hn,q⟩:=h;exact bI<|A.m1 rfl rfl<|A.m2 rfl rfl<|dv<|ae rfl ⟨p,C,dx,_,_,rfl,A.ob,X.cl,X.iz,jQ,ae rfl ⟨p,dx,lo,pa,ed,be,lg,wn,bj,ww,_,v,rfl,A,.inr ⟨⟨wn,rfl,A.hr⟩,hn⟩,q⟩⟩
theorem My{QQ:List V->Hp->Addr->Prop}{te:TE}{tc:TT}{lo:Int}(f:Nat->Bool)(hl:n<=1000000)
  (DX:∀(i:Nat) k,i<n->k (f i) H->tc (some (.int<|lo+i)::cb σ fv) H k) (elt:∀x k,k x H->te (some x::cb σ fv) H k)
  (fin:∀p,H p=none->QQ (((List.range n).filter f).map fun i=>V.int (lo+(i:Nat))) H p):∃W:Nat->Nat->List V->Hp->Prop,(∃m,W 0 m [] H)/\∀i m ys H2,W i m ys H2->
   ((eK lo n).stop i H2/\∀p,H2 p=none->QQ ys H2 p)\/
   ((eK lo n).go i H2/\∀x H3,(eK lo n).fB i H2 x H3->iN K none x H3 fun zs=>jZ (some tc) (zs.map some++cb σ fv) H3 fun b H5=>
    if b=true then te (zs.map some++cb σ fv) H5 fun y H6=>ys.length<sizeLine/\∃m',m'<m/\W (i+1) m' (ys++[y]) H6 else ∃m',m'<m/\W (i+1) m' ys H5):=by
 refine⟨fun i m ys H2=>m=n - i/\i<=n/\ys=((List.range i).filter f).map (fun i=>V.int<|lo+(i:Nat))/\H2=H,⟨_,rfl,zqZ _,rfl,rfl⟩,?_⟩;rintro i m ys H2 ⟨rfl,hi,rfl,rfl⟩;by_cases aN:i<n
 ·refine .inr ⟨aN,?_⟩;rintro x H3 ⟨rfl,rfl⟩;have et:((List.range<|i+1).filter f)=(List.range i).filter f++[i].filter f:=by rw[List.range_succ,zbD]
  refine DX i _ aN ?_;cases hf:f i with
  |true=>
   refine iT ?_ rfl;refine elt _ _ ⟨dJ ?_,n - (i+1),by lia,rfl,aN,?_,rfl⟩
   ·have:=zbE f (List.range i);rw[zbU] at this;rw[zab];lia
   ·rw[et];simp[hf]
  |false=>
   refine iF ⟨n - (i+1),by lia,rfl,aN,?_,rfl⟩ rfl
   rw[et];simp[hf]
 ·have iA:i=n:=by lia
  subst iA;exact .inl ⟨zqR _,fun q hq=>fin q hq⟩
theorem abK{ww:List (Option Nat)}(T:dR ww)(n:Nat):(((List.range<|ww.length - 1).filter fun i=>ww[1+i]?==some (some n)).map fun i=>V.int (1+(i:Nat)))=iV (kids ww n):=by
 have l0:0<ww.length:=(zal.mp T.rt).1;obtain⟨k,ek⟩:∃k,ww.length=k+1:=⟨ww.length - 1,by lia⟩
 have e0:(ww[0]?==some (some n))=false:=by rw[T.rt];rfl
 unfold kids iV;rw[ek,List.range_succ_eq_map,List.filter_cons,e0]
 simp only[zaV,if_false,Nat.add_sub_cancel,List.filter_map,zbh]
 rw[show((fun j=>ww[j]?==some (some n))∘Nat.succ)=fun i=>ww[1+i]?==some (some n) from funext fun i=>by show(ww[i+1]?==_)=_;rw[Nat.add_comm]]
 refine zbo fun i _=>?_;show V.int (1+(i:Nat))=V.int ((i+1:Nat):Int)
 congr 1;lia
end
section
variable {ww:List (Option Nat)}
theorem abL(T:dR ww){h:Nat}(hh:h<ww.length):∀k,k<ww.length->ups (ww++[some h]) k k=ups ww k k:=by
 intro k
 induction k using Nat.strongRecOn with
 |ind k ih=>
  intro hk;by_cases z:k=0
  ·subst z;rfl
  ·obtain⟨j,hj,aN,e⟩:=kx T (by lia) hk
   have T':=Dp T hh;obtain⟨j',bH,_,e'⟩:=kx T' (n:=k) (by lia) (by rw[zqA];lia)
   rw[zaw hk,hj] at bH;cases bH;rw[e,e',ih j aN (by lia)]
theorem i_.new(T:dR ww){wn:Nat}{aW b_:List (Option Nat)}(R:i_ ww wn aW b_)(hh:wn<ww.length):i_ (ww++[some wn]) ww.length ((aW++[none]).set wn<|some ww.length) (b_++[none]):=by
 have T':=Dp T hh;have hp:(ww++[some wn])[ww.length]?=some (some wn):=by simp
 obtain⟨e,_⟩:=zm T' hp;rw[abL T hh wn hh] at e;have ll:=R.ll;have ls:=R.ls;refine⟨by rw[zbd,zqA,zqA,ll];rfl,by rw[zqA,zqA,ls];rfl,fun a b ha eF=>?_,fun i hi=>?_,fun i k hk=>?_⟩
 ·rw[e] at ha;rcases zac.mp ha with rfl|ha
  ·rw[hp] at eF;cases eF;rw[zbt];simp[ll];lia
  ·have nI:a<ww.length:=(tL T wn hh).2.1 a ha;rw[zaw nI] at eF;have hb:=pd T eF;have hle:=vR T wn hh a ha;rw[zaK (by lia),zaw (by lia)]
   exact R.up a b ha eF
 ·rw[e] at hi;have hi:i∉ups ww wn wn:=hi;obtain⟨r,er,_⟩:=zo T hh;have ne:wn≠i:=fun z=>hi (by rw[er,z];exact zat)
  rw[zaK ne];by_cases hl:i<ww.length
  ·rw[zaw (by lia),zaw (by lia)]
   exact R.no i fun z=>hi (zck z)
  ·rw[zba (by lia),zba (by lia),ll,ls]
 ·by_cases hl:i<ww.length
  ·rw[zaw (by lia)] at hk
   have:=R.ok i k hk;rw[zaw (zal.mp this).1];exact this
  ·rw[zba (by lia)] at hk
   cases hz:i - b_.length with
   |zero=>rw[hz] at hk;cases hk
   |succ z=>rw[hz] at hk;simp at hk
end
section
variable {K:Frag}
theorem abM{r:List RS}{is:List Nat}{x y:RE}(h:aY Γ [x,y] σ H fun vs H1=>∃a b,vs=[.ref a,.ref b]/\(∃xs,av Γ.K H1 a xs)/\(∃ys,av Γ.K H1 b ys)/\∃W:Nat->Nat->St->Hp->Prop,(∃m,W 0 m σ H1)/\∀j m σ H,W j m σ H->
  ((j7 Γ.K a b).stop j H/\({D with nx:=ay Γ r D}:Ends).nx σ H)\/((j7 Γ.K a b).go j H/\∃N:St->Hp->Prop,(∀σ' H',N σ' H'->∃m',m'<m/\W (j+1) m' σ' H')/\∀x H',(j7 Γ.K a b).fB j H x H'->sj Γ.K is.length (p6 is) x σ H' fun σ2 H2=>ay Γ body {({D with nx:=ay Γ r D}:Ends) with nx:=N,ct:=N,bk:=({D with nx:=ay Γ r D}:Ends).nx} σ2 H2)):
  ay Γ (.j5 is .zip [x,y] body::r) D σ H:=h
theorem abN{b:Addr}{g:TG}{tb:TS}(hl:ys.length<=xs.length)(Pv:Nat->St->Hp->Prop)(h0:Pv 0 σ H)(ha:∀i σ H,Pv i σ H->av K H a xs/\av K H b ys)
  (hs:∀i x y σ H T,xs[i]?=some x->ys[i]?=some y->Pv i σ H->H T=none->g (.ref T) σ (upd H T<|.tup [x,y]) fun σ2 H2=>tb {D with nx:=Pv (i+1),ct:=Pv (i+1),bk:=D.nx} σ2 H2) (hd:∀σ H,Pv ys.length σ H->D.nx σ H):
  ∃W:Nat->Nat->St->Hp->Prop,(∃m,W 0 m σ H)/\∀i m σ H,W i m σ H->
   ((j7 K a b).stop i H/\D.nx σ H)\/((j7 K a b).go i H/\∃N:St->Hp->Prop,(∀σ' H',N σ' H'->∃m',m'<m/\W (i+1) m' σ' H')/\∀x H',(j7 K a b).fB i H x H'->g x σ H' fun σ2 H2=>tb {D with nx:=N,ct:=N,bk:=D.nx} σ2 H2):=by
 refine⟨fun i m σ H=>m=ys.length - i/\i<=ys.length/\Pv i σ H,⟨ys.length,by simp,zqZ _,h0⟩,?_⟩
 rintro i m σ H ⟨rfl,hi,p⟩;obtain⟨q1,q2⟩:=ha i σ H p;by_cases zp:i<ys.length
 ·have aN:i<xs.length:=by lia
  refine .inr ⟨⟨xs,ys,q1,q2,aN,zp⟩,Pv<|i+1,fun σ' H' p'=>⟨ys.length - (i+1),by lia,rfl,zp,p'⟩,fun x H' y=>?_⟩
  obtain⟨T,hT,rfl,y⟩:=y;have e:=y xs ys xs[i] ys[i] q1 q2 (by simp[aN]) (by simp[zp])
  subst e;exact hs i xs[i] ys[i] σ H T (by simp[aN]) (by simp[zp]) p hT
 ·have e:i=ys.length:=by lia
  subst e;exact .inl ⟨⟨xs,ys,q1,q2,by lia⟩,hd σ H p⟩
end
end L2.N
namespace L2.B
open PySem PySem.Spec PyProof.Rows
end L2.B
namespace L2
open PySem PySem.Spec PyProof.Rows
variable {X:Cx}
end L2
namespace L2.B
open PySem PySem.Spec PyProof.Rows
end L2.B
namespace L2
open PySem PySem.Spec PyProof.Rows
section
variable {CX:cg}{S:cJ}{Γ:bx}{X:Cx}{e:Expr}{es:List Expr}{x:Str}{p q pos:Pos}{r:RE}{rs:List RE}{i j:Nat}
theorem abO{np iR:Pos}{body su:List Stmt}{b₀:Stmt}{rb ke:List RS}(G:de CX S Γ X)(h:kG S j x=true)(hn:decide (S.N.length=n)=true)
  (hb:∀{Γ:bx}{X:Cx},de CX (tS S) Γ X->cP X body (ay Γ rb)) (hs:∀{Γ:bx}{X:Cx},de CX (hS S) Γ X->cP X (b₀::su) (ay Γ ke)):
  PS X (.Try body [.ExceptHandler (some<|.Name x np) none (b₀::su) iR] [] [] pos) (cK Γ<|.uD n n j rb ke):=by
 simp only[kG,zaf,decide_eq_true_eq,zaO] at h hn
 obtain⟨u,hm,hu⟩:=G.eE j x h.1.1;intro wv s σ H D I q;obtain⟨C,e,q⟩:=(show ∃C,Γ.gv j=.ref C/\oj Γ.K C n n (fun E=>ay {Γ with E:=E} rb) (fun ea=>ay {Γ with E:=E0,hv:=some ea} ke) D σ H from q)
 rw[e] at hu;have Bx:u=.ref C:=hu;subst Bx;have hl:X.N.length=n:=by rw[G.N];exact hn
 have q':oj X.K C X.N.length X.N.length (fun E=>ay {Γ with E:=E} rb) (fun ea=>ay {Γ with E:=E0,hv:=some ea} ke) D σ H:=by rw[G.K,hl];exact q
 exact US (tb:=fun E=>ay {Γ with E:=E} rb) (th:=fun ea=>ay {Γ with E:=E0,hv:=some ea} ke) G.jb G.gH G.oC (G.gl h.1.2) h.2 hm
  (fun pn xe E ho hp=>hb<|G.Hz pn xe E ho hp) (fun ea pn=>hs<|G.held ea pn) wv s σ H D I q'
end
section
variable {CX:cg}{S:cJ}{Γ:bx}{X:Cx}{e:Expr}{es:List Expr}{x:Str}{p q pos:Pos}{r ra:RE}{rs:List RE}{i j:Nat}
theorem abP(G:Good CX S Γ X)(hA:PA X (e::es) (aY Γ (r::rs)))(h:kB S x "len"=true:=by kernel_rfl)(hn:gg (e::es)=true:=by kernel_rfl):PE X (.Call (.Name x p) (e::es) [] pos) (ah Γ<|.blt .len (r::rs)):=by
 simp only[kB,zaf,decide_eq_true_eq] at h
 obtain⟨⟨rfl,h2⟩,h3⟩:=h;show PE X _ (fZ (mJ Γ.K .len)<|aY Γ (r::rs));rw[<-G.K];exact wC (dD.imp Ft fun xs H Q h=>by
   rcases xs with _|⟨x,_|⟨_,_⟩⟩ <;>(try exact False.elim h)
   obtain⟨n,h1,h2⟩:=Hm (Q:=fun n=>Q (.int n) H) h;exact⟨x,n,rfl,h1,h2⟩) (G.gl h2) (G.cC _ h3) boot_len hA (by decide) (by decide) (dn (dq hn).1) (jC _ _ es (dq hn).2)
theorem abQ{cond:Option RE}{elt:RE}{el iter:Expr}{ifs:List Expr}{sc:Scope}{n1:Str}{p1:Pos}(G:Good CX S Γ X)(h:kC S none (.Name n1 p1) iter sc .list [n1] fv=true)(hi:PE X iter (ah Γ ra))
  (hc:uP CX (cS S sc [n1] fv) Γ.calm cond ifs) (he:∀X,Good CX (cS S sc [n1] fv) Γ.calm X->PE X el (ah Γ.calm elt)) (hq:S.md=1:=by rfl):PE X (.ListComp el [⟨.Name n1 p1,iter,ifs,0⟩] sc p) (ah Γ<|.comp none fv .list [ra] cond elt):=by
 simp only[kC,zaf,decide_eq_true_eq] at h
 obtain⟨⟨h1,h2⟩,h3⟩:=h;obtain⟨o1,o2,o3,o4⟩:=Br (c:=⟨.Constant .none 0 ⟨0,0,0,0⟩,.Name n1 p1,iter,[],sc⟩) G h3;show PE X _ (og Γ.K (ua Γ.K<|ah Γ ra) none fv (xg Γ.calm cond)<|ah Γ.calm elt);rw[<-G.K];have hH:Hd X:=G.pZ hq;refine GG (Φ:=Hd) (Ψ:=iS X.A) o1 UW (fun _ _ _ _ I=>hH.at I) (UU hi) (fun ex C s H _=>GH (o2 n1 (by simp)) o3 ex C s H) ?_ (fun ex C s H=>he _<|G.inner ⟨.Constant .none 0 ⟨0,0,0,0⟩,.Name n1 p1,iter,[],sc⟩ [n1] fv ex C s H)<|uL o4
 cases cond with
 |none=>exact hc
 |some r=>
  obtain⟨e0,q,hq⟩:=hc;exact⟨e0,q,fun ex C s H=>hq _<|G.inner ⟨.Constant .none 0 ⟨0,0,0,0⟩,.Name n1 p1,iter,[],sc⟩ [n1] fv ex C s H⟩
end
end L2
namespace L2.q9
open PySem PySem.Spec PyProof.Rows L2.B
def bu(i:Nat):Stmt:=(PySem.Challenge.pw_inkloom_k23_the_tree_by_plain_rows.main.body).getD i (.Pass ⟨0,0,0,0⟩)
def Mz:Stmt:=bu 9
abbrev d9(s:Stmt)(k:Nat):Stmt:=(fE s).getD k (.Pass ⟨0,0,0,0⟩)
abbrev d_(b:List RS)(k:Nat):RS:=b.getD k (.ret<|.c .az)
abbrev MX(N:List Str)(s:Stmt)(f g l mn kn en hn:List Str)(b:List RS)(md:Nat):Prop:= ∀{CX:cg}{Γ:bx}{X:Cx},de CX (sA N (eO s) f g l mn kn en hn md) Γ X->cP X (fE s) (ay Γ b)
abbrev MY(N:List Str)(s:Stmt)(f g l mn kn en hn:List Str)(b:List RS)(md k:Nat):Prop:= ∀{CX:cg}{Γ:bx}{X:Cx},de CX (sA N (eO s) f g l mn kn en hn md) Γ X->PS X (d9 s k) (cK Γ<|d_ b k)
theorem abR:MX mZ Mz af af HE af af af af HD 0:=fun G=>have g:=G.toGood;(aj (aS<|kb (mV g<|aa g)<|mU<|uN g<|mV g<|aa g) ar)
def MA:Stmt:=bu 10
theorem abS:MX H9 MA Ia af af af af af af H_ 0:=fun G=>have g:=G.toGood;(aj (aS<|kb (aV g<|ag (aa g) ak)<|mU<|VD g (aa g) (aa g)<|aa g) ar)
def MB:Stmt:=bu 11
theorem abT:MX BD MB af af HF af af af af BE 0:=fun G=>have g:=G.toGood;(aj (aS<|kb (mV g<|aa g)<|mU<|jh g (aa g)<|aa g) ar)
def MC:Stmt:=bu 12
theorem abU:MX mZ MC af VT HF af af af af BF 0:=fun G=>have g:=G.toGood;(aj (aS<|kb (mV g<|aa g)<|mU<|jh g (cq g (aa g)<|ag (so g) ak) aC) ar)
def MD:Stmt:=bu 15
theorem abV:MX mZ MD VU af VW af af af af xR 0:=fun G=>have g:=G.toGood;(aj (a_ (PW.pt<|qe (fK<|Bv g<|mV g<|aa g)<|qd<|aU g (bY g<|ag (aa g) ak) aw) (aj (aS dY) ar) ar)<|aj (a_ (gJ g<|aV g<|ag (aQ g (aa g) aw)<|ag (eR<|ag aC ak) ak) (aj (aS<|kb (aV g<|ag (aQ g (aa g) aw) ak)<|mU<|jh g (aQ g (aa g) aw) aw) ar) ar)<|aj (aS<|kb (aV g<|ag (aQ g (aa g) aw)<|ag (eR<|ag aC<|ag aC ak) ak)<|kb (aV g<|ag (aQ g (aa g) aw) ak)<|mU<|jh g (aQ g (aa g) aw) aC) ar)
def ME:Stmt:=bu 16
theorem abW:MX HG ME af af af af af af af HH 0:=fun G=>have g:=G.toGood;(aj (aS<|kb (jh g (aa g)<|aa g)<|mU<|uN g<|kb (jh g (aa g) aC)<|mU<|jh g (aa g) aC) ar)
def MF:Stmt:=bu 17
theorem abX:MX HI MF VX af VY af af VZ af HJ 0:=fun G=>have g:=G.toGood;(aj (a_ (fK<|Bv g<|mV g<|aa g) (aj (lG G<|ag aC ak) ar) ar)<|aj (aR G aC)<|aj (qf G (hJ g<|aa g)<|aj (a_ (fK<|gJ g<|aV g<|ag (aa g) ak) (aj (lG G<|ag aC ak) ar) ar)<|aj (a_ (fK<|gJ g<|aV g<|ag (aQ g (aa g) aw)<|ag (aa g) ak) (aj (lG G<|ag aC ak) ar) ar)<|aj (aR G<|aQ g (aa g) aw) ar) ar)
def MG:Stmt:=bu 18
theorem abY:MX HK MG af af eT af af af af HL 0:=fun G=>have g:=G.toGood;(aj (aS<|xG (aU g (aQ g (aa g) aw) aC) (aQ g (aa g) aw)<|bY g<|ag (aQ g (aa g) aw) ak) ar)
def MH:Stmt:=bu 19
theorem abZ:MX HM MH V0 af V1 af af af af HN 0:=fun G=>have g:=G.toGood;(aj (bG<|aV g<|ag (aa g) ak)<|aj (aR G<|bY g<|ag (mW (ln:=["part"]) g (by kernel_rfl) (hJ g<|aa g) (p9 fun _ g=>(aU g (aQ g (aa g) aw) aC))<|fun _ g=>(aV g<|ag (aa g) ak)) ak)<|aj (aR G<|bY g<|ag (mW (ln:=["part"]) g (by kernel_rfl) (hJ g<|aa g) (p9 fun _ g=>(aU g (aQ g (aa g) aw) aC))<|fun _ g=>(aV g<|ag (aa g) ak)) ak)<|aj (aS<|eR<|ag (aa g)<|ag (aa g) ak) ar)
def MI:Stmt:=inClass (bu 20) 0
theorem ab0:MX xV MI af af BS af af af af JN 0:=fun G=>have g:=G.toGood;(aj (iW G (aa g)<|bY g<|ag (aa g) ak)<|aj (iW G (aa g) aw)<|aj (iW G (aa g) aw) ar)
def MJ:Stmt:=inClass (bu 20) 1
theorem ab1:MX lL MJ af af eT af af af af JO 0:=fun G=>have g:=G.toGood;(aj (aS<|xG (aU g (bU g<|aa g)<|bY g<|ag (bU g<|aa g) ak) (aQ g (aQ g (bU g<|aa g)<|bU g<|aa g) aw) aC) ar)
def MK:Stmt:=inClass (bu 20) 2
theorem ab2:MX lL MK XU af af af af af af JP 0:=fun G=>have g:=G.toGood;(aj (aS<|aF g (aV g<|ag (aQ g (bU g<|aa g)<|bU g<|aa g) ak)<|bU g<|aa g) ar)
def ML:Stmt:=inClass (bu 20) 3
theorem ab3:MX JQ ML af af af XW af af af Ci 0:=fun G=>have g:=G.toGood;(aj (aR G<|aQ g (bU g<|aa g)<|bU g<|aa g)<|aj (aR G<|bU g<|aa g)<|aj (aR G<|aF g (aa g)<|aa g)<|aj (iW G (aa g)<|aa g)<|aj (a_ (aU g (jD g<|aa g) aw) (aj (iW G (aa g)<|aF g (bU g<|aa g) aw)<|aj (iW G (aa g) aw) ar) ar)<|aj (aS<|eR<|ag (aQ g (aa g) aw)<|ag (xG (aU g (aQ g (aa g) aw) aC) (aa g)<|kd g (aQ g (aa g) aw) (g_<|aa g)<|g_<|aa g) ak) ar)
def MM:Stmt:=bu 21
theorem ab4:MX HP MM af af eT af af af af HQ 0:=fun G=>have g:=G.toGood;(aj (a_ (PW.pt<|mX (aU g (bY g<|ag (aa g) ak) aw)<|p_<|aU g (aQ g (aQ g (aa g)<|gh aw) aw) aC) (aj (aR G<|aF g (aa g)<|aQ g (xI g<|aa g) aw) ar) ar)<|aj (bG<|cq g (aa g)<|ag (eR<|ag aC<|ag (aa g) ak) ak) ar)
def MN:Stmt:=bu 22
theorem ab5:MX HR MN af af af af af af af HS 0:=fun G=>have g:=G.toGood;(aj (aR G<|cq g aC<|ag (aa g) ak)<|aj (aR G<|cq g aC<|ag (aa g) ak)<|aj (a_ (aU g (aa g) aC) (aj (bG<|cq g (aa g)<|ag (eR<|ag aC<|ag (aa g) ak) ak) ar) ar)<|aj (a_ (aU g (aa g) aC) (aj (bG<|cq g (aa g)<|ag (eR<|ag aC<|ag (aa g) ak) ak) ar) ar) ar)
def MO:Stmt:=bu 23
theorem ab6:MX HU MO V2 af af af af af af HV 0:=fun G=>have g:=G.toGood;(aj (aR G<|bJ ak)<|aj (aR G<|bJ ak)<|aj (aR G<|bJ ak)<|aj (sy [(_,_),(_,_)] G (hJ g<|aa g)<|aj (a_ (aU g (aa g) aC) (aj (bG<|cq g (aa g)<|ag (aa g) ak) ar)<|aj (a_ (aU g (aa g) aC) (aj (bG<|cq g (aa g)<|ag (aa g) ak) ar)<|aj (a_ (aU g (aa g) aw) (aj (bG<|aV g<|ag (aa g)<|ag (aa g)<|ag (aa g) ak)<|aj (aR G<|bJ ak)<|aj (aR G<|bJ ak)<|aj (bG<|aV g<|ag (aa g)<|ag (aa g) ak) ar) ar) ar) ar) ar)<|aj (bG<|aV g<|ag (aa g)<|ag (aa g)<|ag (aa g) ak)<|aj (aS<|aa g) ar)
def MP:Stmt:=bu 24
theorem ab7:MX HW MP V3 V4 af af af af af HX 0:=fun G=>have g:=G.toGood;(aj (bG<|aV g<|ag (aa g) ak)<|aj (aS<|aV g<|ag (mW (ln:=["word","what"]) g (by kernel_rfl) (hJ g<|aa g) uQ<|fun _ g=>(eR<|ag (aQ g (so g)<|aa g)<|ag (aa g) ak)) ak) ar)
def MQ:Stmt:=bu 26
theorem ab8:MX JR MQ af af af af af BO af JS 0:=fun G=>have g:=G.toGood;(aj (a_ (aU g (aQ g (aa g) aw) aC) (aj (aS<|bJ<|ag (eR<|ag aC<|ag (aa g) ak) ak) ar) ar)<|aj (a_ (aU g (aQ g (aa g) aw)<|aa g) (aj (lG G<|ag aC ak) ar) ar)<|aj (aS<|bJ ak) ar)
def MR:Stmt:=bu 27
theorem ab9:MX JT MR XX af XY JV af af af JU 0:=fun G=>have g:=G.toGood;(aj (aR G<|bJ ak)<|aj (aR G aw)<|aj (sx G (aU g (aa g)<|aV g<|ag (aa g) ak)<|aj (a_ (aU g (jD g<|aa g) aC) (aj (bG<|cq g (aa g)<|ag (dr g (aa g)<|ag (jD g<|aa g) ak) ak)<|aj VP ar) ar)<|aj (aR G<|bY g<|ag (jD g<|aa g)<|ag (aF g (aV g<|ag (aa g) ak)<|aa g) ak)<|aj (aR G<|dr g (aa g)<|ag (aa g) ak)<|aj (a_ (aU g (aQ g (aa g) aw) aC) (aj (bG<|cq g (aa g)<|ag (aa g) ak) ar)<|aj (bG<|cq g (aa g)<|ag (aV g<|ag (aa g)<|ag (kd g (aQ g (aa g) aw) (g_<|aa g)<|g_<|aF g (aa g)<|aa g) ak) ak) ar)<|aj (aR G<|aF g (aa g)<|aa g) ar)<|aj (aS<|aa g) ar)
def MS:Stmt:=bu 28
theorem ab_:MX JW MS XZ af af JV X0 BO af JX 0:=fun G=>have g:=G.toGood;(aj (a_ (aU g (aQ g (aV g<|ag (aa g) ak) aw)<|aQ g (aV g<|ag (aa g) ak) aw) (aj (lG G<|ag aC ak) ar) ar)<|aj (aR G<|xH g<|ag (aa g) ak)<|aj (aR G<|bJ ak)<|aj (qf G (hJ g<|aa g)<|aj (a_ (aU g (aQ g (aa g) aw) aC) (aj (bG<|cq g (aa g)<|ag (aa g) ak) ar)<|aj (bG<|cq g (aa g)<|ag (aV g<|ag (aa g)<|ag (aa g) ak) ak) ar) ar)<|aj (sx G (aU g (jD g<|aa g) aC)<|aj (bG<|cq g (aa g)<|ag (dr g (aa g)<|ag (jD g<|aa g) ak) ak) ar)<|aj (aS<|aV g<|ag (aa g) ak) ar)
def MT:Stmt:=bu 30
theorem aca:MX Iv MT Wq af kg af af af af Iw 0:=fun G=>have g:=G.toGood;(aj (sx G (aU g (bY g<|ag (aa g) ak) aw)<|aj (Hx (ln:=["one","other"]) G (by kernel_rfl) (by kernel_rfl) (by kernel_rfl) (Hu g (Io g (aa g) aw aw)<|Io g (aa g) aw aw) uQ<|fun _ g=>(aV g<|ag (aa g)<|ag (aa g) ak))<|aj (aR G<|aF g (aa g)<|kd g (aa g) (g_<|aF g aw<|bY g<|ag (aa g) ak) sq) ar)<|aj (aS<|aQ g (aa g) aw) ar)
def MU:Stmt:=inClass (bu 31) 0
theorem acb:MX Iy MU Ia af af af af Wr af Iz 0:=fun G=>have g:=G.toGood;(aj (a_ (PW.pt<|qe (fK<|gJ g<|aV g<|ag (aa g) ak)<|qd<|aU g (aa g) aw) (aj (lG G<|ag aC ak) ar) ar)<|aj (iW G (aa g) aw)<|aj (iW G (aa g)<|bJ<|ag (aa g) ak)<|aj (iW G (aa g)<|bJ<|ag iU ak)<|aj (iW G (aa g)<|bJ<|ag iU ak)<|aj (iW G (aa g)<|bJ<|ag (bJ ak) ak)<|aj (iW G (aa g)<|bJ<|ag iU ak) ar)
def MV:Stmt:=inClass (bu 31) 1
theorem acd:MX iY MV Ws af af Wt af xU af IA 0:=fun G=>have g:=G.toGood;(aj (a_ (fK<|gJ g<|aV g<|ag (aa g)<|ag aw<|ag (aF g (jD g<|aa g) aw) ak) (aj (lG G<|ag aC ak) ar) ar) ar)
def MW:Stmt:=inClass (bu 31) 2
theorem ace:MX xV MW IC af af af af BO af IB 0:=fun G=>have g:=G.toGood;(aj (a_ (aU g (aQ g (aV g<|ag (aa g) ak) aw)<|aQ g (bU g<|aa g)<|bU g<|aa g) (aj (lG G<|ag aC ak) ar) ar) ar)
noncomputable def MZ:List RS:=
 [.ret<|.fld (.v 0) "here"]
def M0:Stmt:=inClass (bu 31) 3
theorem acf:MX lL M0 af af af af af af af MZ 0:=fun G=>have g:=G.toGood;(aj (aS<|bU g<|aa g) ar)
def M3:Stmt:=inClass (bu 31) 4
theorem acg:MX lL M3 af af eT af af af af ID 0:=fun G=>have g:=G.toGood;(aj (aS<|bY g<|ag (bU g<|aa g) ak) ar)
def M4:Stmt:=inClass (bu 31) 5
theorem M5:MX iY M4 af af af BQ af af af BP 0:=fun G=>have g:=G.toGood;(aj (bG<|dr g (aa g)<|ag (aa g) ak)<|aj (aS<|aQ g (bU g<|aa g)<|aa g) ar)
noncomputable def D1:List RS:=
 [.drop (.bz 0 "need_node" (.v 0) [.v 1]),
 .ret (.blt .list [(.ix (.fld (.v 0) "below") (.v 1))])]
def M6:Stmt:=inClass (bu 31) 6
theorem M7:MX iY M6 af af BS BQ af af af D1 0:=fun G=>have g:=G.toGood;(aj (bG<|dr g (aa g)<|ag (aa g) ak)<|aj (aS<|bY g<|ag (aQ g (bU g<|aa g)<|aa g) ak) ar)
def M8:Stmt:=inClass (bu 31) 7
theorem M9:MX iY M8 af af af BQ af af af BR 0:=fun G=>have g:=G.toGood;(aj (bG<|dr g (aa g)<|ag (aa g) ak)<|aj (aS<|aQ g (bU g<|aa g)<|aa g) ar)
def M_:Stmt:=inClass (bu 31) 8
theorem ach:MX IE M_ IC af BS Wu af af af IF 0:=fun G=>have g:=G.toGood;(aj (bG<|dr g (aa g)<|ag (aa g) ak)<|aj (aR G<|jD g<|aa g)<|aj (bG<|cq g (bU g<|aa g)<|ag (bU g<|aa g) ak)<|aj (bG<|cq g (bU g<|aa g)<|ag (bY g<|ag (aa g) ak) ak)<|aj (bG<|cq g (bU g<|aa g)<|ag (aQ g (aV g<|ag (aa g) ak) aw) ak)<|aj (bG<|cq g (bU g<|aa g)<|ag (bJ ak) ak)<|aj (bG<|cq g (bU g<|aa g)<|ag iU ak)<|aj (bG<|cq g (aQ g (bU g<|aa g)<|bU g<|aa g)<|ag (aa g) ak)<|aj (iW G (aa g)<|aa g)<|aj (aS<|aa g) ar)
def Na:Stmt:=inClass (bu 31) 10
theorem aci:MX IG Na Wv af af af af af af IH 0:=fun G=>have g:=G.toGood;(aj (aS<|xG (aU g (aQ g (bU g<|aa g)<|aa g)<|aa g) (aQ g (bU g<|aa g)<|aa g)<|aV g<|ag (aQ g (bU g<|aa g)<|aa g) ak) ar)
def Nb:Stmt:=inClass (bu 31) 11
theorem acj:MX Ls Nb aay af aaz aaA af af af Lu 0:=fun G=>have g:=G.toGood;(aj (aR G<|aag g<|ag (aa g)<|ag (kd g (aa g) (g_ aw) sq) ak)<|aj (aR G<|bJ<|ag (aV g<|ag (bJ<|ag (eR<|ag aC<|ag (aQ g (bU g<|aa g)<|bU g<|aa g) ak) ak) ak) ak)<|aj (aR G<|aV g<|ag (aF g (aa g)<|mW (ln:=["node","other"]) g (by kernel_rfl) (hJ g<|aa g) uQ<|fun _ g=>(dr g (aa g)<|ag (aa g)<|ag (aa g) ak)) ak)<|aj (sy [(_,_),(_,_)] G (hJ g<|aa g)<|aj (a_ (aU g (aQ g (bU g<|aa g)<|aa g)<|aa g) (aj (sv (aa g) (bU g<|aa g)<|aa g) ar) ar) ar)<|aj (iW G (aa g)<|aQ g (aa g)<|gh aw)<|aj (aS<|aa g) ar)
def Nc:Stmt:=inClass (bu 31) 12
theorem ack:MX lL Nc af af af IJ af xU af II 0:=fun G=>have g:=G.toGood;(aj (a_ (aU g (bU g<|aa g) aw) (aj (lG G<|ag aC ak) ar) ar)<|aj (aS<|dr g (aa g)<|ag (bJ<|ag (bU g<|aa g)<|ag (aQ g (bU g<|aa g)<|bU g<|aa g) ak) ak) ar)
def Nd:Stmt:=inClass (bu 31) 13
theorem acm:MX IL Nd af af af IJ af xU af IM 0:=fun G=>have g:=G.toGood;(aj (aR G<|aQ g (bU g<|aa g)<|bU g<|aa g)<|aj (a_ (aU g (aa g) iU) (aj (lG G<|ag aC ak) ar) ar)<|aj (aS<|dr g (aa g)<|ag (bJ<|ag (bU g<|aa g)<|ag (aa g) ak) ak) ar)
def Nf:Stmt:=inClass (bu 31) 14
theorem Ng:MX iY Nf af af af Ww af af af BU 0:=fun G=>have g:=G.toGood;(aj (aS<|dr g (aa g)<|ag (dr g (aa g)<|ag (bU g<|aa g)<|ag (aa g) ak) ak) ar)
def Nh:Stmt:=inClass (bu 31) 15
theorem acn:MX IP Nh af af af af af af af IQ 0:=fun G=>have g:=G.toGood;(aj (aR G<|bJ<|ag (aa g) ak)<|aj (sx G (aU g (aQ g (aa g)<|gh aw) aw)<|aj (bG<|cq g (aa g)<|ag (aQ g (bU g<|aa g)<|aQ g (aa g)<|gh aw) ak) ar)<|aj (aS<|aa g) ar)
def Ni:Stmt:=inClass (bu 31) 16
theorem Nj:MX BV Ni af af Wx Wy af af af xW 0:=fun G=>have g:=G.toGood;(aj (bG<|dr g (aa g)<|ag (aa g) ak)<|aj (bG<|dr g (aa g)<|ag (aa g) ak)<|aj (aR G<|dr g (aa g)<|ag (aa g) ak)<|aj (aR G<|dr g (aa g)<|ag (aa g) ak)<|aj (sx G (PW.pt<|mX (aU g (bY g<|ag (aa g) ak) aw)<|mX (aU g (bY g<|ag (aa g) ak) aw)<|p_<|aU g (aQ g (aa g)<|gh aw)<|aQ g (aa g)<|gh aw)<|aj (bG<|xI g<|aa g)<|aj (bG<|xI g<|aa g) ar)<|aj (aS<|aF g (aa g)<|Wo g<|ag (kd g (aa g) sq<|g_<|gh aw) ak) ar)
def Nk:Stmt:=bu 33
theorem aco:MX HY Nk af af eT af af af af HZ 0:=fun G=>have g:=G.toGood;(aj (a_ (aU g (aa g)<|bY g<|ag (aa g) ak) (aj (aS<|aQ g (aa g)<|aa g) ar) ar)<|aj (aS aw) ar)
def Nl:Stmt:=bu 34
theorem acp:MX LV Nl af af LX af af af af LW 0:=fun G=>have g:=G.toGood;(aj (aR G aC)<|aj (aR G<|aF g (aa g) aC)<|aj (aS<|cq g aC<|ag (mW (ln:=["_law_k"]) g (by kernel_rfl) (uR g<|aa g) uQ<|fun _ g=>(aQ g (aa g)<|aF g (aF g (aa g)<|aF g (aa g)<|aF g aw<|aF g (aF g (aa g) aw) aw) aw)) ak) ar)
def Nm:Stmt:=bu 35
theorem acq:MX LY Nm abd af af af af af af LZ 0:=fun G=>have g:=G.toGood;(aj (a_ (aU g (aF g (aF g (aa g) aw) aw) aw) (aj (aS<|aV g<|ag (aF g (aa g) aw)<|ag (aF g (aa g) aw) ak) ar) ar)<|aj (aS<|aV g<|ag (aF g (aa g) aw)<|ag (aF g (aa g) aw) ak) ar)
def Nn:Stmt:=bu 36
theorem acr:MX L6 Nn af af abe af af af af L7 0:=fun G=>have g:=G.toGood;(aj (aR G<|bJ ak)<|aj (aR G aC)<|aj (aR G aC)<|aj (sy [(_,_),(_,_)] G (hJ g<|aF g (aa g)<|bJ<|ag (eR<|ag aC<|ag aw ak) ak)<|aj (a_ (aU g (aa g) aC) (aj (aR G<|aF g (aa g)<|aa g) ar)<|aj (a_ (aU g (aa g) aC) (aj (aR G<|aF g (aa g)<|aa g) ar)<|aj (a_ (aU g (aa g) aw) (aj (aR G<|aF g (aF g (aa g)<|aF g (bJ<|ag (eR<|ag aC<|ag (aa g) ak) ak)<|bY g<|ag (jh g (aa g) aC) ak)<|aF g (bJ<|ag (eR<|ag aC<|ag (aa g) ak) ak)<|bY g<|ag (jh g (aa g) aC) ak)<|aj (aR G aC)<|aj (aR G aC)<|aj (a_ (PW.pt<|mX (aU g (aa g) aC)<|mX (aU g (aa g)<|bJ ak)<|p_<|aU g (aQ g (aQ g (aa g)<|gh aw) aw) aC) (aj (sv (eR<|ag aC<|ag (aF g (aQ g (aQ g (aa g)<|gh aw) aw)<|aa g) ak) (aa g)<|gh aw) ar)<|aj (a_ (aU g (aa g) aC) (aj (bG<|cq g (aa g)<|ag (eR<|ag (aa g)<|ag (aa g) ak) ak) ar) ar) ar) ar) ar) ar) ar) ar)<|aj (aS<|aa g) ar)
def Np:Stmt:=bu 37
theorem acs:MX L9 Np abf af abg af af af af L_ 0:=fun G=>have g:=G.toGood;(aj (aR G<|bJ ak)<|aj (aR G aw)<|aj (aR G<|aF g (aF g (aa g) aw) aw)<|aj (qf G (uR g<|aF g aw<|aF g (aa g) aw)<|aj (aR G<|bY g<|ag (aF g (bY g<|ag (aa g) ak)<|aa g)<|ag (aF g (aa g) aw) ak)<|aj (aR G<|bY g<|ag (aF g (aF g (bY g<|ag (aa g) ak)<|aa g)<|aa g)<|ag (aF g (aF g (aa g) aw) aw) ak)<|aj (bG<|cq g (aa g)<|ag (eR<|ag aC<|ag (aa g) ak) ak)<|aj (aR G<|bJ<|ag (eR<|ag aC<|ag (aV g<|ag (aF g (aa g) aw)<|ag (aF g (aF g (aa g) aw) aw) ak) ak)<|ag (eR<|ag aC<|ag (kd g (aa g) (g_<|aF g (aa g)<|aa g)<|g_<|aF g (aF g (aa g)<|aa g)<|aa g) ak) ak)<|aj (aR G<|aF g (aa g)<|aa g)<|aj (aR G<|aF g (aF g (aa g)<|aa g)<|aa g)<|aj (aR G<|aF g (aF g (aa g) aw) aw) ar)<|aj (aS<|aV g<|ag (aF g (aa g)<|bJ<|ag (eR<|ag aC<|ag (aF g (bY g<|ag (aa g) ak)<|aa g) ak) ak) ak) ar)
def Nq:Stmt:=bu 38
theorem acu:MX Ib Nq af af eT af af af af Ic 0:=fun G=>have g:=G.toGood;(aj (aR G aC)<|aj (aR G aw)<|aj (sy [(_,_),(_,_)] G (hJ g<|aa g)<|aj (a_ (aU g (aa g) aC) (aj (aR G<|aF g (aa g)<|aa g) ar)<|aj (a_ (aU g (aa g) aC) (aj (aR G<|aF g (aa g)<|kd g (aa g) (g_<|aa g)<|g_<|aF g (aa g)<|aa g)<|aj (aR G<|aF g (aa g)<|aa g) ar)<|aj (aR G<|aF g (aa g)<|bY g<|ag (aa g) ak) ar) ar) ar)<|aj (aS<|aa g) ar)
def zq:List Str:=["_law_found","_law_due"]
noncomputable def Nr:List RS:=
 [.ret<|.and [(.g7 .int<|.v 0),(.not<|.g7 .bool<|.v 0),(.cmp .Eq (.v 0)<|.v 1)]]
def Nt:Stmt:=bu 39
theorem acv:MX zq Nt af af HE af af af af Nr 0:=fun G=>have g:=G.toGood;(aj (aS<|kb (mV g<|aa g)<|kb (uN g<|mV g<|aa g)<|mU<|jh g (aa g)<|aa g) ar)
noncomputable def Nu:List RS:=
 [.ite (.or [(.not (.g7 .list (.v 0))),(.cmp .NotEq (.blt .len [.v 0]) (.blt .len [.v 1]))]) [.ret (.c (.bl false))] [],
 .ret (.cmp .Eq (.blt .len [(.comp none [("_law_found",0),("_law_due",1)] .gz [(.blt .len [.v 1])] (some (.not (.call 0 [(.ix (.v 1) (.v 0)),(.ix (.v 2) (.v 0))]))) (.v 0))]) (.c (.int 0)))]
def Nv:List Str:=["_law_whole"]
def acw:List Str:=["isinstance","list","len","range"]
def Nw:Stmt:=bu 40
theorem acx:MX zq Nw Nv af acw af af af af Nu 0:=fun G=>have g:=G.toGood;(aj (a_ (PW.pt<|qe (fK<|Bv g<|mV g<|aa g)<|qd<|aU g (bY g<|ag (aa g) ak)<|bY g<|ag (aa g) ak) (aj (aS dY) ar) ar)<|aj (aS<|jh g (bY g<|ag (mW (ln:=["_law_k"]) g (by kernel_rfl) (uR g<|bY g<|ag (aa g) ak) (p9 fun _ g=>(fK<|gJ g<|aV g<|ag (aQ g (aa g)<|aa g)<|ag (aQ g (aa g)<|aa g) ak))<|fun _ g=>(aa g)) ak) aw) ar)
def Nx:Stmt:=bu 41
theorem acy:MX Ma Nx af af af af af af af Mb 0:=fun G=>have g:=G.toGood;(aj (aR G<|bJ<|ag (aa g) ak)<|aj (sx G (aU g (aQ g (aa g)<|gh aw) aw)<|aj (bG<|cq g (aa g)<|ag (aQ g (aa g)<|aQ g (aa g)<|gh aw) ak) ar)<|aj (aS<|aa g) ar)
def Ny:Stmt:=bu 42
theorem acz:MX Mc Ny abh af af af af af af Md 0:=fun G=>have g:=G.toGood;(aj (aR G<|aV g<|ag (aa g)<|ag (aa g) ak)<|aj (aR G<|aV g<|ag (aa g)<|ag (aa g) ak)<|aj (aR G<|aQ g (mW (ln:=["_law_node"]) g (by kernel_rfl) (hJ g<|aa g) (p9 fun _ g=>(aU g (aa g)<|aa g))<|fun _ g=>(aa g)) aw)<|aj (aS<|aF g (aF g (kd g (aa g) sq<|g_<|cq g (aa g)<|ag (aa g) ak)<|bJ<|ag (aa g) ak)<|Wc g (kd g (aa g) sq<|g_<|cq g (aa g)<|ag (aa g) ak)<|gh aw) ar)
def Nz:List Str:=["_law_history","_law_above","_law_nodes","_law_node","_law_found"]
noncomputable def NA:List RS:=
 [.j0 3 .list [.v 2] [.asg 4 (.bz 0 "parent" (.v 0) [.v 3]),
  .ite (.or [(.and [(.cmp .Eq (.v 3) (.c (.int 0))),(.cmp .IsNot (.v 4) (.c .az))]),(.and [(.cmp .Gt (.v 3) (.c (.int 0))),(.not (.call 0 [.v 4,(.ix (.v 1) (.v 3))]))])]) [.ret (.c (.bl false))] []],
 .ret (.c (.bl true))]
def acA:List Str:=["parent"]
def NB:Stmt:=bu 43
theorem acB:MX Nz NB Nv af af acA af af af NA 0:=fun G=>have g:=G.toGood;(aj (qf G (hJ g<|aa g)<|aj (aR G<|dr g (aa g)<|ag (aa g) ak)<|aj (a_ (PW.pt<|qe (PW.pt<|mX (aU g (aa g) aw)<|p_<|aU g (aa g) iU)<|qd<|PW.pt<|mX (aU g (aa g) aw)<|p_<|fK<|gJ g<|aV g<|ag (aa g)<|ag (aQ g (aa g)<|aa g) ak) (aj (aS dY) ar) ar) ar)<|aj (aS dY) ar)
def NC:List Str:=["_law_history","_law_rows","_law_nodes","_law_node","_law_found"]
noncomputable def ND:List RS:=
 [.j0 3 .list [.v 2] [.asg 4 (.bz 0 "children" (.v 0) [.v 3]),
  .ite (.not<|.call 0 [.v 4,(.comp none [("_law_node",3),("_law_rows",1)] .uA [(.c<|.int 1),(.blt .len [.v 2])] (some<|.cmp .Eq (.ix (.ba (.v 2)<|.c<|.str "above")<|.v 0)<|.v 1)<|.v 0)]) [.ret<|.c<|.bl false] [],
  .ite (.cmp .Eq (.bin .Mod (.v 3)<|.c<|.int 2)<|.c<|.int 0) [.drop<|.bh .append (.v 4) [(.c<|.int 0)]] [],
  .drop (.bh .append (.ba (.v 1) (.c (.str "held"))) [(.tup [.v 4,(.blt .list [.v 4])])])],
 .ret (.c (.bl true))]
def acC:List Str:=["_law_wholes"]
def acD:List Str:=["range","len","list"]
def acE:List Str:=["children"]
def NF:Stmt:=bu 44
theorem acF:MX NC NF acC af acD acE af af af ND 0:=fun G=>have g:=G.toGood;(aj (qf G (hJ g<|aa g)<|aj (aR G<|dr g (aa g)<|ag (aa g) ak)<|aj (a_ (fK<|gJ g<|aV g<|ag (aa g)<|ag (mW (ln:=["_law_k"]) g (by kernel_rfl) (VL g aw<|bY g<|ag (aa g) ak) (p9 fun _ g=>(aU g (aQ g (cE g (aa g) aC)<|aa g)<|aa g))<|fun _ g=>(aa g)) ak) (aj (aS dY) ar) ar)<|aj (a_ (aU g (aF g (aa g) aw) aw) (aj (bG<|cq g (aa g)<|ag aw ak) ar) ar)<|aj (bG<|cq g (cE g (aa g) aC)<|ag (eR<|ag (aa g)<|ag (bY g<|ag (aa g) ak) ak) ak) ar)<|aj (aS dY) ar)
def NG:List Str:=["_law_history","_law_rows","_law_turn","_law_cell","_law_above","_law_nodes"]
noncomputable def NH:List RS:=
 [.asg 4 (.ba (.v 1) (.c (.str "above"))),
 .rT 5 (.comp none [("_law_cell",3),("_law_above",4)] .gz [(.blt .len [.v 4])] none<|.bin .Mod (.bin .Add (.v 1)<|.v 0)<|.blt .len [.v 2]),
 .ite (.cmp .Eq (.v 2)<|.c<|.int 0) [.ret<|.call 0 [(.bz 0 "now" (.v 0) []),(.ba (.v 1)<|.c<|.str "here")]] [],
 .ite (.cmp .Eq (.v 2)<|.c<|.int 1) [.ret<|.call 0 [(.bz 1 "many" (.v 0) []),(.blt .len [.v 4])]] [],
 .ite (.cmp .Eq (.v 2)<|.c<|.int 2) [.ret<|.call 1 [.v 0,.v 4,.v 5]] [],
 .ite (.cmp .Eq (.v 2)<|.c<|.int 3) [.ret<|.call 2 [.v 0,.v 1,.v 5]] [],
 .ret (.call 3 [.v 0,.v 1,.v 3])]
def acG:List Str:=["_law_whole","_law_parents","_law_children","_law_way_right"]
def acH:List Str:=["range","len"]
def acI:List Str:=["now","many"]
def NI:Stmt:=bu 45
theorem acJ:MX NG NI acG af acH acI af af af NH 0:=fun G=>have g:=G.toGood;(aj (aR G<|cE g (aa g) aC)<|aj (Hx (ln:=["_law_k"]) G (by kernel_rfl) (by kernel_rfl) (by kernel_rfl) (uR g<|bY g<|ag (aa g) ak) uQ<|fun _ g=>(aF g (aF g (aa g)<|aa g)<|bY g<|ag (aa g) ak))<|aj (a_ (aU g (aa g) aw) (aj (aS<|aV g<|ag (jD g<|aa g)<|ag (cE g (aa g) aC) ak) ar) ar)<|aj (a_ (aU g (aa g) aw) (aj (aS<|aV g<|ag (jD g<|aa g)<|ag (bY g<|ag (aa g) ak) ak) ar) ar)<|aj (a_ (aU g (aa g) aw) (aj (aS<|aV g<|ag (aa g)<|ag (aa g)<|ag (aa g) ak) ar) ar)<|aj (a_ (aU g (aa g) aw) (aj (aS<|aV g<|ag (aa g)<|ag (aa g)<|ag (aa g) ak) ar) ar)<|aj (aS<|aV g<|ag (aa g)<|ag (aa g)<|ag (aa g) ak) ar)
def NJ:List Str:=["_law_history","_law_rows","_law_cell","_law_k"]
noncomputable def NK:List RS:=
 [.j0 3 .gz [(.c (.int 5))] [.ite (.not (.call 0 [.v 0,.v 1,(.bin .Mod (.bin .Add (.bin .FloorDiv (.v 2) (.c (.int 5))) (.bin .Mult (.v 3) (.bin .Add (.c (.int 1)) (.bin .Mod (.v 2) (.c (.int 4)))))) (.c (.int 5))),.v 2])) [.ret (.c (.bl false))] []],
 .ret (.c (.bl true))]
def acK:List Str:=["_law_asked"]
def NL:Stmt:=bu 46
theorem acL:MX NJ NL acK af LX af af af af NK 0:=fun G=>have g:=G.toGood;(aj (qf G (uR g aw)<|aj (a_ (fK<|gJ g<|aV g<|ag (aa g)<|ag (aa g)<|ag (aF g (aF g (aF g (aa g) aw)<|aF g (aa g)<|aF g aw<|aF g (aa g) aw) aw)<|ag (aa g) ak) (aj (aS dY) ar) ar) ar)<|aj (aS dY) ar)
def NM:List Str:=["_law_history","_law_rows","_law_cell","_law_above","_law_one","_law_other","_law_found"]
noncomputable def NN:List RS:=
 [.asg 3 (.ba (.v 1) (.c (.str "above"))),
 .asg 4 (.bin .Mod (.v 2)<|.blt .len [.v 3]),
 .asg 5 (.bin .Mod (.bin .FloorDiv (.v 2)<|.c<|.int 7)<|.blt .len [.v 3]),
 .asg 6 (.bz 0 "way" (.v 0) [.v 4,.v 5]),
 .ite (.not<|.call 0 [.v 6,(.call 1 [.v 3,.v 4,.v 5])]) [.ret<|.c<|.bl false] [],
 .drop (.bh .clear (.v 6) []),
 .asg 6 (.bz 0 "way" (.v 0) [.v 4,.v 5]),
 .drop (.bh .append (.ba (.v 1)<|.c<|.str "held") [(.tup [.v 6,(.blt .list [.v 6])])]),
 .ret (.call 0 [.v 6,(.call 1 [.v 3,.v 4,.v 5])])]
def acM:List Str:=["_law_wholes","_law_way"]
def acN:List Str:=["len","list"]
def acO:List Str:=["way"]
def NO:Stmt:=bu 47
theorem acP:MX NM NO acM af acN acO af af af NN 0:=fun G=>have g:=G.toGood;(aj (aR G<|cE g (aa g) aC)<|aj (aR G<|aF g (aa g)<|bY g<|ag (aa g) ak)<|aj (aR G<|aF g (aF g (aa g) aw)<|bY g<|ag (aa g) ak)<|aj (aR G<|dr g (aa g)<|ag (aa g)<|ag (aa g) ak)<|aj (a_ (fK<|gJ g<|aV g<|ag (aa g)<|ag (aV g<|ag (aa g)<|ag (aa g)<|ag (aa g) ak) ak) (aj (aS dY) ar) ar)<|aj (bG<|xI g<|aa g)<|aj (aR G<|dr g (aa g)<|ag (aa g)<|ag (aa g) ak)<|aj (bG<|cq g (cE g (aa g) aC)<|ag (eR<|ag (aa g)<|ag (bY g<|ag (aa g) ak) ak) ak)<|aj (aS<|aV g<|ag (aa g)<|ag (aV g<|ag (aa g)<|ag (aa g)<|ag (aa g) ak) ak) ar)
def NP:List Str:=["_law_history","_law_way_here","_law_node"]
noncomputable def NQ:List RS:=
 [.uD 3 3 0 [.ite (.cmp .Eq (.v 1) (.c (.int 0))) [.drop (.bz 0 "undo" (.v 0) [])] [.ite (.cmp .Eq (.v 1) (.c (.int 1))) [.drop (.bz 1 "redo" (.v 0) [])] [.drop (.bz 2 "go" (.v 0) [.v 2])]]] [.ret (.c (.bl false))],
 .ret (.c (.bl true))]
def acQ:List Str:=["undo","redo","go"]
def NR:Stmt:=bu 48
theorem acR:MX NP NR af xU af acQ af af af NQ 0:=fun G=>have g:=G.toGood;(aj (abO G (by kernel_rfl) (by kernel_rfl) (fun G=>(fun g=>(aj (a_ (aU g (aa g) aw) (aj (bG<|jD g<|aa g) ar)<|aj (a_ (aU g (aa g) aw) (aj (bG<|jD g<|aa g) ar)<|aj (bG<|dr g (aa g)<|ag (aa g) ak) ar) ar) ar)) G.toGood)<|fun G=>(fun g=>(aj (aS dY) ar)) G.toGood)<|aj (aS dY) ar)
def kA:List Str:=["_law_history","_law_rows","_law_cell","_law_kind","_law_here","_law_change","_law_way_here","_law_one","_law_other"]
noncomputable def fj:List RS:=
 [.asg 3 (.bin .Mod (.v 2) (.c (.int 8))),
 .asg 4 (.ba (.v 1)<|.c<|.str "here"),
 .ite (.cmp .Lt (.v 3) (.c (.int 3))) [.asg 5 (.call 0 [(.bin .FloorDiv (.v 2) (.c (.int 8))),(.ix (.ba (.v 1) (.c (.str "texts"))) (.v 4))]),
  .drop (.bh .append (.ba (.v 1)<|.c<|.str "above") [.v 4]),
  .drop (.bh .append (.ba (.v 1)<|.c<|.str "latest") [.c .az]),
  .drop (.bh .append (.ba (.v 1)<|.c<|.str "texts") [(.call 1 [(.ix (.ba (.v 1)<|.c<|.str "texts")<|.v 4),.v 5])]),
  .dput (.v 1) (.c<|.str "here") (.bin .Sub (.blt .len [(.ba (.v 1)<|.c<|.str "above")])<|.c<|.int 1),
  .set (.ba (.v 1)<|.c<|.str "latest") (.v 4) (.ba (.v 1)<|.c<|.str "here"),
  .ret (.call 2 [(.bz 0 "do" (.v 0) [.v 5]),(.ba (.v 1) (.c (.str "here")))])] [],
 .ite (.cmp .Lt (.v 3) (.c (.int 5))) [.ite (.cmp .Eq (.v 4) (.c (.int 0))) [.ret (.not (.call 3 [.v 0,(.c (.int 0)),(.c (.int 0))]))] [],
  .dput (.v 1) (.c<|.str "here") (.ix (.ba (.v 1)<|.c<|.str "above")<|.v 4),
  .set (.ba (.v 1)<|.c<|.str "latest") (.ba (.v 1)<|.c<|.str "here") (.v 4),
  .ret (.call 3 [.v 0,(.c (.int 0)),(.c (.int 0))])] [],
 .ite (.cmp .Eq (.v 3) (.c (.int 5))) [.ite (.cmp .Is (.ix (.ba (.v 1) (.c (.str "latest"))) (.v 4)) (.c .az)) [.ret (.not (.call 3 [.v 0,(.c (.int 1)),(.c (.int 0))]))] [],
  .dput (.v 1) (.c<|.str "here") (.ix (.ba (.v 1)<|.c<|.str "latest")<|.v 4),
  .ret (.call 3 [.v 0,(.c (.int 1)),(.c (.int 0))])] [],
 .asg 6 (.call 4 [(.ba (.v 1)<|.c<|.str "above"),.v 4,(.bin .Mod (.bin .FloorDiv (.v 2)<|.c<|.int 8)<|.blt .len [(.ba (.v 1)<|.c<|.str "above")])]),
 .j5 [7,8] .zip [.v 6,(.sl (.v 6) (some<|.c<|.int 1) none)] [.ite (.cmp .Eq (.ix (.ba (.v 1)<|.c<|.str "above")<|.v 8)<|.v 7) [.set (.ba (.v 1)<|.c<|.str "latest") (.v 7)<|.v 8] [.set (.ba (.v 1)<|.c<|.str "latest") (.v 8)<|.v 7]],
 .dput (.v 1) (.c<|.str "here") (.ix (.v 6)<|.neg<|.c<|.int 1),
 .ret (.call 3 [.v 0,(.c (.int 2)),(.ix (.v 6) (.neg (.c (.int 1))))])]
def lY:List Str:=["_law_change_by","_law_done","_law_whole","_law_gone","_law_way"]
def lZ:List Str:=["do"]
def fk:Stmt:=bu 49
theorem acS:MY kA fk lY af kg lZ af af af fj 0 0:=by
 intro CX Γ X G;have g:=G.toGood;show PS X (.Assign [.Name "_law_kind" _] _ _) (cK Γ<|.asg 3 _)
 with_reducible exact(aR G<|aF g (aa g) aw)
theorem acT:MY kA fk lY af kg lZ af af af fj 0 1:=by
 intro CX Γ X G;have g:=G.toGood;show PS X (.Assign [.Name "_law_here" _] _ _) (cK Γ<|.asg 4 _)
 with_reducible exact(aR G<|cE g (aa g) aC)
theorem acU:MY kA fk lY af kg lZ af af af fj 0 2:=fun G=>have g:=G.toGood;(a_ (aU g (aa g) aw) (aj (aR G<|aV g<|ag (aF g (aa g) aw)<|ag (aQ g (cE g (aa g) aC)<|aa g) ak)<|aj (bG<|cq g (cE g (aa g) aC)<|ag (aa g) ak)<|aj (bG<|cq g (cE g (aa g) aC)<|ag iU ak)<|aj (bG<|cq g (cE g (aa g) aC)<|ag (aV g<|ag (aQ g (cE g (aa g) aC)<|aa g)<|ag (aa g) ak) ak)<|aj (xJ G (aF g (bY g<|ag (cE g (aa g) aC) ak) aw) (aa g) aC)<|aj (sv (cE g (aa g) aC) (cE g (aa g) aC)<|aa g)<|aj (aS<|aV g<|ag (dr g (aa g)<|ag (aa g) ak)<|ag (cE g (aa g) aC) ak) ar) ar)
theorem acV:MY kA fk lY af kg lZ af af af fj 0 3:=fun G=>have g:=G.toGood;(a_ (aU g (aa g) aw) (aj (a_ (aU g (aa g) aw) (aj (aS<|uN g<|aV g<|ag (aa g)<|ag aw<|ag aw ak) ar) ar)<|aj (xJ G (aQ g (cE g (aa g) aC)<|aa g) (aa g) aC)<|aj (sv (aa g) (cE g (aa g) aC)<|cE g (aa g) aC)<|aj (aS<|aV g<|ag (aa g)<|ag aw<|ag aw ak) ar) ar)
theorem acW:MY kA fk lY af kg lZ af af af fj 0 4:=fun G=>have g:=G.toGood;(a_ (aU g (aa g) aw) (aj (a_ (aU g (aQ g (cE g (aa g) aC)<|aa g) iU) (aj (aS<|uN g<|aV g<|ag (aa g)<|ag aw<|ag aw ak) ar) ar)<|aj (xJ G (aQ g (cE g (aa g) aC)<|aa g) (aa g) aC)<|aj (aS<|aV g<|ag (aa g)<|ag aw<|ag aw ak) ar) ar)
theorem acX:MY kA fk lY af kg lZ af af af fj 0 5:=by
 intro CX Γ X G;have g:=G.toGood;show PS X (.Assign [.Name "_law_way_here" _] _ _) (cK Γ<|.asg 6 _)
 with_reducible exact(aR G<|aV g<|ag (cE g (aa g) aC)<|ag (aa g)<|ag (aF g (aF g (aa g) aw)<|bY g<|ag (cE g (aa g) aC) ak) ak)
theorem acY:MY kA fk lY af kg lZ af af af fj 0 6:=fun G=>have g:=G.toGood;(sy [(_,_),(_,_)] G (Hu g (aa g)<|kd g (aa g) (g_ aw) sq)<|aj (a_ (aU g (aQ g (cE g (aa g) aC)<|aa g)<|aa g) (aj (sv (aa g) (cE g (aa g) aC)<|aa g) ar)<|aj (sv (aa g) (cE g (aa g) aC)<|aa g) ar) ar)
theorem acZ:MY kA fk lY af kg lZ af af af fj 0 7:=fun G=>have g:=G.toGood;(xJ G (aQ g (aa g)<|gh aw) (aa g) aC)
theorem ac0:MY kA fk lY af kg lZ af af af fj 0 8:=by
 intro CX Γ X G;have g:=G.toGood;show PS X (.Return (some _) _) (cK Γ<|.ret _)
 with_reducible exact(aS<|aV g<|ag (aa g)<|ag aw<|ag (aQ g (aa g)<|gh aw) ak)
theorem ac1:MX kA fk lY af kg lZ af af af fj 0:=by
 intro CX Γ X G;have e:fE fk=[d9 fk 0,d9 fk 1,d9 fk 2,d9 fk 3,d9 fk 4,d9 fk 5,d9 fk 6,d9 fk 7,d9 fk 8]:=by kernel_rfl
 have e2:fj=[d_ fj 0,d_ fj 1,d_ fj 2,d_ fj 3,d_ fj 4,d_ fj 5,d_ fj 6,d_ fj 7,d_ fj 8]:=by kernel_rfl
 rw[e,e2]
 with_reducible exact aj (acS G) (aj (acT G)<|aj (acU G)<|aj (acV G)<|aj (acW G)<|aj (acX G)<|aj (acY G)<|aj (acZ G)<|aj (ac0 G)<|ar)
def NT:List Str:=["_law_e","_law_kinds"]
noncomputable def NU:List RS:=
 [.asg 1 (.lst [(.iP (.v 0) (.g 0)),(.iP (.v 0) (.g 1)),(.iP (.v 0) (.g 2)),(.iP (.v 0) (.g 3))]),
 .ite (.or [(.not<|.iP (.v 0)<|.c<|.ty "ValueError"),(.cmp .NotEq (.blt .len [(.comp none [] .list [.v 1] (some<|.v 0)<|.v 0)])<|.c<|.int 1)]) [.ret<|.c<|.str "another"] [],
 .ret (.ix (.lst [(.c (.str "node")),(.c (.str "place")),(.c (.str "change")),(.c (.str "fit"))]) (.bh .rS (.v 1) [(.c (.bl true))]))]
def ac2:List Str:=["NoNode","NoPlace","BadChange","BadFit"]
def ac3:List Str:=["isinstance","ValueError","len"]
def NV:Stmt:=bu 50
theorem ac4:MX NT NV af ac2 ac3 af af af af NU 1:=fun G=>have g:=G.toGood;(aj (aR G<|bJ<|ag (uO g (aa g)<|so g)<|ag (uO g (aa g)<|so g)<|ag (uO g (aa g)<|so g)<|ag (uO g (aa g)<|so g) ak)<|aj (a_ (PW.pt<|qe (fK<|VJ g<|uO g (aa g)<|VE g (by decide+kernel) (by decide) (by decide))<|qd<|aU g (abP g<|ag (abQ g (by kernel_rfl) (aa g) (p9 fun _ g=>(VI g<|aa g))<|fun _ g=>(aa g)) ak) aw) (aj (aS aC) ar) ar)<|aj (aS<|aQ g (bJ<|ag aC<|ag aC<|ag aC<|ag aC ak)<|cq g (aa g)<|ag dY ak) ar)
def NW:List Str:=["_law_history","_law_way_here","_law_node","_law_e"]
noncomputable def NX:List RS:=
 [.uD 4 3 0 [.ite (.cmp .Eq (.v 1) (.c (.int 0))) [.drop (.bz 0 "parent" (.v 0) [.v 2])] [.ite (.cmp .Eq (.v 1) (.c (.int 1))) [.drop (.bz 1 "children" (.v 0) [.v 2])] [.ite (.cmp .Eq (.v 1) (.c (.int 2))) [.drop (.bz 2 "size" (.v 0) [.v 2])] [.ite (.cmp .Eq (.v 1) (.c (.int 3))) [.drop (.bz 3 "go" (.v 0) [.v 2])] [.ite (.cmp .Eq (.v 1) (.c (.int 4))) [.drop (.bz 4 "way" (.v 0) [.v 2,(.c (.int 0))])] [.ite (.cmp .Eq (.v 1) (.c (.int 5))) [.drop (.bz 4 "way" (.v 0) [(.c (.int 0)),.v 2])] [.drop (.make 0 [.v 2])]]]]]]] [.ret (.uC 0 (.v 3))],
 .ret (.c (.str ""))]
def ac5:List Str:=["InkError"]
def ac6:List Str:=["parent","children","size","go","way"]
def ig:List Str:=["History"]
def ac7:List Str:=["_law_names"]
def NY:Stmt:=bu 51
theorem ac8:MX NW NY af ac5 af ac6 ig af ac7 NX 0:=fun G=>have g:=G.toGood;(aj (VO G (by kernel_rfl) (by kernel_rfl) (fun G=>(fun g=>(aj (a_ (aU g (aa g) aw) (aj (bG<|dr g (aa g)<|ag (aa g) ak) ar)<|aj (a_ (aU g (aa g) aw) (aj (bG<|dr g (aa g)<|ag (aa g) ak) ar)<|aj (a_ (aU g (aa g) aw) (aj (bG<|dr g (aa g)<|ag (aa g) ak) ar)<|aj (a_ (aU g (aa g) aw) (aj (bG<|dr g (aa g)<|ag (aa g) ak) ar)<|aj (a_ (aU g (aa g) aw) (aj (bG<|dr g (aa g)<|ag (aa g)<|ag aw ak) ar)<|aj (a_ (aU g (aa g) aw) (aj (bG<|dr g (aa g)<|ag aw<|ag (aa g) ak) ar)<|aj (bG<|xH g<|ag (aa g) ak) ar) ar) ar) ar) ar) ar) ar)) G.toGood)<|fun G=>(fun g=>(aj (aS<|VF g<|aa g) ar)) G.toGood)<|aj (aS aC) ar)
def NZ:List Str:=["_law_history","_law_rows","_law_cell","_law_node","_law_way_here","_law_asked_here"]
noncomputable def N1:List RS:=
 [.asg 3 (.blt .len [(.ba (.v 1) (.c (.str "above")))]),
 .j5 [4,5] .list [(.ba (.v 1)<|.c<|.str "early")] [.ite (.and [(.cmp .Lt (.v 5)<|.v 3),(.cmp .NotEq (.call 0 [.v 0,.v 4,.v 5])<|.c<|.str "")]) [.ret<|.c<|.bl false] []],
 .drop (.bh .append (.ba (.v 1)<|.c<|.str "early") [(.tup [(.ix (.lst [(.c<|.int 0),(.c<|.int 1),(.c<|.int 2),(.c<|.int 4),(.c<|.int 5)])<|.bin .Mod (.v 2)<|.c<|.int 5),.v 3])]),
 .ret (.cmp .Eq (.call 0 [.v 0,(.ix (.ix (.ba (.v 1) (.c (.str "early"))) (.neg (.c (.int 1)))) (.c (.int 0))),.v 3]) (.c (.str "node")))]
def ac9:List Str:=["_law_refused"]
def N2:Stmt:=bu 52
theorem ac_:MX NZ N2 ac9 af eT af af af af N1 0:=fun G=>have g:=G.toGood;(aj (aR G<|bY g<|ag (cE g (aa g) aC) ak)<|aj (sy [(_,_),(_,_)] G (hJ g<|cE g (aa g) aC)<|aj (a_ (PW.pt<|mX (aU g (aa g)<|aa g)<|p_<|aU g (aV g<|ag (aa g)<|ag (aa g)<|ag (aa g) ak) aC) (aj (aS dY) ar) ar) ar)<|aj (bG<|cq g (cE g (aa g) aC)<|ag (eR<|ag (aQ g (bJ<|ag aw<|ag aw<|ag aw<|ag aw<|ag aw ak)<|aF g (aa g) aw)<|ag (aa g) ak) ak)<|aj (aS<|jh g (aV g<|ag (aa g)<|ag (aQ g (aQ g (cE g (aa g) aC)<|gh aw) aw)<|ag (aa g) ak) aC) ar)
def ij:List Str:=["_law_script","_law_text","_law_history","_law_rows","_law_another","_law_others","_law_cell","_law_strange","_law_none"]
noncomputable def cy:List RS:=
 [.asg 1 (.call 0 [(.call 1 [.v 0,(.c (.int 0))])]),
 .asg 2 (.make 0 [(.blt .len [.v 1])]),
 .asg 3 (.xt oH [(.c<|.str "above"),(.lst [.c .az]),(.c<|.str "latest"),(.lst [.c .az]),(.c<|.str "texts"),(.lst [.v 1]),(.c<|.str "here"),(.c<|.int 0),(.c<|.str "held"),(.lst []),(.c<|.str "early"),(.lst [])]),
 .asg 4 (.make 0 [(.c<|.int 7)]),
 .asg 5 (.xt oH [(.c<|.str "above"),(.lst [.c .az]),(.c<|.str "latest"),(.lst [.c .az]),(.c<|.str "texts"),(.lst [(.c<|.str "beside\n")]),(.c<|.str "here"),(.c<|.int 0),(.c<|.str "held"),(.lst [])]),
 .ite (.not<|.call 2 [.v 2,.v 3,(.c<|.int 0)]) [.ret<|.c<|.bl false] [],
 .j0 6 .list [(.sl (.v 0) (some (.c (.int 3))) (some (.c (.int 17))))] [.ite (.or [(.not (.call 3 [.v 2,.v 3,.v 6])),(.not (.call 3 [.v 4,.v 5,(.bin .FloorDiv (.v 6) (.c (.int 5)))]))]) [.ret (.c (.bl false))] [],
  .ite (.and [(.cmp .Eq (.bin .Mod (.bin .FloorDiv (.v 6)<|.c<|.int 512)<|.c<|.int 2)<|.c<|.int 0),(.not<|.call 4 [.v 2,.v 3,(.bin .FloorDiv (.v 6)<|.c<|.int 1024)])]) [.ret<|.c<|.bl false] [],
  .ite (.not (.call 2 [.v 2,.v 3,(.bin .FloorDiv (.v 6) (.c (.int 64)))])) [.ret (.c (.bl false))] []],
 .ite (.not<|.call 2 [.v 4,.v 5,(.call 1 [.v 0,(.c<|.int 2)])]) [.ret<|.c<|.bl false] [],
 .asg 6 (.call 1 [.v 0,(.c<|.int 1)]),
 .asg 7 (.lst [(.bin .Sub (.neg<|.c<|.int 1)<|.bin .Mod (.bin .FloorDiv (.v 6)<|.c<|.int 56)<|.c<|.int 9),(.bin .Add (.blt .len [(.ba (.v 3)<|.c<|.str "above")])<|.bin .Mod (.bin .FloorDiv (.v 6)<|.c<|.int 56)<|.c<|.int 9),(.c<|.bl true),(.c<|.bl false),.c .az,(.c<|.str "0"),(.lst [(.c<|.int 0)]),(.bin .Pow (.c<|.int 10)<|.c<|.int 9)]),
 .ite (.cmp .NotEq (.call 5 [.v 2,(.bin .Mod (.v 6)<|.c<|.int 6),(.ix (.v 7)<|.bin .Mod (.bin .FloorDiv (.v 6)<|.c<|.int 6)<|.c<|.int 8)])<|.c<|.str "node") [.ret<|.c<|.bl false] [],
 .asg 8 (.ix (.lst [(.bin .Sub (.neg<|.c<|.int 1)<|.bin .Mod (.bin .FloorDiv (.v 6)<|.c<|.int 56)<|.c<|.int 9),(.c<|.bl true),(.c<|.bl false),.c .az,(.c<|.str "0"),(.lst [(.c<|.int 0)])])<|.bin .Mod (.bin .FloorDiv (.v 6)<|.c<|.int 6)<|.c<|.int 6),
 .ite (.or [(.cmp .NotEq (.call 5 [.v 2,(.c<|.int 6),.v 8])<|.c<|.str "place"),(.not<|.call 2 [.v 2,.v 3,(.bin .FloorDiv (.v 6)<|.c<|.int 56)])]) [.ret<|.c<|.bl false] [],
 .ret (.cmp .Eq (.comp none [] .list [(.bin .Add (.ba (.v 3) (.c (.str "held"))) (.ba (.v 5) (.c (.str "held"))))] (some (.cmp .NotEq (.ix (.v 0) (.c (.int 0))) (.ix (.v 0) (.c (.int 1))))) (.v 0)) (.lst []))]
def iI:List Str:=["_law_text_by","_law_cell_at","_law_stands","_law_deed","_law_early","_law_refused"]
def cW:Stmt:=bu 53
theorem ada:MY ij cW iI af eT af ig af af cy 0 0:=by
 intro CX Γ X G;have g:=G.toGood;show PS X (.Assign [.Name "_law_text" _] _ _) (cK Γ<|.asg 1 _)
 with_reducible exact(aR G<|aV g<|ag (aV g<|ag (aa g)<|ag aw ak) ak)
theorem adb:MY ij cW iI af eT af ig af af cy 0 1:=by
 intro CX Γ X G;have g:=G.toGood;show PS X (.Assign [.Name "_law_history" _] _ _) (cK Γ<|.asg 2 _)
 with_reducible exact(aR G<|xH g<|ag (bY g<|ag (aa g) ak) ak)
theorem ade:MY ij cW iI af eT af ig af af cy 0 2:=by
 intro CX Γ X G;have g:=G.toGood;show PS X (.Assign [.Name "_law_rows" _] _ _) (cK Γ<|.asg 3 _)
 with_reducible exact(aR G<|Ik<|kf aC (bJ<|ag iU ak)<|kf aC (bJ<|ag iU ak)<|kf aC (bJ<|ag (aa g) ak)<|kf aC aw<|kf aC (bJ ak)<|kf aC (bJ ak) Ii)
theorem adf:MY ij cW iI af eT af ig af af cy 0 3:=by
 intro CX Γ X G;have g:=G.toGood;show PS X (.Assign [.Name "_law_another" _] _ _) (cK Γ<|.asg 4 _)
 with_reducible exact(aR G<|xH g<|ag aw ak)
theorem adg:MY ij cW iI af eT af ig af af cy 0 4:=by
 intro CX Γ X G;have g:=G.toGood;show PS X (.Assign [.Name "_law_others" _] _ _) (cK Γ<|.asg 5 _)
 with_reducible exact(aR G<|Ik<|kf aC (bJ<|ag iU ak)<|kf aC (bJ<|ag iU ak)<|kf aC (bJ<|ag aC ak)<|kf aC aw<|kf aC (bJ ak) Ii)
theorem adh:MY ij cW iI af eT af ig af af cy 0 5:=fun G=>have g:=G.toGood;(a_ (fK<|gJ g<|aV g<|ag (aa g)<|ag (aa g)<|ag aw ak) (aj (aS dY) ar) ar)
theorem adi:MY ij cW iI af eT af ig af af cy 0 6:=fun G=>have g:=G.toGood;(qf G (hJ g<|kd g (aa g) (g_ aw)<|g_ aw)<|aj (a_ (PW.pt<|qe (fK<|gJ g<|aV g<|ag (aa g)<|ag (aa g)<|ag (aa g) ak)<|qd<|fK<|gJ g<|aV g<|ag (aa g)<|ag (aa g)<|ag (aF g (aa g) aw) ak) (aj (aS dY) ar) ar)<|aj (a_ (PW.pt<|mX (aU g (aF g (aF g (aa g) aw) aw) aw)<|p_<|fK<|gJ g<|aV g<|ag (aa g)<|ag (aa g)<|ag (aF g (aa g) aw) ak) (aj (aS dY) ar) ar)<|aj (a_ (fK<|gJ g<|aV g<|ag (aa g)<|ag (aa g)<|ag (aF g (aa g) aw) ak) (aj (aS dY) ar) ar) ar)
theorem adj:MY ij cW iI af eT af ig af af cy 0 7:=fun G=>have g:=G.toGood;(a_ (fK<|gJ g<|aV g<|ag (aa g)<|ag (aa g)<|ag (aV g<|ag (aa g)<|ag aw ak) ak) (aj (aS dY) ar) ar)
theorem adk:MY ij cW iI af eT af ig af af cy 0 8:=by
 intro CX Γ X G;have g:=G.toGood;show PS X (.Assign [.Name "_law_cell" _] _ _) (cK Γ<|.asg 6 _)
 with_reducible exact(aR G<|aV g<|ag (aa g)<|ag aw ak)
theorem adl:MY ij cW iI af eT af ig af af cy 0 9:=by
 intro CX Γ X G;have g:=G.toGood;show PS X (.Assign [.Name "_law_strange" _] _ _) (cK Γ<|.asg 7 _)
 with_reducible exact(aR G<|bJ<|ag (aF g (gh aw)<|aF g (aF g (aa g) aw) aw)<|ag (aF g (bY g<|ag (cE g (aa g) aC) ak)<|aF g (aF g (aa g) aw) aw)<|ag dY<|ag dY<|ag iU<|ag aC<|ag (bJ<|ag aw ak)<|ag (aF g aw aw) ak)
theorem adm:MY ij cW iI af eT af ig af af cy 0 10:=fun G=>have g:=G.toGood;(a_ (aU g (aV g<|ag (aa g)<|ag (aF g (aa g) aw)<|ag (aQ g (aa g)<|aF g (aF g (aa g) aw) aw) ak) aC) (aj (aS dY) ar) ar)
theorem adn:MY ij cW iI af eT af ig af af cy 0 11:=by
 intro CX Γ X G;have g:=G.toGood;show PS X (.Assign [.Name "_law_none" _] _ _) (cK Γ<|.asg 8 _)
 with_reducible exact(aR G<|aQ g (bJ<|ag (aF g (gh aw)<|aF g (aF g (aa g) aw) aw)<|ag dY<|ag dY<|ag iU<|ag aC<|ag (bJ<|ag aw ak) ak)<|aF g (aF g (aa g) aw) aw)
theorem ado:MY ij cW iI af eT af ig af af cy 0 12:=fun G=>have g:=G.toGood;(a_ (PW.pt<|qe (aU g (aV g<|ag (aa g)<|ag aw<|ag (aa g) ak) aC)<|qd<|fK<|gJ g<|aV g<|ag (aa g)<|ag (aa g)<|ag (aF g (aa g) aw) ak) (aj (aS dY) ar) ar)
theorem adp:MY ij cW iI af eT af ig af af cy 0 13:=by
 intro CX Γ X G;have g:=G.toGood;show PS X (.Return (some _) _) (cK Γ<|.ret _)
 with_reducible exact(aS<|jh g (mW (ln:=["_law_pair"]) g (by kernel_rfl) (hJ g<|aF g (cE g (aa g) aC)<|cE g (aa g) aC) (p9 fun _ g=>(aU g (aQ g (aa g) aw)<|aQ g (aa g) aw))<|fun _ g=>(aa g))<|bJ ak)
theorem adq:MX ij cW iI af eT af ig af af cy 0:=by
 intro CX Γ X G;have e:fE cW=[d9 cW 0,d9 cW 1,d9 cW 2,d9 cW 3,d9 cW 4,d9 cW 5,d9 cW 6,d9 cW 7,d9 cW 8,d9 cW 9,d9 cW 10,d9 cW 11,d9 cW 12,d9 cW 13]:=by kernel_rfl
 have e2:cy=[d_ cy 0,d_ cy 1,d_ cy 2,d_ cy 3,d_ cy 4,d_ cy 5,d_ cy 6,d_ cy 7,d_ cy 8,d_ cy 9,d_ cy 10,d_ cy 11,d_ cy 12,d_ cy 13]:=by kernel_rfl
 rw[e,e2]
 with_reducible exact aj (ada G) (aj (adb G)<|aj (ade G)<|aj (adf G)<|aj (adg G)<|aj (adh G)<|aj (adi G)<|aj (adj G)<|aj (adk G)<|aj (adl G)<|aj (adm G)<|aj (adn G)<|aj (ado G)<|aj (adp G)<|ar)
end L2.q9
namespace L2.q9
open PySem PySem.Spec L2.B L2.N
structure Rw where
 r0:Addr
 ab:Addr
 la:Addr
 tx:Addr
 hd:Addr
 ea:Option Addr
def Rw.own(r:Rw):List Addr:=r.r0::r.ab::r.la::r.tx::r.hd::r.ea.toList
def D2:Option Addr->List (Key×V)
 |none=>[]
 |some e=>[(.inr "early",.ref e)]
def cN(r:Rw)(wn:Nat):List (Key×V):=(.inr "above",.ref r.ab)::(.inr "latest",.ref r.la)::(.inr "texts",.ref r.tx)::(.inr "here",.int (wn:Nat))::(.inr "held",.ref r.hd)::D2 r.ea
section
variable {r:Rw}{wn:Nat}
theorem ik{a b:Str}(h:¬a=b):¬((Sum.inr a:Key),v).1=Sum.inr b:=fun z=>h (Sum.inr.inj z)
theorem kD:fG (cN r wn) (.inr "above")=some (.ref r.ab):=mD rfl
theorem q_:fG (cN r wn) (.inr "latest")=some (.ref r.la):=(fR<|ik (by decide+kernel)).trans (mD rfl)
theorem D3:fG (cN r wn) (.inr "texts")=some (.ref r.tx):=(fR<|ik (by decide+kernel)).trans ((fR<|ik (by decide+kernel)).trans<|mD rfl)
theorem vS:fG (cN r wn) (.inr "here")=some (.int (wn:Nat)):=(fR<|ik (by decide+kernel)).trans ((fR<|ik (by decide+kernel)).trans<|(fR<|ik (by decide+kernel)).trans<|mD rfl)
theorem D4:fG (cN r wn) (.inr "held")=some (.ref r.hd):=(fR<|ik (by decide+kernel)).trans ((fR<|ik (by decide+kernel)).trans<|(fR<|ik (by decide+kernel)).trans<|(fR<|ik (by decide+kernel)).trans<|mD rfl)
theorem D5{e:Addr}(h:r.ea=some e):fG (cN r wn) (.inr "early")=some (.ref e):=by
 refine(fR<|ik (by decide+kernel)).trans<|(fR<|ik (by decide+kernel)).trans<|(fR<|ik (by decide+kernel)).trans<|(fR<|ik (by decide+kernel)).trans<|(fR<|ik (by decide+kernel)).trans ?_
 rw[h];exact mD rfl
theorem zr{k:Nat}:putK (cN r wn) (.inr "here") (V.int (k:Nat))=cN r k:=by
 have d1:¬("above":Str)="here":=by decide+kernel
 have d2:¬("latest":Str)="here":=by decide+kernel
 have d3:¬("texts":Str)="here":=by decide+kernel
 have d4:¬("held":Str)="here":=by decide+kernel
 have d5:¬("early":Str)="here":=by decide+kernel
 cases h:r.ea with
 |none=>
  unfold putK cN;rw[h];unfold D2
  simp[d1,d2,d3,d4]
 |some e=>
  unfold putK cN;rw[h];unfold D2
  simp[d1,d2,d3,d4,d5]
theorem zt:(cN r wn).length<sizeLine:=dJ (by cases h:r.ea with
 |none=>unfold cN;rw[h];show 5<=1000000;decide
 |some e=>unfold cN;rw[h];show 6<=1000000;decide)
end
section
variable {Γ:bx}{D:Ends}{σ:St}{H:Hp}{r:List RS}{Q:VK}{i:Nat}{w:Addr}{f:Str}{kvs:List (Key×V)}{v:V}
theorem cO(hσ:σ[i]?=some (some<|.ref w))(hr:H w=some (.dK kvs))(hv:fG kvs (.inr f)=some v)(q:Q v H):ah Γ (.ba (.v i)<|.c<|.str f) σ H Q:=⟨_,hσ,w,v,rfl,.inl ⟨kvs,.inr f,.inl hr,rfl,hv.symm⟩,q⟩
theorem zu(h:ah Γ e σ H fun v H1=>ah Γ (.v i) σ H1 fun x H2=>∃a H4,x=.ref a/\wL H2 a (.str f) v H4/\ay Γ r D σ H4):ay Γ (.dput (.v i) (.c<|.str f) e::r) D σ H:=h
theorem zv(hσ:σ[i]?=some (some<|.ref w))(h1:H w=some (.dK kvs))(h2:kvs.length<sizeLine)(h3:ay Γ r D σ (upd H w<|.dK<|putK kvs (.inr f) v)):ah Γ (.v i) σ H fun x H2=>∃a H4,x=.ref a/\wL H2 a (.str f) v H4/\ay Γ r D σ H4:=
 ⟨_,hσ,w,_,rfl,.inl ⟨kvs,.inr f,h1,rfl,h2,rfl⟩,h3⟩
end
def rf(hs:List Addr)(H:Hp)(v:V):Prop:= ∃t a b ns,v=.ref t/\H t=some (.tup [.ref a,.ref b])/\a∈hs/\b∈hs/\H a=some (.lst<|iV ns)/\H b=some (.lst<|iV ns)
theorem rf.mono{hs qC:List Addr}(h:rf hs H v)(k:∀y o,y∈hs->H y=some o->H' y=some o)(tu:d6 H H')(s:∀y∈hs,y∈qC):rf qC H' v:=by
 obtain⟨t,a,b,ns,e,ht,ia,ib,ha,hb⟩:=h;exact⟨t,a,b,ns,e,tu _ _ ht,s _ ia,s _ ib,k _ _ ia ha,k _ _ ib hb⟩
def nP(H:Hp)(v:V):Prop:= ∃(t:Addr) (w k:Nat),v=.ref t/\H t=some (.tup [.int (w:Nat),.int (k:Nat)])/\(w=0\/w=1\/w=2\/w=4\/w=5)
theorem nP.mono(h:nP H v)(tu:d6 H H'):nP H' v:=by
 obtain⟨t,w,k,e,ht,hw⟩:=h;exact⟨t,w,k,e,tu _ _ ht,hw⟩
structure Rows (H:Hp) (r:Rw) (hs:List Addr) (hr:Nat) (ps aW:List (Option Nat)) (bF:List Str) (b n:Nat):Prop where
 r1:H r.r0=some (.dK<|cN r hr)
 r2:H r.ab=some (.lst<|ps.map gV)
 r3:H r.la=some (.lst<|aW.map gV)
 r4:H r.tx=some (.lst<|bF.map V.str)
 r5:∃held,H r.hd=some (.lst held)/\held.length<=b/\∀v∈held,rf hs H v
 r6:∀e,r.ea=some e->∃es,H e=some (.lst es)/\es.length<=n/\∀v∈es,nP H v
 nd:r.own.Nodup
 hl:∀a∈hs,a∉r.own/\∃xs,H a=some (.lst xs)
section
variable {H H':Hp}{r:Rw}{hs:List Addr}{hr:Nat}{ps aW:List (Option Nat)}{bF:List Str}{b n:Nat}
theorem Rw.ne(nd:r.own.Nodup):(r.r0≠r.ab/\r.r0≠r.la/\r.r0≠r.tx/\r.r0≠r.hd/\r.ab≠r.la/\r.ab≠r.tx/\r.ab≠r.hd/\r.la≠r.tx/\r.la≠r.hd/\r.tx≠r.hd)/\∀e,r.ea=some e->e≠r.r0/\e≠r.ab/\e≠r.la/\e≠r.tx/\e≠r.hd:=by
 unfold Rw.own at nd
 simp only[zaL,zac,not_or] at nd
 obtain⟨⟨a1,a2,a3,a4,a5⟩,⟨b2,b3,b4,b5⟩,⟨c3,c4,c5⟩,⟨d4,d5⟩,e5,_⟩:=nd;refine⟨⟨a1,a2,a3,a4,b2,b3,b4,c3,c4,d4⟩,fun e h=>?_⟩;rw[h] at a5 b5 c5 d5 e5
 simp only[Option.toList_some,zad] at a5 b5 c5 d5 e5
 exact⟨Ne.symm a5,Ne.symm b5,Ne.symm c5,Ne.symm d5,Ne.symm e5⟩
theorem Rw.mem{y:Addr}(h:y∈r.own):y=r.r0\/y=r.ab\/y=r.la\/y=r.tx\/y=r.hd\/r.ea=some y:=by
 unfold Rw.own at h
 simp only[zac,Option.mem_toList,Option.mem_def] at h
 exact h
theorem Rw.ins:r.r0∈r.own/\r.ab∈r.own/\r.la∈r.own/\r.tx∈r.own/\r.hd∈r.own/\∀e,r.ea=some e->e∈r.own:=by
 unfold Rw.own
 simp only[zac,Option.mem_toList,Option.mem_def]
 simp
 exact fun e h=>.inr<|.inr<|.inr<|.inr<|.inr h
theorem Rows.keep(A:Rows H r hs hr ps aW bF b n)(k:∀y o,y∈hs\/y∈r.own->H y=some o->H' y=some o)(tu:d6 H H'):Rows H' r hs hr ps aW bF b n:=by
 obtain⟨i1,i2,i3,i4,i5,i6⟩:=Rw.ins (r:=r);obtain⟨held,h1,h2,h3⟩:=A.r5;refine⟨k _ _ (.inr i1) A.r1,k _ _ (.inr i2) A.r2,k _ _ (.inr i3) A.r3,k _ _ (.inr i4) A.r4,⟨held,k _ _ (.inr i5) h1,h2,fun v hv=>(h3 v hv).mono (fun y o h e=>k y o (.inl h) e) tu fun y h=>h⟩,fun e he=>?_,A.nd,fun a ha=>⟨(A.hl a ha).1,?_⟩⟩
 ·obtain⟨es,g1,g2,g3⟩:=A.r6 e he;exact⟨es,k _ _ (.inr<|i6 e he) g1,g2,fun v hv=>(g3 v hv).mono tu⟩
 ·obtain⟨xs,e⟩:=(A.hl a ha).2;exact⟨xs,k _ _ (.inl ha) e⟩
theorem Rows.live(A:Rows H r hs hr ps aW bF b n):h_ r.own H:=fun y h=>by
 rcases Rw.mem h with rfl|rfl|rfl|rfl|rfl|h
 ·exact⟨_,A.r1,fun ys e=>by cases e⟩
 ·exact⟨_,A.r2,fun ys e=>by cases e⟩
 ·exact⟨_,A.r3,fun ys e=>by cases e⟩
 ·exact⟨_,A.r4,fun ys e=>by cases e⟩
 ·obtain⟨held,h1,_⟩:=A.r5;exact⟨_,h1,fun ys e=>by cases e⟩
 ·obtain⟨es,h1,_⟩:=A.r6 y h;exact⟨_,h1,fun ys e=>by cases e⟩
theorem Rows.dZ(A:Rows H r hs hr ps aW bF b n){c:Addr}(hc:c∈r.own){o:HO}:(∀v,rf hs H v->rf hs (upd H c o) v)/\(∀v,nP H v->nP (upd H c o) v)/\∀a∈hs,a∉r.own/\∃xs,upd H c o a=some (.lst xs):=by
 have tu:d6 H (upd H c o):=A.live.bC (bf.upd hc);have ne:∀y∈hs,y≠c:=fun y h z=>(A.hl y h).1 (by rw[z];exact hc)
 refine⟨fun v h=>h.mono (fun y o' hy e=>aH (ne y hy) e) tu fun y h=>h,fun v h=>h.mono tu,fun a ha=>⟨(A.hl a ha).1,?_⟩⟩;obtain⟨xs,e⟩:=(A.hl a ha).2;exact⟨xs,aH (ne a ha) e⟩
theorem Rows.pab(A:Rows H r hs hr ps aW bF b n)(iX:List (Option Nat)):Rows (upd H r.ab<|.lst<|iX.map gV) r hs hr iX aW bF b n:=by
 obtain⟨⟨n1,n2,n3,n4,n5,n6,n7,n8,n9,l7⟩,ne⟩:=Rw.ne A.nd;obtain⟨x1,x2,x3⟩:=A.dZ (c:=r.ab) Rw.ins.2.1 (o:=.lst (iX.map gV));obtain⟨held,h1,h2,h3⟩:=A.r5;refine⟨aH n1 A.r1,ax,aH (Ne.symm n5) A.r3,aH (Ne.symm n6) A.r4,⟨held,aH (Ne.symm n7) h1,h2,fun v hv=>x1 v<|h3 v hv⟩,fun e he=>?_,A.nd,x3⟩;obtain⟨es,g1,g2,g3⟩:=A.r6 e he;exact⟨es,aH (ne e he).2.1 g1,g2,fun v hv=>x2 v<|g3 v hv⟩
theorem Rows.vT(A:Rows H r hs hr ps aW bF b n)(rg:List (Option Nat)):Rows (upd H r.la<|.lst<|rg.map gV) r hs hr ps rg bF b n:=by
 obtain⟨⟨n1,n2,n3,n4,n5,n6,n7,n8,n9,l7⟩,ne⟩:=Rw.ne A.nd;obtain⟨x1,x2,x3⟩:=A.dZ (c:=r.la) Rw.ins.2.2.1 (o:=.lst (rg.map gV));obtain⟨held,h1,h2,h3⟩:=A.r5;refine⟨aH n2 A.r1,aH n5 A.r2,ax,aH (Ne.symm n8) A.r4,⟨held,aH (Ne.symm n9) h1,h2,fun v hv=>x1 v<|h3 v hv⟩,fun e he=>?_,A.nd,x3⟩;obtain⟨es,g1,g2,g3⟩:=A.r6 e he;exact⟨es,aH (ne e he).2.2.1 g1,g2,fun v hv=>x2 v<|g3 v hv⟩
theorem Rows.ptx(A:Rows H r hs hr ps aW bF b n)(D6:List Str):Rows (upd H r.tx<|.lst<|D6.map V.str) r hs hr ps aW D6 b n:=by
 obtain⟨⟨n1,n2,n3,n4,n5,n6,n7,n8,n9,l7⟩,ne⟩:=Rw.ne A.nd;obtain⟨x1,x2,x3⟩:=A.dZ (c:=r.tx) Rw.ins.2.2.2.1 (o:=.lst (D6.map V.str));obtain⟨held,h1,h2,h3⟩:=A.r5;refine⟨aH n3 A.r1,aH n6 A.r2,aH n8 A.r3,ax,⟨held,aH (Ne.symm l7) h1,h2,fun v hv=>x1 v<|h3 v hv⟩,fun e he=>?_,A.nd,x3⟩;obtain⟨es,g1,g2,g3⟩:=A.r6 e he;exact⟨es,aH (ne e he).2.2.2.1 g1,g2,fun v hv=>x2 v<|g3 v hv⟩
theorem Rows.zw(A:Rows H r hs hr ps aW bF b n)(k:Nat):Rows (upd H r.r0<|.dK<|cN r k) r hs k ps aW bF b n:=by
 obtain⟨⟨n1,n2,n3,n4,n5,n6,n7,n8,n9,l7⟩,ne⟩:=Rw.ne A.nd;obtain⟨x1,x2,x3⟩:=A.dZ (c:=r.r0) Rw.ins.1 (o:=.dK (cN r k));obtain⟨held,h1,h2,h3⟩:=A.r5;refine⟨ax,aH (Ne.symm n1) A.r2,aH (Ne.symm n2) A.r3,aH (Ne.symm n3) A.r4,⟨held,aH (Ne.symm n4) h1,h2,fun v hv=>x1 v<|h3 v hv⟩,fun e he=>?_,A.nd,x3⟩;obtain⟨es,g1,g2,g3⟩:=A.r6 e he;exact⟨es,aH (ne e he).1 g1,g2,fun v hv=>x2 v<|g3 v hv⟩
theorem Rows.phd(A:Rows H r hs hr ps aW bF b n){t c d:Addr}{ns:List Nat}{held:List V}(hh:H r.hd=some (.lst held))(hb:held.length<=b)(hv:∀v∈held,rf hs H v)(ht:H t=some (.tup [.ref c,.ref d]))(hc:H c=some (.lst<|iV ns))(hd:H d=some (.lst<|iV ns))(nc:c∉r.own)(nd:d∉r.own):Rows (upd H r.hd<|.lst<|held++[.ref t]) r (hs++[c,d]) hr ps aW bF (b+1) n:=by
 obtain⟨⟨n1,n2,n3,n4,n5,n6,n7,n8,n9,l7⟩,ne⟩:=Rw.ne A.nd;have ih:r.hd∈r.own:=Rw.ins.2.2.2.2.1;obtain⟨x1,x2,x3⟩:=A.dZ (c:=r.hd) ih (o:=.lst (held++[.ref t]));have tu:d6 H (upd H r.hd<|.lst<|held++[.ref t]):=A.live.bC (bf.upd ih);have c':=aH (o':=.lst (held++[.ref t])) (show c≠r.hd from fun z=>nc (by rw[z];exact ih)) hc
 have d':=aH (o':=.lst (held++[.ref t])) (show d≠r.hd from fun z=>nd (by rw[z];exact ih)) hd
 refine⟨aH n4 A.r1,aH n7 A.r2,aH n9 A.r3,aH l7 A.r4,⟨_,ax,by rw[zqA];show held.length+1<=_;lia,fun v h=>?_⟩,fun e he=>?_,A.nd,fun a ha=>?_⟩
 ·rcases zaa.mp h with h|h
  ·exact(x1 v<|hv v h).mono (fun _ _ _ e=>e) (fun _ _ e=>e) fun y h=>zaA _ h
  ·rw[zad.mp h];exact⟨t,c,d,ns,rfl,tu _ _ ht,by simp,by simp,c',d'⟩
 ·obtain⟨es,g1,g2,g3⟩:=A.r6 e he;exact⟨es,aH (ne e he).2.2.2.2 g1,g2,fun v hv=>x2 v<|g3 v hv⟩
 ·rcases zaa.mp ha with ha|ha
  ·exact x3 a ha
  ·simp only[zac,zaj,or_false] at ha
   rcases ha with rfl|rfl
   ·exact⟨nc,_,c'⟩
   ·exact⟨nd,_,d'⟩
theorem Rows.pea(A:Rows H r hs hr ps aW bF b n){e t:Addr}{es:List V}(he:r.ea=some e)(h1:H e=some (.lst es))(h2:es.length<=n)(h3:∀v∈es,nP H v)(ht:nP H (.ref t)):Rows (upd H e<|.lst<|es++[.ref t]) r hs hr ps aW bF b (n+1):=by
 obtain⟨⟨n1,n2,n3,n4,n5,n6,n7,n8,n9,l7⟩,ne⟩:=Rw.ne A.nd;obtain⟨m1,m2,m3,m4,m5⟩:=ne e he;obtain⟨x1,x2,x3⟩:=A.dZ (c:=e) (Rw.ins.2.2.2.2.2 e he) (o:=.lst (es++[.ref t]));obtain⟨held,g1,g2,g3⟩:=A.r5;refine⟨aH (Ne.symm m1) A.r1,aH (Ne.symm m2) A.r2,aH (Ne.symm m3) A.r3,aH (Ne.symm m4) A.r4,⟨held,aH (Ne.symm m5) g1,g2,fun v hv=>x1 v<|g3 v hv⟩,fun e' N3=>?_,A.nd,x3⟩;rw[he] at N3;cases N3;refine⟨_,ax,by rw[zqA];show es.length+1<=_;lia,fun v hv=>x2 v ?_⟩
 rcases zaa.mp hv with hv|hv
 ·exact h3 v hv
 ·rw[zad.mp hv];exact ht
theorem Rows.up(A:Rows H r hs hr ps aW bF b n){b' n':Nat}(hb:b<=b')(hn:n<=n'):Rows H r hs hr ps aW bF b' n':=by
 obtain⟨held,h1,h2,h3⟩:=A.r5;refine⟨A.r1,A.r2,A.r3,A.r4,⟨held,h1,by lia,h3⟩,fun e he=>?_,A.nd,A.hl⟩
 obtain⟨es,g1,g2,g3⟩:=A.r6 e he;exact⟨es,g1,by lia,g3⟩
end
structure Fo where
 M:List Addr
 Ed:List Addr
 hs:List Addr
structure Va where
 wn:Nat
 ww:List (Option Nat)
 bF:List Str
 aW:List (Option Nat)
 b_:List (Option Nat)
def l8(F:Fo)(r:Rw)(y:Addr):Prop:=y∈F.M\/y∈F.Ed\/y∈F.hs\/y∈r.own
structure bg (C:Addr) (H:Hp) (hp:Addr) (r:Rw) (F:Fo) (v:Va) (b n:Nat):Prop where
 hi:cc C H hp F.M F.Ed v.wn v.ww (v.bF.map fun x=>x.cps.toList) v.b_ 28
 rs:Rows H r F.hs v.wn v.ww v.aW v.bF b n
 dj:∀a,a∈F.hs\/a∈r.own->a∉F.M/\a∉F.Ed
 gd:∀x∈v.bF,good x/\x.length<=400+16*n
 sz:v.ww.length<=n+1
 re:i_ v.ww v.wn v.aW v.b_
structure Go (H H':Hp) (r:Rw) (F F':Fo):Prop where
 bb:bf (F.M++r.own) H H'
 lv:∀y,H' y=none->H y=none
 fM:∀y∈F'.M,y∈F.M\/H y=none
 fo:∀y,y∈F'.Ed\/y∈F'.hs->y∈F.Ed\/y∈F.hs\/H y=none
theorem Go.of{r:Rw}{F:Fo}(s:aA H H'):Go H H' r F F:=⟨bf.of s,fun _ h=>s.free h,fun _ h=>.inl h,fun _ h=>by
 rcases h with h|h
 ·exact .inl h
 ·exact .inr (.inl h)⟩
theorem Go.trans{r:Rw}{F F1 F2:Fo}(a:Go H H1 r F F1)(b:Go H1 H2 r F1 F2):Go H H2 r F F2:=by
 refine⟨fun y o e ne=>b.bb y o (a.bb y o e ne) fun h=>?_,fun y h=>a.lv y<|b.lv y h,fun y h=>?_,fun y h=>?_⟩
 ·rcases zaa.mp h with h|h
  ·rcases a.fM y h with h|h
   ·exact ne (zaA _ h)
   ·rw[h] at e;cases e
  ·exact ne (zau _ h)
 ·rcases b.fM y h with h|h
  ·exact a.fM y h
  ·exact .inr (a.lv y h)
 ·rcases b.fo y h with h|h|h
  ·exact a.fo y (.inl h)
  ·exact a.fo y (.inr h)
  ·exact .inr (.inr<|a.lv y h)
section
variable {C:Addr}{H H':Hp}{hp:Addr}{r:Rw}{F F':Fo}{v v':Va}{b n:Nat}
theorem cc.dU{M Ed:List Addr}{wn:Nat}{ww:List (Option Nat)}{b_:List (Option Nat)}{T:Nat}(A:cc C H hp M Ed wn ww aJ b_ T):dR ww/\wn<ww.length/\aJ.length=ww.length/\h_ M H:=by
 obtain⟨dx,lo,pa,ed,be,lg,bs,es,A⟩:=A;have:=A.ob.ln;rw[zab] at this;exact⟨A.ob.tr,A.ob.hr,this,A.live⟩
theorem bg.iG(S:bg C H hp r F v b n):v.bF.length=v.ww.length:=by
 have:=(cc.dU S.hi).2.2.1;rw[zab] at this;exact this
theorem bg.keep(S:bg C H hp r F v b n)(k:∀y o,l8 F r y->H y=some o->H' y=some o)(tu:d6 H H'):bg C H' hp r F v b n:=
 ⟨S.hi.keep (fun y o h e=>k y o (by rcases h with h|h;exact .inl h;exact .inr (.inl h)) e) tu,S.rs.keep (fun y o h e=>k y o (.inr<|.inr h) e) tu,S.dj,S.gd,S.sz,S.re⟩
theorem bg.same(S:bg C H hp r F v b n)(s:aA H H'):bg C H' hp r F v b n:=S.keep (fun _ _ _ e=>s _ _ e) (df s)
theorem bg.there(S:bg C H hp r F v b n){y:Addr}(f:H y=none):¬l8 F r y:=fun h=>by
 have o:=S.hi.own f;rcases h with h|h|h|h
 ·exact o.1 h
 ·exact o.2 h
 ·obtain⟨xs,e⟩:=(S.rs.hl y h).2;rw[f] at e;cases e
 ·exact S.rs.live.no f h
theorem bg.live(S:bg C H hp r F v b n):h_ (F.M++r.own) H:=fun x h=>by
 rcases zaa.mp h with h|h
 ·exact(cc.dU S.hi).2.2.2 x h
 ·exact S.rs.live x h
theorem bg.up(S:bg C H hp r F v b n){b' n':Nat}(hb:b<=b')(hn:n<=n'):bg C H hp r F v b' n':=
 ⟨S.hi,S.rs.up hb hn,S.dj,fun x hx=>⟨(S.gd x hx).1,by have:=(S.gd x hx).2;lia⟩,by have:=S.sz;lia,S.re⟩
theorem bg.N4{kY:Addr}{r2:Rw}{F2:Fo}{v2:Va}{b2:Nat}(S:bg C H hp r F v b n)(S2:bg C H kY r2 F2 v2 b2 n2)(ap:∀y,l8 F r y-> ¬l8 F2 r2 y){F':Fo}(g:Go H H' r F F'):bg C H' kY r2 F2 v2 b2 n2/\∀y,l8 F' r y-> ¬l8 F2 r2 y:=by
 refine⟨S2.keep (fun y o h e=>g.bb y o e fun z=>?_)<|S.live.bC g.bb,fun y h=>?_⟩
 ·rcases zaa.mp z with z|z
  ·exact ap y (.inl z) h
  ·exact ap y (.inr<|.inr<|.inr z) h
 ·rcases h with h|h|h|h
  ·rcases g.fM y h with h|h
   ·exact ap y (.inl h)
   ·exact S2.there h
  ·rcases g.fo y (.inl h) with h|h|h
   ·exact ap y (.inr<|.inl h)
   ·exact ap y (.inr<|.inr<|.inl h)
   ·exact S2.there h
  ·rcases g.fo y (.inr h) with h|h|h
   ·exact ap y (.inr<|.inl h)
   ·exact ap y (.inr<|.inr<|.inl h)
   ·exact S2.there h
  ·exact ap y (.inr<|.inr<|.inr h)
theorem N5{c y:Addr}{o:HO}(h:upd H c o y=none):H y=none:=by
 by_cases z:y=c
 ·rw[z,ax] at h;cases h
 ·rw[aI z] at h;exact h
end
section
variable {K:Frag}{C CN:Addr}
def N6(C:Addr):Sp:=fun vs H Q E=>∃(p dx lo pa ed be lg:Addr) (wn:Nat) (bj:List Nat) (ww:List (Option Nat)),vs=[.ref p]/\fi C H p dx lo pa ed be lg wn bj ww/\Q (.int (wn:Nat)) H
theorem adw(T:gK K C):bE (N6 C) (fun E=>aO K [] [] (E:=E)) MZ lL:=by
 intro vs H Q E h;obtain⟨p,dx,lo,pa,ed,be,lg,wn,bj,ww,rfl,A,q⟩:=h;exact bI<|dv<|ae rfl ⟨p,C,dx,_,_,rfl,A.ob,T.cl,T.iz,jQ,q⟩
def zx(C:Addr):Sp:=fun vs H Q E=>∃(p:Addr) (M Ed:List Addr) (wn:Nat) (ww:List (Option Nat)) (aJ:List (List Nat)) (last:List (Option Nat)) (T n:Nat),vs=[.ref p,.int n]/\cc C H p M Ed wn ww aJ last T/\n<ww.length/\∀b H',aA H H'->H b=none->H' b=some (.lst<|iV<|kids ww n)->Q (.ref b) H'
theorem adx(X:gK K C):bE (zx C) (fun E=>aO K [] [] [] [("need_node",C,i9 C CN)] (E:=E)) D1 iY:=by
 intro vs H Q E h;obtain⟨p,M,Ed,wn,ww,aJ,last,T,n,rfl,⟨dx,lo,pa,ed,be,lg,bs,es,A⟩,hn,q⟩:=h;refine bN<|A.ob.m1 rfl rfl<|ae rfl ⟨p,dx,lo,pa,ed,be,lg,wn,_,ww,_,rfl,A.ob,.inl ⟨n,rfl,hn,?_⟩⟩;obtain⟨b,hb⟩:∃b,bs[n]?=some b:=⟨_,zar (by rw[A.lb];exact hn)⟩
 have jT:(bs.map V.ref)[n]?=some (V.ref b):=by rw[zai,hb];rfl
 refine bI<|Dm<|bD<|dv<|ae rfl ⟨p,C,dx,_,_,rfl,A.ob.ob,X.cl,X.xY,C_,ae rfl<|cp A.hb (cB jT) ⟨_,.inl<|av.of<|A.hk n b hb,fun c fc=>?_⟩⟩;exact q c _ (sameNew fc) fc ax
theorem ady:bE (tN C CN) (fun E=>aO K [] [] [] [("need_node",C,i9 C CN)] (E:=E)) D1 iY:=by
 intro vs H Q E h;obtain⟨p,dx,lo,pa,ed,be,lg,wn,bj,ww,v,rfl,A,hn,q⟩:=h;exact bN<|A.m1 rfl rfl<|ae rfl ⟨p,dx,lo,pa,ed,be,lg,wn,bj,ww,_,rfl,A,.inr ⟨hn,q⟩⟩
def l9:Sp:=fun vs H Q E=>∃i j:Int,vs=[.int i,.int j]/\Q (.bl<|decide<|i=j) H
theorem adz:bE (l9) (fun E=>aO K [] [] (E:=E)) Nr zq:=by
 intro vs H Q E h;obtain⟨i,j,rfl,q⟩:=h;refine⟨_,rfl,rfl,_,rfl,fF ⟨_,rfl,rfl,_,rfl,fF ?_⟩⟩;exact vj<|ae rfl<|ae rfl<|eG q
def rj:Sp:=fun vs H Q E=>∃a b ns,vs=[.ref a,.ref b]/\H a=some (.lst<|iV ns)/\H b=some (.lst<|iV ns)/\ns.length<=1000000/\∀H',aA H H'->Q (.bl true) H'
theorem pe(ns:List Nat):(iV ns).length=ns.length:=by unfold iV;rw[zab]
theorem N7{ns:List Nat}(h:i<ns.length):(iV ns)[i]?=some (V.int ((ns[i]:Nat):Int)):=by unfold iV;rw[zai,zar h];rfl
theorem adA:bE (rj) (fun E=>aO K [("_law_whole",l9)] [] (E:=E)) Nu zq:=by
 intro vs H Q E h;obtain⟨a,b,ns,rfl,ha,hb,hl,q⟩:=h;refine br<|nG<|gj<|Zc<|ae rfl<|IV ha<|iF ?_ rfl;refine aZ<|dP<|ae rfl<|.inl ⟨_,av.of ha,dP<|ae rfl<|.inl ⟨_,av.of hb,yO ⟨_,rfl,iF (cM ?_) (by simp)⟩⟩⟩
 refine bI<|vj<|dP ?_;refine qP (x:=.comp none [("_law_found",0),("_law_due",1)] .gz [(.blt .len [.v 1])] (some<|.not<|.call 0 [(.ix (.v 1)<|.v 0),(.ix (.v 2)<|.v 0)]) (.v 0)) _ _ (fun _ _=>Iff.rfl) ?_;refine dP<|ae rfl<|.inl ⟨_,av.of hb,?_⟩;rw[pe];refine⟨_,rfl,by lia,by lia,My (K:=K) (lo:=0) (fun _=>false) (by lia) (fun i k hi q=>?_) (fun x k q=>ae rfl q) fun p fp=>?_⟩
 ·have fI:i<ns.length:=by lia
  have e0:(0:Int)+(i:Nat)=((i:Nat):Int):=by lia
  rw[e0];exact gj<|hZ l9 rfl<|aq<|bD<|ae rfl<|ae rfl<|cp ha (cB<|N7 fI)<|aq<|bD<|ae rfl<|ae rfl<|cp hb (cB<|N7 fI)<|aE ⟨_,_,rfl,fV (by simp;exact q)⟩
 ·have e:(List.range ((ns.length:Nat):Int).toNat).filter (fun _=>false)=[]:=by simp
  rw[e];exact .inl ⟨_,av.of ax,au<|eG<|q _<|sameNew fp⟩
end
section
variable {K:Frag}{C CN:Addr}
def adB:List RS:=[.asg 4 (.bz 0 "parent" (.v 0) [.v 3]),
  .ite (.or [(.and [(.cmp .Eq (.v 3) (.c (.int 0))),(.cmp .IsNot (.v 4) (.c .az))]),(.and [(.cmp .Gt (.v 3) (.c (.int 0))),(.not (.call 0 [.v 4,(.ix (.v 1) (.v 3))]))])]) [.ret (.c (.bl false))] []]
def D7(C:Addr):Sp:=fun vs H Q E=>∃(hp:Addr) (r:Rw) (F:Fo) (v:Va) (b n:Nat) (L:Addr) (ns:List Nat),vs=[.ref hp,.ref r.ab,.ref L]/\bg C H hp r F v b n/\H L=some (.lst<|iV ns)/\(∀k∈ns,k<v.ww.length)/\Q (.bl true) H
theorem zy{ns:List Nat}{x:V}(h:(iV ns)[i]?=some x):∃k,x=.int (k:Nat)/\ns[i]?=some k/\k∈ns:=by
 unfold iV at h;rw[zai] at h;obtain⟨k,hk,rfl⟩:=zbl.mp h;exact⟨k,rfl,hk,zak hk⟩
theorem adC:bE (D7 C) (fun E=>aO K [("_law_whole",l9)] [] [] [("parent",C,Dd C)] (E:=E)) NA Nz:=by
 intro vs H Q E h;obtain⟨hp,r,F,v,b,n,L,ns,rfl,S,hL,hk,q⟩:=h;obtain⟨T,hh,_,_⟩:=cc.dU S.hi;refine CS (body:=adB)<|ae rfl ⟨L,rfl,⟨_,av.of hL⟩,kT (K:=K) (a:=L) (xs:=iV ns) (fun i σ H2=>∃u3 u4,σ=[some<|.ref hp,some<|.ref r.ab,some<|.ref L,u3,u4]/\H2=H) ⟨none,none,rfl,rfl⟩ ?_ ?_ ?_⟩
 ·rintro i σ H2 _ ⟨u3,u4,rfl,rfl⟩;exact av.of hL
 ·rintro i x σ H2 hi ⟨u3,u4,rfl,rfl⟩;obtain⟨k,rfl,_,hm⟩:=zy hi;have qI:=hk k hm;obtain⟨o,ho⟩:∃o,v.ww[k]?=some o:=⟨_,zar qI⟩;obtain⟨dx,lo,pa,ed,be,lg,bs,es,A⟩:=S.hi;refine bc<|A.ob.m1 rfl rfl<|ae rfl ⟨hp,dx,lo,pa,ed,be,lg,_,_,v.ww,k,o,rfl,A.ob,ho,?_⟩;by_cases z:k=0
  ·subst z;rw[T.rt] at ho;cases ho;refine br<|nG<|sX<|aZ<|ae rfl<|au<|eG ⟨_,rfl,iT (aZ<|ae rfl<|au ⟨rfl,_,rfl,iF ?_ rfl⟩) rfl⟩;exact sX<|aZ<|ae rfl<|au<|N.lX ⟨_,rfl,iF (iF (cM ⟨_,_,rfl,rfl⟩) rfl)<|zqF (by lia)⟩
  ·obtain⟨j,hj,_⟩:=T.up k (by lia) qI
   rw[ho] at hj;cases hj;refine br<|nG<|sX<|aZ<|ae rfl<|au<|eG ⟨_,rfl,iF (iF ?_ rfl)<|zqF (by lia)⟩
   refine sX<|aZ<|ae rfl<|au<|N.lX ⟨_,rfl,iT ?_<|zqT (by lia)⟩
   have jT:(v.ww.map gV)[k]?=some (V.int (j:Nat)):=by rw[zai,ho];rfl
   exact gj<|hZ l9 rfl<|aq<|ae rfl<|aq<|bD<|ae rfl<|ae rfl<|cp S.rs.r2 (cB jT)<|aE ⟨_,_,rfl,fV<|iF (cM ⟨_,_,rfl,rfl⟩) (by simp)⟩
 ·rintro σ H2 ⟨u3,u4,rfl,rfl⟩;exact bI<|au q
theorem D8{wr:List RS}{c:Addr}{r:Rw}{F:Fo}{v:Va}{b:Nat}{ns:List Nat}{ic:Nat}
  (S:bg C H hp r F v b n) (g0:Go H0 H r F F) (f0:H0 c=none) (h1:σ[1]?=some (some<|.ref r.r0)) (h5:σ[ic]?=some (some<|.ref c)) (hc:H c=some (.lst<|iV ns)) (nc:¬l8 F r c) (hb:b<1000000)
  (k:∀F' H',F'.M=F.M->Go H0 H' r F F'->aP r.hd H H'->bg C H' hp r F' v (b+1) n->H' c=some (.lst<|iV ns)->ay Γ wr D σ H'):
  ay Γ (.drop (.bh .append (.ba (.v 1)<|.c<|.str "held") [(.tup [.v ic,(.blt .list [.v ic])])])::wr) D σ H:=by
 obtain⟨held,hh,hl,hv⟩:=S.rs.r5;refine bN<|fg<|cO h1 S.rs.r1 D4 ⟨.inl ⟨rfl,_,av.of hh⟩,kq<|aq<|ae h5<|aq<|Dm<|ae h5 ⟨_,.inl<|av.of hc,fun d fd=>aE ⟨eJ,fun t ft=>?_⟩⟩⟩;have s1:=sameNew (o:=.lst (iV ns)) fd;have s2:=sameNew (o:=.tup [V.ref c,V.ref d]) ft;have fN:=s1.trans s2;refine⟨held,fN _ _ hh,dJ (by lia),?_⟩
 have hd2:upd (upd H d<|.lst<|iV ns) t (.tup [V.ref c,V.ref d]) d=some (.lst<|iV ns):=s2 _ _ ax;have yM:upd (upd H d<|.lst<|iV ns) t (.tup [V.ref c,V.ref d]) t=some (.tup [V.ref c,V.ref d]):=ax;have S2:=S.same fN;have da:=fN _ _ hc;have tO:=S.there fd;generalize upd (upd H d<|.lst<|iV ns) t (.tup [V.ref c,V.ref d])=H2 at fN hd2 yM S2 da⊢;have ih:r.hd∈r.own:=Rw.ins.2.2.2.2.1;have xr:c∉r.own:=fun z=>nc (.inr<|.inr<|.inr z);have nd4:d∉r.own:=fun z=>tO (.inr<|.inr<|.inr z);have tu:d6 H2 (upd H2 r.hd<|.lst<|held++[V.ref t]):=S2.rs.live.bC (bf.upd ih);have N8:=(S.dj r.hd<|.inr ih);refine k ⟨F.M,F.Ed,F.hs++[c,d]⟩ (upd H2 r.hd<|.lst<|held++[V.ref t]) rfl ⟨fun y o e ne=>?_,fun y h=>g0.lv y<|fN.free<|N5 h,g0.fM,fun y h=>?_⟩ (fun y o e ne=>by rw[aI ne];exact fN _ _ e) ⟨S2.hi.keep (fun y o h e=>aH (fun z=>?_) e) tu,S2.rs.phd (fN _ _ hh) hl (fun w hw=>(hv w hw).mono (fun y o _ e=>fN _ _ e) (df fN) fun y h=>h) yM da hd2 xr nd4,fun a ha=>?_,S.gd,S.sz,S.re⟩<|aH (fun z=>xr (by rw[z];exact ih)) da
 ·rw[aI (show y≠r.hd from fun z=>ne (by rw[z];exact zau _ ih))]
  exact fN _ _<|g0.bb y o e ne
 ·rcases h with h|h
  ·exact g0.fo y (.inl h)
  ·rcases zaa.mp h with h|h
   ·exact g0.fo y (.inr h)
   ·simp only[zac,zaj,or_false] at h
    rcases h with rfl|rfl
    ·exact .inr (.inr f0)
    ·exact .inr (.inr<|g0.lv _ fd)
 ·rw[z] at h;rcases h with h|h
  ·exact N8.1 h
  ·exact N8.2 h
 ·rcases ha with ha|ha
  ·rcases zaa.mp ha with ha|ha
   ·exact S.dj a (.inl ha)
   ·simp only[zac,zaj,or_false] at ha
    rcases ha with rfl|rfl
    ·exact⟨fun z=>nc<|.inl z,fun z=>nc<|.inr<|.inl z⟩
    ·exact⟨fun z=>tO<|.inl z,fun z=>tO<|.inr<|.inl z⟩
  ·exact S.dj a (.inr ha)
def N9:List RS:=[.asg 4 (.bz 0 "children" (.v 0) [.v 3]),
  .ite (.not<|.call 0 [.v 4,(.comp none [("_law_node",3),("_law_rows",1)] .uA [(.c<|.int 1),(.blt .len [.v 2])] (some<|.cmp .Eq (.ix (.ba (.v 2)<|.c<|.str "above")<|.v 0)<|.v 1)<|.v 0)]) [.ret<|.c<|.bl false] [],
  .ite (.cmp .Eq (.bin .Mod (.v 3)<|.c<|.int 2)<|.c<|.int 0) [.drop<|.bh .append (.v 4) [(.c<|.int 0)]] [],
  .drop (.bh .append (.ba (.v 1) (.c (.str "held"))) [(.tup [.v 4,(.blt .list [.v 4])])])]
theorem adE{a b c elt:RE}(h:aY Γ [a,b] σ H fun vs H1=>∃i j:Int,vs=[.int i,.int j]/\(-(2 ^ 62)<=i/\i<2 ^ 62/\ -(2 ^ 62)<=j/\j<2 ^ 62)/\∃W:Nat->Nat->List V->Hp->Prop,(∃m,W 0 m [] H1)/\∀k m ys H2,W k m ys H2->
   ((eK i (j - i).toNat).stop k H2/\∀p,H2 p=none->Q (.ref p) (upd H2 p<|.lst ys))\/
   ((eK i (j - i).toNat).go k H2/\∀x H3,(eK i (j - i).toNat).fB k H2 x H3->iN Γ.K none x H3 fun zs=>jZ (some (bA Γ.calm c)) (zs.map some++cb σ fv) H3 fun b H5=>
    if b=true then ah Γ.calm elt (zs.map some++cb σ fv) H5 fun y H6=>ys.length<sizeLine/\∃m',m'<m/\W (k+1) m' (ys++[y]) H6 else ∃m',m'<m/\W (k+1) m' ys H5)):ah Γ (.comp none fv .uA [a,b] (some c) elt) σ H Q:=h
theorem adF(ww:List (Option Nat))(k:Nat):(kids ww k).length<=ww.length:=by
 unfold kids;have:=zbE (fun j=>ww[j]?==some (some k)) (List.range ww.length);rw[zbU] at this;exact this
theorem adG{E:XK}{r:Rw}{F:Fo}{v:Va}{b k:Nat}{ns:List Nat}{u4:Option V}
  (S:bg C H hp r F v b n) (hL:H L=some (.lst<|iV ns)) (hn:ns.length=v.ww.length) (hk:k<v.ww.length) (hb:b<900000) (wa:n<=100)
  (q:∀F' c H',F'.M=F.M->Go H H' r F F'->bg C H' hp r F' v (b+1) n->D.nx [some<|.ref hp,some<|.ref r.r0,some<|.ref L,some<|.int (k:Nat),some<|.ref c] H'):
  ay (aO K [("_law_wholes",rj)] [] [] [("children",C,zx C)] (E:=E)) N9 D [some<|.ref hp,some<|.ref r.r0,some<|.ref L,some<|.int (k:Nat),u4] H:=by
 obtain⟨T,hh,_,_⟩:=cc.dU S.hi;have sz:=S.sz;have kl:=adF v.ww k;obtain⟨dx,lo,pa,ed,be,lg,bs,es,A⟩:=id S.hi;refine bc<|A.ob.m1 rfl rfl<|ae rfl ⟨hp,F.M,F.Ed,v.wn,v.ww,_,v.b_,28,k,rfl,S.hi,hk,fun c H1 s1 fc hc=>?_⟩;have S1:=S.same s1;refine br<|gj<|hZ rj rfl<|aq<|ae rfl<|aq ?_;refine adE<|aq<|au<|aq<|dP<|ae rfl<|.inl ⟨_,av.of<|s1 _ _ hL,aE ?_⟩;rw[pe,hn];have el:(((v.ww.length:Nat):Int) - 1).toNat=v.ww.length - 1:=by lia
 refine⟨1,_,rfl,⟨by lia,by lia,by lia,by lia⟩,?_⟩
 rw[el];refine My (K:=K) (lo:=1) (fun i=>v.ww[1+i]?==some (some k)) (by lia) (fun i kk hi q'=>?_) (fun x kk q'=>ae rfl q') fun p fp=>?_
 ·have G6:1+i<v.ww.length:=by lia
  have N_:v.ww[1+i]?=some v.ww[1+i]:=zar G6;have jT:(v.ww.map gV)[1+i]?=some (gV v.ww[1+i]):=by rw[zai,N_];rfl
  have e1:(1:Int)+(i:Nat)=((1+i:Nat):Int):=by lia
  rw[e1];refine aZ<|bD<|cO rfl S1.rs.r1 kD<|ae rfl<|cp S1.rs.r2 (cB jT)<|ae rfl<|yV ⟨_,rfl,?_⟩;have e2:decide (v.ww[1+i]=some k)=(v.ww[1+i]?==some (some k)):=by
   rw[N_];by_cases z:v.ww[1+i]=some k
   ·rw[z];simp
   ·rw[zqF z];simp[z]
  rw[e2];exact q'
 ·rw[abK T k];have s2:=sameNew (o:=.lst (iV<|kids v.ww k)) fp;refine aE ⟨c,p,_,rfl,s2 _ _ hc,ax,by lia,fun H3 s3=>fV<|iF (cM ?_) rfl⟩
  have iE:=s1.trans (s2.trans s3);have S3:=S.same iE;have fS:=(s2.trans s3) _ _ hc;have nc:=S.there fc;clear s2 fp;have c2:(0:Int) <2:=by decide
  refine br<|aZ<|aK<|ae rfl<|au ⟨c2,au<|eG ⟨_,rfl,?_⟩⟩;by_cases z:((k:Nat):Int) % 2=0
  ·refine iT ?_ (zqT z);refine bN<|fg<|ae rfl ⟨.inl ⟨rfl,_,av.of fS⟩,au ⟨_,fS,dJ (by rw[pe];lia),?_⟩⟩
   have ea:iV (kids v.ww k)++[V.int 0]=iV (kids v.ww k++[0]):=by unfold iV;rw[zam];rfl
   rw[ea];have b4:aP c H3 (upd H3 c<|.lst<|iV<|kids v.ww k++[0]):=aP.upd;have S4:bg C (upd H3 c<|.lst<|iV<|kids v.ww k++[0]) hp r F v b n:=S3.keep (fun y o h e=>b4 y o e fun z=>nc (by rw[<-z];exact h)) (b4.bC fS)
   have g4:Go H (upd H3 c<|.lst<|iV<|kids v.ww k++[0]) r F F:=by
    have g:=Go.of (r:=r) (F:=F) (fun y o e=>b4 y o (iE _ _ e)<|bQ e fc);exact g
   exact D8 S4 g4 fc rfl rfl ax nc (by lia) fun F' H' eM g' _ S' _=>q F' c H' eM g' S'
  ·refine iF ?_ (zqF z);exact D8 S3 (Go.of iE) fc rfl rfl fS nc (by lia) fun F' H' eM g' _ S' _=>q F' c H' eM g' S'
end
section
variable {K:Frag}{C CN:Addr}
def D9(C:Addr):Sp:=fun vs H Q E=>∃(hp:Addr) (r:Rw) (F:Fo) (v:Va) (b n:Nat) (L:Addr) (ns:List Nat),vs=[.ref hp,.ref r.r0,.ref L]/\bg C H hp r F v b n/\H L=some (.lst<|iV ns)/\ ¬l8 F r L/\ns.length=v.ww.length/\(∀k∈ns,k<v.ww.length)/\b<=800000/\n<=100/\
 ∀(F':Fo) (H':Hp),Go H H' r F F'->bg C H' hp r F' v (b+v.ww.length) n->Q (.bl true) H'
theorem adH:bE (D9 C) (fun E=>aO K [("_law_wholes",rj)] [] [] [("children",C,zx C)] (E:=E)) ND NC:=by
 intro vs H Q E h;obtain⟨hp,r,F,v,b,n,L,ns,rfl,S,hL,nL,ln,hk,hb,hn,q⟩:=h;have sz:=S.sz;have Oa:L∉F.M++r.own:=fun z=>by
  rcases zaa.mp z with z|z
  ·exact nL (.inl z)
  ·exact nL (.inr<|.inr<|.inr z)
 refine CS (body:=N9)<|ae rfl ⟨L,rfl,⟨_,av.of hL⟩,kT (K:=K) (a:=L) (xs:=iV ns) (fun i σ H2=>∃F' u3 u4,σ=[some<|.ref hp,some<|.ref r.r0,some<|.ref L,u3,u4]/\Go H H2 r F F'/\bg C H2 hp r F' v (b+i) n) ⟨F,none,none,rfl,Go.of<|aA.refl _,S⟩ ?_ ?_ ?_⟩
 ·rintro i σ H2 _ ⟨F',u3,u4,rfl,g,S'⟩;exact av.of<|g.bb _ _ hL Oa
 ·rintro i x σ H2 hi ⟨F',u3,u4,rfl,g,S'⟩;have hil:=(zal.mp hi).1;rw[pe] at hil;obtain⟨k,rfl,_,hm⟩:=zy hi;exact adG S' (g.bb _ _ hL Oa) ln (hk k hm) (by lia) hn fun F2 c H3 _ g2 S2=>⟨F2,_,_,rfl,g.trans g2,S2⟩
 ·rintro σ H2 ⟨F',u3,u4,rfl,g,S'⟩;rw[pe,ln] at S';exact bI<|au<|q F' H2 g S'
theorem adJ{m:iO}(h:ah Γ o σ H fun x H1=>rJ Γ.K (uE m) x H1/\xf Γ.K m x [] H1 Q):ah Γ (.bh m o []) σ H Q:=h
theorem pf(c:Int)(h:0<n):∃d:Nat,c % ((n:Nat):Int)=(d:Nat)/\d<n:=by
 refine⟨(c % ((n:Nat):Int)).toNat,(Int.toNat_of_nonneg<|zaF _ (by lia)).symm,?_⟩
 have:=zaQ c (show(0:Int) < ((n:Nat):Int) by lia)
 have:=zaF c (show((n:Nat):Int)≠0 by lia)
 lia
theorem Ob{ww:List (Option Nat)}(T:dR ww){a:Nat}(ha:a<ww.length)(hd:d<ww.length):(gR ww a d).length<=2*ww.length:=by
 obtain⟨u,w,m,e,_,_,_,_,_,_,h⟩:=DM T ha hd;rw[e,zqA,zaq];lia
def D_(C:Addr):Sp:=fun vs H Q E=>∃(hp:Addr) (r:Rw) (F:Fo) (v:Va) (b n:Nat) (c:Int),vs=[.ref hp,.ref r.r0,.int c]/\bg C H hp r F v b n/\b<=800000/\n<=100/\
 ∀(F':Fo) (H':Hp),Go H H' r F F'->bg C H' hp r F' v (b+1) n->Q (.bl true) H'
theorem adK:bE (D_ C) (fun E=>aO K [("_law_wholes",rj),("_law_way",qZ)] [] [] [("way",C,vB C)] (E:=E)) NN NM:=by
 intro vs H Q E h;obtain⟨hp,r,F,v,b,n,c,rfl,S,hb,hn,q⟩:=h;obtain⟨T,hh,_,_⟩:=cc.dU S.hi;have sz:=S.sz;have l0:0<v.ww.length:=by lia
 have lp:(0:Int) < ((v.ww.length:Nat):Int):=by lia
 obtain⟨a,ea,ha⟩:=pf c l0;obtain⟨d,zc,hd⟩:=pf (c / 7) l0;have wl:=Ob T ha hd;refine bc<|cO rfl S.rs.r1 kD ?_;refine bc<|aK<|ae rfl<|dP<|ae rfl<|.inl ⟨_,av.of S.rs.r2,?_⟩;rw[zab];refine⟨lp,?_⟩;refine bc<|aK<|aK<|ae rfl<|au ⟨⟨by decide,by decide⟩,dP<|ae rfl<|.inl ⟨_,av.of S.rs.r2,?_⟩⟩
 rw[zab];refine⟨lp,?_⟩;show ay _ _ _ [some<|V.ref hp,some<|V.ref r.r0,some<|V.int c,some<|V.ref r.ab,some<|V.int<|c % ((v.ww.length:Nat):Int),some<|V.int<|c / 7 % ((v.ww.length:Nat):Int),none] _;rw[ea,zc];obtain⟨dx,lo,pa,ed,be,lg,bs,es,A⟩:=id S.hi;refine bc<|A.ob.m2 rfl rfl<|ae rfl<|ae rfl ⟨hp,dx,lo,pa,ed,be,lg,_,_,v.ww,a,d,rfl,A.ob,ha,hd,fun f H1 s1 ff hf=>?_⟩;have S1:=S.same s1;refine br<|gj<|hZ rj rfl<|aq<|ae rfl<|aq<|bZ qZ rfl<|aq<|ae rfl<|aq<|ae rfl<|aq<|ae rfl<|aE ⟨r.ab,v.ww,a,d,rfl,S1.rs.r2,T,ha,hd,by lia,fun w H2 s2 fw hw=>aE ⟨f,w,_,rfl,s2 _ _ hf,hw,by lia,fun H3 s3=>fV<|iF (cM ?_) rfl⟩⟩
 have iE:=s1.trans (s2.trans s3);have Ea:=(s2.trans s3) _ _ hf;have S3:=S.same iE;have nf:=S.there ff;clear s1 s2 s3 S1 hf hw fw A;refine bN<|adJ<|ae rfl ⟨.inl ⟨rfl,_,av.of Ea⟩,_,Ea,?_⟩;have b4:aP f H3 (upd H3 f<|.lst []):=aP.upd;have S4:bg C (upd H3 f<|.lst []) hp r F v b n:=S3.keep (fun y o h e=>b4 y o e fun z=>nf (by rw[<-z];exact h)) (b4.bC Ea)
 have s4:aA H (upd H3 f<|.lst []):=fun y o e=>b4 y o (iE _ _ e) (bQ e ff);generalize upd H3 f (.lst [])=H4 at b4 S4 s4⊢;obtain⟨dx,lo,pa,ed,be,lg,bs,es,A⟩:=id S4.hi;refine bc<|A.ob.m2 rfl rfl<|ae rfl<|ae rfl ⟨hp,dx,lo,pa,ed,be,lg,_,_,v.ww,a,d,rfl,A.ob,ha,hd,fun f5 H5 s5 Oc hf5=>?_⟩;have S5:=S4.same s5;refine D8 S5 (Go.of<|s4.trans s5) (s4.free Oc) rfl rfl hf5 (S4.there Oc) (by lia) fun F' H6 _ g6 _ S6 hf6=>?_
 refine bI<|bZ rj rfl<|aq<|ae rfl<|aq<|bZ qZ rfl<|aq<|ae rfl<|aq<|ae rfl<|aq<|ae rfl<|aE ⟨r.ab,v.ww,a,d,rfl,S6.rs.r2,T,ha,hd,by lia,fun w H7 s7 fw hw=>aE ⟨f5,w,_,rfl,s7 _ _ hf6,hw,by lia,fun H8 s8=>?_⟩⟩
 have Od:=s7.trans s8;exact q F' H8 (g6.trans<|Go.of Od)<|S6.same Od
theorem adN{x elt:RE}(h:ah Γ x σ H fun v H1=>∃j:Int,[v]=[.int j]/\ -(2 ^ 62)<=j/\j<2 ^ 62/\∃W:Nat->Nat->List V->Hp->Prop,(∃m,W 0 m [] H1)/\∀i m ys H2,W i m ys H2->
   ((eK 0 j.toNat).stop i H2/\∀p,H2 p=none->Q (.ref p) (upd H2 p<|.lst ys))\/
   ((eK 0 j.toNat).go i H2/\∀x H3,(eK 0 j.toNat).fB i H2 x H3->iN Γ.K none x H3 fun zs=>jZ none (zs.map some++cb σ fv) H3 fun b H5=>
    if b=true then ah Γ.calm elt (zs.map some++cb σ fv) H5 fun y H6=>ys.length<sizeLine/\∃m',m'<m/\W (i+1) m' (ys++[y]) H6 else ∃m',m'<m/\W (i+1) m' ys H5)):ah Γ (.comp none fv .gz [x] none elt) σ H Q:=qP (x:=x) _ _ (fun _ _=>Iff.rfl) h
def Eb(C:Addr):Sp:=fun vs H Q E=>∃(hp:Addr) (r:Rw) (F:Fo) (v:Va) (b n:Nat) (w c:Int),vs=[.ref hp,.ref r.r0,.int w,.int c]/\bg C H hp r F v b n/\b<=800000/\n<=100/\
 ∀(F':Fo) (H':Hp),Go H H' r F F'->bg C H' hp r F' v (b+102) n->Q (.bl true) H'
abbrev adO(C:Addr):List (Str×Sp):=[("_law_whole",l9),("_law_parents",D7 C),("_law_children",D9 C),("_law_way_right",D_ C)]
theorem adP:bE (Eb C) (fun E=>aO K (adO C) [] [] [("now",C,N6 C),("many",C,tm C)] (E:=E)) NH NG:=by
 intro vs H Q E h;obtain⟨hp,r,F,v,b,n,w,c,rfl,S,hb,hn,q⟩:=h;obtain⟨T,hh,_,_⟩:=cc.dU S.hi;have sz:=S.sz;have l0:0<v.ww.length:=by lia
 have lp:(0:Int) < ((v.ww.length:Nat):Int):=by lia
 refine bc<|cO rfl S.rs.r1 kD ?_;refine VS<|adN<|dP<|ae rfl<|.inl ⟨_,av.of S.rs.r2,?_⟩;rw[zab];refine⟨_,rfl,by lia,by lia,Zd (K:=K) (lo:=0) (by lia) (fun i ys H2=>H2=H/\∃ns:List Nat,ys=iV ns/\ns.length=i/\∀k∈ns,k<v.ww.length) ⟨rfl,[],rfl,rfl,fun k hk=>by cases hk⟩ ?_ ?_⟩
 ·rintro i ys H2 hi _ ⟨rfl,ns,rfl,ln,hk⟩ Q' q';refine aK<|aK<|ae rfl<|ae rfl<|jn<|dP<|ae rfl<|.inl ⟨_,av.of S.rs.r2,?_⟩;rw[zab];refine⟨lp,?_⟩;obtain⟨d,ed,hd⟩:=pf (c+(0+(i:Nat))) l0;show Q' (V.int<|(c+(0+(i:Nat))) % ((v.ww.length:Nat):Int)) _;rw[ed];refine q' _ _ (aA.refl _) ⟨rfl,ns++[d],by unfold iV;rw[zam];rfl,by rw[zqA,ln];rfl,fun k hm=>?_⟩
  rcases zaa.mp hm with hm|hm
  ·exact hk k hm
  ·rw[zad.mp hm];exact hd
 ·rintro ys H2 L _ ⟨rfl,ns,rfl,ln,hk⟩ fL;have s1:=sameNew (o:=.lst (iV ns)) fL;have hL:upd H2 L (.lst<|iV ns) L=some (.lst<|iV ns):=ax;have S1:=S.same s1;have nL:=S.there fL;have ln':ns.length=v.ww.length:=by rw[ln];lia
  have g1:Go H2 (upd H2 L<|.lst<|iV ns) r F F:=Go.of s1;generalize upd H2 L (.lst<|iV ns)=H1 at s1 hL S1 g1⊢;obtain⟨dx,lo,pa,ed,be,lg,bs,es,A⟩:=id S1.hi;have fin:=q F H1 g1 (S1.up (by lia)<|zqR _)
  refine br<|aZ<|ae rfl<|au<|eG ⟨_,rfl,gE (fun _=>?_)<|fun _=>cM ?_⟩
  ·refine bI (bZ l9 rfl<|aq<|A.ob.m0 rfl rfl ⟨hp,dx,lo,pa,ed,be,lg,_,_,v.ww,rfl,A.ob,aq<|cO rfl S1.rs.r1 vS<|aE ⟨_,_,rfl,?_⟩⟩);rw[zqT rfl];exact fin
  refine br<|aZ<|ae rfl<|au<|eG ⟨_,rfl,gE (fun _=>?_)<|fun _=>cM ?_⟩
  ·refine bI (bZ l9 rfl<|aq<|A.ob.m0 rfl rfl ⟨hp,dx,lo,pa,ed,be,lg,_,_,v.ww,rfl,A.ob,aq<|dP<|ae rfl<|.inl ⟨_,av.of S1.rs.r2,aE ⟨_,_,rfl,?_⟩⟩⟩);rw[zab,zqT rfl];exact fin
  refine br<|aZ<|ae rfl<|au<|eG ⟨_,rfl,gE (fun _=>?_)<|fun _=>cM ?_⟩
  ·exact bI (bZ (D7 C) rfl<|aq<|ae rfl<|aq<|ae rfl<|aq<|ae rfl<|aE ⟨hp,r,F,v,b,n,L,ns,rfl,S1,hL,hk,fin⟩)
  refine br<|aZ<|ae rfl<|au<|eG ⟨_,rfl,gE (fun _=>?_)<|fun _=>cM ?_⟩
  ·exact bI (bZ (D9 C) rfl<|aq<|ae rfl<|aq<|ae rfl<|aq<|ae rfl<|aE ⟨hp,r,F,v,b,n,L,ns,rfl,S1,hL,nL,ln',hk,hb,hn,fun F' H' g S'=>q F' H' (g1.trans g)<|S'.up (by lia)<|zqR _⟩)
  exact bI<|bZ (D_ C) rfl<|aq<|ae rfl<|aq<|ae rfl<|aq<|ae rfl<|aE ⟨hp,r,F,v,b,n,c,rfl,S1,hb,hn,fun F' H' g S'=>q F' H' (g1.trans g)<|S'.up (by lia)<|zqR _⟩
def adR:List RS:=[.ite (.not<|.call 0 [.v 0,.v 1,(.bin .Mod (.bin .Add (.bin .FloorDiv (.v 2)<|.c<|.int 5)<|.bin .Mult (.v 3)<|.bin .Add (.c<|.int 1)<|.bin .Mod (.v 2)<|.c<|.int 4)<|.c<|.int 5),.v 2]) [.ret<|.c<|.bl false] []]
def tP(C:Addr):Sp:=fun vs H Q E=>∃(hp:Addr) (r:Rw) (F:Fo) (v:Va) (b n:Nat) (c:Int),vs=[.ref hp,.ref r.r0,.int c]/\bg C H hp r F v b n/\b<=700000/\n<=100/\
 ∀(F':Fo) (H':Hp),Go H H' r F F'->bg C H' hp r F' v (b+600) n->Q (.bl true) H'
theorem adS:bE (tP C) (fun E=>aO K [("_law_asked",Eb C)] [] (E:=E)) NK NJ:=by
 intro vs H Q E h;obtain⟨hp,r,F,v,b,n,c,rfl,S,hb,hn,q⟩:=h;have c5:(0:Int) <5:=by decide
 have c4:(0:Int) <4:=by decide
 have d0:0<=c % 4/\c % 4<4:=⟨zaF _ (by decide),zaQ _ (by decide)⟩
 refine KN (body:=adR)<|au ⟨5,rfl,by decide,by decide,Fe (lo:=0) (n:=5) (fun i σ H2=>∃F' u3,σ=[some<|.ref hp,some<|.ref r.r0,some<|.int c,u3]/\Go H H2 r F F'/\bg C H2 hp r F' v (b+102*i) n) ⟨F,none,rfl,Go.of<|aA.refl _,S⟩ ?_ ?_⟩
 ·rintro i σ H2 hi ⟨F',u3,rfl,g,S'⟩;refine br<|gj<|hZ (Eb C) rfl<|aq<|ae rfl<|aq<|ae rfl<|aq<|aK<|aK<|aK<|ae rfl<|au ⟨⟨by decide,by decide⟩,aK<|ae rfl<|aK<|au<|aK<|ae rfl<|au ⟨c4,jn ⟨.inl ⟨?_,?_⟩,jn<|au ⟨c5,aq<|ae rfl<|aE ⟨hp,r,F',v,_,n,_,c,rfl,S',by lia,hn,fun F2 H3 g2 S2=>fV<|iF (cM ⟨F2,_,rfl,g.trans g2,S2⟩) rfl⟩⟩⟩⟩⟩
  ·lia
  ·lia
 ·rintro σ H2 ⟨F',u3,rfl,g,S'⟩;exact bI<|au<|q F' H2 g<|S'.up (by lia)<|zqR _
end
section
variable {K:Frag}{C CN:Addr}
theorem nQ{bF:List Str}{x:Str}(h:bF[d]?=some x):(bF.map V.str)[d]?=some (V.str x)/\(bF.map fun x=>x.cps.toList)[d]?=some x.cps.toList:=by
 rw[zai,zai,h];exact⟨rfl,rfl⟩
def rm(C CN:Addr):Sp:=fun vs H Q E=>∃(p:Addr) (w d:Nat),vs=[.ref p,.int (w:Nat),.int (d:Nat)]/\
 (w=0/\DO C CN [.ref p] H (fun _ H'=>Q (.bl true) H') (fun _ _ H1=>∀H',aA H1 H'->Q (.bl false) H')\/
 w=1/\DP C CN [.ref p] H (fun _ H'=>Q (.bl true) H') (fun _ _ H1=>∀H',aA H1 H'->Q (.bl false) H')\/
 w=2/\zb C [.ref p,.int (d:Nat)] H (fun _ H'=>Q (.bl true) H') E0)
theorem adT(xN:exmOne K (.ref CN) (.ref CN)=some true):bE (rm C CN) (fun E=>aO K [] [("NoNode",.ref CN)] [] [("undo",C,DO C CN),("redo",C,DP C CN),("go",C,zb C)] (E:=E)) NQ NP:=by
 intro vs H Q E h;obtain⟨p,w,d,rfl,h⟩:=h;refine⟨CN,rfl,?_⟩;rcases h with⟨rfl,p',M,Ed,wn,ww,aJ,last,T,e,A,hT,h⟩|⟨rfl,p',M,Ed,wn,ww,aJ,last,T,e,A,hT,h⟩|⟨rfl,p',M,Ed,wn,d',ww,aJ,last,T,wr,l,r,e,A,h⟩
 ·cases e;obtain⟨dx,lo,pa,ed,be,lg,bs,es,B⟩:=id A;refine br<|aZ<|ae rfl<|au<|eG ⟨_,rfl,iT ?_ rfl⟩;refine bN<|B.ob.m0 rfl rfl ⟨p,M,Ed,wn,ww,aJ,last,T,rfl,A,hT,?_⟩;rcases h with⟨j,l,r,h1,h2,h3,h4,g⟩|⟨h0,g⟩
  ·exact .inl ⟨j,l,r,h1,h2,h3,h4,fun c ps H' b f n h t x=>bI<|au<|g c ps H' b f n h t x⟩
  ·exact .inr ⟨h0,xN,fun ea ob vs σ' fJ hl mE=>bI<|au<|g _<|sameNew fJ⟩
 ·cases e;obtain⟨dx,lo,pa,ed,be,lg,bs,es,B⟩:=id A;refine br<|aZ<|ae rfl<|au<|eG ⟨_,rfl,iF ?_ rfl⟩;refine br<|aZ<|ae rfl<|au<|eG ⟨_,rfl,iT ?_ rfl⟩;refine bN<|B.ob.m0 rfl rfl ⟨p,M,Ed,wn,ww,aJ,last,T,rfl,A,hT,?_⟩;rcases h with⟨j,l,r,h1,h2,h3,h4,h5,g⟩|⟨h0,g⟩
  ·exact .inl ⟨j,l,r,h1,h2,h3,h4,h5,fun c ps H' b f n h t x=>bI<|au<|g c ps H' b f n h t x⟩
  ·exact .inr ⟨h0,xN,fun ea ob vs σ' fJ hl mE=>bI<|au<|g _<|sameNew fJ⟩
 ·cases e;obtain⟨dx,lo,pa,ed,be,lg,bs,es,B⟩:=id A;obtain⟨h1,h2,h3,h4,h5,h6,h7,h8,g⟩:=h;refine br<|aZ<|ae rfl<|au<|eG ⟨_,rfl,iF ?_ rfl⟩;refine br<|aZ<|ae rfl<|au<|eG ⟨_,rfl,iF ?_ rfl⟩;exact bN<|B.ob.m1 rfl rfl<|ae rfl ⟨p,M,Ed,wn,d,ww,aJ,last,T,wr,l,r,rfl,A,h1,h2,h3,h4,h5,h6,h7,h8,fun c ps H' b f n h t x=>bI<|au<|g c ps H' b f n h t x⟩
abbrev tDd(C CN:Addr):List (Str×Sp):=[("_law_change_by",DV),("_law_done",yq),("_law_whole",l9),("_law_gone",rm C CN),("_law_way",qZ)]
abbrev GD(K:Frag)(C CN:Addr)(E:XK):bx:=aO K (tDd C CN) [] [] [("do",C,Ld C)] (E:=E)
theorem Oe{N:List Addr}(b:bf N H H')(l:h_ N H'):∀y,H' y=none->H y=none:=fun y h=>by
 cases e:H y with
 |none=>rfl
 |some o=>
  by_cases m:y∈N
  ·obtain⟨o',e',_⟩:=l y m;rw[h] at e';cases e'
  ·rw[b y o e m] at h;cases h
theorem bg.Ec{H3:Hp}{r:Rw}{F:Fo}{v:Va}{b:Nat}{rg Ee:List (Option Nat)}(S:bg C H hp r F v b n)(bR:bf r.own H H2)(R2:Rows H2 r F.hs d v.ww rg v.bF b n)(b3:bf F.M H2 H3)(A3:cc C H3 hp F.M F.Ed d v.ww (v.bF.map fun x=>x.cps.toList) Ee 28)(re:i_ v.ww d rg Ee):
  bg C H3 hp r F ⟨d,v.ww,v.bF,rg,Ee⟩ b n/\Go H H3 r F F:=by
 have A_:cc C H2 hp F.M F.Ed v.wn v.ww (v.bF.map fun x=>x.cps.toList) v.b_ 28:=S.hi.keep (fun a o h e=>bR a o e fun q=>by
  have:=S.dj a (.inr q);rcases h with h|h
  ·exact this.1 h
  ·exact this.2 h) (S.rs.live.bC bR)
 have R3:=R2.keep (H':=H3) (fun y o h e=>b3 y o e (S.dj y h).1) ((cc.dU A_).2.2.2.bC b3);have bb:bf (F.M++r.own) H H3:=fun y o e ne=>b3 y o (bR y o e fun z=>ne (zau _ z)) fun z=>ne (zaA _ z);refine⟨⟨A3,R3,S.dj,S.gd,S.sz,re⟩,bb,Oe bb fun y h=>?_,fun y h=>.inl h,fun y h=>?_⟩
 ·rcases zaa.mp h with h|h
  ·exact(cc.dU A3).2.2.2 y h
  ·exact R3.live y h
 ·rcases h with h|h
  ·exact .inl h
  ·exact .inr (.inl h)
def zA(C:Addr):Sp:=fun vs H Q E=>∃(hp:Addr) (r:Rw) (F:Fo) (v:Va) (b n:Nat) (c:Int),vs=[.ref hp,.ref r.r0,.int c]/\bg C H hp r F v b n/\n<=90/\
 ∀(F':Fo) (v':Va) (H':Hp),Go H H' r F F'->bg C H' hp r F' v' b (n+1)->Q (.bl true) H'
def adV:List RS:=[.asg 5 (.call 0 [(.bin .FloorDiv (.v 2) (.c (.int 8))),(.ix (.ba (.v 1) (.c (.str "texts"))) (.v 4))]),
  .drop (.bh .append (.ba (.v 1)<|.c<|.str "above") [.v 4]),
  .drop (.bh .append (.ba (.v 1)<|.c<|.str "latest") [.c .az]),
  .drop (.bh .append (.ba (.v 1)<|.c<|.str "texts") [(.call 1 [(.ix (.ba (.v 1)<|.c<|.str "texts")<|.v 4),.v 5])]),
  .dput (.v 1) (.c<|.str "here") (.bin .Sub (.blt .len [(.ba (.v 1)<|.c<|.str "above")])<|.c<|.int 1),
  .set (.ba (.v 1)<|.c<|.str "latest") (.v 4) (.ba (.v 1)<|.c<|.str "here"),
  .ret (.call 2 [(.bz 0 "do" (.v 0) [.v 5]),(.ba (.v 1) (.c (.str "here")))])]
theorem adW{E:XK}{r:Rw}{F:Fo}{v:Va}{b:Nat}{c:Int}{a3:Option V}(S:bg C H hp r F v b n)(hn:n<=90)
  (q:∀F' v' H',Go H H' r F F'->bg C H' hp r F' v' b (n+1)->D.rt (.bl true) H'):
  ay (GD K C CN E) adV D [some<|.ref hp,some<|.ref r.r0,some<|.int c,a3,some<|.int (v.wn:Nat),none,none,none,none] H:=by
 obtain⟨T,hh,_,_⟩:=cc.dU S.hi;have iG:=S.iG;have sz:=S.sz;have ll:=S.re.ll;obtain⟨x,hx⟩:∃x,v.bF[v.wn]?=some x:=⟨_,zar (by lia)⟩
 have gx:=S.gd x (zak hx);have big:∀{k:Nat},k<=1000->k<sizeLine:=fun h=>dJ (by lia)
 obtain⟨i1,i2,i3,i4,i5,i6⟩:=Rw.ins (r:=r);refine bc<|bZ DV rfl<|aq<|aK<|ae rfl<|au ⟨⟨by decide,by decide⟩,aq<|bD<|cO rfl S.rs.r1 D3<|ae rfl<|cp S.rs.r4 (cB (nQ hx).1)<|aE ⟨_,x,rfl,gx.1,by lia,fun d H1 ps tl s1 fd hc ht gr lr=>?_⟩⟩
 have A1:=S.rs.keep (H':=H1) (fun _ _ _ e=>s1 _ _ e) (df s1);have tO:=S.there fd;have Of:d∉r.own:=fun z=>tO (.inr<|.inr<|.inr z);have ndM:d∉F.M:=fun z=>tO (.inl z);refine bN<|fg<|cO rfl A1.r1 kD ⟨.inl ⟨rfl,_,av.of A1.r2⟩,ae rfl ⟨_,A1.r2,big (by rw[zab];lia),?_⟩⟩
 have e3:v.ww.map gV++[V.int (v.wn:Nat)]=(v.ww++[some v.wn]).map gV:=by rw[zam];rfl
 rw[e3];have A2:=A1.pab (v.ww++[some v.wn]);have Ef:bf r.own H1 (upd H1 r.ab<|.lst<|(v.ww++[some v.wn]).map gV):=bf.upd i2;generalize upd H1 r.ab (.lst<|(v.ww++[some v.wn]).map gV)=H2 at A2 Ef⊢;refine bN<|fg<|cO rfl A2.r1 q_ ⟨.inl ⟨rfl,_,av.of A2.r3⟩,au ⟨_,A2.r3,big (by rw[zab];lia),?_⟩⟩
 have e4:v.aW.map gV++[V.az]=(v.aW++[none]).map gV:=by rw[zam];rfl
 rw[e4];have A3:=A2.vT (v.aW++[none]);have vU:=Ef.trans (bf.upd (o:=.lst ((v.aW++[none]).map gV)) i3);generalize upd H2 r.la (.lst<|(v.aW++[none]).map gV)=H3 at A3 vU⊢;have Og:h_ r.own H1:=A1.live;have fS:dO H3 d ps x.cps.toList tl:=hc.keep (fun o e=>vU d o e Of) (Og.bC vU);refine bN<|fg<|cO rfl A3.r1 D3 ⟨.inl ⟨rfl,_,av.of A3.r4⟩,bZ yq rfl<|aq<|bD<|cO rfl A3.r1 D3<|ae rfl<|cp A3.r4 (cB (nQ hx).1)<|aq<|ae rfl<|aE<|Y9 gx.1 fS (by have:=gr.1;rw[jM] at this;lia) ⟨_,A3.r4,big (by rw[zab];lia),?_⟩⟩
 have e5:v.bF.map V.str++[V.str ⟨tl.toArray⟩]=(v.bF++[(⟨tl.toArray⟩:Str)]).map V.str:=by rw[zam];rfl
 rw[e5];have A4:=A3.ptx (v.bF++[(⟨tl.toArray⟩:Str)]);have Eg:=vU.trans (bf.upd (o:=.lst ((v.bF++[(⟨tl.toArray⟩:Str)]).map V.str)) i4);generalize upd H3 r.tx (.lst<|(v.bF++[(⟨tl.toArray⟩:Str)]).map V.str)=H4 at A4 Eg⊢;refine zu<|aK<|dP<|cO rfl A4.r1 kD<|.inl ⟨_,av.of A4.r2,au ⟨trivial,zv rfl A4.r1 zt ?_⟩⟩;have e6:(((v.ww++[some v.wn]).map gV).length:Int) - 1=((v.ww.length:Nat):Int):=by rw[zab,zqA];show((v.ww.length+1:Nat):Int) - 1=_;lia
 show ay _ _ _ _ (upd H4 r.r0<|.dK<|putK (cN r v.wn) (.inr "here")<|V.int<|(((v.ww++[some v.wn]).map gV).length:Int) - 1);rw[e6,zr];have A5:=A4.zw v.ww.length;have Eh:=Eg.trans (bf.upd (o:=.dK (cN r v.ww.length)) i1);generalize upd H4 r.r0 (.dK<|cN r v.ww.length)=H5 at A5 Eh⊢;refine sY<|cO rfl A5.r1 vS<|cO rfl A5.r1 q_<|ae rfl ⟨r.la,_,_,v.wn,rfl,rfl,A5.r3,?_,?_⟩
 ·rw[zab,zqA,ll];unfold f_;rw[if_pos (by lia),if_pos (by show((v.wn:Nat):Int) < ((v.ww.length+1:Nat):Int);lia)];rfl
 have e7:((v.aW++[none]).map gV).set v.wn (V.int (v.ww.length:Nat))=((v.aW++[none]).set v.wn<|some v.ww.length).map gV:=by rw[zbK];rfl
 rw[e7];have A6:=A5.vT ((v.aW++[none]).set v.wn<|some v.ww.length);have bR:=Eh.trans (bf.upd (o:=.lst (((v.aW++[none]).set v.wn<|some v.ww.length).map gV)) i3);generalize upd H5 r.la (.lst<|((v.aW++[none]).set v.wn<|some v.ww.length).map gV)=H6 at A6 bR⊢;clear A1 A2 A3 A4 A5 Ef vU Eg Eh fS;have Oh:=Og.bC bR;have Oi:cc C H6 hp F.M F.Ed v.wn v.ww (v.bF.map fun x=>x.cps.toList) v.b_ 28:=(S.hi.same s1).keep (fun a o h e=>bR a o e fun q=>by
  have:=S.dj a (.inr q);rcases h with h|h
  ·exact this.1 h
  ·exact this.2 h) Oh
 have y9:dO H6 d ps x.cps.toList tl:=hc.keep (fun o e=>bR d o e Of) Oh;obtain⟨dx,lo,pa,zc,be,lg,bs,es,A⟩:=id Oi;refine bI<|bZ l9 rfl<|aq<|A.ob.m1 rfl rfl<|ae rfl ⟨hp,F.M,F.Ed,v.wn,v.ww,_,v.b_,28,d,ps,_,tl,rfl,Oi,y9,ndM,(nQ hx).2,ht,by decide,by lia,fun b' a' H7 k7 fb fa A7=>?_⟩
 have A8:=A6.keep (H':=H7) (fun y o h e=>k7 y o e (S.dj y h).1) (A.live.bC k7);refine aq<|cO rfl A8.r1 vS<|aE ⟨_,_,rfl,?_⟩;rw[zqT rfl];have etx:(v.bF.map fun x=>x.cps.toList)++[tl]=(v.bF++[(⟨tl.toArray⟩:Str)]).map fun x=>x.cps.toList:=by rw[zam];rfl
 rw[etx] at A7;have bb:bf (F.M++r.own) H H7:=fun y o e ne=>k7 y o (bR y o (s1 _ _ e) fun z=>ne (zau _ z)) fun z=>ne (zaA _ z);have Ei:∀{y:Addr},H6 y=none->∀{z:Addr},z∈F.hs\/z∈r.own->z≠y:=fun f z h e=>by
  rw[e] at h;rcases h with h|h
  ·obtain⟨xs,e⟩:=(A6.hl _ h).2;rw[f] at e;cases e
  ·exact A6.live.no f h
 have fr:∀{y:Addr},H6 y=none->H y=none:=fun f=>by
  cases hz:H _ with
  |none=>rfl
  |some o=>
   rw[bR _ o (s1 _ _ hz) fun h=>Ei f (.inr h) rfl] at f;cases f
 have S7:bg C H7 hp r ⟨F.M++[b'],F.Ed++[a'],F.hs⟩ ⟨v.ww.length,v.ww++[some v.wn],v.bF++[(⟨tl.toArray⟩:Str)],(v.aW++[none]).set v.wn<|some v.ww.length,v.b_++[none]⟩ b (n+1):=by
  refine⟨A7,A8.up (zqR _)<|zaI _,fun y h=>⟨fun z=>?_,fun z=>?_⟩,fun y hy=>?_,by show(v.ww++[some v.wn]).length<=_;rw[zqA];show v.ww.length+1<=_;lia,S.re.new T hh⟩
  ·rcases zaa.mp z with z|z
   ·exact(S.dj y h).1 z
   ·exact Ei fb h (zad.mp z)
  ·rcases zaa.mp z with z|z
   ·exact(S.dj y h).2 z
   ·exact Ei fa h (zad.mp z)
  ·rcases zaa.mp hy with hy|hy
   ·have:=S.gd y hy;exact⟨this.1,by lia⟩
   ·rw[zad.mp hy];exact⟨gr,by rw[jM];lia⟩
 refine q _ _ H7 ⟨bb,Oe bb fun y h=>?_,fun y h=>?_,fun y h=>?_⟩ S7
 ·rcases zaa.mp h with h|h
  ·exact S7.live y (zaA _<|zaA _ h)
  ·exact S7.live y (zau _ h)
 ·rcases zaa.mp h with h|h
  ·exact .inl h
  ·rw[zad.mp h];exact .inr (fr fb)
 ·rcases h with h|h
  ·rcases zaa.mp h with h|h
   ·exact .inl h
   ·rw[zad.mp h];exact .inr (.inr<|fr fa)
  ·exact .inr (.inl h)
end
section
variable {K:Frag}{C CN:Addr}
theorem bg.zB{r:Rw}{F:Fo}{v:Va}{b:Nat}(S:bg C H hp r F v b n)(bR:bf r.own H H2):cc C H2 hp F.M F.Ed v.wn v.ww (v.bF.map fun x=>x.cps.toList) v.b_ 28:=S.hi.keep (fun a o h e=>bR a o e fun q=>by
  have:=S.dj a (.inr q);rcases h with h|h
  ·exact this.1 h
  ·exact this.2 h) (S.rs.live.bC bR)
theorem Oj{a:RE}(h:ah Γ a σ H fun x H1=>j6 Γ.K x H1 fun b=>Q (.bl<|!b) H1):ah Γ (.not a) σ H Q:=h
theorem Ol{α:Type}{l:List α}{i:Nat}(h:i<l.length):f_ l.length ((i:Nat):Int)=some i:=by
 unfold f_;rw[if_pos (by lia),if_pos (by lia)];rfl
def adZ:List RS:=[.ite (.cmp .Eq (.v 4) (.c (.int 0))) [.ret (.not (.call 3 [.v 0,(.c (.int 0)),(.c (.int 0))]))] [],
  .dput (.v 1) (.c<|.str "here") (.ix (.ba (.v 1)<|.c<|.str "above")<|.v 4),
  .set (.ba (.v 1)<|.c<|.str "latest") (.ba (.v 1)<|.c<|.str "here") (.v 4),
  .ret (.call 3 [.v 0,(.c (.int 0)),(.c (.int 0))])]
theorem ad0{E:XK}{r:Rw}{F:Fo}{v:Va}{b:Nat}{a2 a3:Option V}(S:bg C H hp r F v b n)(hn:n<=90)
  (q:∀F' v' H',Go H H' r F F'->bg C H' hp r F' v' b (n+1)->D.rt (.bl true) H'):
  ay (GD K C CN E) adZ D [some<|.ref hp,some<|.ref r.r0,a2,a3,some<|.int (v.wn:Nat),none,none,none,none] H:=by
 obtain⟨T,hh,_,_⟩:=cc.dU S.hi;have iG:=S.iG;have sz:=S.sz;have ll:=S.re.ll;obtain⟨i1,i2,i3,i4,i5,i6⟩:=Rw.ins (r:=r);refine br<|aZ<|ae rfl<|au<|eG ⟨_,rfl,?_⟩;by_cases z:v.wn=0
 ·refine iT ?_ (zqT (by lia))
  refine bI<|Oj<|bZ (rm C CN) rfl<|aq<|ae rfl<|aq<|au<|aq<|au<|aE ⟨hp,0,0,rfl,.inl ⟨rfl,hp,F.M,F.Ed,v.wn,v.ww,_,v.b_,28,rfl,S.hi,by decide,.inr ⟨z,fun H' s=>fV ?_⟩⟩⟩
  exact q F v H' (Go.of s)<|(S.same s).up (zqR _)<|zaI _
 ·refine iF (cM ?_) (zqF (by lia))
  obtain⟨j,hj,aN⟩:=T.up v.wn (by lia) hh
  have jT:(v.ww.map gV)[v.wn]?=some (V.int (j:Nat)):=by rw[zai,hj];rfl
  refine zu<|bD<|cO rfl S.rs.r1 kD<|ae rfl<|cp S.rs.r2 (cB jT)<|zv rfl S.rs.r1 zt ?_;rw[zr];have A1:=S.rs.zw j;have Om:bf r.own H (upd H r.r0<|.dK<|cN r j):=bf.upd i1;generalize upd H r.r0 (.dK<|cN r j)=H1 at A1 Om⊢;refine sY<|ae rfl<|cO rfl A1.r1 q_<|cO rfl A1.r1 vS ⟨r.la,_,_,j,rfl,rfl,A1.r3,Ol (by rw[zab];lia),?_⟩
  have e2:(v.aW.map gV).set j (V.int (v.wn:Nat))=(v.aW.set j<|some v.wn).map gV:=by rw[zbK];rfl
  rw[e2];have A2:=A1.vT (v.aW.set j<|some v.wn);have bR:=Om.trans (bf.upd (o:=.lst ((v.aW.set j<|some v.wn).map gV)) i3);generalize upd H1 r.la (.lst<|(v.aW.set j<|some v.wn).map gV)=H2 at A2 bR⊢;obtain⟨x,hx⟩:∃x,v.bF[v.wn]?=some x:=⟨_,zar (by lia)⟩
  obtain⟨y,hy⟩:∃y,v.bF[j]?=some y:=⟨_,zar (by lia)⟩
  have gx:=S.gd x (zak hx);have R3:=S.re.move T hh (.inr hj);have Ej:jq v.aW (gm v.ww (v.wn,j))=v.aW.set j (some v.wn):=by
   unfold jq gm;rw[if_neg (fun z=>by have:=(pd T z).1;lia)]
  rw[Ej] at R3;refine bI<|bZ (rm C CN) rfl<|aq<|ae rfl<|aq<|au<|aq<|au<|aE ⟨hp,0,0,rfl,.inl ⟨rfl,hp,F.M,F.Ed,v.wn,v.ww,_,v.b_,28,rfl,S.zB bR,by decide,.inl ⟨j,_,_,hj,(nQ hx).2,(nQ hy).2,by rw[<-len_list];lia,fun w ps H3 b3 fw nw hw ht A3=>?_⟩⟩⟩
  obtain⟨S3,g3⟩:=S.Ec bR A2 b3 A3 R3;exact q F _ H3 g3<|S3.up (zqR _)<|zaI _
def ad1:List RS:=[.ite (.cmp .Is (.ix (.ba (.v 1) (.c (.str "latest"))) (.v 4)) (.c .az)) [.ret (.not (.call 3 [.v 0,(.c (.int 1)),(.c (.int 0))]))] [],
  .dput (.v 1) (.c<|.str "here") (.ix (.ba (.v 1)<|.c<|.str "latest")<|.v 4),
  .ret (.call 3 [.v 0,(.c (.int 1)),(.c (.int 0))])]
theorem ad2{E:XK}{r:Rw}{F:Fo}{v:Va}{b:Nat}{a2 a3:Option V}(S:bg C H hp r F v b n)(hn:n<=90)
  (q:∀F' v' H',Go H H' r F F'->bg C H' hp r F' v' b (n+1)->D.rt (.bl true) H'):
  ay (GD K C CN E) ad1 D [some<|.ref hp,some<|.ref r.r0,a2,a3,some<|.int (v.wn:Nat),none,none,none,none] H:=by
 obtain⟨T,hh,_,_⟩:=cc.dU S.hi;have iG:=S.iG;have sz:=S.sz;have ll:=S.re.ll;obtain⟨i1,i2,i3,i4,i5,i6⟩:=Rw.ins (r:=r);obtain⟨o,ho⟩:∃o,v.aW[v.wn]?=some o:=⟨_,zar (by lia)⟩
 obtain⟨rr,er,hrr⟩:=zo T hh;have Ek:v.b_[v.wn]?=some o:=by
  rw[<-S.re.no v.wn (by rw[er];exact fun z=>absurd (hrr v.wn z) (zaz _))];exact ho
 have jT:(v.aW.map gV)[v.wn]?=some (gV o):=by rw[zai,ho];rfl
 refine br<|aZ<|bD<|cO rfl S.rs.r1 q_<|ae rfl<|cp S.rs.r3 (cB jT)<|au ⟨rfl,_,rfl,?_⟩;cases o with
 |none=>
  refine iT ?_ rfl;refine bI<|Oj<|bZ (rm C CN) rfl<|aq<|ae rfl<|aq<|au<|aq<|au<|aE ⟨hp,1,0,rfl,.inr<|.inl ⟨rfl,hp,F.M,F.Ed,v.wn,v.ww,_,v.b_,28,rfl,S.hi,by decide,.inr ⟨Ek,fun H' s=>fV ?_⟩⟩⟩
  exact q F v H' (Go.of s)<|(S.same s).up (zqR _)<|zaI _
 |some j=>
  refine iF (cM ?_) rfl;have hj:=S.re.ok v.wn j Ek;have vM:=pd T hj;refine zu<|bD<|cO rfl S.rs.r1 q_<|ae rfl<|cp S.rs.r3 (cB jT)<|zv rfl S.rs.r1 zt ?_;rw[show(gV<|some j)=V.int (j:Nat) from rfl,zr]
  have A2:=S.rs.zw j;have bR:bf r.own H (upd H r.r0<|.dK<|cN r j):=bf.upd i1;generalize upd H r.r0 (.dK<|cN r j)=H2 at A2 bR⊢;obtain⟨x,hx⟩:∃x,v.bF[v.wn]?=some x:=⟨_,zar (by lia)⟩
  obtain⟨y,hy⟩:∃y,v.bF[j]?=some y:=⟨_,zar (by lia)⟩
  have gx:=S.gd x (zak hx);have R3:=S.re.move T hh (.inl hj);have Ej:jq v.aW (gm v.ww (v.wn,j))=v.aW:=by
   unfold jq gm;rw[if_pos hj];refine List.ext_getElem? fun i=>?_;by_cases z:v.wn=i
   ·subst z;rw[zbt,ho];simp;lia
   ·rw[zaK z]
  rw[Ej] at R3;refine bI<|bZ (rm C CN) rfl<|aq<|ae rfl<|aq<|au<|aq<|au<|aE ⟨hp,1,0,rfl,.inr<|.inl ⟨rfl,hp,F.M,F.Ed,v.wn,v.ww,_,v.b_,28,rfl,S.zB bR,by decide,.inl ⟨j,_,_,Ek,hj,(nQ hx).2,(nQ hy).2,by rw[<-len_list];lia,fun w ps H3 b3 fw nw hw ht A3=>?_⟩⟩⟩
  obtain⟨S3,g3⟩:=S.Ec bR A2 b3 A3 R3;exact q F _ H3 g3<|S3.up (zqR _)<|zaI _
theorem ad4{r:Rw}{hs:List Addr}{hr:Nat}{ps aW:List (Option Nat)}{bF:List Str}{b x y:Nat}
  (A:Rows H r hs hr ps aW bF b n) (ll:aW.length=ps.length) (hx:x<ps.length) (hy:y<ps.length) (h1:σ[1]?=some (some<|.ref r.r0)) (h7:σ[7]?=some (some<|.int (x:Nat))) (h8:σ[8]?=some (some<|.int (y:Nat)))
  (k:∀H',aP r.la H H'->Rows H' r hs hr ps (jq aW<|gm ps (x,y)) bF b n->D.nx σ H'):
  ay Γ [.ite (.cmp .Eq (.ix (.ba (.v 1)<|.c<|.str "above")<|.v 8)<|.v 7) [.set (.ba (.v 1)<|.c<|.str "latest") (.v 7)<|.v 8] [.set (.ba (.v 1)<|.c<|.str "latest") (.v 8)<|.v 7]] D σ H:=by
 have El:ps[y]?=some ps[y]:=zar hy;have jT:(ps.map gV)[y]?=some (gV ps[y]):=by rw[zai,El];rfl
 have ix:∀(i:Nat),i<ps.length->f_ (aW.map gV).length ((i:Nat):Int)=some i:=fun i hi=>Ol (by rw[zab,ll];exact hi)
 refine br<|aZ<|bD<|cO h1 A.r1 kD<|ae h8<|cp A.r2 (cB jT)<|ae h7<|yV ⟨_,rfl,?_⟩;by_cases z:ps[y]=some x
 ·refine iT ?_ (zqT z);refine sY<|ae h8<|cO h1 A.r1 q_<|ae h7 ⟨r.la,_,_,x,rfl,rfl,A.r3,ix x hx,?_⟩;have e:(aW.map gV).set x (V.int (y:Nat))=(aW.set x<|some y).map gV:=by rw[zbK];rfl
  rw[e];have ek:gm ps (x,y)=(x,y):=by unfold gm;rw[if_pos (by rw[El,z])]
  refine k _ aP.upd ?_;rw[ek];exact A.vT _
 ·refine iF ?_ (zqF z);refine sY<|ae h7<|cO h1 A.r1 q_<|ae h8 ⟨r.la,_,_,y,rfl,rfl,A.r3,ix y hy,?_⟩;have e:(aW.map gV).set y (V.int (x:Nat))=(aW.set y<|some x).map gV:=by rw[zbK];rfl
  rw[e];have ek:gm ps (x,y)=(y,x):=by
   unfold gm;rw[if_neg];rw[El];exact fun q=>z<|zao q
  refine k _ aP.upd ?_;rw[ek];exact A.vT _
def ad5:List RS:=[.asg 6 (.call 4 [(.ba (.v 1) (.c (.str "above"))),.v 4,(.bin .Mod (.bin .FloorDiv (.v 2) (.c (.int 8))) (.blt .len [(.ba (.v 1) (.c (.str "above")))]))]),
 .j5 [7,8] .zip [.v 6,(.sl (.v 6) (some<|.c<|.int 1) none)] [.ite (.cmp .Eq (.ix (.ba (.v 1)<|.c<|.str "above")<|.v 8)<|.v 7) [.set (.ba (.v 1)<|.c<|.str "latest") (.v 7)<|.v 8] [.set (.ba (.v 1)<|.c<|.str "latest") (.v 8)<|.v 7]],
 .dput (.v 1) (.c<|.str "here") (.ix (.v 6)<|.neg<|.c<|.int 1),
 .ret (.call 3 [.v 0,(.c (.int 2)),(.ix (.v 6) (.neg (.c (.int 1))))])]
theorem ad6{E:XK}{r:Rw}{F:Fo}{v:Va}{b:Nat}{c:Int}{a3:Option V}(S:bg C H hp r F v b n)(hn:n<=90)
  (q:∀F' v' H',Go H H' r F F'->bg C H' hp r F' v' b (n+1)->D.rt (.bl true) H'):
  ay (GD K C CN E) ad5 D [some<|.ref hp,some<|.ref r.r0,some<|.int c,a3,some<|.int (v.wn:Nat),none,none,none,none] H:=by
 obtain⟨T,hh,_,_⟩:=cc.dU S.hi;have iG:=S.iG;have sz:=S.sz;have ll:=S.re.ll;obtain⟨i1,i2,i3,i4,i5,i6⟩:=Rw.ins (r:=r);have l0:0<v.ww.length:=by lia
 have lp:(0:Int) < ((v.ww.length:Nat):Int):=by lia
 obtain⟨d,ed,hd⟩:=pf (c / 8) l0;have wl:=Ob T hh hd;obtain⟨_,_,_,_,_,_,hc,⟨r1,e1⟩,⟨q1,f1⟩,oV,_⟩:=DM T hh hd;refine bc<|bZ qZ rfl<|aq<|cO rfl S.rs.r1 kD<|aq<|ae rfl<|aq<|aK<|aK<|ae rfl<|au ⟨⟨by decide,by decide⟩,dP<|cO rfl S.rs.r1 kD<|.inl ⟨_,av.of S.rs.r2,?_⟩⟩
 rw[zab];refine⟨lp,aE ?_⟩;show qZ [V.ref r.ab,V.int (v.wn:Nat),V.int<|c / 8 % ((v.ww.length:Nat):Int)] _ _ _;rw[ed];refine⟨r.ab,v.ww,v.wn,d,rfl,S.rs.r2,T,hh,hd,by lia,fun w H1 s1 fw hw=>?_⟩
 have nw:w∉r.own:=fun z=>S.there fw (.inr<|.inr<|.inr z);refine abM<|aq<|ae rfl<|aq<|KP<|ae rfl<|au ⟨_,rfl,.inl ⟨_,av.of hw,fun w3 f3=>aE ?_⟩⟩;have e5:eN (iV<|gR v.ww v.wn d) (some (1:Int)) none=iV r1:=by
  rw[show((1:Int))=((1:Nat):Int) from rfl,C1,e1];rfl
 rw[e5];have s3:=sameNew (o:=.lst (iV r1)) f3;have qX:=s3 _ _ hw;have h3:upd H1 w3 (.lst<|iV r1) w3=some (.lst<|iV r1):=ax;have n3:w3∉r.own:=fun z=>(S.same s1).there f3 (.inr<|.inr<|.inr z);have iE:=s1.trans s3;generalize upd H1 w3 (.lst<|iV r1)=H3 at s3 qX h3 iE⊢;have hww:=qX;rw[e1] at qX;have A3:=S.rs.keep (H':=H3) (fun _ _ _ e=>iE _ _ e) (df iE);have zC:∀{y:Addr},y∉r.own->y≠r.la:=fun h z=>h (by rw[z];exact i3)
 refine⟨w,w3,rfl,⟨_,av.of qX⟩,⟨_,av.of h3⟩,abN (K:=K) (a:=w) (b:=w3) (xs:=iV (v.wn::r1)) (ys:=iV r1) (by rw[pe,pe,zaq];lia)
  (fun i σ H6=>∃u7 u8,σ=[some (.ref hp),some (.ref r.r0),some (.int c),a3,some (.int (v.wn:Nat)),none,some (.ref w),u7,u8]/\Rows H6 r F.hs v.wn v.ww ((((v.wn::r1).zip r1).take i).foldl (fun la p=>jq la (gm v.ww p)) v.aW) v.bF b n/\aP r.la H3 H6) ⟨none,none,rfl,A3,fun _ _ e _=>e⟩ ?_ ?_ ?_⟩
 ·rintro i σ H6 ⟨u7,u8,rfl,A6,b6⟩;exact⟨av.of<|b6 _ _ qX<|zC nw,av.of<|b6 _ _ h3<|zC n3⟩
 ·rintro i x y σ H6 t hx hy ⟨u7,u8,rfl,A6,b6⟩ ft;obtain⟨x',rfl,jX,mx⟩:=zy hx;obtain⟨y',rfl,pN,my⟩:=zy hy;have s7:=sameNew (o:=.tup [V.int (x':Nat),V.int (y':Nat)]) ft;refine⟨t,_,rfl,.inl<|aM.of ax,rfl,_,_,rfl,_,_,rfl,rfl,?_⟩;have hz:((v.wn::r1).zip r1)[i]?=some (x',y'):=zcb.mpr ⟨jX,pN⟩;refine ad4 (A6.keep (fun _ _ _ e=>s7 _ _ e)<|df s7) (by rw[Mx];exact ll) (oV x' (by rw[e1];exact mx)) (oV y' (by rw[e1];exact zas _ my)) rfl rfl rfl fun H8 b8 A8=>⟨_,_,rfl,?_,fun x o e ne=>b8 x o (s7 _ _<|b6 x o e ne) ne⟩
  rw[C0 hz,List.foldl_append];exact A8
 ·rintro σ H6 ⟨u7,u8,rfl,A6,b6⟩;have lz:((v.wn::r1).zip r1).length=r1.length:=by rw[List.length_zip,zaq];lia
  rw[pe,zaG (by lia)] at A6
  have ef:((v.wn::r1).zip r1).foldl (fun la p=>jq la<|gm v.ww p) v.aW=Mw v.ww (v.wn::r1) v.aW:=rfl;rw[ef] at A6;have oX:=b6 _ _ hww (zC nw);have el:iV (gR v.ww v.wn d)=iV q1++[V.int (d:Nat)]:=by rw[f1];unfold iV;rw[zam];rfl
  rw[el] at oX;have bR6:bf r.own H H6:=fun y o e ne=>b6 y o (iE _ _ e) (zC ne);refine zu<|bD<|ae rfl<|h9<|cp oX (kU _ _)<|zv rfl A6.r1 zt ?_;rw[zr];have A7:=A6.zw d;have bR:=bR6.trans (bf.upd (o:=.dK (cN r d)) i1);have Oo:=aH (o':=.dK (cN r d)) (show w≠r.r0 from fun z=>nw (by rw[z];exact i1)) oX
  generalize upd H6 r.r0 (.dK<|cN r d)=H7 at A7 bR Oo⊢;rw[e1] at hc oV f1;obtain⟨d1,g1,R1⟩:=i_.path T r1 v.wn v.aW v.b_ S.re hh (fun k h=>oV k<|zas _ h) hc;have ed1:d1=d:=by
   have e:(v.wn::r1)[r1.length]?=some d:=by
    rw[f1];have:q1.length=r1.length:=by
     have:=congrArg List.length f1
     simp only[zaq,zqA,zbf] at this
     lia
    rw[<-this];simp
   rw[e] at g1;exact(zao g1).symm
  subst ed1;obtain⟨x,hx⟩:∃x,v.bF[v.wn]?=some x:=⟨_,zar (by lia)⟩
  obtain⟨y,hy⟩:∃y,v.bF[d1]?=some y:=⟨_,zar (by lia)⟩
  have gx:=S.gd x (zak hx);rw[e1,zaq] at wl;refine bI<|bZ (rm C CN) rfl<|aq<|ae rfl<|aq<|au<|aq<|bD<|ae rfl<|h9<|cp Oo (kU _ _)<|aE ⟨hp,2,d1,rfl,.inr<|.inr ⟨rfl,hp,F.M,F.Ed,v.wn,d1,v.ww,_,v.b_,28,r1,_,_,rfl,S.zB bR,hd,e1,by lia,by lia,by decide,(nQ hx).2,(nQ hy).2,by rw[<-len_list];lia,fun w ps H8 b8 fw nw hw ht A8=>?_⟩⟩
  obtain⟨S8,g8⟩:=S.Ec bR A7 b8 A8 R1;exact q F _ H8 g8<|S8.up (zqR _)<|zaI _
theorem ad_:bE (zA C) (fun E=>GD K C CN E) fj kA:=by
 intro vs H Q E h;obtain⟨hp,r,F,v,b,n,c,rfl,S,hn,q⟩:=h;have c8:(0:Int) <8:=by decide
 refine bc<|aK<|ae rfl<|au ⟨c8,?_⟩;refine bc<|cO rfl S.rs.r1 vS ?_;refine br<|aZ<|ae rfl<|au<|N.ltI ⟨_,rfl,gE (fun _=>adW S hn q)<|fun _=>cM ?_⟩;refine br<|aZ<|ae rfl<|au<|N.ltI ⟨_,rfl,gE (fun _=>ad0 S hn q)<|fun _=>cM ?_⟩;refine br<|aZ<|ae rfl<|au<|eG ⟨_,rfl,gE (fun _=>ad2 S hn q)<|fun _=>cM ?_⟩;exact ad6 S hn q
end
section
variable {K:Frag}{C CN CP:Addr}
def Oq:Nat->Str
 | 0=> "node"
 |_=> "place"
def tQ(K:Frag)(cs:List Addr)(cU:Addr):Sp:=fun vs H Q E=>∃ea D j,vs=[.ref ea]/\ExcAt H ea D/\vk K cs cU D j/\(j=0\/j=1)/\∀H',aA H H'->Q (.str<|Oq j) H'
def Ot:V->Bool
 |.bl true=>true
 |_=>false
theorem Ou{x elt c:RE}(h:ah Γ x σ H fun v H1=>∃a,v=.ref a/\(∃xs,av Γ.K H1 a xs)/\∃W:Nat->Nat->List V->Hp->Prop,(∃m,W 0 m [] H1)/\∀i m ys H2,W i m ys H2->
   ((eZ Γ.K a).stop i H2/\∀p,H2 p=none->Q (.ref p) (upd H2 p<|.lst ys))\/
   ((eZ Γ.K a).go i H2/\∀x H3,(eZ Γ.K a).fB i H2 x H3->iN Γ.K none x H3 fun zs=>jZ (some (bA Γ.calm c)) (zs.map some++cb σ fv) H3 fun b H5=>
    if b=true then ah Γ.calm elt (zs.map some++cb σ fv) H5 fun y H6=>ys.length<sizeLine/\∃m',m'<m/\W (i+1) m' (ys++[y]) H6 else ∃m',m'<m/\W (i+1) m' ys H5)):ah Γ (.comp none fv .list [x] (some c) elt) σ H Q:=qP (x:=x) _ _ (fun _ _=>Iff.rfl) h
abbrev cC(j:Nat):List V:=[V.bl<|decide<|0=j,V.bl<|decide<|1=j,V.bl<|decide<|2=j,V.bl<|decide<|3=j]
theorem aea{c0 c1 c2 c3 cU:Addr}(vs:List V)(H:Hp)(Q:VK)(h:tQ K [c0,c1,c2,c3] cU vs H Q E0):
  ay (aO K [] [("NoNode",.ref c0),("NoPlace",.ref c1),("BadChange",.ref c2),("BadFit",.ref c3)]) NU (Dn Q) (start NT vs) H:=by
 obtain⟨ea,D,j,rfl,he,hk,hj,q⟩:=h;refine bc<|cm<|aq<|yo<|ae rfl<|ym ⟨D,_,he,hk.cls,.inl ⟨_,rfl⟩,hk.yp 0 _ rfl,aq<|yo<|ae rfl<|ym ⟨D,_,he,hk.cls,.inl ⟨_,rfl⟩,hk.yp 1 _ rfl,aq<|yo<|ae rfl<|ym ⟨D,_,he,hk.cls,.inl ⟨_,rfl⟩,hk.yp 2 _ rfl,aq<|yo<|ae rfl<|ym ⟨D,_,he,hk.cls,.inl ⟨_,rfl⟩,hk.yp 3 _ rfl,aE ⟨EA,fun l fl=>?_⟩⟩⟩⟩⟩;have s1:=sameNew (o:=.lst (cC j)) fl;have hl:upd H l (.lst<|cC j) l=some (.lst<|cC j):=ax;show ay _ _ _ [some<|V.ref ea,some<|V.ref l] (upd H l<|.lst<|cC j);generalize upd H l (.lst<|cC j)=H1 at s1 hl⊢;have he1:=he.same s1;have aec:(cC j).all gZ=true:=by rcases hj with rfl|rfl<;>rfl
 have aed:(cC j).filter Ot=[V.bl true]:=by rcases hj with rfl|rfl<;>rfl
 have oy:dm (.bl true) (cC j)=true:=by rcases hj with rfl|rfl<;>rfl
 have aee:(cC j).findIdx (fun z=>e9 z<|.bl true)=j:=by rcases hj with rfl|rfl<;>rfl
 have mY:∀x∈cC j,∃b,x=V.bl b:=fun x hx=>by
  simp only[zac,zaj,or_false] at hx
  rcases hx with rfl|rfl|rfl|rfl<;>exact⟨_,rfl⟩
 refine br<|nG<|gj<|Ye rfl he1 hk.cls hk.val<|iF ?_ rfl;refine aZ<|dP<|Ou<|ae rfl ⟨l,rfl,⟨_,av.of hl⟩,DW (K:=K) Ot hl (by show 4<=1000000;decide) (fun x k hx q=>?_) (fun x k _ q=>ae rfl q) fun p fp=>?_⟩
 ·obtain⟨b,rfl⟩:=mY x hx;refine Zx rfl ?_;cases b<;>exact q
 ·rw[aed];have s2:=sameNew (o:=.lst [V.bl true]) fp;refine .inl ⟨_,av.of ax,au<|yO ⟨_,rfl,iF (cM ?_) rfl⟩⟩;refine bI<|bD<|cm<|aq<|au<|aq<|au<|aq<|au<|aq<|au<|aE ⟨EA,fun l6 f6=>?_⟩;have s3:=sameNew (o:=.lst [V.str "node",V.str "place",V.str "change",V.str "fit"]) f6;have h3:=(s2.trans s3) _ _ hl;refine fg<|ae rfl ⟨.inl ⟨rfl,_,av.of h3⟩,au ⟨_,av.of h3,rfl,aec,oy,?_⟩⟩;rw[aee];refine .inl ⟨l6,_,_,_,rfl,rfl,av.of ax,?_,q _<|s1.trans<|s2.trans s3⟩;rcases hj with rfl|rfl<;>rfl
abbrev zD(C CN:Addr)(sp:Sp):Sp:=sT sp (tN C CN)
abbrev Ov(C CN:Addr):List (Str×Addr×Sp):=[("parent",C,zD C CN<|Dd C),("children",C,zD C CN<|zx C),("size",C,zD C CN<|KW C),("go",C,zD C CN<|zb C),("way",C,sT (vB C)<|D0 C CN)]
def rn(C:Addr):Sp:=fun vs H Q E=>∃(p:Addr) (M Ed:List Addr) (wn:Nat) (ww:List (Option Nat)) (aJ:List (List Nat)) (last:List (Option Nat)) (T w:Nat) (x:V),vs=[.ref p,.int (w:Nat),x]/\cc C H p M Ed wn ww aJ last T/\
 (((w=0\/w=1\/w=2\/w=4\/w=5)/\(∃k:Nat,x=.int (k:Nat)/\k<ww.length)/\∀H',aA H H'->Q (.str "") H')\/
 (w<=5/\qM x 0 ((ww.length:Nat) - 1:Int) H/\∀H',aA H H'->Q (.str "node") H')\/
 (w=6/\(lO x H\/∃i:Int,x=.int i/\i<0)/\∀H',aA H H'->Q (.str "place") H'))
theorem zE{cs:List Addr}{cU CE:Addr}(hw:Γ.hs 0=tQ Γ.K cs cU)(kE:vk Γ.K cs cU CE j)(hj:j=0\/j=1)(xE:exmOne Γ.K (.ref CE) (.ref cU)=some true)(q:∀H',aA H H'->D.rt (.str<|Oq j) H'):
  xb Γ.K cU 3 4 (fun ea=>ay {Γ with E:=E0,hv:=some ea} [.ret<|.uC 0<|.v 3]) D (.ref CE) none H:=by
 refine⟨xE,fun ea ob vs σ' fJ hl mE=>?_⟩;have s1:=sameNew (o:=.bK ob mG) fJ;have he:ExcAt (upd H ea<|.bK ob mG) ea CE:=⟨ob,vs,ax,mE⟩;refine bI ⟨_,(by rw[zcc (by lia)]),⟨ea,CE,rfl,he⟩,?_⟩
 show Γ.hs 0 [.ref ea] _ _ _;rw[hw];exact⟨ea,CE,j,rfl,he,kE,hj,fun H2 s2=>q _<|s1.trans s2⟩
theorem cH{k:Nat}{w i:Int}{t e r:List RS}(h:σ[k]?=some (some<|.int w))(ne:decide (w=i)=false)(q:ay Γ e {D with nx:=ay Γ r D} σ H):ay Γ (.ite (.cmp .Eq (.v k)<|.c<|.int i) t e::r) D σ H:=br (aZ<|ae h<|au<|eG ⟨_,rfl,iF q ne⟩)
theorem kI{k:Nat}{w i:Int}{t e r:List RS}(h:σ[k]?=some (some<|.int w))(ne:decide (w=i)=true)(q:ay Γ t {D with nx:=ay Γ r D} σ H):ay Γ (.ite (.cmp .Eq (.v k)<|.c<|.int i) t e::r) D σ H:=br (aZ<|ae h<|au<|eG ⟨_,rfl,iT q ne⟩)
theorem aef{cs:List Addr}{cU:Addr}(kN:vk K cs cU CN 0)(xN:exmOne K (.ref CN) (.ref cU)=some true)(kP:vk K cs cU CP 1)(xP:exmOne K (.ref CP) (.ref cU)=some true):bE (rn C) (fun E=>aO K [] [("InkError",.ref cU)] [] (Ov C CN) [("History",C,qY C CP)] (ht:=[("_law_names",tQ K cs cU)]) (E:=E)) NX NW:=by
 intro vs H Q E h;obtain⟨p,M,Ed,wn,ww,aJ,last,T,w,x,rfl,A,h⟩:=h;obtain⟨dx,lo,pa,ed,be,lg,bs,es,B⟩:=id A;refine⟨cU,rfl,?_⟩;have z0:0<ww.length:=by have:=B.ob.hr;lia
 have lt:∀{a b:Nat},a≠b->decide (((a:Nat):Int)=((b:Nat):Int))=false:=fun h=>zqF (by lia)
 rcases h with⟨hw,⟨k,rfl,hk⟩,q⟩|⟨hw,hx,q⟩|⟨rfl,hx,q⟩
 ·obtain⟨o,ho⟩:∃o,ww[k]?=some o:=⟨_,zar hk⟩;have fin:∀{H'},aA H H'->ay (aO K [] [("InkError",.ref cU)] [] (Ov C CN) [("History",C,qY C CP)] (ht:=[("_law_names",tQ K cs cU)]) (E:=E)) [.ret<|.c<|.str ""] (Dn Q) [some<|.ref p,some<|.int (w:Nat),some<|.int (k:Nat),none] H':=fun s=>bI (au<|q _ s);rcases hw with rfl|rfl|rfl|rfl|rfl
  ·refine kI rfl (by decide+kernel) ?_
   exact bN<|B.ob.m1 rfl rfl<|ae rfl<|.inl ⟨p,dx,lo,pa,ed,be,lg,wn,_,ww,k,o,rfl,B.ob,ho,fin<|aA.refl _⟩
  ·refine cH rfl (by decide+kernel) ?_
   refine kI rfl (by decide+kernel) ?_
   exact bN<|B.ob.m1 rfl rfl<|ae rfl<|.inl ⟨p,M,Ed,wn,ww,aJ,last,T,k,rfl,A,hk,fun b H' s _ _=>fin s⟩
  ·refine cH rfl (by decide+kernel) ?_
   refine cH rfl (by decide+kernel) ?_
   obtain⟨l,hl⟩:∃l,(aJ.map List.length)[k]?=some l:=⟨_,zar (by rw[B.ob.ln];exact hk)⟩
   refine kI rfl (by decide+kernel) ?_
   exact bN<|B.ob.m1 rfl rfl<|ae rfl<|.inl ⟨p,dx,lo,pa,ed,be,lg,wn,_,ww,k,l,rfl,B.ob,hl,fin<|aA.refl _⟩
  ·refine cH rfl (by decide+kernel) ?_
   refine cH rfl (by decide+kernel) ?_
   refine cH rfl (by decide+kernel) ?_
   refine cH rfl (by decide+kernel) ?_
   refine kI rfl (by decide+kernel) ?_
   exact bN<|B.ob.m2 rfl rfl<|ae rfl<|au<|.inl ⟨p,dx,lo,pa,ed,be,lg,wn,_,ww,k,0,rfl,B.ob,hk,z0,fun b H' s _ _=>fin s⟩
  ·refine cH rfl (by decide+kernel) ?_
   refine cH rfl (by decide+kernel) ?_
   refine cH rfl (by decide+kernel) ?_
   refine cH rfl (by decide+kernel) ?_
   refine cH rfl (by decide+kernel) ?_
   refine kI rfl (by decide+kernel) ?_
   exact bN<|B.ob.m2 rfl rfl<|au<|ae rfl<|.inl ⟨p,dx,lo,pa,ed,be,lg,wn,_,ww,0,k,rfl,B.ob,z0,hk,fun b H' s _ _=>fin s⟩
 ·have bad:∀{Γ:bx}{D:Ends}{Q':VK},Γ.hs 0=tQ Γ.K cs cU->Γ.K=K->D.rt=Q->tN C CN [.ref p,x] H Q' (xb Γ.K cU 3 4 (fun ea=>ay {Γ with E:=E0,hv:=some ea} [.ret<|.uC 0<|.v 3]) D):=fun h1 h2 h3=>⟨p,dx,lo,pa,ed,be,lg,wn,_,ww,x,rfl,B.ob,hx,zE h1 (by rw[h2];exact kN) (.inl rfl) (by rw[h2];exact xN) (by rw[h3];exact q)⟩
  match w,hw with
  | 0,_=>
   refine kI rfl (by decide+kernel) ?_
   exact bN<|B.ob.m1 rfl rfl<|ae rfl<|.inr<|bad rfl rfl rfl
  | 1,_=>
   refine cH rfl (by decide+kernel) ?_
   refine kI rfl (by decide+kernel) ?_
   exact bN<|B.ob.m1 rfl rfl<|ae rfl<|.inr<|bad rfl rfl rfl
  | 2,_=>
   refine cH rfl (by decide+kernel) ?_
   refine cH rfl (by decide+kernel) ?_
   refine kI rfl (by decide+kernel) ?_
   exact bN<|B.ob.m1 rfl rfl<|ae rfl<|.inr<|bad rfl rfl rfl
  | 3,_=>
   refine cH rfl (by decide+kernel) ?_
   refine cH rfl (by decide+kernel) ?_
   refine cH rfl (by decide+kernel) ?_
   refine kI rfl (by decide+kernel) ?_
   exact bN<|B.ob.m1 rfl rfl<|ae rfl<|.inr<|bad rfl rfl rfl
  | 4,_=>
   refine cH rfl (by decide+kernel) ?_
   refine cH rfl (by decide+kernel) ?_
   refine cH rfl (by decide+kernel) ?_
   refine cH rfl (by decide+kernel) ?_
   refine kI rfl (by decide+kernel) ?_
   exact bN<|B.ob.m2 rfl rfl<|ae rfl<|au<|.inr ⟨p,dx,lo,pa,ed,be,lg,wn,_,ww,x,_,rfl,B.ob,.inl hx,zE rfl kN (.inl rfl) xN q⟩
  | 5,_=>
   refine cH rfl (by decide+kernel) ?_
   refine cH rfl (by decide+kernel) ?_
   refine cH rfl (by decide+kernel) ?_
   refine cH rfl (by decide+kernel) ?_
   refine cH rfl (by decide+kernel) ?_
   refine kI rfl (by decide+kernel) ?_
   exact bN<|B.ob.m2 rfl rfl<|au<|ae rfl<|.inr ⟨p,dx,lo,pa,ed,be,lg,wn,_,ww,_,x,rfl,B.ob,.inr ⟨⟨0,rfl,z0⟩,hx⟩,zE rfl kN (.inl rfl) xN q⟩
 ·refine cH rfl (by decide+kernel) ?_
  refine cH rfl (by decide+kernel) ?_
  refine cH rfl (by decide+kernel) ?_
  refine cH rfl (by decide+kernel) ?_
  refine cH rfl (by decide+kernel) ?_
  refine cH rfl (by decide+kernel) ?_
  refine bN<|yC C (qY C CP) rfl<|ae rfl fun y dy fy fd ne=>?_;have s1:=(sameNew (o:=.own y) fd).trans (sameNew (o:=.ins C dy []) (show upd H dy (.own y) y=none by rw[aI<|Ne.symm ne];exact fy))
  refine⟨y,dy,_,rfl,ax,.inr ⟨?_,zE rfl kP (.inr rfl) xP fun H' s=>q _ (s1.trans s)⟩⟩;rcases hx with hx|hx
  ·exact .inl (hx.same s1)
  ·exact .inr hx
end
section
variable {K:Frag}{C CN CP:Addr}
def aeg:List RS:=[.ite (.and [(.cmp .Lt (.v 5)<|.v 3),(.cmp .NotEq (.call 0 [.v 0,.v 4,.v 5])<|.c<|.str "")]) [.ret<|.c<|.bl false] []]
def Em(C:Addr):Sp:=fun vs H Q E=>∃(hp:Addr) (r:Rw) (F:Fo) (v:Va) (b n:Nat) (c:Int) (e:Addr),vs=[.ref hp,.ref r.r0,.int c]/\bg C H hp r F v b n/\r.ea=some e/\n<=100/\
 ∀(H':Hp),Go H H' r F F->bg C H' hp r F v b (n+1)->Q (.bl true) H'
theorem aeh:bE (Em C) (fun E=>aO K [("_law_refused",rn C)] [] (E:=E)) N1 NZ:=by
 intro vs H Q E h;obtain⟨hp,r,F,v,b,n,c,e,rfl,S,fJ,hn,q⟩:=h;obtain⟨es,he,hl,hv⟩:=S.rs.r6 e fJ;obtain⟨T,hh,_,_⟩:=cc.dU S.hi;have c5:(0:Int) <5:=by decide
 refine bc<|dP<|cO rfl S.rs.r1 kD<|.inl ⟨_,av.of S.rs.r2,?_⟩;rw[zab];refine CV (body:=aeg)<|cO rfl S.rs.r1 (D5 fJ) ⟨e,rfl,⟨_,av.of he⟩,kT (K:=K) (a:=e) (xs:=es) (fun i σ H2=>∃u4 u5,σ=[some<|.ref hp,some<|.ref r.r0,some<|.int c,some<|.int (v.ww.length:Nat),u4,u5]/\aA H H2) ⟨none,none,rfl,aA.refl _⟩ ?_ ?_ ?_⟩
 ·rintro i σ H2 _ ⟨u4,u5,rfl,s⟩;exact av.of<|s _ _ he
 ·rintro i x σ H2 hi ⟨u4,u5,rfl,s⟩;obtain⟨t,w,k,rfl,ht,hw⟩:=hv x (zak hi);refine⟨t,_,rfl,.inl<|aM.of<|s _ _ ht,rfl,_,_,rfl,_,_,rfl,rfl,?_⟩;refine br<|sX<|aZ<|ae rfl<|ae rfl<|N.ltI ⟨_,rfl,gE (fun z=>?_)<|fun z=>iF (cM ⟨_,_,rfl,s⟩) rfl⟩;have hk:k<v.ww.length:=by have:=of_decide_eq_true z;lia
  refine aZ<|bZ (rn C) rfl<|aq<|ae rfl<|aq<|ae rfl<|aq<|ae rfl<|aE ⟨hp,F.M,F.Ed,v.wn,v.ww,_,v.b_,28,w,_,rfl,S.hi.same s,.inl ⟨hw,⟨k,rfl,hk⟩,fun H' s'=>au<|vp ⟨_,rfl,iF (cM ⟨_,_,rfl,s.trans s'⟩) (by decide+kernel)⟩⟩⟩
 ·rintro σ H2 ⟨u4,u5,rfl,s⟩;have S2:=S.same s;have En:=s _ _ he;have hv2:∀x∈es,nP H2 x:=fun x hx=>(hv x hx).mono (df s);refine bN<|fg<|cO rfl S2.rs.r1 (D5 fJ) ⟨.inl ⟨rfl,_,av.of En⟩,kq<|aq<|bD<|cm<|aq<|au<|aq<|au<|aq<|au<|aq<|au<|aq<|au<|aE ⟨OQ,fun l fl=>?_⟩⟩;have s3:=sameNew (o:=.lst [V.int 0,V.int 1,V.int 2,V.int 4,V.int 5]) fl;have Kn:upd H2 l (.lst [V.int 0,V.int 1,V.int 2,V.int 4,V.int 5]) l=some (.lst [V.int 0,V.int 1,V.int 2,V.int 4,V.int 5]):=ax;obtain⟨d,ed,hd⟩:=pf c (show 0<5 by decide)
  obtain⟨w,hw,hw'⟩:∃w:Nat,([V.int 0,V.int 1,V.int 2,V.int 4,V.int 5]:List V)[d]?=some (V.int (w:Nat))/\(w=0\/w=1\/w=2\/w=4\/w=5):=by
   match d,hd with
   | 0,_=>exact⟨0,rfl,by simp⟩
   | 1,_=>exact⟨1,rfl,by simp⟩
   | 2,_=>exact⟨2,rfl,by simp⟩
   | 3,_=>exact⟨4,rfl,by simp⟩
   | 4,_=>exact⟨5,rfl,by simp⟩
  refine aK<|ae rfl<|au ⟨c5,?_⟩;have ed:c % 5=(d:Nat):=ed;show lA _ _ (.ref l) (.int<|c % 5) _ _;rw[ed];refine cp Kn (cB hw)<|aq<|ae rfl<|aE ⟨eJ,fun t ft=>?_⟩;have s4:=s3.trans (sameNew (o:=.tup [V.int (w:Nat),V.int (v.ww.length:Nat)]) ft);have vJ:upd (upd H2 l<|.lst [V.int 0,V.int 1,V.int 2,V.int 4,V.int 5]) t (.tup [V.int (w:Nat),V.int (v.ww.length:Nat)]) t=some (.tup [V.int (w:Nat),V.int (v.ww.length:Nat)]):=ax;refine⟨_,s4 _ _ En,dJ (by lia),?_⟩
  generalize upd (upd H2 l<|.lst [V.int 0,V.int 1,V.int 2,V.int 4,V.int 5]) t (.tup [V.int (w:Nat),V.int (v.ww.length:Nat)])=H4 at s4 vJ⊢;have S4:=S2.same s4;have R5:=S4.rs.pea fJ (s4 _ _ En) hl (fun x hx=>(hv2 x hx).mono<|df s4) ⟨t,w,_,rfl,vJ,hw'⟩;have ie:e∈r.own:=Rw.ins.2.2.2.2.2 e fJ;have bR:bf r.own H4 (upd H4 e<|.lst<|es++[V.ref t]):=bf.upd ie;have tu:=S4.rs.live.bC bR;have S5:bg C (upd H4 e<|.lst<|es++[V.ref t]) hp r F v b (n+1):=⟨S4.zB bR,R5,S.dj,fun x hx=>⟨(S.gd x hx).1,by have:=(S.gd x hx).2;lia⟩,by have:=S.sz;lia,S.re⟩
  have g5:Go H (upd H4 e (.lst (es++[V.ref t]))) r F F:=(Go.of (s.trans s4)).trans ⟨fun y o h ne=>aH (fun z=>ne (by rw[z];exact zau _ ie)) h,fun y h=>N5 h,fun _ h=>.inl h,fun _ h=>by
   rcases h with h|h
   ·exact .inl h
   ·exact .inr (.inl h)⟩
  have Ow:upd H4 e (.lst<|es++[V.ref t]) e=some (.lst<|es++[V.ref t]):=ax;have nE:=tu _ _ vJ;generalize upd H4 e (.lst<|es++[V.ref t])=H5 at S5 g5 Ow nE⊢;refine bI<|vj<|bZ (rn C) rfl<|aq<|ae rfl<|aq<|bD<|bD<|cO rfl S5.rs.r1 (D5 fJ)<|h9<|cp Ow (kU _ _)<|au<|qO nE rfl<|aq<|ae rfl<|aE ⟨hp,F.M,F.Ed,v.wn,v.ww,_,v.b_,28,w,_,rfl,S5.hi,.inr<|.inl ⟨by lia,.inr ⟨_,rfl,.inr (by lia)⟩,fun H' s'=>au<|i7 ?_⟩⟩
  exact q H' (g5.trans<|Go.of s')<|S5.same s'
theorem aek(h:∀p,H p=none->aY Γ as σ (upd H p<|.dK []) fun vs H2=>H2 p=some (.dK [])/\∃kvs:List (Key×V),vs=qm kvs/\kvs.length<=15/\Q (.ref p) (upd H2 p<|.dK<|jE [] kvs)):ah Γ (.xt oH as) σ H Q:=h
theorem Ox{r:Rw}:jE [] (cN r 0)=cN r 0:=by
 have n:∀{a b:Str}{v:V}{r:List (Key×V)},¬a=b->fG r (.inr b)=none->fG (((Sum.inr a:Key),v)::r) (.inr b)=none:=fun h e=>(fR<|ik h).trans e;have Oy:∀{ab la tx hd:Addr},putK (putK (putK (putK (putK ([]:List (Key×V)) (Sum.inr "above")<|.ref ab) (Sum.inr "latest")<|.ref la) (Sum.inr "texts")<|.ref tx) (Sum.inr "here")<|.int (0:Nat)) (Sum.inr "held") (.ref hd)=[(.inr "above",.ref ab),(.inr "latest",.ref la),(.inr "texts",.ref tx),(.inr "here",.int (0:Nat)),(.inr "held",.ref hd)]:=by
  intro ab la tx hd;rw[rM (kvs:=[]) _ rfl];rw[rM (kvs:=[]++_) _<|n (by decide+kernel) rfl]
  rw[rM (kvs:=[]++_++_) _<|n (by decide+kernel)<|n (by decide+kernel) rfl]
  rw[rM (kvs:=[]++_++_++_) _<|n (by decide+kernel)<|n (by decide+kernel)<|n (by decide+kernel) rfl]
  rw[rM (kvs:=[]++_++_++_++_) _<|n (by decide+kernel)<|n (by decide+kernel)<|n (by decide+kernel)<|n (by decide+kernel) rfl]
  rfl
 obtain⟨r0,ab,la,tx,hd,ea⟩:=r;cases ea with
 |none=>exact Oy
 |some e=>
  show putK (putK (putK (putK (putK (putK ([]:List (Key×V)) (Sum.inr "above")<|.ref ab) (Sum.inr "latest")<|.ref la) (Sum.inr "texts")<|.ref tx) (Sum.inr "here")<|.int (0:Nat)) (Sum.inr "held")<|.ref hd) (Sum.inr "early") (.ref e)=_;rw[Oy,rM _<|n (by decide+kernel)<|n (by decide+kernel)<|n (by decide+kernel)<|n (by decide+kernel)<|n (by decide+kernel) rfl]
  rfl
theorem Oz{H6:Hp}{r:Rw}{x:Str}(s:aA H H6)(f0:H r.r0=none)(h2:H6 r.ab=some (.lst [V.az]))(h3:H6 r.la=some (.lst [V.az]))(h4:H6 r.tx=some (.lst [V.str x]))(h5:H6 r.hd=some (.lst []))(h6:∀e,r.ea=some e->H6 e=some (.lst []))
  (nd:r.own.Nodup) (fr:∀y∈r.own,y≠r.r0->H y=none):Rows (upd H6 r.r0<|.dK<|cN r 0) r [] 0 [none] [none] [x] 0 0/\aA H (upd H6 r.r0<|.dK<|cN r 0)/\∀y∈r.own,H y=none:=by
 obtain⟨⟨n1,n2,n3,n4,_⟩,ne⟩:=Rw.ne nd;refine⟨⟨ax,aH (Ne.symm n1) h2,aH (Ne.symm n2) h3,aH (Ne.symm n3) h4,⟨[],aH (Ne.symm n4) h5,zqR _,fun v hv=>by cases hv⟩,fun e he=>⟨[],aH (ne e he).1<|h6 e he,zqR _,fun v hv=>by cases hv⟩,nd,fun a ha=>by cases ha⟩,fun y o e=>aH (fun z=>by rw[z,f0] at e;cases e)<|s _ _ e,fun y hy=>?_⟩
 by_cases z:y=r.r0
 ·rw[z];exact f0
 ·exact fr y hy z
theorem iJ{b:Addr}{o:HO}(h:H a=some o)(f:H b=none):b≠a:=fun z=>by rw[z,h] at f;cases f
def tlE:Bool->List RE
 |true=>[(.c<|.str "early"),(.lst [])]
 |false=>[]
theorem OA{et:RE}{x:Str}(fl:Bool)(ht:∀{H':Hp}{Q':VK},Q' (.str x) H'->ah Γ et σ H' Q')
  (q:∀r H',r.ea.isSome=fl->aA H H'->Rows H' r [] 0 [none] [none] [x] 0 0->(∀y∈r.own,H y=none)->Q (.ref r.r0) H'):
  ah Γ (.xt oH ((.c<|.str "above")::(.lst [.c .az])::(.c<|.str "latest")::(.lst [.c .az])::(.c<|.str "texts")::(.lst [et])::(.c<|.str "here")::(.c<|.int 0)::(.c<|.str "held")::(.lst [])::tlE fl)) σ H Q:=by
 refine aek fun r0 fr=>?_;have sr:=sameNew (o:=.dK []) fr;refine aq<|au<|aq<|cm<|aq<|au<|aE ⟨dw,fun ab fa=>?_⟩;have sa:=sameNew (o:=.lst [V.az]) fa;refine aq<|au<|aq<|cm<|aq<|au<|aE ⟨dw,fun la fl=>?_⟩;have sl:=sameNew (o:=.lst [V.az]) fl;refine aq<|au<|aq<|cm<|aq<|ht<|aE ⟨dw,fun tx ft=>?_⟩;have st:=sameNew (o:=.lst [V.str x]) ft;refine aq<|au<|aq<|au<|aq<|au<|aq<|cm<|aE ⟨zqZ _,fun hd tR=>?_⟩;have sh:=sameNew (o:=.lst []) tR;have kr:=sa.trans (sl.trans<|st.trans sh);have s5:=sr.trans kr;have zF:=kr _ _ (ax (H:=H) (a:=r0) (o:=.dK []));have nK:=(sl.trans<|st.trans sh) _ _ (ax (H:=upd H r0 (.dK [])) (a:=ab) (o:=.lst [V.az]));have nF:=(st.trans sh) _ _ (ax (a:=la) (o:=.lst [V.az]));have nE:=sh _ _ (ax (a:=tx) (o:=.lst [V.str x]));have zG:=ax (a:=hd) (o:=.lst []) (H:=upd (upd (upd (upd H r0<|.dK []) ab<|.lst [V.az]) la<|.lst [V.az]) tx (.lst [V.str x]));have n1:ab≠r0:=iJ ax fa;have n2:la≠r0:=iJ (sa _ _ ax) fl;have n5:la≠ab:=iJ ax fl;have n3:tx≠r0:=iJ ((sa.trans sl) _ _ ax) ft;have n6:tx≠ab:=iJ (sl _ _ ax) ft;have n8:tx≠la:=iJ ax ft;have n4:hd≠r0:=iJ ((sa.trans<|sl.trans st) _ _ ax) tR;have n7:hd≠ab:=iJ ((sl.trans st) _ _ ax) tR;have n9:hd≠la:=iJ (st _ _ ax) tR;have l7:hd≠tx:=iJ ax tR;have g2:H ab=none:=sr.free fa;have g3:H la=none:=(sr.trans sa).free fl;have g4:H tx=none:=(sr.trans<|sa.trans sl).free ft;have g5:H hd=none:=(sr.trans<|sa.trans<|sl.trans st).free tR;generalize upd (upd (upd (upd (upd H r0<|.dK []) ab<|.lst [V.az]) la<|.lst [V.az]) tx<|.lst [V.str x]) hd (.lst [])=H5 at s5 zF nK nF nE zG⊢
 rename_i fl0
 cases fl0 with
 |false=>
  refine aE ⟨zF,cN ⟨r0,ab,la,tx,hd,none⟩ 0,rfl,(by show 5<=15;decide),?_⟩
  rw[Ox];obtain⟨z1,z2,z3⟩:=Oz (r:=⟨r0,ab,la,tx,hd,none⟩) s5 fr nK nF nE zG (fun e he=>by cases he) (by
   unfold Rw.own
   simp only[Option.toList_none,zaL,zac,not_or,zaj,not_false_eq_true,and_true,List.nodup_nil]
   exact⟨⟨n1.symm,n2.symm,n3.symm,n4.symm⟩,⟨n5.symm,n6.symm,n7.symm⟩,⟨n8.symm,n9.symm⟩,l7.symm⟩) (fun y hy z=>by
   rcases Rw.mem hy with rfl|rfl|rfl|rfl|rfl|h
   ·exact absurd rfl z
   ·exact g2
   ·exact g3
   ·exact g4
   ·exact g5
   ·cases h)
  exact q ⟨r0,ab,la,tx,hd,none⟩ _ rfl z2 z1 z3
 |true=>
  refine aq<|au<|aq<|cm<|aE ⟨zqZ _,fun ea fe=>aE ?_⟩;have se:=sameNew (o:=.lst []) fe;refine⟨se _ _ zF,cN ⟨r0,ab,la,tx,hd,some ea⟩ 0,rfl,(by show 6<=15;decide),?_⟩
  rw[Ox];obtain⟨z1,z2,z3⟩:=Oz (r:=⟨r0,ab,la,tx,hd,some ea⟩) (s5.trans se) fr (se _ _ nK) (se _ _ nF) (se _ _ nE) (se _ _ zG) (fun e he=>by cases he;exact ax) (by
   unfold Rw.own
   simp only[Option.toList_some,zaL,zac,not_or,zaj,not_false_eq_true,and_true,List.nodup_nil]
   exact⟨⟨n1.symm,n2.symm,n3.symm,n4.symm,(iJ zF fe).symm⟩,⟨n5.symm,n6.symm,n7.symm,(iJ nK fe).symm⟩,⟨n8.symm,n9.symm,(iJ nF fe).symm⟩,⟨l7.symm,(iJ nE fe).symm⟩,(iJ zG fe).symm⟩) (fun y hy z=>by
   rcases Rw.mem hy with rfl|rfl|rfl|rfl|rfl|h
   ·exact absurd rfl z
   ·exact g2
   ·exact g3
   ·exact g4
   ·exact g5
   ·cases h;exact s5.free fe)
  exact q ⟨r0,ab,la,tx,hd,some ea⟩ _ rfl z2 z1 z3
theorem OB{M:List Addr}(fh:H1 hp=none)(fd:H1 dx=none)(b2:aP hp (upd (upd H1 dx<|.own hp) hp<|.ins C dx []) H2)(fM:∀a∈M,a≠hp->upd (upd H1 dx<|.own hp) hp (.ins C dx []) a=none):aA H1 H2/\∀y∈M,H1 y=none:=by
 refine⟨fun y o e=>b2 y o (by rw[aI<|bQ e fh,aI<|bQ e fd];exact e)<|bQ e fh,fun y h=>?_⟩
 by_cases z:y=hp
 ·rw[z];exact fh
 ·have:=fM y h z;rw[aI z] at this;by_cases z2:y=dx
  ·rw[z2];exact fd
  ·rw[aI z2] at this;exact this
theorem aen:i_ [none] 0 [none] [none]:=⟨rfl,rfl,fun a b _ h=>by
 cases a with
 |zero=>cases h
 |succ a=>simp at h,fun _ _=>rfl,fun i k h=>by
 cases i with
 |zero=>cases h
 |succ i=>simp at h⟩
theorem OC{H7:Hp}{M:List Addr}{r:Rw}{x:Str}(A:cc C H2 hp M [] 0 [none] [x.cps.toList] [none] 28)(s7:aA H2 H7)(R:Rows H7 r [] 0 [none] [none] [x] 0 0)(fr:∀y∈r.own,H2 y=none)(gx:good x)(lx:x.length<=400):bg C H7 hp r ⟨M,[],[]⟩ ⟨0,[none],[x],[none],[none]⟩ 0 0:=by
 refine⟨A.same s7,R,fun y h=>⟨?_,fun z=>by cases z⟩,fun y hy=>?_,zqR 1,aen⟩
 ·rcases h with h|h
  ·cases h
  ·exact(A.own<|fr y h).1
 ·rw[zad.mp hy];exact⟨gx,by lia⟩
end
structure gp (C:Addr) (H0 H:Hp) (p1 p2:Addr) (r1 r2:Rw) (F1 F2:Fo) (v1 v2:Va) (b1 n1 b2 n2:Nat):Prop where
 s1:bg C H p1 r1 F1 v1 b1 n1
 s2:bg C H p2 r2 F2 v2 b2 n2
 ap:∀y,l8 F1 r1 y-> ¬l8 F2 r2 y
 sm:aA H0 H
 f1:∀y∈F1.M++r1.own,H0 y=none
 f2:∀y∈F2.M++r2.own,H0 y=none
section
variable {C:Addr}{H0 H H':Hp}{p1 p2:Addr}{r1 r2:Rw}{F1 F2 F':Fo}{v1 v2 v':Va}{b1 n1 b2 n2 b' n':Nat}
theorem OD{r:Rw}{F F':Fo}(sm:aA H0 H)(f:∀y∈F.M++r.own,H0 y=none)(g:Go H H' r F F'):aA H0 H'/\∀y∈F'.M++r.own,H0 y=none:=by
 refine⟨fun y o e=>g.bb y o (sm _ _ e) fun z=>?_,fun y h=>?_⟩
 ·rw[f y z] at e;cases e
 ·rcases zaa.mp h with h|h
  ·rcases g.fM y h with h|h
   ·exact f y (zaA _ h)
   ·exact sm.free h
  ·exact f y (zau _ h)
theorem gp.tU(L:gp C H0 H p1 p2 r1 r2 F1 F2 v1 v2 b1 n1 b2 n2)(g:Go H H' r1 F1 F')(S:bg C H' p1 r1 F' v' b' n'):gp C H0 H' p1 p2 r1 r2 F' F2 v' v2 b' n' b2 n2:=by
 obtain⟨a,b⟩:=OD L.sm L.f1 g;obtain⟨c,d⟩:=L.s1.N4 L.s2 L.ap g;exact⟨S,c,d,a,b,L.f2⟩
theorem gp.go2(L:gp C H0 H p1 p2 r1 r2 F1 F2 v1 v2 b1 n1 b2 n2)(g:Go H H' r2 F2 F')(S:bg C H' p2 r2 F' v' b' n'):gp C H0 H' p1 p2 r1 r2 F1 F' v1 v' b1 n1 b' n':=by
 obtain⟨a,b⟩:=OD L.sm L.f2 g;obtain⟨c,d⟩:=L.s2.N4 L.s1 (fun y h k=>L.ap y k h) g;exact⟨c,S,fun y h k=>d y k h,a,L.f1,b⟩
theorem gp.same(L:gp C H0 H p1 p2 r1 r2 F1 F2 v1 v2 b1 n1 b2 n2)(s:aA H H'):gp C H0 H' p1 p2 r1 r2 F1 F2 v1 v2 b1 n1 b2 n2:=⟨L.s1.same s,L.s2.same s,L.ap,L.sm.trans s,L.f1,L.f2⟩
end
section
variable {K:Frag}{C CP:Addr}{E:XK}{Q:VK}
abbrev tLw(K:Frag)(C:Addr):List (Str×Sp):=[("_law_text_by",DQ),("_law_cell_at",BY K),("_law_stands",tP C),("_law_deed",zA C),("_law_early",Em C),("_law_refused",rn C)]
abbrev GL(K:Frag)(C CP:Addr)(E:XK):bx:=aO K (tLw K C) [] [] [] [("History",C,qY C CP)] (E:=E)
theorem Eo{E:XK}{Q':VK}{ns:List Int}(ha:av K H0 a (ns.map V.int))(i:Int)(s1:aA H0 H1)(e0:σ[0]?=some (some<|.ref a))(hi:0<=i)(q:Q' (.int<|cell ns i.toNat) H1):ah (GL K C CP E) (.call 1 [.v 0,(.c<|.int i)]) σ H1 Q':=
 bZ (BY K) rfl (aq<|ae e0<|aq<|au<|aE ⟨a,ns,i,rfl,s1.seq ha,hi,q⟩)
theorem Ep(ns:List Nat):SeqAt.shaped (.list<|ns.map fun k=>PyData.int (k:Nat))=true:=by
 have h:∀l:List Nat,PyData.canLayAll0 (l.map fun k=>PyData.int (k:Nat))=true/\PyData.depthAll (l.map fun k=>PyData.int (k:Nat))<=1:=by
  intro l
  induction l with
  |nil=>exact⟨rfl,zqZ _⟩
  |cons k l ih=>
   refine⟨?_,?_⟩
   ·show((PyData.int (k:Nat)).canLay0 && PyData.canLayAll0 (l.map fun k=>PyData.int (k:Nat)))=true;rw[ih.1];rfl
   ·show max (PyData.int (k:Nat)).depth (PyData.depthAll<|l.map fun k=>PyData.int (k:Nat))<=1;have:(PyData.int (k:Nat)).depth=0:=rfl;rw[this];lia
 obtain⟨c,d⟩:=h ns;unfold SeqAt.shaped;have e:(PyData.list<|ns.map fun k=>PyData.int (k:Nat)).canLay0=true:=c;have e2:(PyData.list<|ns.map fun k=>PyData.int (k:Nat)).depth<=64:=by show PyData.depthAll (ns.map fun k=>PyData.int (k:Nat))+1<=64;lia
 rw[e,zqT e2];rfl
theorem Er:∀ns:List Nat,IsL H (ns.map fun k=>PyData.int (k:Nat)) (iV ns)
 |[]=>rfl
 |k::r=>⟨_,_,rfl,rfl,Er r⟩
theorem aep{b:Addr}{ns:List Nat}(ha:H a=some (.lst<|iV ns))(hb:H b=some (.lst<|iV ns))(q:Q (.bl false) H):dG K .NotEq (.ref a) (.ref b) H Q:=by
 refine⟨.list<|ns.map fun k=>PyData.int (k:Nat),.list<|ns.map fun k=>PyData.int (k:Nat),⟨a,_,rfl,ha,Er ns⟩,⟨b,_,rfl,hb,Er ns⟩,Ep ns,Ep ns,?_⟩;rw[SeqAt.eqv_refl _<|SeqAt.canLay_of_shaped<|Ep ns];exact q
theorem aeq{b:Addr}(ha:H a=some (.lst []))(hb:H b=some (.lst []))(q:Q (.bl true) H):dG K .Eq (.ref a) (.ref b) H Q:=
 ⟨.list [],.list [],⟨a,[],rfl,ha,rfl⟩,⟨b,[],rfl,hb,rfl⟩,(by decide),(by decide),q⟩
theorem aer{nq kY:Addr}{r1 r2:Rw}{F1 F2:Fo}{v1 v2:Va}{b1 b2:Nat}(S1:bg C H nq r1 F1 v1 b1 n1)(S2:bg C H kY r2 F2 v2 b2 n2)(h3:σ[3]?=some (some<|.ref r1.r0))(h5:σ[5]?=some (some<|.ref r2.r0))(l1:b1<=100000)(l2:b2<=100000)(k:∀H',Q (.bl true) H'):
  ah Γ (.cmp .Eq (.comp none [] .list [(.bin .Add (.ba (.v 3)<|.c<|.str "held")<|.ba (.v 5)<|.c<|.str "held")] (some<|.cmp .NotEq (.ix (.v 0)<|.c<|.int 0)<|.ix (.v 0)<|.c<|.int 1)<|.v 0)<|.lst []) σ H Q:=by
 obtain⟨ha,e1,g1,w1⟩:=S1.rs.r5;obtain⟨hb,e2,g2,w2⟩:=S2.rs.r5;refine vj<|Ou<|aK<|cO h3 S1.rs.r1 D4<|cO h5 S2.rs.r1 D4<|.inl ⟨r1.hd,r2.hd,ha,hb,rfl,rfl,e1,e2,cz (by lia),fun p fp=>?_⟩
 have s:=sameNew (o:=.lst (ha++hb)) fp;refine⟨p,rfl,⟨_,av.of ax⟩,DW (K:=Γ.K) (fun _=>false) ax (by rw[zqA];lia) (fun x kk hx q=>?_) (fun x kk _ q=>ae rfl q) fun u fu=>?_⟩
 ·obtain⟨t,a,b,ns,rfl,ht,_,_,ea,eb⟩:∃t a b ns,x=.ref t/\upd H p (.lst<|ha++hb) t=some (.tup [.ref a,.ref b])/\True/\True/\upd H p (.lst<|ha++hb) a=some (.lst<|iV ns)/\upd H p (.lst<|ha++hb) b=some (.lst<|iV ns):=by
   rcases zaa.mp hx with hx|hx
   ·obtain⟨t,a,b,ns,rfl,ht,_,_,ea,eb⟩:=w1 x hx;exact⟨t,a,b,ns,rfl,s _ _ ht,trivial,trivial,s _ _ ea,s _ _ eb⟩
   ·obtain⟨t,a,b,ns,rfl,ht,_,_,ea,eb⟩:=w2 x hx;exact⟨t,a,b,ns,rfl,s _ _ ht,trivial,trivial,s _ _ ea,s _ _ eb⟩
  refine aZ<|bD<|ae rfl<|au<|qO ht rfl<|bD<|ae rfl<|au<|qO ht rfl ?_;exact aep ea eb ⟨_,rfl,q⟩
 ·have e:(ha++hb).filter (fun _=>false)=[]:=by simp
  rw[e];refine cm<|aE ⟨zqZ _,fun z fz=>?_⟩;exact aeq (sameNew fz _ _ ax) ax<|k _
def OE:List RS:=[.ite (.or [(.not (.call 3 [.v 2,.v 3,.v 6])),(.not (.call 3 [.v 4,.v 5,(.bin .FloorDiv (.v 6) (.c (.int 5)))]))]) [.ret (.c (.bl false))] [],
  .ite (.and [(.cmp .Eq (.bin .Mod (.bin .FloorDiv (.v 6)<|.c<|.int 512)<|.c<|.int 2)<|.c<|.int 0),(.not<|.call 4 [.v 2,.v 3,(.bin .FloorDiv (.v 6)<|.c<|.int 1024)])]) [.ret<|.c<|.bl false] [],
  .ite (.not (.call 2 [.v 2,.v 3,(.bin .FloorDiv (.v 6) (.c (.int 64)))])) [.ret (.c (.bl false))] []]
theorem aes{e:Addr}{r1 r2:Rw}{F1 F2:Fo}{v1 v2:Va}{b:Nat}{c:Int}{a0 a1:Option V}(L:gp C H0 H p1 p2 r1 r2 F1 F2 v1 v2 b n1 0 n2)(he:r1.ea=some e)(hb:b<=50000)(h1:n1<=80)(h2:n2<=80)
  (k:∀Es Et Eu Ew H',gp C H0 H' p1 p2 r1 r2 Es Et Eu Ew (b+600) (n1+2) 0 (n2+1)->D.nx [a0,a1,some<|.ref p1,some<|.ref r1.r0,some<|.ref p2,some<|.ref r2.r0,some<|.int c,none,none] H'):
  ay (GL K C CP E) OE D [a0,a1,some<|.ref p1,some<|.ref r1.r0,some<|.ref p2,some<|.ref r2.r0,some<|.int c,none,none] H:=by
 refine br<|nG<|gj<|hZ (zA C) rfl<|aq<|ae rfl<|aq<|ae rfl<|aq<|ae rfl<|aE ⟨p1,r1,F1,v1,b,n1,c,rfl,L.s1,by lia,fun F3 v3 H3 g3 S3=>fV<|iF ?_ rfl⟩
 have L3:=L.tU g3 S3;refine gj<|hZ (zA C) rfl<|aq<|ae rfl<|aq<|ae rfl<|aq<|aK<|ae rfl<|au ⟨⟨by decide,by decide⟩,aE ⟨p2,r2,F2,v2,0,n2,_,rfl,L3.s2,by lia,fun F4 v4 H4 g4 S4=>fV<|iF (cM ?_) rfl⟩⟩
 have L4:=L3.go2 g4 S4;have c2:(0:Int) <2:=by decide
 have fin:∀{F5:Fo}{v5:Va}{H5:Hp},gp C H0 H5 p1 p2 r1 r2 F5 F4 v5 v4 b (n1+2) 0 (n2+1)->ay (GL K C CP E) [.ite (.not<|.call 2 [.v 2,.v 3,(.bin .FloorDiv (.v 6)<|.c<|.int 64)]) [.ret<|.c<|.bl false] []] D [a0,a1,some<|.ref p1,some<|.ref r1.r0,some<|.ref p2,some<|.ref r2.r0,some<|.int c,none,none] H5:=by
  intro F5 v5 H5 L5;refine br<|gj<|hZ (tP C) rfl<|aq<|ae rfl<|aq<|ae rfl<|aq<|aK<|ae rfl<|au ⟨⟨by decide,by decide⟩,aE ⟨p1,r1,F5,v5,b,n1+2,_,rfl,L5.s1,by lia,by lia,fun F6 H6 g6 S6=>fV<|iF (cM ?_) rfl⟩⟩
  exact k _ _ _ _ _<|L5.tU g6 S6
 refine br<|sX<|aZ<|aK<|aK<|ae rfl<|au ⟨⟨by decide,by decide⟩,au ⟨c2,au<|eG ⟨_,rfl,gE (fun _=>?_)<|fun _=>iF (cM ?_) rfl⟩⟩⟩
 ·refine gj (hZ (Em C) rfl<|aq<|ae rfl<|aq<|ae rfl<|aq<|aK<|ae rfl<|au ⟨⟨by decide,by decide⟩,aE ⟨p1,r1,F3,v3,b,n1+1,_,e,rfl,L4.s1,he,by lia,fun H5 g5 S5=>fV<|iF (cM ?_) rfl⟩⟩)
  exact fin<|L4.tU g5 S5
 ·exact fin (L4.tU (Go.of<|aA.refl _)<|L4.s1.up (zqR _)<|zaI _)
end
section
variable {K:Frag}{C CP:Addr}{E:XK}{Q:VK}
theorem OF(h:H z=some (.lst xs)):lO (.ref z) H:=by
 refine .inr ?_;unfold jm bX
 simp only[h]
 rfl
theorem aet{len:Nat}{e:Int}(hz:H z=some (.lst [V.int 0]))(e0:0<=e)(hl:len<=1000):∀d,d<8->∃x,([V.int<|-1 - e,V.int<|((len:Nat):Int)+e,V.bl true,V.bl false,V.az,V.str "0",V.ref z,V.int<|10 ^ 9]:List V)[d]?=some x/\qM x 0 ((len:Nat) - 1:Int) H
 | 0,_=>⟨_,rfl,.inr ⟨_,rfl,.inl (by lia)⟩⟩
 | 1,_=>⟨_,rfl,.inr ⟨_,rfl,.inr (by lia)⟩⟩
 | 2,_=>⟨_,rfl,.inl<|.inl ⟨_,rfl⟩⟩
 | 3,_=>⟨_,rfl,.inl<|.inl ⟨_,rfl⟩⟩
 | 4,_=>⟨_,rfl,.inl<|.inr rfl⟩
 | 5,_=>⟨_,rfl,.inl<|.inr rfl⟩
 | 6,_=>⟨_,rfl,.inl<|OF hz⟩
 | 7,_=>⟨_,rfl,.inr ⟨_,rfl,.inr (by lia)⟩⟩
theorem aeu{e:Int}(hz:H z=some (.lst [V.int 0]))(e0:0<=e):∀d,d<6->∃x,([V.int<|-1 - e,V.bl true,V.bl false,V.az,V.str "0",V.ref z]:List V)[d]?=some x/\(lO x H\/∃i:Int,x=.int i/\i<0)
 | 0,_=>⟨_,rfl,.inr ⟨_,rfl,by lia⟩⟩
 | 1,_=>⟨_,rfl,.inl<|.inl ⟨_,rfl⟩⟩
 | 2,_=>⟨_,rfl,.inl<|.inl ⟨_,rfl⟩⟩
 | 3,_=>⟨_,rfl,.inl<|.inr rfl⟩
 | 4,_=>⟨_,rfl,.inl<|.inr rfl⟩
 | 5,_=>⟨_,rfl,.inl<|OF hz⟩
theorem aev{r1 r2:Rw}{F1 F2:Fo}{v1 v2:Va}{b1 b2:Nat}{c:Int}{a0 a1 a7:Option V}(L:gp C H0 H p1 p2 r1 r2 F1 F2 v1 v2 b1 n1 b2 n2)(h1:b1<=50000)(h2:b2<=50000)(hn:n1<=100)(q:∀H',Q (.bl true) H'):
  ay (GL K C CP E) (cy.drop 11) (Dn Q) [a0,a1,some<|.ref p1,some<|.ref r1.r0,some<|.ref p2,some<|.ref r2.r0,some<|.int c,a7,none] H:=by
 have c9:(0:Int) <9:=by decide
 have c6:(0:Int) <6:=by decide
 have e0:0<=c / 56 % 9:=zaF _ (by decide)
 obtain⟨d,ed,hd⟩:=pf (c / 6) (show 0<6 by decide)
 have ed:c / 6 % 6=(d:Nat):=ed;refine bc<|bD<|cm<|aq<|aK<|h9<|aK<|aK<|ae rfl<|au ⟨⟨by decide,by decide⟩,au ⟨c9,trivial,?_⟩⟩
 refine aq<|au<|aq<|au<|aq<|au<|aq<|au<|aq<|cm<|aq<|au<|aE ⟨dw,fun z fz=>aE ⟨OR,fun l fl=>?_⟩⟩;show ah (GL K C CP E) (.bin .Mod (.bin .FloorDiv (.v 6)<|.c<|.int 6)<|.c<|.int 6) [a0,a1,some<|.ref p1,some<|.ref r1.r0,some<|.ref p2,some<|.ref r2.r0,some<|.int c,a7,none] (upd (upd H z<|.lst [V.int 0]) l<|.lst [V.int<|-1 - c / 56 % 9,V.bl true,V.bl false,V.az,V.str "0",V.ref z]) _;have s1:=sameNew (o:=.lst [V.int 0]) fz;have s2:=sameNew (o:=.lst [V.int<|-1 - c / 56 % 9,V.bl true,V.bl false,V.az,V.str "0",V.ref z]) fl;have hz:=s2 _ _ (ax (H:=H) (a:=z) (o:=.lst [V.int 0]));have hl:upd (upd H z<|.lst [V.int 0]) l (.lst [V.int<|-1 - c / 56 % 9,V.bl true,V.bl false,V.az,V.str "0",V.ref z]) l=some (.lst [V.int<|-1 - c / 56 % 9,V.bl true,V.bl false,V.az,V.str "0",V.ref z]):=ax;have L2:=L.same (s1.trans s2);generalize upd (upd H z<|.lst [V.int 0]) l (.lst [V.int<|-1 - c / 56 % 9,V.bl true,V.bl false,V.az,V.str "0",V.ref z])=H2 at hz hl L2⊢;obtain⟨x,hx,hb⟩:=aeu hz e0 d hd;refine aK<|aK<|ae rfl<|au ⟨⟨by decide,by decide⟩,au ⟨c6,?_⟩⟩
 show lA _ _ (.ref l) (.int<|c / 6 % 6) _ _;rw[ed];refine cp hl (cB hx) ?_;refine br<|nG<|aZ<|bZ (rn C) rfl<|aq<|ae rfl<|aq<|au<|aq<|ae rfl<|aE ⟨p1,F1.M,F1.Ed,v1.wn,v1.ww,_,v1.b_,28,6,_,rfl,L2.s1.hi,.inr<|.inr ⟨rfl,hb,fun H3 s3=>au<|vp ⟨_,rfl,iF ?_ (by decide+kernel)⟩⟩⟩
 have L3:=L2.same s3;refine gj<|hZ (tP C) rfl<|aq<|ae rfl<|aq<|ae rfl<|aq<|aK<|ae rfl<|au ⟨⟨by decide,by decide⟩,aE ⟨p1,r1,F1,v1,b1,n1,_,rfl,L3.s1,by lia,by lia,fun F4 H4 g4 S4=>fV<|iF (cM ?_) rfl⟩⟩
 have L4:=L3.tU g4 S4;exact bI<|aer L4.s1 L4.s2 rfl rfl (by lia) (by lia) q
theorem aew{r1 r2:Rw}{F1 F2:Fo}{v1 v2:Va}{b1:Nat}{ns:List Int}{a1 u6:Option V}(ha:av K H0 a (ns.map V.int))(L:gp C H0 H p1 p2 r1 r2 F1 F2 v1 v2 b1 n1 0 n2)(h1:b1<=50000)(hn:n1<=100)(jc:n2<=100)(q:∀H',Q (.bl true) H'):
  ay (GL K C CP E) (cy.drop 7) (Dn Q) [some<|.ref a,a1,some<|.ref p1,some<|.ref r1.r0,some<|.ref p2,some<|.ref r2.r0,u6,none,none] H:=by
 have c9:(0:Int) <9:=by decide
 have c6:(0:Int) <6:=by decide
 have c8:(0:Int) <8:=by decide
 refine br<|gj<|hZ (tP C) rfl<|aq<|ae rfl<|aq<|ae rfl<|aq<|Eo ha 2 L.sm rfl (by decide)<|aE ⟨p2,r2,F2,v2,0,n2,_,rfl,L.s2,by lia,by lia,fun F4 H4 g4 S4=>fV<|iF (cM ?_) rfl⟩
 have L4:=L.go2 g4 S4;refine bc<|Eo ha 1 L4.sm rfl (by decide) ?_
 generalize cell ns (1:Int).toNat=c;have e0:0<=c / 56 % 9:=zaF _ (by decide)
 obtain⟨d,ed,hd⟩:=pf (c / 6) (show 0<8 by decide)
 have ed:c / 6 % 8=(d:Nat):=ed;obtain⟨w,ew,hw⟩:=pf c (show 0<6 by decide)
 have ew:c % 6=(w:Nat):=ew;refine bc<|cm<|aq<|aK<|h9<|aK<|aK<|ae rfl<|au ⟨⟨by decide,by decide⟩,au ⟨c9,trivial,?_⟩⟩
 refine aq<|aK<|dP<|cO rfl L4.s1.rs.r1 kD<|.inl ⟨_,av.of L4.s1.rs.r2,?_⟩;rw[zab];refine aK<|aK<|ae rfl<|au ⟨⟨by decide,by decide⟩,au ⟨c9,jn ?_⟩⟩
 refine aq<|au<|aq<|au<|aq<|au<|aq<|au<|aq<|cm<|aq<|au<|aE ⟨dw,fun z fz=>aq<|aK<|au<|au ⟨⟨by decide,by decide,by decide⟩,aE ⟨OS,fun l fl=>?_⟩⟩⟩
 show ay (GL K C CP E) (cy.drop 10) (Dn Q) [some<|.ref a,a1,some<|.ref p1,some<|.ref r1.r0,some<|.ref p2,some<|.ref r2.r0,some<|.int c,some<|.ref l,none] (upd (upd H4 z<|.lst [V.int 0]) l<|.lst [V.int<|-1 - c / 56 % 9,V.int<|((v1.ww.length:Nat):Int)+c / 56 % 9,V.bl true,V.bl false,V.az,V.str "0",V.ref z,V.int<|10 ^ 9]);have s1:=sameNew (o:=.lst [V.int 0]) fz;have s2:=sameNew (o:=.lst [V.int<|-1 - c / 56 % 9,V.int<|((v1.ww.length:Nat):Int)+c / 56 % 9,V.bl true,V.bl false,V.az,V.str "0",V.ref z,V.int<|10 ^ 9]) fl;have hz:=s2 _ _ (ax (H:=H4) (a:=z) (o:=.lst [V.int 0]));have hl:upd (upd H4 z<|.lst [V.int 0]) l (.lst [V.int<|-1 - c / 56 % 9,V.int<|((v1.ww.length:Nat):Int)+c / 56 % 9,V.bl true,V.bl false,V.az,V.str "0",V.ref z,V.int<|10 ^ 9]) l=some (.lst [V.int<|-1 - c / 56 % 9,V.int<|((v1.ww.length:Nat):Int)+c / 56 % 9,V.bl true,V.bl false,V.az,V.str "0",V.ref z,V.int<|10 ^ 9]):=ax;have L5:=L4.same (s1.trans s2);generalize upd (upd H4 z<|.lst [V.int 0]) l (.lst [V.int<|-1 - c / 56 % 9,V.int<|((v1.ww.length:Nat):Int)+c / 56 % 9,V.bl true,V.bl false,V.az,V.str "0",V.ref z,V.int<|10 ^ 9])=H5 at hz hl L5⊢;have sz:=L5.s1.sz;obtain⟨x,hx,hb⟩:=aet (len:=v1.ww.length) hz e0 (by lia) d hd
 refine br<|aZ<|bZ (rn C) rfl<|aq<|ae rfl<|aq<|aK<|ae rfl<|au ⟨c6,aq<|bD<|ae rfl<|aK<|aK<|ae rfl<|au ⟨⟨by decide,by decide⟩,au ⟨c8,?_⟩⟩⟩
 show lA _ _ (.ref l) (.int<|c / 6 % 8) _ _;rw[ed];refine cp hl (cB hx)<|aE ⟨p1,F1.M,F1.Ed,v1.wn,v1.ww,_,v1.b_,28,w,x,?_,L5.s1.hi,.inr<|.inl ⟨by lia,hb,fun H6 s6=>au<|vp ⟨_,rfl,iF (cM ?_) (by decide+kernel)⟩⟩⟩
 ·show[V.ref p1,V.int<|c % 6,x]=_;rw[ew]
 ·exact aev (L5.same s6) h1 (by lia) hn q
def zH(K:Frag):Sp:=fun vs H Q E=>∃(a:Addr) (ns:List Int),vs=[.ref a]/\av K H a (ns.map V.int)/\∀H',Q (.bl true) H'
theorem aex{e:Addr}{r1 r2:Rw}{F1 F2:Fo}{v1 v2:Va}{ns:List Int}{a1:Option V}(ha:av K H0 a (ns.map V.int))(L:gp C H0 H p1 p2 r1 r2 F1 F2 v1 v2 600 0 0 0)(he:r1.ea=some e)(q:∀H',Q (.bl true) H'):
  ay (GL K C CP E) (cy.drop 6) (Dn Q) [some<|.ref a,a1,some<|.ref p1,some<|.ref r1.r0,some<|.ref p2,some<|.ref r2.r0,none,none,none] H:=by
 refine CS (body:=OE)<|KL<|ae rfl<|au ⟨3,rfl,au ⟨17,rfl,.inl ⟨_,L.sm.seq ha,fun m fm=>?_⟩⟩⟩;have OG:=L.s1.there fm;have OH:=L.s2.there fm;have ec:=Zw (ns.map V.int) 3 17;rw[show((3:Nat):Int)=3 from rfl,show((17:Nat):Int)=17 from rfl] at ec
 rw[ec];have l14:(((ns.map V.int).drop 3).take<|17 - 3).length<=14:=by rw[zaE];lia
 have OI:∀v∈ ((ns.map V.int).drop 3).take (17 - 3),∃i:Int,v=.int i:=by
  intro v hv;obtain⟨i,_,e⟩:=zaY.mp (zbI<|zcl hv);exact⟨i,e.symm⟩
 generalize ((ns.map V.int).drop 3).take (17 - 3)=cs at l14 OI⊢;clear ec;have fm0:=L.sm.free fm;have s0:aA H0 (upd H0 m<|.lst cs):=sameNew fm0;have ki:=s0.seq ha;have L1:gp C (upd H0 m<|.lst cs) (upd H m<|.lst cs) p1 p2 r1 r2 F1 F2 v1 v2 600 0 0 0:=by
  have L':=L.same (sameNew (o:=.lst cs) fm);refine⟨L'.s1,L'.s2,L.ap,fun y o e=>?_,fun y h=>?_,fun y h=>?_⟩
  ·by_cases z:y=m
   ·subst z;rw[ax] at e⊢;exact e
   ·rw[aI z] at e⊢;exact L.sm _ _ e
  ·rw[aI]
   ·exact L.f1 y h
   ·intro z;rw[z] at h;rcases zaa.mp h with h|h
    ·exact OG (.inl h)
    ·exact OG (.inr<|.inr<|.inr h)
  ·rw[aI]
   ·exact L.f2 y h
   ·intro z;rw[z] at h;rcases zaa.mp h with h|h
    ·exact OH (.inl h)
    ·exact OH (.inr<|.inr<|.inr h)
 have hm:upd H0 m (.lst cs) m=some (.lst cs):=ax;generalize upd H0 m (.lst cs)=H00 at ki L1 hm;generalize upd H m (.lst cs)=H1 at L1⊢;refine⟨m,rfl,⟨_,av.of (L1.sm _ _ hm)⟩,kT (K:=K) (a:=m) (xs:=cs) (fun i σ H2=>∃F1 F2 v1 v2 u6,σ=[some (.ref a),a1,some (.ref p1),some (.ref r1.r0),some (.ref p2),some (.ref r2.r0),u6,none,none]/\gp C H00 H2 p1 p2 r1 r2 F1 F2 v1 v2 (600+600*i) (2*i) 0 i)
  ⟨F1,F2,v1,v2,none,rfl,L1⟩ (fun i σ H8 _ ⟨_,_,_,_,_,_,L8⟩=>av.of (L8.sm _ _ hm)) ?_ ?_⟩
 ·rintro i y σ H2 hy ⟨F1,F2,v1,v2,u6,rfl,L2⟩;obtain⟨c,rfl⟩:=OI y (zak hy);have hi:i<cs.length:=(zal.mp hy).1;exact aes L2 he (by lia) (by lia) (by lia) fun Es Et Eu Ew H' L'=>⟨Es,Et,Eu,Ew,_,rfl,L'⟩
 ·rintro σ H2 ⟨F1,F2,v1,v2,u6,rfl,L2⟩;exact aew ki L2 (by lia) (by lia) (by lia) q
theorem bes:good "beside\n"/\("beside\n":Str).length=7:=⟨⟨by decide+kernel,fun c hc=>by
 have h:(("beside\n":Str).cps.toList.all fun c=>SG.cps.contains c)=true:=by decide+kernel
 exact zaX.mp h c hc⟩,by decide+kernel⟩
theorem aeC:bE (zH K) (fun E=>GL K C CP E) cy ij:=by
 intro vs H Q E h;obtain⟨a,ns,rfl,ha,q⟩:=h;obtain⟨gb,lb⟩:=bes;refine bc<|bZ DQ rfl<|aq<|Eo ha 0 (aA.refl _) rfl (by decide)<|aE ⟨_,rfl,fun x H1 gx lx s1=>?_⟩
 refine bc<|yC C (qY C CP) rfl<|dP<|ae rfl ⟨cz gx.1,fun p1 dx fh fd ne=>⟨p1,dx,_,rfl,ax,.inl ⟨x.cps.toList,28,by rw[<-len_list],fun M1 H2 b2 fM A1=>⟨rfl,?_⟩⟩⟩⟩
 obtain⟨s2,f2⟩:=OB fh fd b2 fM;clear b2 fM fh fd ne;refine bc<|OA true (fun q=>ae rfl q) fun r1 H3 e1 s3 R1 OJ=>?_;have S1:=OC A1 s3 R1 OJ gx (by lia)
 refine bc<|yC C (qY C CP) rfl<|au fun p2 dx fh fd ne=>⟨p2,dx,_,rfl,ax,.inl ⟨("beside\n":Str).cps.toList,28,by rw[<-len_list,lb];rfl,fun M2 H4 b4 fM A2=>⟨rfl,?_⟩⟩⟩
 obtain⟨s4,f4⟩:=OB fh fd b4 fM;clear b4 fM fh fd ne;refine bc<|OA false (fun q=>au q) fun r2 H5 e2 s5 R2 Ex=>?_;have S2:=OC A2 s5 R2 Ex gb (by lia)
 have L:gp C H H5 p1 p2 r1 r2 ⟨M1,[],[]⟩ ⟨M2,[],[]⟩ ⟨0,[none],[x],[none],[none]⟩ ⟨0,[none],[("beside\n":Str)],[none],[none]⟩ 0 0 0 0:=by
  refine⟨S1.same<|s4.trans s5,S2,fun y h k=>?_,s1.trans<|s2.trans<|s3.trans<|s4.trans s5,fun y h=>?_,fun y h=>?_⟩
  ·rcases k with k|k|k|k
   ·exact S1.there (f4 y k) h
   ·cases k
   ·cases k
   ·exact S1.there (s4.free<|Ex y k) h
  ·rcases zaa.mp h with h|h
   ·exact s1.free (f2 y h)
   ·exact s1.free (s2.free<|OJ y h)
  ·rcases zaa.mp h with h|h
   ·exact(s1.trans<|s2.trans s3).free (f4 y h)
   ·exact(s1.trans<|s2.trans<|s3.trans s4).free (Ex y h)
 obtain⟨e,he⟩:∃e,r1.ea=some e:=zbx.mp e1;refine br<|gj<|hZ (tP C) rfl<|aq<|ae rfl<|aq<|ae rfl<|aq<|au<|aE ⟨p1,r1,_,_,0,0,0,rfl,L.s1,by lia,by lia,fun F6 H6 g6 S6=>fV<|iF (cM ?_) rfl⟩
 exact aex ha (L.tU g6 S6) he q
end
end L2.q9
namespace L2
open PySem PySem.Spec PyProof.Rows
open PySem.W (Frag nsIn findIn isFn keepIn codeIn fnOf mg_of mg_none_of)
def il(st:Stmt):List Str:=(jg st).args.map (·.arg)
structure Top (P:Program) (w:World) (K:Frag) (mg:Str->Option Value) (base:Heap):Prop where
 X:K.In base
 G:base.Ns mainGlobals mg
def bV(K:Frag)(x:Str)(st:Stmt):Prop:= ∃f fd,nsIn K mainGlobals x=some (some<|.ref f)/\n_ K x x st f fd
def eI(K:Frag)(C:Addr)(x q:Str)(st:Stmt):Prop:= ∃f fd,findIn K (.ref C) x=some (some<|.ref f)/\isFn K (.ref f)=true/\n_ K x q st f fd
structure zI (K:Frag) (x:Str) (C:Addr):Prop where
 g:nsIn K mainGlobals x=some (some<|.ref C)
 m:makesIn K C=true
 k:keepIn K (.ref C)=true
structure l_ (K:Frag) (p:Str×V):Prop where
 ex:∃u,nsIn K mainGlobals p.1=some (some u)/\RelV p.2 u
structure tV (K:Frag) (p:Str×Addr):Prop where
 g:nsIn K mainGlobals p.1=some (some<|.ref p.2)
 x:PySem.W.excIn K p.2 [.type "ValueError",.type "Exception",.type "BaseException",.type "object"] "ValueError.__new__"=true
section
variable {P:Program}{w:World}{K:Frag}{mg:Str->Option Value}{base:Heap}{x q:Str}{st:Stmt}{f C:Addr}{fd:FuncData}{k:Nat}{sp:Sp}
theorem dfk{oc:Value}{od an:Option Addr}{gX:Array (Option Value)}{kV doc pm bo ct:Value}(a:nsIn K mainGlobals x=some (some<|.ref f))(l:K.lookup f=some ⟨oc,od,.func<|fnOf x x (jg st) (fE st) (eO st) .none kV doc pm an bo ct,gX⟩)
  (c:codeIn K bo x=true) (k:keepIn K (.ref f)=true):bV K x st:=⟨f,_,a,F0 l c k⟩
theorem dmk{oc:Value}{od an:Option Addr}{gX:Array (Option Value)}{kV doc pm bo ct:Value}(a:findIn K (.ref C) x=some (some<|.ref f))(i:isFn K (.ref f)=true)(l:K.lookup f=some ⟨oc,od,.func<|fnOf x q (jg st) (fE st) (eO st) .none kV doc pm an bo ct,gX⟩)
  (c:codeIn K bo q=true) (k:keepIn K (.ref f)=true):eI K C x q st:=⟨f,_,a,i,F0 l c k⟩
theorem aeF{t:Tok}(h:nsIn K mainGlobals x=some (some<|.str y t)):l_ K (x,.str y):=⟨_,h,⟨_,rfl⟩⟩
theorem aeG{y:Addr}(h:nsIn K mainGlobals x=some (some<|.ref y)):l_ K (x,.ref y):=⟨_,h,rfl⟩
theorem aeH(h:findIn K (.ref C) y=some none):fP K C y:=h
theorem Top.gv{p:Str×V}(Z:Top P w K mg base)(h:l_ K p):uS mg p:=by
 obtain⟨u,a,b⟩:=h.ex;exact⟨u,mg_of Z.X Z.G a,b⟩
theorem Top.no(Z:Top P w K mg base)(h:nsIn K mainGlobals x=some none):mg x=none:=mg_none_of Z.X Z.G h
theorem Top.exc{p:Str×Addr}(Z:Top P w K mg base)(h:tV K p):xQ mg base p:=Za Z.X Z.G h.g h.x
structure ja (P:Program) (w:World) (K:Frag) (mg:Str->Option Value) (base:Heap) (k:Nat) (st:Stmt) (sp:Sp):Prop where
 ok:∀{x q:Str}{f:Addr}{fd:FuncData},n_ K x q st f fd->cI P w K mg base (eQ P w) k f fd (il st) sp
theorem ja.or{a b:Sp}(A:ja P w K mg base k st a)(C:ja P w K mg base k st b):ja P w K mg base k st (B.sT a b):=⟨fun F=>(A.ok F).or<|C.ok F⟩
theorem OK{N P:List Str}{sc:Scope}(a:sc.kind=.function:=by kernel_rfl)(b:sc.isCoroutine=false:=by kernel_rfl)(c:sc.isGenerator=false:=by kernel_rfl)(d:N.Nodup:=by decide+kernel)(e:N.take P.length=P:=by kernel_rfl)(f:∀x∈P,sc.names.lookup x=some .local\/sc.names.lookup x=some .cell:=by decide+kernel)(g:∀y∈sc.names,y.2≠ .free:=by decide+kernel):nW N P sc:=⟨a,b,c,d,e,f,g⟩
theorem dL{N N0 bl:List Str}{tab:List (Str×Sp)}{gt:List (Str×V)}{dk:List (Addr×List (Key×V))}{mt kt:List (Str×Addr×Sp)}{et:List (Str×Addr)}{ht:List (Str×Sp)}{body:List RS}(Z:Top P w K mg base)
  (qk:∀vs H Q E,sp vs H Q E->ay (aO K tab gt dk mt kt et ht E) body {nx:=fun _ H'=>Q .az H',rt:=Q} (start N0 vs) H)
  (hm:∀{CX:cg}{Γ:bx}{X:Cx},de CX (sA N (eO st) (tab.map (·.1)) (gt.map (·.1)) bl (mt.map (·.1)) (kt.map (·.1)) (et.map (·.1)) (ht.map (·.1))) Γ X->cP X (fE st) (ay Γ body)) (k:Nat)
  (len:∀vs H Q E,sp vs H Q E->vs.length=(il st).length:=by intro _ _ _ _ h;repeat (first| (obtain⟨rfl,_⟩:=h;kernel_rfl)| (obtain⟨_,h⟩:=h)))
  (By:∀p∈tab,lH P w K mg base k p.1 p.2:=by repeat (first|exact lU|refine lV (lH.mono (by assumption) (by first|decide|lia)) ?_))
  (qj:∀p∈gt,uS mg p:=by repeat (first|exact lU|refine lV (Top.gv (by assumption) (by assumption)) ?_))
  (mY:∀y∈bl,mg y=none:=by repeat (first|exact lU|refine lV (Top.no (by assumption) (by assumption)) ?_))
  (Bz:∀q∈dk,xO P w K q:=by repeat (first|exact lU|refine lV (by assumption) ?_))
  (BA:∀p∈mt,hU P w K mg base k p:=by repeat (first|exact lU|refine lV (hU.mono (by assumption) (by first|decide|lia)) ?_))
  (BB:∀p∈kt,qi P w K mg base k p:=by repeat (first|exact lU|refine lV (qi.mono (by assumption) (by first|decide|lia)) ?_))
  (het:∀p∈et,xQ mg base p:=by repeat (first|exact lU|refine lV (Top.exc (by assumption) (by assumption)) ?_))
  (BC:∀p∈ht,oF P w K mg base k p.1 p.2:=by repeat (first|exact lU|refine lV (oF.mono (by assumption) (by first|decide|lia)) ?_))
  (S:nW N (il st) (eO st):=by exact OK) (hN:N0.length=N.length:=by kernel_rfl):ja P w K mg base (k+1) st sp:=
 ⟨fun F=>VQ F S tab gt bl mt kt et ht body hm By qj mY dk Bz BA BB het BC len fun vs H Q E h=>by
  have r:=qk vs H Q E h;unfold start at r⊢;rw[hN] at r;exact r⟩
def Bd(x q:Str)(st:Stmt):Prop:= ∀kV doc pm an bo ct us,us.length=(il st).length->bindArgs (fnOf x q (jg st) (fE st) (eO st) .none kV doc pm an bo ct) ⟨us,[]⟩=pure ((il st).zip us)
theorem aeI(hp:(il st).length=1)(h:∀kV doc pm an bo ct a0,bindArgs (fnOf x q (jg st) (fE st) (eO st) .none kV doc pm an bo ct) ⟨[a0],[]⟩=pure ((il st).zip [a0])):Bd x q st:=fun kV doc pm an bo ct us hl=>by
 have e:=hl.trans hp;rcases us with _|⟨a0,_|⟨_,_⟩⟩ <;>first|exact h kV doc pm an bo ct _|exact absurd e (by simp)
theorem aeJ(hp:(il st).length=2)(h:∀kV doc pm an bo ct a0 a1,bindArgs (fnOf x q (jg st) (fE st) (eO st) .none kV doc pm an bo ct) ⟨[a0,a1],[]⟩=pure ((il st).zip [a0,a1])):Bd x q st:=fun kV doc pm an bo ct us hl=>by
 have e:=hl.trans hp;rcases us with _|⟨a0,_|⟨a1,_|⟨_,_⟩⟩⟩ <;>first|exact h kV doc pm an bo ct _ _|exact absurd e (by simp)
theorem aeK(hp:(il st).length=3)(h:∀kV doc pm an bo ct a0 a1 a2,bindArgs (fnOf x q (jg st) (fE st) (eO st) .none kV doc pm an bo ct) ⟨[a0,a1,a2],[]⟩=pure ((il st).zip [a0,a1,a2])):Bd x q st:=fun kV doc pm an bo ct us hl=>by
 have e:=hl.trans hp;rcases us with _|⟨a0,_|⟨a1,_|⟨a2,_|⟨_,_⟩⟩⟩⟩ <;>first|exact h kV doc pm an bo ct _ _ _|exact absurd e (by simp)
theorem aeL(hp:(il st).length=4)(h:∀kV doc pm an bo ct a0 a1 a2 a3,bindArgs (fnOf x q (jg st) (fE st) (eO st) .none kV doc pm an bo ct) ⟨[a0,a1,a2,a3],[]⟩=pure ((il st).zip [a0,a1,a2,a3])):Bd x q st:=fun kV doc pm an bo ct us hl=>by
 have e:=hl.trans hp;rcases us with _|⟨a0,_|⟨a1,_|⟨a2,_|⟨a3,_|⟨_,_⟩⟩⟩⟩⟩ <;>first|exact h kV doc pm an bo ct _ _ _ _|exact absurd e (by simp)
theorem zJ(hb:Bd x q st:=by first|exact aeI (by kernel_rfl) fun _ _ _ _ _ _ _=>rfl|exact aeJ (by kernel_rfl) fun _ _ _ _ _ _ _ _=>rfl|exact aeK (by kernel_rfl) fun _ _ _ _ _ _ _ _ _=>rfl|exact aeL (by kernel_rfl) fun _ _ _ _ _ _ _ _ _ _=>rfl|exact agv (by kernel_rfl) fun _ _ _ _ _ _ _ _ _ _ _=>rfl|exact agw (by kernel_rfl) fun _ _ _ _ _ _ _ _ _ _ _ _=>rfl|exact agx (by kernel_rfl) fun _ _ _ _ _ _ _ _ _ _ _ _ _=>rfl|exact agy (by kernel_rfl) fun _ _ _ _ _ _=>rfl):Bd x q st:=hb
theorem dT(Z:Top P w K mg base)(D:bV K x st)(R:ja P w K mg base k st sp)(hb:Bd x x st:=by exact zJ):lH P w K mg base k x sp:=by
 obtain⟨f,fd,a,F⟩:=D;exact⟨f,fd,_,R.ok F,mg_of Z.X Z.G a,F.kp,F.binds hb⟩
theorem dM(D:eI K C x q st)(c:fY K C)(R:ja P w K mg base k st sp)(hb:Bd x q st:=by exact zJ):hU P w K mg base k (x,C,sp):=by
 obtain⟨f,fd,a,i,F⟩:=D;exact⟨c,f,fd,_,⟨a,i,F.kp⟩,R.ok F,F.binds hb⟩
theorem dI{cn:Str}(Z:Top P w K mg base)(D:eI K C "__init__" q st)(M:zI K cn C)(R:ja P w K mg base k st sp)(hb:Bd "__init__" q st:=by exact zJ):qi P w K mg base (k+1) (cn,C,sp):=by
 obtain⟨f,fd,a,i,F⟩:=D;exact⟨k,f,fd,_,zqR _,⟨M.m,a,i,M.k⟩,R.ok F,mg_of Z.X Z.G M.g,F.binds hb⟩
theorem dH{N bl:List Str}{gt:List (Str×V)}(Z:Top P w K mg base)(D:bV K x st)
  (qk:∀vs H Q,sp vs H Q E0->ay (aO K [] gt) body {nx:=fun _ H'=>Q .az H',rt:=Q} (start N vs) H)
  (hm:∀{CX:cg}{Γ:bx}{X:Cx},de CX (sA N (eO st) [] (gt.map (·.1)) bl (md:=1)) Γ X->cP X (fE st) (ay Γ body)) (k:Nat)
  (len:∀vs H Q E,sp vs H Q E->vs.length=(il st).length:=by intro _ _ _ _ h;repeat (first| (obtain⟨rfl,_⟩:=h;kernel_rfl)| (obtain⟨_,h⟩:=h)))
  (qj:∀p∈gt,uS mg p:=by repeat (first|exact lU|refine lV (Top.gv (by assumption) (by assumption)) ?_))
  (mY:∀y∈bl,mg y=none:=by repeat (first|exact lU|refine lV (Top.no (by assumption) (by assumption)) ?_))
  (S:nW N (il st) (eO st):=by exact OK) (hb:Bd x x st:=by exact zJ):oF P w K mg base (k+1) x sp:=by
 obtain⟨f,fd,a,F⟩:=D;exact VR F S (mg_of Z.X Z.G a) (F.binds hb) gt bl body hm qj mY len qk
theorem hU.l{a b:Sp}(T:hU P w K mg base k (x,C,B.sT a b)):hU P w K mg base k (x,C,a):=T.weak fun _ _ _ _ h=>.inl h
theorem hU.r{a b:Sp}(T:hU P w K mg base k (x,C,B.sT a b)):hU P w K mg base k (x,C,b):=T.weak fun _ _ _ _ h=>.inr h
theorem aeM{h:Heap}{fa:Addr}(X:K.In h)(G:h.Ns mainGlobals mg)(nB:mg x=some (.ref fa))(D:bV K x st)
  (R:∀base,Top P w K mg base->ja P w K mg base k st sp) (hp:il st=[y]:=by kernel_rfl)
  (hb:∀kV doc pm an bo ct a0,bindArgs (fnOf x x (jg st) (fE st) (eO st) .none kV doc pm an bo ct) ⟨[a0],[]⟩=pure [(y,a0)]:=by exact fun _ _ _ _ _ _ _=>rfl):
  ∃fd:FuncData,(∀s v,BindsTo s fd ⟨[v],[]⟩ [(y,v)])/\∀base:Heap,K.In base->base.Ns mainGlobals mg->cI P w K mg base um k fa fd [y] (fun vs H Q _=>sp vs H Q E0):=by
 obtain⟨f,fd,e,F⟩:=D;cases nB.symm.trans (mg_of X G e);have F':=F;obtain⟨oc,od,kV,doc,pm,an,bo,ct,gX,rfl,lk,iK⟩:=F'.ex;refine⟨_,fun s v=>.of_eq<|hb kV doc pm an bo ct v,fun base X2 G2=>?_⟩;have r:=(R base ⟨X2,G2⟩).ok F;rw[hp] at r;exact cI.top r
def OL(K:Frag)(cs:List Addr)(cU D:Addr)(j:Nat):Bool:=(cs.zipIdx.all fun c=>kitOne K (.ref D) (.ref c.1)==some (decide<|c.2=j)) && kitOne K (.ref D) (.ref cU)==some true && kitOne K (.ref D) (.type "ValueError")==some true
structure tW (K:Frag) (cs:List Addr) (cU D:Addr) (j:Nat):Prop where
 c:uw K D
 b:OL K cs cU D j=true
 x:exmOne K (.ref D) (.ref cU)=some true
theorem tW.OM{cs:List Addr}{cU D:Addr}(h:tW K cs cU D j):B.vk K cs cU D j:=by
 have b:=h.b
 simp only[OL,zaf,beq_iff_eq,zaX] at b
 refine⟨h.c,fun i c e=>b.1.1 (c,i) ?_,b.1.2,b.2⟩;rw[List.mem_zipIdx_iff_getElem?];exact e
end
end L2
namespace L2.q9
open PySem PySem.Spec PyProof.Rows L2.B
theorem all_mk{P:Program}{w:World}{K:Frag}{h:Heap}{mg:Str->Option Value}{fa rp gu zK tX rq tY ph Ey:Addr}(X:K.In h)(G:h.Ns mainGlobals mg)(nB:mg "law"=some (.ref fa))
  {aeN:Nat}{aeO aeP aeQ aeR aeS aeT:Tok}
  (agz:l_ K ("InkError",.ref zK))
  (agA:l_ K ("BadChange",.ref tX))
  (agB:l_ K ("BadFit",.ref rq))
  (agC:l_ K ("NoPlace",.ref tY))
  (agD:l_ K ("NoNode",.ref ph))
  (aeU:zI K "Walk" rp)
  (aeV:zI K "History" gu)
  (pj:qA K rp)
  (c_:gK K gu)
  (agE:tV K ("BadChange",tX))
  (agF:tV K ("BadFit",rq))
  (agG:tV K ("NoPlace",tY))
  (agH:tV K ("NoNode",ph))
  (ON:tW K [ph,tY,tX,rq] zK ph 0)
  (OO:tW K [ph,tY,tX,rq] zK tY 1)
  (w_y:tW K [] ph ph 0)
  (a0:bV K "is_whole" Mz)
  (a1:bV K "is_between" MA)
  (a2:bV K "is_word" MB)
  (a3:bV K "is_text" MC)
  (a4:bV K "is_part" MD)
  (a5:bV K "may_follow" ME)
  (a6:bV K "need_change" MF)
  (a7:bV K "part_size" MG)
  (a8:bV K "sizes" MH)
  (a9:eI K rp "__init__" "Walk.__init__" MI)
  (a10:eI K rp "word" "Walk.word" MJ)
  (a11:eI K rp "left" "Walk.left" MK)
  (a12:eI K rp "take" "Walk.take" ML)
  (a13:bV K "add_keep" MM)
  (a14:bV K "add_texts" MN)
  (a15:bV K "neat" MO)
  (a16:bV K "back" MP)
  (a17:bV K "cut_behind" MQ)
  (a18:bV K "parts_behind" MR)
  (a19:bV K "then" MS)
  (a20:bV K "joined_all" MT)
  (a21:eI K gu "__init__" "History.__init__" MU)
  (a22:eI K gu "need_node" "History.need_node" MV)
  (a23:eI K gu "need_over" "History.need_over" MW)
  (a24:eI K gu "now" "History.now" M0)
  (a25:eI K gu "many" "History.many" M3)
  (a26:eI K gu "parent" "History.parent" M4)
  (a27:eI K gu "children" "History.children" M6)
  (a28:eI K gu "size" "History.size" M8)
  (a29:eI K gu "do" "History.do" M_)
  (a30:eI K gu "edge" "History.edge" Na)
  (a31:eI K gu "along" "History.along" Nb)
  (a32:eI K gu "undo" "History.undo" Nc)
  (a33:eI K gu "redo" "History.redo" Nd)
  (a34:eI K gu "go" "History.go" Nf)
  (a35:eI K gu "upward" "History.upward" Nh)
  (a36:eI K gu "way" "History.way" Ni)
  (a37:bV K "_law_cell_at" Nk)
  (a38:bV K "_law_signs" Nl)
  (a39:bV K "_law_text_by" Nm)
  (a40:bV K "_law_neat" Nn)
  (a41:bV K "_law_change_by" Np)
  (a42:bV K "_law_done" Nq)
  (a43:bV K "_law_whole" Nt)
  (a44:bV K "_law_wholes" Nw)
  (a45:bV K "_law_up" Nx)
  (a46:bV K "_law_way" Ny)
  (a47:bV K "_law_parents" NB)
  (a48:bV K "_law_children" NF)
  (a49:bV K "_law_asked" NI)
  (a50:bV K "_law_stands" NL)
  (a51:bV K "_law_way_right" NO)
  (a52:bV K "_law_gone" NR)
  (a53:bV K "_law_deed" fk)
  (a54:bV K "_law_names" NV)
  (a55:bV K "_law_refused" NY)
  (a56:bV K "_law_early" N2)
  (a57:bV K "law" cW)
  (agI:l_ K ("SIGNS",.str SG))
  (agJ:l_ K ("WAYS_BACK",.ref Ey))
  (afI:K.lookup Ey=some ⟨.type "dict",none,.dict #[⟨PyData.keyHash w.params "keep",.str "keep" aeO,.str "keep" aeP⟩,⟨PyData.keyHash w.params "cut",.str "cut" aeQ,.str "put" aeR⟩,⟨PyData.keyHash w.params "put",.str "put" aeS,.str "cut" aeT⟩] aeN,#[]⟩)
  (agK:nsIn K mainGlobals "ValueError"=some none)
  (agL:nsIn K mainGlobals "bool"=some none)
  (agM:nsIn K mainGlobals "int"=some none)
  (agN:nsIn K mainGlobals "isinstance"=some none)
  (agO:nsIn K mainGlobals "len"=some none)
  (agP:nsIn K mainGlobals "list"=some none)
  (agQ:nsIn K mainGlobals "min"=some none)
  (agR:nsIn K mainGlobals "range"=some none)
  (agS:nsIn K mainGlobals "reversed"=some none)
  (agT:nsIn K mainGlobals "str"=some none)
  (agU:nsIn K mainGlobals "sum"=some none)
  (agV:nsIn K mainGlobals "tuple"=some none)
  (agW:nsIn K mainGlobals "zip"=some none)
  :∃fd:FuncData,(∀(s:Shared) (v:Value),BindsTo s fd ⟨[v],[]⟩ [("_law_script",v)])/\∀base:Heap,K.In base->base.Ns mainGlobals mg->cI P w K mg base um 11 fa fd ["_law_script"] (fun vs H Q _=>(zH K) vs H Q E0):=by
 have agX:xO P w K (Ey,WB):=Y_ afI (.cons ⟨_,rfl⟩<|.cons ⟨_,rfl⟩<|.cons ⟨_,rfl⟩ .nil) (by decide)
 have afJ:=ON.OM;have afK:=ON.x;have afL:=OO.OM;have afM:=OO.x;have X_y:=w_y.x;refine aeM X G nB a57 fun base Z=>?_;have T0:=dT Z a0 (dL Z X6 @abR 0);have T1:=dT Z a1 (dL Z Zb @abS 1);have T2:=dT Z a2 (dL Z X8 @abT 0);have T3:=dT Z a3 (dL Z X7 @abU 0);have T4:=dT Z a4 (dL Z X_ @abV 1);have agY:=T4.weak (a:=BZ) fun _ _ _ _ h=>Yb h;have T5:=dT Z a5 (dL Z WE @abW 0);have T6:=dT Z a6 (dL Z (WO (et:=[("BadChange",tX)])) @abX 2);have T7:=dT Z a7 (dL Z WG @abY 0);have T8:=dT Z a8 (dL Z WR @abZ 3);have T9:=dI Z a9 aeU (dL Z (Yi pj) @ab0 0);have T10:=dM a10 pj.cl (dL Z (Yj pj) @ab1 0);have T11:=dM a11 pj.cl (dL Z (Yk pj) @ab2 1);have ag0:=T11.weak (a:=oU rp) fun _ _ _ _ h=>Yl h;have T12:=dM a12 pj.cl (dL Z (Ym pj) @ab3 2);have T13:=dT Z a13 (dL Z WZ @ab4 0);have T14:=dT Z a14 (dL Z WU @ab5 0);have T15:=dT Z a15 (dL Z W_ @ab6 1);have T16:=dT Z a16 (dL Z XE @ab7 3);have T17:=dT Z a17 (dL Z (Ys (et:=[("BadFit",rq)])) @ab8 0);have T18:=dT Z a18 (dL Z Yw @ab9 3);have T19:=dT Z a19 (dL Z (YO (et:=[("BadFit",rq)]) pj) @ab_ 4);have T20:=dT Z a20 (dL Z N.ZD @aca 5);have T21:=dI Z a21 aeV (dL Z (N.aa0 c_) @acb 1);have T25:=dM a25 c_.cl (dL Z (N.ZJ c_) @acg 0);have T22:=dM a22 c_.cl (dL Z N.ZK @acd 2);have T23:=dM a23 c_.cl (dL Z (N.ZV c_) @ace 4);have T24:=dM a24 c_.cl (dL Z (adw c_) @acf 0);have T26:=dM a26 c_.cl (ja.or (dL Z (N.ZM c_) @M5 3)<|dL Z N.abG @M5 3);have ahe:=T26.l;have T27:=dM a27 c_.cl (ja.or (dL Z (adx c_) @M7 3)<|dL Z ady @M7 3);have ahf:=T27.l;have T28:=dM a28 c_.cl (ja.or (dL Z (N.ZN c_) @M9 3)<|dL Z N.abH @M9 3);have T29:=dM a29 c_.cl (dL Z (N.aaj c_) @ach 5);have T30:=dM a30 c_.cl (dL Z (N.ZT c_) @aci 4);have T31:=dM a31 c_.cl (dL Z (N.aaF c_) @acj 6);have T32:=dM a32 c_.cl (dL Z (N.aaX c_) @ack 7);have T33:=dM a33 c_.cl (dL Z (N.aaY c_) @acm 7);have T35:=dM a35 c_.cl (dL Z (N.ZP c_) @acn 0);have OP:=dM a36 c_.cl (ja.or (dL Z N.ZQ @Nj 3)<|dL Z N.abI @Nj 3);have ahn:=OP.l;have aho:=OP.r;have T34:=dM a34 c_.cl (ja.or (dL Z (N.aaZ c_) @Ng 7)<|dL Z (N.abJ c_) @Ng 7);have ahp:=T34.l;have T37:=dT Z a37 (dL Z WH @aco 0);have T38:=dT Z a38 (dL Z N.abj @acp 0);have T39:=dT Z a39 (dL Z N.abl @acq 1);have T40:=dT Z a40 (dL Z N.abu @acr 0);have T41:=dT Z a41 (dL Z N.abx @acs 1);have T42:=dT Z a42 (dL Z N.Zk @acu 0);have T43:=dT Z a43 (dL Z adz @acv 0);have T44:=dT Z a44 (dL Z adA @acx 1);have T45:=dT Z a45 (dL Z N.abC @acy 0);have T46:=dT Z a46 (dL Z N.abD @acz 1);have T47:=dT Z a47 (dL Z adC @acB 4);have T48:=dT Z a48 (dL Z adH @acF 4);have T51:=dT Z a51 (dL Z adK @acP 4);have T49:=dT Z a49 (dL Z adP @acJ 5);have T50:=dT Z a50 (dL Z adS @acL 6);have T52:=dT Z a52 (dL Z (adT X_y) @acR 8);have T53:=dT Z a53 (dL Z ad_ @ac1 9);have T54:=dH (sp:=tQ K [ph,tY,tX,rq] zK) Z a54 aea @ac4 0;have T55:=dT Z a55 (dL Z (aef afJ afK afL afM) @ac8 8);have T56:=dT Z a56 (dL Z aeh @ac_ 9);exact dL Z aeC @adq 10
theorem walk{l:PySem.W.OpenLaw}{q:Program}{loose:List Str}{XP:(Str->Option Value)->Heap->Prop}{YP:World->Heap->Prop}{d:DefRec}{K:Params->Frag}(hn:l.most=some 63)(uj:d.params.defaults=[])
  (hY:∀(w:World) (h:Heap),YP w h->(K w.params).In h)
  (F:∀(w:World) (mg:Str->Option Value) (fa:Addr) (h:Heap),(K w.params).In h->h.Ns mainGlobals mg->mg d.name=some (.ref fa)->
   ∃fd:FuncData,(∀(s:Shared) (u:Value),BindsTo s fd ⟨[u],[]⟩ [("_law_script",u)])/\∀base:Heap,(K w.params).In base->base.Ns mainGlobals mg->cI l.prog w (K w.params) mg base um 11 fa fd ["_law_script"] ((fun K=>(fun vs H Q _=>(zH K) vs H Q E0)) (K w.params))):
  PySem.W.WalkO q loose XP YP l.row.toRowW d [] (fun f vs=>PySem.call f vs):=
 L2.RG (n:=63) (k:=11) (x:="_law_script") (CX:=fun _=>um) (sp:=fun w=>(fun K=>(fun vs H Q _=>(zH K) vs H Q E0)) (K w.params)) hn (by decide) uj ⟨rfl,by decide,by decide⟩ hY F (fun _ _ a ns hl _ hS=>⟨a,ns,rfl,hS,fun _=>rfl⟩) fun _ _ _ _ _ z=>z
end L2.q9
namespace PySem.W.Fast
def tw18109887184428092768:=()
def tw11013298005407176119:=()
def tw6970998885634748545:=()
def tw15438850319531342338:=()
def tw16258670056805584718:=()
def tw5312281499111681532:=()
def tw6320546525386316861:=()
def tw6744714399629280246:=()
def tw14798916824845467302:=()
def tw17592833972550932243:=()
def tw15132711065339790851:=()
def tw17005729113670224195:=()
def tw12728868403367840218:=()
def tw2577574379305487732:=()
def tw10545059482109808165:=()
def tw16508407587810140466:=()
def tw11366645418770517645:=()
def tw12820147252664012610:=()
def tw34566403139687156:=()
def tw17230600305824394110:=()
def tw11929489291625997408:=()
def tw4082058104327158508:=()
def tw15555168023976277278:=()
def tw4789399166838882710:=()
def tw9330206063950632926:=()
def tw4630038161315899276:=()
def tw12869310440991465036:=()
def tw16225712958610140571:=()
def tw6898646659904854537:=()
def tw4158706581198475399:=()
def tw13537851603087469037:=()
def tw6639081335584031038:=()
def tw9550164869882216700:=()
def tw12429258183429612070:=()
def tw1112478697868791572:=()
def tw7966387029541330073:=()
def tw7031482378364257516:=()
def tw12107918787309239128:=()
def tw16883691594110545376:=()
def tw8784569740182908992:=()
def tw6649774212650805665:=()
def tw4794498063045335813:=()
def tw7842189661529516041:=()
def tw1354124394493465236:=()
def tw14620587306506748120:=()
def tw8349529415485794712:=()
def tw9174953473880491911:=()
def tw9307801748214736938:=()
def tw17597397967745855963:=()
def tw13030386798994412767:=()
def tw9061198403514667082:=()
def tw12221639690132607677:=()
def tw1864035726973517452:=()
def tw18356915330485195040:=()
def tw8262881243000962110:=()
def tw11970534374018523311:=()
def tw3778720086230811040:=()
def tw10330577075287625209:=()
def tw2423222509565503108:=()
def tw17961550506257444527:=()
def tw17560126619165165707:=()
def tw4818818882514883787:=()
def tw13921117188751283916:=()
def tw793762084665580953:=()
def tw12532244907404525958:=()
def tw17598662039017569057:=()
def tw6244692507257315723:=()
def tw5017156357695160563:=()
def tw11944470148552165147:=()
def tw16879450679155692857:=()
def tw12101213758683845857:=()
def tw1189582586232462511:=()
def tw3268447464801588896:=()
def tw4087527454009786579:=()
def tw11749646352689757369:=()
def tw14541368707182323853:=()
def tw6224231805212371029:=()
def tw346833764108174583:=()
def tw9688749829862096108:=()
def tw725364537517020824:=()
def tw17847153382300840727:=()
def tw4213428471712101052:=()
def tw16832466854227060192:=()
def tw11135932614105442882:=()
def tw10852905780845678476:=()
def tw1795167677357293407:=()
def tw5208122544798238794:=()
def tw13375737594556329967:=()
def tw15403586809947942892:=()
def tw11567042370953305819:=()
def tw1671397046170766137:=()
def tw12744052987074523253:=()
def tw9748455761184823234:=()
def tw13964155133681884575:=()
def tw16160688826924183864:=()
def tw9417592335624990180:=()
def tw10049670861937110647:=()
def tw912185354971832289:=()
def tw11860147725600870381:=()
def tw1701213567743749874:=()
def tw14089471344834379176:=()
def tw6514617903572072435:=()
def tw13215728705518369650:=()
def tw17119260506594796271:=()
def tw6125350925024908366:=()
def tw3229945979593048391:=()
def tw17330600223325959261:=()
def tw17563198049452606163:=()
def tw13905869340093110554:=()
def tw13170146214906709837:=()
def tw16410797885248165420:=()
def tw15334740820491694077:=()
def tw7870865196718114745:=()
def tw3667842971588169095:=()
def tw9862852595632550299:=()
def tw10797801937422911136:=()
def tw11207083542405095888:=()
def tw5449238965371361957:=()
def tw6939813791724273202:=()
def tw14055859876628846499:=()
def tw17064148890024784160:=()
def tw4102572228281458277:=()
def tw7117161394770600001:=()
def tw16364370778901363670:=()
def tw8280621198155702506:=()
def tw8163063882021434690:=()
def tw6980965000370951039:=()
def tw14286347230062180495:=()
def tw18277998995707771820:=()
def tw3376201049498704756:=()
def tw10248561028359698067:=()
def tw10150555162372290750:=()
def tw8915397107883574865:=()
def tw14234033155563185439:=()
def tw14818884922898929464:=()
def tw11024203539319804120:=()
def tw16129101092575206630:=()
def tw13330253802230687316:=()
def tw1043653904423057636:=()
def tw13617715974345700311:=()
def tw15494291232385968529:=()
def tw15652445376325294413:=()
def tw1531691421088541405:=()
def tw4728577032473030335:=()
def tw17738008166090448005:=()
def tw9394009860090894936:=()
def tw3306223835300957842:=()
def tw2359731485140770036:=()
def tw6897002691054680522:=()
def tw3014112542485735932:=()
def tw12078856374773243543:=()
def tw6142497018342222751:=()
def tw11538925133957795012:=()
def tw2222883591995432777:=()
def tw2815487933218667702:=()
def tw559742385814635550:=()
def tw9125618340145875495:=()
def tw1496163269616239611:=()
def tw11746206453604852441:=()
def tw14599287378318554900:=()
def tw7698487031017023043:=()
def tw4255719527757823405:=()
def tw10289821058605761142:=()
def tw8353355944476634949:=()
def tw513275043688353831:=()
def tw728367371418689485:=()
def tw6617606406250735522:=()
def tw1550023000139128024:=()
def tw7318282877598278040:=()
def tw2932824793064111516:=()
def tw16714515309013559512:=()
def tw17921901038676326952:=()
def tw4867866359177109549:=()
def tw3931705178601445667:=()
def tw7265997001351108167:=()
def tw6358998001198261339:=()
def tw6855380829159191203:=()
def tw17884517511296301081:=()
def tw5671732063257738184:=()
def tw2803134729932786979:=()
def tw12206198961223975350:=()
def tw12195022801489021791:=()
def tw15667232471784095716:=()
def tw5410090887495683698:=()
def tw4434985378139876017:=()
def tw17137628048876797516:=()
def tw7584319482590355937:=()
def tw11009458126869328497:=()
def tw8467542660100934216:=()
def tw4432587210633407490:=()
def tw12996199386377739180:=()
def tw11277802275392961685:=()
def tw15289046580917170091:=()
def tw11158246316450850866:=()
def tw11532569703762852652:=()
def tw8156052557518692404:=()
def tw4786397976712024511:=()
end PySem.W.Fast
open PySem PySem.W PyProof.Rows
set_option maxRecDepth 100000 in
set_option maxHeartbeats 0 in
theorem PySem.Challenge.cw_inkloom_k23_the_tree_by_plain_rows_holds : PySem.Challenge.rw_inkloom_k23_the_tree_by_plain_rows.Holds := by
 w_on;o_law;k_head;(case hw=>w_witness2)
 k_fill
 refine L2.q9.walk (l:=PySem.Challenge.rw_inkloom_k23_the_tree_by_plain_rows) rfl rfl (fun w h Y=>PySem.W.kIn_of Y) ?F
 case F=>
  intro w mg fa h KX G jf
  refine' L2.q9.all_mk KX G jf ..
  all_goals try first | refine' L2.dfk .. | refine' L2.aeG .. | refine' L2.zI.mk .. | refine' L2.dmk .. | refine' L2.ahK .. | refine' L2.aeF .. | refine' L2.tV.mk .. | refine' L2.tW.mk (L2.uw.mk ..) .. | refine' L2.B.qA.mk (L2.fY.mk ..) .. | refine' L2.B.gK.mk (L2.fY.mk ..) ..
  all_goals try refine' L2.aeH ..
  all_goals try first | k_is | k_exc | kernel_rfl
