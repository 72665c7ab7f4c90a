import PyProof.Rows.All
import Wide.All
import OpenK.AllK
import Wide.FinOn
import Lean
import PyProof.EqAt
import PyProof.EqKinds
import PyProof.TupleCall
import PyProof.Rows.EqDataRows
import PyProof.DictList
import PyProof.FactsAll.dict_1
import PyProof.FactsAll.subtypes_4
import KE.KTryMore
import PyProof.WalksEnum
import PyProof.EnumMake
import PyProof.ListStr
import PyProof.TupleOfStr
import PyProof.Dict
import PyProof.ToksMono
import PyProof.StrCalls6
import PyProof.StrWalks
import PyProof.ConsumeWalk
import PyProof.CallStr
import PyProof.MeetsStr
import KE.KIntText
import PyProof.StrCalls2
import PyProof.StrOps2
import KE.KSortTup
import PyProof.WalksMore
import PyProof.TupleIter
import PyProof.SliceList
import PyProof.ListRange
import KE.KRevIter
import PyProof.ZipIter
import PyProof.StrLaws
import PyProof.InstEq
import PyProof.StrLawsIn
import PyProof.Rows.StrCut
import PyProof.ListNew
import PySem.Challenge.RW_inkloom_k17_whole_old_papers
set_option Elab.async false
set_option linter.all false
set_option maxRecDepth 100000
set_option compiler.extract_closed false
noncomputable section
theorem gb:1≤PySem.sizeLine:=by decide
theorem cR:2≤PySem.sizeLine:=by decide
theorem kc:3≤PySem.sizeLine:=by decide
theorem HC:4≤PySem.sizeLine:=by decide
theorem yF:6≤PySem.sizeLine:=by decide
open PySem.W (Frag callWith_K callWith_K0 cellsFrom_some emptyDict exmOne handedIn hasDictIn hideAll hideAll_get instObj kia_one kitOne kitx_dict kitx_list lookIn makesIn methodObj nsIn of_hideAll plainGet plainGet_of plainOver specialIn takerIn takesIn)
theorem zqT{p:Prop}[Decidable p](h:p):decide p=true:=decide_eq_true h
theorem zqF{p:Prop}[Decidable p](h: ¬p):decide p=false:=decide_eq_false h
theorem zqA{α:Type}{a b:List α}:(a++b).length=a.length+b.length:=List.length_append
theorem zqR(n:Nat):n≤n:=Nat.le_refl n
theorem zqZ(n:Nat):0≤n:=Nat.zero_le n
def zaa:=@Bool.and_eq_true
def zab:=@List.getElem?_eq_some_iff
def zac:=@List.size_toArray
def zad:=@List.mem_cons
def zae:=@List.append_nil
def zaf:=@Bool.false_ne_true
def zag:=@List.getElem?_map
def zah:=@List.not_mem_nil
def zai:=@List.length_map
def zaj:=@List.length_take
def zak:=@Option.some.inj
def zal:=@Nat.ne_of_lt
def zam:=@List.mem_cons_of_mem
def zan:=@List.mem_cons_self
def zao:=@List.mem_append
def zap:=@List.mem_of_getElem?
def zaq:=@Nat.lt_of_lt_of_le
def zar:=@Nat.le_trans
def zas:=@List.length_drop
def zat:=@List.append_assoc
def zau:=@List.length_cons
def zav:=@List.mem_singleton
def zaw:=@List.map_append
def zax:=@Nat.lt_irrefl
def zay:=@List.mem_append_right
def zaz:=@Int.emod_nonneg
def zaA:=@List.take_append_drop
def zaB:=@Int.emod_lt_of_pos
def zaC:=@List.take_of_length_le
def zaD:=@List.getElem?_eq_getElem
def zaE:=@List.take_length
def zaF:=@Nat.ne_of_gt
def zaG:=@List.map_cons
def zaH:=@List.getElem?_append_right
def zaI:=@List.getElem?_append_left
def zaJ:=@Int.toNat_natCast
def zaK:=@Bool.false_xor
def zaL:=@Bool.not_eq_true'
def zaM:=@List.count_append
def zaN:=@List.take_succ_eq_append_getElem
def zaO:=@List.nil_append
def zaP:=@List.lookup_cons
def zaQ:=@Bool.true_xor
def zaR:=@List.drop_zero
def zaS:=@Nat.zero_add
def zaT:=@List.drop_left
def zaU:=@List.all_cons
def zaV:=@List.all_eq_true
def zaW:=@Int.le_refl
def zaX:=@List.mem_map
def zaY:=@List.drop_eq_getElem_cons
def zaZ:=@List.mem_append_left
def zba:=@List.replicate_succ
def zbb:=@Option.map_some
def zbc:=@List.getElem_mem
def zbd:=@Nat.sub_zero
def zbe:=@List.cons_append
def zbf:=@List.take_length_add_append
def zbg:=@List.filterMap_cons
def zbh:=@Bool.eq_iff_iff
def zbi:=@Nat.lt_succ_self
def zbj:=@List.nodup_cons
def zbk:=@Bool.or_false
def zbl:=@List.flatten_cons
def zbm:=@List.forIn_cons
def zbn:=@Nat.lt_succ_of_lt
def zbo:=@Bool.or_eq_true
def zbp:=@Array.eq_empty_of_size_eq_zero
def zbq:=@List.find?_cons
def zbr:=@List.filter_cons
def zbs:=@List.filter_append
def zbt:=@List.sum_cons
def zbu:=@List.take_left
def zbv:=@List.drop_length
def zbw:=@List.drop_of_length_le
def zbx:=@List.take_nil
def zby:=@List.count_le_length
def zbz:=@Int.natCast_add
def zbA:=@List.take_append_of_le_length
def zbB:=@List.getLast?_concat
def zbC:=@Array.length_toList
def zbD:=@List.mem_filterMap
def zbE:=@List.length_singleton
def zbF:=@List.getElem_of_mem
def zbG:=@List.length_filter_le
def zbH:=@List.pairwise_iff_getElem
def zbI:=@List.filter_cons_of_neg
def zbJ:=@List.eq_nil_of_length_eq_zero
def zbK:=@Nat.le_of_ble_eq_true
def zbL:=@Option.map_eq_some_iff
namespace L2
open PySem PySem.Spec PyProof.Rows
abbrev Key:=Sum Int Str
def ma:Key->Value->Bool
 |.inl k,v=>Value.isInt k v
 |.inr x,v=>Value.isStrOf x v
def HD(w:World):Key->Int
 |.inl k=>hashInt k
 |.inr x=>hashStr w x
theorem iX:∀{k:Key}{v:Value},ma k v=true->(∃i t,k=Sum.inl i/\v=Value.int i t)\/(∃x t,k=Sum.inr x/\v=Value.str x t)
 |.inl i,v,h=>by
  obtain⟨t,e⟩:=Value.isInt_shape (k:=i) (v:=v) h;exact .inl ⟨i,t,rfl,e⟩
 |.inr x,v,h=>by
  obtain⟨t,e⟩:=Value.isStrOf_shape (x:=x) (v:=v) h;exact .inr ⟨x,t,rfl,e⟩
theorem HE(i:Int)(t:Tok):ma (.inl i) (.int i t)=true:=by simp[ma,Value.isInt]
theorem HF(x:Str)(t:Tok):ma (.inr x) (.str x t)=true:=by simp[ma,Value.isStrOf]
theorem HG(a b:Int):decide ((Sum.inl a:Key)=Sum.inl b)=(a==b):=by
 by_cases e:a=b
 ·subst e;simp
 ·have h:¬(Sum.inl a:Key)=Sum.inl b:=fun q=>e (Sum.inl.inj q);rw[zqF h];exact(beq_eq_false_iff_ne.mpr e).symm
theorem HH(a b:Str):decide ((Sum.inr a:Key)=Sum.inr b)=decide (a=b):=by
 by_cases e:a=b
 ·subst e;simp
 ·have h:¬(Sum.inr a:Key)=Sum.inr b:=fun q=>e (Sum.inr.inj q);rw[zqF h,zqF e]
theorem HI(a:Int)(b:Str):decide ((Sum.inl a:Key)=Sum.inr b)=false:=zqF (fun q=>nomatch q)
theorem HJ(a:Str)(b:Int):decide ((Sum.inr a:Key)=Sum.inl b)=false:=zqF (fun q=>nomatch q)
def h_(prog:Program)(w:World):PySem.KeyKind prog w Key where
 is:=ma
 hash:=HD w
 inj:=fun v a b ha hb=>by
  rcases iX ha with⟨i,t,rfl,rfl⟩|⟨x,t,rfl,rfl⟩
  ·rcases iX hb with⟨j,u,rfl,e⟩|⟨y,u,rfl,e⟩
   ·injection e with e1 _;rw[e1]
   ·exact nomatch e
  ·rcases iX hb with⟨j,u,rfl,e⟩|⟨y,u,rfl,e⟩
   ·exact nomatch e
   ·injection e with e1 _;rw[e1]
 byValue:=fun k v h=>by
  rcases iX h with⟨i,t,rfl,rfl⟩|⟨x,t,rfl,rfl⟩ <;>rfl
 pyHash:=fun hv h=>by
  rcases iX hv with⟨i,t,rfl,rfl⟩|⟨x,t,rfl,rfl⟩
  ·exact wpAny_pyHash_int h
  ·exact wpAny_pyHash_str h
 eqBool:=fun hu hv h=>by
  rcases iX hu with⟨i,t,rfl,rfl⟩|⟨x,t,rfl,rfl⟩
  ·rcases iX hv with⟨j,u,rfl,rfl⟩|⟨y,u,rfl,rfl⟩
   ·rw[HG] at h;exact wpAny_eqBool_int h
   ·rw[HI] at h;exact SeqAt.EqAt.int_str i t y u _ _ _ _ h
  ·rcases iX hv with⟨j,u,rfl,rfl⟩|⟨y,u,rfl,rfl⟩
   ·rw[HJ] at h;exact SeqAt.EqAt.str_int x t j u _ _ _ _ h
   ·rw[HH] at h;exact wpAny_eqBool_str h
 «strs»:=fun k x t v h=>by
  rcases iX h with⟨i,u,rfl,e⟩|⟨y,u,rfl,e⟩
  ·exact nomatch e
  ·injection e with e1 _
   subst e1;cases v<;>rfl
theorem HK(prog:Program)(w:World)(i:Int)(t:Tok):(h_ prog w).is (.inl i) (.int i t)=true:=HE i t
theorem HL(prog:Program)(w:World)(x:Str)(t:Tok):(h_ prog w).is (.inr x) (.str x t)=true:=HF x t
inductive V where
 |az|bl (b:Bool)|int (i:Int)|str (x:Str)|dU (b:Array UInt8)|jq (b:UInt64)|ref (a:Addr)|ty (n:String)
 deriving DecidableEq
def RelV:V->Value->Prop
 |.az,u=>u=Value.none
 |.bl b,u=>u=Value.bool b
 |.int i,u=>∃t,u=Value.int i t
 |.str x,u=>∃t,u=Value.str x t
 |.dU b,u=>∃t,u=Value.bytes b t
 |.jq b,u=>∃t,u=Value.float b t
 |.ref a,u=>u=Value.ref a
 |.ty n,u=>u=Value.type n
abbrev Vals:List V->List Value->Prop:=Paired RelV
theorem Vals.length{xs:List V}{us:List Value}(r:Vals xs us):xs.length=us.length:=Paired.length r
theorem Vals.get:∀{xs:List V}{us:List Value}{i:Nat}{x:V},Vals xs us->xs[i]?=some x->∃u,us[i]?=some u/\RelV x u
 |_,_,_,_,.nil,e=>by simp at e
 |_,_,0,_,.cons r _,e=>by simp at e;subst e;exact⟨_,rfl,r⟩
 |_,_,i+1,x,.cons _ t,e=>by
  obtain⟨u,h1,h2⟩:=Vals.get (i:=i) (x:=x) t (by simpa using e)
  exact⟨u,by simpa using h1,h2⟩
theorem Vals.set{x:V}{u:Value}(r:RelV x u):∀{xs:List V}{us:List Value} (i:Nat),Vals xs us->Vals (xs.set i x) (us.set i u)
 |_,_,_,.nil=>.nil
 |_,_,0,.cons _ t=>.cons r t
 |_,_,i+1,.cons q t=>.cons q (Vals.set r i t)
theorem Vals.append:∀{xs ys:List V}{us ws:List Value},Vals xs us->Vals ys ws->Vals (xs++ys) (us++ws)
 |_,_,_,_,.nil,s=>s
 |_,_,_,_,.cons r t,s=>.cons r (Vals.append t s)
theorem Vals.take:∀{xs:List V}{us:List Value} (n:Nat),Vals xs us->Vals (xs.take n) (us.take n)
 |_,_,0,_=>.nil
 |_,_,_+1,.nil=>.nil
 |_,_,n+1,.cons r t=>.cons r (Vals.take n t)
theorem Vals.drop:∀{xs:List V}{us:List Value} (n:Nat),Vals xs us->Vals (xs.drop n) (us.drop n)
 |_,_,0,r=>r
 |_,_,_+1,.nil=>.nil
 |_,_,n+1,.cons _ t=>Vals.drop n t
def ia:Option V->Option Value->Prop
 |some v,some u=>RelV v u
 |none,none=>True
 |_,_=>False
def KV{κ:Type}:List (κ×V)->List (κ×Value)->Prop:=Paired fun(p:κ×V) (q:κ×Value)=>p.1=q.1/\RelV p.2 q.2
def kV:Key->V
 |.inl i=>.int i
 |.inr x=>.str x
inductive HO where
 |lst (xs:List V)
 |tup (xs:List V)
 |dK (aL:List (Key×V))|dT (aL:List (List Key×V))
 |set (S:Int->Bool) (n:Nat)
 |ins (C dx:Addr) (fs:List (Str×V))
 |own (x:Addr)
 |xd (fs:List (Str×V))
 |met (f x:Addr)
 |e9 (lo hi:Int)
 |bJ (o:Obj) (u:HO)
 |ib (ps:Array Value)
 |ext (φ:Heap->Prop)
abbrev Hp:=Addr->Option HO
def upd(H:Hp)(a:Addr)(o:HO):Hp:=fun b=>if b=a then some o else H b
theorem aG{H:Hp}{a:Addr}{o:HO}:upd H a o a=some o:=by unfold upd;rw[if_pos rfl]
theorem aI{H:Hp}{a b:Addr}{o:HO}(h:b≠a):upd H a o b=H b:=by unfold upd;rw[if_neg h]
theorem tm{H:Hp}{a b:Addr}{o u:HO}(h:H a=some o)(h':H b=some u)(d:o≠u):a≠b:=by
 intro e;subst e;rw[h] at h';exact d (zak h')
theorem bK{H:Hp}{a b:Addr}{o:HO}(h:H a=some o)(h':H b=none):a≠b:=by
 intro e;subst e;rw[h] at h';cases h'
section
variable (P:Program) (w:World)
def cJ(H:Hp)(h:Heap)(a:Addr):HO->Prop
 |.lst xs=>xs.length<=sizeLine/\∃(its:List Value) (n:Nat),Vals xs its/\h.get? a=some {cls:=.type "list",data:=.seq its.toArray n}
 |.tup xs=>xs.length<=sizeLine/\∃its:List Value,Vals xs its/\IsTup h a its.toArray
 |.dK aL=>aL.length<=sizeLine/\(a==sysModules)=false/\∃vs,KV aL vs/\h.DictOf (h_ P w) a vs
 |.dT aL=>aL.length<=sizeLine/\(a==sysModules)=false/\∃xs:List (List Key×Addr×Value),
   Paired (fun(p:List Key×V) (q:List Key×Addr×Value)=>p.1=q.1/\H q.2.1=some (.tup<|p.1.map kV)/\RelV p.2 q.2.2) aL xs/\
   ∃o es ep,h.get? a=some o/\o.ExactDict/\o.data=.dict es ep/\es.toList=xs.map (entryOfKey<|tupleKind<|h_ P w)/\(xs.map (·.1)).Nodup
 |.set S n=>h.SetOf (intKind P w) a S n
 |.ins C dx fs=>H dx=some (.own a)/\fs.length<=1000/\dx≠a/\h.get? a=some (instObj C dx)/\
   ∃mA,h.Ns1 dx mA/\(∀f,ia (fs.lookup f)<|mA f)/\PySem.Within mA (fs.map (·.1))
 |.own _=>∃o,h.get? a=some o
 |.xd fs=>∃mA,h.Ns1 a mA/\∀f,ia (fs.lookup f) (mA f)
 |.e9 lo hi=>∃t u v,h.get? a=some {cls:=.type "range",data:=.fields #[.int lo t,.int hi u,.int 1 v]}
 |.bJ o u=>h.get? a=some o/\cJ H h a u
 |.ib ps=>h.get? a=some {cls:=.none,data:=.fields ps}
 |.met f x=>h.get? a=some (methodObj (.ref f)<|.ref x)
 |.ext φ=>φ h/\(∃o,h.get? a=some o)/\∀h1 h2:Heap,φ h1->(∀o,h1.get? a=some o->h2.get? a=some o)->φ h2
def b9(H:Hp)(h:Heap):Prop:= ∀a o,H a=some o->cJ P w H h a o
end
section
variable {P:Program}{w:World}{H H':Hp}{h h':Heap}{a:Addr}{o:HO}
theorem cJ.lt(x:cJ P w H h a o):a<h.objs.size:=by
 cases o with
 |lst xs=>obtain⟨_,_,_,_,e⟩:=x;exact Heap.lt_size e
 |tup xs=>obtain⟨_,_,_,p⟩:=x;exact p.lt
 |dK aL=>obtain⟨_,_,_,_,o,_,_,e,_⟩:=x;exact Heap.lt_size e
 |dT aL=>obtain⟨_,_,_,_,o,_,_,e,_⟩:=x;exact Heap.lt_size e
 |set S n=>obtain⟨o,_,_,_,e,_⟩:=x;exact Heap.lt_size e
 |ins C dx fs=>obtain⟨_,_,_,e,_⟩:=x;exact Heap.lt_size e
 |own y=>obtain⟨_,e⟩:=x;exact Heap.lt_size e
 |xd fs=>obtain⟨_,⟨_,_,_,e,_⟩,_⟩:=x;exact Heap.lt_size e
 |e9 lo hi=>obtain⟨_,_,_,e⟩:=x;exact Heap.lt_size e
 |bJ ob u=>obtain⟨e,_⟩:=x;exact Heap.lt_size e
 |ib ps=>exact Heap.lt_size (show h.get? a=some _ from x)
 |met f y=>exact Heap.lt_size (show h.get? a=some _ from x)
 |ext φ=>obtain⟨_,⟨_,e⟩,_⟩:=x;exact Heap.lt_size e
theorem Paired.yG{α β:Type}{F G:α->β->Prop}:∀{l₁:List α}{l₂:List β},Paired F l₁ l₂->(∀a b,F a b->G a b)->Paired G l₁ l₂
 |_,_,.nil,_=>.nil
 |_,_,.cons r t,f=>.cons (f _ _ r) (Paired.yG t f)
theorem cJ.gL(x:cJ P w H h a o)(k:∀b u,(b=a\/H b=some (.own a))->h.get? b=some u->h'.get? b=some u)
  (ho:∀b,H b=some (.own a)->H' b=some (.own a)) (ht:∀b xs,H b=some (.tup xs)->H' b=some (.tup xs)):cJ P w H' h' a o:=by
 induction o with
 |lst xs=>obtain⟨z,its,n,r,e⟩:=x;exact⟨z,its,n,r,k _ _ (.inl rfl) e⟩
 |tup xs=>obtain⟨z,its,r,ob,e,c⟩:=x;exact⟨z,its,r,ob,k _ _ (.inl rfl) e,c⟩
 |dK aL=>obtain⟨z,y,vs,r,ob,es,ep,e,c⟩:=x;exact⟨z,y,vs,r,ob,es,ep,k _ _ (.inl rfl) e,c⟩
 |dT aL=>
  obtain⟨z,y,xs,r,ob,es,ep,e,c⟩:=x;exact⟨z,y,xs,Paired.yG r fun p q z=>⟨z.1,ht _ _ z.2.1,z.2.2⟩,ob,es,ep,k _ _ (.inl rfl) e,c⟩
 |set S n=>obtain⟨ob,es,ep,t,e,c⟩:=x;exact⟨ob,es,ep,t,k _ _ (.inl rfl) e,c⟩
 |ins C dx fs=>
  obtain⟨d,z,ne,e,mA,⟨od,es,ep,e2,c⟩,r⟩:=x;exact⟨ho _ d,z,ne,k _ _ (.inl rfl) e,mA,⟨od,es,ep,k _ _ (.inr d) e2,c⟩,r⟩
 |own y=>obtain⟨ob,e⟩:=x;exact⟨ob,k _ _ (.inl rfl) e⟩
 |xd fs=>obtain⟨mA,⟨od,es,ep,e,c⟩,r⟩:=x;exact⟨mA,⟨od,es,ep,k _ _ (.inl rfl) e,c⟩,r⟩
 |e9 lo hi=>obtain⟨t,u,v,e⟩:=x;exact⟨t,u,v,k _ _ (.inl rfl) e⟩
 |bJ ob u ih=>obtain⟨e,q⟩:=x;exact⟨k _ _ (.inl rfl) e,ih q⟩
 |ib ps=>
  have e:h.get? a=some {cls:=.none,data:=.fields ps}:=x;show h'.get? a=some {cls:=.none,data:=.fields ps};exact k a _ (.inl rfl) e
 |met f y=>
  have e:h.get? a=some (methodObj (.ref f)<|.ref y):=x;show h'.get? a=some (methodObj (.ref f)<|.ref y);exact k a _ (.inl rfl) e
 |ext φ=>obtain⟨p,⟨o,e⟩,st⟩:=x;exact⟨st _ _ p fun o q=>k _ _ (.inl rfl) q,⟨o,k _ _ (.inl rfl) e⟩,st⟩
theorem b9.lt(x:b9 P w H h)(e:H a=some o):a<h.objs.size:=(x a o e).lt
theorem b9.fresh(x:b9 P w H h)(e:h.objs.size<=a):H a=none:=by
 cases q:H a with
 |none=>rfl
 |some u=>exact absurd (zaq (x.lt q) e) (zax _)
theorem b9.kept(x:b9 P w H h)(k:∀b u,h.get? b=some u->h'.get? b=some u):b9 P w H h':=fun a o e=>
 (x a o e).gL (fun b u _ q=>k b u q) (fun _ q=>q) fun _ _ q=>q
theorem b9.laid(x:b9 P w H h)(k:∀b u,h.get? b=some u->h'.get? b=some u)(hp:h.objs.size<=a)(new:cJ P w (upd H a o) h' a o):b9 P w (upd H a o) h':=fun b u e=>by
 have hn:=x.fresh hp;by_cases hb:b=a
 ·subst hb;rw[aG] at e;cases e;exact new
 ·rw[aI hb] at e;exact(x b u e).gL (fun c v _ q=>k c v q) (fun c q=>by rw[aI<|bK q hn];exact q) fun c xs q=>by rw[aI<|bK q hn];exact q
end
def Rd(H:Hp)(a:Addr)(u:HO):Prop:=H a=some u\/∃o,H a=some (.bJ o u)
theorem Rd.ok{P:Program}{w:World}{H:Hp}{h:Heap}{a:Addr}{u:HO}(r:Rd H a u)(x:b9 P w H h):cJ P w H h a u:=by
 rcases r with r|⟨o,r⟩
 ·exact x a u r
 ·obtain⟨_,q⟩:=x a _ r;exact q
def pM:Option HO->Prop
 |some (.lst _)=>True
 |some (.dK _)=>True
 |some (.dT _)=>True
 |some (.set _ _)=>True
 |some (.ins _ _ _)=>True
 |some (.ext _)=>True
 |_=>False
section
variable {P:Program}{w:World}{H:Hp}{h h':Heap}{x e:Addr}{o':HO}
theorem b9.write(ok:b9 P w H h)(mu:pM (H x))(he:e=x\/H e=some (.own x))(k:∀b u,b≠e->h.get? b=some u->h'.get? b=some u)(me:∃u,h'.get? e=some u)
  (new:cJ P w (upd H x o') h' x o'):b9 P w (upd H x o') h':=fun b u q=>by
 have yH:∀c y,H c=some (.own y)->c≠x:=fun c y r z=>by subst z;rw[r] at mu;exact mu
 have HM:∀c xs,H c=some (.tup xs)->c≠x:=fun c xs r z=>by subst z;rw[r] at mu;exact mu
 by_cases hb:b=x
 ·subst hb;rw[aG] at q;cases q;exact new
 ·rw[aI hb] at q;by_cases kd:b=e
  ·have q':H b=some (.own x):=by
    rcases he with z|z
    ·exact absurd (kd.trans z) hb
    ·rw[kd];exact z
   rw[q] at q';cases q';obtain⟨v,hv⟩:=me;exact⟨v,by rw[kd];exact hv⟩
  ·refine(ok b u q).gL (fun c v hc r=>k c v ?_ r) (fun c r=>by rw[aI<|yH c b r];exact r) fun c xs r=>by rw[aI<|HM c xs r];exact r
   rcases hc with rfl|hc
   ·exact kd
   ·rintro rfl;rcases he with z|z
    ·exact yH c b hc z
    ·rw[hc] at z;cases z;exact hb rfl
end
structure Un (fs ex:List Addr) (H H':Hp) (h h':Heap):Prop where
 keep:∀b o,h.get? b=some o->H b=none->b∉fs->b∉ex->h'.get? b=some o
 slot:∀b o,h.get? b=some o->H b=none->b∈fs->b∉ex->∃sl,h'.get? b=some {o with slots:=sl}
 free:∀b o,h.get? b=some o->H b=none->b∉ex->H' b=none
 there:∀b o,h.get? b=some o->b∉ex->∃o',h'.get? b=some o'
 b_:∀b xs,H b=some (.tup xs)->H' b=some (.tup xs)
 e_:∀b o u,H b=some (.bJ o u)->H' b=some (.bJ o u)
 fK:∀b ps,H b=some (.ib ps)->∃more,H' b=some (.ib<|ps++more)
section
variable {fs HN ex Yp:List Addr}{H H1 H2:Hp}{h h1 h2 h':Heap}{a x e:Addr}{o:HO}
theorem Un.any(u:Un fs ex H H1 h h1){b:Addr}{ob:Obj}(q:h.get? b=some ob)(n:H b=none)(hx:b∉ex):∃sl,h1.get? b=some {ob with slots:=sl}:=by
 by_cases hb:b∈fs
 ·exact u.slot b ob q n hb hx
 ·exact⟨ob.slots,u.keep b ob q n hb hx⟩
theorem Un.kept(k:∀b u,h.get? b=some u->h'.get? b=some u):Un fs ex H H h h':=
 ⟨fun b ob q _ _ _=>k b ob q,fun b ob q _ _ _=>⟨ob.slots,k b ob q⟩,fun _ _ _ n _=>n,fun b ob q _=>⟨ob,k b ob q⟩,fun _ _ q=>q,fun _ _ _ q=>q,fun _ ps q=>⟨#[],by rw[q];simp⟩⟩
theorem Un.refl:Un fs ex H H h h:=Un.kept fun _ _ q=>q
theorem Un.laid(k:∀b u,h.get? b=some u->h'.get? b=some u)(hp:h.objs.size<=a)(hn:H a=none):Un fs ex H (upd H a o) h h' where
 keep:=fun b u q _ _ _=>k b u q
 slot:=fun b u q _ _ _=>⟨u.slots,k b u q⟩
 free:=fun b u q n _=>by rw[aI<|zal<|zaq (Heap.lt_size q) hp];exact n
 there:=fun b u q _=>⟨u,k b u q⟩
 b_:=fun b xs q=>by rw[aI<|bK q hn];exact q
 e_:=fun b u xs q=>by rw[aI<|bK q hn];exact q
 fK:=fun b ps q=>⟨#[],by rw[aI<|bK q hn,q];simp⟩
theorem Un.write(mu:pM (H x))(he:e=x\/H e=some (.own x))(k:∀b u,b≠e->h.get? b=some u->h'.get? b=some u)(me:∃u,h'.get? e=some u):Un fs ex H (upd H x o) h h':=by
 have hx:∀b,H b=none->b≠x:=fun b n z=>by subst z;rw[n] at mu;exact mu
 have hb:∀b,H b=none->b≠e:=fun b n z=>by
  subst z;rcases he with r|r
  ·exact hx b n r
  ·rw[n] at r;cases r
 have hm:∀b u,H b=some u-> ¬pM (some u)->b≠x:=fun b u q nm z=>by subst z;rw[q] at mu;exact nm mu
 refine⟨fun b u q n _ _=>k b u (hb b n) q,fun b u q n _ _=>⟨u.slots,k b u (hb b n) q⟩,fun b u q n _=>by rw[aI (hx b n)];exact n,fun b u q _=>?_,
  fun b xs q=>by rw[aI (hm b _ q fun z=>z)];exact q,fun b u xs q=>by rw[aI (hm b _ q fun z=>z)];exact q,fun b ps q=>⟨#[],by rw[aI (hm b _ q fun z=>z),q];simp⟩⟩
 by_cases kd:b=e
 ·subst kd;exact me
 ·exact⟨u,k b u kd q⟩
end
def ke(h:Heap)(H:Hp):List Addr:=(List.range h.objs.size).filter fun a=>(H a).isSome
def iY(h:Heap)(H:Hp):Heap:=hideAll h (ke h H)
theorem HP(h:Heap)(H:Hp):(iY h H).objs.size=h.objs.size:=PySem.W.hideAll_size _ _
theorem HQ{h:Heap}{H:Hp}{b:Addr}{o:Obj}(e:h.get? b=some o)(n:H b=none):(iY h H).get? b=some o:=
 hideAll_get _ e fun hm=>by
  have q:(H b).isSome=true:=(List.mem_filter.mp hm).2;rw[n] at q;simp at q
theorem HR{h:Heap}{H:Hp}{b:Addr}{o:Obj}(e:(iY h H).get? b=some o):h.get? b=some o/\H b=none:=by
 have e':h.get? b=some o:=of_hideAll (ke h H) e;refine⟨e',?_⟩;cases q:H b with
 |none=>rfl
 |some x=>
  have hm:b∈ke h H:=List.mem_filter.mpr ⟨List.mem_range.mpr<|Heap.lt_size e',by simp[q]⟩
  have z:(iY h H).get? b=none:=PySem.W.hideAll_none (ke h H) hm;rw[z] at e;cases e
structure Mod (K:Frag) (mg:Str->Option Value) (base:Heap):Prop where
 nC:K.In base
 glob:base.Ns mainGlobals mg
 blt:∃mb,base.Ns builtinsNs mb/\∀x:Str,x≠"__name__"->mb x=bootBuiltins x
 nolimit:base.NoLimit
structure Cx where
 prog:Program
 w:World
 K:Frag
 mg:Str->Option Value
 base:Heap
 A:Around
 N:List Str
 s₀:Shared
 H₀:Hp
 env:Env
 outer:List Env
 stack:List Env
 ex:List Addr
 fn:Str->Bool
 calm:Bool
 pn:List (Addr×Obj)
 xe:Value->Shared->Prop
def bR(l:List Env):List Addr:=l.filterMap (·.frame)
abbrev Cx.fs(X:Cx):List Addr:=bR X.outer
def pN(sc:Scope)(x:Str):Prop:=sc.names.lookup x=some .local\/sc.names.lookup x=some .cell\/sc.names.lookup x=some .free
def Loc(sc:Scope)(x:Str):Prop:=sc.names.lookup x=some .local\/sc.names.lookup x=some .cell
def Look(env:Env)(h:Heap)(m:Str->Option Value)(x:Str)(u:Value):Prop:=
 (env.kindOf x=some .local/\m x=some u)\/((env.kindOf x=some .cell\/env.kindOf x=some .free)/\∃c,env.cells.lookup x=some c/\h.IsCell c (some u))
structure Cx.Ok (X:Cx):Prop where
 mod:Mod X.K X.mg X.base
 kind:X.env.scope.kind=.function
 glob:X.env.globals=mainGlobals
 blt:X.env.builtins=builtinsNs
 above:X.s₀.heap.objs.size<=X.env.locals
 inj:∀x y c,X.env.cells.lookup x=some c->X.env.cells.lookup y=some c->x=y
 has:∀x,(X.env.kindOf x=some .cell\/X.env.kindOf x=some .free)->∃c,X.env.cells.lookup x=some c
 tq:∀x c,X.fn x=true->X.env.cells.lookup x=some c->X.s₀.heap.objs.size<=c
 hd:X.calm=true->X.A.handled=none
 frames:X.A.frames=some X.stack
 nE:X.stack=X.outer\/(X.stack=X.env::X.outer/\X.env.frame=some X.env.locals)
 Yq:∀b∈X.ex,b≠X.env.locals/\∀x c,X.env.cells.lookup x=some c->c≠b
 bs:∀b o,X.base.get? b=some o->X.s₀.heap.get? b=some o/\X.H₀ b=none
 mh:X.base.objs.size<=X.s₀.heap.objs.size
 tw:∀b o,X.base.get? b=some o->b∉X.ex
 tD:∀b∈X.ex,b∉X.fs
 ic:X.s₀.heap.FunFrames X.base X.outer
 nF:∀b∈X.fs,X.H₀ b=none
structure Inv (X:Cx) (pins:List (Addr×Obj)) (σ:List (Option V)) (H:Hp) (s:Shared):Prop where
 ok:X.Ok
 os:s.os=X.s₀.os
 bare:AllBare s.gens
 base:Un X.fs X.ex X.H₀ H X.s₀.heap s.heap
 loc:∃m,s.heap.Ns X.env.locals m/\∀(i:Nat) (x:Str) (v:V),X.N[i]?=some x->σ[i]?=some (some v)->pN X.env.scope x->∃u,RelV v u/\Look X.env s.heap m x u
 cell:∀x c,X.env.cells.lookup x=some c->∃v,s.heap.IsCell c v
 free:H X.env.locals=none
 iZ:∀x c,X.env.cells.lookup x=some c->H c=none
 pin:∀p∈X.pn++pins,s.heap.get? p.1=some p.2/\H p.1=none/\p.1≠X.env.locals/\p.1∉X.fs/\∀v,p.2.data≠ .cell v
 aH:b9 X.prog X.w H s.heap
 len:σ.length=X.N.length
section
variable {X:Cx}{pins:List (Addr×Obj)}{σ:List (Option V)}{H H':Hp}{s:Shared}{h':Heap}
theorem Cx.Ok.HS(ok:X.Ok){b:Addr}{o:Obj}(e:X.base.get? b=some o):b∉X.fs:=fun hb=>by
 have:=(ok.ic.mem hb).1;rw[e] at this;cases this
theorem Inv.bs(I:Inv X pins σ H s):∀b o,X.base.get? b=some o->s.heap.get? b=some o/\H b=none:=fun b o e=>
 ⟨I.base.keep b o (I.ok.bs b o e).1 (I.ok.bs b o e).2 (I.ok.HS e)<|I.ok.tw b o e,I.base.free b o (I.ok.bs b o e).1 (I.ok.bs b o e).2<|I.ok.tw b o e⟩
theorem Inv.bk(I:Inv X pins σ H s):∀b o,X.base.get? b=some o->s.heap.get? b=some o:=fun b o e=>(I.bs b o e).1
theorem Inv.mod(I:Inv X pins σ H s):Mod X.K X.mg X.base:=I.ok.mod
theorem Inv.cb(I:Inv X pins σ H s):X.K.In s.heap:=I.ok.mod.nC.keeps I.bk
theorem Inv.lt(I:Inv X pins σ H s):X.env.locals<s.heap.objs.size:=let ⟨_,hn,_⟩:=I.loc;hn.lt
theorem Inv.sz(I:Inv X pins σ H s):X.s₀.heap.objs.size<=s.heap.objs.size:=zar I.ok.above (Nat.le_of_lt I.lt)
theorem Inv.yI(I:Inv X pins σ H s){a:Addr}(h:s.heap.objs.size<=a):a∉X.fs:=fun hb=>by
 obtain⟨_,o,ho,_⟩:=I.ok.ic.mem hb;exact absurd (zaq (Heap.lt_size ho)<|zar I.sz h)<|zax _
theorem Inv.kf(I:Inv X pins σ H s):∀x c,X.env.cells.lookup x=some c->c≠X.env.locals:=fun x c e z=>by
 obtain⟨v,o,ho,hd⟩:=I.cell x c e;obtain⟨m,⟨o',es,ep,eL,tE,_⟩,_⟩:=I.loc;rw[z,eL] at ho;cases ho;rw[tE] at hd;cases hd
theorem Inv.ic(I:Inv X pins σ H s):s.heap.FunFrames X.base X.outer:=by
 have all:∀(l:List Env),(∀b∈bR l,b∈X.fs)->X.s₀.heap.FunFrames X.base l->s.heap.FunFrames X.base l:=by
  intro l
  induction l with
  |nil=>intro _ _;trivial
  |cons env r ih=>
   intro hs hl;obtain⟨hk,⟨L,o,hf,hn,ho,hd⟩,hr⟩:=hl;have hL:L∈X.fs:=hs L (by unfold bR;rw[zbg,hf];exact zan)
   obtain⟨sl,e⟩:=I.base.slot L o ho (I.ok.nF L hL) hL fun z=>I.ok.tD L z hL;exact⟨hk,⟨L,_,hf,hn,e,hd⟩,ih (fun b hb=>hs b (by unfold bR;rw[zbg,hf];exact zam _ hb)) hr⟩
 exact all X.outer (fun _ hb=>hb) I.ok.ic
theorem Inv.stack(I:Inv X pins σ H s):s.heap.FunFrames X.base X.stack:=by
 rcases I.ok.nE with e|⟨e,hf⟩
 ·rw[e];exact I.ic
 ·rw[e];obtain⟨m,hn,_⟩:=I.loc;refine .cons (by rw[I.ok.kind];decide) hf hn ?_ I.ic
  exact Heap.get?_none_of_le<|zar I.ok.mh I.ok.above
theorem Inv.pO(I:Inv X pins σ H s):∀b∈bR X.stack,b∈X.env.locals::X.fs:=fun b hb=>by
 rcases I.ok.nE with e|⟨e,hf⟩
 ·rw[e] at hb;exact zam _ hb
 ·rw[e] at hb;unfold bR at hb;rw[zbg,hf] at hb;exact hb
theorem Inv.pP(I:Inv X pins σ H s):∀b∈bR X.stack,H b=none:=fun b hb=>by
 rcases zad.mp (I.pO b hb) with e|hb
 ·rw[e];exact I.free
 ·obtain⟨_,o,ho,_⟩:=I.ok.ic.mem hb;exact I.base.free b o ho (I.ok.nF b hb) fun z=>I.ok.tD b z hb
theorem Inv.step{g':Array GenState}{t':Nat}{d':Drawn}{ch:List Addr}(I:Inv X pins σ H s)
  (cT:∀b∈ch,(b∈X.ex\/X.s₀.heap.objs.size<=b)/\b≠X.env.locals/\(∀x c,X.env.cells.lookup x=some c->c≠b)/\∀p∈X.pn++pins,p.1≠b)
  (keep:∀b o,b≠X.env.locals->b∉X.fs->b∉ch->s.heap.get? b=some o->H b=none->h'.get? b=some o)
  (slot:∀b o,b≠X.env.locals->b∈X.fs->b∉ch->s.heap.get? b=some o->H b=none->∃sl,h'.get? b=some {o with slots:=sl}) (free:∀b o,b∉ch->s.heap.get? b=some o->H b=none->H' b=none)
  (there:∀b o,b∉ch->s.heap.get? b=some o->∃o',h'.get? b=some o')
  (b_:∀b xs,H b=some (.tup xs)->H' b=some (.tup xs)) (e_:∀b o u,H b=some (.bJ o u)->H' b=some (.bJ o u)) (fK:∀b ps,H b=some (.ib ps)->∃more,H' b=some (.ib<|ps++more))
  (ns:∀m,s.heap.Ns X.env.locals m->h'.Ns X.env.locals m) (aH:b9 X.prog X.w H' h') (hg:AllBare g'):
  Inv X pins σ H' {s with heap:=h',gens:=g',drawn:=d',toks:=t'}:=by
 have yJ:∀b o,X.s₀.heap.get? b=some o->b≠X.env.locals:=fun b o e=>zal (zaq (Heap.lt_size e) I.ok.above);have pQ:∀b o,X.s₀.heap.get? b=some o->b∉X.ex->b∉ch:=fun b o e hx hb=>by
  rcases (cT b hb).1 with z|z
  ·exact hx z
  ·exact absurd (zaq (Heap.lt_size e) z) (zax _)
 have cellK:∀x c,X.env.cells.lookup x=some c->∀v,s.heap.IsCell c v->h'.IsCell c v:=fun x c e v ⟨o,ho,hd⟩=>by
  have nG:c∉ch:=fun z=>(cT c z).2.2.1 x c e rfl;by_cases hc:c∈X.fs
  ·obtain⟨sl,q⟩:=slot c o (I.kf x c e) hc nG ho (I.iZ x c e);exact⟨_,q,hd⟩
  ·exact⟨o,keep c o (I.kf x c e) hc nG ho<|I.iZ x c e,hd⟩
 refine⟨I.ok,I.os,hg,⟨fun b o e n hb hx=>?_,fun b o e n hb hx=>?_,fun b o e n hx=>?_,fun b o e hx=>?_,fun b xs e=>b_ b xs<|I.base.b_ b xs e,fun b o xs e=>e_ b o xs<|I.base.e_ b o xs e,fun b ps e=>?_⟩,?_,fun x c e=>?_,?_,fun x c e=>?_,fun p hp=>?_,aH,I.len⟩
 ·exact keep b o (yJ b o e) hb (pQ b o e hx) (I.base.keep b o e n hb hx) (I.base.free b o e n hx)
 ·obtain⟨sl,e1⟩:=I.base.slot b o e n hb hx;obtain⟨HU,e2⟩:=slot b _ (yJ b o e) hb (pQ b o e hx) e1 (I.base.free b o e n hx);exact⟨HU,e2⟩
 ·obtain⟨o',e1⟩:=I.base.there b o e hx;exact free b o' (pQ b o e hx) e1<|I.base.free b o e n hx
 ·obtain⟨o',e1⟩:=I.base.there b o e hx;exact there b o' (pQ b o e hx) e1
 ·obtain⟨m1,e1⟩:=I.base.fK b ps e;obtain⟨m2,e2⟩:=fK b _ e1;exact⟨m1++m2,by rw[e2,Array.append_assoc]⟩
 ·obtain⟨m,hn,hl⟩:=I.loc;refine⟨m,ns m hn,fun i x v e1 e2 e3=>?_⟩;obtain⟨u,r,l⟩:=hl i x v e1 e2 e3;refine⟨u,r,?_⟩;rcases l with l|⟨k,c,e,z⟩
  ·exact .inl l
  ·exact .inr ⟨k,c,e,cellK x c e _ z⟩
 ·obtain⟨v,z⟩:=I.cell x c e;exact⟨v,cellK x c e v z⟩
 ·obtain⟨m,⟨o,_,_,ho,_⟩,_⟩:=I.loc;exact free _ o (fun z=>(cT _ z).2.1 rfl) ho I.free
 ·obtain⟨v,o,ho,hd⟩:=I.cell x c e;exact free c o (fun z=>(cT c z).2.2.1 x c e rfl) ho<|I.iZ x c e
 ·obtain⟨e,n,ne,nf,d⟩:=I.pin p hp;have nG:p.1∉ch:=fun z=>(cT p.1 z).2.2.2 p hp rfl;exact⟨keep p.1 p.2 ne nf nG e n,free p.1 p.2 nG e n,ne,nf,d⟩
theorem Inv.un{t':Nat}(I:Inv X pins σ H s)(u:Un X.fs [] H H' s.heap h')(aH:b9 X.prog X.w H' h'):Inv X pins σ H' {s with heap:=h',toks:=t'}:=by
 obtain⟨m,⟨o,es,ep,ho,r⟩,_⟩:=id I.loc;obtain⟨sl,hL⟩:=u.any ho I.free (by simp)
 exact I.step (g':=s.gens) (d':=s.drawn) (ch:=[]) (fun _ z=>nomatch z) (fun b o _ hb _ e n=>u.keep b o e n hb (by simp)) (fun b o _ hb _ e n=>u.slot b o e n hb (by simp)) (fun b o _ e n=>u.free b o e n (by simp)) (fun b o _ e=>u.there b o e (by simp)) u.b_ u.e_ u.fK (fun m' hm=>by
  obtain⟨o',tF,tG,eL,r'⟩:=hm;rw[ho] at eL;cases eL;exact⟨_,tF,tG,hL,r'⟩) aH I.bare
theorem Inv.call{g':Array GenState}{t':Nat}{d':Drawn}{ch:List Addr}(I:Inv X pins σ H s)(u:Un (bR X.stack) ch H H' s.heap h')(aH:b9 X.prog X.w H' h')(hg:AllBare g')
  (cT:∀b∈ch,(b∈X.ex\/X.s₀.heap.objs.size<=b)/\b≠X.env.locals/\(∀x c,X.env.cells.lookup x=some c->c≠b)/\∀p∈X.pn++pins,p.1≠b):
  Inv X pins σ H' {s with heap:=h',gens:=g',drawn:=d',toks:=t'}:=by
 obtain⟨m,⟨o,es,ep,ho,r⟩,_⟩:=id I.loc;obtain⟨sl,hL⟩:=u.any ho I.free fun z=>(cT _ z).2.1 rfl;exact I.step (ch:=ch) cT (fun b o hL hb hc e n=>u.keep b o e n (fun z=>(zad.mp (I.pO b z)).elim hL hb) hc) (fun b o _ _ hc e n=>u.any e n hc) (fun b o hc e n=>u.free b o e n hc) (fun b o hc e=>u.there b o e hc) u.b_ u.e_ u.fK (fun m' hm=>by
  obtain⟨o',tF,tG,eL,r'⟩:=hm;rw[ho] at eL;cases eL;exact⟨_,tF,tG,hL,r'⟩) aH hg
theorem Inv.turned{t':Nat}{it:Addr}(I:Inv X pins σ H s)(k:∀b o,b≠it->s.heap.get? b=some o->h'.get? b=some o)(hn:H it=none)(hL:it≠X.env.locals)
  (h1:it∈X.ex\/X.s₀.heap.objs.size<=it) (h2:∀x c,X.env.cells.lookup x=some c->c≠it) (h3:∀p∈X.pn++pins,p.1≠it):Inv X pins σ H {s with heap:=h',toks:=t'}:=by
 have yK:∀b u,H b=some u->b≠it:=fun b u e z=>by rw[z,hn] at e;cases e
 refine I.step (g':=s.gens) (d':=s.drawn) (ch:=[it]) (fun b hb=>?_) (fun b o _ _ hc e _=>k b o (fun z=>hc (by simp[z])) e) (fun b o _ _ hc e _=>⟨o.slots,k b o (fun z=>hc (by simp[z])) e⟩) (fun _ _ _ _ n=>n)
  (fun b o hc e=>⟨o,k b o (fun z=>hc (by simp[z])) e⟩) (fun _ _ e=>e) (fun _ _ _ e=>e) (fun b ps e=>⟨#[],by rw[e];simp⟩) (fun m hm=>?_) (fun b u e=>?_) I.bare
 ·have e:b=it:=by simpa using hb
  subst e;exact⟨h1,hL,h2,h3⟩
 ·obtain⟨o,es,ep,ho,r⟩:=hm;exact⟨o,es,ep,k _ o (Ne.symm hL) ho,r⟩
 ·refine(I.aH b u e).gL (fun c v hc q=>k c v ?_ q) (fun _ q=>q) fun _ _ q=>q;rcases hc with z|z
  ·rw[z];exact yK b u e
  ·exact yK c _ z
theorem Inv.tok(I:Inv X pins σ H s)(t:Nat):Inv X pins σ H {s with toks:=t}:=I.un (h':=s.heap) (t':=t) Un.refl I.aH
theorem Inv.kept{t':Nat}(I:Inv X pins σ H s)(k:∀b u,s.heap.get? b=some u->h'.get? b=some u):Inv X pins σ H {s with heap:=h',toks:=t'}:=I.un (Un.kept k) (I.aH.kept k)
theorem Inv.laid{a:Addr}{o:HO}{t':Nat}(I:Inv X pins σ H s)(k:∀b u,s.heap.get? b=some u->h'.get? b=some u)(hp:s.heap.objs.size<=a)(new:cJ X.prog X.w (upd H a o) h' a o):
  Inv X pins σ (upd H a o) {s with heap:=h',toks:=t'}:=I.un (Un.laid k hp<|I.aH.fresh hp) (I.aH.laid k hp new)
theorem Inv.write{x e:Addr}{o:HO}{t':Nat}(I:Inv X pins σ H s)(mu:pM (H x))(he:e=x\/H e=some (.own x))(k:∀b u,b≠e->s.heap.get? b=some u->h'.get? b=some u)(me:∃u,h'.get? e=some u)
  (new:cJ X.prog X.w (upd H x o) h' x o):Inv X pins σ (upd H x o) {s with heap:=h',toks:=t'}:=I.un (Un.write mu he k me) (I.aH.write mu he k me new)
theorem Inv.mj{tH:List (Addr×Obj)}(I:Inv X pins σ H s)(h:∀p∈tH,s.heap.get? p.1=some p.2/\H p.1=none/\p.1≠X.env.locals/\p.1∉X.fs/\∀v,p.2.data≠ .cell v):Inv X tH σ H s:=
 ⟨I.ok,I.os,I.bare,I.base,I.loc,I.cell,I.free,I.iZ,fun p hp=>(zao.mp hp).elim (fun z=>I.pin p<|zaZ _ z)<|h p,I.aH,I.len⟩
theorem yL{N:List Str}(hN:N.Nodup){i j:Nat}{x:Str}(a:N[i]?=some x)(b:N[j]?=some x):i=j:=by
 obtain⟨h1,e1⟩:=zab.mp a;obtain⟨h2,e2⟩:=zab.mp b;exact(List.getElem_inj hN).mp<|e1.trans e2.symm
theorem HV{M:Model}{A:Around}{E:Value->Shared->Prop}{i:Nat}{x:Str}{v:V}{u:Value}{Q:Unit->Shared->Prop}(I:Inv X pins σ H s)(hN:X.N.Nodup)(hi:X.N[i]?=some x)(hx:Loc X.env.scope x)(r:RelV v u)
  (h:∀s',Inv X pins (σ.set i<|some v) H s'->(∃a,Heap.SameBut a s.heap s'.heap/\(a=X.env.locals\/X.env.cells.lookup x=some a))->Q () s') (hf:X.fn x=true\/X.env.scope.names.lookup x=some .local:=by first|exact .inl rfl|exact .inr rfl|assumption):wpAny M A (storeName X.env x u) Q E s:=by
 obtain⟨m,hn,hl⟩:=id I.loc;have HW:(X.env.scope.kind==.class ||(X.env.scope.kind==.module && X.env.locals !=X.env.globals))=false:=by rw[I.ok.kind];rfl
 have yM:i<σ.length:=by rw[I.len];exact(zab.mp hi).1
 have kf:=I.kf;have tracked:∀{a:Addr}{h':Heap},(∃o,s.heap.get? a=some o/\H a=none)->Heap.SameBut a s.heap h'->b9 X.prog X.w H h':=fun {a h'} ha hs b ob e=>by
  obtain⟨_,_,yN⟩:=ha;refine(I.aH b ob e).gL (fun c w' hc q=>(hs.2 c ?_).trans q) (fun _ q=>q) fun _ _ q=>q;rintro rfl;rcases hc with rfl|hc
  ·rw[yN] at e;cases e
  ·rw[yN] at hc;cases hc
 rcases hx with hk|hk
 ·refine wpAny_storeName_local hk hn (fun h' HX hs=>?_) HW;obtain⟨oL,_,_,HY,_⟩:=id hn;refine h _ ⟨I.ok,I.os,I.bare,⟨fun b o e n hb hx=>?_,fun b o e n hb hx=>?_,I.base.free,fun b o e hx=>?_,I.base.b_,I.base.e_,I.base.fK⟩,⟨_,HX,fun j y v' e1 e2 e3=>?_⟩,fun y c e=>?_,I.free,I.iZ,fun p hp=>?_,tracked ⟨oL,HY,I.free⟩ hs,by simpa using I.len⟩ ⟨_,hs,.inl rfl⟩
  ·exact(hs.2 b<|zal<|zaq (Heap.lt_size e) I.ok.above).trans (I.base.keep b o e n hb hx)
  ·obtain⟨sl,e1⟩:=I.base.slot b o e n hb hx;exact⟨sl,(hs.2 b<|zal<|zaq (Heap.lt_size e) I.ok.above).trans e1⟩
  ·obtain⟨o',e1⟩:=I.base.there b o e hx;exact⟨o',(hs.2 b<|zal<|zaq (Heap.lt_size e) I.ok.above).trans e1⟩
  ·by_cases hj:j=i
   ·subst hj;rw[hi] at e1;cases e1;rw[List.getElem?_set_self yM] at e2;cases e2;exact⟨u,r,.inl ⟨hk,by simp⟩⟩
   ·rw[List.getElem?_set_ne<|Ne.symm hj] at e2;obtain⟨u',r',q⟩:=hl j y v' e1 e2 e3;refine⟨u',r',?_⟩;rcases q with⟨k,e⟩|⟨k,c,e,z⟩
    ·refine .inl ⟨k,?_⟩;have:y≠x:=fun e=>hj (yL hN e1<|e ▸ hi)
     simp[this,e]
    ·exact .inr ⟨k,c,e,z.sameBut hs<|kf y c e⟩
  ·obtain⟨w',z⟩:=I.cell y c e;exact⟨w',z.sameBut hs<|kf y c e⟩
  ·obtain⟨e,n,ne,nf,d⟩:=I.pin p hp;exact⟨(hs.2 p.1 ne).trans e,n,ne,nf,d⟩
 ·have tI:X.fn x=true:=by
   rcases hf with z|z
   ·exact z
   ·rw[z] at hk;cases hk
  obtain⟨c,hc⟩:=I.ok.has x (.inl hk);obtain⟨w',z⟩:=I.cell x c hc;refine wpAny_storeName_cell I.ok.kind hk hc z<|fun h' cm hs=>?_;obtain⟨oc,yO,HZ⟩:=id z;refine h {s with heap:=h'} ⟨I.ok,I.os,I.bare,⟨fun b o e n hb hx=>?_,fun b o e n hb hx=>?_,I.base.free,fun b o e hx=>?_,I.base.b_,I.base.e_,I.base.fK⟩,⟨m,hn.sameBut hs<|Ne.symm<|kf x c hc,fun j y v' e1 e2 e3=>?_⟩,fun y c' e=>?_,I.free,I.iZ,fun p hp=>?_,tracked ⟨oc,yO,I.iZ x c hc⟩ hs,by simpa using I.len⟩ ⟨c,hs,.inr hc⟩
  ·exact(hs.2 b<|zal<|zaq (Heap.lt_size e)<|I.ok.tq x c tI hc).trans (I.base.keep b o e n hb hx)
  ·obtain⟨sl,e1⟩:=I.base.slot b o e n hb hx;exact⟨sl,(hs.2 b<|zal<|zaq (Heap.lt_size e)<|I.ok.tq x c tI hc).trans e1⟩
  ·obtain⟨o',e1⟩:=I.base.there b o e hx;exact⟨o',(hs.2 b<|zal<|zaq (Heap.lt_size e)<|I.ok.tq x c tI hc).trans e1⟩
  ·by_cases hj:j=i
   ·subst hj;rw[hi] at e1;cases e1;rw[List.getElem?_set_self yM] at e2;cases e2;exact⟨u,r,.inr ⟨.inl hk,c,hc,cm⟩⟩
   ·rw[List.getElem?_set_ne<|Ne.symm hj] at e2;obtain⟨u',r',q⟩:=hl j y v' e1 e2 e3;refine⟨u',r',?_⟩;rcases q with q|⟨k,c',e,z'⟩
    ·exact .inl q
    ·refine .inr ⟨k,c',e,z'.sameBut hs ?_⟩;rintro rfl;exact hj<|yL hN e1<|I.ok.inj _ _ _ e hc ▸ hi
  ·by_cases yP:c'=c
   ·subst yP;exact⟨_,cm⟩
   ·obtain⟨w2,z2⟩:=I.cell y c' e;exact⟨w2,z2.sameBut hs yP⟩
  ·obtain⟨e,n,ne,nf,d⟩:=I.pin p hp;refine⟨(hs.2 p.1 ?_).trans e,n,ne,nf,d⟩;intro q;rw[q,yO] at e;have q':oc=p.2:=zak e;exact d w' (by rw[<-q'];exact HZ)
theorem pR{M:Model}{A:Around}{E:Value->Shared->Prop}{i:Nat}{x:Str}{v:V}{u:Value}{Q:Unit->Shared->Prop}(I:Inv X pins σ H s)(hN:X.N.Nodup)(hi:X.N[i]?=some x)(hx:Loc X.env.scope x)(r:RelV v u)
  (h:∀s',Inv X pins (σ.set i<|some v) H s'->Q () s') (hf:X.fn x=true\/X.env.scope.names.lookup x=some .local:=by first|exact .inl rfl|exact .inr rfl|assumption):wpAny M A (storeName X.env x u) Q E s:=
 HV I hN hi hx r (fun s' I' _=>h s' I') hf
theorem Inv.H_{s':Shared}{ch:List Addr}(I:Inv X pins σ H s)(ho:s'.os=s.os)(u:Un (bR X.stack) ch H H' s.heap s'.heap)(aH:b9 X.prog X.w H' s'.heap)(hg:AllBare s'.gens)
  (cT:∀b∈ch,(b∈X.ex\/X.s₀.heap.objs.size<=b)/\b≠X.env.locals/\(∀x c,X.env.cells.lookup x=some c->c≠b)/\∀p∈X.pn++pins,p.1≠b):Inv X pins σ H' s':=by
 obtain⟨h',g',d',t',o'⟩:=s';have e:o'=s.os:=ho;subst e;exact I.call (g':=g') (t':=t') (d':=d') u aH hg cT
end
abbrev XK:=Value->Option Addr->Hp->Prop
abbrev St:=List (Option V)
abbrev VK:=V->Hp->Prop
abbrev TE:=St->Hp->VK->Prop
abbrev TT:=St->Hp->(Bool->Hp->Prop)->Prop
abbrev TA:=St->Hp->(List V->Hp->Prop)->Prop
structure Ends where
 nx:St->Hp->Prop
 rt:VK
 bk:St->Hp->Prop:=fun _ _=>False
 ct:St->Hp->Prop:=fun _ _=>False
abbrev TS:=Ends->St->Hp->Prop
def EP(X:Cx)(pins:List (Addr×Obj))(σ:St)(Q:VK)(u:Value)(s':Shared):Prop:= ∃v H',Inv X pins σ H' s'/\RelV v u/\Q v H'
def TP(X:Cx)(pins:List (Addr×Obj))(σ:St)(Q:Bool->Hp->Prop)(b:Bool)(s':Shared):Prop:= ∃H',Inv X pins σ H' s'/\Q b H'
def AP(X:Cx)(pins:List (Addr×Obj))(σ:St)(Q:List V->Hp->Prop)(us:List Value)(s':Shared):Prop:= ∃vs H',Inv X pins σ H' s'/\Vals vs us/\Q vs H'
def SP(X:Cx)(pins:List (Addr×Obj))(D:Ends)(f:Flow)(s':Shared):Prop:=
 match f with
 |.next=>∃σ' H',Inv X pins σ' H' s'/\D.nx σ' H'
 |.brk=>∃σ' H',Inv X pins σ' H' s'/\D.bk σ' H'
 |.cont=>∃σ' H',Inv X pins σ' H' s'/\D.ct σ' H'
 |.ret u=>∃v σ' H',Inv X pins σ' H' s'/\RelV v u/\D.rt v H'
def PE(X:Cx)(e:Expr)(t:TE):Prop:=
 ∀(pins:List (Addr×Obj)) (s:Shared) (σ:St) (H:Hp) (Q:VK),Inv X pins σ H s->t σ H Q->wpAny (model X.prog X.w) X.A (eval e X.env) (EP X pins σ Q) X.xe s
def PT(X:Cx)(e:Expr)(t:TT):Prop:=
 ∀(pins:List (Addr×Obj)) (s:Shared) (σ:St) (H:Hp) (Q:Bool->Hp->Prop),Inv X pins σ H s->t σ H Q->wpAny (model X.prog X.w) X.A (isTrue e X.env<|eval e X.env) (TP X pins σ Q) X.xe s
def PW(X:Cx)(e:Expr)(t:TT):Prop:=
 ∀(whole:Sem Value) (pins:List (Addr×Obj)) (s:Shared) (σ:St) (H:Hp) (Q:Bool->Hp->Prop),Inv X pins σ H s->t σ H Q->wpAny (model X.prog X.w) X.A (isTrue e X.env whole) (TP X pins σ Q) X.xe s
theorem PW.pt{X:Cx}{e:Expr}{t:TT}(h:PW X e t):PT X e t:=h _
def PA(X:Cx)(es:List Expr)(t:TA):Prop:=
 ∀(pos:Pos) (pins:List (Addr×Obj)) (s:Shared) (σ:St) (H:Hp) (Q:List V->Hp->Prop),Inv X pins σ H s->t σ H Q->wpAny (model X.prog X.w) X.A (spliced<|backTo pos<|starEach es X.env) (AP X pins σ Q) X.xe s
def PS(X:Cx)(st:Stmt)(t:TS):Prop:=
 ∀(pins:List (Addr×Obj)) (s:Shared) (σ:St) (H:Hp) (D:Ends),Inv X pins σ H s->t D σ H->wpAny (model X.prog X.w) X.A (exec st X.env) (SP X pins D) X.xe s
def c_(X:Cx)(st:List Stmt)(t:TS):Prop:=
 ∀(pins:List (Addr×Obj)) (s:Shared) (σ:St) (H:Hp) (D:Ends),Inv X pins σ H s->t D σ H->wpAny (model X.prog X.w) X.A (execs st X.env) (SP X pins D) X.xe s
theorem aR{α:Type}{t:Sem α}{Q Q':α->Shared->Prop}{M:Model}{A:Around}{E:Value->Shared->Prop}{s:Shared}(h:wpAny M A t Q E s)(hQ:∀a s,Q a s->Q' a s):wpAny M A t Q' E s:=wpAny_mono h hQ fun _ _ x=>x
section
variable {X:Cx}
def tJ(i:Nat):TE:=fun σ H Q=>∃v,σ[i]?=some (some v)/\Q v H
def tC(v:V):TE:=fun _ H Q=>Q v H
theorem Ia{i:Nat}{x:Str}{pos:Pos}(hN:X.N[i]?=some x)(hv:pN X.env.scope x)(hd:(x==("__debug__":Str))=false:=by decide)(gc:(x==("__classdict__":Str))=false:=by decide):PE X (.Name x pos) (tJ i):=by
 intro pins s σ H Q I h;obtain⟨v,e,h⟩:=h;obtain⟨m,hn,hl⟩:=I.loc;obtain⟨u,r,l⟩:=hl i x v hN e hv;have fin:EP X pins σ Q u s:=⟨v,H,I,r,h⟩;rcases l with⟨hk,hm⟩|⟨hk,c,hc,yQ⟩
 ·exact wpAny_Name (wpAny_loadName_local I.ok.kind hk hn hm fin) hd
 ·rcases hk with hk|hk
  ·exact wpAny_Name (wpAny_loadName_cell I.ok.kind hk hc yQ fin) hd
  ·exact wpAny_Name (wpAny_loadName_free I.ok.kind hk hc yQ fin gc) hd
theorem Ib{i j pos}:PE X (.Constant (.int i) j pos) (tC<|.int i):=fun _ _ _ H _ I h=>wpAny_Constant_int ⟨.int i,H,I.tok _,⟨_,rfl⟩,h⟩
theorem Ic{b j pos}:PE X (.Constant (.bool b) j pos) (tC<|.bl b):=fun _ _ _ H _ I h=>Constant_bool ⟨.bl b,H,I,rfl,h⟩
theorem Ie{j pos}:PE X (.Constant .none j pos) (tC .az):=fun _ _ _ H _ I h=>Constant_none ⟨.az,H,I,rfl,h⟩
theorem Ig{x j pos}:PE X (.Constant (.str x) j pos) (tC<|.str x):=fun _ _ _ H _ I h=>Calls.Constant_str ⟨.str x,H,I.tok _,⟨_,rfl⟩,h⟩
def Gl(X:Cx)(x:Str):Prop:=X.env.kindOf x=some .globalImplicit
theorem pS{E:Value->Shared->Prop}{pins:List (Addr×Obj)}{s:Shared}{σ:St}{H:Hp}{x:Str}{u:Value}{pos:Pos}{Q:Value->Shared->Prop}(I:Inv X pins σ H s)(hg:Gl X x)(hm:X.mg x=some u)(h:Q u s)
  (hd:(x==("__debug__":Str))=false:=by decide):wpAny (model X.prog X.w) X.A (eval (.Name x pos) X.env) Q E s:=
 Calls.Name_function_global I.ok.kind hg (Calls.loadGlobal_global (by rw[I.ok.glob];exact I.mod.glob.keeps I.bk) hm h) hd
theorem mm{E:Value->Shared->Prop}{pins:List (Addr×Obj)}{s:Shared}{σ:St}{H:Hp}{x:Str}{u:Value}{pos:Pos}{Q:Value->Shared->Prop}(I:Inv X pins σ H s)(hg:Gl X x)(hm:X.mg x=none)(hv:bootBuiltins x=some u)(h:Q u s)
  (hn:x≠"__name__":=by decide) (hd:(x==("__debug__":Str))=false:=by decide):wpAny (model X.prog X.w) X.A (eval (.Name x pos) X.env) Q E s:=by
 obtain⟨mb,h1,h2⟩:=I.mod.blt;exact Calls.Name_function_global I.ok.kind hg (Calls.loadGlobal_builtin (by rw[I.ok.glob];exact I.mod.glob.keeps I.bk) hm (by rw[I.ok.blt];exact h1.keeps I.bk) ((h2 x hn).trans hv) h) hd
theorem yR{x:Str}{v:V}{u:Value}{pos:Pos}(hg:Gl X x)(hm:X.mg x=some u)(r:RelV v u)(hd:(x==("__debug__":Str))=false:=by decide):PE X (.Name x pos) (tC v):=
 fun _ _ _ H _ I h=>pS I hg hm ⟨v,H,I,r,h⟩ hd
theorem Ih{x:Str}{v:V}{u:Value}{pos:Pos}(hg:Gl X x)(hm:X.mg x=none)(hv:bootBuiltins x=some u)(r:RelV v u)(hn:x≠"__name__":=by decide)(hd:(x==("__debug__":Str))=false:=by decide):PE X (.Name x pos) (tC v):=
 fun _ _ _ H _ I h=>mm I hg hm hv ⟨v,H,I,r,h⟩ hn hd
variable {a b:Expr}{ta tb:TE}{pos:Pos}
def tB(t:TE):TT:=fun σ H Q=>t σ H fun x H1=>∃c,x=.bl c/\Q c H1
variable {tA pT:TT}{rest:List Expr}
def yS(t u:TT):TT:=fun σ H Q=>t σ H fun c H1=>if c=true then u σ H1 Q else Q false H1
def yT(t u:TT):TT:=fun σ H Q=>t σ H fun c H1=>if c=true then Q true H1 else u σ H1 Q
def yU(t:TT):TT:=fun σ H Q=>t σ H fun c H1=>Q (!c) H1
theorem pw_and1(ha:PT X a tA):PW X (.BoolOp .And [a] pos) tA:=by
 intro wh pins s σ H Q I h;refine isTrue_and<|aR (ha pins s σ H Q I h) fun c s1 e=>?_;cases c with
 |true=>exact isTrue_and_nil e
 |false=>exact e
theorem pw_or1(ha:PT X a tA):PW X (.BoolOp .Or [a] pos) tA:=by
 intro wh pins s σ H Q I h;refine isTrue_or<|aR (ha pins s σ H Q I h) fun c s1 e=>?_;cases c with
 |false=>exact isTrue_or_nil e
 |true=>exact e
theorem pw_and(ha:PT X a tA)(hb:PW X (.BoolOp .And (b::rest) pos) pT):PW X (.BoolOp .And (a::b::rest) pos) (yS tA pT):=by
 intro wh pins s σ H Q I h;refine isTrue_and<|aR (ha pins s σ H _ I h) fun c s1 ⟨H1,I1,q1⟩=>?_;cases c with
 |true=>exact hb wh pins s1 σ H1 Q I1 q1
 |false=>exact⟨H1,I1,q1⟩
theorem pw_or(ha:PT X a tA)(hb:PW X (.BoolOp .Or (b::rest) pos) pT):PW X (.BoolOp .Or (a::b::rest) pos) (yT tA pT):=by
 intro wh pins s σ H Q I h;refine isTrue_or<|aR (ha pins s σ H _ I h) fun c s1 ⟨H1,I1,q1⟩=>?_;cases c with
 |true=>exact⟨H1,I1,q1⟩
 |false=>exact hb wh pins s1 σ H1 Q I1 q1
theorem Ii(ha:PT X a tA):PT X (.UnaryOp .Not a pos) (yU tA):=by
 intro pins s σ H Q I h;exact isTrue_not<|ha pins s σ H (fun c H1=>Q (!c) H1) I h
def yV(ta tb:TE):TE:=fun σ H Q=>ta σ H fun x H1=>∃c,x=.bl c/\if c=true then tb σ H1 Q else Q (.bl false) H1
def Ij(ta tb:TE):TE:=fun σ H Q=>ta σ H fun x H1=>∃c,x=.bl c/\if c=true then Q (.bl true) H1 else tb σ H1 Q
theorem Ik{op}{t:TE}(h:PE X a t):PE X (.BoolOp op [a] pos) t:=fun pins s σ H Q I hw=>BoolOp_one (h pins s σ H Q I hw)
theorem Il(ha:PE X a ta)(hb:PE X (.BoolOp .And (b::rest) pos) tb):PE X (.BoolOp .And (a::b::rest) pos) (yV ta tb):=by
 intro pins s σ H Q I h;refine BoolOp_and<|aR (ha pins s σ H _ I h) fun v s1 ⟨x,H1,I1,r1,q1⟩=>?_;obtain⟨c,rfl,q1⟩:=q1;cases r1;refine wpAny_truthy_bool ?_;cases c with
 |true=>exact hb pins s1 σ H1 Q I1 q1
 |false=>exact⟨.bl false,H1,I1,rfl,q1⟩
def yW(t:TT)(ta tb:TE):TE:=fun σ H Q=>t σ H fun c H1=>if c=true then ta σ H1 Q else tb σ H1 Q
theorem Im{c:Expr}(hc:PT X c tA)(ha:PE X a ta)(hb:PE X b tb):PE X (.IfExp c a b pos) (yW tA ta tb):=by
 intro pins s σ H Q I h;refine wpAny_IfExp<|aR (hc pins s σ H _ I h) fun d s1 ⟨H1,I1,q1⟩=>?_;cases d with
 |true=>exact ha pins s1 σ H1 Q I1 q1
 |false=>exact hb pins s1 σ H1 Q I1 q1
end
def ay(K:Frag)(H:Hp)(a:Addr)(xs:List V):Prop:=
 Rd H a (.lst xs)\/
  ∃(o:Obj) (its:Array Value) (n:Nat),K.lookup a=some o/\o.cls=.type "list"/\o.dict=none/\o.data=.seq its n/\its.size<=sizeLine/\Vals xs its.toList
def aO(K:Frag)(H:Hp)(a:Addr)(xs:List V):Prop:=
 Rd H a (.tup xs)\/
  ∃(o:Obj) (its:Array Value) (n:Nat),K.lookup a=some o/\o.cls=.type "tuple"/\o.data=.seq its n/\its.size<=sizeLine/\Vals xs its.toList
def Io:Value->Option V
 |.none=>some .az
 |.bool b=>some (.bl b)
 |.int i _=>some (.int i)
 |.str x _=>some (.str x)
 |.bytes b _=>some (.dU b)
 |.float b _=>some (.jq b)
 |.ref a=>some (.ref a)
 |.type n=>some (.ty n)
 |_=>none
theorem RelV.abs{x:V}{u:Value}(r:RelV x u):Io u=some x:=by
 cases x with
 |az=>cases r;rfl
 |bl _=>cases r;rfl
 |int _=>obtain⟨t,rfl⟩:=r;rfl
 |str _=>obtain⟨t,rfl⟩:=r;rfl
 |dU _=>obtain⟨t,rfl⟩:=r;rfl
 |jq _=>obtain⟨t,rfl⟩:=r;rfl
 |ref _=>cases r;rfl
 |ty _=>cases r;rfl
theorem RelV.inj{x y:V}{u:Value}(r:RelV x u)(q:RelV y u):x=y:=zak (r.abs.symm.trans q.abs)
theorem Vals.inj:∀{xs ys:List V}{us:List Value},Vals xs us->Vals ys us->xs=ys
 |_,_,_,.nil,.nil=>rfl
 |_,_,_,.cons r t,.cons r' t'=>by rw[r.inj r',Vals.inj t t']
section
variable {X:Cx}{pins:List (Addr×Obj)}{σ:St}{H:Hp}{s:Shared}{a:Addr}{xs ys:List V}
theorem ay.of{K:Frag}(h:H a=some (.lst xs)):ay K H a xs:=.inl (.inl h)
theorem aO.of{K:Frag}(h:H a=some (.tup xs)):aO K H a xs:=.inl (.inl h)
theorem Inv.list(I:Inv X pins σ H s)(h:ay X.K H a xs):∃its:List Value,Vals xs its/\PlainL s.heap a its.toArray/\xs.length<=sizeLine:=by
 rcases h with h|⟨o,its,n,hk,hc,hd,hs,hz,r⟩
 ·obtain⟨z,its,n,r,e⟩:=h.ok I.aH;exact⟨its,r,⟨_,n,e,rfl,rfl,rfl⟩,z⟩
 ·refine⟨its.toList,r,⟨o,n,I.cb a o hk,hc,hd,by simpa using hs⟩,?_⟩
  have e:=r.length
  simp only[zbC] at e
  omega
theorem Inv.tuple(I:Inv X pins σ H s)(h:aO X.K H a xs):∃its:List Value,Vals xs its/\IsTup s.heap a its.toArray/\xs.length<=sizeLine:=by
 rcases h with h|⟨o,its,n,hk,hc,hs,hz,r⟩
 ·obtain⟨z,its,r,p⟩:=h.ok I.aH;exact⟨its,r,p,z⟩
 ·refine⟨its.toList,r,⟨o,I.cb a o hk,hc,n,by simpa using hs⟩,?_⟩
  have e:=r.length
  simp only[zbC] at e
  omega
theorem Inv.nH(I:Inv X pins σ H s)(h:ay X.K H a xs)(h':ay X.K H a ys):xs=ys:=by
 obtain⟨its,r,⟨o,n,e,_,_,d⟩,_⟩:=I.list h;obtain⟨d5,r',⟨o',n',e',_,_,d'⟩,_⟩:=I.list h';rw[e] at e';cases e';rw[d] at d'
 injection d' with d1 _
 have:its=d5:=by simpa using congrArg Array.toList d1
 subst this;exact r.inj r'
theorem Inv.Ip(I:Inv X pins σ H s)(h:aO X.K H a xs)(h':aO X.K H a ys):xs=ys:=by
 obtain⟨its,r,⟨o,e,_,n,d⟩,_⟩:=I.tuple h;obtain⟨d5,r',⟨o',e',_,n',d'⟩,_⟩:=I.tuple h';rw[e] at e';cases e';rw[d] at d'
 injection d' with d1 _
 have:its=d5:=by simpa using congrArg Array.toList d1
 subst this;exact r.inj r'
end
section
variable {X:Cx}{st:Stmt}{rest:List Stmt}{t u:TS}{e:Expr}{te:TE}{pos:Pos}
def tK:TS:=fun D σ H=>D.nx σ H
def yX(t u:TS):TS:=fun D σ H=>t {D with nx:=u D} σ H
theorem Iq:c_ X [] tK:=fun _ _ σ H _ I h=>wpAny_execs_nil ⟨σ,H,I,h⟩
theorem Ir(h1:PS X st t)(h2:c_ X rest u):c_ X (st::rest) (yX t u):=by
 intro pins s σ H D I h;refine wpAny_execs_cons<|aR (h1 pins s σ H {D with nx:=u D} I h) fun f s1 q=>?_
 cases f with
 |next=>
  obtain⟨σ',H',I',q⟩:=q;exact h2 pins s1 σ' H' D I' q
 |ret v=>exact q
 |brk=>exact q
 |cont=>exact q
def Iu:TS:=fun D σ H=>D.bk σ H
def yY:TS:=fun D σ H=>D.ct σ H
theorem Iv:PS X (.Continue pos) yY:=fun _ _ σ H _ I h=>wpAny_Continue ⟨σ,H,I,h⟩
theorem Inv.quiet{pins:List (Addr×Obj)}{σ:St}{H:Hp}{s:Shared}(I:Inv X pins σ H s):interactive X.env=false:=by simp[interactive,I.ok.kind]
def yZ(te:TE):TS:=fun D σ H=>te σ H fun _ H1=>D.nx σ H1
theorem Iw(he:PE X e te)(hs:swapsWith e none pos.line X.env=pure false:=by rfl):PS X (.Expr e pos) (yZ te):=by
 intro pins s σ H D I h;exact wpAny_Expr_any (aR (he pins s σ H _ I h) fun v s1 ⟨x,H1,I1,r1,q1⟩=>⟨σ,H1,I1,q1⟩) I.quiet hs
def y6(te:TE):TS:=fun D σ H=>te σ H D.rt
theorem Iy(he:PE X e te):PS X (.Return (some e) pos) (y6 te):=by
 intro pins s σ H D I h;exact wpAny_Return_some<|aR (he pins s σ H _ I h) fun v s1 ⟨x,H1,I1,r1,q1⟩=>⟨x,σ,H1,I1,r1,q1⟩
def Iz:TS:=fun D _ H=>D.rt .az H
def y_(c:TT)(t u:TS):TS:=fun D σ H=>c σ H fun b H1=>if b=true then t D σ H1 else u D σ H1
theorem IA{c:Expr}{a b:List Stmt}{tc:TT}(hc:PT X c tc)(ha:c_ X a t)(hb:c_ X b u):PS X (.If c a b pos) (y_ tc t u):=by
 intro pins s σ H D I h;refine wpAny_If<|aR (hc pins s σ H _ I h) fun d s1 ⟨H1,I1,q1⟩=>?_;cases d with
 |true=>exact ha pins s1 σ H1 D I1 q1
 |false=>exact hb pins s1 σ H1 D I1 q1
def IB:TS:=fun _ _ _=>False
end
abbrev TG:=V->St->Hp->(St->Hp->Prop)->Prop
abbrev ie:=List V->St->Hp->(St->Hp->Prop)->Prop
def PG(X:Cx)(target:Expr)(t:TG):Prop:=
 ∀(pins:List (Addr×Obj)) (s:Shared) (σ:St) (H:Hp) (v:V) (u:Value) (Q:St->Hp->Prop),Inv X pins σ H s->RelV v u->t v σ H Q->
  wpAny (model X.prog X.w) X.A (assign target X.env u) (fun _ s'=>∃σ' H',Inv X pins σ' H' s'/\Q σ' H') X.xe s
def mq(X:Cx)(ts:List Expr)(t:ie):Prop:=
 ∀(pins:List (Addr×Obj)) (s:Shared) (σ:St) (H:Hp) (vs:List V) (us:List Value) (Q:St->Hp->Prop),Inv X pins σ H s->Vals vs us->t vs σ H Q->
  wpAny (model X.prog X.w) X.A (assignInOrder ((assignEach ts X.env).map (·.2)) us) (fun _ s'=>∃σ' H',Inv X pins σ' H' s'/\Q σ' H') X.xe s
abbrev tL:=V->V->V->Hp->(Hp->Prop)->Prop
def zb(X:Cx)(t:tL):Prop:=
 ∀(pins:List (Addr×Obj)) (s:Shared) (σ:St) (H:Hp) (o i v:V) (ov iv u:Value) (Q:Hp->Prop),Inv X pins σ H s->RelV o ov->RelV i iv->RelV v u->t o i v H Q->
  wpAny (model X.prog X.w) X.A (setItem ov iv u) (fun _ s'=>∃H',Inv X pins σ H' s'/\Q H') X.xe s
section
variable {X:Cx}{pos:Pos}
def da(i:Nat):TG:=fun v σ H Q=>Q (σ.set i<|some v) H
theorem kg{i:Nat}{x:Str}(hN:X.N.Nodup)(hi:X.N[i]?=some x)(hx:Loc X.env.scope x)(hf:X.fn x=true\/X.env.scope.names.lookup x=some .local:=by first|exact .inl rfl|exact .inr rfl|assumption):PG X (.Name x pos) (da i):=by
 intro pins s σ H v u Q I r h;exact wpAny_assign_Name<|pR I hN hi hx r (fun s' I'=>⟨_,H,I',h⟩) hf
def pU:ie:=fun vs σ H Q=>vs=[]/\Q σ H
def kh(t:TG)(u:ie):ie:=fun vs σ H Q=>∃v r,vs=v::r/\t v σ H fun σ' H'=>u r σ' H' Q
theorem tM:mq X [] pU:=by
 intro pins s σ H vs us Q I r h;obtain⟨e,h⟩:=h;subst e;cases r;exact assignInOrder_nil ⟨σ,H,I,h⟩
theorem mr{e:Expr}{es:List Expr}{t:TG}{u:ie}(h1:PG X e t)(h2:mq X es u)
  (hs:(assignEach (e::es) X.env).map (·.2)=assign e X.env::(assignEach es X.env).map (·.2):=by rfl):mq X (e::es) (kh t u):=by
 intro pins s σ H vs us Q I r h;obtain⟨v,vr,e1,h⟩:=h;subst e1;cases r with
 |cons r rr=>
  rw[hs];refine assignInOrder_cons<|aR (h1 pins s σ H _ _ _ I r h) fun _ s1 ⟨σ1,H1,I1,q1⟩=>?_;exact h2 pins s1 σ1 H1 _ _ Q I1 rr q1
def tN(K:Frag)(n:Nat)(t:ie):TG:=fun v σ H Q=>∃a xs,v=.ref a/\aO K H a xs/\xs.length=n/\t xs σ H Q
theorem tO{es:List Expr}{k:Nat}{t:ie}{n:Nat}(hc:X.calm=true)(h:mq X es t)
  (hn:(assignEach es X.env).length=n:=by rfl) (tP:(assignEach es X.env).findIdx? (·.1)=none:=by rfl):PG X (.Tuple es k pos) (tN X.K n t):=by
 intro pins s σ H v u Q I r hw;obtain⟨a,xs,e1,hq,hl,hw⟩:=hw;subst e1;cases r;obtain⟨its,rv,ht,hz⟩:=I.tuple hq;refine assign_Tuple_tuple (I.ok.hd hc) ht (by simp[hn,<-hl,rv.length]) tP fun h' hx=>?_
 have I1:Inv X pins σ H {s with heap:=h'}:=I.kept (t':=s.toks) fun b o e=>hx b o (zal<|Heap.lt_size e) e
 exact h pins _ σ H xs _ Q I1 (by simpa using rv) hw
def zc(to ti:TE)(t:tL):TG:=fun v σ H Q=>to σ H fun o H1=>ti σ H1 fun i H2=>t o i v H2 fun H3=>Q σ H3
theorem IC{o i:Expr}{to ti:TE}{t:tL}(ho:PE X o to)(hi:PE X i ti)(hs:zb X t)
  (ha:∀v,assign (.Subscript o i pos) X.env v=(do
   let ov <-holding [v] (eval o X.env)
   let iv <-holding [v,ov] (eval i X.env)
   standAt pos
   holding [v,ov,iv] (setItem ov iv v)
   release [v,ov,iv] []):=by intro _;rfl):PG X (.Subscript o i pos) (zc to ti t):=by
 intro pins s σ H v u Q I r h;rw[ha];refine wpAny_bind<|wpAny_holding<|aR (ho pins s σ H _ I h) fun ov s1 ⟨x,H1,I1,r1,q1⟩=>?_;refine wpAny_bind<|wpAny_holding<|aR (hi pins s1 σ H1 _ I1 q1) fun iv s2 ⟨y,H2,I2,r2,q2⟩=>?_;refine wpAny_bind<|wpAny_standAt<|wpAny_bind<|wpAny_holding<|aR (hs pins s2 σ H2 x y v ov iv u _ I2 r1 r2 r q2) fun _ s3 ⟨H3,I3,q3⟩=>?_;exact wpAny_release ⟨σ,H3,I3,q3⟩
def jr(te:TE)(g:TG):TS:=fun D σ H=>te σ H fun x H1=>g x σ H1 D.nx
theorem zd{tg e:Expr}{te:TE}{g:TG}(he:PE X e te)(hg:PG X tg g)(hs:swapsWithSole [tg] e pos.line X.env=pure false:=by rfl)(hw:swappedStores [tg] e X.env=pure none:=by rfl)
  (h1:(assignEach [tg] X.env).map (·.2)=[assign tg X.env]:=by rfl):PS X (.Assign [tg] e pos) (jr te g):=by
 intro pins s σ H D I h;refine wpAny_Assign_stores (aR (he pins s σ H _ I h) fun v s1 ⟨x,H1,I1,r1,q1⟩=>?_) hs hw;rw[h1];exact aR (hg pins s1 σ H1 x v _ I1 r1 q1) fun _ s2 q=>q
theorem ID{i:Nat}{x:Str}{e:Expr}{te:TE}{pos':Pos}(hN:X.N.Nodup)(hi:X.N[i]?=some x)(hx:Loc X.env.scope x)(he:PE X e te)(hs:swapsWith e (some<|.Name x pos') pos.line X.env=pure false:=by rfl)(hf:X.fn x=true\/X.env.scope.names.lookup x=some .local:=by first|exact .inl rfl|exact .inr rfl|assumption):
  PS X (.Assign [.Name x pos'] e pos) (jr te<|da i):=by
 intro pins s σ H D I h;refine wpAny_Assign_Name (aR (he pins s σ H _ I h) fun v s1 ⟨y,H1,I1,r1,q1⟩=>?_) hs;exact pR I1 hN hi hx r1 (fun s2 I2=>⟨_,H1,I2,q1⟩) hf
def ze(i j:Nat)(ta:TA):TS:=fun D σ H=>ta σ H fun vs H1=>∃v w,vs=[v,w]/\D.nx ((σ.set i<|some v).set j<|some w) H1
theorem IE{i j:Nat}{x y:Str}{a b:Expr}{ta:TA}{px py pt:Pos}{kt k2 tQ}(hc:X.calm=true)(hN:X.N.Nodup)(hi:X.N[i]?=some x)(hj:X.N[j]?=some y)(IF:i≠j)
  (hx:X.env.scope.names.lookup x=some .local) (hy:X.env.scope.names.lookup y=some .local) (ha:PA X [a,b] ta)
  (hw:swappedStores [.Tuple [.Name x px,.Name y py] kt pt] (.Tuple [a,b] k2 tQ) X.env=pure (some [x,y]))
  (hs:swapsWithSole [.Tuple [.Name x px,.Name y py] kt pt] (.Tuple [a,b] k2 tQ) pos.line X.env=pure false:=by rfl):
  PS X (.Assign [.Tuple [.Name x px,.Name y py] kt pt] (.Tuple [a,b] k2 tQ) pos) (ze i j ta):=by
 intro pins s σ H D I h;rw[exec_Assign_arm];refine wpAny_bind<|wpAny_standAt ?_;rw[hs];refine wpAny_bind<|wpAny_pure ?_;rw[if_neg (by decide)]
 refine wpAny_bind<|Tuple_<|aR (ha _ pins s σ H _ I h) fun us s1 ⟨vs,H1,I1,r1,q1⟩=>?_;obtain⟨v,w,e1,q1⟩:=q1;subst e1;obtain⟨u1,u2,rfl,rv,gM⟩:∃u1 u2,us=[u1,u2]/\RelV v u1/\RelV w u2:=by
  cases r1 with
  |cons p q=>
   cases q with
   |cons p' q'=>
    cases q';exact⟨_,_,rfl,p,p'⟩
 refine wpAny_newObj_type ?_ cR;have I2:Inv X pins σ H1 {s1 with heap:=s1.heap.push {cls:=.type "tuple",data:=.seq [u1,u2].toArray}}:=I1.kept (t':=s1.toks) fun b o e=>Heap.get?_push_of_some _ e
 rw[hw];refine wpAny_bind<|wpAny_pure ?_;show wpAny (model X.prog X.w) X.A (do rule "assign.swapped-stores";let items <-unpackItems (.ref s1.heap.objs.size) 2 none;assignInOrder [fun v=>bindName X.env y v,fun v=>bindName X.env x v] items.reverse;pure Flow.next) _ _ _
 refine wpAny_bind<|wpAny_rule<|wpAny_bind<|unpackItems_tuple (items:= #[u1,u2]) (I.ok.hd hc) (IsTup.new s1.heap _) fun h' dD=>?_;have I3:=I2.kept (h':=h') (t':=s1.toks) fun b o e=>dD b o (zal<|Heap.lt_size e) e;show wpAny _ _ (assignInOrder [fun v=>bindName X.env y v,fun v=>bindName X.env x v] [u2,u1] >>=fun _=>pure Flow.next) _ _ _;refine wpAny_bind<|assignInOrder_cons<|wpAny_bindName<|pR I3 hN hj (.inl hy) gM (fun s2 I4=>?_)<|.inr hy;refine assignInOrder_cons<|wpAny_bindName<|pR I4 hN hi (.inl hx) rv (fun s3 I5=>assignInOrder_nil<|wpAny_pure ?_)<|.inr hx;rw[List.set_comm _ _<|Ne.symm IF] at I5;exact⟨_,H1,I5,q1⟩
end
section
variable {X:Cx}{pos:Pos}
def zf(c:TT)(tb:TS):TS:=fun D σ H=>∃W:Nat->St->Hp->Prop,(∃m,W m σ H)/\∀m σ H,W m σ H->
 c σ H fun b H1=>if b=true then ∃N:St->Hp->Prop,(∀σ' H',N σ' H'->∃m',m'<m/\W m' σ' H')/\tb {D with nx:=N,ct:=N,bk:=D.nx} σ H1 else D.nx σ H1
theorem IG{c:Expr}{body:List Stmt}{tc:TT}{tb:TS}(hp:PassesOwn (model X.prog X.w) X.A X.env X.xe)(hc:PT X c tc)(hb:c_ X body tb):PS X (.While c body [] pos) (zf tc tb):=by
 intro pins s σ H D I h;obtain⟨W,⟨m0,w0⟩,turn⟩:=h;refine wpAny_While<|codeAny_whileLoop (fun n s'=>∃σ' H',Inv X pins σ' H' s'/\W n σ' H') ?_ m0 ⟨σ,H,I,w0⟩;rintro n s1 ⟨σ1,H1,I1,w1⟩;refine wpAny_passesOwn hp<|aR (hc pins s1 σ1 H1 _ I1<|turn n σ1 H1 w1) fun b s2 ⟨H2,I2,q2⟩=>?_;cases b with
 |true=>
  obtain⟨N,hN,q2⟩:=q2;rw[if_pos rfl];refine wpAny_passesOwn hp<|aR (hb pins s2 σ1 H2 _ I2 q2) fun f s3 q3=>?_;cases f with
  |next=>
   obtain⟨σ3,H3,I3,n3⟩:=q3;obtain⟨m',hm,w3⟩:=hN σ3 H3 n3;exact⟨m',hm,σ3,H3,I3,w3⟩
  |cont=>
   obtain⟨σ3,H3,I3,n3⟩:=q3;obtain⟨m',hm,w3⟩:=hN σ3 H3 n3;exact⟨m',hm,σ3,H3,I3,w3⟩
  |brk=>exact q3
  |ret v=>exact q3
 |false=>
  rw[if_neg zaf];exact wpAny_execs_nil ⟨σ1,H2,I2,q2⟩
end
structure It where
 go:Nat->Hp->Prop
 dE:Nat->Hp->V->Hp->Prop
 stop:Nat->Hp->Prop
def gd(X:Cx)(pins:List (Addr×Obj))(H:Hp)(b:Addr):Prop:=
 H b=none/\b≠X.env.locals/\b∉X.fs/\(b∈X.ex\/X.s₀.heap.objs.size<=b)/\(∀x c,X.env.cells.lookup x=some c->c≠b)/\∀p∈X.pn++pins,p.1≠b
theorem Inv.nI{X:Cx}{pins:List (Addr×Obj)}{σ:St}{H H':Hp}{s:Shared}{b:Addr}(I:Inv X pins σ H s)(hb:s.heap.objs.size<=b)(hn:H' b=none):gd X pins H' b:=by
 refine⟨hn,zaF<|zaq I.lt hb,I.yI hb,.inr<|zar I.sz hb,fun x c e z=>?_,fun p hp z=>?_⟩
 ·obtain⟨v,q⟩:=I.cell x c e;exact absurd (zaq q.lt (by rw[z];exact hb))<|zax _
 ·exact absurd (zaq (Heap.lt_size (I.pin p hp).1) (by rw[z];exact hb)) (zax _)
structure Turn (P:Program) (w:World) (K:Frag) (tg:Expr) (J:It) (fp:List Addr) (it:Addr) (tn:Nat->Heap->Prop):Prop where
 mem:it∈fp
 obj:∀i h,tn i h->∀b∈fp,∃o,h.get? b=some o/\∀v,o.data≠ .cell v
 keep:∀i h h',tn i h->(∀b∈fp,∀o,h.get? b=some o->h'.get? b=some o)->tn i h'
 item:∀(X:Cx),X.prog=P->X.w=w->X.K=K->X.calm=true->∀(i:Nat) (pins:List (Addr×Obj)) (s:Shared) (σ:St) (H:Hp) (E:Value->Shared->Prop),Inv X pins σ H s->(∀b∈fp,gd X pins H b)->tn i s.heap->J.go i H->
  wpAny (model P w) X.A (pyNext (.ref it)) (fun r s1=>∃u,r=some u/\
   wpAny (model P w) X.A (letOwnedTupleGo tg (.ref it) u) (fun _ s2=>∃x H',Inv X pins σ H' s2/\RelV x u/\J.dE i H x H'/\tn (i+1) s2.heap/\∀b∈fp,H' b=none) E s1) E s
 done:∀(X:Cx),X.prog=P->X.w=w->X.K=K->X.calm=true->∀(i:Nat) (pins:List (Addr×Obj)) (s:Shared) (σ:St) (H:Hp) (E:Value->Shared->Prop),Inv X pins σ H s->(∀b∈fp,gd X pins H b)->tn i s.heap->J.stop i H->
  wpAny (model P w) X.A (pyNext<|.ref it) (fun r s1=>r=none/\Inv X pins σ H s1) E s
 self:∀(A:Around) (i:Nat) (s:Shared) (Q:Value->Shared->Prop) (E:Value->Shared->Prop),tn i s.heap->Q (.ref it) s->wpAny (model P w) A (pyIter<|.ref it) Q E s
abbrev TI:=St->Hp->(It->Hp->Prop)->Prop
def zg(X:Cx)(pins:List (Addr×Obj))(σ:St)(tg:Expr)(R:It->Hp->Prop)(mv:Value)(s2:Shared):Prop:=
 ∃(it:Addr) (fp:List Addr) (tn:Nat->Heap->Prop) (J:It) (H':Hp),mv=.ref it/\Inv X pins σ H' s2/\Turn X.prog X.w X.K tg J fp it tn/\tn 0 s2.heap/\(∀b∈fp,gd X pins H' b)/\R J H'
def PI(X:Cx)(tg iter:Expr)(wi:TI):Prop:=
 ∀(pins:List (Addr×Obj)) (s:Shared) (σ:St) (H:Hp) (R:It->Hp->Prop),Inv X pins σ H s->wi σ H R->
  wpAny (model X.prog X.w) X.A (eval iter X.env) (fun v s1=>wpAny (model X.prog X.w) X.A (pyIter v) (zg X pins σ tg R) X.xe s1) X.xe s
theorem tR{M:Model}{A:Around}{E:Value->Shared->Prop}{s:Shared}{tg:Expr}{it:Addr}{u:Value}{o:Obj}{n:String}{vs:Array Value}{Q:Unit->Shared->Prop}(ho:s.heap.get? it=some o)(hc:o.cls=.type n)(hd:o.data=.fields vs)
    (hn:["enumerate","zip","dict_itemiterator","dict_reverseitemiterator","odict_iterator","itertools.zip_longest","itertools.pairwise"].contains n=false) (hQ:Q () s):wpAny M A (letOwnedTupleGo tg (.ref it) u) Q E s:=by
  unfold letOwnedTupleGo;cases tg<;>first
    |exact wpAny_pure hQ
    | (cases u<;>first
        |exact wpAny_pure hQ
        | (refine wpAny_bind (wpAny_load ho ?_)
           rw[hc,hd];show wpAny M A (if (["enumerate","zip","dict_itemiterator","dict_reverseitemiterator","odict_iterator","itertools.zip_longest","itertools.pairwise"].contains n && vs[0]?==some (rawInt _))=true then _ else _) Q E s
           rw[if_neg (by intro h;rw[hn,Bool.false_and] at h;cases h)]
           exact wpAny_pure hQ))
def cp(K:Frag)(a:Addr):It:=
 ⟨fun i H=>∃xs x,ay K H a xs/\xs[i]?=some x,fun i H x H'=>H'=H/\∀xs,ay K H a xs->xs[i]?=some x,fun i H=>∃xs,ay K H a xs/\xs.length<=i⟩
def zh(K:Frag)(a:Addr):It:=
 ⟨fun i H=>∃xs x,aO K H a xs/\xs[i]?=some x,fun i H x H'=>H'=H/\∀xs,aO K H a xs->xs[i]?=some x,fun i H=>∃xs,aO K H a xs/\xs.length<=i⟩
def ig(lo:Int)(n:Nat):It:=⟨fun i _=>i<n,fun i H x H'=>H'=H/\x=.int (lo+i),fun i _=>n<=i⟩
theorem IH{P:Program}{w:World}{K:Frag}{tg:Expr}(a it:Addr):Turn P w K tg (cp K a) [it] it (fun i h=>h.IsListIter it a i) where
 mem:=by simp
 obj:=fun i h st b hb=>by
  have e:b=it:=by simpa using hb
  subst e;obtain⟨o,e,c,d⟩:=st;exact⟨o,e,fun v z=>by rw[d] at z;cases z⟩
 keep:=fun i h h' st k=>st.at fun o e=>k it (by simp) o e
 item:=by
  intro X hP hw hK hc i pins s σ H E I hf st hg;subst hP hw hK;obtain⟨xs,x,hq,hx⟩:=hg;obtain⟨its,rv,p,hz⟩:=I.list hq;obtain⟨u,hu,ru⟩:=rv.get hx;obtain⟨f0,f1,f2,f3,f4,f5⟩:=hf it (by simp)
  refine wpAny_pyNext_list_item st p.isList (x:=u) (by simpa using hu) fun h' fL sb=>?_
  have I1:Inv X pins σ H {s with heap:=h'}:=I.turned (t':=s.toks) (fun b o hb e=>(sb.2 b hb).trans e) f0 f1 f3 f4 f5
  obtain⟨o,e,c,d⟩:=id fL;exact⟨u,rfl,tR (s:={s with heap:=h'}) e c d (by decide) ⟨x,H,I1,ru,⟨rfl,fun ys hy=>by rw[I.nH hy hq];exact hx⟩,fL,fun b hb=>(hf b hb).1⟩⟩
 done:=by
  intro X hP hw hK hc i pins s σ H E I hf st hg;subst hP hw hK;obtain⟨xs,hq,hx⟩:=hg;obtain⟨its,rv,p,hz⟩:=I.list hq;obtain⟨f0,f1,f2,f3,f4,f5⟩:=hf it (by simp)
  have hl:=rv.length;exact wpAny_pyNext_list_end (I.ok.hd hc) st p.isList (by simp;omega) fun h' eb=>⟨rfl,I.turned (t':=s.toks) (fun b o hb e=>eb b o hb e) f0 f1 f3 f4 f5⟩
 self:=fun _ _ _ _ _ st h=>wpAny_pyIter_listiter st h
theorem II{P:Program}{w:World}{K:Frag}{tg:Expr}(a it:Addr):Turn P w K tg (zh K a) [it] it (fun i h=>h.IsTupleIter it a i) where
 mem:=by simp
 obj:=fun i h st b hb=>by
  have e:b=it:=by simpa using hb
  subst e;obtain⟨o,e,c,d⟩:=st;exact⟨o,e,fun v z=>by rw[d] at z;cases z⟩
 keep:=fun i h h' st k=>st.at fun o e=>k it (by simp) o e
 item:=by
  intro X hP hw hK hc i pins s σ H E I hf st hg;subst hP hw hK;obtain⟨xs,x,hq,hx⟩:=hg;obtain⟨its,rv,p,hz⟩:=I.tuple hq;obtain⟨u,hu,ru⟩:=rv.get hx;obtain⟨f0,f1,f2,f3,f4,f5⟩:=hf it (by simp)
  refine wpAny_pyNext_tuple_item st (show s.heap.IsTuple a its.toArray from p) (x:=u) (by simpa using hu) fun h' fL sb=>?_
  have I1:Inv X pins σ H {s with heap:=h'}:=I.turned (t':=s.toks) (fun b o hb e=>(sb.2 b hb).trans e) f0 f1 f3 f4 f5
  obtain⟨o,e,c,d⟩:=id fL;exact⟨u,rfl,tR (s:={s with heap:=h'}) e c d (by decide) ⟨x,H,I1,ru,⟨rfl,fun ys hy=>by rw[I.Ip hy hq];exact hx⟩,fL,fun b hb=>(hf b hb).1⟩⟩
 done:=by
  intro X hP hw hK hc i pins s σ H E I hf st hg;subst hP hw hK;obtain⟨xs,hq,hx⟩:=hg;obtain⟨its,rv,p,hz⟩:=I.tuple hq;obtain⟨f0,f1,f2,f3,f4,f5⟩:=hf it (by simp)
  have hl:=rv.length;exact wpAny_pyNext_tuple_end (I.ok.hd hc) st (show s.heap.IsTuple a its.toArray from p) (by simp;omega) fun h' eb=>⟨rfl,I.turned (t':=s.toks) (fun b o hb e=>eb b o hb e) f0 f1 f3 f4 f5⟩
 self:=fun _ _ _ _ _ st h=>wpAny_pyIter_tupleiter st h
theorem IJ{P:Program}{w:World}{K:Frag}{tg:Expr}(it:Addr)(lo:Int)(n:Nat):Turn P w K tg (ig lo n) [it] it (fun i h=>IsRangeIter h it (lo+(i:Nat)*1) ((n:Int) - (i:Nat)) 1) where
 mem:=by simp
 obj:=fun i h st b hb=>by
  have e:b=it:=by simpa using hb
  subst e;exact⟨_,st,fun v z=>by
   have z':Data.fields _=Data.cell v:=z;cases z'⟩
 keep:=fun i h h' st k=>k it (by simp) _ st
 item:=by
  intro X hP hw hK hc i pins s σ H E I hf st hg;subst hP hw hK;obtain⟨f0,f1,f2,f3,f4,f5⟩:=hf it (by simp)
  have W:=Walks.range (prog:=X.prog) (w:=X.w) (I.ok.hd hc) it lo 1 n;refine W.item i s _ _ hg st fun v h' tk hv fL kk=>?_;obtain⟨t,rfl⟩:=hv;have I1:Inv X pins σ H {s with heap:=h',toks:=tk}:=I.turned (fun b o hb e=>kk b o (by simpa using hb) e) f0 f1 f3 f4 f5
  refine⟨_,rfl,tR (s:={s with heap:=h',toks:=tk}) (n:="range_iterator") fL rfl rfl (by decide) ⟨.int<|lo+i,H,I1,⟨t,?_⟩,⟨rfl,rfl⟩,fL,fun b hb=>(hf b hb).1⟩⟩
  rw[Int.mul_one]
 done:=by
  intro X hP hw hK hc i pins s σ H E I hf st hg;subst hP hw hK;obtain⟨f0,f1,f2,f3,f4,f5⟩:=hf it (by simp)
  exact wpAny_pyNext_range_end (I.ok.hd hc) st (by have:n<=i:=hg;omega) fun h' eb=>⟨rfl,I.turned (t':=s.toks) (fun b o hb e=>eb b o hb e) f0 f1 f3 f4 f5⟩
 self:=fun _ _ _ _ _ st h=>wpAny_pyIter_rangeiter st h
section
variable {X:Cx}{tg:Expr}
def tS(K:Frag)(tl:TE):TI:=fun σ H R=>tl σ H fun x H1=>∃a,x=.ref a/\(∃xs,ay K H1 a xs)/\R (cp K a) H1
def tU(K:Frag)(tl:TE):TI:=fun σ H R=>tl σ H fun x H1=>∃a,x=.ref a/\(∃xs,aO K H1 a xs)/\R (zh K a) H1
theorem IL{l:Expr}{tl:TE}(hl:PE X l tl):PI X tg l (tS X.K tl):=by
 intro pins s σ H R I h;refine aR (hl pins s σ H _ I h) fun v s1 ⟨x,H1,I1,r1,q1⟩=>?_;obtain⟨a,e,⟨xs,hq⟩,q⟩:=q1;subst e;cases r1;obtain⟨its,rv,p,hz⟩:=I1.list hq;refine wpAny_pyIter_list p.isList ?_;refine⟨s1.heap.objs.size,[s1.heap.objs.size],_,_,H1,rfl,I1.kept (t':=s1.toks) fun b o e=>Heap.get?_push_of_some _ e,IH a _,⟨_,Heap.get?_push_size _ rfl,rfl,rfl⟩,fun b hb=>?_,q⟩;have e:b=s1.heap.objs.size:=by simpa using hb
 subst e;exact I1.nI (zqR _)<|I1.aH.fresh<|zqR _
theorem IM{l:Expr}{tl:TE}(hl:PE X l tl):PI X tg l (tU X.K tl):=by
 intro pins s σ H R I h;refine aR (hl pins s σ H _ I h) fun v s1 ⟨x,H1,I1,r1,q1⟩=>?_;obtain⟨a,e,⟨xs,hq⟩,q⟩:=q1;subst e;cases r1;obtain⟨its,rv,p,hz⟩:=I1.tuple hq;refine wpAny_pyIter_tuple (show s1.heap.IsTuple a its.toArray from p) ?_
 refine⟨s1.heap.objs.size,[s1.heap.objs.size],_,_,H1,rfl,I1.kept (t':=s1.toks) fun b o e=>Heap.get?_push_of_some _ e,II a _,⟨_,Heap.get?_push_size _ rfl,rfl,rfl⟩,fun b hb=>?_,q⟩;have e:b=s1.heap.objs.size:=by simpa using hb
 subst e;exact I1.nI (zqR _)<|I1.aH.fresh<|zqR _
theorem IP{pins:List (Addr×Obj)}{σ:St}{H:Hp}{s:Shared}{R:It->Hp->Prop}{E:Value->Shared->Prop}{lo hi:Int}{t u v:Tok}{tk:Nat}(I:Inv X pins σ H s)(h1: -(2 ^ 62)<=lo)(h2:lo<2 ^ 62)(h3: -(2 ^ 62)<=hi)(h4:hi<2 ^ 62)
  (q:R (ig lo (hi - lo).toNat) H):wpAny (model X.prog X.w) X.A (pyIter<|.ref s.heap.objs.size) (zg X pins σ tg R) E {s with heap:=s.heap.push {cls:=.type "range",data:=.fields #[.int lo t,.int hi u,.int 1 v]},toks:=tk}:=by
 refine wpAny_pyIter_range (IsRange.new ..) (small_one h1 h2 h3 h4) ?_;have I1:Inv X pins σ H {s with heap:=s.heap.push {cls:=.type "range",data:=.fields #[.int lo t,.int hi u,.int 1 v]},toks:=tk}:=I.kept fun b o e=>Heap.get?_push_of_some _ e
 refine⟨(s.heap.push {cls:=.type "range",data:=.fields #[.int lo t,.int hi u,.int 1 v]}).objs.size,[(s.heap.push {cls:=.type "range",data:=.fields #[.int lo t,.int hi u,.int 1 v]}).objs.size],_,_,H,rfl,
  I1.kept (t':=tk) fun b o e=>Heap.get?_push_of_some _ e,IJ _ lo (hi - lo).toNat,?_,fun b hb=>?_,q⟩
 ·have e1:lo+((0:Nat):Int)*1=lo:=by simp
  have e2:(((hi - lo).toNat:Nat):Int) - ((0:Nat):Int)=Builtin.Range.rangeSize lo hi 1:=by rw[rangeSize_one];split<;>omega
  show IsRangeIter _ _ (lo+((0:Nat):Int)*1) ((((hi - lo).toNat:Nat):Int) - ((0:Nat):Int)) 1;rw[e1,e2];exact Heap.get?_push_size _ rfl
 ·have e:b=(s.heap.push {cls:=.type "range",data:=.fields #[.int lo t,.int hi u,.int 1 v]}).objs.size:=by simpa using hb
  subst e;exact I1.nI (zqR _)<|I1.aH.fresh<|zqR _
def zi(ta:TA):TI:=fun σ H R=>ta σ H fun vs H1=>∃j:Int,vs=[.int j]/\ -(2 ^ 62)<=j/\j<2 ^ 62/\R (ig 0 j.toNat) H1
def IQ(ta:TA):TI:=fun σ H R=>ta σ H fun vs H1=>∃i j:Int,vs=[.int i,.int j]/\(-(2 ^ 62)<=i/\i<2 ^ 62/\ -(2 ^ 62)<=j/\j<2 ^ 62)/\R (ig i (j - i).toNat) H1
theorem IS{a:Expr}{ta:TA}{p pos:Pos}(hg:Gl X "range")(hm:X.mg "range"=none)(ha:PA X [a] ta)(hs:starEach [a] X.env=[(false,eval a X.env)]:=by rfl):PI X tg (.Call (.Name "range" p) [a] [] pos) (zi ta):=by
 intro pins s σ H R I h;refine Call_<|mm I hg hm boot_range<|PyProof.Rows.callWith_type1 (aR (ha pos pins s σ H _ I h) fun us s1 ⟨vs,H1,I1,r1,q1⟩=>?_) hs rfl;obtain⟨j,e,q1,q2,q⟩:=q1;subst e;cases r1 with
 |cons r rr=>
  cases rr;obtain⟨t,rfl⟩:=r;exact call_range_1<|IP I1 (by omega) (by omega) q1 q2 (by simpa using q)
def mw(wi:TI)(g:TG)(tb:TS):TS:=fun D σ H=>wi σ H fun J H1=>∃W:Nat->Nat->St->Hp->Prop,(∃m,W 0 m σ H1)/\∀i m σ H,W i m σ H->
 (J.stop i H/\D.nx σ H)\/(J.go i H/\∃N:St->Hp->Prop,(∀σ' H',N σ' H'->∃m',m'<m/\W (i+1) m' σ' H')/\∀x H',J.dE i H x H'->g x σ H' fun σ2 H2=>tb {D with nx:=N,ct:=N,bk:=D.nx} σ2 H2)
def mx(fp:List Addr)(h:Heap):List (Addr×Obj):=fp.filterMap fun b=>(h.get? b).map fun o=>(b,o)
theorem pV{fp:List Addr}{h:Heap}{b:Addr}{o:Obj}(hb:b∈fp)(e:h.get? b=some o):(b,o)∈mx fp h:=zbD.mpr ⟨b,hb,by rw[e];rfl⟩
theorem IT{fp:List Addr}{h:Heap}{p:Addr×Obj}(hp:p∈mx fp h):p.1∈fp/\h.get? p.1=some p.2:=by
 obtain⟨b,hb,e⟩:=zbD.mp hp;cases q:h.get? b with
 |none=>rw[q] at e;cases e
 |some o=>
  rw[q] at e;have e':(b,o)=p:=zak e;subst e';exact⟨hb,q⟩
theorem Inv.pinned{pins:List (Addr×Obj)}{σ:St}{H:Hp}{s:Shared}{fp:List Addr}(I:Inv X pins σ H s)(hf:∀b∈fp,gd X pins H b)(ho:∀b∈fp,∃o,s.heap.get? b=some o/\∀v,o.data≠ .cell v):Inv X (pins++mx fp s.heap) σ H s:=
 I.mj fun p hp=>(zao.mp hp).elim (fun z=>I.pin p<|zay _ z) fun z=>by
  obtain⟨hb,e⟩:=IT z;obtain⟨f0,f1,f2,_⟩:=hf p.1 hb;obtain⟨o,e',d⟩:=ho p.1 hb;rw[e] at e';cases e';exact⟨e,f0,f1,f2,d⟩
theorem Inv.tV{pins pl:List (Addr×Obj)}{σ:St}{H:Hp}{s:Shared}(I:Inv X (pins++pl) σ H s):Inv X pins σ H s:=I.mj fun p hp=>I.pin p (zay _<|zaZ _ hp)
theorem tW{iter:Expr}{body:List Stmt}{wi:TI}{g:TG}{tb:TS}{pos:Pos}(hp:PassesOwn (model X.prog X.w) X.A X.env X.xe)(hc:X.calm=true)(hi:PI X tg iter wi)(hg:PG X tg g)(hb:c_ X body tb)
  (hs:∀x,foldedSetIterable iter X.env x=pure x:=by intro _;rfl):PS X (.For tg iter body [] pos) (mw wi g tb):=by
 intro pins s σ H D I h;refine wpAny_For (aR (hi pins s σ H _ I h) fun v s1 h1=>aR h1 fun mv s2 h2=>?_) hs;obtain⟨it,fp,tn,J,H2,e,I2,T,tX,f2,W,⟨m0,w0⟩,turn⟩:=h2;subst e;have ki:∀{H':Hp},(∀b∈fp,H' b=none)->∀b∈fp,gd X pins H' b:=fun hn b hb=>⟨hn b hb,(f2 b hb).2⟩;refine codeAny_forLoop_any (fun n s'=>∃i σ' H',Inv X pins σ' H' s'/\tn i s'.heap/\(∀b∈fp,H' b=none)/\W i n σ' H') ?_ m0 ⟨0,σ,H2,I2,tX,fun b hb=>(f2 b hb).1,w0⟩;rintro n s3 ⟨i,σ3,H3,I3,zj,zk,w3⟩;rcases turn i n σ3 H3 w3 with⟨stop,qn⟩|⟨go,N,hN,step⟩
 ·refine wpAny_passesOwn hp (aR (T.done X rfl rfl rfl hc i pins s3 σ3 H3 X.xe I3 (ki zk) zj stop) fun r s4 ⟨hr,I4⟩=>?_);subst hr;exact wpAny_execs_nil ⟨σ3,H3,I4,qn⟩
 ·refine wpAny_passesOwn hp (aR (T.item X rfl rfl rfl hc i pins s3 σ3 H3 X.xe I3 (ki zk) zj go) fun r s4 ⟨u,hr,h4⟩=>?_);subst hr;refine wpAny_passesOwn hp<|aR h4 fun _ s5 ⟨x,H5,I5,r5,y5,kj,tY⟩=>?_;have tZ:=I5.pinned (ki tY) (T.obj _ _ kj);refine wpAny_passesOwn hp<|aR (hg _ s5 σ3 H5 x u _ tZ r5<|step x H5 y5) fun _ s6 ⟨σ6,H6,I6,q6⟩=>?_;refine wpAny_passesOwn hp<|aR (hb _ s6 σ6 H6 _ I6 q6) fun f s7 q7=>?_;have again:∀{σ7:St}{H7:Hp},Inv X (pins++mx fp s5.heap) σ7 H7 s7->N σ7 H7->∃m,m<n/\∃i σ' H',Inv X pins σ' H' s7/\tn i s7.heap/\(∀b∈fp,H' b=none)/\W i m σ' H':=fun {σ7 H7} I7 n7=>by
   obtain⟨m',hm,w7⟩:=hN σ7 H7 n7;refine⟨m',hm,i+1,σ7,H7,I7.tV,T.keep _ _ _ kj fun b hb o e=>(I7.pin (b,o)<|zay _<|zay _<|pV hb e).1,fun b hb=>?_,w7⟩;obtain⟨o,e,d⟩:=T.obj _ _ kj b hb;exact(I7.pin (b,o)<|zay _<|zay _<|pV hb e).2.1
  cases f with
  |next=>obtain⟨σ7,H7,I7,n7⟩:=q7;exact again I7 n7
  |cont=>obtain⟨σ7,H7,I7,n7⟩:=q7;exact again I7 n7
  |brk=>obtain⟨σ7,H7,I7,q7⟩:=q7;exact⟨σ7,H7,I7.tV,q7⟩
  |ret v=>obtain⟨x7,σ7,H7,I7,r7,q7⟩:=q7;exact⟨x7,σ7,H7,I7.tV,r7,q7⟩
end
theorem km{K:Frag}{a:Addr}{xs:List V}{g:TG}{tb:TS}{D:Ends}{σ:St}{H:Hp}(Pv:Nat->St->Hp->Prop)(h0:Pv 0 σ H)(hl:∀i σ H,i<=xs.length->Pv i σ H->ay K H a xs)
  (hs:∀i x σ H,xs[i]?=some x->Pv i σ H->g x σ H fun σ2 H2=>tb {D with nx:=Pv (i+1),ct:=Pv (i+1),bk:=D.nx} σ2 H2) (hd:∀σ H,Pv xs.length σ H->D.nx σ H):
  ∃W:Nat->Nat->St->Hp->Prop,(∃m,W 0 m σ H)/\∀i m σ H,W i m σ H->
   ((cp K a).stop i H/\D.nx σ H)\/((cp K a).go i H/\∃N:St->Hp->Prop,(∀σ' H',N σ' H'->∃m',m'<m/\W (i+1) m' σ' H')/\∀x H',(cp K a).dE i H x H'->g x σ H' fun σ2 H2=>tb {D with nx:=N,ct:=N,bk:=D.nx} σ2 H2):=by
 refine⟨fun i m σ H=>m=xs.length - i/\i<=xs.length/\Pv i σ H,⟨xs.length,by simp,zqZ _,h0⟩,?_⟩
 rintro i m σ H ⟨rfl,hi,p⟩;have q:=hl i σ H hi p;by_cases aS:i<xs.length
 ·refine .inr ⟨⟨xs,xs[i],q,by simp[aS]⟩,Pv<|i+1,fun σ' H' p'=>⟨xs.length - (i+1),by omega,rfl,aS,p'⟩,fun x H' y=>?_⟩
  obtain⟨e,y⟩:=y;subst e;exact hs i x σ _ (y xs q) p
 ·have e:i=xs.length:=by omega
  subst e;exact .inl ⟨⟨xs,q,zqR _⟩,hd σ H p⟩
theorem pW{lo:Int}{n:Nat}{g:TG}{tb:TS}{D:Ends}{σ:St}{H:Hp}(Pv:Nat->St->Hp->Prop)(h0:Pv 0 σ H)
  (hs:∀i σ H,i<n->Pv i σ H->g (.int<|lo+i) σ H fun σ2 H2=>tb {D with nx:=Pv (i+1),ct:=Pv (i+1),bk:=D.nx} σ2 H2) (hd:∀σ H,Pv n σ H->D.nx σ H):
  ∃W:Nat->Nat->St->Hp->Prop,(∃m,W 0 m σ H)/\∀i m σ H,W i m σ H->
   ((ig lo n).stop i H/\D.nx σ H)\/((ig lo n).go i H/\∃N:St->Hp->Prop,(∀σ' H',N σ' H'->∃m',m'<m/\W (i+1) m' σ' H')/\∀x H',(ig lo n).dE i H x H'->g x σ H' fun σ2 H2=>tb {D with nx:=N,ct:=N,bk:=D.nx} σ2 H2):=by
 refine⟨fun i m σ H=>m=n - i/\i<=n/\Pv i σ H,⟨n,by simp,zqZ _,h0⟩,?_⟩
 rintro i m σ H ⟨rfl,hi,p⟩;by_cases aS:i<n
 ·refine .inr ⟨aS,Pv<|i+1,fun σ' H' p'=>⟨n - (i+1),by omega,rfl,aS,p'⟩,fun x H' y=>?_⟩
  obtain⟨e,y⟩:=y;subst e y;exact hs i σ _ aS p
 ·have e:i=n:=by omega
  subst e;exact .inl ⟨zqR _,hd σ H p⟩
abbrev R2:=V->V->Hp->VK->Prop
def a_(X:Cx)(f:Value->Value->Sem Value)(r:R2):Prop:=
 ∀(pins:List (Addr×Obj)) (s:Shared) (σ:St) (H:Hp) (x y:V) (v u:Value) (Q:VK),Inv X pins σ H s->RelV x v->RelV y u->r x y H Q->
  wpAny (model X.prog X.w) X.A (f v u) (EP X pins σ Q) X.xe s
def pY(X:Cx)(f:Value->Sem Value)(r:V->Hp->VK->Prop):Prop:=
 ∀(pins:List (Addr×Obj)) (s:Shared) (σ:St) (H:Hp) (x:V) (v:Value) (Q:VK),Inv X pins σ H s->RelV x v->r x H Q->
  wpAny (model X.prog X.w) X.A (f v) (EP X pins σ Q) X.xe s
def bW(X:Cx)(f:Value)(r:List V->Hp->VK->Prop):Prop:=
 ∀(pins:List (Addr×Obj)) (s:Shared) (σ:St) (H:Hp) (xs:List V) (us:List Value) (Q:VK),Inv X pins σ H s->Vals xs us->r xs H Q->
  wpAny (model X.prog X.w) X.A (call f us) (EP X pins σ Q) X.xe s
def IU(X:Cx)(r:V->Hp->(Bool->Hp->Prop)->Prop):Prop:=
 ∀(pins:List (Addr×Obj)) (s:Shared) (σ:St) (H:Hp) (x:V) (v:Value) (Q:Bool->Hp->Prop),Inv X pins σ H s->RelV x v->r x H Q->
  wpAny (model X.prog X.w) X.A (truthy v) (TP X pins σ Q) X.xe s
def dg(r:R2)(ta tb:TE):TE:=fun σ H Q=>ta σ H fun x H1=>tb σ H1 fun y H2=>r x y H2 Q
def zm(r:V->Hp->VK->Prop)(ta:TE):TE:=fun σ H Q=>ta σ H fun x H1=>r x H1 Q
def rI(C:Int->Int->Prop)(g:Int->Int->V):R2:=fun x y H Q=>∃i j,x=.int i/\y=.int j/\C i j/\Q (g i j) H
def i0(g:Int->Int->V):R2:=fun x y H Q=>∃i j,x=.int i/\y=.int j/\Q (g i j) H
def rU(g:Int->V):V->Hp->VK->Prop:=fun x H Q=>∃i,x=.int i/\Q (g i) H
section
variable {X:Cx}{a b c:Expr}{ta tb tc:TE}{pos:Pos}
theorem t5(ha:PE X a ta)(hb:PE X b tb){pins:List (Addr×Obj)}{s:Shared}{σ:St}{H:Hp}{R:V->V->Hp->Prop}(I:Inv X pins σ H s)
  (h:ta σ H fun x H1=>tb σ H1 fun y H2=>R x y H2) {Q:Value->Shared->Prop}{f:Value->Value->Sem Value}
  (hf:∀v u s2 x y H2,Inv X pins σ H2 s2->RelV x v->RelV y u->R x y H2->wpAny (model X.prog X.w) X.A (f v u) Q X.xe s2):
  wpAny (model X.prog X.w) X.A (eval a X.env) (fun v s₁=>wpAny (model X.prog X.w) X.A (eval b X.env) (fun u s₂=>wpAny (model X.prog X.w) X.A (f v u) Q X.xe s₂) X.xe s₁) X.xe s:=by
 refine aR (ha pins s σ H _ I h) fun v s1 ⟨x,H1,I1,r1,q1⟩=>?_;refine aR (hb pins s1 σ H1 _ I1 q1) fun u s2 ⟨y,H2,I2,r2,q2⟩=>?_;exact hf v u s2 x y H2 I2 r1 r2 q2
theorem IV{op:Operator}{r:R2}(ho:a_ X (binaryOp op) r)(ha:PE X a ta)(hb:PE X b tb):PE X (.BinOp a op b pos) (dg r ta tb):=by
 intro pins s σ H Q I h;exact wpAny_BinOp<|t5 ha hb I h fun v u s2 x y H2 I2 rx ry q=>ho pins s2 σ H2 x y v u Q I2 rx ry q
theorem IW{op:UnaryOp}{r:V->Hp->VK->Prop}(ho:pY X (unaryOp op) r)(ha:PE X a ta):PE X (.UnaryOp op a pos) (zm r ta):=by
 intro pins s σ H Q I h;exact UnaryOp_<|aR (ha pins s σ H _ I h) fun v s1 ⟨x,H1,I1,r1,q1⟩=>ho pins s1 σ H1 x v Q I1 r1 q1
theorem pZ{f:Value->Value->Sem Value}{C:Int->Int->Prop}{g:Int->Int->Int}
  (rule:∀(i j:Int) (t u:Tok) (s:Shared) (Q:Value->Shared->Prop) (E:Value->Shared->Prop),C i j->Q (.int (g i j) s.toks) {s with toks:=s.toks+1}->wpAny (model X.prog X.w) X.A (f (.int i t)<|.int j u) Q E s):
  a_ X f (rI C fun i j=>.int (g i j)):=by
 intro pins s σ H x y v u Q I rx ry h;obtain⟨i,j,rfl,rfl,hc,q⟩:=h;obtain⟨t,rfl⟩:=rx;obtain⟨t',rfl⟩:=ry;exact rule i j t t' s _ _ hc ⟨.int<|g i j,H,I.tok _,⟨_,rfl⟩,q⟩
theorem zo{f:Value->Value->Sem Value}{g:Int->Int->Int}
  (rule:∀(i j:Int) (t u:Tok) (s:Shared) (Q:Value->Shared->Prop) (E:Value->Shared->Prop),Q (.int (g i j) s.toks) {s with toks:=s.toks+1}->wpAny (model X.prog X.w) X.A (f (.int i t)<|.int j u) Q E s):
  a_ X f (i0 fun i j=>.int (g i j)):=by
 intro pins s σ H x y v u Q I rx ry h;obtain⟨i,j,rfl,rfl,q⟩:=h;obtain⟨t,rfl⟩:=rx;obtain⟨t',rfl⟩:=ry;exact rule i j t t' s _ _ ⟨.int<|g i j,H,I.tok _,⟨_,rfl⟩,q⟩
theorem p9{f:Value->Value->Sem Value}{g:Int->Int->Bool}
  (rule:∀(i j:Int) (t u:Tok) (s:Shared) (Q:Value->Shared->Prop) (E:Value->Shared->Prop),Q (.bool<|g i j) s->wpAny (model X.prog X.w) X.A (f (.int i t)<|.int j u) Q E s):
  a_ X f (i0 fun i j=>.bl (g i j)):=by
 intro pins s σ H x y v u Q I rx ry h;obtain⟨i,j,rfl,rfl,q⟩:=h;obtain⟨t,rfl⟩:=rx;obtain⟨t',rfl⟩:=ry;exact rule i j t t' s _ _ ⟨.bl<|g i j,H,I,rfl,q⟩
def t6(i j:Int):Prop:=0<j/\j<1073741824
def zp(i j:Int):Prop:=0<=j/\j<=1000000/\i.natAbs<2 ^ 64
def p_(i j:Int):Prop:=(-(2 ^ 64) <i/\i<2 ^ 64)\/(-(2 ^ 64) <j/\j<2 ^ 64)
theorem p_.ok{i j:Int}(h:p_ i j):IntMulOk i j:=by
 rcases h with⟨h1,h2⟩|⟨h1,h2⟩
 ·exact .of_left (intBits_le_64 h1 h2)
 ·exact .of_right (intBits_le_64 h1 h2)
theorem IX:a_ X (binaryOp .Add) (i0 fun i j=>.int (i+j)):=zo fun _ _ _ _ _ _ _ q=>add_int q
theorem IY:a_ X (binaryOp .Sub) (i0 fun i j=>.int (i - j)):=zo fun _ _ _ _ _ _ _ q=>sub_int q
theorem IZ:a_ X (binaryOp .Mult) (rI p_ fun i j=>.int (i*j)):=pZ fun _ _ _ _ _ _ _ hc q=>mul_int q hc.ok
theorem I0:a_ X (binaryOp .FloorDiv) (rI t6 fun i j=>.int (i / j)):=pZ fun i j _ _ _ _ _ hc q=>by
 have h1:(0:Int) <j:=hc.1;have h2:j<1073741824:=hc.2;exact floordiv_int (by omega) (by rw[Int.fdiv_eq_ediv_of_nonneg i (by omega)];exact q)<|.inl<|PyProof.noPylong_small (by omega)
theorem I_:a_ X (binaryOp .Mod) (rI (fun _ j=>0<j) fun i j=>.int (i % j)):=pZ fun i j _ _ _ _ _ hc q=>by
 have h1:(0:Int) <j:=hc;exact mod_int' (by omega) (by rw[Int.fmod_eq_emod_of_nonneg i (by omega)];exact q)
theorem Ja:a_ X (binaryOp .Pow) (rI zp fun i j=>.int (i ^ j.toNat)):=pZ fun _ _ _ _ _ _ _ hc q=>pow_int_small hc.1 hc.2.1 hc.2.2 q
theorem Jb{f:Value->Sem Value}{g:Int->Int}
  (rule:∀(i:Int) (t:Tok) (s:Shared) (Q:Value->Shared->Prop) (E:Value->Shared->Prop),Q (.int (g i) s.toks) {s with toks:=s.toks+1}->wpAny (model X.prog X.w) X.A (f<|.int i t) Q E s):
  pY X f (rU fun i=>.int (g i)):=by
 intro pins s σ H x v Q I rx h;obtain⟨i,rfl,q⟩:=h;obtain⟨t,rfl⟩:=rx;exact rule i t s _ _ ⟨.int<|g i,H,I.tok _,⟨_,rfl⟩,q⟩
theorem Jc:pY X (unaryOp .USub) (rU fun i=>.int (-i)):=Jb fun _ _ _ _ _ q=>neg_int q
end
def ko:V->V->Bool
 |.az,.az=>true|.az,.int _=>true|.int _,.az=>true|.az,.bl _=>true|.bl _,.az=>true|.az,.str _=>true|.str _,.az=>true
 |.int _,.int _=>true|.bl _,.bl _=>true|.str _,.str _=>true|.dU _,.dU _=>true
 |.int _,.str _=>true|.str _,.int _=>true|.bl _,.str _=>true|.str _,.bl _=>true
 |_,_=>false
def Jd:R2:=fun x y H Q=>ko x y=true/\Q (.bl<|decide<|x=y) H
def Je:R2:=fun x y H Q=>ko x y=true/\Q (.bl<|!decide (x=y)) H
theorem zq{i j:Int}:decide (V.int i=V.int j)=(i==j):=by
 rw[zbh]
 simp
theorem zr{i j:Bool}:decide (V.bl i=V.bl j)=(i==j):=by
 rw[zbh]
 simp
theorem gN{i j:Str}:decide (V.str i=V.str j)=(i==j):=by
 rw[zbh]
 simp
theorem zt{i j:Array UInt8}:decide (V.dU i=V.dU j)=(i.toList==j.toList):=by
 rw[zbh];cases i;cases j
 simp
section
variable {X:Cx}{a b c:Expr}{ta tb tc:TE}{pos:Pos}
theorem bL{pins:List (Addr×Obj)}{σ:St}{H:Hp}{s:Shared}{Q:VK}{k k':Bool}(I:Inv X pins σ H s)(q:Q (.bl k) H)(e:k=k'):EP X pins σ Q (.bool k') s:=by
 subst e;exact⟨.bl k,H,I,rfl,q⟩
theorem Jf:a_ X (compareOp .Eq) Jd:=by
 intro pins s σ H x y v u Q I rx ry h;obtain⟨hs,q⟩:=h;cases x with
 |az=>
  cases rx;cases y with
  |az=>cases ry;exact PySem.EqNone.eq_none_none (bL I q (by simp))
  |bl j=>cases ry;exact PySem.EqNone.eq_none_bool (bL I q (by simp))
  |int j=>obtain⟨t',rfl⟩:=ry;exact PySem.EqNone.eq_none_int (bL I q (by simp))
  |str j=>obtain⟨t',rfl⟩:=ry;exact PySem.EqNone.eq_none_str (bL I q (by simp))
  |_=>exact absurd (show false=true from hs) zaf
 |bl i=>
  cases rx;cases y with
  |az=>cases ry;exact PySem.EqNone.eq_bool_none (bL I q (by simp))
  |bl j=>cases ry;exact eq_bool (bL I q zr)
  |str j=>obtain⟨t',rfl⟩:=ry;exact PySem.EqMixed.eq_bool_str (bL I q (by simp))
  |_=>exact absurd (show false=true from hs) zaf
 |int i=>
  obtain⟨t,rfl⟩:=rx;cases y with
  |az=>cases ry;exact PySem.EqNone.eq_int_none (bL I q (by simp))
  |int j=>obtain⟨t',rfl⟩:=ry;exact eq_int (bL I q zq)
  |str j=>obtain⟨t',rfl⟩:=ry;exact PySem.EqMixed.eq_int_str (bL I q (by simp))
  |_=>exact absurd (show false=true from hs) zaf
 |str i=>
  obtain⟨t,rfl⟩:=rx;cases y with
  |az=>cases ry;exact PySem.EqNone.eq_str_none (bL I q (by simp))
  |bl j=>cases ry;exact PySem.EqMixed.eq_str_bool (bL I q (by simp))
  |int j=>obtain⟨t',rfl⟩:=ry;exact PySem.EqMixed.eq_str_int (bL I q (by simp))
  |str j=>obtain⟨t',rfl⟩:=ry;exact eq_str (bL I q gN)
  |_=>exact absurd (show false=true from hs) zaf
 |dU i=>
  obtain⟨t,rfl⟩:=rx;cases y with
  |dU j=>obtain⟨t',rfl⟩:=ry;exact PySem.W.eq_bytes (bL I q zt)
  |_=>exact absurd (show false=true from hs) zaf
 |_=>cases y<;>exact absurd (show false=true from hs) zaf
theorem Jg:a_ X (compareOp .NotEq) Je:=by
 intro pins s σ H x y v u Q I rx ry h;obtain⟨hs,q⟩:=h;cases x with
 |az=>
  cases rx;cases y with
  |az=>cases ry;exact PySem.EqNone.ne_none_none (bL I q (by simp))
  |bl j=>cases ry;exact PySem.EqNone.ne_none_bool (bL I q (by simp))
  |int j=>obtain⟨t',rfl⟩:=ry;exact PySem.EqNone.ne_none_int (bL I q (by simp))
  |str j=>obtain⟨t',rfl⟩:=ry;exact PySem.EqNone.ne_none_str (bL I q (by simp))
  |_=>exact absurd (show false=true from hs) zaf
 |bl i=>
  cases rx;cases y with
  |az=>cases ry;exact PySem.EqNone.ne_bool_none (bL I q (by simp))
  |bl j=>cases ry;exact ne_bool (bL I q<|congrArg not zr)
  |str j=>obtain⟨t',rfl⟩:=ry;exact PySem.EqMixed.ne_bool_str (bL I q (by simp))
  |_=>exact absurd (show false=true from hs) zaf
 |int i=>
  obtain⟨t,rfl⟩:=rx;cases y with
  |az=>cases ry;exact PySem.EqNone.ne_int_none (bL I q (by simp))
  |int j=>obtain⟨t',rfl⟩:=ry;exact ne_int (bL I q<|congrArg not zq)
  |str j=>obtain⟨t',rfl⟩:=ry;exact PySem.EqMixed.ne_int_str (bL I q (by simp))
  |_=>exact absurd (show false=true from hs) zaf
 |str i=>
  obtain⟨t,rfl⟩:=rx;cases y with
  |az=>cases ry;exact PySem.EqNone.ne_str_none (bL I q (by simp))
  |bl j=>cases ry;exact PySem.EqMixed.ne_str_bool (bL I q (by simp))
  |int j=>obtain⟨t',rfl⟩:=ry;exact PySem.EqMixed.ne_str_int (bL I q (by simp))
  |str j=>obtain⟨t',rfl⟩:=ry;exact ne_str (bL I q<|congrArg not gN)
  |_=>exact absurd (show false=true from hs) zaf
 |dU i=>
  obtain⟨t,rfl⟩:=rx;cases y with
  |dU j=>obtain⟨t',rfl⟩:=ry;exact PySem.W.ne_bytes (bL I q<|congrArg not zt)
  |_=>exact absurd (show false=true from hs) zaf
 |_=>cases y<;>exact absurd (show false=true from hs) zaf
theorem Jh:a_ X (compareOp .Lt) (i0 fun i j=>.bl (decide<|i<j)):=p9 fun _ _ _ _ _ _ _ q=>lt_int q
theorem Ji:a_ X (compareOp .LtE) (i0 fun i j=>.bl (decide<|i<=j)):=p9 fun _ _ _ _ _ _ _ q=>le_int q
theorem Jj:a_ X (compareOp .Gt) (i0 fun i j=>.bl (decide<|j<i)):=p9 fun _ _ _ _ _ _ _ q=>gt_int q
theorem Jk:a_ X (compareOp .GtE) (i0 fun i j=>.bl (decide<|j<=i)):=p9 fun _ _ _ _ _ _ _ q=>ge_int q
theorem Jl:a_ X (compareOp .In) (fun x y H Q=>∃i j,x=.str i/\y=.str j/\Q (.bl<|!(Builtin.Str.occurrences j i 0 j.length 1).isEmpty) H):=by
 intro pins s σ H x y v u Q I rx ry h;obtain⟨i,j,rfl,rfl,q⟩:=h;obtain⟨t,rfl⟩:=rx;obtain⟨t',rfl⟩:=ry;exact in_str<|bL I q rfl
theorem Jm:a_ X (compareOp .Is) (fun x y H Q=>y=.az/\Q (.bl<|decide<|x=.az) H):=by
 intro pins s σ H x y v u Q I rx ry h;obtain⟨rfl,q⟩:=h;cases ry;refine is_none_gen<|bL I q ?_;cases x<;>first
  | (cases rx;rfl)
  | (obtain⟨t,rfl⟩:=rx;rfl)
theorem Jo:a_ X (compareOp .IsNot) (fun x y H Q=>y=.az/\Q (.bl<|!decide (x=.az)) H):=by
 intro pins s σ H x y v u Q I rx ry h;obtain⟨rfl,q⟩:=h;cases ry;refine isnot_none_gen<|bL I q ?_;cases x<;>first
  | (cases rx;rfl)
  | (obtain⟨t,rfl⟩:=rx;rfl)
theorem Jp:a_ X (compareOp .NotIn) (fun x y H Q=>∃i j,x=.str i/\y=.str j/\Q (.bl<|!(!(Builtin.Str.occurrences j i 0 j.length 1).isEmpty)) H):=by
 intro pins s σ H x y v u Q I rx ry h;obtain⟨i,j,rfl,rfl,q⟩:=h;obtain⟨t,rfl⟩:=rx;obtain⟨t',rfl⟩:=ry;exact notIn_str<|bL I q rfl
theorem a_.or{f:Value->Value->Sem Value}{r r':R2}(h:a_ X f r)(h':a_ X f r'):a_ X f (fun x y H Q=>r x y H Q\/r' x y H Q):=by
 intro pins s σ H x y v u Q I rx ry q;rcases q with q|q
 ·exact h pins s σ H x y v u Q I rx ry q
 ·exact h' pins s σ H x y v u Q I rx ry q
theorem Jq{op:CmpOp}{r:R2}(ho:a_ X (compareOp op) r)(ha:PE X a ta)(hb:PE X b tb)(hm:behindInMarks op b=false):PE X (.Compare a [op] [b] pos) (dg r ta tb):=by
 intro pins s σ H Q I h;exact wpAny_Compare1 (t5 ha hb I h fun v u s2 x y H2 I2 rx ry q=>ho pins s2 σ H2 x y v u Q I2 rx ry q) hm
def my(t:TE):TT:=fun σ H Q=>t σ H fun x H'=>∃k,x=.bl k/\Q k H'
theorem zu{op:CmpOp}{r:R2}(ho:a_ X (compareOp op) r)(ha:PE X a ta)(hb:PE X b tb)(hm:behindInMarks op b=false):PT X (.Compare a [op] [b] pos) (my<|dg r ta tb):=by
 intro pins s σ H Q I h;refine wpAny_isTrue_Compare1 (aR (ha pins s σ H _ I h) fun v s1 ⟨x,H1,I1,r1,q1⟩=>aR (hb pins s1 σ H1 _ I1 q1) fun u s2 ⟨y,H2,I2,r2,q2⟩=>
  aR (ho pins s2 σ H2 x y v u _ I2 r1 r2 q2) fun c s3 ⟨z,H3,I3,r3,k,e,q3⟩=>?_) hm
 subst e;cases r3;exact wpAny_truthy_bool ⟨H3,I3,q3⟩
def qc(r r':R2)(ta tb tc:TE):TE:=fun σ H Q=>ta σ H fun x H1=>tb σ H1 fun y H2=>r x y H2 fun z H3=>∃k,z=.bl k/\
 (if k=true then tc σ H3 fun w' H4=>r' y w' H4 Q else Q (.bl false) H3)
theorem Jr{op dW:CmpOp}{r r':R2}(ho:a_ X (compareOp op) r)(eL:a_ X (compareOp dW) r')(ha:PE X a ta)(hb:PE X b tb)(hc:PE X c tc)
  (hm:lastMarks [op,dW] [b,c]=false:=by with_unfolding_all rfl):PE X (.Compare a [op,dW] [b,c] pos) (qc r r' ta tb tc):=by
 intro pins s σ H Q I h;refine Compare_chain (aR (ha pins s σ H _ I h) fun v s1 ⟨x,H1,I1,r1,q1⟩=>chain_link (aR (hb pins s1 σ H1 _ I1 q1) fun u s2 ⟨y,H2,I2,r2,q2⟩=>
  aR (ho pins s2 σ H2 x y v u _ I2 r1 r2 q2) fun d s3 ⟨z,H3,I3,r3,k,e,q3⟩=>?_)) hm
 subst e;cases r3;refine wpAny_truthy_bool ?_;cases k with
 |false=>exact ite_ff ⟨.bl false,H3,I3,rfl,q3⟩
 |true=>exact ite_tt (chain_last<|aR (hc pins s3 σ H3 _ I3 q3) fun w' s4 ⟨z',H4,I4,r4,q4⟩=>eL pins s4 σ H4 y z' u w' Q I4 r2 r4 q4)
def zv(K:Frag)(x:V)(H:Hp)(k:Bool):Prop:=
 match x with
 |.az=>k=false
 |.bl b=>k=b
 |.int i=>k=(i !=0)
 |.str y=>y.length<=sizeLine/\k=((y.length:Int) !=0)
 |.dU y=>y.size<=sizeLine/\k=((y.size:Int) !=0)
 |.ref p=>(∃xs,ay K H p xs/\k= !xs.isEmpty)\/(∃xs,aO K H p xs/\k= !xs.isEmpty)\/∃aL,H p=some (.dK aL)/\k= !aL.isEmpty
 |_=>False
theorem Js{κ:Type}{aL:List (κ×V)}{vs:List (κ×Value)}(r:KV aL vs):(!vs.isEmpty)= !aL.isEmpty:=by
 cases r<;>rfl
theorem zw{xs:List V}{its:List Value}(r:Vals xs its):(!its.toArray.isEmpty)= !xs.isEmpty:=by
 cases r<;>simp
theorem kq:(sizeLine:Nat) <2 ^ 63:=by rw[sizeLine_eq];decide
theorem zx:IU X (fun x H Q=>∃k,zv X.K x H k/\Q k H):=by
 intro pins s σ H x v Q I rx h;obtain⟨k,e,q⟩:=h;have hl:=kq;have hs:sizeLine=16777216:=sizeLine_eq;cases x with
 |az=>
  cases rx;have e':k=false:=e;subst e';exact truthy_none ⟨H,I,q⟩
 |bl b=>
  cases rx;have e':k=b:=e;subst e';exact wpAny_truthy_bool ⟨H,I,q⟩
 |int i=>
  obtain⟨t,rfl⟩:=rx;have e':k=(i !=0):=e;subst e';exact PySem.P.truthy_int ⟨H,I,q⟩
 |str y=>
  obtain⟨t,rfl⟩:=rx;obtain⟨hy,e'⟩:y.length<=sizeLine/\k=((y.length:Int) !=0):=e;subst e';exact PySem.P.truthy_str (by omega) ⟨H,I.tok _,q⟩
 |dU y=>
  obtain⟨t,rfl⟩:=rx;obtain⟨hy,e'⟩:y.size<=sizeLine/\k=((y.size:Int) !=0):=e;subst e';exact PySem.W.truthy_bytes (by omega) ⟨H,I.tok _,q⟩
 |ref p=>
  cases rx;have e':(∃xs,ay X.K H p xs/\k= !xs.isEmpty)\/(∃xs,aO X.K H p xs/\k= !xs.isEmpty)\/∃aL,H p=some (.dK aL)/\k= !aL.isEmpty:=e;rcases e' with⟨xs,hx,e'⟩|⟨xs,hx,e'⟩|⟨aL,hx,e'⟩
  ·subst e';obtain⟨its,r,pl,hz⟩:=I.list hx;have hlen:=r.length;exact wpAny_truthy_list pl.isList (by simp only[zac];omega) ⟨H,I.tok _,by rw[zw r];exact q⟩
  ·subst e';obtain⟨its,r,pl,hz⟩:=I.tuple hx;have hlen:=r.length;exact truthy_tuple pl (by simp only[zac];omega) ⟨H,I.tok _,by rw[zw r];exact q⟩
  ·subst e';obtain⟨hz,hS,vs,r,m⟩:aL.length<=sizeLine/\(p==sysModules)=false/\∃vs,KV aL vs/\s.heap.DictOf (h_ X.prog X.w) p vs:=I.aH p _ hx;have hlen:aL.length=vs.length:=Paired.length r;exact wpAny_truthy_dict hS m (by omega) ⟨H,I.tok _,by rw[Js r];exact q⟩
 |_=>exact(show False from e).elim
theorem Jt:a_ X (binaryOp .Add) (fun x y H Q=>∃i j,x=.str i/\y=.str j/\i.length+j.length<=sizeLine/\Q (.str<|i++j) H):=by
 intro pins s σ H x y v u Q I rx ry h;obtain⟨i,j,rfl,rfl,hz,q⟩:=h;obtain⟨t,rfl⟩:=rx;obtain⟨t',rfl⟩:=ry;exact add_str (fun t' tk=>⟨.str<|i++j,H,I.tok _,⟨_,rfl⟩,q⟩) hz
theorem vals1{x:V}{us:List Value}(r:Vals [x] us):∃u,us=[u]/\RelV x u:=by
 cases r with
 |cons r1 r2=>cases r2;exact⟨_,rfl,r1⟩
theorem vals2{x y:V}{us:List Value}(r:Vals [x,y] us):∃u w',us=[u,w']/\RelV x u/\RelV y w':=by
 cases r with
 |cons r1 r2=>
  cases r2 with
  |cons r3 r4=>cases r4;exact⟨_,_,rfl,r1,r3⟩
theorem Ju:bW X (.builtin "abs") (fun xs H Q=>∃i,xs=[.int i]/\Q (.int (if i<0 then -i else i)) H):=by
 intro pins s σ H xs us Q I r h;obtain⟨i,rfl,q⟩:=h;obtain⟨u,rfl,t,rfl⟩:=vals1 r;exact call_abs_int fun u tk=>⟨.int (if i<0 then -i else i),H,I.tok _,⟨_,rfl⟩,q⟩
theorem Jv(hc:X.calm=true):bW X (.builtin "max") (fun xs H Q=>∃i j,xs=[.int i,.int j]/\Q (.int (if j>i then j else i)) H):=by
 intro pins s σ H xs us Q I r h;obtain⟨i,j,rfl,q⟩:=h;obtain⟨u,w',rfl,⟨t,rfl⟩,⟨t',rfl⟩⟩:=vals2 r;refine max_two_ints (I.ok.hd hc) fun h' tk k=>⟨_,H,I.kept k,?_,q⟩;by_cases hj:j>i
 ·rw[if_pos hj,if_pos hj];exact⟨_,rfl⟩
 ·rw[if_neg hj,if_neg hj];exact⟨_,rfl⟩
theorem Jw(hc:X.calm=true):bW X (.builtin "min") (fun xs H Q=>∃i j,xs=[.int i,.int j]/\Q (.int (if j<i then j else i)) H):=by
 intro pins s σ H xs us Q I r h;obtain⟨i,j,rfl,q⟩:=h;obtain⟨u,w',rfl,⟨t,rfl⟩,⟨t',rfl⟩⟩:=vals2 r;refine min_two_ints (I.ok.hd hc) fun h' tk k=>⟨_,H,I.kept k,?_,q⟩;by_cases hj:j<i
 ·rw[if_pos hj,if_pos hj];exact⟨_,rfl⟩
 ·rw[if_neg hj,if_neg hj];exact⟨_,rfl⟩
theorem Jx:bW X (.type "int") (fun xs H Q=>(∃i,xs=[.int i]/\Q (.int i) H)\/∃k,xs=[.bl k]/\Q (.int (if k then 1 else 0)) H):=by
 intro pins s σ H xs us Q I r h;rcases h with⟨i,rfl,q⟩|⟨k,rfl,q⟩
 ·obtain⟨u,rfl,t,rfl⟩:=vals1 r;exact call_int_int ⟨.int i,H,I,⟨_,rfl⟩,q⟩
 ·obtain⟨u,rfl,r1⟩:=vals1 r;cases r1;exact call_int_bool ⟨.int (if k then 1 else 0),H,I.tok _,⟨_,rfl⟩,q⟩
def zy(K:Frag)(x:V)(H:Hp)(n:Nat):Prop:=
 match x with
 |.str y=>y.length<=sizeLine/\n=y.length
 |.dU y=>y.size<=sizeLine/\n=y.size
 |.ref p=>(∃xs,ay K H p xs/\n=xs.length)\/∃xs,aO K H p xs/\n=xs.length
 |_=>False
theorem Jy:bW X (.builtin "len") (fun xs H Q=>∃x n,xs=[x]/\zy X.K x H n/\Q (.int n) H):=by
 intro pins s σ H xs us Q I r h;obtain⟨x,n,rfl,e,q⟩:=h;obtain⟨u,rfl,rx⟩:=vals1 r;have hl:=kq;have hs:sizeLine=16777216:=sizeLine_eq;cases x with
 |str y=>
  obtain⟨t,rfl⟩:=rx;obtain⟨hy,e'⟩:y.length<=sizeLine/\n=y.length:=e;subst e';exact len_str (by omega) ⟨.int _,H,I.tok _,⟨_,rfl⟩,q⟩
 |dU y=>
  obtain⟨t,rfl⟩:=rx;obtain⟨hy,e'⟩:y.size<=sizeLine/\n=y.size:=e;subst e';exact PySem.W.len_bytes (by omega) ⟨.int _,H,I.tok _,⟨_,rfl⟩,q⟩
 |ref p=>
  cases rx;have e':(∃xs,ay X.K H p xs/\n=xs.length)\/∃xs,aO X.K H p xs/\n=xs.length:=e;rcases e' with⟨xs,hx,e'⟩|⟨xs,hx,e'⟩
  ·subst e';obtain⟨its,r',pl,hz⟩:=I.list hx;have hlen:=r'.length;exact Calls.call_len_list pl.isList (by simp only[zac];omega) ⟨.int xs.length,H,I.tok _,⟨_,by simp only[zac];rw[hlen]⟩,q⟩
  ·subst e';obtain⟨its,r',pl,hz⟩:=I.tuple hx;have hlen:=r'.length;exact len_tuple pl (by simp only[zac];omega) ⟨.int xs.length,H,I.tok _,⟨_,by simp only[zac];rw[hlen]⟩,q⟩
 |_=>exact(show False from e).elim
end
structure kr (h:Heap) (x dx C:Addr) (mA:Str->Option Value):Prop where
 obj:h.get? x=some (instObj C dx)
 ns:h.Ns1 dx mA
 ne:dx≠x
theorem Jz{h:Heap}{dx:Addr}{mA:Str->Option Value}(n:h.Ns1 dx mA):∃od,h.get? dx=some od/\∀name,lookIn name od=some (mA name):=by
 obtain⟨o,es,ep,ho,hd,hk,_,hm⟩:=n;refine⟨o,ho,fun name=>?_⟩;have e:=hm name;unfold nsFind findBy at e;rw[<-Array.find?_toList] at e;unfold lookIn;rw[hd]
 dsimp only
 split
 ·rename_i y q
  rw[q] at e;exact congrArg some e
 ·rename_i q
  rw[q] at e;have a:es.toList.any (·.refKey)=false:=by
   rw[List.any_eq_false];intro y hy;obtain⟨z,t,JA⟩:=hk y (Array.mem_toList_iff.mp hy)
   simp[DictEntry.refKey,JA]
  have a':¬es.toList.any (·.refKey)=true:=by rw[a];exact zaf
  rw[if_neg a'];exact congrArg some e
theorem kr.look{h:Heap}{x dx C:Addr}{mA:Str->Option Value}(I:kr h x dx C mA):∃od,PySem.W.InstAt h x (instObj C dx) C (some od)/\∀name,lookIn name od=some (mA name):=
 let ⟨od,ho,hl⟩:=Jz I.ns
 ⟨od,⟨I.obj,rfl,rfl,ho⟩,hl⟩
section
variable {prog:Program}{w:World}{A:Around}{E:Value->Shared->Prop}{s:Shared}{K:Frag}{x dx C f:Addr}{mA:Str->Option Value}{name:Str}{v:Value}
theorem get_map{expr:Bool}{Q:Value->Shared->Prop}(X:K.In s.heap)(I:kr s.heap x dx C mA)(hg:plainGet K C name=true)(hh:hasDictIn K C=true)
  (ha:PySem.W.findIn K (.ref C) name=some none) (hv:mA name=some v) (t9:handedIn v=true) (h:Q v {s with toks:=s.toks+1}):
  wpAny (model prog w) A (getAttr (.ref x) name expr) Q E s:=by
 obtain⟨od,J,hl⟩:=I.look;exact PySem.W.get_value X J (plainGet_of hg).1 (PySem.W.findObj_own hh ha rfl (by rw[hl,hv])) t9 h
theorem JB{pl:Sem Bool}{Q:Value×List Value->Shared->Prop}(X:K.In s.heap)(I:kr s.heap x dx C mA)(hg:plainGet K C name=true)
  (hf:PySem.W.findIn K (.ref C) name=some (some<|.ref f)) (ht:PySem.W.isFn K (.ref f)=true) (hv:mA name=none) (h:Q (.ref f,[.ref x]) s):
  wpAny (model prog w) A (getMethod (.ref x) name pl) Q E s:=by
 obtain⟨od,J,hl⟩:=I.look;exact PySem.W.method_fn X J (plainGet_of hg).1 (plainGet_of hg).2 hf (beq_iff_eq.mp ht) (by show(lookIn name od).map (·.isSome)=some false;rw[hl,hv];rfl) h
theorem JC{ns:List Str}{Q:Unit->Shared->Prop}(X:K.In s.heap)(I:kr s.heap x dx C mA)
  (hs:PySem.W.findIn K (.ref C) "__setattr__"=some (some<|.builtin "object.__setattr__")) (hp:plainOver K C=true) (ht:takerIn K C name=some none) (hh:hasDictIn K C=true)
  (hw:PySem.Within mA ns) (js:ns.length<=sizeLine)
  (h:∀h',kr h' x dx C (fun y=>if y=name then some v else mA y)->Heap.SameBut dx s.heap h'->Q () {s with heap:=h',toks:=s.toks+2}):
  wpAny (model prog w) A (setAttr (.ref x) name v) Q E s:=by
 obtain⟨od,J,hl⟩:=I.look;refine PySem.W.set_plain X J hs<|PySem.W.osa_open (s:={s with toks:=s.toks+1}) (r:=none) X J hp ht fun b=>?_
 obtain⟨cd,hc,tE⟩:=PySem.W.any_some hh;have hx:s.heap.get? x=some ⟨.ref C,some dx,.plain,#[]⟩:=I.obj;refine wpAny_bind<|wpAny_pure<|wpAny_bind<|wpAny_bind<|wpAny_loadPart hx<|wpAny_bind<|PySem.W.Looks.here (s:={s with toks:=s.toks+1}) (PySem.W.looks_clsIn X hc) ?_
 rw[tE];refine wpAny_pure (a:=some dx)<|wpAny_bind<|wpAny_pure<|wpAny_bind ?_;refine wpAny_nsSet1 (s:={s with toks:=s.toks+1}) I.ns fun h' jt zz=>?_
 obtain⟨oD,Yr,Ys,JD,JE,JF⟩:=jt.count (PySem.Within.cons name v hw);refine wpAny_bind<|wpAny_lookBehind JD (by rw[JE];exact pastItsLine_dict (zar JF (by rw[zau];omega))) ?_
 exact wpAny_pure<|h _ ⟨(zz.2 _<|Ne.symm I.ne).trans I.obj,jt,I.ne⟩ zz
theorem JG{R:Result->Shared->Prop}{vs:List Value}{kw:List (Str×Value)}(X:K.In s.heap)(hm:makesIn K C=true)
  (hi:PySem.W.findIn K (.ref C) "__init__"=some (some<|.ref f)) (hf:PySem.W.typeIn K (.ref f)=some (.type "function"))
  (h:codeAny (model prog w) (A.under (.builtin "type.__call__" ⟨.ref C::vs,kw⟩)) (.call (.ref f) ⟨.ref (s.heap.objs.size+1)::vs,kw⟩) (PySem.W.InitBack (s.heap.objs.size+1) R)
   {s with heap:=(s.heap.push emptyDict).push (instObj C s.heap.objs.size)}):
  codeAny (model prog w) A (.call (.ref C) ⟨vs,kw⟩) R s:=by
 obtain⟨hh,g,d,t,os⟩:=s;exact PySem.W.make_core (PySem.W.makes_of X hm) (PySem.W.looks_findIn X hi) (fun self=>PySem.W.bind_fn X self hf) (.inl rfl) h
end
def bO(f:Str)(v:V):List (Str×V)->List (Str×V)
 |[]=>[(f,v)]
 |(g,x)::r=>if g=f then (g,v)::r else (g,x)::bO f v r
theorem zA(f g:Str)(v:V):∀fs:List (Str×V),(bO f v fs).lookup g=if g=f then some v else fs.lookup g
 |[]=>by
  show List.lookup g [(f,v)]=_;by_cases h:g=f
  ·have hb:(g==f)=true:=beq_iff_eq.mpr h
   simp only[List.lookup,hb,if_pos h]
  ·have hb:(g==f)=false:=beq_eq_false_iff_ne.mpr h
   simp only[List.lookup,hb,if_neg h]
 |(k,x)::r=>by
  have ih:=zA f g v r;rw[show bO f v ((k,x)::r)=(if k=f then (k,v)::r else (k,x)::bO f v r) from rfl]
  by_cases hk:k=f
  ·rw[if_pos hk];by_cases h:g=k
   ·have hb:(g==k)=true:=beq_iff_eq.mpr h
    simp only[List.lookup,hb,if_pos<|h.trans hk]
   ·have hb:(g==k)=false:=beq_eq_false_iff_ne.mpr h
    simp only[List.lookup,hb,if_neg (fun e:g=f=>h (e.trans hk.symm))]
  ·rw[if_neg hk];by_cases h:g=k
   ·have hb:(g==k)=true:=beq_iff_eq.mpr h
    simp only[List.lookup,hb,if_neg (fun e:g=f=>hk (h.symm.trans e))]
   ·have hb:(g==k)=false:=beq_eq_false_iff_ne.mpr h
    simp only[List.lookup,hb]
    exact ih
theorem t_(f:Str)(v:V):∀fs:List (Str×V),f∈ (bO f v fs).map (·.1)/\∀g,g∈fs.map (·.1)->g∈ (bO f v fs).map (·.1)
 |[]=>⟨by simp[bO],fun g h=>by simp at h⟩
 |(k,x)::r=>by
  obtain⟨i1,i2⟩:=t_ f v r;rw[show bO f v ((k,x)::r)=(if k=f then (k,v)::r else (k,x)::bO f v r) from rfl]
  by_cases hk:k=f
  ·rw[if_pos hk];subst hk;exact⟨by simp,fun g h=>by simpa using h⟩
  ·rw[if_neg hk];refine⟨?_,fun g h=>?_⟩
   ·rw[zaG];exact zam _ i1
   ·rw[zaG] at h⊢;rcases zad.mp h with e|e
    ·exact zad.mpr (.inl e)
    ·exact zam _ (i2 g e)
theorem zB(f:Str)(v:V):∀fs:List (Str×V),(bO f v fs).length<=fs.length+1
 |[]=>by simp[bO]
 |(k,x)::r=>by
  have ih:=zB f v r;rw[show bO f v ((k,x)::r)=(if k=f then (k,v)::r else (k,x)::bO f v r) from rfl]
  by_cases hk:k=f
  ·rw[if_pos hk,zau,zau];omega
  ·rw[if_neg hk,zau,zau];omega
theorem ia.some_of{v:V}{o:Option Value}(r:ia (some v) o):∃u,o=some u/\RelV v u:=by
 cases o with
 |none=>exact(show False from r).elim
 |some u=>exact⟨u,rfl,r⟩
theorem ia.none_of{o:Option Value}(r:ia none o):o=none:=by
 cases o with
 |none=>rfl
 |some u=>exact(show False from r).elim
theorem JH{v:V}{u:Value}(r:RelV v u):handedIn u=true:=by
 cases v with
 |az=>cases (show u=Value.none from r);rfl
 |bl b=>cases (show u=Value.bool b from r);rfl
 |int i=>obtain⟨t,e⟩:=(show ∃t,u=Value.int i t from r);cases e;rfl
 |str x=>obtain⟨t,e⟩:=(show ∃t,u=Value.str x t from r);cases e;rfl
 |dU b=>obtain⟨t,e⟩:=(show ∃t,u=Value.bytes b t from r);cases e;rfl
 |jq b=>obtain⟨t,e⟩:=(show ∃t,u=Value.float b t from r);cases e;rfl
 |ref a=>cases (show u=Value.ref a from r);rfl
 |ty n=>cases (show u=Value.type n from r);rfl
section
variable {P:Program}{w:World}{H H':Hp}{h h':Heap}{a C dx:Addr}{fs HN:List (Str×V)}
theorem nJ(aH:b9 P w H h)(e:H a=some (.ins C dx fs)):∃mA,kr h a dx C mA/\(∀f,ia (fs.lookup f)<|mA f)/\PySem.Within mA (fs.map (·.1))/\fs.length<=1000/\H dx=some (.own a):=by
 obtain⟨d,z,ne,ob,mA,n,r,q⟩:=(show cJ P w H h a (.ins C dx fs) from aH a _ e)
 exact⟨mA,⟨ob,n,ne⟩,r,q,z,d⟩
end
structure dh (K:Frag) (C:Addr):Prop where
 pg:plainGet K C Str.empty=true
 hd:hasDictIn K C=true
 po:plainOver K C=true
 sa:PySem.W.findIn K (.ref C) "__setattr__"=some (some<|.builtin "object.__setattr__")
theorem dh.get{K:Frag}{C:Addr}(c:dh K C)(f:Str):plainGet K C f=true:=c.pg
def eM(K:Frag)(C:Addr)(f:Str):Prop:=PySem.W.findIn K (.ref C) f=some none
theorem eM.JI{K:Frag}{C:Addr}{f:Str}(n:eM K C f):takerIn K C f=some none:=by
 unfold takerIn;rw[show PySem.W.findIn K (.ref C) f=some none from n]
 rfl
structure Meth (K:Frag) (C:Addr) (m:Str) (f:Addr):Prop where
 at_:PySem.W.findIn K (.ref C) m=some (some<|.ref f)
 fn:PySem.W.isFn K (.ref f)=true
 kp:PySem.W.keepIn K (.ref f)=true
section
variable {X:Cx}{pins:List (Addr×Obj)}{σ:St}{H:Hp}{s:Shared}{a C dx:Addr}{fs:List (Str×V)}{f:Str}{v:V}{A:Around}{E:Value->Shared->Prop}
theorem JJ{b:Bool}{Q:Value->Shared->Prop}(I:Inv X pins σ H s)(e:H a=some (.ins C dx fs))(c:dh X.K C)(n:eM X.K C f)(l:fs.lookup f=some v)
  (h:∀u s',Inv X pins σ H s'->RelV v u->Q u s'):wpAny (model X.prog X.w) A (getAttr (.ref a) f b) Q E s:=by
 obtain⟨mA,O,r,_,_,_⟩:=nJ I.aH e;obtain⟨u,hu,ru⟩:=ia.some_of (v:=v) (o:=mA f) (by rw[<-l];exact r f)
 exact get_map I.cb O (c.get f) c.hd n hu (JH ru)<|h u _ (I.tok _) ru
theorem zC{m:Str}{g:Addr}{pl:Sem Bool}{Q:Value×List Value->Shared->Prop}(I:Inv X pins σ H s)(e:H a=some (.ins C dx fs))(c:dh X.K C)(k:Meth X.K C m g)(l:fs.lookup m=none)
  (h:Q (.ref g,[.ref a]) s):wpAny (model X.prog X.w) A (getMethod (.ref a) m pl) Q E s:=by
 obtain⟨mA,O,r,_,_,_⟩:=nJ I.aH e;have hn:mA m=none:=ia.none_of (by rw[<-l];exact r m)
 exact JB I.cb O (c.get m) k.at_ k.fn hn h
theorem JK{y:V}{u:Value}{Q:Unit->Shared->Prop}(I:Inv X pins σ H s)(e:H a=some (.ins C dx fs))(c:dh X.K C)(n:eM X.K C f)(hl:fs.length<1000)(ry:RelV y u)
  (h:∀s',Inv X pins σ (upd H a<|.ins C dx<|bO f y fs) s'->Q () s'):wpAny (model X.prog X.w) A (setAttr (.ref a) f u) Q E s:=by
 obtain⟨mA,O,r,wi,_,ho⟩:=nJ I.aH e;have hz:(fs.map (·.1)).length<=sizeLine:=by rw[zai,sizeLine_eq];omega
 refine JC I.cb O c.sa c.po n.JI c.hd wi hz fun h' O' sb=>h _ ?_;have hd:∃o,h'.get? dx=some o:=let ⟨o,_,_,e',_⟩:=O'.ns;⟨o,e'⟩;refine I.write (x:=a) (e:=dx) (by rw[e];exact True.intro) (.inr ho) (fun b q hb z=>(sb.2 b hb).trans z) hd ?_
 refine⟨by rw[aI O.ne];exact ho,?_,O.ne,O'.obj,_,O'.ns,fun g=>?_,fun g hg=>?_⟩
 ·have:=zB f y fs;omega
 ·show ia ((bO f y fs).lookup g) (if g=f then some u else mA g)
  rw[zA];by_cases q:g=f
  ·rw[if_pos q,if_pos q];exact ry
  ·rw[if_neg q,if_neg q];exact r g
 ·by_cases q:g=f
  ·rw[q];exact(t_ f y fs).1
  ·refine(t_ f y fs).2 g (wi g fun z=>hg ?_);show(if g=f then some u else mA g)=none
   rw[if_neg q];exact z
theorem Inv.made(I:Inv X pins σ H s):Inv X pins σ (upd (upd H s.heap.objs.size<|.own<|s.heap.objs.size+1) (s.heap.objs.size+1)<|.ins C s.heap.objs.size [])
  {s with heap:=(s.heap.push emptyDict).push (instObj C s.heap.objs.size)}:=by
 have e1:(s.heap.push emptyDict).get? s.heap.objs.size=some emptyDict:=Heap.get?_push_size s.heap rfl;have e2:((s.heap.push emptyDict).push<|instObj C s.heap.objs.size).get? (s.heap.objs.size+1)=some (instObj C s.heap.objs.size):=by
  have:=Heap.get?_push_size (s.heap.push emptyDict) (o:=instObj C s.heap.objs.size) rfl
  rwa [Heap.size_push] at this
 have e3:(s.heap.push emptyDict).Ns s.heap.objs.size (fun _=>none):=⟨emptyDict,#[],_,e1,rfl,(fun e he=>absurd he (by simp)),fun _=>rfl⟩
 have I1:=I.laid (a:=s.heap.objs.size) (o:=.own (s.heap.objs.size+1)) (h':=s.heap.push emptyDict) (t':=s.toks) (fun b u q=>Heap.get?_push_of_some _ q) (zqR _) ⟨_,e1⟩;refine I1.laid (a:=s.heap.objs.size+1) (o:=.ins C s.heap.objs.size []) (t':=s.toks) (fun b u q=>Heap.get?_push_of_some _ q) (Nat.le_of_eq<|Heap.size_push _ _) ?_;have ne:s.heap.objs.size≠s.heap.objs.size+1:=zal (zbi _);refine⟨by rw[aI ne,aG],zqZ _,ne,e2,fun _=>none,(Heap.Ns1.of_empty e3).at fun o q=>Heap.get?_push_of_some _ q,fun _=>True.intro,fun y hy=>absurd rfl hy⟩
theorem JL{prog:Program}{w:World}{env:Env}{e:Expr}{f:Str}{pos:Pos}{s:Shared}{Q:Value->Shared->Prop}(hb:attributeBase e f env (eval e env)=eval e env)
  (h:wpAny (model prog w) A (eval e env) (fun o s₁=>wpAny (model prog w) A (getAttr o f true) Q E s₁) E s):wpAny (model prog w) A (eval (.Attribute e f pos) env) Q E s:=
 Attribute_any_ h (by rw[arm_eval_Attribute,hb])
end
def qd(K:Frag)(ta:TE)(f:Str):TE:=fun σ H Q=>ta σ H fun x H1=>∃a C dx fs v,x=.ref a/\H1 a=some (.ins C dx fs)/\dh K C/\eM K C f/\fs.lookup f=some v/\Q v H1
def ua(K:Frag)(ta tv:TE)(f:Str):TS:=fun D σ H=>tv σ H fun y H1=>ta σ H1 fun x H2=>∃a C dx fs,x=.ref a/\H2 a=some (.ins C dx fs)/\dh K C/\eM K C f/\fs.length<1000/\
 D.nx σ (upd H2 a<|.ins C dx<|bO f y fs)
section
variable {X:Cx}{o e value:Expr}{f:Str}{pos pos' qe:Pos}{ta tv:TE}
theorem JM(he:PE X e ta)(hb:attributeBase e f X.env (eval e X.env)=eval e X.env):PE X (.Attribute e f pos) (qd X.K ta f):=by
 intro pins s σ H Q I h;refine JL hb<|aR (he pins s σ H _ I h) fun u s1 ⟨x,H1,I1,rx,a,C,dx,fs,v,ex,ea,c,n,l,q⟩=>?_;subst ex;obtain rfl:u=Value.ref a:=rx;exact JJ I1 ea c n l fun u' s2 I2 ru=>⟨v,H1,I2,ru,q⟩
theorem JN(ha:PE X o ta)(hv:PE X value tv)(hs:swapsWith value (some<|.Attribute o f pos') pos.line X.env=pure false):PS X (.Assign [.Attribute o f pos'] value pos) (ua X.K ta tv f):=by
 intro pins s σ H D I h;refine plainObj_wpAny_Assign_Attribute (aR (hv pins s σ H _ I h) fun u s1 ⟨y,H1,I1,ry,q⟩=>aR (ha pins s1 σ H1 _ I1 q) fun ov s2 ⟨x,H2,I2,rx,a,C,dx,fs,ex,ea,c,n,l,q2⟩=>?_) hs;subst ex;obtain rfl:ov=Value.ref a:=rx;exact JK I2 ea c n l ry fun s3 I3=>⟨σ,_,I3,q2⟩
end
section
variable {X:Cx}{pins:List (Addr×Obj)}{σ:St}{H:Hp}{s:Shared}{A:Around}{E:Value->Shared->Prop}{Q:Value->Shared->Prop}{c:Value}{b:Bool}
inductive fM (K:Frag) (H:Hp):V->Value->Prop where
 |az:fM K H .az (.type "NoneType")
 |bl (x:Bool):fM K H (.bl x) (.type "bool")
 |int (i:Int):fM K H (.int i) (.type "int")
 |str (x:Str):fM K H (.str x) (.type "str")
 |jq (x:UInt64):fM K H (.jq x) (.type "float")
 |lst {a:Addr}{xs:List V} (e:H a=some (.lst xs)):fM K H (.ref a) (.type "list")
 |bJ {a:Addr}{o:Obj}{xs:List V} (e:H a=some (.bJ o<|.lst xs)):fM K H (.ref a) (.type "list")
 |tup {a:Addr}{xs:List V} (e:H a=some (.tup xs)):fM K H (.ref a) (.type "tuple")
 |dK {a:Addr}{aL:List (Key×V)} (e:H a=some (.dK aL)):fM K H (.ref a) (.type "dict")
 |dT {a:Addr}{aL:List (List Key×V)} (e:H a=some (.dT aL)):fM K H (.ref a) (.type "dict")
 |ins {a C dx:Addr}{fs:List (Str×V)} (e:H a=some (.ins C dx fs)) (cl:dh K C) (ha:PySem.W.findIn K (.ref C) "__class__"=some (some<|.builtin "object.__class__"))
   (hn:specialIn K (.builtin "object.__class__") "__get__"=some (some<|.builtin "getset_descriptor.__get__")) (nK:takesIn K (.builtin "object.__class__")=some true)
   (hm:PySem.W.mroIn K C (.type "object")=some true):fM K H (.ref a) (.ref C)
theorem ij{x:V}{u t:Value}(I:Inv X pins σ H s)(rx:RelV x u)(ty:fM X.K H x t)(e:kitOne X.K t c=some b)(h:∀tk,Q (.bool b) {s with toks:=tk}):
  wpAny (model X.prog X.w) A (call (.builtin "isinstance") [u,c]) Q E s:=by
 cases ty with
 |az=>cases (show u=Value.none from rx);exact kia_one PySem.W.kitx_none I.cb True.intro e (fun z=>nomatch z) h
 |bl y=>cases (show u=Value.bool y from rx);exact kia_one PySem.W.kitx_bool I.cb True.intro e (fun z=>nomatch z) h
 |int i=>obtain⟨t,q⟩:=(show ∃t,u=Value.int i t from rx);cases q;exact kia_one PySem.W.kitx_int I.cb True.intro e (fun z=>nomatch z) h
 |str y=>obtain⟨t,q⟩:=(show ∃t,u=Value.str y t from rx);cases q;exact kia_one PySem.W.kitx_str I.cb True.intro e (fun z=>nomatch z) h
 |jq y=>obtain⟨t,q⟩:=(show ∃t,u=Value.float y t from rx);cases q;exact kia_one PySem.W.kitx_float I.cb True.intro e (fun z=>nomatch z) h
 | @lst a xs ea=>
  cases (show u=Value.ref a from rx)
  obtain⟨_,_,n,_,h1⟩:=(show cJ X.prog X.w H s.heap a (.lst xs) from I.aH a _ ea)
  exact kia_one kitx_list I.cb ⟨_,h1,rfl⟩ e (fun z=>nomatch z) h
 | @bJ a ob xs ea=>
  cases (show u=Value.ref a from rx)
  obtain⟨_,_,_,n,_,h1⟩:=(show cJ X.prog X.w H s.heap a (.bJ ob<|.lst xs) from I.aH a _ ea)
  exact kia_one kitx_list I.cb ⟨_,h1,rfl⟩ e (fun z=>nomatch z) h
 | @tup a xs ea=>
  cases (show u=Value.ref a from rx)
  obtain⟨_,_,_,p⟩:=(show cJ X.prog X.w H s.heap a (.tup xs) from I.aH a _ ea)
  obtain⟨o,h1,h2,_⟩:=p;exact kia_one PySem.W.kitx_tuple I.cb ⟨o,h1,h2⟩ e (fun z=>nomatch z) h
 | @dK a aL ea=>
  cases (show u=Value.ref a from rx)
  obtain⟨_,_,vs,_,p⟩:=(show cJ X.prog X.w H s.heap a (.dK aL) from I.aH a _ ea)
  obtain⟨o,es,ep,h1,h2,_⟩:=p;exact kia_one kitx_dict I.cb ⟨o,h1,h2.1⟩ e (fun z=>nomatch z) h
 | @dT a aL ea=>
  cases (show u=Value.ref a from rx)
  obtain⟨_,_,xs,_,o,es,ep,h1,h2,_⟩:=(show cJ X.prog X.w H s.heap a (.dT aL) from I.aH a _ ea)
  exact kia_one kitx_dict I.cb ⟨o,h1,h2.1⟩ e (fun z=>nomatch z) h
 | @ins a C dx fs ea cl ha hn nK hm=>
  cases (show u=Value.ref a from rx)
  obtain⟨mA,O,_⟩:=nJ I.aH ea;obtain⟨od,J,_⟩:=O.look;exact kia_one (PySem.W.kitx_own (cl.get _) cl.hd ha hn nK hm) I.cb J e (fun z=>nomatch z) h
end
structure cj (k:Nat) (A:Around):Prop where
 hd:A.handled=none
 dp:A.depth+3*k+5<recursionLimit
 un:A.units+16*k+200<cLine
theorem cj.mono{j k:Nat}{A:Around}(r:cj k A)(h:j<=k):cj j A:=⟨r.hd,by have:=r.dp;omega,by have:=r.un;omega⟩
theorem cj.deeper{k:Nat}{A:Around}(r:cj (k+1) A)(env:Env):cj k (A.deeper env):=
 ⟨r.hd,by have:=r.dp;show A.depth+1+3*k+5<_;omega,by have:=r.un;show A.units+3+16*k+200<_;omega⟩
theorem JO{A:Around}{C:Addr}{us:List Value}{kw:List (Str×Value)}:(A.under<|.builtin "type.__call__" ⟨.ref C::us,kw⟩).depth=A.depth+1:=by
 first|rfl|simp[Around.under,Code.weight,Code.isCreation,Code.isGuard,Code.isCaller,Code.frames,Code.isFrame,guardIds]
theorem JP{A:Around}{C:Addr}{us:List Value}{kw:List (Str×Value)}:(A.under<|.builtin "type.__call__" ⟨.ref C::us,kw⟩).units=A.units+1:=by
 first|rfl|simp[Around.under,Code.cUnits,Code.frames,Code.isFrame]
theorem cj.make{k:Nat}{A:Around}(r:cj (k+1) A)(C:Addr)(us:List Value)(kw:List (Str×Value)):cj k (A.under<|.builtin "type.__call__" ⟨.ref C::us,kw⟩):=
 ⟨r.hd,by have:=r.dp;rw[JO];omega,by have:=r.un;rw[JP];omega⟩
theorem cj.depth{k:Nat}{A:Around}(r:cj k A):A.depth<recursionLimit:=by have:=r.dp;omega
theorem cj.units{k:Nat}{A:Around}(r:cj k A):A.units+64<cLine:=by have:=r.un;omega
def ip:TA:=fun _ H Q=>Q [] H
def dc(ta:TE)(tr:TA):TA:=fun σ H Q=>ta σ H fun x H1=>tr σ H1 fun xs H2=>Q (x::xs) H2
section
variable {X:Cx}{e:Expr}{es:List Expr}{te:TE}{t:TA}{pos:Pos}
theorem qf:PA X [] ip:=fun _ _ _ _ H Q I h=>Calls.spliced_nil ⟨[],H,I,.nil,h⟩
theorem nM(ha:PE X e te)(hr:PA X es t)(hs:starEach (e::es) X.env=(false,eval e X.env)::starEach es X.env:=by rfl):PA X (e::es) (dc te t):=by
 intro pos pins s σ H Q I h;rw[hs];show wpAny _ _ (spliced ((false,eval e X.env)::backTo pos (starEach es X.env))) _ _ s;refine Calls.spliced_cons<|aR (ha pins s σ H _ I h) fun u s1 ⟨x,H1,I1,r1,q1⟩=>?_;exact aR (hr pos pins s1 σ H1 _ I1 q1) fun us s2 ⟨xs,H2,I2,r2,q2⟩=>⟨x::xs,H2,I2,.cons r1 r2,q2⟩
def zD(t:TA):TE:=fun σ H Q=>t σ H fun xs H1=>xs.length<=sizeLine/\∀p,H1 p=none->Q (.ref p) (upd H1 p<|.tup xs)
def zE(t:TA):TE:=fun σ H Q=>t σ H fun xs H1=>xs.length<=sizeLine/\∀p,H1 p=none->Q (.ref p) (upd H1 p<|.lst xs)
theorem JQ{x1}(h:PA X es t):PE X (.Tuple es x1 pos) (zD t):=by
 intro pins s σ H Q I hq;refine wpAny_Tuple_spliced<|aR (h pos pins s σ H _ I hq) fun us s1 ⟨xs,H1,I1,r,z,q⟩=>⟨by rw[<-r.length];exact z,?_⟩
 have hf:H1 s1.heap.objs.size=none:=I1.aH.fresh (zqR _);refine⟨.ref s1.heap.objs.size,upd H1 s1.heap.objs.size<|.tup xs,I1.laid (t':=s1.toks) (fun b u e=>Heap.get?_push_of_some _ e) (zqR _) ?_,rfl,q _ hf⟩;exact⟨z,us,r,⟨_,Heap.get?_push_size _ rfl,rfl,_,rfl⟩⟩
theorem JR(h:PA X es t):PE X (.List es pos) (zE t):=by
 intro pins s σ H Q I hq;refine wpAny_List_spliced<|aR (h pos pins s σ H _ I hq) fun us s1 ⟨xs,H1,I1,r,z,q⟩=>⟨by rw[<-r.length];exact z,?_⟩
 have hf:H1 s1.heap.objs.size=none:=I1.aH.fresh (zqR _);refine⟨.ref s1.heap.objs.size,upd H1 s1.heap.objs.size<|.lst xs,I1.laid (t':=s1.toks) (fun b u e=>Heap.get?_push_of_some _ e) (zqR _) ?_,rfl,q _ hf⟩;exact⟨z,us,0,r,Heap.get?_push_size _ rfl⟩
end
abbrev Sp:=List V->Hp->VK->XK->Prop
abbrev bP:=List Env->Hp->Shared->XK->Value->Shared->Prop
structure ju (P:Program) (w:World) (K:Frag) (mg:Str->Option Value) (base:Heap) (A:Around) (outer:List Env) (s:Shared) (H:Hp):Prop where
 frames:A.frames=some outer
 mod:Mod K mg base
 bs:∀b o,base.get? b=some o->s.heap.get? b=some o/\H b=none
 mh:base.objs.size<=s.heap.objs.size
 ic:s.heap.FunFrames base outer
 nF:∀b∈bR outer,H b=none
 aH:b9 P w H s.heap
 bare:AllBare s.gens
def CE(outer:List Env)(P:Program)(w:World)(H:Hp)(s:Shared)(Q:VK)(u:Value)(s':Shared):Prop:=
 ∃v H',s'.os=s.os/\AllBare s'.gens/\Un (bR outer) [] H H' s.heap s'.heap/\b9 P w H' s'.heap/\RelV v u/\Q v H'
def CR(CX:bP)(outer:List Env)(P:Program)(w:World)(H:Hp)(s:Shared)(Q:VK)(E:XK)(r:Result)(s':Shared):Prop:=
 match r with
 |.ok (.ret u)=>CE outer P w H s Q u s'
 |.ok _=>False
 |.error e=>CX outer H s E e s'
structure b7 (P:Program) (w:World) (K:Frag) (mg:Str->Option Value) (base:Heap) (CX:bP) (k:Nat) (f:Addr) (fd:FuncData) (ps:List Str) (sp:Sp):Prop where
 len:∀vs H Q E,sp vs H Q E->vs.length=ps.length
 run:∀(A:Around) (outer:List Env) (s:Shared) (H:Hp) (args:Args) (us:List Value) (vs:List V) (Q:VK) (E:XK),cj k A->ju P w K mg base A outer s H->BindsTo s fd args (ps.zip us)->Vals vs us->sp vs H Q E->
  codeAny (model P w) A (.call (.ref f) args) (CR CX outer P w H s Q E) s
theorem b7.mono{P:Program}{w:World}{K:Frag}{mg:Str->Option Value}{base:Heap}{CX:bP}{j k:Nat}{f:Addr}{fd:FuncData}{ps:List Str}{sp:Sp}(F:b7 P w K mg base CX j f fd ps sp)(h:j<=k):
  b7 P w K mg base CX k f fd ps sp:=⟨F.len,fun A outer s H args us vs Q E hr=>F.run A outer s H args us vs Q E<|hr.mono h⟩
theorem ju.make{P:Program}{w:World}{K:Frag}{mg:Str->Option Value}{base:Heap}{A:Around}{outer:List Env}{s:Shared}{H:Hp}(e:ju P w K mg base A outer s H)(C:Addr)(us:List Value)(kw:List (Str×Value)):
  ju P w K mg base (A.under<|.builtin "type.__call__" ⟨.ref C::us,kw⟩) outer s H:=⟨by first|exact e.frames| (simpa[Around.under,Code.envs,Code.isFrame,pushEnvs] using e.frames),e.mod,e.bs,e.mh,e.ic,e.nF,e.aH,e.bare⟩
section
variable {X:Cx}{pins:List (Addr×Obj)}{σ:St}{H:Hp}{s s':Shared}
theorem Inv.zF(I:Inv X pins σ H s):ju X.prog X.w X.K X.mg X.base X.A X.stack s H:=
 ⟨I.ok.frames,I.ok.mod,I.bs,zar I.ok.mh I.sz,I.stack,I.pP,I.aH,I.bare⟩
theorem Inv.after{Q:VK}{u:Value}(I:Inv X pins σ H s)(h:CE X.stack X.prog X.w H s Q u s'):EP X pins σ Q u s':=by
 obtain⟨v,H',os,bare,un,aH,r,q⟩:=h;obtain⟨hh,g,d,t,JS⟩:=s';obtain rfl:JS=s.os:=os;exact⟨v,H',I.call (h':=hh) (g':=g) (d':=d) (t':=t) (ch:=[]) un aH bare<|fun b z=>absurd z (by simp),r,q⟩
end
def ub(sp:Sp)(di:List V)(E:XK)(t:TA):TE:=fun σ H Q=>t σ H fun vs H1=>sp (vs++di) H1 Q E
def ks(C:Addr)(m:Str)(sp:Sp)(di:List V)(E:XK)(ta:TE)(t:TA):TE:=fun σ H Q=>ta σ H fun x H1=>∃a dx fs,x=.ref a/\H1 a=some (.ins C dx fs)/\fs.lookup m=none/\
 t σ H1 fun vs H2=>sp (x::(vs++di)) H2 Q E
def nN(C:Addr)(sp:Sp)(di:List V)(E:XK)(t:TA):TE:=fun σ H Q=>t σ H fun vs H1=>∀x dx,H1 x=none->H1 dx=none->dx≠x->
 sp (.ref x::(vs++di)) (upd (upd H1 dx<|.own x) x<|.ins C dx []) (fun v H2=>v=.az/\Q (.ref x) H2) E
def Binds(K:Frag)(fd:FuncData)(ps:List Str)(ds:List Value):Prop:=
 ∀(s:Shared) (us:List Value),K.In s.heap->(us++ds).length=ps.length->BindsTo s fd ⟨us,[]⟩ (ps.zip<|us++ds)
theorem Binds.all{K:Frag}{fd:FuncData}{ps:List Str}(h:∀us:List Value,us.length=ps.length->bindArgs fd ⟨us,[]⟩=pure (ps.zip us)):Binds K fd ps []:=fun s us _ hl=>by
 rw[zae] at hl⊢;exact .of_eq<|h us hl
def Passes(CX:bP)(X:Cx)(E:XK):Prop:= ∀(pins:List (Addr×Obj)) (σ:St) (H:Hp) (s:Shared) (e:Value) (s':Shared),Inv X pins σ H s->CX X.stack H s E e s'->X.xe e s'
section
variable {X:Cx}{CX:bP}{k:Nat}{f C:Addr}{fd:FuncData}{ps:List Str}{sp:Sp}{di:List V}{ds:List Value}{E:XK}{x m:Str}{p pos apos:Pos}{e o:Expr}{es:List Expr}{ta:TE}{t:TA}
theorem uc{pins:List (Addr×Obj)}{σ:St}{H:Hp}{s:Shared}{Q:VK}{us:List Value}{vs:List V}(F:b7 X.prog X.w X.K X.mg X.base CX k f fd ps sp)(hr:cj k X.A)(hb:Binds X.K fd ps ds)(hd:Vals di ds)(hx:Passes CX X E)
  (I:Inv X pins σ H s) (r:Vals vs us) (h:sp (vs++di) H Q E):wpAny (model X.prog X.w) X.A (call (.ref f) us) (EP X pins σ Q) X.xe s:=by
 have r2:Vals (vs++di) (us++ds):=r.append hd;have hl:(us++ds).length=ps.length:=by rw[<-r2.length];exact F.len _ _ _ _ h
 refine wpAny_call<|codeAny_mono (F.run X.A X.stack s H ⟨us,[]⟩ (us++ds) (vs++di) Q E hr I.zF (hb s us I.cb hl) r2 h) fun r s' hq=>?_;cases r with
 |error e=>exact hx pins σ H s e s' I hq
 |ok fl=>
  cases fl with
  |ret u=>exact I.after hq
  |next=>exact False.elim hq
  |brk=>exact False.elim hq
  |cont=>exact False.elim hq
theorem JT(F:b7 X.prog X.w X.K X.mg X.base CX k f fd ps sp)(hr:cj k X.A)(hg:Gl X x)(hm:X.mg x=some (.ref f))(hk:PySem.W.keepIn X.K (.ref f)=true)(hb:Binds X.K fd ps ds)(hd:Vals di ds)(hx:Passes CX X E)
  (ha:PA X (e::es) t) (i5:(x==("__debug__":Str))=false:=by decide) (he:starEach (e::es) X.env=(false,eval e X.env)::starEach es X.env:=by rfl) (gO:(backTo pos<|starEach es X.env).any (·.1)=false:=by rfl):
  PE X (.Call (.Name x p) (e::es) [] pos) (ub sp di E t):=by
 intro pins s σ H Q I h;refine wpAny_Call_Name_kw<|pS I hg hm ?_ i5;refine callWith_K (h₀:=X.base) I.ok.mod.nC hk (aR (ha pos pins s σ H _ I h) fun us s1 ⟨vs,H1,I1,r,q⟩=>⟨I1.cb,?_⟩) he gO;exact uc F hr hb hd hx I1 r q
structure Mk (K:Frag) (C f:Addr):Prop where
 makes:makesIn K C=true
 init:PySem.W.findIn K (.ref C) "__init__"=some (some<|.ref f)
 fn:PySem.W.isFn K (.ref f)=true
 kp:PySem.W.keepIn K (.ref C)=true
theorem zG{pins:List (Addr×Obj)}{σ:St}{H:Hp}{s:Shared}{Q:VK}{us:List Value}{vs:List V}(M:Mk X.K C f)(F:b7 X.prog X.w X.K X.mg X.base CX k f fd ps sp)(hr:cj (k+1) X.A)(hb:Binds X.K fd ps ds)(hd:Vals di ds)
  (hx:Passes CX X E) (I:Inv X pins σ H s) (r:Vals vs us)
  (h:∀x dx,H x=none->H dx=none->dx≠x->sp (.ref x::(vs++di)) (upd (upd H dx<|.own x) x<|.ins C dx []) (fun v H2=>v=.az/\Q (.ref x) H2) E):
  wpAny (model X.prog X.w) X.A (call (.ref C) us) (EP X pins σ Q) X.xe s:=by
 have hq:=h (s.heap.objs.size+1) s.heap.objs.size (I.aH.fresh<|Nat.le_succ _) (I.aH.fresh<|zqR _) (zal<|zbi _);have I2:=Inv.made (C:=C) I;have r2:Vals (V.ref (s.heap.objs.size+1)::(vs++di)) (Value.ref (s.heap.objs.size+1)::(us++ds)):=.cons rfl (r.append hd);have hl:(Value.ref (s.heap.objs.size+1)::us++ds).length=ps.length:=by
  have e:=r2.length;rw[F.len _ _ _ _ hq] at e;exact e.symm
 refine wpAny_call (JG (f:=f) I.cb M.makes M.init (beq_iff_eq.mp M.fn) (codeAny_mono (F.run _ X.stack _ _ ⟨Value.ref (s.heap.objs.size+1)::us,[]⟩ (Value.ref (s.heap.objs.size+1)::(us++ds)) _ _ E (hr.make C us [])
  (I2.zF.make C us []) (hb _ (Value.ref (s.heap.objs.size+1)::us) I2.cb hl) r2 hq) fun r s' nO=>?_))
 cases r with
 |error e=>exact hx pins σ _ _ e s' I2 nO
 |ok fl=>
  cases fl with
  |ret u=>
   obtain⟨v,H',I3,rv,ev,q3⟩:=I2.after nO;subst ev;exact⟨rv,⟨V.ref<|s.heap.objs.size+1,H',I3,rfl,q3⟩⟩
  |next=>exact False.elim nO
  |brk=>exact False.elim nO
  |cont=>exact False.elim nO
theorem JU(M:Mk X.K C f)(F:b7 X.prog X.w X.K X.mg X.base CX k f fd ps sp)(hr:cj (k+1) X.A)(hg:Gl X x)(hm:X.mg x=some (.ref C))(hb:Binds X.K fd ps ds)(hd:Vals di ds)(hx:Passes CX X E)
  (ha:PA X (e::es) t) (i5:(x==("__debug__":Str))=false:=by decide) (he:starEach (e::es) X.env=(false,eval e X.env)::starEach es X.env:=by rfl) (gO:(backTo pos<|starEach es X.env).any (·.1)=false:=by rfl):
  PE X (.Call (.Name x p) (e::es) [] pos) (nN C sp di E t):=by
 intro pins s σ H Q I h;refine wpAny_Call_Name_kw<|pS I hg hm ?_ i5;refine callWith_K (h₀:=X.base) I.ok.mod.nC M.kp (aR (ha pos pins s σ H _ I h) fun us s1 ⟨vs,H1,I1,r,q⟩=>⟨I1.cb,?_⟩) he gO;exact zG M F hr hb hd hx I1 r q
theorem JV(M:Mk X.K C f)(F:b7 X.prog X.w X.K X.mg X.base CX k f fd ps sp)(hr:cj (k+1) X.A)(hg:Gl X x)(hm:X.mg x=some (.ref C))(hb:Binds X.K fd ps ds)(hd:Vals di ds)(hx:Passes CX X E)
  (i5:(x==("__debug__":Str))=false:=by decide):PE X (.Call (.Name x p) [] [] pos) (nN C sp di E ip):=by
 intro pins s σ H Q I h;refine wpAny_Call_Name_kw<|pS I hg hm ?_ i5;exact callWith_K0 I.cb M.kp<|zG (us:=[]) M F hr hb hd hx I .nil h
end
structure ku (N P:List Str) (sc:Scope):Prop where
 kind:sc.kind=.function
 co:sc.isCoroutine=false
 gen:sc.isGenerator=false
 nd:N.Nodup
 pre:N.take P.length=P
 par:∀x∈P,sc.names.lookup x=some .local\/sc.names.lookup x=some .cell
 JW:∀y∈sc.names,y.2≠ .free
theorem zH{kindOf:Str->Option NameKind}{x:Str}:∀{binds:List (Str×Value)}{m:Str->Option Value},(∀v,(x,v)∉binds)->bindL kindOf binds m x=m x
 |[],_,_=>rfl
 |(n,v)::r,m,h=>by
  unfold bindL;rw[zH fun w hw=>h w (zam _ hw)]
  split
  ·have:x≠n:=by rintro rfl;exact h v zan
   simp[this]
  ·rfl
theorem zI{kindOf:Str->Option NameKind}{x:Str}:∀{binds:List (Str×Value)}{m:Str->Option Value},(∀v,(x,v)∉binds)->bindC kindOf binds m x=m x
 |[],_,_=>rfl
 |(n,v)::r,m,h=>by
  unfold bindC;rw[zI fun w hw=>h w (zam _ hw)]
  split
  ·rfl
  ·have:x≠n:=by rintro rfl;exact h v zan
   simp[this]
theorem zJ{kindOf:Str->Option NameKind}{x:Str}{v:Value}:∀{P:List Str}{vs:List Value}{i:Nat}{m:Str->Option Value},P.Nodup->P[i]?=some x->vs[i]?=some v->kindOf x=some .local->
  bindL kindOf (P.zip vs) m x=some v
 |[],_,_,_,_,h,_,_=>by simp at h
 |_::_,[],_,_,_,_,h,_=>by simp at h
 |p::P,w::vs,0,m,nd,h1,h2,hk=>by
  simp at h1 h2;subst h1;subst h2
  show bindL kindOf ((p,w)::P.zip vs) m p=_;unfold bindL;rw[zH fun v hv=>(zbj.mp nd).1 (List.of_mem_zip hv).1,if_pos hk]
  simp
 |p::P,w::vs,i+1,m,nd,h1,h2,hk=>by
  show bindL kindOf ((p,w)::P.zip vs) m x=_;unfold bindL;exact zJ (i:=i) (zbj.mp nd).2 (by simpa using h1) (by simpa using h2) hk
theorem zK{kindOf:Str->Option NameKind}{x:Str}{v:Value}:∀{P:List Str}{vs:List Value}{i:Nat}{m:Str->Option Value},P.Nodup->P[i]?=some x->vs[i]?=some v->kindOf x≠some .local->
  bindC kindOf (P.zip vs) m x=some v
 |[],_,_,_,_,h,_,_=>by simp at h
 |_::_,[],_,_,_,_,h,_=>by simp at h
 |p::P,w::vs,0,m,nd,h1,h2,hk=>by
  simp at h1 h2;subst h1;subst h2
  show bindC kindOf ((p,w)::P.zip vs) m p=_;unfold bindC;rw[zI fun v hv=>(zbj.mp nd).1 (List.of_mem_zip hv).1,if_neg hk]
  simp
 |p::P,w::vs,i+1,m,nd,h1,h2,hk=>by
  show bindC kindOf ((p,w)::P.zip vs) m x=_;unfold bindC;exact zK (i:=i) (zbj.mp nd).2 (by simpa using h1) (by simpa using h2) hk
def start(N:List Str)(vs:List V):St:=vs.map some++List.replicate (N.length - vs.length) none
def ky(CX:bP)(P:Program)(w:World)(K:Frag)(mg:Str->Option Value)(base:Heap)(N:List Str)(qual:Str)(scope:Scope)(f:Addr)(cd:Value)(A:Around)(outer:List Env)(s:Shared)(H:Hp)(E:XK):Cx where
 prog:=P
 w:=w
 K:=K
 mg:=mg
 base:=base
 A:=A.deeper (envOfC qual scope s.heap.objs.size f cd)
 N:=N
 s₀:=s
 H₀:=H
 env:=envOfC qual scope s.heap.objs.size f cd
 outer:=outer
 stack:=envOfC qual scope s.heap.objs.size f cd::outer
 ex:=[]
 calm:=true
 fn:=fun _=>true
 pn:=[]
 xe:=fun e s'=>wpAny (model P w) (A.deeper<|envOfC qual scope s.heap.objs.size f cd) (leaving (envOfC qual scope s.heap.objs.size f cd) e) (fun _ i6=>CX outer H s E e i6) (fun e' i6=>CX outer H s E e' i6) s'
theorem zL{sc:Scope}{n:Nat}{x:Str}(h:sc.names.lookup x=some .cell):∃c,(cellsFrom n sc.names []).lookup x=some c:=by
 have q:=cellsFrom_some sc.names n [] (.inl h);exact Option.isSome_iff_exists.mp q
theorem JX{CX:bP}{P:Program}{w:World}{K:Frag}{mg:Str->Option Value}{base:Heap}{N ps:List Str}{qual:Str}{scope:Scope}{f:Addr}{cd:Value}{A:Around}{outer:List Env}{s s1:Shared}{H:Hp}{E:XK}{us:List Value}{vs:List V}
  (S:ku N ps scope) (hd:A.handled=none) (e0:ju P w K mg base A outer s H) (hl:vs.length=ps.length) (r:Vals vs us)
  (x:InCallC s s.heap.objs.size (bindL (envOfC qual scope s.heap.objs.size f cd).kindOf (ps.zip us) fun _=>none) (cellsFrom (s.heap.objs.size+1) scope.names []) (bindC (envOfC qual scope s.heap.objs.size f cd).kindOf (ps.zip us) fun _=>none) s1):
  Inv (ky CX P w K mg base N qual scope f cd A outer s H E) [] (start N vs) H s1:=by
 have gO:ps.length<=N.length:=by have:=congrArg List.length S.pre;rw[zaj] at this;omega
 obtain⟨h1,tk,rfl,hk⟩:=x.done;have nP:∀b:Addr,b∉ (ky CX P w K mg base N qual scope f cd A outer s H E).ex:=fun b z=>absurd (show b∈ ([]:List Addr) from z) (by simp)
 refine⟨⟨e0.mod,S.kind,rfl,rfl,zqR _,fun y z c h1 h2=>?_,fun y hy=>?_,fun y c _ h=>?_,fun _=>hd,Around.frames_deeper e0.frames,.inr ⟨rfl,rfl⟩,fun b z=>absurd z (nP b),e0.bs,e0.mh,fun b _ _=>nP b,fun b z=>absurd z (nP b),e0.ic,e0.nF⟩,
  rfl,e0.bare,Un.kept hk,⟨_,x.toInCall.ns,fun i y v h1 h2 h3=>?_⟩,fun y c h=>⟨_,x.cell y c h⟩,e0.aH.fresh (zqR _),fun y c h=>?_,fun p hp=>absurd (show p∈ ([]:List (Addr×Obj)) from hp) (by simp),e0.aH.kept hk,?_⟩
 ·exact name_of_addr x.apart (PySem.mem_of_lookup h1) (PySem.mem_of_lookup h2)
 ·have hy:scope.names.lookup y=some .cell\/scope.names.lookup y=some .free:=hy;rcases hy with hy|hy
  ·exact zL hy
  ·exact absurd rfl (S.JW _<|PySem.mem_of_lookup hy)
 ·exact Nat.le_of_lt (x.above y c<|PySem.mem_of_lookup h)
 ·have hi:i<vs.length:=by
   unfold start at h2;by_cases hi:i<vs.length
   ·exact hi
   ·rw[zaH (by simpa using hi)] at h2
    rw[List.getElem?_replicate] at h2
    split at h2<;>cases h2
  have ha:vs[i]?=some v:=by
   unfold start at h2;rw[zaI (by simpa using hi),zag] at h2
   cases e:vs[i]? with
   |none=>rw[e] at h2;cases h2
   |some a=>rw[e] at h2;cases h2;rfl
  obtain⟨u,hu,rv⟩:=r.get ha;have hp:ps[i]?=some y:=by
   rw[<-S.pre,List.getElem?_take_of_lt (by omega)];exact h1
  have zM:ps.Nodup:=by rw[<-S.pre];exact S.nd.sublist (List.take_sublist _ _)
  refine⟨u,rv,?_⟩;rcases S.par y (zap hp) with k|k
  ·exact .inl ⟨k,zJ zM hp hu k⟩
  ·obtain⟨c,e⟩:=zL (n:=s.heap.objs.size+1) k;refine .inr ⟨.inl k,c,e,?_⟩;have q:=x.cell y c e;rw[zK zM hp hu (by show scope.names.lookup y≠_;rw[k];decide)] at q
   exact q
 ·exact e0.aH.fresh (Nat.le_of_lt<|x.above y c<|PySem.mem_of_lookup h)
 ·unfold start;show _=N.length;rw[zqA,zai,List.length_replicate];omega
theorem zN{CX:bP}{P:Program}{w:World}{K:Frag}{mg:Str->Option Value}{base:Heap}{k:Nat}{f:Addr}{name qual:Str}{params:Arguments}{body:List Stmt}{scope:Scope}{dV kV doc pm bw ct oc:Value}{an od:Option Addr}
  {fc:Array (Option Value)}{N ps:List Str}{sp:Sp} (lk:K.lookup f=some ⟨oc,od,.func<|PySem.W.fnOf name qual params body scope dV kV doc pm an bw ct,fc⟩) (gc:PySem.W.codeIn K bw qual=true) (S:ku N ps scope)
  (len:∀vs H Q E,sp vs H Q E->vs.length=ps.length)
  (JY:∀(A:Around) (outer:List Env) (s:Shared) (H:Hp) (vs:List V) (Q:VK) (E:XK),cj k (A.deeper (envOfC qual scope s.heap.objs.size f bw))->sp vs H Q E->
   ∃t,c_ (ky CX P w K mg base N qual scope f bw A outer s H E) body t/\t {nx:=fun _ H'=>Q .az H',rt:=Q} (start N vs) H):
  b7 P w K mg base CX (k+1) f (PySem.W.fnOf name qual params body scope dV kV doc pm an bw ct) ps sp:=by
 refine⟨len,fun A outer s H args us vs Q E hr e0 hb r jv=>?_⟩;have hl:=len _ _ _ _ jv;have KX:K.In s.heap:=e0.mod.nC.keeps fun b o e=>(e0.bs b o e).1;have lim:s.heap.NoLimit:=e0.mod.nolimit.keeps fun b o e=>(e0.bs b o e).1;have JZ:∀y∈ps.zip us,scope.names.lookup y.1=some .local\/(scope.names.lookup y.1=some .cell/\((cellsFrom (s.heap.objs.size+1) scope.names []).lookup y.1).isSome=true):=fun⟨n,v⟩ hy=>by
  rcases S.par n (List.of_mem_zip hy).1 with q|q
  ·exact .inl q
  ·exact .inr ⟨q,cellsFrom_some _ _ _<|.inl q⟩
 refine codeAny_call_function hr.depth (KX _ _ lk) rfl S.co S.gen rfl (PySem.W.codeRec_of KX gc)<|hb _ _ _ _ ?_;refine wpAny_newFunctionEnv_cells S.kind JZ fun env he s1 x=>?_;subst he;refine⟨lim.keeps x.toInCall.keep,codeAny_func ?_⟩;obtain⟨t,ht,hq⟩:=JY A outer s H vs Q E (hr.deeper _) jv;have I:Inv (ky CX P w K mg base N qual scope f bw A outer s H E) [] (start N vs) H s1:=JX S hr.hd e0 hl r x;refine wpAny_mono (ht [] s1 (start N vs) H _ I hq) (fun fl s' hs=>?_) fun e s' hs=>hs;have fin:∀{σ':St}{H':Hp}{v:V}{u:Value},Inv (ky CX P w K mg base N qual scope f bw A outer s H E) [] σ' H' s'->RelV v u->Q v H'->CE outer P w H s Q u s':=
  fun {σ' H' v u} J rv q=>⟨v,H',J.os,J.bare,J.base,J.aH,rv,q⟩
 cases fl with
 |ret u=>
  obtain⟨v,σ',H',J,rv,q⟩:=hs;exact fin J rv q
 |next=>
  obtain⟨σ',H',J,q⟩:=hs;exact fin (v:=V.az) (u:=Value.none) J rfl q
 |brk=>
  obtain⟨_,_,_,q⟩:=hs;exact False.elim q
 |cont=>
  obtain⟨_,_,_,q⟩:=hs;exact False.elim q
section
variable {X:Cx}{x:Str}{p pos:Pos}{e:Expr}{es:List Expr}{t:TA}{id T:String}{r:List V->Hp->VK->Prop}
def dj(r:List V->Hp->VK->Prop)(t:TA):TE:=fun σ H Q=>t σ H fun vs H1=>r vs H1 Q
theorem ud(hc:bW X (.builtin id) r)(hg:Gl X x)(hm:X.mg x=none)(hv:bootBuiltins x=some (.builtin id))(ha:PA X (e::es) t)(hn:x≠"__name__":=by decide)(i5:(x==("__debug__":Str))=false:=by decide)
  (he:starEach (e::es) X.env=(false,eval e X.env)::starEach es X.env:=by rfl) (gO:(backTo pos<|starEach es X.env).any (·.1)=false:=by rfl):PE X (.Call (.Name x p) (e::es) [] pos) (dj r t):=by
 intro pins s σ H Q I h;refine wpAny_Call_Name_kw<|mm I hg hm hv ?_ hn i5;exact PyProof.Rows.callWith_builtin1 (aR (ha pos pins s σ H _ I h) fun us s1 ⟨vs,H1,I1,r1,q1⟩=>hc pins s1 σ H1 vs us Q I1 r1 q1) he gO
theorem J0(hc:bW X (.type T) r)(hg:Gl X x)(hm:X.mg x=none)(hv:bootBuiltins x=some (.type T))(ha:PA X (e::es) t)(hn:x≠"__name__":=by decide)(i5:(x==("__debug__":Str))=false:=by decide)
  (he:starEach (e::es) X.env=(false,eval e X.env)::starEach es X.env:=by rfl) (gO:(backTo pos<|starEach es X.env).any (·.1)=false:=by rfl):PE X (.Call (.Name x p) (e::es) [] pos) (dj r t):=by
 intro pins s σ H Q I h;refine wpAny_Call_Name_kw<|mm I hg hm hv ?_ hn i5;exact PyProof.Rows.callWith_type1 (aR (ha pos pins s σ H _ I h) fun us s1 ⟨vs,H1,I1,r1,q1⟩=>hc pins s1 σ H1 vs us Q I1 r1 q1) he gO
end
end L2
namespace HT
open PySem PyProof.Rows
section
variable {prog:Program}{w:World}{A:Around}{E:Value->Shared->Prop}{s:Shared}
theorem J3{t b:Addr}{vs ws:List Value}{Q:Value->Shared->Prop}(ht:IsTup s.heap t vs.toArray)(hb:IsTup s.heap b ws.toArray)(hv:vs≠ [])
  (h1:ws=[]->Q (.ref t) s) (h2:ws≠ []->Q (.ref s.heap.objs.size) {s with heap:=s.heap.push {cls:=.type "tuple",data:=.seq (vs++ws).toArray}})
  (js:vs.length+ws.length<=sizeLine):wpAny (model prog w) A (binaryOp .Add (.ref t)<|.ref b) Q E s:=by
 obtain⟨⟨cls,dd,data,sl⟩,ho,hc,n,hd⟩:=id ht;obtain⟨⟨Yt,zO,data2,ue⟩,jw,nQ,n2,hd2⟩:=id hb
 simp only at hc hd nQ hd2
 subst hc hd nQ hd2;have e:vs.toArray++ws.toArray=(vs++ws).toArray:=by simp
 by_cases hw:ws=[]
 ·exact concat_meets ⟨_,ho,rfl⟩ ⟨_,jw,rfl⟩ noFill_tuple_add seq_tuple_add PySem.F.slot_tuple_add PySem.F.entry_tuple_add (PySem.F.args_tuple_add_2 _ _)
   (tuple_addW1 t b vs.toArray ws.toArray n n2 dd zO sl ue (by simpa using hv) (by simp[hw])) ⟨ho,jw,h1 hw⟩
 ·refine concat_meets ⟨_,ho,rfl⟩ ⟨_,jw,rfl⟩ noFill_tuple_add seq_tuple_add PySem.F.slot_tuple_add PySem.F.entry_tuple_add (PySem.F.args_tuple_add_2 _ _)
   (tuple_addW2 t b vs.toArray ws.toArray n n2 dd zO sl ue (by simpa using hv) (by simpa using hw) (by rw[zac,zac];exact js)) ⟨ho,jw,?_⟩
  rw[e];exact h2 hw
def aX(n d:Nat):Option Int->Nat
 |none=>d
 |some v=>if v<0 then (v+(n:Int)).toNat else min v.toNat n
theorem zP(n d:Nat):aX n d none=d:=rfl
theorem jx(n d k:Nat):aX n d (some (k:Int))=min k n:=by
 show(if (k:Int) <0 then ((k:Int)+(n:Int)).toNat else min (k:Int).toNat n)=min k n
 rw[if_neg (by omega),zaJ]
theorem uf(n d:Nat)(hd:d<=n)(o:Option Int):aX n d o<=n:=by
 cases o with
 |none=>exact hd
 |some v=>
  show(if v<0 then (v+(n:Int)).toNat else min v.toNat n)<=n
  by_cases hv:v<0
  ·rw[if_pos hv];omega
  ·rw[if_neg hv];exact Nat.min_le_right _ _
theorem zQ(v:Int)(n d:Nat):(if v<0 then max (v+(n:Int)) 0 else min v (n:Int))=((aX n d (some v):Nat):Int):=by
 show(if v<0 then max (v+(n:Int)) 0 else min v (n:Int))=(((if v<0 then (v+(n:Int)).toNat else min v.toNat n):Nat):Int)
 by_cases hv:v<0
 ·simp only[if_pos hv];omega
 ·simp only[if_neg hv];omega
theorem J4(lo hi:Option Int)(n:Nat):Builtin.Slice.sliceAdjust lo hi 1 (n:Int)=(((aX n 0 lo:Nat):Int),((aX n n hi:Nat):Int)):=by
 have h1:¬((1:Int) <0):=by omega
 unfold Builtin.Slice.sliceAdjust
 simp only[h1,if_false]
 refine Prod.ext ?_ ?_
 ·cases lo with
  |none=>rfl
  |some v=>exact zQ v n 0
 ·cases hi with
  |none=>rfl
  |some v=>exact zQ v n n
theorem J5(i j:Nat):Builtin.Slice.slicePlaces (i:Int) (j:Int) 1=j - i:=by
 unfold Builtin.Slice.slicePlaces;have h1:(1:Int) >0:=by omega
 simp only[h1,if_true,Int.ediv_one]
 split<;>omega
theorem zR{v:Value}{o:Option Int}{Q:Option Int->Shared->Prop}(p:IsPart v o)(h:Q o s):wpAny (model prog w) A (Builtin.Slice.slicePartIndex v) Q E s:=by
 cases p with
 |none=>exact slicePart_none h
 |int i t=>exact slicePart_int h
theorem J6{sl:Addr}{vl vu:Value}{lo hi:Option Int}{n:Nat}{Q:Int×Int×Nat->Shared->Prop}(hs:s.heap.IsSliceOf sl vl vu .none)(pl:IsPart vl lo)(pu:IsPart vu hi)
  (h:Q (((aX n 0 lo:Nat):Int),1,aX n n hi - aX n 0 lo) s):wpAny (model prog w) A (Builtin.Slice.sliceApplied (.ref sl)<|pure (n:Int)) Q E s:=by
 obtain⟨os,nR,zS,qg⟩:=id hs;unfold Builtin.Slice.sliceApplied Builtin.Slice.sliceFields;refine wpAny_bind<|wpAny_bind<|wpAny_field nR qg (x:=vl) rfl<|wpAny_bind<|wpAny_field nR qg (x:=vu) rfl<|wpAny_bind<|wpAny_field nR qg (x:=.none) rfl<|wpAny_pure ?_;refine wpAny_bind<|slicePart_none ?_;show wpAny _ _ (if ((1:Int)==0)=true then _ else _) _ _ s
 rw[if_neg (by decide)]
 refine wpAny_bind<|zR pl<|wpAny_bind<|zR pu<|wpAny_bind<|wpAny_pure ?_;show wpAny _ _ (match Builtin.Slice.sliceAdjust lo hi 1 (n:Int) with|(lo,hi)=>pure (lo,(1:Int),Builtin.Slice.slicePlaces lo hi 1)) _ _ s
 rw[J4 lo hi n];show wpAny _ _ (pure (((aX n 0 lo:Nat):Int),(1:Int),Builtin.Slice.slicePlaces ((aX n 0 lo:Nat):Int) ((aX n n hi:Nat):Int) 1)) _ _ s;rw[J5];exact wpAny_pure h
theorem J7(xs:Array Value)(i k:Nat):((List.range k).filterMap fun(m:Nat)=>xs[((i:Int)+(m:Int)*1).toNat]?).toArray=((xs.toList.drop i).take k).toArray:=by
 have e:(fun(m:Nat)=>xs[((i:Int)+(m:Int)*1).toNat]?)=fun m=>xs[i+m]?:=by
  funext m
  have:((i:Int)+(m:Int)*1).toNat=i+m:=by omega
  rw[this]
 rw[e];have:=pick_run xs i k;rw[List.filterMap_map] at this;have e2:((fun x=>xs[x]?)∘fun x=>i+x)=fun m=>xs[i+m]?:=rfl;rw[e2] at this;rw[this]
theorem J8{t sl:Addr}{items:Array Value}{vl vu:Value}{lo hi:Option Int}{Q:Value->Shared->Prop}(ht:IsTup s.heap t items)(hs:s.heap.IsSliceOf sl vl vu .none)(pl:IsPart vl lo)(pu:IsPart vu hi)
  (hw:¬(aX items.size 0 lo=0/\aX items.size items.size hi=items.size))
  (h:Q (.ref s.heap.objs.size) {s with heap:=s.heap.push {cls:=.type "tuple",data:=.seq ((items.toList.drop<|aX items.size 0 lo).take<|aX items.size items.size hi - aX items.size 0 lo).toArray}})
  (js:items.size<=sizeLine):wpAny (model prog w) A (getItem (.ref t)<|.ref sl) Q E s:=by
 have qh:sizeOk (.seq ((items.toList.drop<|aX items.size 0 lo).take<|aX items.size items.size hi - aX items.size 0 lo).toArray):=by
  show((items.toList.drop<|aX items.size 0 lo).take<|aX items.size items.size hi - aX items.size 0 lo).toArray.size<=sizeLine;rw[zac,zaj,zas,zbC];omega
 have hj:aX items.size items.size hi<=items.size:=uf _ _ (zqR _) hi;obtain⟨os,nR,zS,qg⟩:=id hs;have J9:s.TypeIs (.ref sl) "slice":=⟨os,nR,zS⟩;unfold getItem
 try with_reducible refine wpAny_holding ?_
 first|refine wpAny_bind (wpAny_pure ?_)|skip
 refine wpAny_bind<|wpAny_sequenceKey ht.typeIs (by decide) ?_
 refine wpAny_bind (wpAny_callSpecial?_slot (name:=Str.ofString "__getitem__") ht.typeIs PyProof.Rows.slot_tuple_getitem
  (wpAny_call_entry PyProof.Rows.slot_tuple_getitem ht.typeIs entry_tuple_getitem ?_ (args_tuple_getitem _ _)))
 show wpAny _ _ (Builtin.Tuple.tupleItemsOf (.ref t) >>=_) _ _ s;refine wpAny_bind<|tupleItemsOf_ ht ?_;refine wpAny_bind<|wpAny_typeOf J9 ?_;rw[if_pos (by decide)]
 refine wpAny_bind<|J6 hs pl pu ?_;have J_:¬((((aX items.size 0 lo:Nat):Int)==0 && (1:Int)==1 && (aX items.size items.size hi - aX items.size 0 lo)==items.size)=true):=by
  intro q;rw[zaa,zaa] at q;have q1:((aX items.size 0 lo:Nat):Int)=0:=eq_of_beq q.1.1;have q2:aX items.size items.size hi - aX items.size 0 lo=items.size:=eq_of_beq q.2;exact hw ⟨by omega,by omega⟩
 show wpAny _ _ (if (((aX items.size 0 lo:Nat):Int)==0 && (1:Int)==1 && (aX items.size items.size hi - aX items.size 0 lo)==items.size)=true then _ else _) _ _ s
 rw[if_neg J_,J7]
 first
  |exact wpAny_bind (m:=Builtin.Tuple.tupleExact _) (wpAny_newObj_type (wpAny_pure ⟨_,rfl,wpAny_pure h⟩) qh)
  |exact wpAny_bind (m:=Builtin.Tuple.tupleExact _) (wpAny_newObj_type (wpAny_bind<|wpAny_pure<|wpAny_pure ⟨_,rfl,wpAny_pure h⟩) qh)
  |exact wpAny_bind (wpAny_bind (m:=Builtin.Tuple.tupleExact _)<|wpAny_newObj_type (wpAny_pure<|wpAny_pure ⟨_,rfl,wpAny_pure h⟩) qh)
  |exact wpAny_bind (wpAny_bind (m:=Builtin.Tuple.tupleExact _)<|wpAny_newObj_type (wpAny_pure ⟨_,rfl,wpAny_pure h⟩) qh)
end
end HT
namespace L2
open PySem PySem.Spec PyProof.Rows
abbrev TO:=St->Hp->(Option Int->Hp->Prop)->Prop
def PO(X:Cx)(e:Option Expr)(t:TO):Prop:=
 ∀(pins:List (Addr×Obj)) (s:Shared) (σ:St) (H:Hp) (Q:Option Int->Hp->Prop),Inv X pins σ H s->t σ H Q->
  wpAny (model X.prog X.w) X.A (evalPart e X.env) (fun u s'=>∃o H',Inv X pins σ H' s'/\IsPart u o/\Q o H') X.xe s
def zT:TO:=fun _ H Q=>Q none H
def qj(t:TE):TO:=fun σ H Q=>t σ H fun x H1=>∃i,x=.int i/\Q (some i) H1
theorem intsAre_of{ns:List Int}:∀{us:List Value},Vals (ns.map V.int) us->IntsAre us ns:=by
 induction ns with
 |nil=>intro us r;rw[List.map_nil] at r;cases r;exact .nil
 |cons n ns ih=>
  intro us r;rw[zaG] at r;cases r with
  |cons r1 r2=>
   obtain⟨t,e⟩:=r1;subst e;exact .cons n t<|ih r2
section
variable {X:Cx}{e:Expr}{te:TE}{lo hi:Option Expr}{tl th:TO}{pos p2:Pos}
theorem Ka:PO X none zT:=by
 intro pins s σ H Q I h;rw[evalPart_none];exact wpAny_pure ⟨none,H,I,.none,h⟩
theorem Kb(h:PE X e te):PO X (some e) (qj te):=by
 intro pins s σ H Q I hw;rw[evalPart_some];refine aR (h pins s σ H _ I hw) fun u s1 ⟨x,H1,I1,r1,q1⟩=>?_;obtain⟨i,rfl,q⟩:=q1;obtain⟨t,rfl⟩:=r1;exact⟨some i,H1,I1,.int i t,q⟩
def qk(X:Cx)(r:V->Option Int->Option Int->Hp->VK->Prop):Prop:=
 ∀(pins:List (Addr×Obj)) (s:Shared) (σ:St) (H:Hp) (x:V) (v vl vu:Value) (lo hi:Option Int) (sl:Addr) (Q:VK),Inv X pins σ H s->RelV x v->s.heap.IsSliceOf sl vl vu .none->IsPart vl lo->IsPart vu hi->r x lo hi H Q->
  ∃T id,typeLookup (.type T) "__getitem__"=pure (some<|.builtin id)/\s.TypeIs v T/\wpAny (model X.prog X.w) X.A (getItem v<|.ref sl) (EP X pins σ Q) X.xe s
def ug(r:V->Option Int->Option Int->Hp->VK->Prop)(te:TE)(tl th:TO):TE:=fun σ H Q=>te σ H fun x H1=>tl σ H1 fun l H2=>th σ H2 fun u H3=>r x l u H3 Q
theorem Kc{r:V->Option Int->Option Int->Hp->VK->Prop}(hr:qk X r)(he:PE X e te)(hl:PO X lo tl)(hu:PO X hi th):PE X (.Subscript e (.Slice lo hi none p2) pos) (ug r te tl th):=by
 intro pins s σ H Q I h;refine Subscript_<|aR (he pins s σ H _ I h) fun v s1 ⟨x,H1,I1,r1,q1⟩=>?_;refine wpAny_Slice<|aR (hl pins s1 σ H1 _ I1 q1) fun vl s2 ⟨l,H2,I2,pl,q2⟩=>aR (hu pins s2 σ H2 _ I2 q2) fun vu s3 ⟨u,H3,I3,pu,q3⟩=>?_;rw[evalPart_none];refine wpAny_pure ?_;have I4:Inv X pins σ H3 {s3 with heap:=s3.heap.push {cls:=.type "slice",data:=.fields #[vl,vu,.none]}}:=I3.kept (t':=s3.toks) fun b ob q=>Heap.get?_push_of_some _ q
 obtain⟨T,id,hT,ht,hg⟩:=hr pins {s3 with heap:=s3.heap.push {cls:=.type "slice",data:=.fields #[vl,vu,.none]}} σ H3 x v vl vu l u s3.heap.objs.size Q I4 r1 (Heap.IsSliceOf.new ..) pl pu q3
 show wpAny (model X.prog X.w) X.A (subscriptTail e (.Slice lo hi none p2) v<|.ref s3.heap.objs.size) (EP X pins σ Q) X.xe {s3 with heap:=s3.heap.push {cls:=.type "slice",data:=.fields #[vl,vu,.none]}}
 exact tail_any (ops:=[.ref s3.heap.objs.size,v]) ht hT hg (by with_unfolding_all rfl)
def dF(xs:List V)(lo hi:Option Int):List V:=(xs.drop<|HT.aX xs.length 0 lo).take (HT.aX xs.length xs.length hi - HT.aX xs.length 0 lo)
theorem zU(xs:List V)(lo hi:Option Int):(dF xs lo hi).length<=xs.length:=by
 unfold dF;rw[zaj,zas];omega
def Kd(K:Frag):V->Option Int->Option Int->Hp->VK->Prop:=fun x lo hi H Q=>∃a xs,x=.ref a/\aO K H a xs/\
 ¬(HT.aX xs.length 0 lo=0/\HT.aX xs.length xs.length hi=xs.length)/\∀p,H p=none->Q (.ref p) (upd H p<|.tup<|dF xs lo hi)
theorem Ke:qk X (Kd X.K):=by
 intro pins s σ H x v vl vu lo hi sl Q I rx hs pl pu h;obtain⟨a,xs,rfl,hx,hw,q⟩:=h;cases rx;obtain⟨its,r,ht,hz⟩:=I.tuple hx;have hlen:its.toArray.size=xs.length:=by rw[zac];exact r.length.symm
 refine⟨"tuple",_,PyProof.Rows.slot_tuple_getitem.lookup,ht.typeIs,?_⟩;refine HT.J8 ht hs pl pu (by rw[hlen];exact hw) ?_ (by rw[hlen];exact hz)
 rw[hlen];refine⟨.ref s.heap.objs.size,_,I.laid (t':=s.toks) (o:=.tup (dF xs lo hi)) (fun b ob q=>Heap.get?_push_of_some _ q) (zqR _) ?_,rfl,q _<|I.aH.fresh<|zqR _⟩;exact⟨zar (zU xs lo hi) hz,_,(r.drop<|HT.aX xs.length 0 lo).take<|HT.aX xs.length xs.length hi - HT.aX xs.length 0 lo,IsTup.new _ _⟩
def zV(K:Frag):R2:=fun x y H Q=>∃a b xs ys,x=.ref a/\y=.ref b/\aO K H a xs/\aO K H b ys/\xs≠ []/\xs.length+ys.length<=sizeLine/\
 (ys=[]->Q (.ref a) H)/\(ys≠ []->∀p,H p=none->Q (.ref p) (upd H p<|.tup<|xs++ys))
theorem Vals.ui{xs:List V}{us:List Value}(r:Vals xs us):us=[]↔xs=[]:=by
 cases r with
 |nil=>simp
 |cons _ _=>simp
theorem Kf:a_ X (binaryOp .Add) (zV X.K):=by
 intro pins s σ H x y v u Q I rx ry h;obtain⟨a,b,xs,ys,rfl,rfl,ha,hb,hx,hz,q1,q2⟩:=h;cases rx;cases ry;obtain⟨its,r1,p1,_⟩:=I.tuple ha;obtain⟨iq,r2,p2,_⟩:=I.tuple hb;refine HT.J3 p1 p2 (fun z=>hx<|r1.ui.mp z) (fun z=>⟨.ref a,H,I,rfl,q1<|r2.ui.mp z⟩) (fun z=>?_) (by rw[<-r1.length,<-r2.length];exact hz)
 refine⟨.ref s.heap.objs.size,_,I.laid (t':=s.toks) (o:=.tup (xs++ys)) (fun b ob q=>Heap.get?_push_of_some _ q) (zqR _) ?_,rfl,q2 (fun w=>z<|r2.ui.mpr w) _<|I.aH.fresh<|zqR _⟩;exact⟨by rw[zqA];exact hz,_,r1.append r2,IsTup.new _ _⟩
end
def gP(n:Nat)(i:Int):Option Nat:=if 0<=i then (if i<n then some i.toNat else none) else if -(n:Int)<=i then some (i+n).toNat else none
def dX{α:Type}(xs:List α)(i:Int):Option α:=(gP xs.length i).bind fun j=>xs[j]?
theorem zW{n:Nat}{i:Int}{j:Nat}(h:gP n i=some j):seqIndex? i n=some j/\j<n/\ -(n:Int)<=i/\i<n:=by
 unfold gP at h;by_cases h0:0<=i
 ·rw[if_pos h0] at h;by_cases h1:i<n
  ·rw[if_pos h1] at h;have e:i.toNat=j:=zak h;exact⟨by rw[seqIndex_of h0 h1,e],by omega,by omega,h1⟩
  ·rw[if_neg h1] at h;cases h
 ·rw[if_neg h0] at h;by_cases h1: -(n:Int)<=i
  ·rw[if_pos h1] at h;have e:(i+n).toNat=j:=zak h;exact⟨by rw[seqIndex_neg (by omega) h1,e],by omega,h1,by omega⟩
  ·rw[if_neg h1] at h;cases h
theorem uj{α:Type}{xs:List α}{i:Int}{v:α}(h:dX xs i=some v):∃j,seqIndex? i xs.length=some j/\xs[j]?=some v/\j<xs.length/\ -(xs.length:Int)<=i/\i<xs.length:=by
 unfold dX at h;cases e:gP xs.length i with
 |none=>rw[e] at h;cases h
 |some j=>
  rw[e] at h;obtain⟨h1,h2,h3,h4⟩:=zW e;exact⟨j,h1,h,h2,h3,h4⟩
theorem fh{α:Type}{xs:List α}{j:Nat}{v:α}(h:xs[j]?=some v):dX xs (j:Int)=some v:=by
 have hj:j<xs.length:=(zab.mp h).1;have e:gP xs.length (j:Int)=some j:=by
  unfold gP;rw[if_pos (by omega),if_pos (by omega)];simp
 unfold dX;rw[e];exact h
theorem zX{α:Type}(xs:List α)(v:α):dX (xs++[v]) (-1)=some v:=by
 have hl:(xs++[v]).length=xs.length+1:=by simp
 have e:gP (xs++[v]).length (-1)=some xs.length:=by
  unfold gP;rw[hl,if_neg (by decide),if_pos (by omega)]
  congr 1
  omega
 unfold dX;rw[e];show(xs++[v])[xs.length]?=some v
 simp
def zY(b:Expr):Prop:= ∀o i,subscripted b false o i=operate [o,i] (getItem o i)
def iu(X:Cx)(r:R2):Prop:=
 ∀(value slice:Expr) (pins:List (Addr×Obj)) (s:Shared) (σ:St) (H:Hp) (x y:V) (v u:Value) (Q:VK),Inv X pins σ H s->RelV x v->RelV y u->r x y H Q->
  subscripted slice false v u=operate [v,u] (getItem v u)->wpAny (model X.prog X.w) X.A (subscriptTail value slice v u) (EP X pins σ Q) X.xe s
def mz(X:Cx)(id:String)(r:V->List V->Hp->VK->Prop):Prop:=
 ∀(pins:List (Addr×Obj)) (s:Shared) (σ:St) (H:Hp) (x:V) (xs:List V) (v:Value) (us:List Value) (Q:VK),Inv X pins σ H s->RelV x v->Vals xs us->r x xs H Q->
  wpAny (model X.prog X.w) X.A (call (.builtin id) (v::us)) (EP X pins σ Q) X.xe s
section
variable {X:Cx}{a b:Expr}{ta tb:TE}{pos:Pos}
theorem iu.or{r r':R2}(h:iu X r)(h':iu X r'):iu X (fun x y H Q=>r x y H Q\/r' x y H Q):=by
 intro value slice pins s σ H x y v u Q I rx ry q hs;rcases q with q|q
 ·exact h value slice pins s σ H x y v u Q I rx ry q hs
 ·exact h' value slice pins s σ H x y v u Q I rx ry q hs
theorem Kg{r:R2}(hr:iu X r)(ha:PE X a ta)(hb:PE X b tb)(hs:zY b):PE X (.Subscript a b pos) (dg r ta tb):=by
 intro pins s σ H Q I h;exact Subscript_<|t5 ha hb I h fun v u s2 x y H2 I2 rx ry q=>hr a b pins s2 σ H2 x y v u Q I2 rx ry q (hs _ _)
def zZ(K:Frag):R2:=fun x y H Q=>∃p xs i v,x=.ref p/\y=.int i/\ay K H p xs/\dX xs i=some v/\Q v H
def z6(K:Frag):R2:=fun x y H Q=>∃p xs i v,x=.ref p/\y=.int i/\aO K H p xs/\dX xs i=some v/\Q v H
def z_:R2:=fun x y H Q=>∃z i c,x=.str z/\y=.int i/\z.length<=sizeLine/\dX z.cps.toList i=some c/\Q (.str ⟨#[c]⟩) H
theorem Kh:iu X (zZ X.K):=by
 intro value slice pins s σ H x y v u Q I rx ry h hs;obtain⟨p,xs,i,z,rfl,rfl,hq,he,q⟩:=h;cases rx;obtain⟨t,rfl⟩:=ry;obtain⟨its,r,pl,hz⟩:=I.list hq;obtain⟨j,h1,h2,h3,h4,h5⟩:=uj he;obtain⟨w,ew,gM⟩:=r.get h2;have hl:=r.length;have hn:=kq;have fin:EP X pins σ Q w s:=⟨z,H,I,gM,q⟩;by_cases h0:0<=i
 ·have hj:i.toNat=j:=by
   rw[seqIndex_of h0 h5] at h1;exact zak h1
  exact item_listR pl.isList h0 (by omega) (by rw[hj];simpa using ew) fin hs
 ·have hj:(i+(its.toArray.size:Int)).toNat=j:=by
   rw[seqIndex_neg (by omega) h4] at h1
   rw[zac,<-hl];exact zak h1
  exact subscriptTail_builtinR (x:=w) pl.isList.typeIs slot_list_getitem.lookup
   (wpAny_getItem_list_neg (Q:=fun r s'=>r=w/\EP X pins σ Q r s') pl.isList (by omega) (by rw[zac] <;>omega) (by omega) (by rw[hj];simpa using ew) ⟨rfl,fin⟩) hs
theorem Ki:iu X (z6 X.K):=by
 intro value slice pins s σ H x y v u Q I rx ry h hs;obtain⟨p,xs,i,z,rfl,rfl,hq,he,q⟩:=h;cases rx;obtain⟨t,rfl⟩:=ry;obtain⟨its,r,pl,hz⟩:=I.tuple hq;obtain⟨j,h1,h2,h3,h4,h5⟩:=uj he;obtain⟨w,ew,gM⟩:=r.get h2;have hl:=r.length;have hn:=kq;have fin:EP X pins σ Q w s:=⟨z,H,I,gM,q⟩;exact subscriptTail_builtinR (x:=w) pl.typeIs slot_tuple_getitem.lookup
  (getItem_tuple (j:=j) (Q:=fun r s'=>r=w/\EP X pins σ Q r s') pl (by omega) (by omega) (by rw[zac,<-hl];exact h1) (by simpa using ew) ⟨rfl,fin⟩) hs
theorem Kj:iu X z_:=by
 intro value slice pins s σ H x y v u Q I rx ry h hs;obtain⟨z,i,c,rfl,rfl,hz,he,q⟩:=h;obtain⟨t,rfl⟩:=rx;obtain⟨t',rfl⟩:=ry;obtain⟨j,h1,h2,h3,h4,h5⟩:=uj he;have hl:z.cps.toList.length=z.length:=by simp[Str.length]
 rw[hl] at h1 h4 h5;have hn:=kq;exact tail_any (typeIs_str s z t) slot_str_getitem.lookup (getItem_str (c:=c) (by
  have e1:decide (i< -(2 ^ 63:Int))=false:=zqF (by omega)
  have e2:decide (i≥2 ^ 63)=false:=zqF (by omega)
  rw[e1,e2,zbk]) (by rw[h1];simpa using h2) ⟨.str ⟨#[c]⟩,H,I.tok _,⟨_,rfl⟩,q⟩) hs
theorem Kk(its:List Value)(n j:Nat)(u:Value):Obj.mapSeq (·.setIfInBounds j u) {cls:=.type "list",data:=.seq its.toArray n}={cls:=.type "list",data:=.seq (its.set j u).toArray n}:=by
 simp[Obj.mapSeq]
theorem Inv.lst{pins:List (Addr×Obj)}{σ:St}{H:Hp}{s:Shared}{p:Addr}{xs:List V}(I:Inv X pins σ H s)(h:H p=some (.lst xs)):
  ∃(its:List Value) (n:Nat),Vals xs its/\s.heap.get? p=some {cls:=.type "list",data:=.seq its.toArray n}/\xs.length<=sizeLine:=by
 obtain⟨z,its,n,r,e⟩:=I.aH p _ h;exact⟨its,n,r,e,z⟩
theorem Inv.Kl{pins:List (Addr×Obj)}{σ:St}{H:Hp}{s:Shared}{p:Addr}{xs ys:List V}{its d5:List Value}{n n':Nat}{f:Obj->Obj}(I:Inv X pins σ H s)(h:H p=some (.lst xs))
  (ho:s.heap.get? p=some {cls:=.type "list",data:=.seq its.toArray n}) (hf:f {cls:=.type "list",data:=.seq its.toArray n}={cls:=.type "list",data:=.seq d5.toArray n'}) (r:Vals ys d5) (hz:ys.length<=sizeLine) (t:Nat):
  Inv X pins σ (upd H p<|.lst ys) {s with heap:=s.heap.update p f,toks:=t}:=by
 have e:(s.heap.update p f).get? p=some {cls:=.type "list",data:=.seq d5.toArray n'}:=by
  rw[Heap.get?_update_self f ho (by rw[hf] <;>rfl),hf]
 refine I.write (x:=p) (e:=p) (by rw[h];trivial) (.inl rfl) (fun b u hb q=>(Heap.get?_update_other _ _<|Ne.symm hb).trans q) ⟨_,e⟩ ?_
 exact⟨hz,d5,n',r,e⟩
def uk:V->V->V->Hp->(Hp->Prop)->Prop:=fun o i v H Q=>∃p xs k j,o=.ref p/\i=.int k/\H p=some (.lst xs)/\gP xs.length k=some j/\Q (upd H p<|.lst<|xs.set j v)
theorem set_list:zb X uk:=by
 intro pins s σ H o i v ov iv u Q I ro ri rv h;obtain⟨p,xs,k,j,rfl,rfl,hp,hj,q⟩:=h;cases ro;obtain⟨t,rfl⟩:=ri;obtain⟨its,n,r,ho,hz⟩:=I.lst hp;obtain⟨h1,h2,h3,h4⟩:=zW hj;have hl:=r.length;have hn:=kq;have I':Inv X pins σ (upd H p<|.lst<|xs.set j v) {s with heap:=s.heap.update p (Obj.mapSeq (·.setIfInBounds j u))}:=
  I.Kl hp ho (Kk its n j u) (r.set rv j) (by rw[List.length_set];exact hz) s.toks
 by_cases h0:0<=k
 ·have hk:k.toNat=j:=by
   rw[seqIndex_of h0 h4] at h1;exact zak h1
  exact PySem.W.ki_setAt ho h0 (by omega) (by rw[zac,<-hl];exact h4) (by rw[hk];exact⟨_,I',q⟩)
 ·have hk:(k+(its.toArray.size:Int)).toNat=j:=by
   rw[seqIndex_neg (by omega) h3] at h1
   rw[zac,<-hl];exact zak h1
  exact PySem.W.ki_setBack ho (by omega) (by rw[zac,<-hl];exact h3) (by omega) (by rw[hk];exact⟨_,I',q⟩)
theorem um(lo hi:Option Int)(n:Nat):(sliceBounds lo hi none n).1=((HT.aX n 0 lo:Nat):Int)/\(sliceBounds lo hi none n).2.1=((HT.aX n n hi:Nat):Int)/\(sliceBounds lo hi none n).2.2=1:=by
 refine⟨?_,?_,rfl⟩
 ·cases lo with
  |none=>simp[sliceBounds,HT.aX]
  |some i=>
   simp only[sliceBounds,HT.aX,Option.getD_none,show(1:Int) >0 by decide,if_true]
   by_cases h:i<0
   ·simp only[h,if_true] <;>omega
   ·simp only[h,if_false] <;>omega
 ·cases hi with
  |none=>simp[sliceBounds,HT.aX]
  |some i=>
   simp only[sliceBounds,HT.aX,Option.getD_none,show(1:Int) >0 by decide,if_true]
   by_cases h:i<0
   ·simp only[h,if_true] <;>omega
   ·simp only[h,if_false] <;>omega
theorem Km(its:List Value)(lo hi:Option Int):slicePick its.toArray lo hi none=((its.drop<|HT.aX its.length 0 lo).take<|HT.aX its.length its.length hi - HT.aX its.length 0 lo).toArray:=by
 obtain⟨h1,h2,h3⟩:=um lo hi its.toArray.size;unfold slicePick;rw[h1,h2,h3]
 simp only[sliceRange_one,pick_run,zac] <;>rfl
def Kn(K:Frag):V->Option Int->Option Int->Hp->VK->Prop:=fun x lo hi H Q=>∃a xs,x=.ref a/\ay K H a xs/\∀p,H p=none->Q (.ref p) (upd H p<|.lst<|dF xs lo hi)
theorem Ko:qk X (Kn X.K):=by
 intro pins s σ H x v vl vu lo hi sl Q I rx hs pl pu h;obtain⟨a,xs,rfl,hx,q⟩:=h;cases rx;obtain⟨its,r,ht,hz⟩:=I.list hx;have hlen:=r.length;refine⟨"list",_,slot_list_getitem.lookup,ht.isList.typeIs,?_⟩;refine wpAny_getItem_list_slice ht.isList hs pl pu .none (by simp) ?_ (by rw[zac] <;>omega)
 rw[Km,<-hlen];refine⟨.ref s.heap.objs.size,_,I.laid (t':=s.toks) (o:=.lst (dF xs lo hi)) (fun b ob q=>Heap.get?_push_of_some _ q) (zqR _) ?_,rfl,q _<|I.aH.fresh<|zqR _⟩;exact⟨zar (zU xs lo hi) hz,_,0,(r.drop<|HT.aX xs.length 0 lo).take<|HT.aX xs.length xs.length hi - HT.aX xs.length 0 lo,Heap.get?_push_size _ rfl⟩
def fi:V->Bool
 |.az=>true
 |.bl _=>true
 |.int _=>true
 |.str _=>true
 |_=>false
def eN:V->V->Bool
 |.az,.az=>true
 |.bl a,.bl b=>a==b
 |.bl a,.int b=>(if a then 1 else 0)==b
 |.int a,.bl b=>a==(if b then 1 else 0)
 |.int a,.int b=>a==b
 |.str a,.str b=>a==b
 |_,_=>false
theorem Kq{A:Around}{s:Shared}{y x:V}{u v:Value}(ry:RelV y u)(rx:RelV x v)(fy:fi y=true)(fx:fi x=true):SeqAt.EqAt A s u v (eN y x):=by
 cases y with
 |az=>
  cases ry;cases x with
  |az=>cases rx;exact SeqAt.EqAt.same _
  |bl b=>cases rx;exact SeqAt.EqAt.none_bool b
  |int b=>obtain⟨t,rfl⟩:=rx;exact SeqAt.EqAt.none_int b t
  |str b=>obtain⟨t,rfl⟩:=rx;exact SeqAt.EqAt.none_str b t
  |_=>exact absurd (show false=true from fx) zaf
 |bl a=>
  cases ry;cases x with
  |az=>cases rx;exact SeqAt.EqAt.bool_none a
  |bl b=>cases rx;exact SeqAt.EqAt.bool_bool a b
  |int b=>obtain⟨t,rfl⟩:=rx;exact SeqAt.EqAt.bool_int a b t
  |str b=>obtain⟨t,rfl⟩:=rx;exact SeqAt.EqAt.bool_str a b t
  |_=>exact absurd (show false=true from fx) zaf
 |int a=>
  obtain⟨t',rfl⟩:=ry;cases x with
  |az=>cases rx;exact SeqAt.EqAt.int_none a t'
  |bl b=>cases rx;exact SeqAt.EqAt.int_bool a t' b
  |int b=>obtain⟨t,rfl⟩:=rx;exact SeqAt.EqAt.int_int a t' b t
  |str b=>obtain⟨t,rfl⟩:=rx;exact SeqAt.EqAt.int_str a t' b t
  |_=>exact absurd (show false=true from fx) zaf
 |str a=>
  obtain⟨t',rfl⟩:=ry;cases x with
  |az=>cases rx;exact SeqAt.EqAt.str_none a t'
  |bl b=>cases rx;exact SeqAt.EqAt.str_bool a t' b
  |int b=>obtain⟨t,rfl⟩:=rx;exact SeqAt.EqAt.str_int a t' b t
  |str b=>obtain⟨t,rfl⟩:=rx;exact SeqAt.EqAt.str_str a t' b t
  |_=>exact absurd (show false=true from fx) zaf
 |_=>exact absurd (show false=true from fy) zaf
def dm(x:V)(u:Value):Bool:=match u with
 |.none=>eN .az x
 |.bool b=>eN (.bl b) x
 |.int i _=>eN (.int i) x
 |.str z _=>eN (.str z) x
 |_=>false
theorem uq{x y:V}{u:Value}(r:RelV y u)(f:fi y=true):dm x u=eN y x:=by
 cases y with
 |az=>cases r;rfl
 |bl b=>cases r;rfl
 |int i=>obtain⟨t,rfl⟩:=r;rfl
 |str z=>obtain⟨t,rfl⟩:=r;rfl
 |_=>exact absurd (show false=true from f) zaf
theorem nS{x:V}:∀{xs:List V}{us:List Value},Vals xs us->xs.all fi=true->us.any (dm x)=xs.any fun y=>eN y x
 |_,_,.nil,_=>rfl
 |y::xs,u::us,.cons r t,f=>by
  rw[zaU,zaa] at f;rw[List.any_cons,List.any_cons,uq r f.1,nS t f.2]
theorem mB{A:Around}{s:Shared}{x:V}{v:Value}(rx:RelV x v)(fx:fi x=true):∀{xs:List V}{us:List Value},Vals xs us->xs.all fi=true->∀u∈us,SeqAt.EqAt A s u v (dm x u)
 |_,_,.nil,_=>fun u hu=>by cases hu
 |y::xs,u::us,.cons r t,f=>fun u' hu=>by
  rw[zaU,zaa] at f;rcases zad.mp hu with rfl|hu
  ·rw[uq r f.1];exact Kq r rx f.1 fx
  ·exact mB rx fx t f.2 u' hu
def eO(x:V)(xs:List V):Bool:=xs.any fun y=>eN y x
def ur(K:Frag)(neg:Bool):R2:=fun x y H Q=>∃p xs,y=.ref p/\(ay K H p xs\/aO K H p xs)/\fi x=true/\xs.all fi=true/\Q (.bl (if neg then !eO x xs else eO x xs)) H
theorem Kr:a_ X (compareOp .In) (ur X.K false):=by
 intro pins s σ H x y v u Q I rx ry h;obtain⟨p,xs,rfl,hq,fx,fs,q⟩:=h;cases ry;rcases hq with hq|hq
 ·obtain⟨its,r,pl,hz⟩:=I.list hq;refine SeqAt.in_listAt (dm x) pl.isList (fun w hw=>mB rx fx r fs w (by simpa using hw)) ⟨.bl _,H,I,rfl,?_⟩
  rw[show its.toArray.any (dm x)=its.any (dm x) by simp,nS r fs]
  exact q
 ·obtain⟨its,r,pl,hz⟩:=I.tuple hq;refine SeqAt.in_tupleAt (dm x) pl (fun w hw=>mB rx fx r fs w (by simpa using hw)) ⟨.bl _,H,I,rfl,?_⟩
  rw[show its.toArray.any (dm x)=its.any (dm x) by simp,nS r fs]
  exact q
theorem Ks:a_ X (compareOp .NotIn) (ur X.K true):=by
 intro pins s σ H x y v u Q I rx ry h;obtain⟨p,xs,rfl,hq,fx,fs,q⟩:=h;cases ry;rcases hq with hq|hq
 ·obtain⟨its,r,pl,hz⟩:=I.list hq;refine SeqAt.notIn_listAt (dm x) pl.isList (fun w hw=>mB rx fx r fs w (by simpa using hw)) ⟨.bl _,H,I,rfl,?_⟩
  rw[show its.toArray.any (dm x)=its.any (dm x) by simp,nS r fs]
  exact q
 ·obtain⟨its,r,pl,hz⟩:=I.tuple hq;refine SeqAt.notIn_tupleAt (dm x) pl (fun w hw=>mB rx fx r fs w (by simpa using hw)) ⟨.bl _,H,I,rfl,?_⟩
  rw[show its.toArray.any (dm x)=its.any (dm x) by simp,nS r fs]
  exact q
theorem bW.or{f:Value}{r r':List V->Hp->VK->Prop}(h:bW X f r)(h':bW X f r'):bW X f (fun xs H Q=>r xs H Q\/r' xs H Q):=by
 intro pins s σ H xs us Q I rs q;rcases q with q|q
 ·exact h pins s σ H xs us Q I rs q
 ·exact h' pins s σ H xs us Q I rs q
theorem Kt:bW X (.type "list") (fun xs H Q=>∃p ys,xs=[.ref p]/\(ay X.K H p ys\/aO X.K H p ys)/\∀l,H l=none->Q (.ref l) (upd H l<|.lst ys)):=by
 intro pins s σ H xs us Q I r h;obtain⟨p,ys,rfl,hq,q⟩:=h;obtain⟨u,rfl,rx⟩:=vals1 r;cases rx;have fin:∀(its:List Value),Vals ys its->ys.length<=sizeLine->∀(h':Heap) (c':Nat),(∀b o',s.heap.get? b=some o'->h'.get? b=some o')->
   h'.get? s.heap.objs.size=some {cls:=.type "list",dict:=none,data:=.seq its.toArray c',slots:= #[]}->EP X pins σ Q (.ref s.heap.objs.size) {s with heap:=h'}:=fun its r' hz h' c' kp e=>
  ⟨.ref s.heap.objs.size,_,I.laid (t':=s.toks) kp (zqR _) (show cJ X.prog X.w _ h' _ (.lst ys) from⟨hz,its,c',r',e⟩),rfl,q _<|I.aH.fresh<|zqR _⟩
 rcases hq with hq|hq
 ·obtain⟨its,r',pl,hz⟩:=I.list hq;have hlen:=r'.length;obtain⟨o,ho,hc,n,hd⟩:=pl.isList;exact call_list_seq p (.inl rfl) ho hc hd (fun h' c' kp e=>fin its r' hz h' c' kp e) (by simp only[zac] <;>omega)
 ·obtain⟨its,r',pl,hz⟩:=I.tuple hq;have hlen:=r'.length;obtain⟨o,ho,hc,n,hd⟩:=pl;exact call_list_seq p (.inr rfl) ho hc hd (fun h' c' kp e=>fin its r' hz h' c' kp e) (by simp only[zac] <;>omega)
def nT(K:Frag)(T:String)(x:V)(H:Hp):Prop:=match x with
 |.str _=>T="str"
 |.int _=>T="int"
 |.ref p=>(T="list"/\∃xs,ay K H p xs)\/(T="tuple"/\∃o,K.lookup p=some o/\o.cls=.type "tuple"/\o.dict=none)\/
   (T="dict"/\((∃aL,H p=some (.dK aL))\/∃aL,H p=some (.dT aL)))\/(T="set"/\∃S n,H p=some (.set S n))
 |_=>False
theorem Ku{pins:List (Addr×Obj)}{σ:St}{H:Hp}{s:Shared}{T:String}{x:V}{v:Value}(I:Inv X pins σ H s)(r:RelV x v)(ty:nT X.K T x H):
  s.TypeIs v T/\∀a,v=.ref a->∃ob,s.heap.get? a=some ob/\ob.dict=none:=by
 cases x with
 |str z=>
  obtain⟨t,rfl⟩:=r;cases (show T="str" from ty)
  exact⟨typeIs_str s z t,fun _ e=>nomatch e⟩
 |int i=>
  obtain⟨t,rfl⟩:=r;cases (show T="int" from ty)
  exact⟨typeIs_int s i t,fun _ e=>nomatch e⟩
 |ref p=>
  cases r;rcases ty with⟨rfl,xs,hq⟩|⟨rfl,o,hk,hc,hd⟩|⟨rfl,hk⟩|⟨rfl,S,n,hk⟩
  ·obtain⟨its,_,pl,_⟩:=I.list hq;refine⟨pl.isList.typeIs,fun a e=>?_⟩;cases e;obtain⟨o,n,e,c,hd,_⟩:=pl;exact⟨o,e,hd⟩
  ·refine⟨⟨o,I.cb p o hk,hc⟩,fun a e=>?_⟩;cases e;exact⟨o,I.cb _ o hk,hd⟩
  ·have z:∃o,s.heap.get? p=some o/\o.ExactDict:=by
    rcases hk with⟨aL,hk⟩|⟨aL,hk⟩
    ·obtain⟨_,_,_,_,o,_,_,e,ex,_⟩:=I.aH p _ hk;exact⟨o,e,ex⟩
    ·obtain⟨_,_,_,_,o,_,_,e,ex,_⟩:=I.aH p _ hk;exact⟨o,e,ex⟩
   obtain⟨o,e,ex⟩:=z;refine⟨⟨o,e,ex.1⟩,fun a e2=>?_⟩;cases e2;exact⟨o,e,ex.2.1⟩
  ·obtain⟨o,_,_,_,e,ex,_⟩:=I.aH p _ hk;refine⟨⟨o,e,ex.1⟩,fun a e2=>?_⟩;cases e2;exact⟨o,e,ex.2.1⟩
 |_=>exact False.elim ty
def uu(K:Frag)(T:String)(r:V->List V->Hp->VK->Prop)(to:TE)(t:TA):TE:=fun σ H Q=>to σ H fun x H1=>nT K T x H1/\t σ H1 fun xs H2=>r x xs H2 Q
variable {o e:Expr}{es:List Expr}{to:TE}{t:TA}{name:Str}{apos dq:Pos}{T id:String}{r:V->List V->Hp->VK->Prop}
theorem Aa(pa:PlainAttrs T)(slot:Slot T name id)(Kv:typeOf (.builtin id)=pure (.type "method_descriptor"))(hm:mz X id r)(ho:PE X o to)(ha:PA X (e::es) t)
  (Kw:attributeBase o name X.env (eval o X.env)=eval o X.env:=by rfl)
  (Kx:((backTo dq (starEach (e::es) X.env)).all (fun x=> !x.1) && (backToKw dq (keywordEach [] X.env)).all (fun x=>x.1.isSome)
   && decide ((e::es).length+([]:List Keyword).length+(if ([]:List Keyword).isEmpty then 0 else 1) <30))=true:=by rfl)
  (Ky:(apos.endLine==dq.line)=true:=by rfl) (hs:starEach (e::es) X.env=(false,eval e X.env)::starEach es X.env:=by rfl) (Kz:(backTo dq<|starEach es X.env).any (·.1)=false:=by rfl):
  PE X (.Call (.Attribute o name apos) (e::es) [] dq) (uu X.K T r to t):=by
 intro pins s σ H Q I h;refine wpAny_Call_method_late Kw Kx Ky rfl<|aR (ho pins s σ H _ I h) fun v s1 ⟨x,H1,I1,r1,ty,q1⟩=>?_;obtain⟨h1,h2⟩:=Ku I1 r1 ty;refine⟨T,id,pa,slot,Kv,h1,h2,?_⟩;have hA:=ha dq pins s1 σ H1 _ I1 q1;rw[hs] at hA⊢;refine Calls.callWith_builtin (by show(false ||(backTo dq<|starEach es X.env).any (·.1))=false;rw[Kz] <;>rfl)<|Calls.evalArgs_plain ?_
 exact aR hA fun us s2 ⟨vs,H2,I2,r2,q2⟩=>hm pins s2 σ H2 x vs v us Q I2 r1 r2 q2
end
def qm(X:Cx)(id:String)(r:V->List V->Hp->VK->Prop):Prop:=
 ∀(pins:List (Addr×Obj)) (s:Shared) (σ:St) (H:Hp) (x:V) (xs:List V) (v:Value) (us:List Value) (Q:VK),Inv X pins σ H s->RelV x v->Vals xs us->r x xs H Q->
  wpAny (model X.prog X.w) X.A (call (.builtin id) (v::us)) (EP X pins σ Q) X.xe s
theorem Vals.one:∀{x:V}{us:List Value},Vals [x] us->∃u,us=[u]/\RelV x u
 |_,_,.cons r .nil=>⟨_,rfl,r⟩
theorem Vals.zero:∀{us:List Value},Vals [] us->us=[]
 |_,.nil=>rfl
theorem Vals.dropLast{xs:List V}{us:List Value}(h:Vals xs us):Vals xs.dropLast us.dropLast:=by
 induction h with
 |nil=>exact .nil
 |cons r t ih=>
  cases t with
  |nil=>exact .nil
  |cons q t'=>exact .cons r ih
theorem Vals.rep{xs:List V}{us:List Value}(h:Vals xs us):∀k:Nat,Vals (List.replicate k xs).flatten (List.replicate k us).flatten
 | 0=>.nil
 |k+1=>by
  rw[zba,zba,zbl,zbl];exact Vals.append h<|Vals.rep h k
theorem KA{α:Type}(l:List α):l.eraseIdx (l.length - 1)=l.dropLast:=by
 induction l with
 |nil=>rfl
 |cons a r ih=>
  cases r with
  |nil=>rfl
  |cons b r=>
   have e:(a::b::r).length - 1=((b::r).length - 1)+1:=by
    have h1:(a::b::r).length=r.length+2:=rfl;have h2:(b::r).length=r.length+1:=rfl;omega
   rw[e,List.eraseIdx_cons_succ,ih]
   all_goals rfl
theorem foldl_rep(its:List Value):∀(k:Nat) (acc:List Value),
  List.foldl (fun x1 x2=>x1++x2) acc.toArray (List.replicate k its.toArray)=(acc++(List.replicate k its).flatten).toArray
 | 0,acc=>by simp
 |k+1,acc=>by
  have e:acc.toArray++its.toArray=(acc++its).toArray:=by simp
  have e2:(acc++its)++(List.replicate k its).flatten=acc++(List.replicate (k+1) its).flatten:=by
   rw[zba,zbl,zat]
  rw[<-e2,<-foldl_rep its k (acc++its),<-e,zba,List.foldl_cons]
section
variable {X:Cx}{pins:List (Addr×Obj)}{σ:St}{H:Hp}{s:Shared}{l b:Addr}{xs ys zs:List V}
theorem Inv.qo{its d5:List Value}{n:Nat}{f:Array Value->Array Value}{t':Nat}(I:Inv X pins σ H s)(hH:H l=some (.lst xs))
  (e:s.heap.get? l=some {cls:=.type "list",data:=.seq its.toArray n}) (hf:f its.toArray=d5.toArray) (hv:Vals ys d5) (hz:ys.length<=sizeLine):
  Inv X pins σ (upd H l<|.lst ys) {s with heap:=s.heap.update l (Obj.mapSeq f),toks:=t'}:=by
 have q:=PySem.IsL.update e f;rw[hf] at q;refine I.write (x:=l) (e:=l) (by rw[hH];exact trivial) (.inl rfl) (fun b' u hb hu=>(Heap.get?_update_other s.heap (Obj.mapSeq f)<|Ne.symm hb).trans hu) ⟨_,q⟩ ?_
 exact⟨hz,d5,_,hv,q⟩
theorem Inv.Ab{its:List Value}{t':Nat}(I:Inv X pins σ H s)(hv:Vals ys its)(hz:ys.length<=sizeLine):
  Inv X pins σ (upd H s.heap.objs.size<|.lst ys) {s with heap:=s.heap.push {cls:=.type "list",data:=.seq its.toArray},toks:=t'}:=
 I.laid (fun _ _ q=>Heap.get?_push_of_some _ q) (zqR _) ⟨hz,its,0,hv,Heap.get?_push_size _ rfl⟩
theorem Inv.fresh(I:Inv X pins σ H s):H s.heap.objs.size=none:=I.aH.fresh (zqR _)
theorem Inv.jy(I:Inv X pins σ H s)(hH:H l=some (.lst xs)):xs.length<=sizeLine/\∃(its:List Value) (n:Nat),Vals xs its/\xs.length=its.length/\s.heap.get? l=some {cls:=.type "list",data:=.seq its.toArray n}:=by
 obtain⟨z,its,n,r,e⟩:=I.aH l _ hH;exact⟨z,its,n,r,r.length,e⟩
theorem Ac{n:Nat}(h:n<=sizeLine):Builtin.List.listTooLong n=false:=by
 unfold Builtin.List.listTooLong;exact zqF (by omega)
end
section
variable {X:Cx}
def KC:V->List V->Hp->VK->Prop:=fun x vs H Q=>∃l xs y,x=.ref l/\vs=[y]/\H l=some (.lst xs)/\xs.length<sizeLine/\Q .az (upd H l<|.lst<|xs++[y])
theorem KD:qm X "list.append" KC:=by
 intro pins s σ H x vs v us Q I rx rv h;obtain⟨l,xs,y,rfl,rfl,hH,hz,q⟩:=h;cases rx;obtain⟨u,rfl,ru⟩:=rv.one;obtain⟨z,its,n,r,hl,e⟩:=I.jy hH;refine call_meets F.slot_list_append ⟨_,e,rfl⟩ F.entry_list_append (F.args_list_append_2 _ _) (PySem.list_append l its.toArray n u (by rw[zac];omega)) ⟨e,?_⟩
 refine⟨.az,_,I.qo (d5:=its++[u]) hH e (by simp) (r.append<|.cons ru .nil) ?_,rfl,q⟩
 rw[zqA,zbE];omega
def KG:V->List V->Hp->VK->Prop:=fun x vs H Q=>∃l b xs zs,x=.ref l/\vs=[.ref b]/\H l=some (.lst xs)/\H b=some (.lst zs)/\xs.length+zs.length<=sizeLine/\Q .az (upd H l<|.lst<|xs++zs)
theorem KH:qm X "list.extend" KG:=by
 intro pins s σ H x vs v us Q I rx rv h;obtain⟨l,b,xs,zs,rfl,rfl,hH,hB,hz,q⟩:=h;cases rx;obtain⟨u,rfl,ru⟩:=rv.one;cases ru;obtain⟨z,its,n,r,hl,e⟩:=I.jy hH;obtain⟨z2,iq,n2,r2,Ad,e2⟩:=I.jy hB;have js:its.toArray.size+iq.toArray.size<=sizeLine:=by rw[zac,zac];omega
 have uv:¬(!its.toArray.isEmpty && Builtin.List.listTooLong (its.toArray.size+iq.toArray.size))=true:=by
  rw[Ac js,Bool.and_false];exact zaf
 refine call_meets F.slot_list_extend ⟨_,e,rfl⟩ F.entry_list_extend (F.args_list_extend_2 _ _)
  (AutoSeq1.list_extend_list_list_0 l its.toArray n b iq.toArray n2 uv (by rw[zac];omega) (by omega)) ⟨e,e2,?_⟩
 refine⟨.az,_,I.qo (d5:=its++iq) hH e (by simp) (r.append r2) ?_,rfl,q⟩
 rw[zqA];omega
def KI:V->List V->Hp->VK->Prop:=fun x vs H Q=>∃l xs y,x=.ref l/\vs=[]/\H l=some (.lst xs)/\xs[xs.length - 1]?=some y/\Q y (upd H l<|.lst xs.dropLast)
theorem KJ:qm X "list.pop" KI:=by
 intro pins s σ H x vs v us Q I rx rv h;obtain⟨l,xs,y,rfl,rfl,hH,hy,q⟩:=h;cases rx;have uw:=rv.zero;subst uw;obtain⟨z,its,n,r,hl,e⟩:=I.jy hH;obtain⟨u,hu,ru⟩:=r.get hy;have ux:its.toArray[its.toArray.size - 1]?=some u:=by
  show its.toArray[its.length - 1]?=some u;rw[<-Array.getElem?_toList,<-hl];exact hu
 refine call_meets F.slot_list_pop ⟨_,e,rfl⟩ F.entry_list_pop (F.args_list_pop_1 _) (MeetsSeq.list_pop_last l its.toArray n u ux (by rw[zac];omega)) ⟨e,?_⟩
 refine⟨y,_,I.qo (d5:=its.dropLast) hH e ?_ r.dropLast ?_,ru,q⟩
 ·show its.toArray.eraseIdxIfInBounds (its.toArray.size - 1)=its.dropLast.toArray;rw[zac,List.eraseIdxIfInBounds_toArray,KA]
 ·rw[List.length_dropLast];omega
def KL:V->List V->Hp->VK->Prop:=fun x vs H Q=>∃l xs,x=.ref l/\vs=[]/\H l=some (.lst xs)/\Q .az (upd H l<|.lst [])
theorem KN:qm X "list.clear" KL:=by
 intro pins s σ H x vs v us Q I rx rv h;obtain⟨l,xs,rfl,rfl,hH,q⟩:=h;cases rx;have uw:=rv.zero;subst uw;obtain⟨z,its,n,r,hl,e⟩:=I.jy hH;refine call_meets F.slot_list_clear ⟨_,e,rfl⟩ F.entry_list_clear (F.args_list_clear_1 _) (AutoSeq1.list_clear_list_0 l its.toArray n (by rw[zac];omega)) ⟨e,?_⟩
 exact⟨.az,_,I.qo (d5:=[]) (ys:=[]) hH e rfl .nil<|zqZ _,rfl,q⟩
def Ae:R2:=fun x y H Q=>∃l b xs zs,x=.ref l/\y=.ref b/\H l=some (.lst xs)/\H b=some (.lst zs)/\xs.length+zs.length<=sizeLine/\∀p,H p=none->Q (.ref p) (upd H p<|.lst<|xs++zs)
theorem KO:a_ X (binaryOp .Add) Ae:=by
 intro pins s σ H x y v u Q I rx ry h;obtain⟨l,b,xs,zs,rfl,rfl,hH,hB,hz,q⟩:=h;cases rx;cases ry;obtain⟨z,its,n,r,hl,e⟩:=I.jy hH;obtain⟨z2,iq,n2,r2,Ad,e2⟩:=I.jy hB;refine PySem.P.add_list e e2 ?_ (by rw[zac,zac];omega)
 have ea:its.toArray++iq.toArray=(its++iq).toArray:=by simp
 rw[ea];exact⟨.ref _,_,I.Ab (t':=s.toks) (r.append r2) (by rw[zqA];omega),rfl,q _ I.fresh⟩
def Af:R2:=fun x y H Q=>∃l k xs,x=.ref l/\y=.int k/\H l=some (.lst xs)/\ -(2 ^ 63)<=k/\k<2 ^ 63/\xs.length*k.toNat<=sizeLine/\
 ∀p,H p=none->Q (.ref p) (upd H p<|.lst (List.replicate k.toNat xs).flatten)
theorem len_rep{α:Type}(xs:List α)(k:Nat):(List.replicate k xs).flatten.length=k*xs.length:=by
 induction k with
 |zero=>simp
 |succ k ih=>rw[zba,zbl,zqA,ih,Nat.succ_mul,Nat.add_comm]
theorem KP:a_ X (binaryOp .Mult) Af:=by
 intro pins s σ H x y v u Q I rx ry h;obtain⟨l,k,xs,rfl,rfl,hH,h1,h2,hz,q⟩:=h;cases rx;obtain⟨t,rfl⟩:=ry;obtain⟨z,its,n,r,hl,e⟩:=I.jy hH;have hlen:its.toArray.size*k.toNat<=sizeLine:=by rw[zac,<-hl];exact hz
 have KQ:¬its.toArray.size*k.toNat>(2 ^ 63 - 1) / 8:=by
  have:(sizeLine:Nat)<= (2 ^ 63 - 1) / 8:=by decide
  omega
 have KR:¬(!Builtin.List.listFitsIndex k)=true:=by
  rw[fitsIndex_both h1 h2];exact zaf
 have uv:¬Builtin.List.listTooLong (its.toArray.size*k.toNat)=true:=by
  rw[Ac hlen];exact zaf
 have KS:List.foldl (fun x1 x2=>x1++x2) #[] (List.replicate (if its.toArray.isEmpty=true then 0 else k.toNat) its.toArray)=(List.replicate k.toNat its).flatten.toArray:=by
  have f0:∀m:Nat,List.foldl (fun x1 x2=>x1++x2) #[] (List.replicate m its.toArray)=(List.replicate m its).flatten.toArray:=fun m=>by
   have:=foldl_rep its m [];rw[zaO] at this;exact this
  rw[f0];cases its with
  |nil=>simp
  |cons a r'=>rw[if_neg (by simp)]
 refine wpAny_binaryOp_repeat_ref (T:="list") (U:="int") (by decide) ⟨_,e,rfl⟩ (fun s'=>typeIs_int s' k t) noFill_list_mul F.fills_int_mul F.slot_int_rmul repeat_list F.slot_int_index.lookup
  (call_meets F.slot_int_rmul (typeIs_int s k t) F.entry_int_rmul (F.args_int_rmul_2 _ _) (int___rmul___int_list k t l its.toArray n)
   ⟨e,rfl,⟨_,e,rfl⟩,call_meets F.slot_list_mul ⟨_,e,rfl⟩ F.entry_list_mul (F.args_list_mul_2 _ _) (AutoListH.list___mul___list_int_3 l its.toArray n k t KR KQ uv) ⟨e,?_⟩⟩)
 rw[KS];exact⟨.ref _,_,I.Ab (t':=s.toks) (r.rep k.toNat) (by rw[len_rep,Nat.mul_comm];exact hz),rfl,q _ I.fresh⟩
end
end L2
namespace Ag
open PySem PySem.W PySem.Calls PyProof.Rows
theorem KU{P:Params}{h:Heap}:∀(ns:List Int) (vs:List Value),WellAll P h vs (ns.map WData.int)->IntsAre vs ns:=by
 intro ns
 induction ns with
 |nil=>
  intro vs w;rw[List.map_nil] at w;cases w;exact .nil
 |cons n ns ih=>
  intro vs w;rw[zaG] at w;cases w with
  |cons a b=>
   cases a;exact .cons _ _<|ih _ b
theorem KW{l:OpenLaw}{n:Nat}(hn:l.most=some n){P:Params}{h:Heap}{args:List WData}{vals:List Value}
  (mD:l.row.toRowW.claim.pre args=true) (jz:WellAll P h vals args):
  ∃a vs ns,vals=[Value.ref a]/\args=[WData.list<|ns.map WData.int]/\h.get? a=some {cls:=.type "list",data:=.seq vs.toArray}/\IntsAre vs ns/\ns.length<=n:=by
 have KY:WShape.hasAll [] args [.list .int]=true:=(pre_splitW mD).1;have hc:l.pre.holds [] {args:=args}=true:=(pre_splitW mD).2;obtain⟨d,r,rfl,h1,h2⟩:=hasAllW_cons KY;obtain rfl:=hasAllW_nil h2;obtain⟨xs,rfl,h3⟩:=hasW_list h1;obtain⟨ns,rfl⟩:=items_int h3;have hlen:ns.length<=n:=by
  unfold OpenLaw.pre at hc;have h4:(WTm.not<|.lt (.lit<|.int (n:Int))<|.len<|.arg 0).holds [] {args:=[.list<|ns.map .int]}=true:=by
   have h4:=(holds_andW hc).1;rw[hn] at h4;exact h4
  have h5:=condW_of h4 (w_not<|w_lt w_lit<|w_len_list<|w_arg rfl);rw[zai] at h5;refine Nat.le_of_not_lt fun q=>?_;have q':(n:Int) < ((ns.length:Nat):Int):=by omega
  first
   | (rw[zqT q'] at h5;exact absurd h5 (by decide))
   | (simp at h5;omega)
 cases jz with
 |cons w1 w2=>
  cases w2;cases w1 with
  |list ho KZ=>exact⟨_,_,ns,rfl,rfl,ho,KU ns _ KZ,hlen⟩
theorem K0(l:OpenLaw)(args:List WData):l.row.toRowW.claim.post args (.bool true) args=true:=
 postW_of (r:=l.row.toRowW) (X:=(true==true))
  (show WShape.has [] (.bool true) .bool=true by first|rfl|decide|simp[WShape.has,WShape.arms,WShape.armsAll])
  (show(WTm.eq .res<|.lit<|.bool true).value [] {args:=args,res:=some (.bool true),after:=args}=some (.bool<|true==true) from w_eq_bool (w_res rfl) w_lit) rfl
theorem K1{l:OpenLaw}{n:Nat}{q:Program}{loose:List Str}{XP:(Str->Option Value)->Heap->Prop}{YP:World->Heap->Prop}{d:DefRec}
  (hn:l.most=some n) (nU:d.params.defaults=[])
  (call:∀(w:World) (s₀ s₁:Shared) (mg mb:Str->Option Value) (fa:Addr) (o:Obj) (pm cd doc:Value) (a:Addr) (vs:List Value) (ns:List Int),
   Ground q loose [] XP w s₀ mg mb s₁.heap->YP w s₁.heap->
   s₁.heap.get? fa=some o->o.data=.func (docDef d.name d.params d.body d.scope pm cd doc)->s₁.heap.CodeRec cd d.name->mg d.name=some (.ref fa)->
   s₁.heap.get? a=some {cls:=.type "list",data:=.seq vs.toArray}->IntsAre vs ns->ns.length<=n->s₁.gens= #[]->
   codeAny (model l.prog w) callerA (.call (.ref fa) ⟨[.ref a],[]⟩) (fun r s'=>r=.ok (.ret (.bool true))/\OldK s₁.heap s'.heap/\s'.os=s₁.os/\AllBare s'.gens) s₁):
  WalkO q loose XP YP l.row.toRowW d [] (fun f vs=>PySem.call f vs):=by
 intro w s₀ s₁ mg mb G Y fa o pm cd doc dV kV ho hd gc hD kz hg args vals as mD Yu Yv jz Yw;obtain rfl:dV=.none:=Dflts.none hD nU;obtain rfl:kV=.none:=Dflts.noKw hD;obtain⟨a,vs,ns,rfl,rfl,uz,hints,hlen⟩:=KW hn mD jz;refine enter_call<|codeAny_mono (call w s₀ s₁ mg mb fa o pm cd doc a vs ns G Y ho (fd_plain hd) gc kz uz hints hlen hg) fun r s' hq=>?_;obtain⟨rfl,h2,h3,h4⟩:=hq;exact⟨.inl ⟨.bool true,.bool true,[],rfl,fun _=>rfl,.bool true,K0 l _,fun _=>⟨List.Pairwise.nil,fun _ hm=>(nomatch hm)⟩⟩,h2,h3,h4⟩
section
variable {prog:Program}{w:World}{A:Around}{E:Value->Shared->Prop}{s:Shared}{K:Frag}
end
end Ag
namespace L2
open PySem PySem.Spec PyProof.Rows
theorem Ah:∀{vs:List Value}{ns:List Int},IntsAre vs ns->Vals (ns.map V.int) vs
 |_,_,.nil=>.nil
 |_,_,.cons n t h=>.cons ⟨t,rfl⟩ (Ah h)
def uA(H:Hp):Prop:= ∀b,H b=none\/∃o xs,H b=some (.bJ o<|.lst xs)
theorem K2{P:Program}{w:World}{K:Frag}{mg mb:Str->Option Value}{CX:bP}{k:Nat}{fa a:Addr}{fd:FuncData}{x:Str}{sp:Sp}{s₁:Shared}{vs:List Value}{ns:List Int}
  (KX:K.In s₁.heap) (nV:s₁.heap.Ns mainGlobals mg) (hb:s₁.heap.Ns builtinsNs mb) (K3:∀x:Str,x≠"__name__"->mb x=bootBuiltins x) (K4:s₁.heap.NoLimit) (hg:s₁.gens= #[])
  (ha:s₁.heap.get? a=some {cls:=.type "list",data:=.seq vs.toArray}) (hi:IntsAre vs ns) (hl:ns.length<=sizeLine) (hr:cj k callerA)
  (F:∀base:Heap,K.In base->base.Ns mainGlobals mg->b7 P w K mg base CX k fa fd [x] sp) (K5:∀(s:Shared) (u:Value),BindsTo s fd ⟨[u],[]⟩ [(x,u)])
  (jv:∀H:Hp,uA H->ay K H a (ns.map V.int)->sp [.ref a] H (fun v _=>v=.bl true) fun _ _ _=>False)
  (uB:∀H e s',CX [] H s₁ (fun _ _ _=>False) e s'->False):
  codeAny (model P w) callerA (.call (.ref fa) ⟨[.ref a],[]⟩) (fun r s'=>r=.ok (.ret<|.bool true)/\OldK s₁.heap s'.heap/\s'.os=s₁.os/\AllBare s'.gens) s₁:=by
 have rv:=Ah hi;have nW:=hi.length;have core:∀H:Hp,uA H->ay K H a (ns.map V.int)->b9 P w H s₁.heap->(∀b,H b≠none->b=a)->(H a≠none->K.lookup a=none)->
   codeAny (model P w) callerA (.call (.ref fa) ⟨[.ref a],[]⟩) (fun r s'=>r=.ok (.ret<|.bool true)/\OldK s₁.heap s'.heap/\s'.os=s₁.os/\AllBare s'.gens) s₁:=by
  intro H hO hS aH hA hK;have kA:∀{b:Addr}{o:Obj},s₁.heap.get? b=some o->H b=none->(iY s₁.heap H).get? b=some o:=fun e n=>HQ e n;have nP:∀{b:Addr}{o:Obj}{es:Array DictEntry}{ep:Nat},s₁.heap.get? b=some o->o.data=.dict es ep->H b=none:=fun {b o es ep} e d=>by
   cases q:H b with
   |none=>rfl
   |some u=>
    have e':b=a:=hA b (by rw[q];simp)
    subst e';rw[ha] at e;cases e;have d':Data.seq vs.toArray _=Data.dict es ep:=d;cases d'
  have qp:∀{b:Addr}{m:Str->Option Value},s₁.heap.Ns b m->(iY s₁.heap H).Ns b m:=fun {b m} ⟨o,es,ep,e,d,r⟩=>⟨o,es,ep,kA e<|nP e d,d,r⟩;have Ai:K.In (iY s₁.heap H):=fun b o e=>kA (KX b o e) (by
   cases q:H b with
   |none=>rfl
   |some u=>
    have e':b=a:=hA b (by rw[q];simp)
    subst e';rw[hK (by rw[q];simp)] at e;cases e)
  have hM:Mod K mg (iY s₁.heap H):=⟨Ai,qp nV,⟨mb,qp hb,K3⟩,let ⟨mc,h1,h2⟩:=K4;⟨mc,qp h1,h2⟩⟩;have e0:ju P w K mg (iY s₁.heap H) callerA [] s₁ H:=⟨rfl,hM,fun b o e=>HR e,Nat.le_of_eq<|HP _ _,trivial,fun b hb=>absurd (show b∈ ([]:List Addr) from hb) (by simp),aH,.of_eq hg⟩
  refine codeAny_mono ((F _ Ai<|qp nV).run callerA [] s₁ H ⟨[.ref a],[]⟩ [.ref a] [.ref a] _ _ hr e0 (K5 s₁<|.ref a) (.cons rfl .nil)<|jv H hO hS) fun r s' h=>?_;cases r with
  |error e=>exact(uB H e s' h).elim
  |ok fl=>
   cases fl with
   |next=>exact False.elim h
   |brk=>exact False.elim h
   |cont=>exact False.elim h
   |ret u=>
    obtain⟨v,H',os,bare,un,K6,r',q⟩:=h;have q':v=.bl true:=q;subst q';obtain rfl:u=Value.bool true:=r';refine⟨rfl,OldK.of_keep fun b o e=>?_,os,bare⟩;cases q:H b with
    |none=>exact un.keep b o e q (by intro z;exact absurd (show b∈ ([]:List Addr) from z) (by simp)) (by simp)
    |some u=>
     rcases hO b with z|⟨ob,xs,z⟩
     ·rw[q] at z;cases z
     ·have z2:=un.e_ b ob _ z;obtain⟨e1,_⟩:=aH b _ z;obtain⟨e2,_⟩:=K6 b _ z2;rw[e] at e1;cases e1;exact e2
 cases hk:K.lookup a with
 |some o=>
  have e:=KX a o hk;rw[ha] at e;cases e;refine core (fun _=>none) (fun _=>.inl rfl) (.inr ⟨_,vs.toArray,_,hk,rfl,rfl,rfl,by rw[zac,nW];exact hl,by simpa using rv⟩) (fun b u z=>by have z':(none:Option HO)=some u:=z;cases z') (fun b z=>absurd rfl z) fun z=>absurd rfl z
 |none=>
  refine core (fun b=>if b=a then some (.bJ {cls:=.type "list",data:=.seq vs.toArray}<|.lst<|ns.map V.int) else none) (fun b=>?_) (.inl<|.inr ⟨{cls:=.type "list",data:=.seq vs.toArray},if_pos rfl⟩) (fun b u z=>?_) (fun b z=>?_) fun _=>hk
  ·by_cases hb:b=a
   ·exact .inr ⟨_,_,if_pos hb⟩
   ·exact .inl (if_neg hb)
  ·by_cases hb:b=a
   ·have z':=(if_pos hb).symm.trans z;cases z';subst hb;exact⟨ha,by rw[zai];exact hl,vs,_,rv,ha⟩
   ·have z':=(if_neg hb).symm.trans z;cases z'
  ·by_cases hb:b=a
   ·exact hb
   ·exact absurd (if_neg hb) z
theorem K7{l:PySem.W.OpenLaw}{n k:Nat}{q:Program}{loose:List Str}{XP:(Str->Option Value)->Heap->Prop}{YP:World->Heap->Prop}{d:DefRec}{K:Params->Frag}{CX:World->bP}{sp:World->Sp}{x:Str}
  (hn:l.most=some n) (jt:n<=sizeLine) (nU:d.params.defaults=[]) (hr:cj k callerA)
  (hY:∀(w:World) (h:Heap),YP w h->(K w.params).In h)
  (F:∀(w:World) (mg:Str->Option Value) (fa:Addr) (h:Heap),(K w.params).In h->h.Ns mainGlobals mg->mg d.name=some (.ref fa)->
   ∃fd:FuncData,(∀(s:Shared) (u:Value),BindsTo s fd ⟨[u],[]⟩ [(x,u)])/\
    ∀base:Heap,(K w.params).In base->base.Ns mainGlobals mg->b7 l.prog w (K w.params) mg base (CX w) k fa fd [x] (sp w))
  (jv:∀(w:World) (H:Hp) (a:Addr) (ns:List Int),ns.length<=n->uA H->ay (K w.params) H a (ns.map V.int)->sp w [.ref a] H (fun v _=>v=.bl true) fun _ _ _=>False)
  (uB:∀(w:World) (H:Hp) (s:Shared) (e:Value) (s':Shared),CX w [] H s (fun _ _ _=>False) e s'->False):
  PySem.W.WalkO q loose XP YP l.row.toRowW d [] (fun f vs=>PySem.call f vs):=by
 refine Ag.K1 hn nU fun w s₀ s₁ mg mb fa o pm cd doc a vs ns G Y ho hd gc kz uz hints hlen hg=>?_;have KX:=hY w _ Y;obtain⟨fd,hb,hF⟩:=F w mg fa _ KX G.T.g kz;exact K2 KX G.T.g G.T.b G.T.builtins G.T.nolimit hg uz hints (zar hlen jt) hr hF hb (fun H hO hS=>jv w H a ns hlen hO hS) fun H e s'=>uB w H s₁ e s'
end L2
namespace L2
open PySem PySem.Spec PyProof.Rows
def inClass(s:Stmt)(j:Nat):Stmt:=match s with
 |.ClassDef _ _ _ body _ _ _ _ _ _ _=>body.getD j (.Pass ⟨0,0,0,0⟩)
 |_=>.Pass ⟨0,0,0,0⟩
def gf(s:Stmt):Arguments:=match s with
 |.FunctionDef _ a _ _ _ _ _ _ _ _=>a
 |_=> {posonlyargs:=[],args:=[],vararg:=none,kwonlyargs:=[],kw_defaults:=[],kwarg:=none,defaults:=[]}
def dG(s:Stmt):List Stmt:=match s with
 |.FunctionDef _ _ b _ _ _ _ _ _ _=>b
 |_=>[]
def dr(s:Stmt):Scope:=match s with
 |.FunctionDef _ _ _ _ _ _ sc _ _ _=>sc
 |_=> {kind:=.function,names:=[],isGenerator:=false,isCoroutine:=false}
abbrev nX:bP:=fun _ _ _ _ _ _=>False
abbrev E0:XK:=fun _ _ _=>False
structure jA (K:Frag) (x qual:Str) (st:Stmt) (f:Addr) (fd:FuncData):Prop where
 ex:∃(oc:Value) (od:Option Addr) (kV doc pm:Value) (an:Option Addr) (bw ct:Value) (fc:Array (Option Value)),
  fd=PySem.W.fnOf x qual (gf st) (dG st) (dr st) .none kV doc pm an bw ct/\K.lookup f=some ⟨oc,od,.func fd,fc⟩/\PySem.W.codeIn K bw qual=true
 kp:PySem.W.keepIn K (.ref f)=true
section
variable {P:Program}{w:World}{K:Frag}{mg:Str->Option Value}{base:Heap}
theorem jA.binds{x qual:Str}{st:Stmt}{f:Addr}{fd:FuncData}{ps:List Str}(F:jA K x qual st f fd)
  (h:∀(kV doc pm:Value) (an:Option Addr) (bw ct:Value) (us:List Value),us.length=ps.length->bindArgs (PySem.W.fnOf x qual (gf st) (dG st) (dr st) .none kV doc pm an bw ct) ⟨us,[]⟩=pure (ps.zip us)):Binds K fd ps []:=by
 obtain⟨oc,od,kV,doc,pm,an,bw,ct,fc,rfl,lk,gc⟩:=F.ex;exact .all<|h kV doc pm an bw ct
theorem Aj{x qual:Str}{st:Stmt}{f:Addr}{oc:Value}{od an:Option Addr}{fc:Array (Option Value)}{kV doc pm bw ct:Value}(l:K.lookup f=some ⟨oc,od,.func<|PySem.W.fnOf x qual (gf st) (dG st) (dr st) .none kV doc pm an bw ct,fc⟩)
  (c:PySem.W.codeIn K bw qual=true) (k:PySem.W.keepIn K (.ref f)=true):jA K x qual st f (PySem.W.fnOf x qual (gf st) (dG st) (dr st) .none kV doc pm an bw ct):=⟨⟨oc,od,kV,doc,pm,an,bw,ct,fc,rfl,l,c⟩,k⟩
end
theorem iw{A B:Prop}(h:B):if false=true then A else B:=by
 rw[if_neg zaf];exact h
theorem d6{A B:Prop}(h:A):if true=true then A else B:=by
 rw[if_pos rfl];exact h
theorem d9{c A B:Prop}[Decidable c](h1:c->A)(h2:¬c->B):if c then A else B:=by
 by_cases h:c
 ·rw[if_pos h];exact h1 h
 ·rw[if_neg h];exact h2 h
def aF(H H':Hp):Prop:= ∀b o,H b=some o->H' b=some o
theorem aF.refl(H:Hp):aF H H:=fun _ _ h=>h
theorem aF.trans{H H1 H2:Hp}(a:aF H H1)(b:aF H1 H2):aF H H2:=fun c o h=>b c o (a c o h)
theorem aF.free{H H':Hp}(e:aF H H'){l:Addr}(h:H' l=Option.none):H l=Option.none:=by
 cases q:H l with
 |none=>rfl
 |some o=>
  rw[e l o q] at h;cases h
theorem aF.seq{K:Frag}{H H':Hp}{a:Addr}{xs:List V}(e:aF H H')(h:ay K H a xs):ay K H' a xs:=by
 rcases h with(h|⟨o,h⟩)|h
 ·exact .inl (.inl<|e _ _ h)
 ·exact .inl (.inr ⟨o,e _ _ h⟩)
 ·exact .inr h
section
variable {κ:Type} [DecidableEq κ]
def Ak(aL:List (κ×V))(k:κ):Option V:=(aL.find? fun kv=>decide (kv.1=k)).map (·.2)
def putK(aL:List (κ×V))(k:κ)(v:V):List (κ×V):=
 if (aL.any fun kv=>decide (kv.1=k))=true then aL.map (fun kv=>if kv.1=k then (kv.1,v) else kv) else aL++[(k,v)]
end
def qt(H:Hp)(a:Addr)(y:V)(r:Option V):Prop:=
 (∃aL k,Rd H a (.dK aL)/\y=kV k/\r=Ak aL k)\/∃aL k b,Rd H a (.dT aL)/\y=.ref b/\H b=some (.tup<|k.map kV)/\r=Ak aL k
def K8(H:Hp)(a:Addr)(y v:V)(H':Hp):Prop:=
 (∃aL k,H a=some (.dK aL)/\y=kV k/\aL.length<sizeLine/\H'=upd H a (.dK<|putK aL k v))\/
 ∃aL k b,H a=some (.dT aL)/\y=.ref b/\H b=some (.tup<|k.map kV)/\aL.length<sizeLine/\H'=upd H a (.dT<|putK aL k v)
def K9(td ty:TE):TE:=fun σ H Q=>td σ H fun x H1=>ty σ H1 fun y H2=>∃a v,x=.ref a/\qt H2 a y (some v)/\Q v H2
def Al(ty td:TE):TE:=fun σ H Q=>ty σ H fun y H1=>td σ H1 fun x H2=>∃a o,x=.ref a/\qt H2 a y o/\Q (.bl o.isSome) H2
def Am(ty td:TE):TE:=fun σ H Q=>ty σ H fun y H1=>td σ H1 fun x H2=>∃a o,x=.ref a/\qt H2 a y o/\Q (.bl<|!o.isSome) H2
def K_(td ty tv:TE):TS:=fun D σ H=>tv σ H fun v H1=>td σ H1 fun x H2=>ty σ H2 fun y H3=>∃a H4,x=.ref a/\K8 H3 a y v H4/\D.nx σ H4
def La:TE:=fun _ H Q=>∀p,H p=none->Q (.ref p) (upd H p<|.dT [])
def Lb(H:Hp)(a:Addr):Prop:=(∃aL,Rd H a<|.dK aL)\/∃aL,Rd H a (.dT aL)
def Lc(td ty tx:TE):TE:=fun σ H Q=>td σ H fun x H1=>∃a,x=.ref a/\Lb H1 a/\ty σ H1 fun y H2=>tx σ H2 fun z H3=>∃o,qt H3 a y o/\Q (o.getD z) H3
end L2
set_option maxHeartbeats 4000000
namespace L2
open PySem PySem.Spec PyProof.Rows
section
variable {X:Cx}{pins:List (Addr×Obj)}{σ:St}{H:Hp}{s:Shared}{a:Addr}{o:HO}
theorem Inv.uC(I:Inv X pins σ H s)(hn:H a=none)(h0:X.s₀.heap.objs.size<=a)(hL:a≠X.env.locals)(hC:∀x c,X.env.cells.lookup x=some c->c≠a)
  (hp:∀p∈X.pn++pins,p.1≠a) (new:cJ X.prog X.w (upd H a o) s.heap a o):Inv X pins σ (upd H a o) s:=by
 have Ld:∀b u,X.s₀.heap.get? b=some u->b≠a:=fun b u e=>zal (zaq (Heap.lt_size e) h0);have nY:∀b u,H b=some u->b≠a:=fun b u e=>bK e hn;refine⟨I.ok,I.os,I.bare,⟨I.base.keep,I.base.slot,fun b u e n hx=>?_,I.base.there,fun b xs e=>?_,fun b u xs e=>?_,fun b ps e=>?_⟩,I.loc,I.cell,?_,fun x c e=>?_,fun p q=>?_,fun b u e=>?_,I.len⟩
 ·rw[aI<|Ld b u e];exact I.base.free b u e n hx
 ·have z:=I.base.b_ b xs e;rw[aI<|nY b _ z];exact z
 ·have z:=I.base.e_ b u xs e;rw[aI<|nY b _ z];exact z
 ·obtain⟨m,z⟩:=I.base.fK b ps e;exact⟨m,by rw[aI<|nY b _ z];exact z⟩
 ·rw[aI<|Ne.symm hL];exact I.free
 ·rw[aI<|hC x c e];exact I.iZ x c e
 ·obtain⟨z1,z2,z3⟩:=I.pin p q;exact⟨z1,by rw[aI<|hp p q];exact z2,z3⟩
 ·by_cases hb:b=a
  ·subst hb;rw[aG] at e;cases e;exact new
  ·rw[aI hb] at e;exact(I.aH b u e).gL (fun _ _ _ q=>q) (fun c q=>by rw[aI<|nY c _ q];exact q) fun c xs q=>by rw[aI<|nY c _ q];exact q
end
def cC(cells:List (Str×Addr)):List (Str×NameKind)->List (Str×Addr)->List (Str×Addr)
 |[],acc=>acc
 |(n,k)::r,acc=>cC cells r (if k=.free then (n,(cells.lookup n).getD 0)::acc else acc)
theorem An(env:Env):∀(names:List (Str×NameKind)) (acc:List (Str×Addr)),(∀y∈names,y.2=.free->∃c,env.cells.lookup y.1=some c)->
  (forIn names acc (fun(x:Str×NameKind) (cs:List (Str×Addr))=>match x with
   |(name,kind)=>if (kind==NameKind.free)=true then do let a <-cellOf env name;pure (ForInStep.yield ((name,a)::cs)) else pure (ForInStep.yield cs)):Sem (List (Str×Addr)))=pure (cC env.cells names acc)
 |[],acc,_=>rfl
 |(n,k)::r,acc,h=>by
  have hr:=fun uD=>An env r uD fun y hy=>h y (zam _ hy);rw[zbm];by_cases hk:k=.free
  ·subst hk;obtain⟨c,e⟩:=h (n,.free) zan rfl;have e':cellOf env n=pure c:=by unfold cellOf;rw[e]
   have ec:cC env.cells ((n,.free)::r) acc=cC env.cells r ((n,c)::acc):=by simp[cC,e]
   rw[ec,<-hr]
   simp[e']
  ·have hb:(k==NameKind.free)=false:=by simpa using hk
   have ec:cC env.cells ((n,k)::r) acc=cC env.cells r acc:=by simp[cC,hk]
   rw[ec,<-hr]
   simp[hb]
theorem Le{scope:Scope}{env:Env}(h:∀y∈scope.names,y.2=.free->∃c,env.cells.lookup y.1=some c):closureFor scope env=pure (cC env.cells scope.names []):=by
 have:=An env scope.names [] h
 simp only[closureFor]
 rw[<-this]
 simp
theorem Ao{cells:List (Str×Addr)}:∀(names:List (Str×NameKind)) (acc:List (Str×Addr)) (x:Str) (c:Addr),(cC cells names acc).lookup x=some c->(acc.lookup x=some c)\/((x,.free)∈names/\(cells.lookup x).getD 0=c)
 |[],acc,x,c,h=>.inl h
 |(n,k)::r,acc,x,c,h=>by
  simp only[cC] at h
  rcases Ao r _ x c h with z|⟨z1,z2⟩
  ·by_cases hk:k=.free
   ·subst hk
    simp only[if_true] at z
    rw[zaP] at z;by_cases hx:x==n
    ·simp only[hx] at z
     have Lf:x=n:=eq_of_beq hx;subst Lf;exact .inr ⟨zan,zak z⟩
    ·have dD:(x==n)=false:=by simpa using hx
     simp only[dD] at z
     exact .inl z
   ·simp only[if_neg hk] at z
    exact .inl z
  ·exact .inr ⟨zam _ z1,z2⟩
theorem uE{cells:List (Str×Addr)}:∀(names:List (Str×NameKind)) (acc:List (Str×Addr)) (x:Str),((x,NameKind.free)∈names\/∃c,acc.lookup x=some c)->∃c,(cC cells names acc).lookup x=some c
 |[],acc,x,h=>by
  rcases h with h|h
  ·cases h
  ·exact h
 |(n,k)::r,acc,x,h=>by
  simp only[cC]
  refine uE r _ x ?_;rcases h with h|⟨c,h⟩
  ·rcases zad.mp h with e|h
   ·cases e;refine .inr ?_
    simp[zaP]
   ·exact .inl h
  ·refine .inr ?_;by_cases hk:k=.free
   ·simp only[if_pos hk,zaP]
    cases hx:x==n
    ·exact⟨c,h⟩
    ·exact⟨_,rfl⟩
   ·simp only[if_neg hk];exact⟨c,h⟩
theorem Ap{env:Env}:∀(names:List (Str×NameKind)) (x:Str),
  (names.map fun(n,k)=>if (k==NameKind.free && env.scope.kind==.function && env.kindOf n==some .cell) then (n,NameKind.cell) else (n,k)).lookup x=
   (names.lookup x).map fun k=>if (k==NameKind.free && env.scope.kind==.function && env.kindOf x==some .cell) then NameKind.cell else k
 |[],_=>rfl
 |(n,k)::r,x=>by
  have ih:=Ap (env:=env) r x;show List.lookup x ((if (k==NameKind.free && env.scope.kind==.function && env.kindOf n==some .cell)=true then (n,NameKind.cell) else (n,k))::_)=_
  cases hx:x==n with
  |true=>
   have e:x=n:=eq_of_beq hx;subst e;by_cases hc:(k==NameKind.free && env.scope.kind==.function && env.kindOf x==some .cell)=true
   ·rw[if_pos hc];simp only[zaP,beq_self_eq_true,zbb];rw[if_pos hc]
   ·rw[if_neg hc];simp only[zaP,beq_self_eq_true,zbb];rw[if_neg hc]
  |false=>
   by_cases hc:(k==NameKind.free && env.scope.kind==.function && env.kindOf n==some .cell)=true
   ·rw[if_pos hc];simp only[zaP,hx];exact ih
   ·rw[if_neg hc];simp only[zaP,hx];exact ih
section
variable {prog:Program}{w:World}{A:Around}{R:Result->Shared->Prop}{s:Shared}
theorem Lg{elt target iter:Expr}{ifs:List Expr}{scope:Scope}{pos:Pos}{it acc:Value}{env:Env}(I:Nat->Shared->Prop)
  (turn:∀n s,I n s->wpAny (model prog w) A (pyNext it) (fun r s₁=>match r with
   |none=>R (.ok .next) s₁
   |some v=>wpAny (model prog w) A (letOwnedTupleGo target it v) (fun _ Aq=>wpAny (model prog w) A (assign target env v) (fun _ s₂=>
     wpAny (model prog w) A (forIn ifs true fun c r=>if r=true then do let ok <-isTrue c env (eval c env);pure (ForInStep.yield ok) else pure (ForInStep.yield r)) (fun ok s₃=>
      if ok=true then wpAny (model prog w) A (eval elt env) (fun x s₄=>
       wpAny (model prog w) A (call (.builtin "list.append") [acc,x]) (fun _ s₅=>∃m,m<n/\I m s₅) (fun _ _=>False) s₄) (fun _ _=>False) s₃
      else ∃m,m<n/\I m s₃) (fun _ _=>False) s₂) (fun _ _=>False) Aq) (fun _ _=>False) s₁) (fun _ _=>False) s)
  (n:Nat) (h:I n s):codeAny (model prog w) A (.compLoop (.ListComp elt [⟨target,iter,ifs,0⟩] scope pos) 0 it acc env) R s:=by
 refine codeAny_loop rfl I (fun n s hI=>?_) n h;show wpAny _ A ((compTurn (.ListComp elt [⟨target,iter,ifs,0⟩] scope pos) 0 it acc env).onRaise (fun x=>do noteFrame x env;theTreesLotGoes x)) _ _ s
 refine wpAny_noted ?_;rw[compTurn_list];refine wpAny_bind<|wpAny_standAt<|wpAny_bind<|wpAny_mono (turn n s hI) (fun r s₁ h₁=>?_) fun _ _ h'=>h'.elim;cases r with
 |none=>exact wpAny_pure h₁
 |some v=>
  refine wpAny_bind<|wpAny_mono h₁ (fun _ Aq Lh=>?_) fun _ _ h'=>h'.elim;refine wpAny_bind<|wpAny_mono Lh (fun _ s₂ h₂=>wpAny_bind<|wpAny_mono h₂ (fun ok s₃ h₃=>?_) fun _ _ h'=>h'.elim) fun _ _ h'=>h'.elim;cases ok with
  |false=>exact wpAny_pure ⟨rfl,h₃⟩
  |true=>
   exact wpAny_bind<|wpAny_bind<|wpAny_mono h₃ (fun x s₄ h₄=>wpAny_bind<|wpAny_mono h₄ (fun _ s₅ h₅=>wpAny_pure<|wpAny_pure ⟨rfl,h₅⟩) fun _ _ h'=>h'.elim) fun _ _ h'=>h'.elim
end
def fj(X:Cx)(scope:Scope)(N:List Str)(ex:List Addr)(C:Addr)(s:Shared)(H:Hp):Cx where
 prog:=X.prog
 w:=X.w
 K:=X.K
 mg:=X.mg
 base:=X.base
 A:=X.A
 N:=N
 s₀:=s
 H₀:=H
 env:=compEnvC scope (cC X.env.cells scope.names []) C X.env
 outer:=X.stack
 stack:=X.stack
 ex:=ex
 fn:=fun _=>false
 calm:=X.calm
 pn:=[]
 xe:=fun _ _=>False
structure i7 (X:Cx) (scope:Scope) (ln:List Str) (fv:List (Str×Nat)):Prop where
 kind:scope.kind=.function
 Ar:∀y∈scope.names,y.2≠ .cell
 locals:∀y∈scope.names,y.2=.local->scope.names.lookup y.1=some .local
 free:∀y∈scope.names,y.2=.free->(X.env.kindOf y.1=some .cell\/X.env.kindOf y.1=some .free)
 Li:∀p∈fv,X.N[p.2]?=some p.1/\scope.names.lookup p.1=some .free
def bT(σ:St)(fv:List (Str×Nat)):St:=fv.map fun p=>(σ[p.2]?).join
def gQ(K:Frag):Option Nat->V->Hp->(List V->Prop)->Prop
 |none,x,_,Q=>Q [x]
 |some n,x,H,Q=>if n=102 then ∃a xs,x=.ref a/\ay K H a xs/\xs.length=2/\Q xs else ∃a xs,x=.ref a/\aO K H a xs/\xs.length=n/\Q xs
theorem Lj{K:Frag}{n:Nat}{x:V}{H:Hp}{P Q:List V->Prop}(h:gQ K (some n) x H P)(k:∀xs,P xs->Q xs):gQ K (some n) x H Q:=by
 by_cases e:n=102
 ·have h:if n=102 then ∃a xs,x=.ref a/\ay K H a xs/\xs.length=2/\P xs else ∃a xs,x=.ref a/\aO K H a xs/\xs.length=n/\P xs:=h
  show if n=102 then ∃a xs,x=.ref a/\ay K H a xs/\xs.length=2/\Q xs else ∃a xs,x=.ref a/\aO K H a xs/\xs.length=n/\Q xs
  rw[if_pos e] at h⊢;obtain⟨a,xs,e1,e2,e3,q⟩:=h;exact⟨a,xs,e1,e2,e3,k _ q⟩
 ·have h:if n=102 then ∃a xs,x=.ref a/\ay K H a xs/\xs.length=2/\P xs else ∃a xs,x=.ref a/\aO K H a xs/\xs.length=n/\P xs:=h
  show if n=102 then ∃a xs,x=.ref a/\ay K H a xs/\xs.length=2/\Q xs else ∃a xs,x=.ref a/\aO K H a xs/\xs.length=n/\Q xs
  rw[if_neg e] at h⊢;obtain⟨a,xs,e1,e2,e3,q⟩:=h;exact⟨a,xs,e1,e2,e3,k _ q⟩
def jB:Option TT->TT
 |none=>fun _ H k=>k true H
 |some t=>t
def nZ(K:Frag)(wi:TI)(tk:Option Nat)(fv:List (Str×Nat))(tc:Option TT)(te:TE):TE:=fun σ H Q=>
 wi σ H fun J H1=>∃W:Nat->Nat->List V->Hp->Prop,(∃m,W 0 m [] H1)/\∀i m ys H2,W i m ys H2->
  (J.stop i H2/\∀p,H2 p=none->Q (.ref p) (upd H2 p<|.lst ys))\/
  (J.go i H2/\∀x H3,J.dE i H2 x H3->gQ K tk x H3 fun xs=>
   jB tc (xs.map some++bT σ fv) H3 fun b H5=>
    if b=true then te (xs.map some++bT σ fv) H5 fun y H6=>ys.length<sizeLine/\∃m',m'<m/\W (i+1) m' (ys++[y]) H6
    else ∃m',m'<m/\W (i+1) m' ys H5)
section
variable {X:Cx}{pins:List (Addr×Obj)}{σ:St}{H:Hp}{s₂ s₃:Shared}{scope:Scope}{ln:List Str}{fv:List (Str×Nat)}{fp:List Addr}{h₁:Heap}{D C:Addr}{m:Str->Option Value}{t:Nat}
theorem i7.cells(S:i7 X scope ln fv)(I:Inv X pins σ H s₂){x:Str}{c:Addr}(h:(cC X.env.cells scope.names []).lookup x=some c):X.env.cells.lookup x=some c/\(x,NameKind.free)∈scope.names:=by
 rcases Ao _ _ _ _ h with z|⟨z1,z2⟩
 ·cases z
 ·obtain⟨c',e⟩:=I.ok.has x (S.free _ z1 rfl);rw[e] at z2;have z3:c'=c:=z2;subst z3;exact⟨e,z1⟩
theorem i7.Lk(S:i7 X scope ln fv)(I:Inv X pins σ H s₂):closureFor scope X.env=pure (cC X.env.cells scope.names []):=
 Le fun y hy hk=>I.ok.has y.1 (S.free y hy hk)
theorem Ll(S:i7 X scope ln fv)(I:Inv X pins σ H s₂)(f2:∀b∈fp,gd X pins H b)(n_:∀b∈fp,∃o,s₂.heap.get? b=some o)
  (os:s₃.os=s₂.os) (gens:s₃.gens=s₂.gens) (k3:∀b o,s₂.heap.get? b=some o->s₃.heap.get? b=some o) (hD:D=s₂.heap.objs.size) (h3:s₃.heap.objs.size=s₂.heap.objs.size+1) (hC:C=s₃.heap.objs.size)
  (k4:∀b o,s₃.heap.get? b=some o->h₁.get? b=some o) (nV:h₁.Ns C m):
  Inv (fj X scope (ln++fv.map (·.1)) (D::fp) C s₃ H) [] (ln.map (fun _=>none)++bT σ fv) H {s₃ with heap:=h₁,toks:=t}:=by
 have cl:∀{x c},(cC X.env.cells scope.names []).lookup x=some c->X.env.cells.lookup x=some c:=fun h=>(S.cells I h).1;have Lm:∀{x c},(cC X.env.cells scope.names []).lookup x=some c->c<s₂.heap.objs.size:=fun h=>by
  obtain⟨v,q⟩:=I.cell _ _ (cl h);exact q.lt
 have Ln:∀b∈fp,b<s₂.heap.objs.size:=fun b hb=>by obtain⟨o,e⟩:=n_ b hb;exact Heap.lt_size e
 have Lo:∀b∈D::fp,b<=s₂.heap.objs.size:=fun b hb=>by
  rcases zad.mp hb with e|hb
  ·rw[e,hD];exact zqR _
  ·exact Nat.le_of_lt (Ln b hb)
 have As:∀x,(relabel scope X.env).names.lookup x=(scope.names.lookup x).map fun k=>if (k==NameKind.free && X.env.scope.kind==.function && X.env.kindOf x==some .cell) then NameKind.cell else k:=fun x=>Ap scope.names x
 have Lp:∀x,scope.names.lookup x=some .free->((relabel scope X.env).names.lookup x=some .cell\/(relabel scope X.env).names.lookup x=some .free):=fun x e=>by
  rw[As,e]
  simp only[zbb]
  split
  ·exact .inl rfl
  ·exact .inr rfl
 have Lq:∀x,((relabel scope X.env).names.lookup x=some .cell\/(relabel scope X.env).names.lookup x=some .free)->(x,NameKind.free)∈scope.names:=fun x e=>by
  rw[As] at e;cases q:scope.names.lookup x with
  |none=>rw[q] at e;rcases e with e|e<;>cases e
  |some k=>
   rw[q] at e;have hm:(x,k)∈scope.names:=PySem.mem_of_lookup q
   simp only[zbb] at e
   by_cases hk:k=.free
   ·rw[hk] at hm;exact hm
   ·have hb:(k==NameKind.free)=false:=by simpa using hk
    simp only[hb,Bool.false_and,Bool.false_eq_true,if_false] at e
    rcases e with e|e
    ·exact absurd (zak e) (S.Ar _ hm)
    ·exact absurd (zak e) hk
 refine⟨⟨I.ok.mod,S.kind,I.ok.glob,I.ok.blt,Nat.le_of_eq hC.symm,fun x y c h1 h2=>I.ok.inj x y c (cl h1) (cl h2),fun x hx=>uE _ _ x (.inl (Lq x hx)),fun x c h _=>(by cases h),I.ok.hd,I.ok.frames,.inl rfl,fun b hb=>⟨?_,fun x c e=>?_⟩,fun b o e=>⟨k3 b o (I.bs b o e).1,(I.bs b o e).2⟩,?_,fun b o e hb=>?_,fun b hb hf=>?_,?_,I.pP⟩,
  rfl,?_,Un.kept fun b u e=>k4 b u e,⟨m,nV,fun i x v e1 e2 e3=>?_⟩,fun x c e=>?_,I.aH.fresh ?_,fun x c e=>I.iZ x c (cl e),fun p hp=>absurd (show p∈ ([]:List (Addr×Obj)) from hp) (by simp),I.aH.kept fun b u e=>k4 b u (k3 b u e),?_⟩
 ·show b≠C;have:=Lo b hb;rw[hC,h3];exact zal (Nat.lt_succ_of_le this)
 ·have q1:=Lm e;rcases zad.mp hb with z|z
  ·rw[z,hD];exact zal q1
  ·exact(f2 b z).2.2.2.2.1 x c (cl e)
 ·show X.base.objs.size<=s₃.heap.objs.size;have:=zar I.ok.mh I.sz;lia
 ·have e2:=(I.bs b o e).1;have uF:b∈D::fp:=hb;rcases zad.mp uF with z|z
  ·have:=Heap.lt_size e2;rw[z,hD] at this;exact zax _ this
  ·rcases (f2 b z).2.2.2.1 with q|q
   ·exact I.ok.tw b o e q
   ·exact absurd (zaq (Heap.lt_size (I.ok.bs b o e).1) q) (zax _)
 ·have Au:b∈bR X.stack:=hf;have uF:b∈D::fp:=hb;rcases zad.mp uF with z|z
  ·rcases zad.mp (I.pO b Au) with q|q
   ·have:=I.lt;rw[<-q,z,hD] at this;exact zax _ this
   ·exact I.yI (by rw[z,hD];exact zqR _) q
  ·rcases zad.mp (I.pO b Au) with q|q
   ·exact(f2 b z).2.1 q
   ·exact(f2 b z).2.2.1 q
 ·exact PySem.Heap.FunFrames.of_keeps (fun b o e _=>⟨o,k3 b o e,rfl⟩) I.stack
 ·show AllBare s₃.gens;rw[gens];exact I.bare
 ·have hi:ln.length<=i:=by
   by_cases hi:i<ln.length
   ·exfalso
    rw[zaI (by simpa using hi),zag] at e2
    cases q:ln[i]? with
    |none=>rw[q] at e2;cases e2
    |some y=>rw[q] at e2;cases e2
   ·lia
  have kD:(ln++fv.map (·.1))[i]?=some x:=e1;rw[zaH hi,zag] at kD;rw[zaH (by simpa using hi),zai] at e2
  unfold bT at e2;rw[zag] at e2;cases q:fv[i - ln.length]? with
  |none=>rw[q] at kD;cases kD
  |some p=>
   rw[q] at kD e2;have ex:p.1=x:=zak kD;have ev:(σ[p.2]?).join=some v:=zak e2;obtain⟨g1,g2⟩:=S.Li p (zap q);rw[ex] at g1 g2;have Lr:σ[p.2]?=some (some v):=by
    cases z:σ[p.2]? with
    |none=>rw[z] at ev;cases ev
    |some o=>rw[z] at ev;rw[show o=some v from ev]
   have hk:=S.free _ (PySem.mem_of_lookup g2) rfl;obtain⟨m2,jt,hl⟩:=I.loc;obtain⟨u,r,l⟩:=hl p.2 x v g1 Lr (by rcases hk with k|k;exact .inr (.inl k);exact .inr (.inr k))
   refine⟨u,r,.inr ?_⟩;rcases l with⟨k,_⟩|⟨_,c,ec,z⟩
   ·rcases hk with k'|k'<;>(rw[k] at k';cases k')
   ·refine⟨Lp x g2,c,?_,?_⟩
    ·obtain⟨c',e'⟩:=uE (cells:=X.env.cells) scope.names [] x (.inl<|PySem.mem_of_lookup g2);have:=cl e';rw[ec] at this;cases this;exact e'
    ·obtain⟨o,ho,hd⟩:=z;exact⟨o,k4 c o<|k3 c o ho,hd⟩
 ·obtain⟨v,o,ho,hd⟩:=I.cell x c (cl e);exact⟨v,o,k4 c o<|k3 c o ho,hd⟩
 ·show s₂.heap.objs.size<=C;rw[hC,h3];exact Nat.le_succ _
 ·show(ln.map (fun _=>none)++bT σ fv).length=(ln++fv.map (·.1)).length
  simp[bT]
end
structure Av (Φ:Cx->Prop) (P:Program) (w:World) (K:Frag) (tg:Expr) (J:It) (fp:List Addr) (it:Addr) (tn:Nat->Heap->Prop):Prop where
 mem:it∈fp
 obj:∀i h,tn i h->∀b∈fp,∃o,h.get? b=some o/\∀v,o.data≠ .cell v
 keep:∀i h h',tn i h->(∀b∈fp,∀o,h.get? b=some o->h'.get? b=some o)->tn i h'
 item:∀(X:Cx),X.prog=P->X.w=w->X.K=K->Φ X->∀(i:Nat) (pins:List (Addr×Obj)) (s:Shared) (σ:St) (H:Hp) (E:Value->Shared->Prop),Inv X pins σ H s->(∀b∈fp,gd X pins H b)->tn i s.heap->J.go i H->
  wpAny (model P w) X.A (pyNext (.ref it)) (fun r s1=>∃u,r=some u/\
   wpAny (model P w) X.A (letOwnedTupleGo tg (.ref it) u) (fun _ s2=>∃x H',Inv X pins σ H' s2/\RelV x u/\J.dE i H x H'/\tn (i+1) s2.heap/\∀b∈fp,H' b=none) E s1) E s
 done:∀(X:Cx),X.prog=P->X.w=w->X.K=K->Φ X->∀(i:Nat) (pins:List (Addr×Obj)) (s:Shared) (σ:St) (H:Hp) (E:Value->Shared->Prop),Inv X pins σ H s->(∀b∈fp,gd X pins H b)->tn i s.heap->J.stop i H->
  wpAny (model P w) X.A (pyNext<|.ref it) (fun r s1=>r=none/\Inv X pins σ H s1) E s
 self:∀(A:Around) (i:Nat) (s:Shared) (Q:Value->Shared->Prop) (E:Value->Shared->Prop),tn i s.heap->Q (.ref it) s->wpAny (model P w) A (pyIter<|.ref it) Q E s
def Aw(Φ:Cx->Prop)(X:Cx)(tg iter:Expr)(wi:TI):Prop:=
 ∀(pins:List (Addr×Obj)) (s:Shared) (σ:St) (H:Hp) (R:It->Hp->Prop),Inv X pins σ H s->wi σ H R->
  wpAny (model X.prog X.w) X.A (eval iter X.env) (fun v s1=>wpAny (model X.prog X.w) X.A (pyIter v) (fun mv s2=>
   ∃(it:Addr) (fp:List Addr) (tn:Nat->Heap->Prop) (J:It) (H':Hp),mv=.ref it/\Inv X pins σ H' s2/\Av Φ X.prog X.w X.K tg J fp it tn/\tn 0 s2.heap/\(∀b∈fp,gd X pins H' b)/\R J H') X.xe s1) X.xe s
abbrev Calm(X:Cx):Prop:=X.calm=true
theorem PI.p{X:Cx}{tg iter:Expr}{wi:TI}(h:PI X tg iter wi):Aw Calm X tg iter wi:=fun pins s σ H R I q=>
 aR (h pins s σ H R I q) fun v s1 h1=>aR h1 fun mv s2 ⟨it,fp,tn,J,H',e,I',T,st,f,r⟩=>⟨it,fp,tn,J,H',e,I',⟨T.mem,T.obj,T.keep,T.item,T.done,T.self⟩,st,f,r⟩
section
variable {X:Cx}{pins:List (Addr×Obj)}{σ:St}{H:Hp}{s₂:Shared}{scope:Scope}{ln:List Str}{fv:List (Str×Nat)}{elt tg iter:Expr}{ifs:List Expr}{pos:Pos}
 {J:It}{fp:List Addr}{it:Addr}{tn:Nat->Heap->Prop}{tk:Option Nat}{tc:Option TT}{te:TE}{Qv:VK}{RR:Value->Addr->Result->Shared->Prop}{E:Value->Shared->Prop}
def Ax(Ψ:Hp->Prop)(X:Cx)(scope:Scope)(ln:List Str)(fv:List (Str×Nat))(tg:Expr)(tk:Option Nat):Prop:=
 ∀(ex:List Addr) (C:Addr) (s:Shared) (H:Hp),Ψ H->∃g,PG (fj X scope (ln++fv.map (·.1)) ex C s H) tg g/\
  ∀(x:V) (pre φ:St) (H':Hp) (Q:St->Hp->Prop),pre.length=ln.length->gQ X.K tk x H' (fun xs=>xs.length=ln.length->Q (xs.map some++φ) H')->g x (pre++φ) H' Q
def og(X:Cx)(scope:Scope)(ln:List Str)(fv:List (Str×Nat))(tg:Expr)(tk:Option Nat):Prop:=
 ∀(ex:List Addr) (C:Addr) (s:Shared) (H:Hp),∃g,PG (fj X scope (ln++fv.map (·.1)) ex C s H) tg g/\
  ∀(x:V) (pre φ:St) (H':Hp) (Q:St->Hp->Prop),pre.length=ln.length->gQ X.K tk x H' (fun xs=>xs.length=ln.length->Q (xs.map some++φ) H')->g x (pre++φ) H' Q
def uG(X:Cx)(scope:Scope)(N:List Str)(ifs:List Expr)(tc:Option TT):Prop:=
 match tc with
 |none=>ifs=[]
 |some t=>∃c,ifs=[c]/\∀(ex:List Addr) (C:Addr) (s:Shared) (H:Hp),PT (fj X scope N ex C s H) c t
theorem Ls{Φ:Cx->Prop}{Ψ:Hp->Prop}(S:i7 X scope ln fv)(hc:∀Xc:Cx,Xc.A=X.A->Xc.calm=X.calm->Xc.H₀=H->Φ Xc)(hΨ:Ψ H)(hg:Ax Ψ X scope ln fv tg tk)(ht:uG X scope (ln++fv.map (·.1)) ifs tc)
  (he:∀(ex:List Addr) (C:Addr) (s:Shared) (H:Hp),PE (fj X scope (ln++fv.map (·.1)) ex C s H) elt te)
  (I:Inv X pins σ H s₂) (T:Av Φ X.prog X.w X.K tg J fp it tn) (st:tn 0 s₂.heap) (f2:∀b∈fp,gd X pins H b)
  (h:∃W:Nat->Nat->List V->Hp->Prop,(∃m,W 0 m [] H)/\∀i m ys H2,W i m ys H2->
   (J.stop i H2/\∀p,H2 p=none->Qv (.ref p) (upd H2 p<|.lst ys))\/
   (J.go i H2/\∀x H3,J.dE i H2 x H3->gQ X.K tk x H3 fun xs=>
    jB tc (xs.map some++bT σ fv) H3 fun b H5=>
     if b=true then te (xs.map some++bT σ fv) H5 fun y H6=>ys.length<sizeLine/\∃m',m'<m/\W (i+1) m' (ys++[y]) H6
     else ∃m',m'<m/\W (i+1) m' ys H5))
  (Lu:∀D C H' s' m,Inv X pins σ H' s'->s'.heap.Ns C m->H' C=none->C≠X.env.locals->X.s₀.heap.objs.size<=C->(∀x c,X.env.cells.lookup x=some c->c≠C)->(∀p∈X.pn++pins,p.1≠C)->Qv (.ref D) H'->RR (.ref D) C (.ok .next) s'):
  wpAny (model X.prog X.w) X.A (newList []) (fun acc s₃=>wpAny (model X.prog X.w) X.A (newFunctionEnv scope X.env.globals (cC X.env.cells scope.names []) [] X.env.qual none .none (some X.env)) (fun Ay s₄=>
   codeAny (model X.prog X.w) X.A (.compStart (.ListComp elt [⟨tg,iter,ifs,0⟩] scope pos) 0 (.ref it) acc {Ay with scope:=relabel scope X.env}) (RR acc Ay.locals) s₄) E s₃) E s₂:=by
 obtain⟨W,⟨m0,w0⟩,turn⟩:=h;refine wpAny_newObj_type<|wpAny_newFunctionEnv S.Ar (by intro y hy;simp at hy) (fun h₁ qu qv=>?_) S.kind
 dsimp only at qu qv⊢
 generalize qw:({s₂ with heap:=s₂.heap.push {cls:=.type "list",dict:=none,data:=.seq ([]:List Value).toArray}}:Shared)=s₃
 have eP:s₂.heap.push {cls:=.type "list",dict:=none,data:=.seq ([]:List Value).toArray}=s₃.heap:=by rw[<-qw]
 rw[eP] at qu qv⊢;have Az:s₃.os=s₂.os:=by rw[<-qw]
 have Lv:s₃.gens=s₂.gens:=by rw[<-qw]
 have kE:s₃.heap.objs.size=s₂.heap.objs.size+1:=by rw[<-eP,Heap.size_push]
 have k3:∀b o,s₂.heap.get? b=some o->s₃.heap.get? b=some o:=fun b o e=>by rw[<-eP];exact Heap.get?_push_of_some _ e
 have k4:∀b o,s₃.heap.get? b=some o->h₁.get? b=some o:=fun b o e=>qv.extBut b o (zal<|Heap.lt_size e) (Heap.get?_push_of_some _ e);have gD:s₃.heap.get? s₂.heap.objs.size=some {cls:=.type "list",dict:=none,data:=.seq ([]:List Value).toArray}:=by rw[<-eP];exact Heap.get?_push_size _ rfl
 generalize eD:s₂.heap.objs.size=D at gD;generalize eC:s₃.heap.objs.size=C at qu qv⊢;have qx:D≠C:=by rw[<-eD,<-eC,kE];exact zal (zbi _)
 have n_:∀b∈fp,∃o,s₂.heap.get? b=some o:=fun b hb=>by obtain⟨o,e,_⟩:=T.obj 0 _ st b hb;exact⟨o,e⟩
 have AA:∀b∈fp,b≠D:=fun b hb=>by obtain⟨o,e⟩:=n_ b hb;rw[<-eD];exact zal (Heap.lt_size e)
 have Lw:∀b∈fp,b≠C:=fun b hb=>by
  obtain⟨o,e⟩:=n_ b hb;have:=Heap.lt_size e;rw[<-eC,kE];exact zal (zbn this)
 generalize eX:fj X scope (ln++fv.map (·.1)) (D::fp) C s₃ H=Xc;have I4:∀t,Inv Xc [] (ln.map (fun _=>none)++bT σ fv) H {s₃ with heap:=h₁,toks:=t}:=fun t=>by
  rw[<-eX];exact Ll S I f2 n_ Az Lv k3 eD.symm kE eC.symm k4 qu
 have xL:Xc.env.locals=C:=by rw[<-eX];rfl
 have qy:Xc.ex=D::fp:=by rw[<-eX];rfl
 have Lx:Xc.fs=bR X.stack:=by rw[<-eX];rfl
 have xP:Xc.prog=X.prog:=by rw[<-eX];rfl
 have xw:Xc.w=X.w:=by rw[<-eX];rfl
 have xK:Xc.K=X.K:=by rw[<-eX];rfl
 have xA:Xc.A=X.A:=by rw[<-eX];rfl
 have xc:Φ Xc:=hc Xc xA (by rw[<-eX];rfl) (by rw[<-eX];rfl)
 have AD:Xc.pn=[]:=by rw[<-eX];rfl
 have uH:Xc.xe=fun _ _=>False:=by rw[<-eX];rfl
 have AE:Xc.env.cells=cC X.env.cells scope.names []:=by rw[<-eX];rfl
 have uI:Xc.env=compEnvC scope (cC X.env.cells scope.names []) C X.env:=by rw[<-eX];rfl
 have cD:∀x c,Xc.env.cells.lookup x=some c->c≠D:=fun x c e=>by
  rw[AE] at e;obtain⟨v,q⟩:=I.cell x c (S.cells I e).1;rw[<-eD];exact zal q.lt
 have cF:∀x c,Xc.env.cells.lookup x=some c->∀b∈fp,c≠b:=fun x c e b hb=>by
  rw[AE] at e;exact(f2 b hb).2.2.2.2.1 x c (S.cells I e).1
 have sF:∀b∈D::fp,b∉Xc.fs:=fun b hb hf=>by
  have:=(I4 0).ok.tD b (by rw[qy];exact hb)
  exact this hf
 have ki:∀{H':Hp}{oD:Obj},(∀b∈fp,H' b=none)->∀b∈fp,gd Xc [(D,oD)] H' b:=fun hn b hb=>
  ⟨hn b hb,by rw[xL];exact Lw b hb,sF b (zam _ hb),.inl (by rw[qy];exact zam _ hb),fun x c e=>cF x c e b hb,fun p hp=>by
   rw[AD] at hp;rcases zav.mp (show p∈ [(D,_)] from hp) with rfl
   exact(AA b hb).symm⟩
 have loop:∀s₄:Shared,s₄={s₃ with heap:=h₁,toks:=s₃.toks+([]:List (Str×Value)).length}->
   codeAny (model X.prog X.w) X.A (.compLoop (.ListComp elt [⟨tg,iter,ifs,0⟩] scope pos) 0 (.ref it) (.ref D)<|compEnvC scope (cC X.env.cells scope.names []) C X.env) (RR (.ref D) C) s₄:=by
  rintro s₄ rfl;refine Lg (fun n s'=>∃i pre ys its nn H',Inv Xc [(D,{cls:=.type "list",data:=.seq (List.toArray its) nn})] (pre++bT σ fv) H' s'/\pre.length=ln.length/\tn i s'.heap/\(∀b∈fp,H' b=none)/\Vals ys its/\ys.length<=sizeLine/\W i n ys H') ?_ m0
   ⟨0,ln.map<|fun _=>none,[],[],0,H,(I4 _).mj<|fun p hp=>?_,by simp,T.keep 0 _ _ st<|fun b _ o e=>k4 b o<|k3 b o e,fun b hb=>(f2 b hb).1,.nil,zqZ _,w0⟩
  rotate_left
  ·have uJ:=zav.mp hp;subst uJ;refine⟨k4 _ _ gD,I.aH.fresh<|Nat.le_of_eq eD,by rw[xL];exact qx,sF D zan,fun v z=>by cases z⟩
  rintro n s' ⟨i,pre,ys,its,nn,H',I',mD,fL,AF,hv,hz,w'⟩;have Yx:=I'.pin (D,_) (zay _ zan);rcases turn i n ys H' w' with⟨stop,qn⟩|⟨go,step⟩
  ·have td:=T.done Xc xP xw xK xc i _ s' _ H' (fun _ _=>False) I' (ki AF) fL stop;rw[xA] at td;refine aR td fun r s1 ⟨hr,I1⟩=>?_;subst hr;have uK:=I1.pin (D,_) (zay _ zan);have b1:=I1.base;rw[Lx,qy] at b1;have AG:Xc.s₀=s₃:=by rw[<-eX];rfl
   have Ly:Xc.H₀=H:=by rw[<-eX];rfl
   rw[AG,Ly] at b1;have nD:∀b o,s₂.heap.get? b=some o->b∉fp->b∉D::fp:=fun b o e hb hm=>by
    rcases zad.mp hm with z|z
    ·have:=Heap.lt_size e;rw[z,eD] at this;exact zax _ this
    ·exact hb z
   have un:Un (bR X.stack) fp H H' s₂.heap s1.heap:=⟨fun b o e nb hb hx=>b1.keep b o (k3 b o e) nb hb (nD b o e hx),fun b o e nb hb hx=>b1.slot b o (k3 b o e) nb hb (nD b o e hx),fun b o e nb hx=>b1.free b o (k3 b o e) nb (nD b o e hx),
    fun b o e hx=>b1.there b o (k3 b o e) (nD b o e hx),b1.b_,b1.e_,b1.fK⟩
   have Lz:s1.os=s₂.os:=by rw[I1.os,AG,Az]
   have AH:=I1.aH;rw[xP,xw] at AH;have J1:Inv X pins σ H' s1:=I.H_ Lz un AH I1.bare fun b hb=>⟨(f2 b hb).2.2.2.1,(f2 b hb).2.1,(f2 b hb).2.2.2.2.1,(f2 b hb).2.2.2.2.2⟩;have LA:∀x c,X.env.cells.lookup x=some c->c≠D:=fun x c e=>by
    obtain⟨v,q⟩:=I.cell x c e;rw[<-eD];exact zal q.lt
   have LB:∀x c,X.env.cells.lookup x=some c->c≠C:=fun x c e=>by
    obtain⟨v,q⟩:=I.cell x c e;rw[<-eC,kE];exact zal (zbn q.lt)
   have pD:∀p∈X.pn++pins,p.1≠D:=fun p hp=>by rw[<-eD];exact zal (Heap.lt_size (I.pin p hp).1)
   have pC:∀p∈X.pn++pins,p.1≠C:=fun p hp=>by
    rw[<-eC,kE];exact zal (zbn<|Heap.lt_size (I.pin p hp).1)
   have lD:D≠X.env.locals:=by rw[<-eD];exact zaF I.lt
   have lC:C≠X.env.locals:=by
    rw[<-eC,kE];exact zaF (zbn I.lt)
   have J2:Inv X pins σ (upd H' D<|.lst ys) s1:=Inv.uC J1 uK.2.1 (by rw[<-eD];exact I.sz) lD LA pD ⟨hz,its,nn,hv,uK.1⟩
   obtain⟨mC,AI,_⟩:=I1.loc;rw[xL] at AI;have fC:H' C=none:=by have:=I1.free;rw[xL] at this;exact this
   exact Lu D C _ s1 mC J2 AI (by rw[aI<|Ne.symm qx];exact fC) lC (by rw[<-eC,kE];exact Nat.le_succ_of_le I.sz) LB pC<|qn D uK.2.1
  ·have ti:=T.item Xc xP xw xK xc i _ s' _ H' (fun _ _=>False) I' (ki AF) fL go;rw[xA] at ti;refine aR ti fun r s4 ⟨u,hr,h4⟩=>?_;subst hr;refine aR h4 fun _ s5 ⟨x,H5,I5,r5,y5,kj,tY⟩=>?_;have tZ:=I5.pinned (ki tY) (T.obj _ _ kj);obtain⟨g,pg,gq⟩:=hg (D::fp) C s₃ H hΨ;rw[eX] at pg;have rd:=step x H5 y5;have AJ:=pg _ s5 _ H5 x u (fun σ6 H6=>∃xs:List V,σ6=xs.map some++bT σ fv/\xs.length=ln.length/\H6=H5/\
     jB tc (xs.map some++bT σ fv) H5 fun b H5=>
     if b=true then te (xs.map some++bT σ fv) H5 fun y H6=>ys.length<sizeLine/\∃m',m'<n/\W (i+1) m' (ys++[y]) H6
     else ∃m',m'<n/\W (i+1) m' ys H5) tZ r5 (gq x pre (bT σ fv) H5 _ mD (by
      cases tk with
      |none=>exact fun hl=>⟨_,rfl,hl,rfl,rd⟩
      |some k=>exact Lj rd fun xs rd hl=>⟨xs,rfl,hl,rfl,rd⟩))
   rw[xA,xP,xw,uH,uI] at AJ;refine aR AJ fun _ s6 ⟨σ6,H6,I6,xs,e6,AK,eH,AL⟩=>?_;subst e6 eH;have AM:∀{H7:Hp}{σ7:St}{s7:Shared},Inv Xc ([(D,{cls:=.type "list",data:=.seq (List.toArray its) nn})]++mx fp s5.heap) σ7 H7 s7->tn (i+1) s7.heap/\(∀b∈fp,H7 b=none)/\s7.heap.get? D=some {cls:=.type "list",data:=.seq (List.toArray its) nn}/\H7 D=none:=fun {H7 σ7 s7} I7=>by
    refine⟨T.keep _ _ _ kj fun b hb o e=>(I7.pin (b,o)<|zay _<|zay _<|pV hb e).1,fun b hb=>?_,?_,?_⟩
    ·obtain⟨o,e,d⟩:=T.obj _ _ kj b hb;exact(I7.pin (b,o)<|zay _<|zay _<|pV hb e).2.1
    ·exact(I7.pin (D,_)<|zay _<|zaZ _ zan).1
    ·exact(I7.pin (D,_)<|zay _<|zaZ _ zan).2.1
   have tests:wpAny (model X.prog X.w) X.A (forIn ifs true fun c r=>if r=true then do let ok <-isTrue c (compEnvC scope (cC X.env.cells scope.names []) C X.env) (eval c<|compEnvC scope (cC X.env.cells scope.names []) C X.env);pure (ForInStep.yield ok) else pure (ForInStep.yield r))
     (fun ok s7=>∃H7,Inv Xc ([(D,{cls:=.type "list",data:=.seq (List.toArray its) nn})]++mx fp s5.heap) (xs.map some++bT σ fv) H7 s7/\
      if ok=true then te (xs.map some++bT σ fv) H7 fun y H6=>ys.length<sizeLine/\∃m',m'<n/\W (i+1) m' (ys++[y]) H6
      else ∃m',m'<n/\W (i+1) m' ys H7) (fun _ _=>False) s6:=by
    cases tc with
    |none=>
     have uL:ifs=[]:=ht;subst uL;exact wpAny_tests_nil ⟨_,I6,AL⟩
    |some t=>
     obtain⟨c,uL,pt⟩:=(show ∃c,ifs=[c]/\∀(ex:List Addr) (C:Addr) (s:Shared) (H:Hp),PT (fj X scope (ln++fv.map (·.1)) ex C s H) c t from ht)
     subst uL;have AN:=pt (D::fp) C s₃ H;rw[eX] at AN;have q:=AN _ s6 _ _ _ I6 AL;rw[xA,xP,xw,uH,uI] at q;exact wpAny_tests_one<|aR q fun b s7 ⟨H7,I7,q7⟩=>⟨H7,I7,q7⟩
   refine aR tests fun ok s7 ⟨H7,I7,q7⟩=>?_;cases ok with
   |false=>
    simp only[Bool.false_eq_true,if_false] at q7⊢
    obtain⟨m',hm,w7⟩:=q7;obtain⟨t7,f7,d7,n7⟩:=AM I7;refine⟨m',hm,i+1,xs.map some,ys,its,nn,H7,I7.mj<|fun p hp=>?_,by simpa using AK,t7,f7,hv,hz,w7⟩
    exact I7.pin p<|zay _<|zaZ _ hp
   |true=>
    simp only[if_true] at q7⊢
    have q:=he (D::fp) C s₃ H;rw[eX] at q;have q:=q _ s7 _ H7 _ I7 q7;rw[xA,xP,xw,uH,uI] at q;refine aR q fun uy s8 ⟨y,H8,I8,r8,aS,m',hm,w8⟩=>?_;obtain⟨t8,f8,d8,n8⟩:=AM I8;have hl:=hv.length;refine call_meets F.slot_list_append ⟨_,d8,rfl⟩ F.entry_list_append (F.args_list_append_2 _ _) (PySem.list_append D its.toArray nn uy (by rw[zac];lia)) ⟨d8,?_⟩
    have I9:∀t,Inv Xc [] (xs.map some++bT σ fv) H8 {s8 with heap:=s8.heap.update D (Obj.mapSeq (·.push uy)),toks:=t}:=fun t=>
     (I8.mj (tH:=[])<|fun p hp=>absurd hp (by simp)).turned (it:=D) (t':=t) (fun b o hb e=>(Heap.get?_update_other s8.heap (Obj.mapSeq (·.push uy))<|Ne.symm hb).trans e) n8 (by rw[xL];exact qx) (.inl (by rw[qy];exact zan)) cD
      (fun p hp=>by rw[AD] at hp;exact absurd hp (by simp))
    have g9:=PySem.IsL.update d8 (·.push uy);obtain⟨n9,LC⟩:∃n9,(s8.heap.update D (Obj.mapSeq (·.push uy))).get? D=some {cls:=.type "list",data:=.seq (its++[uy]).toArray n9}:=
     ⟨_,by rw[show(its++[uy]).toArray=its.toArray.push uy by simp];exact g9⟩
    refine⟨m',hm,i+1,xs.map some,ys++[y],its++[uy],n9,H8,(I9 _).mj<|fun p hp=>?_,by simpa using AK,?_,f8,hv.append<|.cons r8 .nil,?_,w8⟩
    ·have uJ:=zav.mp hp;subst uJ;exact⟨LC,n8,by rw[xL];exact qx,sF D zan,fun v z=>by cases z⟩
    ·exact T.keep _ _ _ t8 fun b hb o e=>(Heap.get?_update_other s8.heap (Obj.mapSeq (·.push uy))<|Ne.symm<|AA b hb).trans e
    ·rw[zqA,zbE];lia
 have LD:tn 0 h₁:=T.keep 0 _ _ st fun b _ o e=>k4 b o (k3 b o e);have e4:({s₂ with heap:=h₁,toks:=s₂.toks+([]:List (Str×Value)).length}:Shared)={s₃ with heap:=h₁,toks:=s₃.toks+([]:List (Str×Value)).length}:=by rw[<-qw]
 exact codeAny_compStart_list (loop _ e4)<|T.self X.A 0 _ _ _ LD<|loop _ e4
end
section
variable {X:Cx}{scope:Scope}{ln:List Str}{fv:List (Str×Nat)}{elt tg iter:Expr}{ifs:List Expr}{pos:Pos}{wi:TI}{tk:Option Nat}{tc:Option TT}{te:TE}
theorem LF{Φ:Cx->Prop}{Ψ:Hp->Prop}(S:i7 X scope ln fv)(hc:∀H,Ψ H->∀Xc:Cx,Xc.A=X.A->Xc.calm=X.calm->Xc.H₀=H->Φ Xc)(hΨ:∀pins σ H s,Inv X pins σ H s->Ψ H)(hi:Aw Φ X tg iter wi)(hg:Ax Ψ X scope ln fv tg tk)(ht:uG X scope (ln++fv.map (·.1)) ifs tc)
  (he:∀(ex:List Addr) (C:Addr) (s:Shared) (H:Hp),PE (fj X scope (ln++fv.map (·.1)) ex C s H) elt te) (hs:∀x,foldedSetIterable iter X.env x=pure x:=by intro _;rfl):
  PE X (.ListComp elt [⟨tg,iter,ifs,0⟩] scope pos) (nZ X.K wi tk fv tc te):=by
 intro pins s σ H Q I h;rw[eval_ListComp];refine wpAny_comprehension_free (use:=none) rfl hs (S.Lk I) S.kind S.locals<|aR (hi pins s σ H _ I h) fun v s1 h1=>aR h1 fun mv s2 h2=>?_;obtain⟨it,fp,tn,J,H2,e,I2,T,tX,f2,hW⟩:=h2;subst e;refine Ls (RR:=fun acc C=>compPost (model X.prog X.w) X.A X.xe none (EP X pins σ Q) acc C) S (hc H2<|hΨ _ _ _ _ I2) (hΨ _ _ _ _ I2) hg ht he I2 T tX f2 hW ?_;intro D C H' s' m I' ns hn hL h0 LG hp q;refine⟨m,ns,fun h' sb=>⟨.ref D,H',?_,rfl,q⟩⟩;exact I'.turned (it:=C) (t':=s'.toks) (fun b o hb e=>sb.extBut b o hb e) hn hL (.inr h0) LG hp
theorem AO(S:i7 X scope ln fv)(hc:X.calm=true)(hi:PI X tg iter wi)(hg:og X scope ln fv tg tk)(ht:uG X scope (ln++fv.map (·.1)) ifs tc)
  (he:∀(ex:List Addr) (C:Addr) (s:Shared) (H:Hp),PE (fj X scope (ln++fv.map (·.1)) ex C s H) elt te) (hs:∀x,foldedSetIterable iter X.env x=pure x:=by intro _;rfl):
  PE X (.ListComp elt [⟨tg,iter,ifs,0⟩] scope pos) (nZ X.K wi tk fv tc te):=
 LF (Φ:=Calm) (Ψ:=fun _=>True) S (fun _ _ Xc _ e _=>e.trans hc) (fun _ _ _ _ _=>trivial) hi.p (fun ex C s H _=>hg ex C s H) ht he hs
end
section
variable {X:Cx}{scope:Scope}{fv:List (Str×Nat)}
theorem LH{x:Str}{px:Pos}(hl:scope.names.lookup x=some .local)(jC:(x::fv.map (·.1)).Nodup):og X scope [x] fv (.Name x px) none:=by
 intro ex C s H;have LI:Loc (fj X scope ([x]++fv.map (·.1)) ex C s H).env.scope x:=.inl (lookup_relabel_local hl);refine⟨da 0,kg (X:=fj X scope ([x]++fv.map (·.1)) ex C s H) jC rfl LI<|.inr<|lookup_relabel_local hl,fun v pre φ H' Q hp h=>?_⟩;obtain⟨a,rfl⟩:∃a,pre=[a]:=by
  match pre,hp with
  |[a],_=>exact⟨a,rfl⟩
 exact h rfl
theorem LJ{x y:Str}{px py pos:Pos}{k:Nat}(hc:X.calm=true)(hx:scope.names.lookup x=some .local)(hy:scope.names.lookup y=some .local)(jC:(x::y::fv.map (·.1)).Nodup):og X scope [x,y] fv (.Tuple [.Name x px,.Name y py] k pos) (some 2):=by
 intro ex C s H;generalize eX:fj X scope ([x,y]++fv.map (·.1)) ex C s H=Xc;have xN:Xc.N=x::y::fv.map (·.1):=by rw[<-eX];rfl
 have xc:Xc.calm=true:=by rw[<-eX];exact hc
 have lx:Xc.env.scope.names.lookup x=some .local:=by rw[<-eX];exact lookup_relabel_local hx
 have ly:Xc.env.scope.names.lookup y=some .local:=by rw[<-eX];exact lookup_relabel_local hy
 have p1:PG Xc (.Name x px) (da 0):=kg (by rw[xN];exact jC) (by rw[xN];rfl) (.inl lx) (.inr lx)
 have p2:PG Xc (.Name y py) (da 1):=kg (by rw[xN];exact jC) (by rw[xN];rfl) (.inl ly) (.inr ly)
 have xK:Xc.K=X.K:=by rw[<-eX];rfl
 refine⟨tN Xc.K 2<|kh (da 0)<|kh (da 1) pU,tO xc<|mr p1<|mr p2 tM,fun v pre φ H' Q hp h=>?_⟩;obtain⟨a,b,rfl⟩:∃a b,pre=[a,b]:=by
  match pre,hp with
  |[a,b],_=>exact⟨a,b,rfl⟩
 obtain⟨a',xs,rfl,e2,e3,q⟩:=h;obtain⟨v1,v2,rfl⟩:∃v1 v2,xs=[v1,v2]:=by
  match xs,e3 with
  |[v1,v2],_=>exact⟨v1,v2,rfl⟩
 exact⟨a',_,rfl,by rw[xK];exact e2,rfl,v1,_,rfl,v2,_,rfl,rfl,q rfl⟩
end
section
variable {X:Cx}
theorem a_.imp{f:Value->Value->Sem Value}{r r':R2}(h:a_ X f r)(i:∀x y H Q,r' x y H Q->r x y H Q):a_ X f r':=fun pins s σ H x y v u Q I rx ry q=>h pins s σ H x y v u Q I rx ry (i _ _ _ _ q)
theorem bW.imp{f:Value}{r r':List V->Hp->VK->Prop}(h:bW X f r)(i:∀xs H Q,r' xs H Q->r xs H Q):bW X f r':=fun pins s σ H xs us Q I rv q=>h pins s σ H xs us Q I rv (i _ _ _ q)
def AQ(K:Frag):R2:=fun x y H Q=>match x,y with
 |.int i,.int j=>Q (.int<|i+j) H
 |.str i,.str j=>i.length+j.length<=sizeLine/\Q (.str<|i++j) H
 |.ref l,.ref b=>Ae (.ref l) (.ref b) H Q\/zV K (.ref l) (.ref b) H Q
 |_,_=>False
theorem LK:a_ X (binaryOp .Add) (AQ X.K):=by
 refine a_.imp ((IX.or Jt).or<|KO.or Kf) fun x y H Q h=>?_;cases x<;>cases y<;>first
  |exact False.elim h
  |exact .inl (.inl ⟨_,_,rfl,rfl,h⟩)
  |exact .inl (.inr ⟨_,_,rfl,rfl,h⟩)
  |exact .inr h
def iy(C:Int->Int->Prop)(g:Int->Int->V):R2:=fun x y H Q=>match x,y with
 |.int i,.int j=>C i j/\Q (g i j) H
 |_,_=>False
theorem uM{C:Int->Int->Prop}{g:Int->Int->V}(x y:V)(H:Hp)(Q:VK)(h:iy C g x y H Q):rI C g x y H Q:=by
 cases x<;>cases y<;>first
  |exact False.elim h
  |exact⟨_,_,rfl,rfl,h⟩
theorem oh{g:Int->Int->V}(x y:V)(H:Hp)(Q:VK)(h:iy (fun _ _=>True) g x y H Q):i0 g x y H Q:=by
 cases x<;>cases y<;>first
  |exact False.elim h
  |exact⟨_,_,rfl,rfl,h.2⟩
def uN:R2:=fun x y H Q=>match x,y with
 |.int i,.int j=>p_ i j/\Q (.int<|i*j) H
 |.ref l,.int k=>Af (.ref l) (.int k) H Q
 |_,_=>False
theorem LL:a_ X (binaryOp .Mult) uN:=by
 refine a_.imp (IZ.or KP) fun x y H Q h=>?_;cases x<;>cases y<;>first
  |exact False.elim h
  |exact .inl ⟨_,_,rfl,rfl,h⟩
  |exact .inr h
def i8(K:Frag):Operator->R2
 |.Add=>AQ K
 |.Sub=>iy (fun _ _=>True) fun i j=>.int (i - j)
 |.Mult=>uN
 |.FloorDiv=>iy t6 fun i j=>.int (i / j)
 |.Mod=>iy (fun _ j=>0<j) fun i j=>.int (i % j)
 |.Pow=>iy zp fun i j=>.int (i ^ j.toNat)
 |_=>fun _ _ _ _=>False
theorem LM(op:Operator):a_ X (binaryOp op) (i8 X.K op):=by
 cases op<;>first
  |exact LK
  |exact a_.imp IY oh
  |exact LL
  |exact a_.imp I0 uM
  |exact a_.imp I_ uM
  |exact a_.imp Ja uM
  |exact fun _ _ _ _ _ _ _ _ _ _ _ _ h=>False.elim h
mutual
def Is(H:Hp):PyData->V->Prop
 |.none,v=>v=.az
 |.bool b,v=>v=.bl b
 |.int i,v=>v=.int i
 |.str x,v=>v=.str x
 |.list xs,v=>∃a vs,v=.ref a/\H a=some (.lst vs)/\IsL H xs vs
 |.tuple xs,v=>∃a vs,v=.ref a/\H a=some (.tup vs)/\IsL H xs vs
 |.dict _,_=>False
def IsL(H:Hp):List PyData->List V->Prop
 |[],vs=>vs=[]
 |d::ds,vs=>∃v r,vs=v::r/\Is H d v/\IsL H ds r
end
mutual
theorem Is.reads{pins:List (Addr×Obj)}{σ:St}{H:Hp}{s:Shared}(I:Inv X pins σ H s):∀(d:PyData) (v:V) (u:Value),Is H d v->RelV v u->∃as,Reads s.heap u d as
 |.none,v,u,h,r=>by rw[show v=.az from h] at r;rw[show u=.none from r];exact⟨_,.none⟩
 |.bool b,v,u,h,r=>by rw[show v=.bl b from h] at r;rw[show u=.bool b from r];exact⟨_,.bool b⟩
 |.int i,v,u,h,r=>by rw[show v=.int i from h] at r;obtain⟨t,e⟩:=r;rw[e];exact⟨_,.int i t⟩
 |.str x,v,u,h,r=>by rw[show v=.str x from h] at r;obtain⟨t,e⟩:=r;rw[e];exact⟨_,.str x t⟩
 |.list xs,v,u,h,r=>by
  obtain⟨a,vs,e,hH,hl⟩:=(show ∃a vs,v=.ref a/\H a=some (.lst vs)/\IsL H xs vs by simpa only[Is] using h)
  rw[e] at r;rw[show u=.ref a from r]
  obtain⟨_,its,n,hv,hg⟩:=I.aH a _ hH;obtain⟨as,q⟩:=IsL.reads I xs vs its hl hv;exact⟨_,.list hg rfl rfl (by simpa using q)⟩
 |.tuple xs,v,u,h,r=>by
  obtain⟨a,vs,e,hH,hl⟩:=(show ∃a vs,v=.ref a/\H a=some (.tup vs)/\IsL H xs vs by simpa only[Is] using h)
  rw[e] at r;rw[show u=.ref a from r]
  obtain⟨_,its,hv,o,hg,hc,n,hd⟩:=I.aH a _ hH;obtain⟨as,q⟩:=IsL.reads I xs vs its hl hv;exact⟨_,.tuple hg hc hd (by simpa using q)⟩
 |.dict _,v,u,h,r=>by simp only[Is] at h
theorem IsL.reads{pins:List (Addr×Obj)}{σ:St}{H:Hp}{s:Shared}(I:Inv X pins σ H s):∀(ds:List PyData) (vs:List V) (us:List Value),IsL H ds vs->Vals vs us->∃as,ReadsAll s.heap us ds as
 |[],vs,us,h,r=>by
  rw[show vs=[] from h] at r
  cases r;exact⟨_,.nil⟩
 |d::ds,vs,us,h,r=>by
  obtain⟨v,q,e,h1,h2⟩:=(show ∃v r,vs=v::r/\Is H d v/\IsL H ds r by simpa only[IsL] using h)
  rw[e] at r;cases r with
  |cons r1 r2=>
   obtain⟨as,q1⟩:=Is.reads I d v _ h1 r1;obtain⟨bs,q2⟩:=IsL.reads I ds q _ h2 r2;exact⟨_,.cons q1 q2⟩
end
def LN:V->Bool
 |.jq _=>false
 |.dU _=>false
 |_=>true
def LO:R2:=fun x y H Q=>∃a b xs,x=.ref a/\y=.ref b/\H a=some (.lst xs)/\H b=some (.lst xs)/\xs.all LN=true/\Q (.bl true) H
def kH(neg:Bool):R2:=fun x y H Q=>match ko x y with
 |true=>Q (.bl<|neg ^^ decide (x=y)) H
 |false=>∃d e,Is H d x/\Is H e y/\SeqAt.shaped d=true/\SeqAt.shaped e=true/\Q (.bl<|neg ^^ PyData.eqv d e) H
def LP:R2:=fun x y H Q=>kH false x y H Q\/LO x y H Q
theorem LQ(hu:X.A.units+64<cLine):a_ X (compareOp .Eq) (kH false):=by
 intro pins s σ H x y v u Q I rx ry h;unfold kH at h;by_cases hs:ko x y=true
 ·rw[hs] at h
  simp only[zaK] at h
  exact Jf pins s σ H x y v u Q I rx ry ⟨hs,h⟩
 ·rw[show ko x y=false by simpa using hs] at h
  obtain⟨d,e,h1,h2,h3,h4,q⟩:=h;rw[zaK] at q;obtain⟨as,r1⟩:=Is.reads I d x v h1 rx;obtain⟨bs,r2⟩:=Is.reads I e y u h2 ry;exact eq_dataH r1 r2 h3 h4 hu ⟨.bl _,H,I,rfl,q⟩
theorem LR(hu:X.A.units+64<cLine):a_ X (compareOp .NotEq) (kH true):=by
 intro pins s σ H x y v u Q I rx ry h;unfold kH at h;by_cases hs:ko x y=true
 ·rw[hs] at h
  simp only[zaQ] at h
  exact Jg pins s σ H x y v u Q I rx ry ⟨hs,h⟩
 ·rw[show ko x y=false by simpa using hs] at h
  obtain⟨d,e,h1,h2,h3,h4,q⟩:=h;rw[zaQ] at q;obtain⟨as,r1⟩:=Is.reads I d x v h1 rx;obtain⟨bs,r2⟩:=Is.reads I e y u h2 ry;exact ne_dataH r1 r2 h3 h4 hu ⟨.bl _,H,I,rfl,q⟩
def Yy(K:Frag)(H:Hp)(a:Addr):Prop:=(∃xs,ay K H a xs)\/(∃xs,aO K H a xs)\/∃aL,H a=some (.dK aL)
def qA(K:Frag)(neg:Bool):R2:=fun x y H Q=>match y with
 |.str j=>∃i,x=.str i/\Q (.bl (if neg then !(!(Builtin.Str.occurrences j i 0 j.length 1).isEmpty) else !(Builtin.Str.occurrences j i 0 j.length 1).isEmpty)) H
 |.ref p=>match x with
  |.ref _=>False
  |x=>ur K neg x (.ref p) H Q
 |_=>False
theorem LS(hu:X.A.units+64<cLine):a_ X (compareOp .In) (qA X.K false):=by
 intro pins s σ H x y v u Q I rx ry h;cases y with
 |str j=>
  obtain⟨i,e,q⟩:=h;exact Jl pins s σ H x _ v u Q I rx ry ⟨i,j,e,rfl,q⟩
 |ref p=>
  cases x with
  |ref a=>exact False.elim h
  |_=>exact Kr pins s σ H _ _ v u Q I rx ry h
 |_=>exact False.elim h
theorem LU(hu:X.A.units+64<cLine):a_ X (compareOp .NotIn) (qA X.K true):=by
 intro pins s σ H x y v u Q I rx ry h;cases y with
 |str j=>
  obtain⟨i,e,q⟩:=h;exact Jp pins s σ H x _ v u Q I rx ry ⟨i,j,e,rfl,q⟩
 |ref p=>
  cases x with
  |ref a=>exact False.elim h
  |_=>exact Ks pins s σ H _ _ v u Q I rx ry h
 |_=>exact False.elim h
theorem LV{M:Model}{A:Around}{E:Value->Shared->Prop}{s:Shared}{Q:Value->Shared->Prop}{v:Value}{d:Bool}(hv:∀id,v≠ .builtin id)(h:Q (.bool<|v==.bool d) s):wpAny M A (compareOp .Is v<|.bool d) Q E s:=by
 cases v<;>first|exact wpAny_pure h|exact absurd rfl (hv _)
theorem LW{M:Model}{A:Around}{E:Value->Shared->Prop}{s:Shared}{Q:Value->Shared->Prop}{v:Value}{d:Bool}(hv:∀id,v≠ .builtin id)(h:Q (.bool<|!(v==.bool d)) s):wpAny M A (compareOp .IsNot v<|.bool d) Q E s:=by
 cases v<;>first|exact wpAny_pure h|exact absurd rfl (hv _)
def AR:R2:=fun x y H Q=>match y with
 |.bl b=>Q (.bl<|decide<|x=.bl b) H
 |_=>y=.az/\Q (.bl<|decide<|x=.az) H
def AS:R2:=fun x y H Q=>match y with
 |.bl b=>Q (.bl<|!decide (x=.bl b)) H
 |_=>y=.az/\Q (.bl<|!decide (x=.az)) H
theorem LX:a_ X (compareOp .Is) AR:=by
 intro pins s σ H x y v u Q I rx ry h;cases y with
 |bl b=>
  cases ry;have nb:∀id,v≠ .builtin id:=fun id z=>by
   subst z;cases x<;>first
    | (obtain⟨t,e⟩:=rx;cases e;done)
    | (cases rx;done)
  refine LV nb<|bL I (show Q (.bl<|decide<|x=.bl b) H from h) ?_
  cases x<;>first
   | (cases rx;rfl)
   | (obtain⟨t,rfl⟩:=rx;rfl)
   | (cases rx;rename_i a;cases a<;>cases b<;>rfl)
 |_=>exact Jm pins s σ H x _ v u Q I rx ry h
theorem LY:a_ X (compareOp .IsNot) AS:=by
 intro pins s σ H x y v u Q I rx ry h;cases y with
 |bl b=>
  cases ry;have nb:∀id,v≠ .builtin id:=fun id z=>by
   subst z;cases x<;>first
    | (obtain⟨t,e⟩:=rx;cases e;done)
    | (cases rx;done)
  refine LW nb<|bL I (show Q (.bl<|!decide (x=.bl b)) H from h) ?_
  cases x<;>first
   | (cases rx;rfl)
   | (obtain⟨t,rfl⟩:=rx;rfl)
   | (cases rx;rename_i a;cases a<;>cases b<;>rfl)
 |_=>exact Jo pins s σ H x _ v u Q I rx ry h
def bX(K:Frag):CmpOp->R2
 |.Eq=>kH false
 |.NotEq=>kH true
 |.Lt=>iy (fun _ _=>True) fun i j=>.bl (decide<|i<j)
 |.LtE=>iy (fun _ _=>True) fun i j=>.bl (decide<|i<=j)
 |.Gt=>iy (fun _ _=>True) fun i j=>.bl (decide<|j<i)
 |.GtE=>iy (fun _ _=>True) fun i j=>.bl (decide<|j<=i)
 |.In=>qA K false
 |.NotIn=>qA K true
 |.Is=>AR
 |.IsNot=>AS
theorem qB(hu:X.A.units+64<cLine)(op:CmpOp):a_ X (compareOp op) (bX X.K op):=by
 cases op with
 |Eq=>exact LQ hu
 |NotEq=>exact LR hu
 |Lt=>exact a_.imp Jh oh
 |LtE=>exact a_.imp Ji oh
 |Gt=>exact a_.imp Jj oh
 |GtE=>exact a_.imp Jk oh
 |In=>exact LS hu
 |NotIn=>exact LU hu
 |Is=>exact LX
 |IsNot=>exact LY
inductive Ty where|int|str|bool|list|tuple|dict
 deriving DecidableEq
def Ty.nm:Ty->String
 |.int=> "int" |.str=> "str" |.bool=> "bool" |.list=> "list" |.tuple=> "tuple" |.dict=> "dict"
def bI(T:Ty)(x:V)(H:Hp)(Q:Bool->Prop):Prop:=match x with
 |.az=>Q false
 |.bl _=>Q (T==.bool ||T==.int)
 |.int _=>Q (T==.int)
 |.str _=>Q (T==.str)
 |.ref a=>match H a with
  |some (.lst _)=>Q (T==.list)
  |some (.bJ _<|.lst _)=>Q (T==.list)
  |some (.tup _)=>Q (T==.tuple)
  |some (.dK _)=>Q (T==.dict)
  |some (.dT _)=>Q (T==.dict)
  |_=>False
 |_=>False
theorem jD(K:Frag)(S T:Ty):kitOne K (.type S.nm) (.type T.nm)=some (S==T ||(S==.bool && T==.int)):=by
 cases S<;>cases T<;>rfl
theorem LZ(K:Frag)(T:Ty):kitOne K (.type "NoneType") (.type T.nm)=some false:=by
 cases T<;>rfl
theorem L0(hc:X.calm=true):bW X (.builtin "sum") (fun xs H Q=>∃(p:Addr) (ns:List Int),xs=[.ref p]/\ay X.K H p (ns.map V.int)/\Q (.int ns.sum) H):=by
 intro pins s σ H xs us Q I r h;obtain⟨p,ns,rfl,hq,q⟩:=h;obtain⟨u,rfl,ru⟩:=vals1 r;cases ru;obtain⟨its,rv,pl,hz⟩:=I.list hq;have hi:=intsAre_of rv;obtain⟨xs,hx⟩:=hi.allInts.items;have AU:s.heap.IsList p (intItems xs):=hx ▸ pl.isList;refine sum_intListG (I.ok.hd hc) AU fun h' tk t' hk=>?_;have e1:ns=xs.toList.map (·.1):=by
  rw[<-nums_intItems,<-hx];exact(show numsOf its.toArray.toList=ns from hi.numsOf).symm
 have e2:preSum (numAt xs) xs.size=ns.sum:=by
  rw[preSum_eq,zaC (by simp),e1]
 rw[e2];exact⟨.int ns.sum,H,I.kept (t':=tk) hk,⟨t',rfl⟩,q⟩
theorem AV:∀{ts:List Str}{us:List Value},Vals (ts.map V.str) us->∃l:List (Str×Tok),us=strValues l/\l.map (·.1)=ts
 |[],_,.nil=>⟨[],rfl,rfl⟩
 |x::ts,_,.cons ⟨t,e⟩ r=>by
  obtain⟨l,e1,e2⟩:=AV r;subst e e1;exact⟨(x,t)::l,rfl,by simp[e2]⟩
def rJoin(K:Frag):V->List V->Hp->VK->Prop:=fun x vs H Q=>∃(sep:Str) (p:Addr) (ts:List Str),x=.str sep/\vs=[.ref p]/\ay K H p (ts.map V.str)/\JoinOk sep ts=true/\Q (.str<|Txt.join sep ts) H
theorem L4:mz X "str.join" (rJoin X.K):=by
 intro pins s σ H x vs v us Q I rx rv h;obtain⟨sep,p,ts,rfl,rfl,hq,hj,q⟩:=h;obtain⟨t,rfl⟩:=rx;obtain⟨u,rfl,ru⟩:=vals1 rv;cases ru;obtain⟨its,rv,pl,hz⟩:=I.list hq;obtain⟨l,rfl,e2⟩:=AV rv;exact SC.join pl.isList e2 hj fun t' k=>⟨.str _,H,I.tok k,⟨t',rfl⟩,q⟩
def L5:V->List V->Hp->VK->Prop:=fun x vs H Q=>∃z y,x=.str z/\vs=[.str y]/\z.length<=sizeLine/\Q (.str<|Txt.lstripChars z y) H
theorem L6:mz X "str.lstrip" L5:=by
 intro pins s σ H x vs v us Q I rx rv h;obtain⟨z,y,rfl,rfl,hz,q⟩:=h;obtain⟨t,rfl⟩:=rx;obtain⟨u,rfl,⟨t2,rfl⟩⟩:=vals1 rv;refine call_gives F.slot_str_lstrip (typeIs_str _ _ _) F.entry_str_lstrip (F.args_str_lstrip_2 _ _) (gives_str_lstrip_chars z y t t2)<|post_val_or_made (fun _=>fits_stripped _ _ _ hz) fun t' k=>?_;exact⟨.str _,H,I.tok k,⟨t',rfl⟩,q⟩
def iz{α:Type}(xs:List α)(lo hi:Option Int):List α:=(xs.drop<|HT.aX xs.length 0 lo).take (HT.aX xs.length xs.length hi - HT.aX xs.length 0 lo)
def gg(z:Str)(lo hi:Option Int):Str:=⟨(iz z.cps.toList lo hi).toArray⟩
theorem L7(z:Str)(lo hi:Option Int):((Builtin.Str.strSliceIndices lo hi 1 z.length).filterMap (z.cps[·]?))=iz z.cps.toList lo hi:=by
 obtain⟨h1,h2,h3⟩:=um lo hi z.length;have e0:Builtin.Str.strSliceIndices lo hi 1 z.length=sliceRange (sliceBounds lo hi none z.length).1 (sliceBounds lo hi none z.length).2.1 (sliceBounds lo hi none z.length).2.2:=rfl;have hz:z.cps.toList.length=z.length:=by simp[Str.length]
 rw[e0,h1,h2,h3,sliceRange_one,pick_run];unfold iz;rw[hz]
end
section
variable {X:Cx}
def qC(K:Frag)(neg:Bool):R2:=fun x y H Q=>∃p xs d es,y=.ref p/\ay K H p xs/\Is H d x/\IsL H es xs/\SeqAt.shaped d=true/\d.depth<=60/\(∀e∈es,SeqAt.shaped e=true)/\Q (.bl<|neg ^^ es.any fun e=>PyData.eqv e d) H
open Classical in
end
def uO:HO:=.ext fun _=>True
structure uP (ob:Obj) (cls:Value) (vs:Array Value):Prop where
 cls:ob.cls=cls
 data:ob.data=.fields vs
 Yz:vs[2]?=some .none
 dict:ob.dict=none
def ExcAt(H:Hp)(ea D:Addr):Prop:= ∃ob vs,H ea=some (.bJ ob uO)/\uP ob (.ref D) vs
structure L8 (K:Frag) (D:Addr):Prop where
 YA:PySem.W.findIn K (.ref D) "__getattribute__"=some (some<|.builtin "BaseException.__getattribute__")
 YB:PySem.W.findIn K (.ref D) "__getattr__"=some none
 hk:(PySem.W.clsIn K D).isSome=true
 ha:PySem.W.findIn K (.ref D) "__class__"=some (some<|.builtin "object.__class__")
 hn:specialIn K (.builtin "object.__class__") "__get__"=some (some<|.builtin "getset_descriptor.__get__")
 nK:takesIn K (.builtin "object.__class__")=some true
 hm:PySem.W.mroIn K D (.type "object")=some true
 hb:PySem.W.mroIn K D (.type "BaseException")=some true
def cV:V->Value
 |.ref a=>.ref a
 |.ty n=>.type n
 |_=>.none
def AW(K:Frag):List V->Hp->VK->Prop
 |[.ref ea,c],H,Q=>∃D b,ExcAt H ea D/\L8 K D/\((∃C,c=.ref C)\/∃n,c=.ty n)/\kitOne K (.ref D) (cV c)=some b/\Q (.bl b) H
 |_,_,_=>False
def L9(sp:Sp)(hv:Option Addr)(t:TA):TE:=fun σ H Q=>t σ H fun vs H1=>(∃ea D,hv=some ea/\ExcAt H1 ea D)/\sp vs H1 Q E0
def uQ(C:Addr)(E:XK)(t:TA):TS:=fun _ σ H=>t σ H fun vs H1=>vs.length<=sizeLine/\E (.ref C) none H1
def L_(K:Frag)(C:Addr)(i n:Nat)(th:Addr->TS)(D:Ends):XK:=fun cls _ H'=>exmOne K cls (.ref C)=some true/\
 ∀(ea:Addr) (ob:Obj) (vs:Array Value) (σ':St),H' ea=none->σ'.length=n->uP ob cls vs->th ea {nx:=fun _ _=>False,rt:=D.rt} (σ'.set i<|some<|.ref ea) (upd H' ea<|.bJ ob uO)
def Ma(K:Frag)(C:Addr)(i n:Nat)(tb:XK->TS)(th:Addr->TS):TS:=fun D σ H=>tb (L_ K C i n th D) {nx:=D.nx,rt:=D.rt} σ H
def Mb(K:Frag)(C:Addr)(i:Nat)(th:Addr->TS)(D:Ends)(σ:St):XK:=fun cls _ H'=>exmOne K cls (.ref C)=some true/\
 ∀(ea:Addr) (ob:Obj) (vs:Array Value),H' ea=none->uP ob cls vs->th ea {nx:=fun _ _=>False,rt:=D.rt} (σ.set i<|some<|.ref ea) (upd H' ea<|.bJ ob uO)
def Mc(K:Frag)(C:Addr)(i k:Nat)(sp:Sp)(ta:TA)(th:Addr->TS):TS:=fun D σ H=>ta σ H fun vs H1=>sp vs H1 (fun v H2=>D.nx (σ.set k<|some v) H2) (Mb K C i th D σ)
inductive i9 where|len|min|max|sum|int|list|tuple|abs
 deriving DecidableEq
inductive gR where|append|pop|extend|join|lstrip|starts|reverse|clear|index|find|count|AX|uR
 deriving DecidableEq
inductive IK where|list|tup|e9|Md|zip|uS|txt|Me|Mf
 deriving DecidableEq
inductive RE where
 |v (i:Nat)|c (x:V)|g (j:Nat)
 |bin (op:Operator) (a b:RE)|neg (a:RE)
 |cmp (op:CmpOp) (a b:RE)|oi (op dW:CmpOp) (a b d:RE)|AY (op dW AZ:CmpOp) (a b d f:RE)
 |and (as:List RE)|or (as:List RE)|not (a:RE)|i_ (t a b:RE)
 |call (j:Nat) (as:List RE)|blt (b:i9) (as:List RE)|d_ (T:Ty) (a:RE)
 |bq (m:gR) (o:RE) (as:List RE)
 |ix (a b:RE)|sl (a:RE) (lo hi:Option RE)
 |tup (as:List RE)|lst (as:List RE)
 |comp (tk:Option Nat) (fv:List (Str×Nat)) (k:IK) (its:List RE) (cond:Option RE) (elt:RE)
 |A2 (a c:RE)|Mg (j:Nat) (a:RE)|Mh|same (a b:RE)
 |Mi|Mj (a b:RE)|A3 (a b:RE)|A6 (a b:RE)|Ml (o a b:RE)|inD (a b:RE)|A7 (a b:RE)
 |xt (T:Frag->TA->TE) (as:List RE)|xm (T:Frag->TE->TA->TE) (o:RE) (as:List RE)
 |fld (o:RE) (f:Str)|bo (j:Nat) (m:Str) (o:RE) (as:List RE)|make (j:Nat) (as:List RE)
structure bf where
 K:Frag
 fs:Nat->Sp
 gv:Nat->V
 E:XK
 sd:Addr->List (Key×V)->Prop
 ms:Nat->Addr×Sp
 kt:Nat->Addr×Sp
 ex:Nat->Addr
 hs:Nat->Sp
 hv:Option Addr
abbrev bf.calm(Γ:bf):bf:={Γ with E:=E0}
inductive RS where
 |asg (i:Nat) (e:RE)|Mm (i:Nat) (e:RE)|set (o ix e:RE)
 |drop (e:RE)|ret (e:RE)|Mn
 |ite (c:RE) (t e:List RS)
 |fN (i:Nat) (k:IK) (its:List RE) (body:List RS)
 |kI (is:List Nat) (k:IK) (its:List RE) (body:List RS)
 |jE (c:RE) (body:List RS)
 |pass|brk|cont|never
 |Mo (o lo hi e:RE)|iA (o:RE) (f:Str) (e:RE)
 |qD (is:List Nat) (e:RE)|dput (o i e:RE)|fO (j:Nat) (as:List RE)|Mp (n i j:Nat) (body su:List RS)|Mq (k i j f:Nat) (as:List RE) (su:List RS)
 |xs (T:bf->TS)
def gh(K:Frag)(x:V)(H:Hp)(Q:Bool->Prop):Prop:=match x with
 |.az=>Q false
 |.bl b=>Q b
 |.int i=>Q (i !=0)
 |.str y=>y.length<=sizeLine/\Q ((y.length:Int) !=0)
 |.ref p=>(∃xs,ay K H p xs/\Q (!xs.isEmpty))\/(∃xs,aO K H p xs/\Q (!xs.isEmpty))\/∃aL,H p=some (.dK aL)/\Q (!aL.isEmpty)
 |_=>False
theorem A8{K:Frag}{x:V}{H:Hp}{Q:Bool->Prop}(h:gh K x H Q):∃k,zv K x H k/\Q k:=by
 cases x with
 |az=>exact⟨_,rfl,h⟩
 |bl b=>exact⟨_,rfl,h⟩
 |int i=>exact⟨_,rfl,h⟩
 |str y=>exact⟨_,⟨h.1,rfl⟩,h.2⟩
 |ref p=>
  rcases h with⟨xs,h1,h2⟩|⟨xs,h1,h2⟩|⟨xs,h1,h2⟩
  ·exact⟨_,.inl ⟨xs,h1,rfl⟩,h2⟩
  ·exact⟨_,.inr<|.inl ⟨xs,h1,rfl⟩,h2⟩
  ·exact⟨_,.inr<|.inr ⟨xs,h1,rfl⟩,h2⟩
 |_=>exact False.elim h
def ee(K:Frag)(t:TE):TT:=fun σ H Q=>t σ H fun x H1=>gh K x H1 fun b=>Q b H1
def uT(K:Frag)(t:TE):TE:=fun σ H Q=>t σ H fun x H1=>gh K x H1 fun b=>Q (.bl<|!b) H1
def A9:V->Hp->VK->Prop:=fun x H Q=>match x with|.int i=>Q (.int<|-i) H|_=>False
def nW(K:Frag)(x:V)(H:Hp)(Q:Nat->Prop):Prop:=match x with
 |.str y=>y.length<=sizeLine/\Q y.length
 |.ref p=>(∃xs,ay K H p xs/\Q xs.length)\/∃xs,aO K H p xs/\Q xs.length
 |_=>False
def signs(x:Str):List V:=x.cps.toList.map fun c=>V.str ⟨#[c]⟩
def Mr:TE:=fun _ H Q=>∀p,H p=none->Q (.ref p) (upd H p<|.dK [])
def jF(K:Frag):i9->List V->Hp->VK->Prop
 |.len,[x],H,Q=>nW K x H fun n=>Q (.int n) H
 |.min,[.int i,.int j],H,Q=>Q (.int (if j<i then j else i)) H
 |.max,[.int i,.int j],H,Q=>Q (.int (if j>i then j else i)) H
 |.min,[.ref p],H,Q=>∃ns:List Int,ay K H p (ns.map V.int)/\ns≠ []/\∀m:Int,m∈ns->(∀n∈ns,m<=n)->Q (.int m) H
 |.max,[.ref p],H,Q=>∃ns:List Int,ay K H p (ns.map V.int)/\ns≠ []/\∀m:Int,m∈ns->(∀n∈ns,n<=m)->Q (.int m) H
 |.sum,[.ref p],H,Q=>∃ns:List Int,ay K H p (ns.map V.int)/\Q (.int ns.sum) H
 |.int,[.int i],H,Q=>Q (.int i) H
 |.int,[.bl k],H,Q=>Q (.int (if k then 1 else 0)) H
 |.list,[.ref p],H,Q=>∃ys,(ay K H p ys\/aO K H p ys)/\∀l,H l=none->Q (.ref l) (upd H l<|.lst ys)
 |.list,[.str x],H,Q=>x.length<=sizeLine/\∀l,H l=none->Q (.ref l) (upd H l<|.lst<|signs x)
 |.abs,[.int i],H,Q=>Q (.int (if i<0 then -i else i)) H
 |_,_,_,_=>False
def qE(T:Ty):List V->Hp->VK->Prop
 |[x,.ty n],H,Q=>n=T.nm/\bI T x H fun b=>Q (.bl b) H
 |_,_,_=>False
def oj(K:Frag):gR->V->List V->Hp->VK->Prop
 |.append,.ref l,[y],H,Q=>∃xs,H l=some (.lst xs)/\xs.length<sizeLine/\Q .az (upd H l<|.lst<|xs++[y])
 |.pop,.ref l,[],H,Q=>∃xs y,H l=some (.lst xs)/\xs[xs.length - 1]?=some y/\Q y (upd H l<|.lst xs.dropLast)
 |.extend,.ref l,[.ref b],H,Q=>∃xs zs,H l=some (.lst xs)/\H b=some (.lst zs)/\xs.length+zs.length<=sizeLine/\Q .az (upd H l<|.lst<|xs++zs)
 |.join,.str sep,[.ref p],H,Q=>∃ts:List Str,ay K H p (ts.map V.str)/\JoinOk sep ts=true/\Q (.str<|Txt.join sep ts) H
 |.lstrip,.str z,[.str y],H,Q=>z.length<=sizeLine/\Q (.str<|Txt.lstripChars z y) H
 |.find,.str z,[.str y],H,Q=>Q (.int (match Builtin.Str.occurrences z y 0 z.length 1 with|i::_=>(i:Int)|[]=> -1)) H
 |.find,.str z,[.str y,.int i],H,Q=>Q (.int (match Builtin.Str.occurrences z y (fromIndex z.length i) z.length 1 with|k::_=>(k:Int)|[]=> -1)) H
 |.count,.str z,[.str y],H,Q=>Q (.int (Builtin.Str.occurrences z y 0 z.length<|z.length+1).length) H
 |.clear,.ref l,[],H,Q=>∃xs,H l=some (.lst xs)/\Q .az (upd H l<|.lst [])
 |.uR,.ref l,[y],H,Q=>∃xs,ay K H l xs/\fi y=true/\xs.all fi=true/\eO y xs=true/\Q (.int (xs.findIdx (fun z=>eN z y):Nat)) H
 |_,_,_,_,_=>False
def qF:gR->String
 |.join|.lstrip|.starts|.find|.count=> "str"
 |_=> "list"
def qG(K:Frag)(m:gR)(to:TE)(t:TA):TE:=fun σ H Q=>to σ H fun x H1=>nT K (qF m) x H1/\t σ H1 fun xs H2=>oj K m x xs H2 Q
def om(K:Frag):V->Option Int->Option Int->Hp->VK->Prop:=fun x lo hi H Q=>match x with
 |.str z=>z.length<=sizeLine/\Q (.str<|gg z lo hi) H
 |.ref a=>(∃xs,ay K H a xs/\∀p,H p=none->Q (.ref p) (upd H p<|.lst<|dF xs lo hi))\/
  (∃xs,aO K H a xs/\ ¬(HT.aX xs.length 0 lo=0/\HT.aX xs.length xs.length hi=xs.length)/\∀p,H p=none->Q (.ref p) (upd H p<|.tup<|dF xs lo hi))
 |_=>False
def kJ(aL:List (Key×V))(k:Key):Option V:=(aL.find? fun kv=>decide (kv.1=k)).map (·.2)
def A_(sd:Addr->List (Key×V)->Prop):R2:=fun x y H Q=>∃p aL k v,x=.ref p/\y=kV k/\sd p aL/\kJ aL k=some v/\Q v H
def ja(K:Frag)(sd:Addr->List (Key×V)->Prop):R2:=fun x y H Q=>zZ K x y H Q\/z6 K x y H Q\/z_ x y H Q\/A_ sd x y H Q
def Ms(r r' r2:R2)(ta tb tc td:TE):TT:=fun σ H Q=>ta σ H fun x H1=>tb σ H1 fun y H2=>r x y H2 fun z H3=>∃k,z=.bl k/\
 (if k=true then tc σ H3 fun w H4=>r' y w H4 fun z2 H5=>∃k2,z2=.bl k2/\(if k2=true then td σ H5 fun u H6=>r2 w u H6 fun z3 H7=>∃k3,z3=.bl k3/\Q k3 H7 else Q false H5) else Q false H3)
def Mt(K:Frag)(a b:Addr):It:=
  ⟨fun i H=>∃xs ys,ay K H a xs/\ay K H b ys/\i<xs.length/\i<ys.length,
   fun i H x H'=>∃T,H T=none/\x=.ref T/\∀xs ys u v,ay K H a xs->ay K H b ys->xs[i]?=some u->ys[i]?=some v->H'=upd H T (.tup [u,v]),
   fun i H=>∃xs ys,ay K H a xs/\ay K H b ys/\i=min xs.length ys.length⟩
def oo(K:Frag)(a:Addr):It:=
  ⟨fun i H=>∃xs,ay K H a xs/\i<xs.length,
   fun i H x H'=>∃T,H T=none/\x=.ref T/\∀xs u,ay K H a xs->xs[i]?=some u->H'=upd H T (.tup [.int (i:Nat),u]),
   fun i H=>∃xs,ay K H a xs/\i=xs.length⟩
def uU(K:Frag)(ta:TA):TI:=fun σ H R=>ta σ H fun vs H1=>∃a,vs=[.ref a]/\(∃xs,ay K H1 a xs)/\R (oo K a) H1
def Mu(K:Frag)(ta:TA):TI:=fun σ H R=>ta σ H fun vs H1=>∃a b,vs=[.ref a,.ref b]/\(∃xs,ay K H1 a xs)/\(∃ys,ay K H1 b ys)/\R (Mt K a b) H1
def Mv(K:Frag)(a b:Addr):It:=
  ⟨fun i H=>∃xs ys,aO K H a xs/\aO K H b ys/\i<xs.length/\i<ys.length,
   fun i H x H'=>∃T,H T=none/\x=.ref T/\∀xs ys u v,aO K H a xs->aO K H b ys->xs[i]?=some u->ys[i]?=some v->H'=upd H T (.tup [u,v]),
   fun i H=>∃xs ys,aO K H a xs/\aO K H b ys/\i=min xs.length ys.length⟩
def Mw(K:Frag)(ta:TA):TI:=fun σ H R=>ta σ H fun vs H1=>∃a b,vs=[.ref a,.ref b]/\(∃xs,aO K H1 a xs)/\(∃ys,aO K H1 b ys)/\R (Mv K a b) H1
def Mx(z:Str):It:=⟨fun i _=>i<z.length,fun i H x H'=>H'=H/\∃c,z.cps[i]?=some c/\x=.str ⟨#[c]⟩,fun i _=>i=z.length⟩
def My(ta:TE):TI:=fun σ H R=>ta σ H fun x H1=>∃z,x=.str z/\R (Mx z) H1
def Mz(lo c:Int)(n:Nat):It:=⟨fun i _=>i<n,fun i H x H'=>H'=H/\x=.int (lo+i*c),fun i _=>n<=i⟩
def MA(ta:TA):TI:=fun σ H R=>ta σ H fun vs H1=>∃(i j c:Int) (n:Nat),vs=[.int i,.int j,.int c]/\c≠0/\Builtin.Range.small i j c=true/\Builtin.divisionGoesByPylong (j - i) c=false/\Builtin.Range.rangeSize i j c=n/\R (Mz i c n) H1
mutual
def aj(Γ:bf):RE->TE
 |.v i=>tJ i
 |.c x=>tC x
 |.g j=>tC (Γ.gv j)
 |.bin op a b=>dg (i8 Γ.K op) (aj Γ a) (aj Γ b)
 |.neg a=>zm A9 (aj Γ a)
 |.cmp op a b=>dg (bX Γ.K op) (aj Γ a) (aj Γ b)
 |.oi op dW a b d=>qc (bX Γ.K op) (bX Γ.K dW) (aj Γ a) (aj Γ b) (aj Γ d)
 |.AY _ _ _ _ _ _ _=>fun _ _ _=>False
 |.and as=>Ba Γ as
 |.or as=>Bb Γ as
 |.not a=>uT Γ.K (aj Γ a)
 |.i_ t a b=>yW (bc Γ t) (aj Γ a) (aj Γ b)
 |.call j as=>ub (Γ.fs j) [] Γ.E (aW Γ as)
 |.blt b as=>dj (jF Γ.K b) (aW Γ as)
 |.d_ T a=>dj (qE T) (dc (aj Γ a)<|dc (tC<|.ty T.nm) ip)
 |.bq m o as=>qG Γ.K m (aj Γ o) (aW Γ as)
 |.ix a b=>dg (ja Γ.K Γ.sd) (aj Γ a) (aj Γ b)
 |.sl a lo hi=>ug (om Γ.K) (aj Γ a) (jG Γ lo) (jG Γ hi)
 |.tup as=>zD (aW Γ as)
 |.lst as=>zE (aW Γ as)
 |.comp tk fv k its cond elt=>nZ Γ.K (fk Γ k its) tk fv (uV Γ.calm cond) (aj Γ.calm elt)
 |.A2 a c=>dj (AW Γ.K) (dc (aj Γ a)<|dc (aj Γ c) ip)
 |.Mh=>Mr
 |.same a b=>dg LP (aj Γ a) (aj Γ b)
 |.inD a b=>dg (qC Γ.K false) (aj Γ a) (aj Γ b)
 |.A7 a b=>dg (qC Γ.K true) (aj Γ a) (aj Γ b)
 |.Mi=>La
 |.Mj a b=>K9 (aj Γ a) (aj Γ b)
 |.A3 a b=>Al (aj Γ a) (aj Γ b)
 |.A6 a b=>Am (aj Γ a) (aj Γ b)
 |.Ml o a b=>Lc (aj Γ o) (aj Γ a) (aj Γ b)
 |.xt T as=>T Γ.K (aW Γ as)
 |.xm T o as=>T Γ.K (aj Γ o) (aW Γ as)
 |.Mg j a=>L9 (Γ.hs j) Γ.hv (dc (aj Γ a) ip)
 |.fld o f=>qd Γ.K (aj Γ o) f
 |.bo j m o as=>ks (Γ.ms j).1 m (Γ.ms j).2 [] Γ.E (aj Γ o) (aW Γ as)
 |.make j as=>nN (Γ.kt j).1 (Γ.kt j).2 [] Γ.E (aW Γ as)
def bc(Γ:bf):RE->TT
 |.not a=>yU (bc Γ a)
 |.inD a b=>my (dg (qC Γ.K false) (aj Γ a)<|aj Γ b)
 |.A7 a b=>my (dg (qC Γ.K true) (aj Γ a)<|aj Γ b)
 |.A3 a b=>tB (Al (aj Γ a)<|aj Γ b)
 |.A6 a b=>tB (Am (aj Γ a)<|aj Γ b)
 |.and as=>Bc Γ as
 |.or as=>Be Γ as
 |.cmp op a b=>my (dg (bX Γ.K op) (aj Γ a)<|aj Γ b)
 |.oi op dW a b d=>my (qc (bX Γ.K op) (bX Γ.K dW) (aj Γ a) (aj Γ b)<|aj Γ d)
 |.AY op dW AZ a b d f=>Ms (bX Γ.K op) (bX Γ.K dW) (bX Γ.K AZ) (aj Γ a) (aj Γ b) (aj Γ d) (aj Γ f)
 |.v i=>ee Γ.K (tJ i)
 |.call j as=>ee Γ.K (ub (Γ.fs j) [] Γ.E<|aW Γ as)
 |.d_ T a=>ee Γ.K (dj (qE T)<|dc (aj Γ a)<|dc (tC<|.ty T.nm) ip)
 |.A2 a c=>ee Γ.K (dj (AW Γ.K)<|dc (aj Γ a)<|dc (aj Γ c) ip)
 |.bq m o as=>ee Γ.K (qG Γ.K m (aj Γ o)<|aW Γ as)
 |.ix a b=>ee Γ.K (dg (ja Γ.K Γ.sd) (aj Γ a)<|aj Γ b)
 |.bin op a b=>ee Γ.K (dg (i8 Γ.K op) (aj Γ a)<|aj Γ b)
 |.fld o f=>ee Γ.K (qd Γ.K (aj Γ o) f)
 |.xt T as=>ee Γ.K (T Γ.K<|aW Γ as)
 |.xm T o as=>ee Γ.K (T Γ.K (aj Γ o)<|aW Γ as)
 |.bo j m o as=>ee Γ.K (ks (Γ.ms j).1 m (Γ.ms j).2 [] Γ.E (aj Γ o)<|aW Γ as)
 |_=>fun _ _ _=>False
def aW(Γ:bf):List RE->TA
 |[]=>ip
 |a::r=>dc (aj Γ a) (aW Γ r)
def Ba(Γ:bf):List RE->TE
 |[]=>fun _ _ _=>False
 |[a]=>aj Γ a
 |a::r=>yV (aj Γ a) (Ba Γ r)
def Bb(Γ:bf):List RE->TE
 |[]=>fun _ _ _=>False
 |[a]=>aj Γ a
 |a::r=>Ij (aj Γ a) (Bb Γ r)
def Bc(Γ:bf):List RE->TT
 |[]=>fun _ _ _=>False
 |[a]=>bc Γ a
 |a::r=>yS (bc Γ a) (Bc Γ r)
def Be(Γ:bf):List RE->TT
 |[]=>fun _ _ _=>False
 |[a]=>bc Γ a
 |a::r=>yT (bc Γ a) (Be Γ r)
def jG(Γ:bf):Option RE->TO
 |none=>zT
 |some a=>qj (aj Γ a)
def uV(Γ:bf):Option RE->Option TT
 |none=>none
 |some a=>some (bc Γ a)
def fk(Γ:bf)(k:IK):List RE->TI
 |[]=>fun _ _ _=>False
 |a::r=>match k with
  |.list=>tS Γ.K (aj Γ a)
  |.tup=>tU Γ.K (aj Γ a)
  |.e9=>zi (dc (aj Γ a)<|aW Γ r)
  |.Md=>IQ (dc (aj Γ a)<|aW Γ r)
  |.zip=>Mu Γ.K (dc (aj Γ a)<|aW Γ r)
  |.uS=>uU Γ.K (dc (aj Γ a)<|aW Γ r)
  |.txt=>My (aj Γ a)
  |.Me=>Mw Γ.K (dc (aj Γ a)<|aW Γ r)
  |.Mf=>MA (dc (aj Γ a)<|aW Γ r)
end
structure bY where
 N:List Str
 sc:Scope
 fn:List Str
 gn:List Str
 bl:List Str
 mn:List Str
 kn:List Str
 en:List Str
 hn:List Str
 md:Nat
def uW(sc:Scope)(x:Str):Bool:=match sc.names.lookup x with
 |some .local=>true|some .cell=>true|some .free=>true|_=>false
def loc(sc:Scope)(x:Str):Bool:=match sc.names.lookup x with
 |some .local=>true|some .cell=>true|_=>false
def jH(sc:Scope)(x:Str):Bool:=match sc.names.lookup x with
 |some .globalImplicit=>true|_=>false
theorem MB{sc:Scope}{x:Str}(h:uW sc x=true):pN sc x:=by
 unfold uW at h;unfold pN;cases e:sc.names.lookup x with
 |none=>rw[e] at h;cases h
 |some k=>rw[e] at h;cases k<;>first|exact .inl rfl|exact .inr (.inl rfl)|exact .inr (.inr rfl)|cases h
theorem Bf{sc:Scope}{x:Str}(h:loc sc x=true):Loc sc x:=by
 unfold loc at h;unfold Loc;cases e:sc.names.lookup x with
 |none=>rw[e] at h;cases h
 |some k=>rw[e] at h;cases k<;>first|exact .inl rfl|exact .inr rfl|cases h
theorem MC{sc:Scope}{x:Str}(h:jH sc x=true):sc.names.lookup x=some .globalImplicit:=by
 unfold jH at h;cases e:sc.names.lookup x with
 |none=>rw[e] at h;cases h
 |some k=>rw[e] at h;cases k<;>first|rfl|cases h
structure ou where
 elt:Expr
 tg:Expr
 iter:Expr
 ifs:List Expr
 sc:Scope
def i9.nm:i9->Str
 |.len=> "len" |.min=> "min" |.max=> "max" |.sum=> "sum" |.int=> "int" |.list=> "list" |.tuple=> "tuple" |.abs=> "abs"
def gR.nm:gR->Str
 |.append=> "append" |.pop=> "pop" |.extend=> "extend" |.join=> "join" |.lstrip=> "lstrip" |.starts=> "startswith" |.reverse=> "reverse" |.clear=> "clear" |.index=> "index" |.find=> "find" |.count=> "count" |.AX=> "count" |.uR=> "index"
def kN:Expr->Bool
 |.Call (.Name _ _) [] [] _=>false
 |_=>true
def noStar:Expr->Bool
 |.Starred ..=>false
 |_=>true
def mE:Expr->Bool
 |.Set ..=>false
 |_=>true
def uX(Bg sc:Scope):Scope:=
 {Bg with names:=Bg.names.map fun(n,k)=>if (k==.free && sc.kind==.function && sc.names.lookup n==some .cell) then (n,.cell) else (n,k)}
def uY(tk:Option Nat)(tg:Expr):Option (List Str):=match tk,tg with
 |none,.Name x _=>some [x]
 |some 2,.Tuple [.Name x _,.Name y _] _ _=>some [x,y]
 |_,_=>none
def Bh(S:bY)(c:ou)(ln:List Str)(fv:List (Str×Nat)):bY:={S with N:=ln++fv.map (·.1),sc:=uX c.sc S.sc,en:=[],md:=if S.md=0 then 0 else 2}
def qH(S:bY)(c:ou)(ln:List Str)(fv:List (Str×Nat)):Bool:=
 decide (c.sc.kind=.function) && c.sc.names.all (fun y=>decide<|y.2≠ .cell) && c.sc.names.all (fun y=>decide (y.2≠ .local)||decide (c.sc.names.lookup y.1=some .local))
 && c.sc.names.all (fun y=>decide (y.2≠ .free)||decide (S.sc.names.lookup y.1=some .cell)||decide (S.sc.names.lookup y.1=some .free))
 && fv.all (fun p=>decide (S.N[p.2]?=some p.1) && decide (c.sc.names.lookup p.1=some .free))
 && ln.all (fun x=>decide<|c.sc.names.lookup x=some .local) && decide ((ln++fv.map (·.1)).Nodup) && mE c.iter
theorem boot_zip:bootBuiltins "zip"=some (.type "zip"):=by decide+kernel
theorem MD{P:Program}{w:World}{K:Frag}{elts:List Expr}{k:Nat}{pos:Pos}{z it l:Addr}(d1:z≠it)(d2:l≠z)(d3:l≠it):
  Turn P w K (.Tuple elts k pos) (oo K l) [z,it] z
   (fun i h=>(∃old,IsEnum h z it i old)/\h.IsListIter it l i) where
 mem:=by simp
 obj:=fun i h st b hb=>by
  obtain⟨⟨old,hz⟩,⟨o2,e2,c2,d2⟩⟩:=st
  simp only[zad,zah,or_false] at hb
  rcases hb with rfl|rfl
  ·exact⟨_,hz,fun v q=>by cases q⟩
  ·exact⟨_,e2,fun v q=>by rw[d2] at q;cases q⟩
 keep:=fun i h h' st hk=>by
  obtain⟨⟨old,hz⟩,h1⟩:=st;exact⟨⟨old,hk z (by simp) _ hz⟩,h1.at fun o e=>hk it (by simp) o e⟩
 item:=by
  intro X hP hw hK hc i pins s σ H E I hf st hg;subst hP hw hK;obtain⟨xs,hx,Bi⟩:=hg;obtain⟨iB,r1,p1,z1⟩:=I.list hx;have uZ:=r1.length;have W:=WalksT.enumerate (prog:=X.prog) (w:=X.w) (A:=X.A) (I.ok.hd hc) z it l d1 d2 d3 iB.toArray;obtain⟨hz,h1⟩:=id st;have hn:i<iB.toArray.size:=by simp only[zac];lia
  refine W.item i s _ _ hn ⟨hz,h1,p1.isList⟩ fun T vals h' tk hv hT ME mid hk=>?_;refine⟨.ref T,rfl,?_⟩;refine W.go elts k pos i T _ _ _ mid fun jb MF Bj=>?_;obtain⟨t0,u,eu,rfl⟩:=hv;have kk:∀b o,b∉ [z,it]->s.heap.get? b=some o->jb.get? b=some o:=fun b o hb e=>Bj b o hb (hk b o hb e);have I1:Inv X pins σ H {s with heap:=jb,toks:=tk}:=by
   refine I.step (g':=s.gens) (d':=s.drawn) (ch:=[z,it]) (fun b hb=>?_) (fun b o _ _ hc e _=>kk b o hc e) (fun b o _ _ hc e _=>⟨o.slots,kk b o hc e⟩) (fun _ _ _ _ n=>n)
    (fun b o hc e=>⟨o,kk b o hc e⟩) (fun _ _ e=>e) (fun _ _ _ e=>e) (fun b ps e=>⟨#[],by rw[e];simp⟩) (fun m hm=>?_) (fun b o e=>?_) I.bare
   ·obtain⟨f0,f1,f2,f3,f4,f5⟩:=hf b hb;exact⟨f3,f1,f4,f5⟩
   ·obtain⟨o,es,ep,ho,r⟩:=hm;exact⟨o,es,ep,kk _ o (fun hb=>(hf _ hb).2.1 rfl) ho,r⟩
   ·have nb:∀c o',H c=some o'->c∉ [z,it]:=fun c o' e hb=>by
     rw[(hf c hb).1] at e;cases e
    refine(I.aH b o e).gL (fun c q cm e'=>kk c q ?_ e') (fun _ q=>q) fun _ _ q=>q;rcases cm with rfl|cm
    ·exact nb _ _ e
    ·exact nb _ _ cm
  have mF:s.heap.objs.size<=T:=hT;have fT:H T=none:=I.aH.fresh mF;have aT:T∉ [z,it]:=W.apart i T h' mid;have tT:jb.IsTuple T #[.int (i:Nat) t0,u]:=by
   obtain⟨o,ho,q⟩:=ME;exact⟨o,Bj T o aT ho,q⟩
  obtain⟨a,u_,ra⟩:∃a,xs[i]?=some a/\RelV a u:=by
   have e:iB[i]?=some u:=by simpa using eu
   have:i<xs.length:=by lia
   obtain⟨u',e',r'⟩:=r1.get (i:=i) (x:=xs[i]) (by simp[this])
   rw[e] at e';cases e';exact⟨xs[i],by simp[this],r'⟩
  have YC:=I.sz;have I2:Inv X pins σ (upd H T<|.tup [.int (i:Nat),a]) {s with heap:=jb,toks:=tk}:=by
   refine Inv.uC I1 fT (zar I.sz mF) (zaF<|zaq I.lt mF) (fun x c e q=>?_) (fun p hp q=>?_) ⟨by show 2<=sizeLine;decide,[.int (i:Nat) t0,u],.cons ⟨t0,rfl⟩<|.cons ra .nil,tT⟩
   ·obtain⟨v',q'⟩:=I.cell x c e;have:=q'.lt;rw[q] at this;exact absurd (zaq this mF)<|zax _
   ·have:=Heap.lt_size (I.pin p hp).1;rw[q] at this;exact absurd (zaq this mF)<|zax _
  refine⟨.ref T,_,I2,rfl,⟨T,fT,rfl,fun qI a' dD ea=>?_⟩,?_,fun c cm=>?_⟩
  ·rw[I.nH dD hx,u_] at ea;cases ea;rfl
  ·obtain⟨⟨q0,q1⟩,q2,_⟩:=MF;exact⟨⟨q0,q1⟩,q2⟩
  ·have n0:=(hf c cm).1;have:c≠T:=fun q=>by
    obtain⟨o,e,_⟩:∃o,s.heap.get? c=some o/\True:=by
     obtain⟨⟨old,hz⟩,⟨o2,e2,_⟩⟩:=st
     simp only[zad,zah,or_false] at cm
     rcases cm with rfl|rfl
     ·exact⟨_,hz,trivial⟩
     ·exact⟨_,e2,trivial⟩
    have:=Heap.lt_size e;rw[q] at this;exact absurd (zaq this mF)<|zax _
   rw[aI this];exact n0
 done:=by
  intro X hP hw hK hc i pins s σ H E I hf st hg;subst hP hw hK;obtain⟨xs,hx,hi⟩:=hg;obtain⟨iB,r1,p1,z1⟩:=I.list hx;have uZ:=r1.length;have W:=WalksT.enumerate (prog:=X.prog) (w:=X.w) (A:=X.A) (I.ok.hd hc) z it l d1 d2 d3 iB.toArray;obtain⟨hz,h1⟩:=id st;have hn:i=iB.toArray.size:=by simp only[zac];lia
  subst hn;refine W.done s _ _ ⟨hz,h1,p1.isList⟩ fun h' tk hk=>⟨rfl,?_⟩;refine I.step (g':=s.gens) (d':=s.drawn) (ch:=[z,it]) (fun b hb=>?_) (fun b o _ _ hc e _=>hk b o hc e) (fun b o _ _ hc e _=>⟨o.slots,hk b o hc e⟩) (fun _ _ _ _ n=>n)
   (fun b o hc e=>⟨o,hk b o hc e⟩) (fun _ _ e=>e) (fun _ _ _ e=>e) (fun b ps e=>⟨#[],by rw[e];simp⟩) (fun m hm=>?_) (fun b o e=>?_) I.bare
  ·obtain⟨f0,f1,f2,f3,f4,f5⟩:=hf b hb;exact⟨f3,f1,f4,f5⟩
  ·obtain⟨o,es,ep,ho,r⟩:=hm;exact⟨o,es,ep,hk _ o (fun hb=>(hf _ hb).2.1 rfl) ho,r⟩
  ·have nb:∀c o',H c=some o'->c∉ [z,it]:=fun c o' e hb=>by
    rw[(hf c hb).1] at e;cases e
   refine(I.aH b o e).gL (fun c q cm e'=>hk c q ?_ e') (fun _ q=>q) fun _ _ q=>q;rcases cm with rfl|cm
   ·exact nb _ _ e
   ·exact nb _ _ cm
 self:=fun A i s Q E st hQ=>by
  obtain⟨⟨old,hz⟩,_⟩:=st;exact wpAny_pyIter_enum hz hQ
theorem MG:bootBuiltins "enumerate"=some (.type "enumerate"):=by decide+kernel
theorem MH{X:Cx}{elts:List Expr}{k:Nat}{qe:Pos}{a:Expr}{ta:TA}{p pos:Pos}(hg:Gl X "enumerate")(hm:X.mg "enumerate"=none)(ha:PA X [a] ta)
  (hs:starEach [a] X.env=[(false,eval a X.env)]):PI X (.Tuple elts k qe) (.Call (.Name "enumerate" p) [a] [] pos) (uU X.K ta):=by
 intro pins s σ H R I h;refine Call_<|mm I hg hm MG<|PyProof.Rows.callWith_type1 (aR (ha pos pins s σ H _ I h) fun us s1 ⟨vs,H1,I1,r1,q1⟩=>?_) hs rfl;obtain⟨l1,e,⟨xs,hx⟩,q⟩:=q1;subst e;obtain⟨u,rfl,ru⟩:=vals1 r1;cases ru;obtain⟨iB,MI,p1,z1⟩:=I1.list hx;refine call_enumerate_list p1.isList fun h' a1 a2 a3 hk=>?_;refine wpAny_pyIter_enum a1 ?_;have Bk: @LT.lt Nat _ l1 s1.heap.objs.size:=by obtain⟨_,e,_⟩:=p1.isList;exact Heap.lt_size e
 have I2:Inv X pins σ H1 {s1 with heap:=h'}:=I1.kept (t':=s1.toks) hk
 refine⟨_,_,_,_,H1,rfl,I2,MD (z:=s1.heap.objs.size+1) (it:=s1.heap.objs.size) (l:=l1) (by show @Ne Nat _ _;lia) (by show @Ne Nat _ _;lia) (by show @Ne Nat _ _;lia),⟨⟨_,a1⟩,a2⟩,fun b' hb=>?_,q⟩
 have hle:s1.heap.objs.size<=b':=by
  simp only[zad,zah,or_false] at hb
  rcases hb with rfl|rfl
  ·exact Nat.le_add_right _ _
  ·exact zqR _
 have:=I1.nI (b:=b') (H':=H1) hle (I1.aH.fresh hle);exact this
theorem MJ{K:Frag}{a:Addr}{xs:List V}{g:TG}{tb:TS}{D:Ends}{σ:St}{H:Hp}(Pv:Nat->St->Hp->Prop)(h0:Pv 0 σ H)(ha:∀i σ H,Pv i σ H->ay K H a xs)
  (hs:∀i x σ H T,xs[i]?=some x->Pv i σ H->H T=none->g (.ref T) σ (upd H T<|.tup [.int (i:Nat),x]) fun σ2 H2=>tb {D with nx:=Pv (i+1),ct:=Pv (i+1),bk:=D.nx} σ2 H2) (hd:∀σ H,Pv xs.length σ H->D.nx σ H):
  ∃W:Nat->Nat->St->Hp->Prop,(∃m,W 0 m σ H)/\∀i m σ H,W i m σ H->
   ((oo K a).stop i H/\D.nx σ H)\/((oo K a).go i H/\∃N:St->Hp->Prop,(∀σ' H',N σ' H'->∃m',m'<m/\W (i+1) m' σ' H')/\∀x H',(oo K a).dE i H x H'->g x σ H' fun σ2 H2=>tb {D with nx:=N,ct:=N,bk:=D.nx} σ2 H2):=by
 refine⟨fun i m σ H=>m=xs.length - i/\i<=xs.length/\Pv i σ H,⟨xs.length,by simp,zqZ _,h0⟩,?_⟩
 rintro i m σ H ⟨rfl,hi,p⟩;have q1:=ha i σ H p;by_cases aS:i<xs.length
 ·refine .inr ⟨⟨xs,q1,aS⟩,Pv<|i+1,fun σ' H' p'=>⟨xs.length - (i+1),by lia,rfl,aS,p'⟩,fun x H' y=>?_⟩
  obtain⟨T,hT,rfl,y⟩:=y;have e:=y xs xs[i] q1 (by simp[aS])
  subst e;exact hs i xs[i] σ H T (by simp[aS]) p hT
 ·have e:i=xs.length:=by lia
  subst e;exact .inl ⟨⟨xs,q1,rfl⟩,hd σ H p⟩
end L2
set_option maxHeartbeats 400000
namespace L2
open PySem PySem.Spec PyProof.Rows
end L2
set_option maxHeartbeats 1000000
set_option maxHeartbeats 400000
namespace L2
open PySem PySem.Spec PyProof.Rows
inductive bC (J:Shared->Prop) {α:Type}:Sem α->Prop
 |pure (a:α):bC J (.pure a)
 |raise (e:Value):bC J (.raise e)
 |unsupported (w:String):bC J (.unsupported w)
 |rule {t:String}{k:Unit->Sem α}:bC J (k ())->bC J (.rule t k)
 |load {a:Addr}{p:Option Value}{k:Obj->Sem α}:(∀o,bC J<|k o)->bC J (.load a p k)
 |update {a:Addr}{p:Option Value}{f:Obj->Obj}{k:Unit->Sem α}:(∀s,J s->J {s with heap:=s.heap.update a f})->bC J (k ())->bC J (.update a p f k)
 |alloc {o:Obj}{k:Addr->Sem α}:(∀s,J s->J {s with heap:=s.heap.push o})->(∀a,bC J<|k a)->bC J (.alloc o k)
 |stack {k:List (Code×Pos)->Sem α}:(∀t,bC J<|k t)->bC J (.stack k)
theorem MK{M:Model}{Γ:PySem.Ctx}{J:Shared->Prop}{α:Type}{t:Sem α}(kt:bC J t):∀{Q:α->Pos->Shared->Prop}{E:Value->Pos->Shared->Prop}{p:Pos}{s:Shared},J s->Sem.wp M Γ t Q E p s->
  Sem.wp M Γ t (fun a p s=>Q a p s/\J s) (fun e p s=>E e p s/\J s) p s:=by
 induction kt with
 |pure a=>intro Q E p s j h;rw[Sem.wp] at h⊢;exact⟨h,j⟩
 |raise e=>intro Q E p s j h;rw[Sem.wp] at h⊢;exact⟨h,j⟩
 |unsupported w=>intro Q E p s j h;rw[Sem.wp] at h;exact h.elim
 |rule _ ih=>intro Q E p s j h;rw[Sem.wp] at h⊢;exact ih j h
 |load _ ih=>intro Q E p s j h;rw[Sem.wp] at h⊢;obtain⟨o,e,h⟩:=h;exact⟨o,e,ih o j h⟩
 |update f _ ih=>intro Q E p s j h;rw[Sem.wp] at h⊢;exact⟨h.1,ih (f _ j) h.2⟩
 |alloc f _ ih=>intro Q E p s j h;rw[Sem.wp] at h⊢;exact ih _ (f _ j) h
 |stack _ ih=>intro Q E p s j h;rw[Sem.wp] at h⊢;exact ih _ j h
theorem Bl{M:Model}{A:Around}{J:Shared->Prop}{α:Type}{t:Sem α}{Q:α->Shared->Prop}{E:Value->Shared->Prop}{s:Shared}(k:bC J t)(j:J s)(h:wpAny M A t Q E s):
  wpAny M A t (fun a s=>Q a s/\J s) (fun e s=>E e s/\J s) s:=fun Γ p hΓ=>MK k j (h Γ p hΓ)
def cL(e:Addr)(s:Shared):Prop:= ∃o vs,s.heap.get? e=some o/\o.data=.fields vs/\vs[2]?=some .none/\o.dict=none
theorem ML(f:Array Value->Array Value)(o:Obj):(Obj.mapFields f o).dict=o.dict:=by
 unfold Obj.mapFields
 split<;>rfl
theorem MM{e a:Addr}{i:Nat}{v:Value}(hi:i≠2)(s:Shared)(j:cL e s):cL e {s with heap:=s.heap.update a (Obj.mapFields (·.setIfInBounds i v))}:=by
 obtain⟨o,vs,h1,h2,h3,h4⟩:=j;by_cases z:a=e
 ·subst z;have d:=Obj.data_mapFields h2 (·.setIfInBounds i v);exact⟨_,_,Heap.get?_update_self _ h1<|Obj.isFreed_of_fields d,d,by rw[Array.getElem?_setIfInBounds_ne hi];exact h3,(ML _ _).trans h4⟩
 ·exact⟨o,vs,(Heap.get?_update_other _ _ z).trans h1,h2,h3,h4⟩
theorem MN{e a:Addr}{f:Obj->Obj}(hf:∀o,(f o).data=o.data/\(f o).dict=o.dict)(s:Shared)(j:cL e s):cL e {s with heap:=s.heap.update a f}:=by
 obtain⟨o,vs,h1,h2,h3,h4⟩:=j;by_cases z:a=e
 ·subst z;exact⟨_,vs,Heap.get?_update_self _ h1<|Obj.isFreed_of_fields<|(hf o).1.trans h2,(hf o).1.trans h2,h3,(hf o).2.trans h4⟩
 ·exact⟨o,vs,(Heap.get?_update_other _ _ z).trans h1,h2,h3,h4⟩
theorem MO{e:Addr}{ob:Obj}(s:Shared)(j:cL e s):cL e {s with heap:=s.heap.push ob}:=by
 obtain⟨o,vs,h1,h2,h3,h4⟩:=j;exact⟨o,vs,Heap.get?_push_of_some _ h1,h2,h3,h4⟩
theorem bC.bind{J:Shared->Prop}{α β:Type}{t:Sem α}{f:α->Sem β}(kt:bC J t)(h:∀a,bC J<|f a):bC J (t>>=f):=by
 show bC J (t.bind f)
 induction kt with
 |pure a=>exact h a
 |raise e=>exact .raise e
 |unsupported w=>exact .unsupported w
 |rule _ ih=>exact .rule ih
 |load _ ih=>exact .load ih
 |update g _ ih=>exact .update g ih
 |alloc g _ ih=>exact .alloc g ih
 |stack _ ih=>exact .stack ih
section
variable {e:Addr}
theorem vc{a:Addr}:bC (cL e) (load a):=.load fun o=>.pure o
theorem vd{v x:Value}{i:Nat}(hi:i≠2):bC (cL e) (setField v i x):=by
 unfold setField
 split
 ·rename_i a
  unfold updateField;refine vc.bind fun o=>?_
  split
  ·split
   ·exact .update (fun s j=>MM hi s j) (.pure ())
   ·exact .unsupported _
  ·exact .unsupported _
 ·exact .unsupported _
theorem MP{v:Value}:bC (cL e) (fieldsOf v):=by
 unfold fieldsOf
 split
 ·refine vc.bind fun o=>?_
  split
  ·exact .pure _
  ·exact .unsupported _
 ·exact .unsupported _
theorem qJ{v:Value}{i:Nat}:bC (cL e) (field v i):=by
 unfold field;refine MP.bind fun vs=>?_
 split
 ·exact .pure _
 ·exact .unsupported _
theorem MQ{v:Value}{f:Option Addr}:bC (cL e) (setFlight v f):=by
 unfold setFlight;refine qJ.bind fun tb=>?_
 split
 ·exact vd (by decide)
 ·exact .pure _
theorem ve:bC (cL e) stack:=.stack fun t=>.pure t
theorem MR{ty:String}{vs:List Value}:bC (cL e) (newFields ty vs):=by
 unfold newFields newObj newObjAsIs;show bC (cL e) (if vs.toArray.size>sizeLine+2 then (unsupported "record:memory" >>=_) else _)
 split
 ·exact .unsupported _
 ·exact bC.bind (.alloc (fun s j=>MO s j) fun a=>.pure a) fun a=>.pure _
theorem MS{f:Addr}{b:Bool}:bC (cL e) (entryPlaceOf f b):=by
 unfold entryPlaceOf;refine ve.bind fun YD=>?_
 split
 ·exact .pure _
 ·exact .pure _
theorem Bm:∀l:List Env,bC (cL e) (readyFrames l)
 |[]=>.pure _
 |env::outer=>by
  unfold readyFrames
  split
  ·refine vc.bind fun o=>?_
   split
   ·exact .pure _
   ·refine bC.bind ?_ fun im=>bC.bind ?_ fun bk=>bC.bind (.update (fun s j=>MN (by intro o;exact⟨rfl,rfl⟩) s j)<|.pure ()) fun _=>Bm outer
    ·unfold behindIsImport
     split
     ·exact .pure _
     ·split
      ·exact .pure _
      ·exact qJ.bind fun _=>.pure _
    ·unfold keptBack
     split
     ·split
      ·exact .pure _
      ·unfold underTheClaimsCaller;exact bC.bind (ve.bind fun _=>.pure _) fun _=>.pure _
     ·exact .pure _
  ·exact .unsupported _
theorem MT{env:Env}:bC (cL e) (PySem.frameOf env):=by
 unfold PySem.frameOf frameEnvs;refine bC.bind (ve.bind fun _=>.pure _) fun l=>?_;refine bC.bind ?_ fun r=>?_
 ·unfold frameObject
  split
  ·exact .pure _
  ·exact(Bm _).bind fun _=>.pure _
 ·split
  ·exact .pure _
  ·exact .unsupported _
theorem MU{v:Value}{env:Env}:bC (cL e) (noteFrame v env):=by
 unfold noteFrame
 split
 ·rename_i x d hq
  refine qJ.bind fun hd=>?_;have tail:bC (cL e) (do let a <-PySem.frameOf env;let pl <-entryPlaceOf d (hd !=.none);let b <-EntryCells.newEntry hd a .none (rawInt d) .none pl;setField v 1 b):=
   MT.bind fun a=>MS.bind fun pl=>bC.bind MR fun b=>vd (by decide)
  dsimp only
  split
  ·refine qJ.bind fun x=>?_
   split
   ·exact .pure _
   ·exact(vd (by decide)).bind fun _=>tail
  ·exact tail
 ·exact .unsupported _
theorem Bn{v:Value}{env:Env}:bC (cL e) (leaving env v):=by
 unfold leaving;exact MU.bind fun _=>MQ
end
end L2
set_option maxHeartbeats 4000000
namespace L2
open PySem PySem.Spec PyProof.Rows
theorem cJ.vf{P:Program}{w:World}{H:Hp}{h:Heap}{a:Addr}{o:HO}(x:cJ P w H h a o):∃ob,h.get? a=some ob:=by
 cases o with
 |lst xs=>obtain⟨_,_,_,_,e⟩:=x;exact⟨_,e⟩
 |tup xs=>obtain⟨_,_,_,ob,e,_⟩:=x;exact⟨_,e⟩
 |dK aL=>obtain⟨_,_,_,_,o,_,_,e,_⟩:=x;exact⟨_,e⟩
 |dT aL=>obtain⟨_,_,_,_,o,_,_,e,_⟩:=x;exact⟨_,e⟩
 |set S n=>obtain⟨o,_,_,_,e,_⟩:=x;exact⟨_,e⟩
 |ins C dx fs=>obtain⟨_,_,_,e,_⟩:=x;exact⟨_,e⟩
 |own y=>obtain⟨_,e⟩:=x;exact⟨_,e⟩
 |xd fs=>obtain⟨_,⟨_,_,_,e,_⟩,_⟩:=x;exact⟨_,e⟩
 |e9 lo hi=>obtain⟨_,_,_,e⟩:=x;exact⟨_,e⟩
 |bJ ob u=>obtain⟨e,_⟩:=x;exact⟨_,e⟩
 |ib ps=>exact⟨_,(show h.get? a=some _ from x)⟩
 |met f y=>exact⟨_,(show h.get? a=some _ from x)⟩
 |ext φ=>obtain⟨_,⟨_,e⟩,_⟩:=x;exact⟨_,e⟩
theorem b9.Bo{P:Program}{w:World}{H:Hp}{h h':Heap}(ok:b9 P w H h)(k:∀b u,H b≠none->h.get? b=some u->h'.get? b=some u):b9 P w H h':=fun a o e=>
 (ok a o e).gL (fun b u hb hu=>k b u (by
  rcases hb with rfl|hb
  ·rw[e];exact Option.some_ne_none _
  ·rw[hb];exact Option.some_ne_none _) hu) (fun _ z=>z) (fun _ _ z=>z)
def eQ(P:Program)(w:World):bP:=fun outer H s E e s'=>∃(ea:Addr) (cls:Value) (t:Addr) (B:Heap) (H':Hp),
 e=.ref ea/\s'.os=s.os/\AllBare s'.gens/\Un (bR outer) [] H H' s.heap s'.heap/\b9 P w H' s'.heap/\Heap.FlyingW B outer ea cls (.ref t) s'.heap/\cL ea s'/\H' ea=none/\
 (∀b,H' b≠none->∀o,s'.heap.get? b=some o->B.get? b=some o)/\(∀b o,s.heap.get? b=some o->b∉bR outer->∀o',s'.heap.get? b=some o'->B.get? b=some o')/\E cls none H'
theorem Bp{P:Program}{w:World}{outer:List Env}{H:Hp}{s:Shared}{e:Value}{s':Shared}(h:eQ P w outer H s E0 e s'):False:=by
 obtain⟨_,_,_,_,_,_,_,_,_,_,_,_,_,_,_,h⟩:=h;exact h
section
variable {P:Program}{w:World}{K:Frag}{mg:Str->Option Value}{base:Heap}{N:List Str}{qual:Str}{scope:Scope}{f:Addr}{cd:Value}{A:Around}{outer:List Env}{s₀:Shared}{H₀:Hp}{E:XK}
theorem MV:Passes (eQ P w) (ky (eQ P w) P w K mg base N qual scope f cd A outer s₀ H₀ E) E:=by
 intro pins σ H s e s' I hx;obtain⟨ea,cls,t,B,H',rfl,os,bare,u,aH,fl,vg,MW,c1,c2,hE⟩:=hx;have vh:=I.ok.frames;have hL:s₀.heap.objs.size<= (envOfC qual scope s₀.heap.objs.size f cd).locals:=I.ok.above;have nL:∀b o,s₀.heap.get? b=some o->b∉bR outer->b∉bR (envOfC qual scope s₀.heap.objs.size f cd::outer):=fun b o hb hn hm=>by
  have vi:b∈ (envOfC qual scope s₀.heap.objs.size f cd).locals::bR outer:=hm;rcases zad.mp vi with rfl|z
  ·exact absurd (Heap.lt_size hb) (Nat.not_lt.mpr hL)
  ·exact hn z
 have nE:∀b∈bR (envOfC qual scope s₀.heap.objs.size f cd::outer),H' b=none:=fun b hb=>by
  obtain⟨o,ho,_⟩:=(I.stack.mem hb).2;exact u.free b o ho (I.pP b hb) zah
 refine wpAny_mono (Bl Bn vg<|wpAny_leaves_onW (Q:=fun _ i6=>∃h',i6={s' with heap:=h'}/\Heap.FlyingW B outer ea cls (.ref t) h'/\s'.heap.UpToSlots h') (E:=fun _ _=>False) vh rfl fl fun h' iC up=>⟨h',rfl,iC,up⟩)
  (fun _ i6 hq=>?_) (fun _ _ z=>z.1.elim)
 obtain⟨⟨h',rfl,iC,up⟩,vj⟩:=hq;have into:∀b o,s.heap.get? b=some o->b∉bR (envOfC qual scope s₀.heap.objs.size f cd::outer)->∀o',s'.heap.get? b=some o'->h'.get? b=some o':=fun b o hb hn o' eL=>iC.1 b o' (c2 b o hb hn o' eL);have ke:∀b o,H' b≠none->s'.heap.get? b=some o->h'.get? b=some o:=fun b o hb ho=>iC.1 b o (c1 b hb o ho);have kO:∀b∈bR (envOfC qual scope s₀.heap.objs.size f cd::outer),∀o,s'.heap.get? b=some o->∃sl,h'.get? b=some {o with slots:=sl}:=fun b hb o ho=>by
  obtain⟨o1,ow,hd⟩:=(fl.2.2.1.mem hb).2;rw[ho] at ow;cases ow;exact up b o ho hd
 refine⟨ea,cls,t,B,H',rfl,os.trans I.os,bare,⟨fun b o q n hn _=>?_,fun b o q n hn _=>?_,fun b o q n _=>?_,fun b o q _=>?_,fun b xs q=>u.b_ b xs (I.base.b_ b xs q),fun b o v q=>u.e_ b o v (I.base.e_ b o v q),fun b ps q=>?_⟩,
  aH.Bo (fun b o hb ho=>ke b o hb ho),iC,vj,MW,fun b hb o ho=>?_,fun b o q hn o' eL=>?_,hE⟩
 ·have q1:=I.base.keep b o q n hn zah;have n1:=I.base.free b o q n zah;have gi:=nL b o q hn;exact into b o q1 gi o<|u.keep b o q1 n1 gi zah
 ·obtain⟨sl,q1⟩:=I.base.slot b o q n hn zah;have n1:=I.base.free b o q n zah;have gi:b∈bR (envOfC qual scope s₀.heap.objs.size f cd::outer):=zam _ hn;obtain⟨ue,q2⟩:=u.slot b _ q1 n1 gi zah;obtain⟨vk,q3⟩:=kO b gi _ q2;exact⟨vk,q3⟩
 ·obtain⟨o1,q1⟩:=I.base.there b o q zah;exact u.free b o1 q1 (I.base.free b o q n zah) zah
 ·obtain⟨o1,q1⟩:=I.base.there b o q zah;obtain⟨o2,q2⟩:=u.there b o1 q1 zah;by_cases hm:b∈bR (envOfC qual scope s₀.heap.objs.size f cd::outer)
  ·obtain⟨sl,q3⟩:=kO b hm o2 q2;exact⟨_,q3⟩
  ·exact⟨o2,into b o1 q1 hm o2 q2⟩
 ·obtain⟨m1,e1⟩:=I.base.fK b ps q;obtain⟨m2,e2⟩:=u.fK b _ e1;exact⟨m1++m2,by rw[e2,Array.append_assoc]⟩
 ·obtain⟨jw,hH⟩:=Option.ne_none_iff_exists'.mp hb;obtain⟨o2,q2⟩:=(aH b jw hH).vf;have q3:=ke b o2 hb q2;have gT:h'.get? b=some o:=ho;rw[q3] at gT;cases gT;exact c1 b hb _ q2
 ·obtain⟨o1,q1⟩:=I.base.there b o q zah;obtain⟨o2,q2⟩:=u.there b o1 q1 zah;have gi:=nL b o q hn;have q3:=into b o1 q1 gi o2 q2;have gT:h'.get? b=some o':=eL;rw[q3] at gT;cases gT;exact c2 b o1 q1 gi _ q2
def Raises(X:Cx)(E:XK):Prop:= ∀(pins:List (Addr×Obj)) (σ:St) (H:Hp) (s:Shared) (h':Heap) (e:Addr) (cls:Value) (vs:List Value),Inv X pins σ H s->Heap.MadeExcOf s.heap h' e cls vs->E cls none H->X.xe (.ref e) {s with heap:=h'}
theorem MZ:Raises (ky (eQ P w) P w K mg base N qual scope f cd A outer s₀ H₀ E) E:=by
 intro pins σ H s h1 e cls vs I hx hE;have vh:=I.ok.frames;have hL:s₀.heap.objs.size<= (envOfC qual scope s₀.heap.objs.size f cd).locals:=I.ok.above;have nL:∀b o,s₀.heap.get? b=some o->b∉bR outer->b∉bR (envOfC qual scope s₀.heap.objs.size f cd::outer):=fun b o hb hn hm=>by
  have vi:b∈ (envOfC qual scope s₀.heap.objs.size f cd).locals::bR outer:=hm;rcases zad.mp vi with rfl|z
  ·exact absurd (Heap.lt_size hb) (Nat.not_lt.mpr hL)
  ·exact hn z
 have mG:∀env∈ (envOfC qual scope s₀.heap.objs.size f cd::outer),∀b,env.frame=some b->b∈bR (envOfC qual scope s₀.heap.objs.size f cd::outer):=fun env he b hb=>zbD.mpr ⟨env,he,hb⟩;have vg:cL e {s with heap:=h1}:=by
  obtain⟨t,ht,_,_⟩:=hx.there;exact⟨_,_,ht,rfl,rfl,rfl⟩
 refine wpAny_mono (Bl Bn vg (wpAny_leaves_madeW (Q:=fun _ i6=>∃h' t,i6={s with heap:=h'}/\Heap.FlyingW (hideAll s.heap (bR (envOfC qual scope s₀.heap.objs.size f cd::outer))) outer e cls (.ref t) h'/\h1.UpToSlots h') (E:=fun _ _=>False)
  vh rfl (fun b o q=>of_hideAll _ q) (PySem.W.funFrames_hide I.stack mG) hx fun h' t iC _ _ up=>⟨h',t,rfl,iC,up⟩)) (fun _ i6 hq=>?_) (fun _ _ z=>z.1.elim)
 obtain⟨⟨h',t,rfl,iC,up⟩,vj⟩:=hq;have into:∀b o,s.heap.get? b=some o->b∉bR (envOfC qual scope s₀.heap.objs.size f cd::outer)->h'.get? b=some o:=fun b o hb hn=>iC.1 b o (hideAll_get _ hb hn);have vm:∀b,H b≠none->b∉bR (envOfC qual scope s₀.heap.objs.size f cd::outer):=fun b hb hm=>hb (I.pP b hm);have kO:∀b∈bR (envOfC qual scope s₀.heap.objs.size f cd::outer),∀o,s.heap.get? b=some o->∃sl,h'.get? b=some {o with slots:=sl}:=fun b hb o ho=>by
  obtain⟨o1,ow,hd⟩:=(I.stack.mem hb).2;rw[ho] at ow;cases ow;exact up b o (hx.keeps b o ho) hd
 refine⟨e,cls,t,_,H,rfl,I.os,I.bare,⟨fun b o q n hn _=>?_,fun b o q n hn _=>?_,fun b o q n _=>I.base.free b o q n zah,fun b o q _=>?_,I.base.b_,I.base.e_,I.base.fK⟩,
  I.aH.Bo (fun b o hb ho=>into b o ho (vm b hb)),iC,vj,?_,fun b hb o ho=>?_,fun b o q hn o' eL=>?_,hE⟩
 ·exact into b o (I.base.keep b o q n hn zah) (nL b o q hn)
 ·obtain⟨sl,q1⟩:=I.base.slot b o q n hn zah;obtain⟨vk,q3⟩:=kO b (zam _ hn) _ q1;exact⟨vk,q3⟩
 ·obtain⟨o1,q1⟩:=I.base.there b o q zah;by_cases hm:b∈bR (envOfC qual scope s₀.heap.objs.size f cd::outer)
  ·obtain⟨sl,q3⟩:=kO b hm o1 q1;exact⟨_,q3⟩
  ·exact⟨o1,into b o1 q1 hm⟩
 ·cases q:H e with
  |none=>rfl
  |some ho=>
   obtain⟨o2,q2⟩:=(I.aH e ho q).vf;rw[hx.new] at q2;cases q2
 ·obtain⟨jw,hH⟩:=Option.ne_none_iff_exists'.mp hb;obtain⟨o2,q2⟩:=(I.aH b jw hH).vf;have q3:=into b o2 q2 (vm b hb);have gT:h'.get? b=some o:=ho;rw[q3] at gT;cases gT;exact hideAll_get _ q2<|vm b hb
 ·obtain⟨o1,q1⟩:=I.base.there b o q zah;have gi:=nL b o q hn;have q3:=into b o1 q1 gi;have gT:h'.get? b=some o':=eL;rw[q3] at gT;cases gT;exact hideAll_get _ q1 gi
end
section
variable {X:Cx}
theorem M0{x:Str}{C:Addr}{bm:List Value}{B newId mH:String}{e:Expr}{es:List Expr}{t:TA}{np dq pos:Pos}{E:XK}(hc:X.calm=true)(O:OwnCls x C bm newId X.mg X.base)(FB:ExcBaseFacts B newId mH bm)(M1:Gl X x)
  (hd:(x==("__debug__":Str))=false) (ha:PA X (e::es) t) (hs:starEach (e::es) X.env=(false,eval e X.env)::starEach es X.env) (h1:(backTo dq<|starEach es X.env).any (·.1)=false) (hR:Raises X E):
  PS X (.Raise (some<|.Call (.Name x np) (e::es) [] dq) none pos) (uQ C E t):=by
 intro pins s σ H D I h;obtain⟨tl,N,nm,q,bs,hdct,sn,sub,ab,col,dd,k0,k1,k2,k3,k5,mN,hC,hN,qK,T⟩:=O.obj;have hg:PE X (.Name x np) (tC<|.ref C):=yR M1 O.bound rfl hd;refine wpAny_Raise_call_subT (C:=C) (nm:=nm) (q:=q) (N:=N) (bs:=bs) (bm:=tl) (hdct:=hdct) (sn:=sn) (sub:=sub) (ab:=ab) (col:=col) (dd:=dd) (k0:=k0) (k1:=k1) (k2:=k2) (k3:=k3) (k5:=k5)
  FB (mN:=mN) (T.hasType FB.hasBase) (I.ok.hd hc) (by rw[hs];show(false ||(backTo dq<|starEach es X.env).any (·.1))=false;rw[h1];rfl) qK
  (aR (hg pins s σ H (fun v H1=>v=.ref C/\uQ C E t D σ H1) I ⟨rfl,h⟩) fun f s1 ⟨v,H1,I1,r1,ev,q1⟩=>?_)
 subst ev;obtain rfl:f=Value.ref C:=r1;refine⟨rfl,?_⟩;have hA:=ha dq pins s1 σ H1 _ I1 q1;rw[hs] at hA⊢;refine Calls.evalArgs_plain<|aR hA fun us s2 ⟨vs,H2,I2,r2,hl,q2⟩=>⟨rfl,?_,I2.bk _ _ hC,hN.keeps I2.bk,T.keeps I2.bk,fun h' e' hm=>hR pins σ H2 s2 h' e' _ _ I2 hm q2⟩;have:=r2.length;show us.length<=sizeLine;lia
end
def Bq(A:Around)(H:Hp):Prop:= ∃e D,A.handled=some (.ref e)/\ExcAt H e D
def Hd(X:Cx):Prop:=Bq X.A X.H₀
structure vo (k:Nat) (A:Around):Prop where
 dp:A.depth+3*k+5<recursionLimit
 un:A.units+16*k+200<cLine
theorem cj.h{k:Nat}{A:Around}(r:cj k A):vo k A:=⟨r.dp,r.un⟩
def M3(outer:List Env)(P:Program)(w:World)(H:Hp)(s:Shared)(Q:VK)(r:Result)(s':Shared):Prop:=
 match r with
 |.ok (.ret u)=>CE outer P w H s Q u s'
 |_=>False
structure Br (P:Program) (w:World) (K:Frag) (mg:Str->Option Value) (base:Heap) (k:Nat) (f:Addr) (fd:FuncData) (ps:List Str) (sp:Sp):Prop where
 len:∀vs H Q E,sp vs H Q E->vs.length=ps.length
 run:∀(A:Around) (outer:List Env) (s:Shared) (H:Hp) (args:Args) (us:List Value) (vs:List V) (Q:VK),vo k A->Bq A H->ju P w K mg base A outer s H->BindsTo s fd args (ps.zip us)->Vals vs us->sp vs H Q E0->
  codeAny (model P w) A (.call (.ref f) args) (M3 outer P w H s Q) s
def Bs(CX:bP)(X:Cx)(x:Str)(sp:Sp):Prop:=
 ∃k f fd ps,b7 X.prog X.w X.K X.mg X.base CX k f fd ps sp/\cj k X.A/\X.mg x=some (.ref f)/\PySem.W.keepIn X.K (.ref f)=true/\Binds X.K fd ps []
def qL(CX:bP)(X:Cx)(C:Addr)(m:Str)(sp:Sp):Prop:=
 dh X.K C/\∃k f fd ps,Meth X.K C m f/\b7 X.prog X.w X.K X.mg X.base CX k f fd ps sp/\cj k X.A/\Binds X.K fd ps []
def Bt(CX:bP)(X:Cx)(x:Str)(C:Addr)(sp:Sp):Prop:=
 ∃k f fd ps,Mk X.K C f/\b7 X.prog X.w X.K X.mg X.base CX k f fd ps sp/\cj (k+1) X.A/\X.mg x=some (.ref C)/\Binds X.K fd ps []
def Bu(X:Cx)(x:Str)(sp:Sp):Prop:=
 ∃k f fd ps,Br X.prog X.w X.K X.mg X.base k f fd ps sp/\vo k X.A/\X.mg x=some (.ref f)/\PySem.W.keepIn X.K (.ref f)=true/\Binds X.K fd ps []
def Bv(X:Cx)(x:Str)(C:Addr):Prop:= ∃bm B newId mH,OwnCls x C bm newId X.mg X.base/\ExcBaseFacts B newId mH bm
structure Good (CX:bP) (S:bY) (Γ:bf) (X:Cx):Prop where
 N:X.N=S.N
 sc:X.env.scope=S.sc
 K:X.K=Γ.K
 calm:S.md=0->X.calm=true
 units:X.A.units+64<cLine
 fns:S.md=0->∀j x,S.fn[j]?=some x->Bs CX X x (Γ.fs j)
 qM:∀j x,S.gn[j]?=some x->∃u,X.mg x=some u/\RelV (Γ.gv j) u
 gU:∀x,S.bl.contains x=true->X.mg x=none
 pass:Passes CX X Γ.E
 qN:∀outer H s e s',CX outer H s E0 e s'->False
 qO:∀p aL,Γ.sd p aL->∀h:Heap,X.K.In h->∃vs,KV aL vs/\h.DictOf (h_ X.prog X.w) p vs
 oy:S.md=0->∀j m,S.mn[j]?=some m->qL CX X (Γ.ms j).1 m (Γ.ms j).2
 oz:S.md=0->∀j x,S.kn[j]?=some x->Bt CX X x (Γ.kt j).1 (Γ.kt j).2
 vp:∀j x,S.en[j]?=some x->Bv X x (Γ.ex j)
 vq:∀j x,S.hn[j]?=some x->Bu X x (Γ.hs j)
 vv:∀e,Γ.hv=some e->X.A.handled=some (.ref e)
 Bw:S.md=1->Hd X
theorem qP{S:bY}(h:(if S.md=0 then 0 else 2)=0):S.md=0:=by
 split at h
 ·assumption
 ·cases h
section
variable {CX:bP}{S:bY}{Γ:bf}{X:Cx}
theorem Good.inner(G:Good CX S Γ X)(c:ou)(ln:List Str)(fv:List (Str×Nat))(ex:List Addr)(C:Addr)(s:Shared)(H:Hp):
  Good CX (Bh S c ln fv) Γ.calm (fj X c.sc (ln++fv.map (·.1)) ex C s H) where
 N:=rfl
 sc:=by
  show relabel c.sc X.env=uX c.sc S.sc;rw[<-G.sc];rfl
 K:=G.K
 calm:=fun h=>G.calm (qP h)
 units:=G.units
 fns:=fun m j x h=>G.fns (qP m) j x h
 qM:=G.qM
 gU:=G.gU
 pass:=fun _ _ _ _ _ _ _ h=>(G.qN _ _ _ _ _ h).elim
 qN:=G.qN
 qO:=G.qO
 oy:=fun z j m h=>G.oy (qP z) j m h
 oz:=fun z j x h=>G.oz (qP z) j x h
 vp:=fun j x h=>by simp[Bh] at h
 vq:=fun j x h=>G.vq j x h
 vv:=fun e h=>G.vv e h
 Bw:=fun h=>by
  have h':(if S.md=0 then 0 else 2)=1:=h
  split at h'<;>cases h'
theorem Good.gl(G:Good CX S Γ X){x:Str}(h:jH S.sc x=true):Gl X x:=by
 show X.env.scope.names.lookup x=_;rw[G.sc];exact MC h
theorem dt{e:Expr}{es:List Expr}{env:Env}(h:noStar e=true):starEach (e::es) env=(false,eval e env)::starEach es env:=by
 cases e<;>first|rfl|cases h
theorem kA{o:Expr}{x:Str}{env:Env}(h:kN o=true):attributeBase o x env (eval o env)=eval o env:=by
 unfold attributeBase
 split
 ·cases h
 ·rfl
theorem oA{e:Expr}{env:Env}(h:mE e=true):∀x,foldedSetIterable e env x=pure x:=by
 intro x;cases e<;>first|rfl|cases h
def ef(es:List Expr):Bool:=es.all noStar
theorem gV(env:Env)(pos:Pos):∀(es:List Expr),ef es=true->(backTo pos<|starEach es env).any (·.1)=false
 |[],h=>rfl
 |e::es,h=>by
  simp only[ef,zaU,zaa] at h
  rw[dt h.1];have ih:=gV env pos es h.2;show(false ||(backTo pos<|starEach es env).any (·.1))=false;rw[ih];rfl
theorem qQ(env:Env)(pos:Pos):∀(es:List Expr),ef es=true->(backTo pos<|starEach es env).all (fun x=> !x.1)=true
 |[],h=>rfl
 |e::es,h=>by
  simp only[ef,zaU,zaa] at h
  rw[dt h.1];have ih:=qQ env pos es h.2;show(!false && (backTo pos<|starEach es env).all (fun x=> !x.1))=true;rw[ih];rfl
theorem de{e:Expr}{es:List Expr}(h:ef (e::es)=true):noStar e=true/\ef es=true:=by
 simp only[ef,zaU,zaa] at h
 exact h
theorem Bx(G:Good CX S Γ X){c:ou}{ln:List Str}{fv:List (Str×Nat)}(h:qH S c ln fv=true):
  i7 X c.sc ln fv/\(∀x∈ln,c.sc.names.lookup x=some .local)/\(ln++fv.map (·.1)).Nodup/\mE c.iter=true:=by
 simp only[qH,zaa,decide_eq_true_eq,zaV,zbo] at h
 obtain⟨⟨⟨⟨⟨⟨⟨h1,h2⟩,h3⟩,h4⟩,h5⟩,h6⟩,h7⟩,h8⟩:=h;refine⟨⟨h1,fun y hy=>h2 y hy,fun y hy hl=>?_,fun y hy hf=>?_,fun p hp=>?_⟩,h6,h7,h8⟩
 ·rcases h3 y hy with z|z
  ·exact absurd hl z
  ·exact z
 ·show X.env.scope.names.lookup y.1=_\/X.env.scope.names.lookup y.1=_;rw[G.sc];rcases h4 y hy with(z|z)|z
  ·exact absurd hf z
  ·exact .inl z
  ·exact .inr z
 ·rw[G.N];exact h5 p hp
theorem M4(hc:X.calm=true){c:ou}{tk:Option Nat}{ln:List Str}{fv:List (Str×Nat)}(h:uY tk c.tg=some ln)(hl:∀x∈ln,c.sc.names.lookup x=some .local)(hn:(ln++fv.map (·.1)).Nodup):
  og X c.sc ln fv c.tg tk:=by
 unfold uY at h
 split at h
 ·rename_i x p he
  cases h;rw[he];exact LH (hl x (by simp)) hn
 ·rename_i x p y q k pos he
  cases h;rw[he];exact LJ hc (hl x (by simp)) (hl y (by simp)) hn
 ·cases h
theorem M5{xs:List V}{H:Hp}{Q:VK}{K:Frag}(h:jF K .int xs H Q):(∃i,xs=[.int i]/\Q (.int i) H)\/∃k,xs=[.bl k]/\Q (.int (if k then 1 else 0)) H:=by
 match xs,h with
 |[.int i],h=>exact .inl ⟨i,rfl,h⟩
 |[.bl k],h=>exact .inr ⟨k,rfl,h⟩
theorem M6{K:Frag}{x:V}{H:Hp}{Q:Nat->Prop}(h:nW K x H Q):∃n,zy K x H n/\Q n:=by
 match x,h with
 |.str y,h=>exact⟨_,⟨h.1,rfl⟩,h.2⟩
 |.ref p,.inl ⟨xs,a,b⟩=>exact⟨_,.inl ⟨xs,a,rfl⟩,b⟩
 |.ref p,.inr ⟨xs,a,b⟩=>exact⟨_,.inr ⟨xs,a,rfl⟩,b⟩
inductive M7 (X:Cx) (b:i9):Prop where
 |fn (id:String) (hv:bootBuiltins b.nm=some (.builtin id)) (hc:bW X (.builtin id) (jF X.K b))
 |ty (T:String) (hv:bootBuiltins b.nm=some (.type T)) (hc:bW X (.type T) (jF X.K b))
theorem boot_min:bootBuiltins "min"=some (.builtin "min"):=by decide+kernel
theorem boot_max:bootBuiltins "max"=some (.builtin "max"):=by decide+kernel
theorem boot_abs:bootBuiltins "abs"=some (.builtin "abs"):=by decide+kernel
theorem boot_sum:bootBuiltins "sum"=some (.builtin "sum"):=by decide+kernel
theorem By:bootBuiltins "isinstance"=some (.builtin "isinstance"):=by decide+kernel
theorem M8:bootBuiltins "int"=some (.type "int"):=by decide+kernel
theorem M9:bootBuiltins "list"=some (.type "list"):=by decide+kernel
theorem M_:bootBuiltins "tuple"=some (.type "tuple"):=by decide+kernel
theorem vw(f:Nat->Int)(lt:Nat->Nat->Bool)(h:∀i j,lt i j=decide (f i<f j)):∀n,argBest lt n<=n/\∀i,i<=n->f (argBest lt n)<=f i
 | 0=>⟨zqR _,fun i hi=>by
   obtain rfl:i=0:=by lia
   exact zaW _⟩
 |n+1=>by
  obtain⟨a,b⟩:=vw f lt h n;have e:argBest lt (n+1)=if lt (n+1) (argBest lt n)=true then n+1 else argBest lt n:=rfl
  rw[e,h]
  split
  ·rename_i q
   have q:=of_decide_eq_true q;refine⟨zqR _,fun i hi=>?_⟩;by_cases z:i=n+1
   ·rw[z];exact zaW _
   ·have:=b i (by lia);lia
  ·rename_i q
   have q:¬f (n+1) <f (argBest lt n):=fun z=>q (zqT z);refine⟨by lia,fun i hi=>?_⟩
   by_cases z:i=n+1
   ·rw[z];lia
   ·exact b i (by lia)
theorem Bz{xs:Array (Int×Tok)}{i:Nat}(h:i<xs.size):numAt xs i=xs[i].1:=by
 unfold numAt;rw[Array.getElem?_eq_getElem h];rfl
theorem BA{xs:Array (Int×Tok)}{i:Nat}(h:i<xs.size):numAt xs i∈xs.toList.map (·.1):=by
 rw[Bz h];exact zaX.mpr ⟨xs[i],by simp,rfl⟩
theorem BB{xs:Array (Int×Tok)}{n:Int}(h:n∈xs.toList.map (·.1)):∃i,i<xs.size/\n=numAt xs i:=by
 obtain⟨y,hy,rfl⟩:=zaX.mp h;obtain⟨i,hi,rfl⟩:=zbF hy;have jI:i<xs.size:=by simpa using hi
 exact⟨i,jI,by rw[Bz jI];simp⟩
theorem BC{pins:List (Addr×Obj)}{σ:St}{H:Hp}{s:Shared}{p:Addr}{ns:List Int}(I:Inv X pins σ H s)(hq:ay X.K H p (ns.map V.int)):∃xs:Array (Int×Tok),s.heap.IsList p (intItems xs)/\ns=xs.toList.map (·.1):=by
 obtain⟨its,rv,pl,hz⟩:=I.list hq;have hi:=intsAre_of rv;obtain⟨xs,hx⟩:=hi.allInts.items;refine⟨xs,hx ▸ pl.isList,?_⟩;rw[<-nums_intItems,<-hx];exact(show numsOf its.toArray.toList=ns from hi.numsOf).symm
theorem Na(hc:X.calm=true):bW X (.builtin "min") (fun xs H Q=>∃(p:Addr) (ns:List Int),xs=[.ref p]/\ay X.K H p (ns.map V.int)/\ns≠ []/\∀m:Int,m∈ns->(∀n∈ns,m<=n)->Q (.int m) H):=by
 intro pins s σ H xs us Q I r h;obtain⟨p,ns,rfl,hq,oB,q⟩:=h;obtain⟨u,rfl,ru⟩:=vals1 r;cases ru;obtain⟨xs,hl,rfl⟩:=BC I hq;have sz:0<xs.size:=Nat.pos_of_ne_zero fun z=>oB (by rw[zbp z];rfl)
 refine min_intList (I.ok.hd hc) hl sz fun v h' tk hv hk=>?_;obtain⟨t,rfl⟩:=intItems_at hv;obtain⟨b1,b2⟩:=vw (numAt xs) (fun i j=>decide<|numAt xs i<numAt xs j) (fun _ _=>rfl) (xs.size - 1);refine⟨.int _,H,I.kept (t':=tk) hk,⟨t,rfl⟩,q _ (BA (by lia)) fun n hn=>?_⟩
 obtain⟨i,hi,rfl⟩:=BB hn;exact b2 i (by lia)
theorem Nb(hc:X.calm=true):bW X (.builtin "max") (fun xs H Q=>∃(p:Addr) (ns:List Int),xs=[.ref p]/\ay X.K H p (ns.map V.int)/\ns≠ []/\∀m:Int,m∈ns->(∀n∈ns,n<=m)->Q (.int m) H):=by
 intro pins s σ H xs us Q I r h;obtain⟨p,ns,rfl,hq,oB,q⟩:=h;obtain⟨u,rfl,ru⟩:=vals1 r;cases ru;obtain⟨xs,hl,rfl⟩:=BC I hq;have sz:0<xs.size:=Nat.pos_of_ne_zero fun z=>oB (by rw[zbp z];rfl)
 refine max_intList (I.ok.hd hc) hl sz fun v h' tk hv hk=>?_;obtain⟨t,rfl⟩:=intItems_at hv;obtain⟨b1,b2⟩:=vw (fun i=> - numAt xs i) (fun i j=>decide<|numAt xs i>numAt xs j) (fun i j=>decide_eq_decide.mpr (by lia)) (xs.size - 1)
 refine⟨.int _,H,I.kept (t':=tk) hk,⟨t,rfl⟩,q _ (BA (by lia)) fun n hn=>?_⟩
 obtain⟨i,hi,rfl⟩:=BB hn;have:=b2 i (by lia)
 lia
theorem Nc{x:Str}{acc:Array Value}(h:ItemsOf (SignAt x) acc x.cps.size):Vals (signs x) acc.toList:=by
 have go:∀(l:List Nat) (us:List Value),us.length=l.length->(∀(j:Nat) (v:Value),us[j]?=some v->∃(c:Nat) (t:Tok),l[j]?=some c/\v=Value.str ⟨#[c]⟩ t)->Vals (l.map fun c=>V.str ⟨#[c]⟩) us:=by
  intro l
  induction l with
  |nil=>
   intro us hl _;rw[List.length_eq_zero_iff.mp hl];exact .nil
  |cons c l ih=>
   intro us hl hv;cases us with
   |nil=>cases hl
   |cons u us=>
    obtain⟨c',t,e1,e2⟩:=hv 0 u rfl;have kD:c=c':=by simpa using e1
    subst kD;exact .cons ⟨t,e2⟩ (ih us (by simpa using hl) fun j v hj=>by
     obtain⟨c2,t2,g1,g2⟩:=hv (j+1) v (by simpa using hj)
     exact⟨c2,t2,by simpa using g1,g2⟩)
 refine go x.cps.toList acc.toList ?_ fun j v hj=>?_
 ·have:=h.1;simpa using this
 ·obtain⟨c,t,e1,e2⟩:=h.2 j v (by simpa using hj)
  exact⟨c,t,by simpa using e1,e2⟩
theorem Nf(x:Str):(signs x).length=x.length:=by simp[signs,Str.length]
theorem Ng(hc:X.calm=true):bW X (.type "list") (fun xs H Q=>∃x,xs=[.str x]/\x.length<=sizeLine/\∀l,H l=none->Q (.ref l) (upd H l<|.lst<|signs x)):=by
 intro pins s σ H xs us Q I r h;obtain⟨x,rfl,hx,q⟩:=h;obtain⟨u,rfl,t,rfl⟩:=vals1 r;refine call_list_str (I.ok.hd hc) x t (fun h' tk uD c' hk e Nh=>?_) hx;have rv:=Nc Nh;exact⟨.ref s.heap.objs.size,_,I.laid (t':=tk) hk (zqR _) (show cJ X.prog X.w _ h' _ (.lst<|signs x) from⟨by rw[Nf];exact hx,uD.toList,c',rv,by simpa using e⟩),rfl,q _<|I.aH.fresh<|zqR _⟩
theorem Ni(hc:X.calm=true)(b:i9):M7 X b:=by
 cases b with
 |len=>exact .fn "len" boot_len (bW.imp Jy fun xs H Q h=>by
   rcases xs with _|⟨x,_|⟨_,_⟩⟩ <;>(try exact False.elim h)
   obtain⟨n,h1,h2⟩:=M6 (Q:=fun n=>Q (.int n) H) h;exact⟨x,n,rfl,h1,h2⟩)
 |min=>exact .fn "min" boot_min (bW.imp ((Jw hc).or (Na hc)) fun xs H Q h=>by
   match xs,h with
   |[.int i,.int j],h=>exact .inl ⟨i,j,rfl,h⟩
   |[.ref p],⟨ns,h1,h2,h3⟩=>exact .inr ⟨p,ns,rfl,h1,h2,h3⟩)
 |max=>exact .fn "max" boot_max (bW.imp ((Jv hc).or (Nb hc)) fun xs H Q h=>by
   match xs,h with
   |[.int i,.int j],h=>exact .inl ⟨i,j,rfl,h⟩
   |[.ref p],⟨ns,h1,h2,h3⟩=>exact .inr ⟨p,ns,rfl,h1,h2,h3⟩)
 |sum=>exact .fn "sum" boot_sum (bW.imp (L0 hc) fun xs H Q h=>by
   rcases xs with _|⟨x,_|⟨_,_⟩⟩ <;>(try exact False.elim h) <;>cases x<;>(try exact False.elim h)
   obtain⟨ns,h1,h2⟩:=h;exact⟨_,ns,rfl,h1,h2⟩)
 |abs=>exact .fn "abs" boot_abs (bW.imp Ju fun xs H Q h=>by
   rcases xs with _|⟨x,_|⟨_,_⟩⟩ <;>(try exact False.elim h) <;>cases x<;>(try exact False.elim h)
   exact⟨_,rfl,h⟩)
 |int=>exact .ty "int" M8 (bW.imp Jx fun xs H Q h=>M5 h)
 |list=>exact .ty "list" M9 (bW.imp (Kt.or (Ng hc)) fun xs H Q h=>by
   rcases xs with _|⟨x,_|⟨_,_⟩⟩ <;>(try exact False.elim h) <;>cases x<;>(try exact False.elim h)
   ·exact .inr ⟨_,rfl,h.1,h.2⟩
   ·obtain⟨ys,h1,h2⟩:=h;exact .inl ⟨_,ys,rfl,h1,h2⟩)
 |tuple=>exact .ty "tuple" M_ fun _ _ _ _ xs _ _ _ _ h=>by rcases xs with _|⟨y0,_|⟨y1,_⟩⟩ <;>first|exact False.elim h| (cases y0<;>exact False.elim h)
structure Nj (X:Cx) (m:gR) (id:String):Prop where
 pa:PlainAttrs (qF m)
 slot:Slot (qF m) m.nm id
 ty:typeOf (.builtin id)=pure (.type "method_descriptor")
 mt:mz X id (oj X.K m)
theorem Nk{P:Program}{w:World}{k:Key}{u:Value}(r:RelV (kV k) u):(h_ P w).is k u=true:=by
 cases k with
 |inl i=>obtain⟨t,e⟩:=(show ∃t,u=Value.int i t from r);subst e;exact HK P w i t
 |inr x=>obtain⟨t,e⟩:=(show ∃t,u=Value.str x t from r);subst e;exact HL P w x t
theorem Nl{aL:List (Key×V)}{vs:List (Key×Value)}(r:KV aL vs)(k:Key){v:V}(h:kJ aL k=some v):∃u,valueAt vs k=some u/\RelV v u:=by
 unfold KV at r
 induction r with
 |nil=>cases h
 | @cons p q ps qs hh t ih=>
  obtain⟨h1,h2⟩:=hh;by_cases e:p.1=k
  ·have e':q.1=k:=h1.symm.trans e;have b:valueAt (q::qs) k=some q.2:=by simp[valueAt,zbq,e']
   have a:kJ (p::ps) k=some p.2:=by simp[kJ,zbq,e]
   rw[a] at h;cases h;exact⟨_,b,h2⟩
  ·have e':¬q.1=k:=fun z=>e (h1.trans z);have b:valueAt (q::qs) k=valueAt qs k:=by simp[valueAt,zbq,e']
   have a:kJ (p::ps) k=kJ ps k:=by simp[kJ,zbq,e]
   rw[a] at h;rw[b];exact ih h
theorem Nm{sd:Addr->List (Key×V)->Prop}(vx:∀p aL,sd p aL->∀h:Heap,X.K.In h->∃vs,KV aL vs/\h.DictOf (h_ X.prog X.w) p vs):iu X (A_ sd):=by
 intro value slice pins s σ H x y v u Q I rx ry h hs;obtain⟨p,aL,k,z,rfl,rfl,hq,he,q⟩:=h;cases rx;obtain⟨vs,r,dd⟩:=vx p aL hq s.heap I.cb;obtain⟨w,ew,gM⟩:=Nl r k he;exact subscriptTail_builtinR (x:=w) dd.mapOf.typeIs PySem.F.slot_dict_getitem.lookup
  (wpAny_getItem_of (Q:=fun r s'=>r=w/\EP X pins σ Q r s') (Nk ry) dd.mapOf ew ⟨rfl,z,H,I.tok _,gM,q⟩) hs
theorem Nn{sd:Addr->List (Key×V)->Prop}(vx:∀p aL,sd p aL->∀h:Heap,X.K.In h->∃vs,KV aL vs/\h.DictOf (h_ X.prog X.w) p vs):iu X (ja X.K sd):=Kh.or (Ki.or<|Kj.or<|Nm vx)
theorem Np:mz X "list.index" (fun x vs H Q=>∃(l:Addr) (y:V) (xs:List V),x=.ref l/\vs=[y]/\ay X.K H l xs/\fi y=true/\xs.all fi=true/\eO y xs=true/\Q (.int (xs.findIdx (fun z=>eN z y):Nat)) H):=by
 intro pins s σ H x vs v us Q I rx rv h;obtain⟨l,y,xs,rfl,rfl,hq,fy,fs,mG,q⟩:=h;cases rx;obtain⟨u,rfl,ru⟩:=vals1 rv;obtain⟨its,r,⟨⟨cls,dd,data,sl⟩,n,ho,hc,YE,hd⟩,hz⟩:=I.list hq
 simp only at hc hd
 subst hc hd;have hlen:=r.length;have e:∀j (h1:j<its.length) (h2:j<xs.length),dm y its[j]=eN xs[j] y:=fun j h1 h2=>by
  obtain⟨w,e1,r1⟩:=r.get (i:=j) (x:=xs[j]) (by simp[h2])
  have e2:=zaD h1;rw[e1] at e2;rw[<-zak e2];exact uq r1<|zaV.mp fs _<|zbc h2
 have hj:xs.findIdx (fun z=>eN z y) <xs.length:=List.findIdx_lt_length.mpr (List.any_eq_true.mp mG);have hn:=kq;refine call_meets PySem.F.slot_list_index ⟨_,ho,rfl⟩ PySem.F.entry_list_index (PySem.F.args_list_index_2 _ _)
  (PySem.SeqAt.list_indexAt l its.toArray n dd sl u (dm y) (xs.findIdx fun z=>eN z y) (by simp;lia) (by lia) ?_ ?_) ⟨ho,fun z oC=>mB ru fy r fs z (by simpa using oC),⟨.int _,H,I.tok _,⟨_,rfl⟩,q⟩⟩
 ·show dm y its[xs.findIdx fun z=>eN z y]=true;rw[e _ (by lia) hj]
  exact List.findIdx_getElem (w:=hj)
 ·intro j Nq aS;show dm y its[j]=false;rw[e j (by simpa using Nq) (by lia)]
  simpa using List.not_of_lt_findIdx aS
theorem Nr(m:gR):∃id,Nj X m id:=by
 cases m with
 |append=>exact⟨_,F.plainAttrs_list,F.slot_list_append,F.type_list_append,fun pins s σ H x xs v us Q I rx rv h=>by
   cases x<;>(try exact False.elim h) <;>rcases xs with _|⟨y0,_|⟨_,_⟩⟩ <;>(try exact False.elim h)
   obtain⟨zs,h1,h2,h3⟩:=h;exact KD pins s σ H _ _ v us Q I rx rv ⟨_,zs,_,rfl,rfl,h1,h2,h3⟩⟩
 |pop=>exact⟨_,F.plainAttrs_list,F.slot_list_pop,F.type_list_pop,fun pins s σ H x xs v us Q I rx rv h=>by
   cases x<;>(try exact False.elim h) <;>rcases xs with _|⟨_,_⟩ <;>(try exact False.elim h)
   obtain⟨zs,y,h1,h2,h3⟩:=h;exact KJ pins s σ H _ _ v us Q I rx rv ⟨_,zs,y,rfl,rfl,h1,h2,h3⟩⟩
 |extend=>exact⟨_,F.plainAttrs_list,F.slot_list_extend,F.type_list_extend,fun pins s σ H x xs v us Q I rx rv h=>by
   cases x<;>(try exact False.elim h) <;>rcases xs with _|⟨y0,_|⟨_,_⟩⟩ <;>(try exact False.elim h) <;>cases y0<;>(try exact False.elim h)
   obtain⟨ys,zs,h1,h2,h3,h4⟩:=h;exact KH pins s σ H _ _ v us Q I rx rv ⟨_,_,ys,zs,rfl,rfl,h1,h2,h3,h4⟩⟩
 |join=>exact⟨_,F.plainAttrs_str,F.slot_str_join,F.type_str_join,fun pins s σ H x xs v us Q I rx rv h=>by
   cases x<;>(try exact False.elim h) <;>rcases xs with _|⟨y0,_|⟨_,_⟩⟩ <;>(try exact False.elim h) <;>cases y0<;>(try exact False.elim h)
   obtain⟨ts,h1,h2,h3⟩:=h;exact L4 pins s σ H _ _ v us Q I rx rv ⟨_,_,ts,rfl,rfl,h1,h2,h3⟩⟩
 |lstrip=>exact⟨_,F.plainAttrs_str,F.slot_str_lstrip,F.type_str_lstrip,fun pins s σ H x xs v us Q I rx rv h=>by
   cases x<;>(try exact False.elim h) <;>rcases xs with _|⟨y0,_|⟨_,_⟩⟩ <;>(try exact False.elim h) <;>cases y0<;>(try exact False.elim h)
   obtain⟨h1,h2⟩:=h;exact L6 pins s σ H _ _ v us Q I rx rv ⟨_,_,rfl,rfl,h1,h2⟩⟩
 |starts=>exact⟨_,F.plainAttrs_str,F.slot_str_startswith,F.type_str_startswith,fun _ _ _ _ x xs _ _ _ _ _ _ h=>by cases x<;>rcases xs with _|⟨y0,_|⟨y1,_⟩⟩ <;>first|exact False.elim h| (cases y0<;>exact False.elim h)⟩
 |find=>exact⟨_,F.plainAttrs_str,F.slot_str_find,F.type_str_find,fun pins s σ H x xs v us Q I rx rv h=>by
   match x,xs,h with
   |.str z,[.str y],h1=>
    obtain⟨t,rfl⟩:=rx;obtain⟨u,rfl,⟨t2,rfl⟩⟩:=vals1 rv;exact call_gives F.slot_str_find (typeIs_str _ _ _) F.entry_str_find (F.args_str_find_2 _ _) (gives_str_find z y t t2) ⟨.int _,H,I.tok _,⟨_,rfl⟩,h1⟩
   |.str z,[.str y,.int i],h1=>
    obtain⟨t,rfl⟩:=rx;obtain⟨u,w',rfl,⟨t2,rfl⟩,⟨t3,rfl⟩⟩:=vals2 rv;exact call_gives F.slot_str_find (typeIs_str _ _ _) F.entry_str_find (F.args_str_find_3 _ _ _) (gives_str_find_from z y i t t2 t3) ⟨.int _,H,I.tok _,⟨_,rfl⟩,h1⟩⟩
 |count=>exact⟨_,F.plainAttrs_str,F.slot_str_count,F.type_str_count,fun pins s σ H x xs v us Q I rx rv h=>by
   match x,xs,h with
   |.str z,[.str y],h1=>
    obtain⟨t,rfl⟩:=rx;obtain⟨u,rfl,⟨t2,rfl⟩⟩:=vals1 rv;exact call_gives F.slot_str_count (typeIs_str _ _ _) F.entry_str_count (F.args_str_count_2 _ _) (gives_str_count z y t t2) ⟨.int _,H,I.tok _,⟨_,rfl⟩,h1⟩⟩
 |reverse=>exact⟨_,F.plainAttrs_list,F.slot_list_reverse,F.type_list_reverse,fun _ _ _ _ x xs _ _ _ _ _ _ h=>by cases x<;>rcases xs with _|⟨y0,_|⟨y1,_⟩⟩ <;>first|exact False.elim h| (cases y0<;>exact False.elim h)⟩
 |index=>exact⟨_,F.plainAttrs_list,F.slot_list_index,F.type_list_index,fun _ _ _ _ x xs _ _ _ _ _ _ h=>by cases x<;>rcases xs with _|⟨y0,_|⟨y1,_⟩⟩ <;>first|exact False.elim h| (cases y0<;>exact False.elim h)⟩
 |AX=>exact⟨_,F.plainAttrs_list,F.slot_list_count,F.type_list_count,fun _ _ _ _ x xs _ _ _ _ _ _ h=>by cases x<;>rcases xs with _|⟨y0,_|⟨y1,_⟩⟩ <;>first|exact False.elim h| (cases y0<;>exact False.elim h)⟩
 |uR=>exact⟨_,F.plainAttrs_list,F.slot_list_index,F.type_list_index,fun pins s σ H x xs v us Q I rx rv h=>by
   cases x<;>(try exact False.elim h) <;>rcases xs with _|⟨y0,_|⟨_,_⟩⟩ <;>(try exact False.elim h)
   obtain⟨zs,h1,h2,h3,h4,h5⟩:=h;exact Np pins s σ H _ _ v us Q I rx rv ⟨_,_,zs,rfl,rfl,h1,h2,h3,h4,h5⟩⟩
 |clear=>exact⟨_,F.plainAttrs_list,F.slot_list_clear,F.type_list_clear,fun pins s σ H x xs v us Q I rx rv h=>by
   cases x<;>(try exact False.elim h) <;>rcases xs with _|⟨_,_⟩ <;>(try exact False.elim h)
   obtain⟨zs,h1,h2⟩:=h;exact KN pins s σ H _ _ v us Q I rx rv ⟨_,zs,rfl,rfl,h1,h2⟩⟩
theorem Nt{pins:List (Addr×Obj)}{σ:St}{H:Hp}{s:Shared}{T:Ty}{x:V}{u:Value}{Qb:Bool->Prop}{Q:Value->Shared->Prop}{E:Value->Shared->Prop}(I:Inv X pins σ H s)(rx:RelV x u)(h:bI T x H Qb)
  (hq:∀b tk,Qb b->Q (.bool b) {s with toks:=tk}):wpAny (model X.prog X.w) X.A (call (.builtin "isinstance") [u,.type T.nm]) Q E s:=by
 match x,rx,h with
 |.az,rx,h=>exact ij I rx (.az) (LZ _ T) fun tk=>hq _ _ h
 |.bl b,rx,h=>exact ij I rx (.bl b) (jD X.K .bool T) fun tk=>hq _ _ (by cases T<;>exact h)
 |.int i,rx,h=>exact ij I rx (.int i) (jD X.K .int T) fun tk=>hq _ _ (by cases T<;>exact h)
 |.str i,rx,h=>exact ij I rx (.str i) (jD X.K .str T) fun tk=>hq _ _ (by cases T<;>exact h)
 |.ref a,rx,h=>
  cases e:H a with
  |none=>simp only[bI,e] at h
  |some o=>
   match o,e with
   |.lst xs,e=>simp only[bI,e] at h;exact ij I rx (.lst e) (jD X.K .list T) fun tk=>hq _ _ (by cases T<;>exact h)
   |.bJ ob (.lst xs),e=>simp only[bI,e] at h;exact ij I rx (.bJ e) (jD X.K .list T) fun tk=>hq _ _ (by cases T<;>exact h)
   |.tup xs,e=>simp only[bI,e] at h;exact ij I rx (.tup e) (jD X.K .tuple T) fun tk=>hq _ _ (by cases T<;>exact h)
   |.dK xs,e=>simp only[bI,e] at h;exact ij I rx (.dK e) (jD X.K .dict T) fun tk=>hq _ _ (by cases T<;>exact h)
   |.dT xs,e=>simp only[bI,e] at h;exact ij I rx (.dT e) (jD X.K .dict T) fun tk=>hq _ _ (by cases T<;>exact h)
   |.set _ _,e=>simp only[bI,e] at h
   |.ins _ _ _,e=>simp only[bI,e] at h
   |.own _,e=>simp only[bI,e] at h
   |.xd _,e=>simp only[bI,e] at h
   |.met _ _,e=>simp only[bI,e] at h
   |.e9 _ _,e=>simp only[bI,e] at h
   |.ib _,e=>simp only[bI,e] at h
   |.ext _,e=>simp only[bI,e] at h
   |.bJ ob (.tup xs),e=>simp only[bI,e] at h
   |.bJ ob (.dK xs),e=>simp only[bI,e] at h
   |.bJ ob (.dT xs),e=>simp only[bI,e] at h
   |.bJ ob (.set _ _),e=>simp only[bI,e] at h
   |.bJ ob (.ins _ _ _),e=>simp only[bI,e] at h
   |.bJ ob (.own _),e=>simp only[bI,e] at h
   |.bJ ob (.xd _),e=>simp only[bI,e] at h
   |.bJ ob (.met _ _),e=>simp only[bI,e] at h
   |.bJ ob (.e9 _ _),e=>simp only[bI,e] at h
   |.bJ ob (.ib _),e=>simp only[bI,e] at h
   |.bJ ob (.ext _),e=>simp only[bI,e] at h
   |.bJ ob (.bJ _ _),e=>simp only[bI,e] at h
theorem Nu(T:Ty):bootBuiltins (Str.ofString T.nm)=some (.type T.nm):=by cases T<;>decide+kernel
theorem Nv(T:Ty):bW X (.builtin "isinstance") (qE T):=by
 intro pins s σ H xs us Q I r h
 match xs,r,h with
 |[x,.ty n],r,⟨e,h⟩=>
  subst e;obtain⟨u,w',rfl,ru,gM⟩:=vals2 r;cases gM;exact Nt I ru h fun b tk hb=>⟨.bl b,H,I.tok tk,rfl,hb⟩
theorem Nw{T:Ty}{a:Expr}{ta:TE}{p q pos:Pos}(ha:PE X a ta)(hs:noStar a=true)(hg:Gl X "isinstance")(hm:X.mg "isinstance"=none)(Nx:Gl X (Str.ofString T.nm))(Ny:X.mg (Str.ofString T.nm)=none):
  PE X (.Call (.Name "isinstance" p) [a,.Name (Str.ofString T.nm) q] [] pos) (dj (qE T)<|dc ta<|dc (tC<|.ty T.nm) ip):=by
 have hT:PE X (.Name (Str.ofString T.nm) q) (tC<|.ty T.nm):=Ih Nx Ny (Nu T) rfl (by cases T<;>decide) (by cases T<;>decide)
 exact ud (Nv T) hg hm By (nM ha (nM hT qf rfl)<|dt hs) (by decide) (by decide) (dt hs) rfl
end
section
variable {X:Cx}
theorem Nz:qk X (om X.K):=by
 intro pins s σ H x v vl vu lo hi sl Q I rx hs pl pu h
 match x,rx,h with
 |.ref a,rx,.inl ⟨xs,h1,h2⟩=>exact Ko pins s σ H _ v vl vu lo hi sl Q I rx hs pl pu ⟨a,xs,rfl,h1,h2⟩
 |.ref a,rx,.inr ⟨xs,h1,h2,h3⟩=>exact Ke pins s σ H _ v vl vu lo hi sl Q I rx hs pl pu ⟨a,xs,rfl,h1,h2,h3⟩
 |.str z,rx,⟨h1,h2⟩=>
  obtain⟨t,rfl⟩:=rx;obtain⟨l,el,ml⟩:∃l:Option (Int×Tok),vl=partValue l/\l.map (·.1)=lo:=by
   cases pl with
   |none=>exact⟨none,rfl,rfl⟩
   |int i t=>exact⟨some (i,t),rfl,rfl⟩
  obtain⟨u,eu,mu⟩:∃u:Option (Int×Tok),vu=partValue u/\u.map (·.1)=hi:=by
   cases pu with
   |none=>exact⟨none,rfl,rfl⟩
   |int i t=>exact⟨some (i,t),rfl,rfl⟩
  subst el eu;refine⟨"str",_,F.slot_str_getitem.lookup,typeIs_str _ _ _,?_⟩;refine wpAny_getItem_str_slice (l:=l) (u:=u) (st:=none) hs rfl ?_;obtain⟨b1,b2,b3⟩:=um lo hi z.length;have hp:slicePicked z l u none=(List.range<|HT.aX z.length z.length hi - HT.aX z.length 0 lo).map (HT.aX z.length 0 lo+ ·):=by
   show Builtin.Str.strSliceIndices (l.map (·.1)) (u.map (·.1)) 1 z.length=_;rw[ml,mu];have e0:Builtin.Str.strSliceIndices lo hi 1 z.length=sliceRange (sliceBounds lo hi none z.length).1 (sliceBounds lo hi none z.length).2.1 (sliceBounds lo hi none z.length).2.2:=rfl;rw[e0,b1,b2,b3,sliceRange_one]
  have hc:((slicePicked z l u none).filterMap (z.cps[·]?))=iz z.cps.toList lo hi:=by
   show(Builtin.Str.strSliceIndices (l.map (·.1)) (u.map (·.1)) 1 z.length).filterMap (z.cps[·]?)=_;rw[ml,mu,L7]
  have hz:z.cps.toList.length=z.length:=by simp[Str.length]
  have hA:=HT.uf z.length 0 (zqZ _) lo;have hB:=HT.uf z.length z.length (zqR _) hi;unfold sliceMade;refine post_val_or_made (fun _=>?_) fun t' k=>?_
  ·show(List.toArray ((slicePicked z l u none).filterMap (z.cps[·]?))).size<=sizeLine;rw[hc,zac];have:(iz z.cps.toList lo hi).length<=z.cps.toList.length:=by unfold iz;simp only[zaj,zas];lia
   lia
  ·have e:(if (((none:Option (Int×Tok)).map (·.1)).getD 1==1 && (slicePicked z l u none).length==z.length)=true then z else ⟨((slicePicked z l u none).filterMap (z.cps[·]?)).toArray⟩)=gg z lo hi:=by
    split
    ·rename_i hq
     simp only[zaa,beq_iff_eq] at hq
     have eR:=hq.2;rw[hp,zai,List.length_range] at eR;have a0:HT.aX z.length 0 lo=0:=by lia
     have b0:HT.aX z.length z.length hi=z.length:=by lia
     unfold gg iz;rw[hz,a0,b0,<-hz,zbd,zaR,zaE]
    ·rw[hc];rfl
   rw[e];exact⟨.str _,H,I.tok k,⟨t',rfl⟩,h2⟩
theorem NA:pY X (unaryOp .USub) A9:=by
 intro pins s σ H x v Q I rx h
 match x,rx,h with
 |.int i,rx,h=>exact Jc pins s σ H _ v Q I rx ⟨i,rfl,h⟩
theorem NB{a:Expr}{ta:TE}{pos:Pos}(ha:PE X a ta):PE X (.UnaryOp .Not a pos) (uT X.K ta):=by
 intro pins s σ H Q I h;refine UnaryOp_<|aR (ha pins s σ H _ I h) fun v s1 ⟨x,H1,I1,r1,q1⟩=>not_of ?_;exact aR (zx pins s1 σ H1 x v (fun b H2=>Q (.bl<|!b) H2) I1 r1<|A8 q1) fun b s2 ⟨H2,I2,q2⟩=>⟨.bl<|!b,H2,I2,rfl,q2⟩
theorem qR{a:Expr}{ta:TE}(ha:PE X a ta)(he:∀whole,isTrue a X.env whole=(do let v <-whole;standAt a.pos;holding [v] (truthy v))):PT X a (ee X.K ta):=by
 intro pins s σ H Q I h;exact isTrue_plain (aR (ha pins s σ H _ I h) fun v s1 ⟨x,H1,I1,r1,q1⟩=>zx pins s1 σ H1 x v Q I1 r1 (A8 q1))<|he _
theorem NC{m:gR}{o e:Expr}{es:List Expr}{to:TE}{t:TA}{apos dq:Pos}(ho:PE X o to)(ha:PA X (e::es) t)(hb:kN o=true)(hl:(apos.endLine==dq.line)=true)(hn:(e::es).length<29)
  (hs:starEach (e::es) X.env=(false,eval e X.env)::starEach es X.env) (h1:(backTo dq<|starEach es X.env).any (·.1)=false) (h2:(backTo dq<|starEach (e::es) X.env).all (fun x=> !x.1)=true):
  PE X (.Call (.Attribute o m.nm apos) (e::es) [] dq) (qG X.K m to t):=by
 obtain⟨id,M⟩:=Nr (X:=X) m;exact Aa M.pa M.slot M.ty M.mt ho ha (kA hb) (by
  rw[h2];show(true && true && decide ((e::es).length+0+0<30))=true;rw[zqT (by lia)];rfl) hl hs h1
end
section
variable {X:Cx}{CX:bP}
theorem BD{o:Expr}{m:Str}{apos pos:Pos}{args:List Expr}{Q:Value->Shared->Prop}{E:Value->Shared->Prop}{A:Around}{s:Shared}{env:Env}{prog:Program}{w:World}
  (hb:kN o=true) (hl:(apos.endLine==pos.line)=true) (hn:args.length<29) (hf:(backTo pos<|starEach args env).all (fun x=> !x.1)=true)
  (h:wpAny (model prog w) A (eval o env) (fun ov s1=>∀pl,wpAny (model prog w) A (getMethod ov m pl) (fun fx s2=>wpAny (model prog w) A (callWith pos fx.1 fx.2 (backTo pos<|starEach args env)<|backToKw pos<|keywordEach [] env) Q E s2) E s1) E s):
  wpAny (model prog w) A (eval (.Call (.Attribute o m apos) args [] pos) env) Q E s:=by
 have ND:methodCallForm (args.length+0) (backTo pos<|starEach args env) (backToKw pos<|keywordEach [] env)=true:=by
  show((backTo pos<|starEach args env).all (fun x=> !x.1) && true && decide (args.length+0+0<30))=true;rw[hf,zqT (by lia)];rfl
 have line:methodCallPos true o env apos pos=pure pos:=by unfold methodCallPos;simp[hl]
 rw[arm_eval_Call,kA hb];refine wpAny_bind<|wpAny_mono h (fun ov s1 h1=>wpAny_bind<|wpAny_standAt ?_) fun _ _ e=>e;unfold methodCall;rw[show([]:List Keyword).length=0 from rfl,ND]
 refine wpAny_bind<|wpAny_holding<|wpAny_mono (h1 _) (fun fx s2 h2=>?_) fun _ _ e=>e;exact wpAny_bind<|wpAny_of_eq line h2
theorem NG{o e:Expr}{es:List Expr}{to:TE}{t:TA}{apos pos:Pos}{C:Addr}{m:Str}{sp:Sp}{E:XK}(M:qL CX X C m sp)(hx:Passes CX X E)(ho:PE X o to)(ha:PA X (e::es) t)(hb:kN o=true)(hl:(apos.endLine==pos.line)=true)(hn:(e::es).length<29)
  (hs:starEach (e::es) X.env=(false,eval e X.env)::starEach es X.env) (h1:(backTo pos<|starEach es X.env).any (·.1)=false) (h2:(backTo pos<|starEach (e::es) X.env).all (fun x=> !x.1)=true):
  PE X (.Call (.Attribute o m apos) (e::es) [] pos) (ks C m sp [] E to t):=by
 obtain⟨c,k,f,fd,ps,hm,F,hr,vy⟩:=M;intro pins s σ H Q I h;refine BD hb hl hn h2<|aR (ho pins s σ H _ I h) fun u s1 ⟨x,H1,I1,rx,a,dx,fs,ex,ea,l,q⟩=>fun pl=>?_;subst ex;obtain rfl:u=Value.ref a:=rx;refine zC I1 ea c hm l ?_;refine callWith_K (first:=[.ref a]) (h₀:=X.base) I.ok.mod.nC hm.kp (aR (ha pos pins s1 σ H1 _ I1 q) fun us s2 ⟨vs,H2,I2,r,q2⟩=>⟨I2.cb,?_⟩) hs h1
 exact uc (us:=.ref a::us) (vs:=.ref a::vs) F hr vy .nil hx I2 (.cons rfl r) q2
theorem NH{o:Expr}{to:TE}{apos pos:Pos}{C:Addr}{m:Str}{sp:Sp}{E:XK}(M:qL CX X C m sp)(hx:Passes CX X E)(ho:PE X o to)(hb:kN o=true)(hl:(apos.endLine==pos.line)=true):
  PE X (.Call (.Attribute o m apos) [] [] pos) (ks C m sp [] E to ip):=by
 obtain⟨c,k,f,fd,ps,hm,F,hr,vy⟩:=M;intro pins s σ H Q I h;refine BD hb hl (by decide) rfl<|aR (ho pins s σ H _ I h) fun u s1 ⟨x,H1,I1,rx,a,dx,fs,ex,ea,l,q⟩=>fun pl=>?_
 subst ex;obtain rfl:u=Value.ref a:=rx;refine zC I1 ea c hm l ?_;exact callWith_K0 (first:=[.ref a]) I1.cb hm.kp<|uc (us:=[.ref a]) (vs:=[.ref a]) F hr vy .nil hx I1 (.cons rfl .nil) q
end
def gj(K:Frag)(n:Nat)(t:ie):TG:=fun v σ H Q=>∃a xs,v=.ref a/\(aO K H a xs\/False)/\xs.length=n/\t xs σ H Q
theorem vz{X:Cx}{es:List Expr}{k:Nat}{t:ie}{n:Nat}{pos:Pos}(hc:X.calm=true)(h:mq X es t)
  (hn:(assignEach es X.env).length=n) (tP:(assignEach es X.env).findIdx? (·.1)=none):PG X (.Tuple es k pos) (gj X.K n t):=by
 intro pins s σ H v u Q I r hw;obtain⟨a,xs,e1,hq,hl,hw⟩:=hw;rcases hq with hq|hq
 ·exact tO hc h hn tP pins s σ H v u Q I r ⟨a,xs,e1,hq,hl,hw⟩
 ·exact hq.elim
def fP:List Nat->ie
 |[]=>pU
 |i::r=>kh (da i) (fP r)
def NJ(to:TE)(tl th:TO):TG:=fun v σ H Q=>to σ H fun o H1=>tl σ H1 fun i H2=>th σ H2 fun j H3=>∃l b xs ys a c,o=.ref l/\v=.ref b/\i=some a/\j=some c/\H3 l=some (.lst xs)/\H3 b=some (.lst ys)/\l≠b/\
 0<=a/\a<=c/\c<=xs.length/\xs.length+ys.length<=sizeLine/\Q σ (upd H3 l<|.lst<|xs.take a.toNat++ys++xs.drop c.toNat)
mutual
def bZ(Γ:bf):RS->TS
 |.asg i e=>jr (aj Γ e) (da i)
 |.Mm i e=>jr (aj Γ e) (da i)
 |.set o ix e=>jr (aj Γ e) (zc (aj Γ o) (aj Γ ix) uk)
 |.dput o i e=>K_ (aj Γ o) (aj Γ i) (aj Γ e)
 |.drop e=>yZ (aj Γ e)
 |.ret e=>y6 (aj Γ e)
 |.Mn=>Iz
 |.ite c t e=>y_ (bc Γ c) (aB Γ t) (aB Γ e)
 |.fN i k its body=>mw (fk Γ k its) (da i) (aB Γ body)
 |.kI is k its body=>mw (fk Γ k its) (gj Γ.K is.length<|fP is) (aB Γ body)
 |.jE c body=>zf (bc Γ c) (aB Γ body)
 |.pass=>tK
 |.brk=>Iu
 |.cont=>yY
 |.never=>IB
 |.Mo o lo hi e=>jr (aj Γ e) (NJ (aj Γ o) (qj<|aj Γ lo)<|qj<|aj Γ hi)
 |.iA o f e=>ua Γ.K (aj Γ o) (aj Γ e) f
 |.qD is e=>jr (aj Γ e) (gj Γ.K is.length<|fP is)
 |.fO j as=>uQ (Γ.ex j) Γ.E (aW Γ as)
 |.Mp n i j body su=>fun D σ H=>∃C,Γ.gv j=.ref C/\Ma Γ.K C i n (fun E=>aB {Γ with E:=E} body) (fun ea=>aB {Γ with E:=E0,hv:=some ea} su) D σ H
 |.Mq k i j f as su=>fun D σ H=>∃C,Γ.gv j=.ref C/\Mc Γ.K C i k (Γ.fs f) (aW {Γ with E:=E0} as) (fun ea=>aB {Γ with E:=E0,hv:=some ea} su) D σ H
 |.xs T=>T Γ
def aB(Γ:bf):List RS->TS
 |[]=>tK
 |s::r=>yX (bZ Γ s) (aB Γ r)
end
def vA:Expr->Bool
 |.Slice ..=>false|_=>true
def qS:Expr->Bool
 |.ListComp ..=>false|.SetComp ..=>false|.DictComp ..=>false|_=>true
def jJ(N:List Str)(sc:Scope):List Nat->List Str->Bool
 |[],xs=>xs.isEmpty
 |i::r,xs=>match xs with
  |[]=>false
  |x::t=>decide (N[i]?=some x) && loc sc x && jJ N sc r t
structure eo (CX:bP) (S:bY) (Γ:bf) (X:Cx):Prop extends Good CX S Γ X where
 nd:S.N.Nodup
 vB:∀x,X.fn x=true
 own:PassesOwn (model X.prog X.w) X.A X.env X.xe
 NK:X.env.scope.kind=.function
 rs:∀(j:Nat) (x:Str),S.en[j]?=some x->Raises X Γ.E
 nE:X.stack=X.env::X.outer
 kO:X.env.frame=some X.env.locals
 NL:X.ex=[]
 NM:CX=eQ X.prog X.w
def qV(S:bY)(i:Nat)(x:Str):Bool:=decide (S.N[i]?=some x) && uW S.sc x && !(x==("__debug__":Str)) && !(x==("__classdict__":Str))
def kG(S:bY)(j:Nat)(x:Str):Bool:=decide (S.gn[j]?=some x) && jH S.sc x && !(x==("__debug__":Str))
def kF(S:bY)(j:Nat)(x:Str):Bool:=decide (S.fn[j]?=some x) && jH S.sc x && !(x==("__debug__":Str))
def kK(S:bY)(j:Nat)(x:Str):Bool:=decide (S.kn[j]?=some x) && jH S.sc x && !(x==("__debug__":Str))
def kB(S:bY)(x y:Str):Bool:=decide (x=y) && jH S.sc x && S.bl.contains x
def kM(o:Expr)(m:Str)(x:Str)(n:Nat)(a c:Pos):Bool:=decide (x=m) && kN o && (a.endLine==c.line) && decide (n<29)
def kL(S:bY)(i:Nat)(x:Str):Bool:=decide (S.N[i]?=some x) && loc S.sc x
section
variable {CX:bP}{S:bY}{Γ:bf}{X:Cx}{e e2 a b c d:Expr}{es:List Expr}{x:Str}{p q pos:Pos}{r ra rb rc:RE}{rs:List RE}{i j:Nat}
theorem aa(G:Good CX S Γ X)(h:qV S i x=true:=by kernel_rfl):PE X (.Name x p) (aj Γ<|.v i):=by
 simp only[qV,zaa,decide_eq_true_eq,zaL] at h
 exact Ia (by rw[G.N];exact h.1.1.1) (by rw[G.sc];exact MB h.1.1.2) h.1.2 h.2
theorem aq{v:Int}{k:Nat}:PE X (.Constant (.int v) k p) (aj Γ<|.c<|.int v):=Ib
theorem aQ{v:Str}{k:Nat}:PE X (.Constant (.str v) k p) (aj Γ<|.c<|.str v):=Ig
theorem iD{v:Bool}{k:Nat}:PE X (.Constant (.bool v) k p) (aj Γ<|.c<|.bl v):=Ic
theorem cz{k:Nat}:PE X (.Constant .none k p) (aj Γ<|.c .az):=Ie
theorem BE(G:Good CX S Γ X)(h:kG S j x=true:=by kernel_rfl):PE X (.Name x p) (aj Γ<|.g j):=by
 simp only[kG,zaa,decide_eq_true_eq,zaL] at h
 obtain⟨u,hm,r⟩:=G.qM j x h.1.1;exact yR (G.gl h.1.2) hm r h.2
theorem ax{op:Operator}(G:Good CX S Γ X)(ha:PE X a (aj Γ ra))(hb:PE X b (aj Γ rb)):PE X (.BinOp a op b p) (aj Γ<|.bin op ra rb):=by
 show PE X _ (dg (i8 Γ.K op) (aj Γ ra)<|aj Γ rb);rw[<-G.K];exact IV (LM op) ha hb
theorem mI(ha:PE X a (aj Γ ra)):PE X (.UnaryOp .USub a p) (aj Γ<|.neg ra):=IW NA ha
theorem fm{op:CmpOp}(G:Good CX S Γ X)(ha:PE X a (aj Γ ra))(hb:PE X b (aj Γ rb))(hm:behindInMarks op b=false:=by kernel_rfl):PE X (.Compare a [op] [b] p) (aj Γ<|.cmp op ra rb):=by
 show PE X _ (dg (bX Γ.K op) (aj Γ ra)<|aj Γ rb);rw[<-G.K];exact Jq (qB G.units op) ha hb hm
theorem NN{op dW:CmpOp}(G:Good CX S Γ X)(ha:PE X a (aj Γ ra))(hb:PE X b (aj Γ rb))(hc:PE X c (aj Γ rc))(hm:lastMarks [op,dW] [b,c]=false:=by kernel_rfl):PE X (.Compare a [op,dW] [b,c] p) (aj Γ<|.oi op dW ra rb rc):=by
 show PE X _ (qc (bX Γ.K op) (bX Γ.K dW) (aj Γ ra) (aj Γ rb)<|aj Γ rc);rw[<-G.K];exact Jr (qB G.units op) (qB G.units dW) ha hb hc hm
theorem iE(h:PE X e (aj Γ r)):PE X (.BoolOp .And [e] p) (aj Γ<|.and [r]):=Ik h
theorem gW{r2:RE}(h:PE X e (aj Γ r))(t:PE X (.BoolOp .And (e2::es) p) (aj Γ<|.and (r2::rs))):PE X (.BoolOp .And (e::e2::es) p) (aj Γ<|.and (r::r2::rs)):=Il h t
theorem vC(G:Good CX S Γ X)(ha:PE X a (aj Γ ra)):PE X (.UnaryOp .Not a p) (aj Γ<|.not ra):=by
 show PE X _ (uT Γ.K<|aj Γ ra);rw[<-G.K];exact NB ha
theorem mJ(hc:PT X c (bc Γ rc))(ha:PE X a (aj Γ ra))(hb:PE X b (aj Γ rb)):PE X (.IfExp c a b p) (aj Γ<|.i_ rc ra rb):=Im hc ha hb
theorem ak:PA X [] (aW Γ []):=qf
theorem ae(h:PE X e (aj Γ r))(t:PA X es (aW Γ rs))(hs:noStar e=true:=by kernel_rfl):PA X (e::es) (aW Γ (r::rs)):=nM h t (dt hs)
theorem aC(G:Good CX S Γ X)(hA:PA X (e::es) (aW Γ (r::rs)))(h:kF S j x=true:=by kernel_rfl)(hn:ef (e::es)=true:=by kernel_rfl)(hq:S.md=0:=by rfl):PE X (.Call (.Name x p) (e::es) [] pos) (aj Γ<|.call j (r::rs)):=by
 simp only[kF,zaa,decide_eq_true_eq,zaL] at h
 obtain⟨k,f,fd,ps,F,hr,hm,hk,hb⟩:=G.fns hq j x h.1.1;exact JT F hr (G.gl h.1.2) hm hk hb .nil G.pass hA h.2 (dt (de hn).1)<|gV _ _ es (de hn).2
theorem NO(G:Good CX S Γ X)(h:kK S j x=true:=by kernel_rfl)(hq:S.md=0:=by rfl):PE X (.Call (.Name x p) [] [] pos) (aj Γ<|.make j []):=by
 simp only[kK,zaa,decide_eq_true_eq,zaL] at h
 obtain⟨k,f,fd,ps,M,F,hr,hm,hb⟩:=G.oz hq j x h.1.1;exact JV M F hr (G.gl h.1.2) hm hb .nil G.pass h.2
theorem BF(G:Good CX S Γ X)(hA:PA X (e::es) (aW Γ (r::rs)))(h:kK S j x=true:=by kernel_rfl)(hn:ef (e::es)=true:=by kernel_rfl)(hq:S.md=0:=by rfl):PE X (.Call (.Name x p) (e::es) [] pos) (aj Γ<|.make j (r::rs)):=by
 simp only[kK,zaa,decide_eq_true_eq,zaL] at h
 obtain⟨k,f,fd,ps,M,F,hr,hm,hb⟩:=G.oz hq j x h.1.1;exact JU M F hr (G.gl h.1.2) hm hb .nil G.pass hA h.2 (dt (de hn).1)<|gV _ _ es (de hn).2
theorem br{t:i9}(G:Good CX S Γ X)(hA:PA X (e::es) (aW Γ (r::rs)))(h:kB S x t.nm=true:=by kernel_rfl)(hn:ef (e::es)=true:=by kernel_rfl)(hq:S.md=0:=by rfl):PE X (.Call (.Name x p) (e::es) [] pos) (aj Γ<|.blt t (r::rs)):=by
 simp only[kB,zaa,decide_eq_true_eq] at h
 obtain⟨⟨rfl,h2⟩,h3⟩:=h;have n1:t.nm≠"__name__":=by cases t<;>decide
 have n2:(t.nm==("__debug__":Str))=false:=by cases t<;>decide
 show PE X _ (dj (jF Γ.K t)<|aW Γ (r::rs));rw[<-G.K];cases Ni (X:=X) (G.calm hq) t with
 |fn id hv hc=>exact ud hc (G.gl h2) (G.gU _ h3) hv hA n1 n2 (dt (de hn).1) (gV _ _ es (de hn).2)
 |ty T hv hc=>exact J0 hc (G.gl h2) (G.gU _ h3) hv hA n1 n2 (dt (de hn).1) (gV _ _ es (de hn).2)
theorem iG{T:Ty}{y:Str}(G:Good CX S Γ X)(ha:PE X a (aj Γ ra))(h:kB S x "isinstance"=true:=by kernel_rfl)(h2:kB S y (Str.ofString T.nm)=true:=by kernel_rfl)(hs:noStar a=true:=by kernel_rfl):PE X (.Call (.Name x p) [a,.Name y q] [] pos) (aj Γ<|.d_ T ra):=by
 simp only[kB,zaa,decide_eq_true_eq] at h h2
 obtain⟨⟨rfl,g2⟩,g3⟩:=h;obtain⟨⟨rfl,k2⟩,k3⟩:=h2;exact Nw ha hs (G.gl g2) (G.gU _ g3) (G.gl k2)<|G.gU _ k3
theorem cq{m:gR}{o:Expr}{ro:RE}{ap:Pos}(G:Good CX S Γ X)(ho:PE X o (aj Γ ro))(hA:PA X (e::es) (aW Γ (r::rs)))(h:kM o m.nm x (es.length+1) ap pos=true:=by kernel_rfl)(hn:ef (e::es)=true:=by kernel_rfl):PE X (.Call (.Attribute o x ap) (e::es) [] pos) (aj Γ<|.bq m ro (r::rs)):=by
 simp only[kM,zaa,decide_eq_true_eq] at h
 obtain⟨⟨⟨rfl,h2⟩,h3⟩,h4⟩:=h;show PE X _ (qG Γ.K m (aj Γ ro)<|aW Γ (r::rs));rw[<-G.K];exact NC ho hA h2 h3 h4 (dt (de hn).1) (gV _ _ es (de hn).2)<|qQ _ _ (e::es) hn
theorem bA{f:Str}{ro:RE}(G:Good CX S Γ X)(ho:PE X a (aj Γ ro))(h:kN a=true:=by kernel_rfl):PE X (.Attribute a f p) (aj Γ<|.fld ro f):=by
 show PE X _ (qd Γ.K (aj Γ ro) f);rw[<-G.K];exact JM ho<|kA h
theorem fQ{m:Str}{o:Expr}{ro:RE}{ap:Pos}(G:Good CX S Γ X)(ho:PE X o (aj Γ ro))(h:(kM o m m 0 ap pos && decide (S.mn[j]?=some m))=true:=by kernel_rfl)(hq:S.md=0:=by rfl):PE X (.Call (.Attribute o m ap) [] [] pos) (aj Γ<|.bo j m ro []):=by
 simp only[kM,zaa,decide_eq_true_eq] at h
 obtain⟨⟨⟨⟨-,h2⟩,h3⟩, -⟩,h5⟩:=h;exact NH (G.oy hq j _ h5) G.pass ho h2 h3
theorem cU{m:Str}{o:Expr}{ro:RE}{ap:Pos}(G:Good CX S Γ X)(ho:PE X o (aj Γ ro))(hA:PA X (e::es) (aW Γ (r::rs)))(h:(kM o m m (es.length+1) ap pos && decide (S.mn[j]?=some m))=true:=by kernel_rfl)(hn:ef (e::es)=true:=by kernel_rfl)(hq:S.md=0:=by rfl):PE X (.Call (.Attribute o m ap) (e::es) [] pos) (aj Γ<|.bo j m ro (r::rs)):=by
 simp only[kM,zaa,decide_eq_true_eq] at h
 obtain⟨⟨⟨⟨-,h2⟩,h3⟩,h4⟩,h5⟩:=h;exact NG (G.oy hq j _ h5) G.pass ho hA h2 h3 h4 (dt (de hn).1) (gV _ _ es (de hn).2)<|qQ _ _ (e::es) hn
theorem NP(h:vA b=true):zY b:=fun o i=>by cases b<;>first|rfl|cases h
theorem av(G:Good CX S Γ X)(ha:PE X a (aj Γ ra))(hb:PE X b (aj Γ rb))(h:vA b=true:=by kernel_rfl):PE X (.Subscript a b p) (aj Γ<|.ix ra rb):=by
 show PE X _ (dg (ja Γ.K Γ.sd) (aj Γ ra)<|aj Γ rb);rw[<-G.K];exact Kg (Nn G.qO) ha hb<|NP h
theorem iH{lo hi:Option Expr}{rl rh:Option RE}(G:Good CX S Γ X)(ha:PE X a (aj Γ ra))(hl:PO X lo (jG Γ rl))(hh:PO X hi (jG Γ rh)):PE X (.Subscript a (.Slice lo hi none q) p) (aj Γ<|.sl ra rl rh):=by
 show PE X _ (ug (om Γ.K) (aj Γ ra) (jG Γ rl)<|jG Γ rh);rw[<-G.K];exact Kc Nz ha hl hh
theorem mK:PO X none (jG Γ none):=Ka
theorem fo(ha:PE X a (aj Γ ra)):PO X (some a) (jG Γ<|some ra):=Kb ha
theorem bG{k}(hA:PA X es (aW Γ rs)):PE X (.Tuple es k p) (aj Γ<|.tup rs):=JQ hA
theorem cM(hA:PA X es (aW Γ rs)):PE X (.List es p) (aj Γ<|.lst rs):=JR hA
def vD(CX:bP)(S:bY)(Γ:bf)(cond:Option RE)(ifs:List Expr):Prop:=match cond with
 |none=>ifs=[]
 |some r=>∃e0,ifs=[e0]/\∀X,Good CX S Γ X->PT X e0 (bc Γ r)
theorem vE:vD CX S Γ none []:=rfl
theorem oE(h:∀X,Good CX S Γ X->PT X e (bc Γ r)):vD CX S Γ (some r) [e]:=⟨e,rfl,h⟩
def kC(S:bY)(tk:Option Nat)(tg iter:Expr)(sc:Scope)(k:IK)(ln:List Str)(fv:List (Str×Nat)):Bool:=decide (uY tk tg=some ln) && (decide (k≠ .zip)||tk.isSome) && qH S ⟨.Constant .none 0 ⟨0,0,0,0⟩,tg,iter,[],sc⟩ ln fv
abbrev cS(S:bY)(sc:Scope)(ln:List Str)(fv:List (Str×Nat)):bY:={S with N:=ln++fv.map (·.1),sc:=uX sc S.sc,en:=[],md:=if S.md=0 then 0 else 2}
theorem kP{tk:Option Nat}{fv:List (Str×Nat)}{k:IK}{its:List RE}{cond:Option RE}{elt:RE}{el tg iter:Expr}{ifs:List Expr}{sc:Scope}{ln:List Str}(G:Good CX S Γ X)(h:kC S tk tg iter sc k ln fv=true)(hi:PI X tg iter (fk Γ k its))
  (hc:vD CX (cS S sc ln fv) Γ.calm cond ifs) (he:∀X,Good CX (cS S sc ln fv) Γ.calm X->PE X el (aj Γ.calm elt)) (hq:S.md=0:=by rfl):PE X (.ListComp el [⟨tg,iter,ifs,0⟩] sc p) (aj Γ<|.comp tk fv k its cond elt):=by
 simp only[kC,zaa,decide_eq_true_eq] at h
 obtain⟨⟨h1,h2⟩,h3⟩:=h;obtain⟨o1,o2,o3,o4⟩:=Bx (c:=⟨.Constant .none 0 ⟨0,0,0,0⟩,tg,iter,[],sc⟩) G h3;show PE X _ (nZ Γ.K (fk Γ k its) tk fv (uV Γ.calm cond)<|aj Γ.calm elt);rw[<-G.K];refine AO o1 (G.calm hq) hi (M4 (c:=⟨.Constant .none 0 ⟨0,0,0,0⟩,tg,iter,[],sc⟩) (G.calm hq) h1 o2 o3) ?_ (fun ex C s H=>he _<|G.inner ⟨.Constant .none 0 ⟨0,0,0,0⟩,tg,iter,[],sc⟩ ln fv ex C s H)<|oA o4;cases cond with
 |none=>exact hc
 |some r=>
  obtain⟨e0,q,hq⟩:=hc;exact⟨e0,q,fun ex C s H=>hq _<|G.inner ⟨.Constant .none 0 ⟨0,0,0,0⟩,tg,iter,[],sc⟩ ln fv ex C s H⟩
theorem dH(h:PT X a (bc Γ ra)):PT X (.UnaryOp .Not a p) (bc Γ<|.not ra):=Ii h
theorem vF(h:PT X e (bc Γ r)):PW X (.BoolOp .And [e] p) (bc Γ<|.and [r]):=pw_and1 h
theorem qT{r2:RE}(h:PT X e (bc Γ r))(t:PW X (.BoolOp .And (e2::es) p) (bc Γ<|.and (r2::rs))):PW X (.BoolOp .And (e::e2::es) p) (bc Γ<|.and (r::r2::rs)):=pw_and h t
theorem eS(h:PT X e (bc Γ r)):PW X (.BoolOp .Or [e] p) (bc Γ<|.or [r]):=pw_or1 h
theorem cW{r2:RE}(h:PT X e (bc Γ r))(t:PW X (.BoolOp .Or (e2::es) p) (bc Γ<|.or (r2::rs))):PW X (.BoolOp .Or (e::e2::es) p) (bc Γ<|.or (r::r2::rs)):=pw_or h t
theorem aP{op:CmpOp}(G:Good CX S Γ X)(ha:PE X a (aj Γ ra))(hb:PE X b (aj Γ rb))(hm:behindInMarks op b=false:=by kernel_rfl):PT X (.Compare a [op] [b] p) (bc Γ<|.cmp op ra rb):=by
 show PT X _ (my<|dg (bX Γ.K op) (aj Γ ra)<|aj Γ rb);rw[<-G.K];exact zu (qB G.units op) ha hb hm
theorem NQ(G:Good CX S Γ X)(h:PE X (.Name x p) (aj Γ<|.v i)):PT X (.Name x p) (bc Γ<|.v i):=by
 show PT X _ (ee Γ.K<|aj Γ<|.v i);rw[<-G.K];exact qR h fun _=>rfl
theorem fq(G:Good CX S Γ X)(h:PE X (.Call a es [] p) (aj Γ<|.call j rs)):PT X (.Call a es [] p) (bc Γ<|.call j rs):=by
 show PT X _ (ee Γ.K<|aj Γ<|.call j rs);rw[<-G.K];exact qR h fun _=>rfl
theorem qU{T:Ty}(G:Good CX S Γ X)(h:PE X (.Call a es [] p) (aj Γ<|.d_ T ra)):PT X (.Call a es [] p) (bc Γ<|.d_ T ra):=by
 show PT X _ (ee Γ.K<|aj Γ<|.d_ T ra);rw[<-G.K];exact qR h fun _=>rfl
theorem fz{tg:Expr}(G:Good CX S Γ X)(ha:PE X a (aj Γ ra)):PI X tg a (fk Γ .list [ra]):=by
 show PI X tg a (tS Γ.K<|aj Γ ra);rw[<-G.K];exact IL ha
theorem NR{tg:Expr}(G:Good CX S Γ X)(ha:PE X a (aj Γ ra)):PI X tg a (fk Γ .tup [ra]):=by
 show PI X tg a (tU Γ.K<|aj Γ ra);rw[<-G.K];exact IM ha
theorem qW{tg:Expr}(G:Good CX S Γ X)(ha:PE X a (aj Γ ra))(h:kB S x "range"=true:=by kernel_rfl)(hs:noStar a=true:=by kernel_rfl):PI X tg (.Call (.Name x p) [a] [] pos) (fk Γ .e9 [ra]):=by
 simp only[kB,zaa,decide_eq_true_eq] at h
 obtain⟨⟨rfl,h2⟩,h3⟩:=h;exact IS (G.gl h2) (G.gU _ h3) (nM ha qf<|dt hs)<|dt hs
theorem NS{ts:List Expr}{k}{tp:Pos}(G:Good CX S Γ X)(ha:PE X a (aj Γ ra))(h:kB S x "enumerate"=true:=by kernel_rfl)(hs:noStar a=true:=by kernel_rfl):PI X (.Tuple ts k tp) (.Call (.Name x p) [a] [] pos) (fk Γ .uS [ra]):=by
 simp only[kB,zaa,decide_eq_true_eq] at h
 obtain⟨⟨rfl,h2⟩,h3⟩:=h;show PI X _ _ (uU Γ.K<|dc (aj Γ ra)<|aW Γ []);rw[<-G.K];exact MH (G.gl h2) (G.gU _ h3) (nM ha qf<|dt hs)<|dt hs
end
section
variable {CX:bP}{S:bY}{Γ:bf}{X:Cx}{e a b c v:Expr}{es:List Expr}{x:Str}{p q pos:Pos}{r ra rb rc:RE}{i j:Nat}{st:Stmt}{BG:List Stmt}{s:RS}{ss t u:List RS}
theorem qX{v:Expr}{t:Option Expr}{l:Nat}{env:Env}(h:qS v=true):swapsWith v t l env=pure false:=by
 cases v<;>first|rfl|cases h
theorem NU{v:Expr}{x:Str}{p:Pos}{l:Nat}{env:Env}(h:env.kindOf x=some .cell):swapsWith v (some<|.Name x p) l env=pure false:=by
 cases v<;>first
  |rfl
  |(unfold swapsWith;simp only[h];have q:(some NameKind.cell==some NameKind.local)=false:=rfl;simp only[q,Bool.and_false,Bool.false_and])
theorem NV{v o i:Expr}{p:Pos}{l:Nat}{env:Env}:swapsWith v (some<|.Subscript o i p) l env=pure false:=by
 cases v<;>rfl
theorem NW{v o i:Expr}{p:Pos}{env:Env}:swappedStores [.Subscript o i p] v env=pure none:=by
 cases v<;>rfl
theorem eo.name(G:eo CX S Γ X)(h:kL S i x=true):PG X (.Name x p) (da i):=by
 simp only[kL,zaa,decide_eq_true_eq] at h
 exact kg (by rw[G.N];exact G.nd) (by rw[G.N];exact h.1) (by rw[G.sc];exact Bf h.2)<|.inl<|G.vB x
theorem ar:c_ X [] (aB Γ []):=Iq
theorem ah(h:PS X st (bZ Γ s))(t:c_ X BG (aB Γ ss)):c_ X (st::BG) (aB Γ (s::ss)):=Ir h t
theorem aD(G:eo CX S Γ X)(he:PE X v (aj Γ r))(h:kL S i x=true:=by kernel_rfl)(hc:(qS v ||decide (S.sc.names.lookup x=some .cell))=true:=by kernel_rfl):PS X (.Assign [.Name x p] v q) (bZ Γ<|.asg i r):=by
 simp only[kL,zaa,decide_eq_true_eq,zbo] at h hc
 refine ID (by rw[G.N];exact G.nd) (by rw[G.N];exact h.1) (by rw[G.sc];exact Bf h.2) he ?_<|.inl<|G.vB x
 rcases hc with h4|h4
 ·exact qX h4
 ·exact NU (by show X.env.scope.names.lookup x=_;rw[G.sc];exact h4)
theorem NY(he:PE X v (aj Γ r))(ha:PE X a (aj Γ ra))(hb:PE X b (aj Γ rb))(h:vA b=true:=by kernel_rfl):PS X (.Assign [.Subscript a b p] v q) (bZ Γ<|.set ra rb r):=
 zd he (IC ha hb set_list (by intro w;cases b<;>first|rfl|cases h)) (by exact NV (o:=a) (i:=b) (p:=p) (l:=q.line) (env:=X.env)) NW rfl
theorem kQ{f:Str}(G:eo CX S Γ X)(ho:PE X a (aj Γ ra))(he:PE X v (aj Γ r))(h:qS v=true:=by kernel_rfl):PS X (.Assign [.Attribute a f p] v q) (bZ Γ<|.iA ra f r):=by
 show PS X _ (ua Γ.K (aj Γ ra) (aj Γ r) f);rw[<-G.K];exact JN ho he<|qX h
theorem cX(he:PE X v (aj Γ r))(h:qS v=true:=by kernel_rfl):PS X (.Expr v p) (bZ Γ<|.drop r):=Iw he (qX h)
theorem aM(he:PE X v (aj Γ r)):PS X (.Return (some v) p) (bZ Γ<|.ret r):=Iy he
theorem aY{as bs:List Stmt}(hc:PT X c (bc Γ rc))(ha:c_ X as (aB Γ t))(hb:c_ X bs (aB Γ u)):PS X (.If c as bs p) (bZ Γ<|.ite rc t u):=IA hc ha hb
theorem oF{as:List Stmt}(G:eo CX S Γ X)(hc:PT X c (bc Γ rc))(ha:c_ X as (aB Γ t)):PS X (.While c as [] p) (bZ Γ<|.jE rc t):=IG G.own hc ha
theorem jK{k:IK}{its:List RE}{iter:Expr}{as:List Stmt}(G:eo CX S Γ X)(hi:PI X (.Name x p) iter (fk Γ k its))(ha:c_ X as (aB Γ t))(h:kL S i x=true:=by kernel_rfl)(hs:mE iter=true:=by kernel_rfl)(hq:S.md=0:=by rfl):PS X (.For (.Name x p) iter as [] q) (bZ Γ<|.fN i k its t):=
 tW G.own (G.calm hq) hi (G.name h) ha (oA hs)
theorem qY(G:eo CX S Γ X):∀(is:List Nat) (xs:List (Str×Pos)),jJ S.N S.sc is (xs.map (·.1))=true->
  mq X (xs.map fun y=>.Name y.1 y.2) (fP is)/\(assignEach (xs.map fun y=>Expr.Name y.1 y.2) X.env).length=is.length/\(assignEach (xs.map fun y=>Expr.Name y.1 y.2) X.env).findIdx? (·.1)=none
 |[],xs,h=>by
  simp only[jJ,List.isEmpty_iff,List.map_eq_nil_iff] at h
  subst h;exact⟨tM,rfl,rfl⟩
 |i::r,[],h=>by simp only[List.map_nil,jJ] at h;cases h
 |i::r,y::t,h=>by
  simp only[zaG,jJ,zaa] at h
  obtain⟨i1,i2,i3⟩:=qY G r t h.2;refine⟨mr (G.name (by simp only[kL,zaa];exact h.1)) i1 rfl,?_,?_⟩
  ·show(assignEach _ X.env).length+1=r.length+1;rw[i2]
  ·show List.findIdx? (·.1) ((false,assign (.Name y.1 y.2) X.env)::assignEach _ X.env)=none;rw[List.findIdx?_cons,i3];rfl
theorem qZ{is:List Nat}{k:IK}{its:List RE}{iter:Expr}{as:List Stmt}{kt}{tp:Pos}(xs:List (Str×Pos))(G:eo CX S Γ X)(hi:PI X (.Tuple (xs.map fun y=>.Name y.1 y.2) kt tp) iter (fk Γ k its))(ha:c_ X as (aB Γ t))(h:jJ S.N S.sc is (xs.map (·.1))=true:=by kernel_rfl)(hs:mE iter=true:=by kernel_rfl)(hq:S.md=0:=by rfl):
  PS X (.For (.Tuple (xs.map fun y=>.Name y.1 y.2) kt tp) iter as [] q) (bZ Γ<|.kI is k its t):=by
 obtain⟨i1,i2,i3⟩:=qY G is xs h;show PS X _ (mw (fk Γ k its) (gj Γ.K is.length<|fP is)<|aB Γ t);rw[<-G.K];exact tW G.own (G.calm hq) hi (vz (G.calm hq) i1 i2 i3) ha<|oA hs
def kX(S:bY)(j:Nat)(x:Str):Bool:=decide (S.en[j]?=some x) && jH S.sc x && !(x==("__debug__":Str))
theorem gX{rs:List RE}{np dq:Pos}(G:eo CX S Γ X)(hA:PA X (e::es) (aW Γ (r::rs)))(h:kX S j x=true:=by kernel_rfl)(hn:ef (e::es)=true:=by kernel_rfl)(hq:S.md=0:=by rfl):PS X (.Raise (some<|.Call (.Name x np) (e::es) [] dq) none pos) (bZ Γ<|.fO j (r::rs)):=by
 simp only[kX,zaa,decide_eq_true_eq,zaL] at h
 obtain⟨bm,B,newId,mH,O,FB⟩:=G.vp j x h.1.1;exact M0 (G.calm hq) O FB (G.gl h.1.2) h.2 hA (dt (de hn).1) (gV _ _ es (de hn).2)<|G.rs j x h.1.1
theorem NZ:PS X (.Continue p) (bZ Γ .cont):=Iv
end
section
variable {P:Program}{w:World}{K:Frag}{mg:Str->Option Value}{base:Heap}
def du(P:Program)(w:World)(K:Frag)(mg:Str->Option Value)(base:Heap)(k:Nat)(x:Str)(sp:Sp):Prop:=
 ∃f fd ps,b7 P w K mg base (eQ P w) k f fd ps sp/\mg x=some (.ref f)/\PySem.W.keepIn K (.ref f)=true/\Binds K fd ps []
theorem du.mono{j k:Nat}{x:Str}{sp:Sp}(h:du P w K mg base j x sp)(hk:j<=k):du P w K mg base k x sp:=by
 obtain⟨f,fd,ps,F,r⟩:=h;exact⟨f,fd,ps,F.mono hk,r⟩
def jL(tab:List (Str×Sp))(j:Nat):Sp:=match tab[j]? with
 |some p=>p.2
 |none=>fun _ _ _ _=>False
def q8(tab:List (Str×V))(j:Nat):V:=match tab[j]? with
 |some p=>p.2
 |none=>.az
structure vG (mg:Str->Option Value) (p:Str×V):Prop where
 ex:∃u,mg p.1=some u/\RelV p.2 u
def iI(tab:List (Str×Addr×Sp))(j:Nat):Addr×Sp:=match tab[j]? with
 |some p=>p.2
 |none=>(0,fun _ _ _ _=>False)
def q9(tab:List (Str×Addr))(j:Nat):Addr:=match tab[j]? with
 |some p=>p.2
 |none=>0
abbrev aK(K:Frag)(tab:List (Str×Sp))(gt:List (Str×V))(dk:List (Addr×List (Key×V)):=[])(mt kt:List (Str×Addr×Sp):=[])(et:List (Str×Addr):=[])(ht:List (Str×Sp):=[])(E:XK:=E0):bf:=
 {K:=K,fs:=jL tab,gv:=q8 gt,E:=E,sd:=fun p aL=>(p,aL)∈dk,ms:=iI mt,kt:=iI kt,ex:=q9 et,hs:=jL ht,hv:=none}
def kR(P:Program)(w:World)(K:Frag)(mg:Str->Option Value)(base:Heap)(k:Nat)(p:Str×Addr×Sp):Prop:=
 dh K p.2.1/\∃f fd ps,Meth K p.2.1 p.1 f/\b7 P w K mg base (eQ P w) k f fd ps p.2.2/\Binds K fd ps []
def kS(P:Program)(w:World)(K:Frag)(mg:Str->Option Value)(base:Heap)(k:Nat)(p:Str×Addr×Sp):Prop:=
 ∃j f fd ps,j+1<=k/\Mk K p.2.1 f/\b7 P w K mg base (eQ P w) j f fd ps p.2.2/\mg p.1=some (.ref p.2.1)/\Binds K fd ps []
theorem kR.mono{j k:Nat}{p:Str×Addr×Sp}(h:kR P w K mg base j p)(hk:j<=k):kR P w K mg base k p:=by
 obtain⟨c,f,fd,ps,m,F,b⟩:=h;exact⟨c,f,fd,ps,m,F.mono hk,b⟩
theorem kS.mono{j k:Nat}{p:Str×Addr×Sp}(h:kS P w K mg base j p)(hk:j<=k):kS P w K mg base k p:=by
 obtain⟨i,f,fd,ps,m,r⟩:=h;exact⟨i,f,fd,ps,zar m hk,r⟩
def BH(P:Program)(w:World)(K:Frag)(q:Addr×List (Key×V)):Prop:= ∀h:Heap,K.In h->∃vs,KV q.2 vs/\h.DictOf (h_ P w) q.1 vs
abbrev q_(N:List Str)(sc:Scope)(tab:List Str)(gt:List Str)(bl:List Str)(mn kn:List Str:=[])(en hn:List Str:=[])(md:Nat:=0):bY:={N:=N,sc:=sc,fn:=tab,gn:=gt,bl:=bl,mn:=mn,kn:=kn,en:=en,hn:=hn,md:=md}
def rf(mg:Str->Option Value)(base:Heap)(p:Str×Addr):Prop:= ∃bm B newId mH,OwnCls p.1 p.2 bm newId mg base/\ExcBaseFacts B newId mH bm
def vH(P:Program)(w:World)(K:Frag)(mg:Str->Option Value)(base:Heap)(k:Nat)(x:Str)(sp:Sp):Prop:=
 ∃f fd ps,Br P w K mg base k f fd ps sp/\mg x=some (.ref f)/\PySem.W.keepIn K (.ref f)=true/\Binds K fd ps []
theorem N1{x qual:Str}{st:Stmt}{f:Addr}{fd:FuncData}{N ps:List Str}{k:Nat}{sp:Sp}(F:jA K x qual st f fd)(S:ku N ps (dr st))
  (tab:List (Str×Sp)) (gt:List (Str×V)) (bl:List Str) (mt kt:List (Str×Addr×Sp)) (et:List (Str×Addr)) (ht:List (Str×Sp)) (body:List RS)
  (hm:∀{CX:bP}{Γ:bf}{X:Cx},eo CX (q_ N (dr st) (tab.map (·.1)) (gt.map (·.1)) bl (mt.map (·.1)) (kt.map (·.1)) (et.map (·.1)) (ht.map (·.1))) Γ X->c_ X (dG st) (aB Γ body))
  (vI:∀p∈tab,du P w K mg base k p.1 p.2) (vJ:∀p∈gt,vG mg p) (vK:∀y∈bl,mg y=none) (dk:List (Addr×List (Key×V))) (vL:∀q∈dk,BH P w K q)
  (vM:∀p∈mt,kR P w K mg base k p) (vN:∀p∈kt,kS P w K mg base k p) (het:∀p∈et,rf mg base p) (vO:∀p∈ht,vH P w K mg base k p.1 p.2)
  (len:∀vs H Q E,sp vs H Q E->vs.length=ps.length)
  (vP:∀vs H Q E,sp vs H Q E->aB (aK K tab gt dk mt kt et ht E) body {nx:=fun _ H'=>Q .az H',rt:=Q} (start N vs) H):b7 P w K mg base (eQ P w) (k+1) f fd ps sp:=by
 obtain⟨oc,od,kV,doc,pm,an,bw,ct,fc,rfl,lk,gc⟩:=F.ex;refine zN lk gc S len fun A outer s H vs Q E hr jv=>⟨_,hm (CX:=eQ P w) (Γ:=aK K tab gt dk mt kt et ht E) ?_,vP vs H Q E jv⟩;refine {N:=rfl,sc:=rfl,K:=rfl,calm:=fun _=>rfl,units:=hr.units,fns:=fun _ j y hj=>?_,qM:=fun j y hj=>?_,gU:=fun y hy=>?_,pass:=MV,qN:=fun _ _ _ _ _ h=>Bp h,qO:=fun p aL h=>vL _ h,oy:=fun _ j y hj=>?_,oz:=fun _ j y hj=>?_,vp:=fun j y hj=>?_,vq:=fun j y hj=>?_,vv:=fun _ h=>(nomatch h),Bw:=fun h=>(nomatch h),nd:=S.nd,vB:=fun _=>rfl,own:=PassesOwn.leaving,NK:=S.kind,rs:=fun _ _ _=>MZ,nE:=rfl,kO:=rfl,NL:=rfl,NM:=rfl}
 ·have bx:(tab.map (·.1))[j]?=some y:=hj;rw[zag] at bx;cases q:tab[j]? with
  |none=>rw[q] at bx;cases bx
  |some p=>
   rw[q] at bx;have e:p.1=y:=zak bx;obtain⟨f',kT,kU,F',m',k',b'⟩:=vI p (zap q);have es:jL tab j=p.2:=by unfold jL;rw[q]
   show Bs (eQ P w) _ y (jL tab j);rw[es,<-e];exact⟨k,f',kT,kU,F',hr,m',k',b'⟩
 ·have bx:(gt.map (·.1))[j]?=some y:=hj;rw[zag] at bx;cases q:gt[j]? with
  |none=>rw[q] at bx;cases bx
  |some p=>
   rw[q] at bx;have e:p.1=y:=zak bx;obtain⟨u,h1,h2⟩:=(vJ p<|zap q).ex;have es:q8 gt j=p.2:=by unfold q8;rw[q]
   show ∃u,mg y=some u/\RelV (q8 gt j) u;rw[es,<-e];exact⟨u,h1,h2⟩
 ·exact vK y (by simpa using hy)
 ·have bx:(mt.map (·.1))[j]?=some y:=hj;rw[zag] at bx;cases q:mt[j]? with
  |none=>rw[q] at bx;cases bx
  |some p=>
   rw[q] at bx;have e:p.1=y:=zak bx;obtain⟨c,f',kT,kU,m',F',b'⟩:=vM p (zap q);have es:iI mt j=p.2:=by unfold iI;rw[q]
   show qL (eQ P w) _ (iI mt j).1 y (iI mt j).2;rw[es,<-e];exact⟨c,k,f',kT,kU,m',F',hr,b'⟩
 ·have bx:(kt.map (·.1))[j]?=some y:=hj;rw[zag] at bx;cases q:kt[j]? with
  |none=>rw[q] at bx;cases bx
  |some p=>
   rw[q] at bx;have e:p.1=y:=zak bx;obtain⟨i,f',kT,kU,hi,m',F',g',b'⟩:=vN p (zap q);have es:iI kt j=p.2:=by unfold iI;rw[q]
   show Bt (eQ P w) _ y (iI kt j).1 (iI kt j).2;rw[es,<-e];exact⟨i,f',kT,kU,m',F',hr.mono hi,g',b'⟩
 ·have bx:(et.map (·.1))[j]?=some y:=hj;rw[zag] at bx;cases q:et[j]? with
  |none=>rw[q] at bx;cases bx
  |some p=>
   rw[q] at bx;have e:p.1=y:=zak bx;have es:q9 et j=p.2:=by unfold q9;rw[q]
   show Bv _ y (q9 et j);rw[es,<-e];exact het p<|zap q
 ·have bx:(ht.map (·.1))[j]?=some y:=hj;rw[zag] at bx;cases q:ht[j]? with
  |none=>rw[q] at bx;cases bx
  |some p=>
   rw[q] at bx;have e:p.1=y:=zak bx;obtain⟨f',kT,kU,F',m',k',b'⟩:=vO p (zap q);have es:jL ht j=p.2:=by unfold jL;rw[q]
   show Bu _ y (jL ht j);rw[es,<-e];exact⟨k,f',kT,kU,F',hr.h,m',k',b'⟩
theorem N2{x qual:Str}{st:Stmt}{f:Addr}{fd:FuncData}{N ps:List Str}{k:Nat}{sp:Sp}(F:jA K x qual st f fd)(S:ku N ps (dr st))(kz:mg x=some (.ref f))(hb:Binds K fd ps [])
  (no:∀vs H Q E,¬sp vs H Q E):du P w K mg base (k+1) x sp:=
 by
 obtain⟨oc,od,kV,doc,pm,an,bw,ct,fc,rfl,lk,gc⟩:=F.ex;exact⟨f,_,ps,zN lk gc S (fun vs H Q E h=>(no vs H Q E h).elim)<|fun A outer s H vs Q E hr h=>(no vs H Q E h).elim,kz,F.kp,hb⟩
end
section
variable {P:Program}{w:World}{K:Frag}{mg:Str->Option Value}{base:Heap}{x qual:Str}{st:Stmt}{f:Addr}{fd:FuncData}{N ps:List Str}{k:Nat}{sp:Sp}
theorem b7.top{k:Nat}(F:b7 P w K mg base (eQ P w) k f fd ps sp):b7 P w K mg base nX k f fd ps (fun vs H Q _=>sp vs H Q E0):=
 ⟨fun vs H Q E h=>F.len vs H Q E0 h,fun A outer s H args us vs Q E hr e0 hb hv hs=>codeAny_mono (F.run A outer s H args us vs Q E0 hr e0 hb hv hs) fun r s' h=>by
  cases r with
  |error e=>exact(Bp h).elim
  |ok fl=>cases fl<;>exact h⟩
end
section
variable {Γ:bf}{D:Ends}{σ:St}{H:Hp}{r:List RS}{Q:VK}
theorem BI{i:Nat}{e:RE}(h:aj Γ e σ H fun x H1=>aB Γ r D (σ.set i<|some x) H1):aB Γ (.asg i e::r) D σ H:=h
theorem BJ{b:i9}{as:List RE}(h:aW Γ as σ H fun vs H1=>jF Γ.K b vs H1 Q):aj Γ (.blt b as) σ H Q:=h
theorem BK{a:RE}{Q:List V->Hp->Prop}(h:aj Γ a σ H fun x H1=>Q [x] H1):aW Γ [a] σ H Q:=h
end
end L2
variable {H H' H1 H2:L2.Hp}{σ:L2.St}{lb lf CP C s dx c:PySem.Addr}{i j n lim:Nat}{a b e o:L2.RE}{Γ:L2.bf}{xs ys:List L2.V}{Q:L2.VK}{S l r:List Nat}{D:L2.Ends}{body:List L2.RS}{as:List L2.RE}{fv:List (PySem.Str×Nat)}{y:PySem.Str}
namespace L2.B
open PySem PySem.Spec PyProof.Rows
def gY:List Str:=["thing"]
noncomputable def BL:List RS:=
 [.ret<|.and [(.d_ .int<|.v 0),(.not<|.d_ .bool<|.v 0)]]
def af:List Str:=[]
def BM:List Str:=["isinstance","int","bool"]
def vQ:List Str:=["thing","words"]
noncomputable def vR:List RS:=
 [.ret<|.and [(.d_ .str<|.v 0),(.cmp .In (.v 0)<|.v 1)]]
def BN:List Str:=["isinstance","str"]
noncomputable def vS:List RS:=
 [.ret<|.and [(.d_ .str<|.v 0),(.cmp .Eq (.bq .lstrip (.v 0) [.g 0])<|.c<|.str "")]]
def N3:List Str:=["SIGNS"]
noncomputable def BO:List RS:=
 [.ite (.not<|.call 0 [.v 0]) [.fO 0 [(.c<|.str "a text is a str of signs from the blank to the tilde, and line feeds")]] []]
def N4:List Str:=["is_text"]
def N5:List Str:=["BadText"]
noncomputable def rg:List RS:=
 [.ite (.or [(.not (.d_ .tuple (.v 0))),(.cmp .NotEq (.blt .len [.v 0]) (.c (.int 2)))]) [.ret (.c (.bl false))] [],
 .ite (.call 0 [(.ix (.v 0)<|.c<|.int 0),(.tup [(.c<|.str "keep")])]) [.ret<|.and [(.call 1 [(.ix (.v 0)<|.c<|.int 1)]),(.cmp .GtE (.ix (.v 0)<|.c<|.int 1)<|.c<|.int 1)]] [],
 .ret (.and [(.call 0 [(.ix (.v 0) (.c (.int 0))),(.tup [(.c (.str "cut")),(.c (.str "put"))])]),(.call 2 [(.ix (.v 0) (.c (.int 1)))]),(.cmp .NotEq (.ix (.v 0) (.c (.int 1))) (.c (.str "")))])]
def N6:List Str:=["is_word","is_whole","is_text"]
def N7:List Str:=["isinstance","tuple","len"]
def BP:List Str:=["word","ahead"]
noncomputable def BQ:List RS:=
 [.ret<|.and [(.cmp .NotEq (.v 0)<|.v 1),(.not<|.and [(.cmp .Eq (.v 1)<|.c<|.str "cut"),(.cmp .Eq (.v 0)<|.c<|.str "put")])]]
def BR:List Str:=["change","ahead","part"]
noncomputable def BS:List RS:=
 [.ite (.not (.d_ .list (.v 0))) [.fO 0 [(.c (.str "a change is a list"))]] [],
 .asg 1 (.c<|.str ""),
 .fN 2 .list [.v 0] [.ite (.not (.call 0 [.v 2])) [.fO 0 [(.c (.str "a part is a keep of 1 sign or more, or a cut or put of a text that is not empty"))]] [],
  .ite (.not<|.call 1 [(.ix (.v 2)<|.c<|.int 0),.v 1]) [.fO 0 [(.c<|.str "neighbours have two words, and no put stands right behind a cut")]] [],
  .asg 1 (.ix (.v 2) (.c (.int 0)))]]
def N8:List Str:=["is_part","may_follow"]
def N9:List Str:=["isinstance","list"]
def N_:List Str:=["BadChange"]
def BU:List Str:=["part"]
noncomputable def BV:List RS:=
 [.ret<|.i_ (.cmp .Eq (.ix (.v 0)<|.c<|.int 0)<|.c<|.str "keep") (.ix (.v 0)<|.c<|.int 1)<|.blt .len [(.ix (.v 0)<|.c<|.int 1)]]
def jc:List Str:=["len"]
def BW:List Str:=["change","over","gives"]
noncomputable def BX:List RS:=
 [.drop (.call 0 [.v 0]),
 .asg 1 (.blt .sum [(.comp none [] .list [.v 0] (some<|.cmp .NotEq (.ix (.v 0)<|.c<|.int 0)<|.c<|.str "put")<|.call 1 [.v 0])]),
 .asg 2 (.blt .sum [(.comp none [] .list [.v 0] (some<|.cmp .NotEq (.ix (.v 0)<|.c<|.int 0)<|.c<|.str "cut")<|.call 1 [.v 0])]),
 .ret (.tup [.v 1,.v 2])]
def Oa:List Str:=["need_change","part_size"]
def Ob:List Str:=["sum"]
def BY:List Str:=["_law_script","_law_k"]
noncomputable def BZ:List RS:=
 [.ite (.cmp .Lt (.v 1) (.blt .len [.v 0])) [.ret (.ix (.v 0) (.v 1))] [],
 .ret (.c (.int 0))]
def B6:List Str:=["thing","least","most"]
noncomputable def B7:List RS:=
 [.ret<|.and [(.call 0 [.v 0]),(.oi .LtE .LtE (.v 1) (.v 0)<|.v 2)]]
def Oc:List Str:=["is_whole"]
def vT:List Str:=["_law_found_here"]
noncomputable def B8:List RS:=
 [.ret<|.and [(.d_ .int<|.v 0),(.not<|.d_ .bool<|.v 0)]]
def B9:List Str:=["row","most","least","beyond","middle"]
noncomputable def B_:List RS:=
 [.asg 2 (.c (.int 0)),
 .asg 3 (.blt .len [.v 0]),
 .jE (.cmp .Lt (.v 2) (.v 3)) [.asg 4 (.bin .FloorDiv (.bin .Add (.v 2) (.v 3)) (.c (.int 2))),
  .ite (.cmp .LtE (.ix (.v 0) (.v 4)) (.v 1)) [.asg 2 (.bin .Add (.v 4) (.c (.int 1)))] [.asg 3 (.v 4)]],
 .ret (.v 2)]
def fA:List Str:=["self"]
noncomputable def Ca:List RS:=
 [.iA (.v 0) "texts" (.lst []),
 .iA (.v 0) "begins" (.lst []),
 .iA (.v 0) "feeds" (.lst []),
 .iA (.v 0) "signs" (.c (.int 0))]
def vU:List Str:=["self","text","begin","feed"]
noncomputable def Cb:List RS:=
 [.drop (.call 0 [.v 1]),
 .asg 2 (.fld (.v 0) "signs"),
 .drop (.bq .append (.fld (.v 0) "texts") [.v 1]),
 .drop (.bq .append (.fld (.v 0) "begins") [.v 2]),
 .iA (.v 0) "signs" (.bin .Add (.v 2)<|.blt .len [.v 1]),
 .asg 3 (.bq .find (.v 1) [(.c<|.str "\n")]),
 .jE (.cmp .GtE (.v 3) (.c (.int 0))) [.drop (.bq .append (.fld (.v 0) "feeds") [(.bin .Add (.v 2) (.v 3))]),
  .asg 3 (.bq .find (.v 1) [(.c (.str "\n")),(.bin .Add (.v 3) (.c (.int 1)))])],
 .ret (.v 2)]
def Od:List Str:=["need_text"]
def Cc:List Str:=["self","begin","size","pieces","number","end","offset","piece"]
noncomputable def Cd:List RS:=
 [.ite (.or [(.not (.call 0 [.v 1,(.c (.int 0)),(.fld (.v 0) "signs")])),(.not (.call 0 [.v 2,(.c (.int 0)),(.bin .Sub (.fld (.v 0) "signs") (.v 1))]))]) [.fO 0 [(.c (.str "what is read lies within the stock"))]] [],
 .asg 3 (.lst []),
 .asg 4 (.bin .Sub (.call 1 [(.fld (.v 0) "begins"),.v 1])<|.c<|.int 1),
 .asg 5 (.bin .Add (.v 1)<|.v 2),
 .jE (.cmp .Lt (.v 1) (.v 5)) [.asg 6 (.bin .Sub (.v 1) (.ix (.fld (.v 0) "begins") (.v 4))),
  .asg 7 (.sl (.ix (.fld (.v 0) "texts")<|.v 4) (some<|.v 6)<|some<|.bin .Sub (.bin .Add (.v 6)<|.v 5)<|.v 1),
  .drop (.bq .append (.v 3) [.v 7]),
  .asg 1 (.bin .Add (.v 1)<|.blt .len [.v 7]),
  .asg 4 (.bin .Add (.v 4) (.c (.int 1)))],
 .ret (.bq .join (.c (.str "")) [.v 3])]
def Oe:List Str:=["is_between","many_upto"]
def oG:List Str:=["NoPlace"]
noncomputable def Ce:List RS:=
 [.ret<|.fld (.v 0) "signs"]
structure jM (K:Frag) (C:Addr):Prop where
 cl:dh K C
 oH:eM K C "texts"
 rj:eM K C "begins"
 rk:eM K C "feeds"
 oI:eM K C "signs"
def mL:List Str:=["node"]
noncomputable def Cf:List RS:=
 [.ret<|.i_ (.cmp .Is (.v 0)<|.c .az) (.c<|.int 0)<|.ix (.v 0)<|.c<|.int 3]
noncomputable def Cg:List RS:=
 [.ret<|.i_ (.cmp .Is (.v 0)<|.c .az) (.c<|.int 0)<|.ix (.v 0)<|.c<|.int 4]
noncomputable def Ci:List RS:=
 [.ret<|.i_ (.cmp .Is (.v 0)<|.c .az) (.c<|.int 0)<|.ix (.v 0)<|.c<|.int 5]
def Cj:List Str:=["left","piece","right","height","size"]
noncomputable def Ck:List RS:=
 [.asg 3 (.bin .Add (.c (.int 1)) (.blt .max [(.call 0 [.v 0]),(.call 0 [.v 2])])),
 .asg 4 (.bin .Add (.bin .Add (.call 1 [.v 0])<|.ix (.v 1)<|.c<|.int 1)<|.call 1 [.v 2]),
 .ret (.tup [.v 0,.v 1,.v 2,.v 3,.v 4,(.bin .Add (.bin .Add (.call 2 [.v 0]) (.ix (.v 1) (.c (.int 2)))) (.call 2 [.v 2]))])]
def Of:List Str:=["height_of","size_of","ends_of"]
def Og:List Str:=["max"]
def rm:List Str:=["left","piece","right","inner"]
noncomputable def Cm:List RS:=
 [.asg 3 (.ix (.v 0) (.c (.int 2))),
 .ite (.cmp .GtE (.call 0 [(.ix (.v 0)<|.c<|.int 0)])<|.call 0 [.v 3]) [.ret<|.call 1 [(.ix (.v 0)<|.c<|.int 0),(.ix (.v 0)<|.c<|.int 1),(.call 1 [.v 3,.v 1,.v 2])]] [],
 .ret (.call 1 [(.call 1 [(.ix (.v 0) (.c (.int 0))),(.ix (.v 0) (.c (.int 1))),(.ix (.v 3) (.c (.int 0)))]),(.ix (.v 3) (.c (.int 1))),(.call 1 [(.ix (.v 3) (.c (.int 2))),.v 1,.v 2])])]
def Cn:List Str:=["height_of","made"]
noncomputable def Co:List RS:=
 [.asg 3 (.ix (.v 2) (.c (.int 0))),
 .ite (.cmp .GtE (.call 0 [(.ix (.v 2)<|.c<|.int 2)])<|.call 0 [.v 3]) [.ret<|.call 1 [(.call 1 [.v 0,.v 1,.v 3]),(.ix (.v 2)<|.c<|.int 1),(.ix (.v 2)<|.c<|.int 2)]] [],
 .ret (.call 1 [(.call 1 [.v 0,.v 1,(.ix (.v 3) (.c (.int 0)))]),(.ix (.v 3) (.c (.int 1))),(.call 1 [(.ix (.v 3) (.c (.int 2))),(.ix (.v 2) (.c (.int 1))),(.ix (.v 2) (.c (.int 2)))])])]
def oJ:List Str:=["left","piece","right"]
noncomputable def Cp:List RS:=
 [.ite (.cmp .Gt (.call 0 [.v 0]) (.bin .Add (.call 0 [.v 2]) (.c (.int 1)))) [.ret (.call 1 [.v 0,.v 1,.v 2])] [],
 .ite (.cmp .Gt (.call 0 [.v 2])<|.bin .Add (.call 0 [.v 0])<|.c<|.int 1) [.ret<|.call 2 [.v 0,.v 1,.v 2]] [],
 .ret (.call 3 [.v 0,.v 1,.v 2])]
def Oh:List Str:=["height_of","turned_right","turned_left","made"]
noncomputable def Cq:List RS:=
 [.ite (.cmp .Gt (.call 0 [.v 0]) (.bin .Add (.call 0 [.v 2]) (.c (.int 1)))) [.ret (.call 1 [(.ix (.v 0) (.c (.int 0))),(.ix (.v 0) (.c (.int 1))),(.call 2 [(.ix (.v 0) (.c (.int 2))),.v 1,.v 2])])] [],
 .ite (.cmp .Gt (.call 0 [.v 2])<|.bin .Add (.call 0 [.v 0])<|.c<|.int 1) [.ret<|.call 1 [(.call 2 [.v 0,.v 1,(.ix (.v 2)<|.c<|.int 0)]),(.ix (.v 2)<|.c<|.int 1),(.ix (.v 2)<|.c<|.int 2)]] [],
 .ret (.call 3 [.v 0,.v 1,.v 2])]
def Oi:List Str:=["height_of","leveled","joined","made"]
def mM:List Str:=["node","out"]
noncomputable def Cr:List RS:=
 [.ite (.cmp .Is (.ix (.v 0) (.c (.int 2))) (.c .az)) [.ret (.tup [(.ix (.v 0) (.c (.int 0))),(.ix (.v 0) (.c (.int 1)))])] [],
 .asg 1 (.call 0 [(.ix (.v 0)<|.c<|.int 2)]),
 .ret (.tup [(.call 1 [(.ix (.v 0) (.c (.int 0))),(.ix (.v 0) (.c (.int 1))),(.ix (.v 1) (.c (.int 0)))]),(.ix (.v 1) (.c (.int 1)))])]
def Oj:List Str:=["last_out","joined"]
noncomputable def Cs:List RS:=
 [.ite (.cmp .Is (.ix (.v 0) (.c (.int 0))) (.c .az)) [.ret (.tup [(.ix (.v 0) (.c (.int 1))),(.ix (.v 0) (.c (.int 2)))])] [],
 .asg 1 (.call 0 [(.ix (.v 0)<|.c<|.int 0)]),
 .ret (.tup [(.ix (.v 1) (.c (.int 0))),(.call 1 [(.ix (.v 1) (.c (.int 1))),(.ix (.v 0) (.c (.int 1))),(.ix (.v 0) (.c (.int 2)))])])]
def Ol:List Str:=["first_out","joined"]
def Ct:List Str:=["left","right","last","first","one","other"]
noncomputable def Cu:List RS:=
 [.ite (.cmp .Is (.v 0) (.c .az)) [.ret (.v 1)] [],
 .asg 2 (.call 0 [.v 0]),
 .asg 3 (.call 1 [.v 1]),
 .asg 4 (.ix (.v 2)<|.c<|.int 1),
 .asg 5 (.ix (.v 3)<|.c<|.int 0),
 .ite (.cmp .Eq (.bin .Add (.ix (.v 4)<|.c<|.int 0)<|.ix (.v 4)<|.c<|.int 1)<|.ix (.v 5)<|.c<|.int 0) [.ret<|.call 2 [(.ix (.v 2)<|.c<|.int 0),(.tup [(.ix (.v 4)<|.c<|.int 0),(.bin .Add (.ix (.v 4)<|.c<|.int 1)<|.ix (.v 5)<|.c<|.int 1),(.bin .Add (.ix (.v 4)<|.c<|.int 2)<|.ix (.v 5)<|.c<|.int 2)]),(.ix (.v 3)<|.c<|.int 1)]] [],
 .ret (.call 2 [(.ix (.v 2) (.c (.int 0))),.v 4,.v 1])]
def Om:List Str:=["last_out","first_out","joined"]
def Cv:List Str:=["piece","size","stock","middle","ends"]
noncomputable def Cw:List RS:=
 [.asg 3 (.bin .Add (.ix (.v 0) (.c (.int 0))) (.v 1)),
 .asg 4 (.bin .Sub (.bo 0 "ends_ahead" (.v 2) [.v 3])<|.bo 0 "ends_ahead" (.v 2) [(.ix (.v 0)<|.c<|.int 0)]),
 .ret (.tup [(.tup [(.ix (.v 0) (.c (.int 0))),.v 1,.v 4]),(.tup [.v 3,(.bin .Sub (.ix (.v 0) (.c (.int 1))) (.v 1)),(.bin .Sub (.ix (.v 0) (.c (.int 2))) (.v 4))])])]
def Cy:List Str:=["ends_ahead"]
def vV:List Str:=["node","place","stock","piece","begin","end","sides","halves"]
noncomputable def Cz:List RS:=
 [.ite (.cmp .Is (.v 0) (.c .az)) [.ret (.tup [.c .az,.c .az])] [],
 .asg 3 (.ix (.v 0)<|.c<|.int 1),
 .asg 4 (.call 0 [(.ix (.v 0)<|.c<|.int 0)]),
 .asg 5 (.bin .Add (.v 4)<|.ix (.v 3)<|.c<|.int 1),
 .ite (.cmp .LtE (.v 1) (.v 4)) [.asg 6 (.call 1 [(.ix (.v 0) (.c (.int 0))),.v 1,.v 2]),
  .ret (.tup [(.ix (.v 6) (.c (.int 0))),(.call 2 [(.ix (.v 6) (.c (.int 1))),.v 3,(.ix (.v 0) (.c (.int 2)))])])] [],
 .ite (.cmp .GtE (.v 1) (.v 5)) [.asg 6 (.call 1 [(.ix (.v 0) (.c (.int 2))),(.bin .Sub (.v 1) (.v 5)),.v 2]),
  .ret (.tup [(.call 2 [(.ix (.v 0) (.c (.int 0))),.v 3,(.ix (.v 6) (.c (.int 0)))]),(.ix (.v 6) (.c (.int 1)))])] [],
 .asg 7 (.call 3 [.v 3,(.bin .Sub (.v 1)<|.v 4),.v 2]),
 .ret (.tup [(.call 2 [(.ix (.v 0) (.c (.int 0))),(.ix (.v 7) (.c (.int 0))),.c .az]),(.call 2 [.c .az,(.ix (.v 7) (.c (.int 1))),(.ix (.v 0) (.c (.int 2)))])])]
def Oo:List Str:=["size_of","parted","joined","cut_in_two"]
def vW:List Str:=["node","pieces"]
noncomputable def CA:List RS:=
 [.ite (.cmp .Is (.v 0) (.c .az)) [.ret (.lst [])] [],
 .asg 1 (.call 0 [(.ix (.v 0)<|.c<|.int 0)]),
 .drop (.bq .append (.v 1) [(.ix (.v 0)<|.c<|.int 1)]),
 .drop (.bq .extend (.v 1) [(.call 0 [(.ix (.v 0)<|.c<|.int 2)])]),
 .ret (.v 1)]
def CC:List Str:=["pieces_of"]
def CD:List Str:=["self","place"]
noncomputable def CG:List RS:=
 [.ret<|.call 0 [(.fld (.v 0) "feeds"),(.bin .Sub (.v 1)<|.c<|.int 1)]]
def Oq:List Str:=["many_upto"]
def CH:List Str:=["stock","text"]
noncomputable def CI:List RS:=
 [.ite (.cmp .Eq (.v 1) (.c (.str ""))) [.ret (.c .az)] [],
 .ret (.call 0 [.c .az,(.tup [(.bo 0 "put" (.v 0) [.v 1]),(.blt .len [.v 1]),(.bq .count (.v 1) [(.c (.str "\n"))])]),.c .az])]
def Ot:List Str:=["joined"]
def Ou:List Str:=["put"]
def CJ:List Str:=["text","stock"]
noncomputable def CK:List RS:=
 [.drop (.call 0 [.v 0]),
 .asg 1 (.make 0 []),
 .ret (.make 1 [.v 1,(.call 1 [.v 1,.v 0])])]
def Ov:List Str:=["need_text","node_put"]
def Ow:List Str:=["Stock","Paper"]
def CL:List Str:=["paper","change","place","part"]
noncomputable def CM:List RS:=
 [.ite (.cmp .NotEq (.ix (.call 0 [.v 1]) (.c (.int 0))) (.bo 0 "size" (.v 0) [])) [.fO 0 [(.c (.str "the change is over a text of another number of signs"))]] [],
 .asg 2 (.c<|.int 0),
 .fN 3 .list [.v 1] [.ite (.and [(.cmp .Eq (.ix (.v 3) (.c (.int 0))) (.c (.str "cut"))),(.cmp .NotEq (.bo 1 "part" (.v 0) [.v 2,(.bin .Add (.v 2) (.blt .len [(.ix (.v 3) (.c (.int 1)))]))]) (.ix (.v 3) (.c (.int 1))))]) [.fO 0 [(.c (.str "what is cut is not what stands there"))]] [],
  .ite (.cmp .NotEq (.ix (.v 3) (.c (.int 0))) (.c (.str "put"))) [.asg 2 (.bin .Add (.v 2) (.call 1 [.v 3]))] []]]
def Ox:List Str:=["sizes","part_size"]
def Oy:List Str:=["size","part"]
def Oz:List Str:=["BadFit"]
def CO:List Str:=["stock","node"]
noncomputable def CQ:List RS:=
 [.ret<|.comp none [("stock",0)] .list [(.call 0 [.v 1])] none<|.bo 0 "read" (.v 1) [(.ix (.v 0)<|.c<|.int 0),(.ix (.v 0)<|.c<|.int 1)]]
def OA:List Str:=["read"]
def CS:List Str:=["self","stock","node"]
noncomputable def CU:List RS:=
 [.iA (.v 0) "stock" (.v 1),
 .iA (.v 0) "node" (.v 2)]
noncomputable def CV:List RS:=
 [.ret<|.call 0 [(.fld (.v 0) "node")]]
def OB:List Str:=["size_of"]
noncomputable def CW:List RS:=
 [.ret<|.bin .Add (.call 0 [(.fld (.v 0) "node")])<|.c<|.int 1]
def OD:List Str:=["ends_of"]
noncomputable def CY:List RS:=
 [.ret<|.bq .join (.c<|.str "") [(.call 0 [(.fld (.v 0) "stock"),(.fld (.v 0) "node")])]]
def CZ:List Str:=["texts_of"]
noncomputable def C0:List RS:=
 [.ret<|.call 0 [(.fld (.v 0) "stock"),(.fld (.v 0) "node")]]
noncomputable def C1:List RS:=
 [.ret<|.call 0 [(.fld (.v 0) "node")]]
def OE:List Str:=["height_of"]
def C2:List Str:=["self","begin","end","ahead"]
noncomputable def C3:List RS:=
 [.ite (.or [(.not (.call 0 [.v 1,(.c (.int 0)),(.bo 0 "size" (.v 0) [])])),(.not (.call 0 [.v 2,.v 1,(.bo 0 "size" (.v 0) [])]))]) [.fO 0 [(.c (.str "a part leads from a place of the text to one that is no less"))]] [],
 .asg 3 (.ix (.call 1 [(.fld (.v 0) "node"),.v 2,(.fld (.v 0) "stock")])<|.c<|.int 0),
 .ret (.bq .join (.c (.str "")) [(.call 2 [(.fld (.v 0) "stock"),(.ix (.call 1 [.v 3,.v 1,(.fld (.v 0) "stock")]) (.c (.int 1)))])])]
def OF:List Str:=["is_between","parted","texts_of"]
def OG:List Str:=["size"]
def C4:List Str:=["self","change","ahead","rest","part","sides"]
noncomputable def C5:List RS:=
 [.drop (.call 0 [.v 0,.v 1]),
 .asg 2 (.c .az),
 .asg 3 (.fld (.v 0) "node"),
 .fN 4 .list [.v 1] [.ite (.cmp .Eq (.ix (.v 4) (.c (.int 0))) (.c (.str "put"))) [.asg 2 (.call 1 [.v 2,(.call 2 [(.fld (.v 0) "stock"),(.ix (.v 4) (.c (.int 1)))])]),
   .cont] [],
  .asg 5 (.call 3 [.v 3,(.call 4 [.v 4]),(.fld (.v 0) "stock")]),
  .asg 3 (.ix (.v 5)<|.c<|.int 1),
  .ite (.cmp .Eq (.ix (.v 4) (.c (.int 0))) (.c (.str "keep"))) [.asg 2 (.call 1 [.v 2,(.ix (.v 5) (.c (.int 0)))])] []],
 .ret (.make 0 [(.fld (.v 0) "stock"),.v 2])]
def OH:List Str:=["need_fit","sewn","node_put","parted","part_size"]
def iJ:List Str:=["Paper"]
structure cN (K:Frag) (C:Addr):Prop where
 cl:dh K C
 dJ:eM K C "stock"
 fB:eM K C "node"
end L2.B
namespace L2
open PySem PySem.Spec PyProof.Rows
section
variable {X:Cx}
end
section
variable {CX:bP}{S:bY}{Γ:bf}{X:Cx}{e e2 a b c d:Expr}{es:List Expr}{x:Str}{p q pos:Pos}{r ra rb rc:RE}{rs:List RE}{i j:Nat}
theorem OI(h4:n<29)(hf:(backTo pos (starEach es X.env)).all (fun x=> !x.1)=true)(hn:n=es.length):((backTo pos (starEach es X.env)).all (fun x=> !x.1) && (backToKw pos (keywordEach [] X.env)).all (fun x=>x.1.isSome)
   && decide (es.length+([]:List Keyword).length+(if ([]:List Keyword).isEmpty then 0 else 1) <30))=true:=by
 subst hn;rw[hf];show(true && true && decide (es.length+0+0<30))=true;rw[zqT (by lia)];rfl
theorem OJ{T:Frag->TA->TE}(G:Good CX S Γ X)(h:PE X (.Call a es [] p) (aj Γ<|.xt T rs)):PT X (.Call a es [] p) (bc Γ<|.xt T rs):=by
 show PT X _ (ee Γ.K<|aj Γ<|.xt T rs);rw[<-G.K];exact qR h fun _=>rfl
end
structure oK (K:Frag) (C:Addr):Prop where
 cl:dh K C
 ha:PySem.W.findIn K (.ref C) "__class__"=some (some<|.builtin "object.__class__")
 hn:specialIn K (.builtin "object.__class__") "__get__"=some (some<|.builtin "getset_descriptor.__get__")
 nK:takesIn K (.builtin "object.__class__")=some true
 hm:PySem.W.mroIn K C (.type "object")=some true
 kt:kitOne K (.ref C) (.ref C)=some true
def rn(K:Frag):List V->Hp->VK->Prop:=fun xs H Q=>∃a C dx fs,xs=[.ref a,.ref C]/\H a=some (.ins C dx fs)/\oK K C/\Q (.bl true) H
def rp:Frag->TA->TE:=fun K t=>dj (rn K) t
section
variable {CX:bP}{S:bY}{Γ:bf}{X:Cx}{a b:Expr}{x:Str}{p q pos:Pos}{ra rb:RE}
theorem OK:bW X (.builtin "isinstance") (rn X.K):=by
 intro pins s σ H xs us Q I r h;obtain⟨a,C,dx,fs,rfl,e,O,q⟩:=h;obtain⟨u,u',rfl,r1,r2⟩:=vals2 r;cases (show u'=Value.ref C from r2)
 exact ij I r1 (fM.ins e O.cl O.ha O.hn O.nK O.hm) O.kt fun tk=>⟨.bl true,H,I.tok tk,rfl,q⟩
theorem OL(G:Good CX S Γ X)(hA:PA X [a,b] (aW Γ [ra,rb]))(h:kB S x "isinstance"=true:=by kernel_rfl)(hn:ef [a,b]=true:=by kernel_rfl):PE X (.Call (.Name x p) [a,b] [] pos) (aj Γ<|.xt rp [ra,rb]):=by
 simp only[kB,zaa,decide_eq_true_eq] at h
 obtain⟨⟨rfl,g2⟩,g3⟩:=h;show PE X _ (dj (rn Γ.K)<|aW Γ [ra,rb]);rw[<-G.K];exact ud OK (G.gl g2) (G.gU _ g3) By hA (by decide) (by decide) (dt (de hn).1)<|gV _ _ _ (de hn).2
end
end L2
namespace L2.B
open PySem PySem.Spec PyProof.Rows
def C6:List Str:=["_law_cell","_law_k","_law_number"]
noncomputable def C7:List RS:=
 [.asg 2 (.bin .Mod (.bin .Add (.bin .Add (.bin .Mult (.v 0) (.c (.int 48271))) (.bin .Mult (.c (.int 7919)) (.v 1))) (.c (.int 12345))) (.c (.int 2147483647))),
 .ret (.bin .Mod (.bin .Mult (.bin .Mod (.bin .Mult (.v 2) (.v 2)) (.c (.int 2147483647))) (.v 2)) (.c (.int 2147483647)))]
def C8:List Str:=["_law_cell","_law_many","_law_some","_law_text","_law_k","_law_number"]
noncomputable def C9:List RS:=
 [.asg 2 (.c (.str " !\"#$&'()*+,-./0123456789:;<=>?@ABCDEFGHIJKLMNOPQRSTUVWXYZ[\\]^_`")),
 .asg 2 (.bin .Add (.v 2)<|.c<|.str "abcdefghijklmnopqrstuvwxyz{|}~"),
 .asg 3 (.c<|.str ""),
 .fN 4 .e9 [.v 1] [.asg 5 (.call 0 [.v 0,.v 4]),
  .asg 3 (.bin .Add (.v 3) (.ix (.lst [(.c (.str "\n")),(.ix (.c (.str "ab")) (.bin .Mod (.bin .FloorDiv (.v 5) (.c (.int 8))) (.c (.int 2)))),(.ix (.v 2) (.bin .Mod (.bin .FloorDiv (.v 5) (.c (.int 8))) (.c (.int 94)))),(.ix (.v 2) (.bin .Mod (.bin .FloorDiv (.v 5) (.c (.int 8))) (.c (.int 94))))]) (.bin .Mod (.v 5) (.c (.int 4)))))],
 .ret (.v 3)]
def OM:List Str:=["_law_mixed"]
def C_:List Str:=["range"]
def Dc:List Str:=["_law_parts","_law_found","_law_put","_law_cut","_law_word","_law_thing"]
noncomputable def Dd:List RS:=
 [.asg 1 (.lst []),
 .asg 2 (.c<|.str ""),
 .asg 3 (.c<|.str ""),
 .kI [4,5] .list [(.bin .Add (.v 0) (.lst [(.tup [(.c (.str "end")),(.c (.int 0))])]))] [.ite (.cmp .Eq (.v 4) (.c (.str "put"))) [.asg 2 (.bin .Add (.v 2) (.v 5))] [.ite (.cmp .Eq (.v 4) (.c (.str "cut"))) [.asg 3 (.bin .Add (.v 3) (.v 5))] [.ite (.or [(.cmp .Eq (.v 4) (.c (.str "end"))),(.cmp .Gt (.v 5) (.c (.int 0)))]) [.asg 1 (.bin .Add (.bin .Add (.v 1) (.bin .Mult (.lst [(.tup [(.c (.str "put")),.v 2])]) (.blt .int [(.cmp .NotEq (.v 2) (.c (.str "")))]))) (.bin .Mult (.lst [(.tup [(.c (.str "cut")),.v 3])]) (.blt .int [(.cmp .NotEq (.v 3) (.c (.str "")))]))),
     .asg 2 (.c<|.str ""),
     .asg 3 (.c<|.str ""),
     .ite (.and [(.cmp .Eq (.v 4) (.c (.str "keep"))),(.cmp .NotEq (.v 1) (.lst [])),(.cmp .Eq (.ix (.ix (.v 1) (.neg (.c (.int 1)))) (.c (.int 0))) (.c (.str "keep")))]) [.set (.v 1) (.neg (.c (.int 1))) (.tup [(.c (.str "keep")),(.bin .Add (.ix (.ix (.v 1) (.neg (.c (.int 1)))) (.c (.int 1))) (.v 5))])] [.ite (.cmp .Eq (.v 4) (.c (.str "keep"))) [.drop (.bq .append (.v 1) [(.tup [(.c (.str "keep")),.v 5])])] []]] []]]],
 .ret (.v 1)]
def ON:List Str:=["int"]
def jN:List Str:=["_law_cell","_law_text","_law_parts","_law_at","_law_k","_law_number","_law_size"]
noncomputable def eT:List RS:=
 [.asg 2 (.lst []),
 .asg 3 (.c<|.int 0),
 .fN 4 .e9 [(.bin .Add (.c (.int 1)) (.bin .Mod (.v 0) (.c (.int 7))))] [.asg 5 (.call 0 [.v 0,(.bin .Add (.c (.int 40)) (.v 4))]),
  .ite (.cmp .Eq (.bin .Mod (.v 5)<|.c<|.int 3)<|.c<|.int 0) [.drop<|.bq .append (.v 2) [(.tup [(.c<|.str "put"),(.call 1 [.v 5,(.bin .Add (.c<|.int 1)<|.bin .Mult (.bin .Mod (.bin .FloorDiv (.v 5)<|.c<|.int 3)<|.c<|.int 4)<|.bin .Add (.c<|.int 1)<|.bin .Mod (.bin .FloorDiv (.v 5)<|.c<|.int 12)<|.c<|.int 3)])])]] [],
  .asg 6 (.blt .min [(.bin .Sub (.blt .len [.v 1])<|.v 3),(.bin .Mod (.bin .FloorDiv (.v 5)<|.c<|.int 36)<|.bin .Add (.c<|.int 2)<|.bin .FloorDiv (.blt .len [.v 1])<|.c<|.int 3)]),
  .ite (.and [(.cmp .Eq (.bin .Mod (.bin .FloorDiv (.v 5)<|.c<|.int 5)<|.c<|.int 3)<|.c<|.int 0),(.cmp .Gt (.v 6)<|.c<|.int 0)]) [.drop<|.bq .append (.v 2) [(.tup [(.c<|.str "cut"),(.sl (.v 1) (some<|.v 3)<|some<|.bin .Add (.v 3)<|.v 6)])]] [.drop<|.bq .append (.v 2) [(.tup [(.c<|.str "keep"),.v 6])]],
  .asg 3 (.bin .Add (.v 3) (.v 6))],
 .drop (.bq .append (.v 2) [(.tup [(.c<|.str "keep"),(.bin .Sub (.blt .len [.v 1])<|.v 3)])]),
 .ite (.cmp .Eq (.bin .Mod (.bin .FloorDiv (.v 0)<|.c<|.int 7)<|.c<|.int 3)<|.c<|.int 0) [.drop<|.bq .append (.v 2) [(.tup [(.c<|.str "put"),(.call 1 [.v 0,(.bin .Add (.c<|.int 1)<|.bin .Mod (.bin .FloorDiv (.v 0)<|.c<|.int 21)<|.c<|.int 5)])])]] [],
 .ret (.call 2 [.v 2])]
def kW:List Str:=["_law_mixed","_law_text_by","_law_neat"]
def kY:List Str:=["range","min","len"]
def De:List Str:=["_law_text","_law_change","_law_found","_law_at","_law_word","_law_thing"]
noncomputable def Df:List RS:=
 [.asg 2 (.c (.str "")),
 .asg 3 (.c<|.int 0),
 .kI [4,5] .list [.v 1] [.ite (.cmp .Eq (.v 4) (.c (.str "put"))) [.asg 2 (.bin .Add (.v 2) (.v 5))] [.ite (.cmp .Eq (.v 4) (.c (.str "keep"))) [.asg 2 (.bin .Add (.v 2) (.sl (.v 0) (some (.v 3)) (some (.bin .Add (.v 3) (.v 5))))),
    .asg 3 (.bin .Add (.v 3) (.v 5))] [.asg 3 (.bin .Add (.v 3) (.blt .len [.v 5]))]]],
 .ret (.v 2)]
def Dg:List Str:=["node","place","stock","ends","piece","begin","end","ahead"]
noncomputable def Dh:List RS:=
 [.asg 3 (.c (.int 0)),
 .jE (.cmp .IsNot (.v 0) (.c .az)) [.asg 4 (.ix (.v 0) (.c (.int 1))),
  .asg 5 (.call 0 [(.ix (.v 0)<|.c<|.int 0)]),
  .asg 6 (.bin .Add (.v 5)<|.ix (.v 4)<|.c<|.int 1),
  .ite (.cmp .LtE (.v 1) (.v 5)) [.asg 0 (.ix (.v 0) (.c (.int 0)))] [.ite (.cmp .Lt (.v 1) (.v 6)) [.asg 7 (.bin .Sub (.bo 0 "ends_ahead" (.v 2) [(.bin .Sub (.bin .Add (.ix (.v 4) (.c (.int 0))) (.v 1)) (.v 5))]) (.bo 0 "ends_ahead" (.v 2) [(.ix (.v 4) (.c (.int 0)))])),
    .ret (.bin .Add (.bin .Add (.v 3) (.call 1 [(.ix (.v 0) (.c (.int 0)))])) (.v 7))] [.asg 3 (.bin .Add (.bin .Add (.v 3) (.call 1 [(.ix (.v 0) (.c (.int 0)))])) (.ix (.v 4) (.c (.int 2)))),
    .asg 1 (.bin .Sub (.v 1)<|.v 6),
    .asg 0 (.ix (.v 0) (.c (.int 2)))]]],
 .ret (.v 3)]
def OO:List Str:=["size_of","ends_of"]
def Di:List Str:=["node","number","stock","place","begin","end"]
noncomputable def Dj:List RS:=
 [.asg 3 (.c (.int 0)),
 .jE (.or [(.cmp .Lt (.v 1) (.call 0 [(.ix (.v 0) (.c (.int 0)))])),(.cmp .GtE (.v 1) (.bin .Add (.call 0 [(.ix (.v 0) (.c (.int 0)))]) (.ix (.ix (.v 0) (.c (.int 1))) (.c (.int 2)))))]) [.ite (.cmp .Lt (.v 1) (.call 0 [(.ix (.v 0) (.c (.int 0)))])) [.asg 0 (.ix (.v 0) (.c (.int 0)))] [.asg 1 (.bin .Sub (.bin .Sub (.v 1) (.call 0 [(.ix (.v 0) (.c (.int 0)))])) (.ix (.ix (.v 0) (.c (.int 1))) (.c (.int 2)))),
   .asg 3 (.bin .Add (.bin .Add (.v 3)<|.call 1 [(.ix (.v 0)<|.c<|.int 0)])<|.ix (.ix (.v 0)<|.c<|.int 1)<|.c<|.int 1),
   .asg 0 (.ix (.v 0) (.c (.int 2)))]],
 .asg 4 (.ix (.ix (.v 0)<|.c<|.int 1)<|.c<|.int 0),
 .asg 5 (.bo 0 "end_place" (.v 2) [(.bin .Sub (.bin .Add (.bo 1 "ends_ahead" (.v 2) [.v 4])<|.v 1)<|.call 0 [(.ix (.v 0)<|.c<|.int 0)])]),
 .ret (.bin .Sub (.bin .Add (.bin .Add (.v 3) (.call 1 [(.ix (.v 0) (.c (.int 0)))])) (.v 5)) (.v 4))]
def OP:List Str:=["ends_of","size_of"]
def OQ:List Str:=["end_place","ends_ahead"]
def Dk:List Str:=["self","number"]
noncomputable def Dl:List RS:=
 [.ret<|.ix (.fld (.v 0) "feeds")<|.v 1]
def Dm:List Str:=["self","line"]
noncomputable def Dp:List RS:=
 [.ret<|.i_ (.cmp .Eq (.v 1)<|.c<|.int 0) (.c<|.int 0)<|.bin .Add (.call 0 [(.fld (.v 0) "node"),(.bin .Sub (.v 1)<|.c<|.int 1),(.fld (.v 0) "stock")])<|.c<|.int 1]
def OR:List Str:=["place_of_end"]
def Dq:List Str:=["self","line","last","end"]
noncomputable def Dr:List RS:=
 [.ite (.not (.call 0 [.v 1,(.c (.int 0)),(.bin .Sub (.bo 0 "lines" (.v 0) []) (.c (.int 1)))])) [.fO 0 [(.c (.str "the text has no such line"))]] [],
 .asg 2 (.cmp .Eq (.v 1)<|.bin .Sub (.bo 0 "lines" (.v 0) [])<|.c<|.int 1),
 .asg 3 (.i_ (.v 2) (.bo 1 "size" (.v 0) [])<|.call 1 [(.fld (.v 0) "node"),.v 1,(.fld (.v 0) "stock")]),
 .ret (.bin .Sub (.v 3) (.bo 2 "line_begin" (.v 0) [.v 1]))]
def OS:List Str:=["is_between","place_of_end"]
def OT:List Str:=["lines","size","line_begin"]
def Ds:List Str:=["self","place","line"]
noncomputable def Dt:List RS:=
 [.ite (.not (.call 0 [.v 1,(.c (.int 0)),(.bo 0 "size" (.v 0) [])])) [.fO 0 [(.c (.str "the text has no such place"))]] [],
 .asg 2 (.call 1 [(.fld (.v 0) "node"),.v 1,(.fld (.v 0) "stock")]),
 .ret (.tup [.v 2,(.bin .Sub (.v 1) (.bo 1 "line_begin" (.v 0) [.v 2]))])]
def OU:List Str:=["is_between","ends_ahead_of"]
def OV:List Str:=["size","line_begin"]
def Du:List Str:=["self","line","column"]
noncomputable def Dv:List RS:=
 [.ite (.not (.call 0 [.v 2,(.c (.int 0)),(.bo 0 "line_size" (.v 0) [.v 1])])) [.fO 0 [(.c (.str "the line has no such column"))]] [],
 .ret (.bin .Add (.bo 1 "line_begin" (.v 0) [.v 1]) (.v 2))]
def OW:List Str:=["is_between"]
def OX:List Str:=["line_size","line_begin"]
end L2.B
namespace L2
open PySem PySem.Spec PyProof.Rows
section
variable {X:Cx}
def rq:V->List V->Hp->VK->Prop:=fun x vs H Q=>∃z y,x=.str z/\vs=[.str y]/\(y.length==0)=false/\z.length<=1000000/\∀l,H l=none->Q (.ref l) (upd H l<|.lst<|(Txt.split z y).map V.str)
theorem Dw:∀(l:List (Str×Tok)),Vals ((l.map (·.1)).map V.str) (strValues l)
 |[]=>.nil
 |(x,t)::r=>.cons ⟨t,rfl⟩ (Dw r)
theorem OY:mz X "str.split" rq:=by
 intro pins s σ H x vs v us Q I rx rv h;obtain⟨z,y,rfl,rfl,hy,hz,q⟩:=h;obtain⟨t,rfl⟩:=rx;obtain⟨u,rfl,⟨t2,rfl⟩⟩:=vals1 rv;have hs:z.length<=sizeLine:=zar hz (by decide)
 have hn:(Builtin.Str.partsBetween z (Builtin.Str.occurrences z y 0 z.length<|z.length+1) y.length).length<=sizeLine:=by
  have e1:=StrLaws.occ_length_le z y 0 z.length (z.length+1);rw[length_partsBetween];have:z.length+2<=sizeLine:=zar (Nat.add_le_add_right hz 2) (by decide)
  lia
 have ln:(Txt.split z y).length<=sizeLine:=by
  unfold Txt.split
  split
  ·show 1<=sizeLine;decide
  ·split
   ·show 1<=sizeLine;decide
   ·exact hn
 have qq:=q s.heap.objs.size (I.aH.fresh<|zqR _);have fin:∀(l:List (Str×Tok)) (k:Nat),l.map (·.1)=Txt.split z y->EP X pins σ Q (.ref s.heap.objs.size) {s with toks:=k,heap:=s.heap.push {cls:=.type "list",data:=.seq (strValues l).toArray}}:=fun l k e=>by
  rw[<-e] at qq ln;exact⟨.ref s.heap.objs.size,_,I.laid (o:=.lst ((l.map (·.1)).map V.str)) (t':=k) (fun b u e=>Heap.get?_push_of_some _ e) (zqR _) ⟨by rw[zai];exact ln,_,_,Dw l,Heap.get?_push_size _ rfl⟩,rfl,qq⟩
 cases h1:(decide (z.length<y.length)||decide (Builtin.Str.strKind z<Builtin.Str.strKind y))
 ·cases hf:(Builtin.Str.occurrences z y 0 z.length<|z.length+1).isEmpty
  ·refine call_meets F.slot_str_split (typeIs_str _ _ _) F.entry_str_split (F.args_str_split_2 _ _) (meets_str_split_sep z y t t2 h1 hy hf hs hn) ?_;show wants _ _ _ {s with toks:=_,heap:=s.heap.push {cls:=.type "list",data:=.seq (strsFrom s.toks<|Builtin.Str.partsBetween z (Builtin.Str.occurrences z y 0 z.length<|z.length+1) y.length).toArray}}
   rw[strsFrom_eq];exact fin (numbered s.toks _) _<|(numbered_texts _ _).trans ((if_neg<|ne_true_of_eq_false h1).trans<|if_neg<|ne_true_of_eq_false hf).symm
  ·exact call_meets F.slot_str_split (typeIs_str _ _ _) F.entry_str_split (F.args_str_split_2 _ _) (meets_str_split_not_found z y t t2 h1 hy hf)
    (fin [(z,t)] s.toks ((if_neg<|ne_true_of_eq_false h1).trans<|if_pos hf).symm)
 ·exact call_meets F.slot_str_split (typeIs_str _ _ _) F.entry_str_split (F.args_str_split_2 _ _) (meets_str_split_cannot_occur z y t t2 h1)
   (fin [(z,t)] s.toks (if_pos h1).symm)
def rA:Frag->TE->TA->TE:=fun K to t=>uu K "str" rq to t
end
section
variable {CX:bP}{S:bY}{Γ:bf}{X:Cx}{e e2 a b c d:Expr}{es:List Expr}{x:Str}{p q pos:Pos}{r ra rb rc:RE}{rs:List RE}{i j:Nat}
theorem Dx{o:Expr}{ro:RE}{ap:Pos}(G:Good CX S Γ X)(ho:PE X o (aj Γ ro))(hA:PA X (e::es) (aW Γ (r::rs)))(h:kM o "split" x (es.length+1) ap pos=true:=by kernel_rfl)(hn:ef (e::es)=true:=by kernel_rfl):PE X (.Call (.Attribute o x ap) (e::es) [] pos) (aj Γ<|.xm rA ro (r::rs)):=by
 simp only[kM,zaa,decide_eq_true_eq] at h
 obtain⟨⟨⟨rfl,h2⟩,h3⟩,h4⟩:=h;show PE X _ (uu Γ.K "str" rq (aj Γ ro)<|aW Γ (r::rs));rw[<-G.K];exact Aa F.plainAttrs_str F.slot_str_split F.type_str_split OY ho hA (kA h2) (OI h4 (qQ _ _ (e::es) hn) rfl) h3 (dt (de hn).1)<|gV _ _ es (de hn).2
end
section
variable {X:Cx}
end
end L2
namespace L2.B
open PySem PySem.Spec PyProof.Rows
end L2.B
namespace L2.Dy
open PySem PySem.W PyProof.Rows
section
variable {n:Nat}{lt:Nat->Nat->Bool}{p:Array Nat}
variable {cmp:Nat->Nat->(Bool->Shared->Prop)->Shared->Prop}{R:Shared->Prop}
end
end L2.Dy
namespace L2
open PySem PySem.Spec PyProof.Rows PySem.W L2.Dy
end L2
namespace L2
open PySem PySem.Spec PyProof.Rows
end L2
namespace L2.B
open PySem PySem.Spec PyProof.Rows
end L2.B
namespace L2
open PySem PySem.Spec PyProof.Rows
end L2
namespace L2.B
open PySem PySem.Spec PyProof.Rows
end L2.B
namespace L2
open PySem PySem.Spec PyProof.Rows
variable {X:Cx}
end L2
namespace L2.B
open PySem PySem.Spec PyProof.Rows
end L2.B
namespace L2
open PySem PySem.Spec PyProof.Rows
section
variable {X:Cx}{scope:Scope}{fv:List (Str×Nat)}
theorem OZ{x z:Str}{px py pz pos:Pos}{k:Nat}(hc:X.calm=true)(hx:scope.names.lookup x=some .local)(hy:scope.names.lookup y=some .local)(hz:scope.names.lookup z=some .local)(jC:(x::y::z::fv.map (·.1)).Nodup):og X scope [x,y,z] fv (.Tuple [.Name x px,.Name y py,.Name z pz] k pos) (some 3):=by
 intro ex C s H;generalize eX:fj X scope ([x,y,z]++fv.map (·.1)) ex C s H=Xc;have xN:Xc.N=x::y::z::fv.map (·.1):=by rw[<-eX];rfl
 have xc:Xc.calm=true:=by rw[<-eX];exact hc
 have lx:Xc.env.scope.names.lookup x=some .local:=by rw[<-eX];exact lookup_relabel_local hx
 have ly:Xc.env.scope.names.lookup y=some .local:=by rw[<-eX];exact lookup_relabel_local hy
 have lz:Xc.env.scope.names.lookup z=some .local:=by rw[<-eX];exact lookup_relabel_local hz
 have p1:PG Xc (.Name x px) (da 0):=kg (by rw[xN];exact jC) (by rw[xN];rfl) (.inl lx) (.inr lx)
 have p2:PG Xc (.Name y py) (da 1):=kg (by rw[xN];exact jC) (by rw[xN];rfl) (.inl ly) (.inr ly)
 have p3:PG Xc (.Name z pz) (da 2):=kg (by rw[xN];exact jC) (by rw[xN];rfl) (.inl lz) (.inr lz)
 have xK:Xc.K=X.K:=by rw[<-eX];rfl
 refine⟨tN Xc.K 3<|kh (da 0)<|kh (da 1)<|kh (da 2) pU,tO xc<|mr p1<|mr p2<|mr p3 tM,fun v pre φ H' Q hp h=>?_⟩;obtain⟨a,b,c,rfl⟩:∃a b c,pre=[a,b,c]:=by
  match pre,hp with
  |[a,b,c],_=>exact⟨a,b,c,rfl⟩
 obtain⟨a',xs,rfl,e2,e3,q⟩:=h;obtain⟨v1,v2,v3,rfl⟩:∃v1 v2 v3,xs=[v1,v2,v3]:=by
  match xs,e3 with
  |[v1,v2,v3],_=>exact⟨v1,v2,v3,rfl⟩
 exact⟨a',_,rfl,by rw[xK];exact e2,rfl,v1,_,rfl,v2,_,rfl,v3,_,rfl,rfl,q rfl⟩
end
section
variable {CX:bP}{S:bY}{Γ:bf}{X:Cx}{p:Pos}
def O0(S:bY)(n1 n2 n3:Str)(tg iter:Expr)(sc:Scope)(fv:List (Str×Nat)):Bool:=qH S ⟨.Constant .none 0 ⟨0,0,0,0⟩,tg,iter,[],sc⟩ [n1,n2,n3] fv
theorem O1{its:List RE}{elt:RE}{el iter:Expr}{sc:Scope}{n1 n2 n3:Str}{p1 p2 p3 tp:Pos}{kt:Nat}(G:Good CX S Γ X)(h:O0 S n1 n2 n3 (.Tuple [.Name n1 p1,.Name n2 p2,.Name n3 p3] kt tp) iter sc fv=true)(hi:PI X (.Tuple [.Name n1 p1,.Name n2 p2,.Name n3 p3] kt tp) iter (fk Γ .list its))
  (he:∀X,Good CX (cS S sc [n1,n2,n3] fv) Γ.calm X->PE X el (aj Γ.calm elt)) (hq:S.md=0:=by rfl):PE X (.ListComp el [⟨.Tuple [.Name n1 p1,.Name n2 p2,.Name n3 p3] kt tp,iter,[],0⟩] sc p) (aj Γ<|.comp (some 3) fv .list its none elt):=by
 obtain⟨o1,o2,o3,o4⟩:=Bx (c:=⟨.Constant .none 0 ⟨0,0,0,0⟩,.Tuple [.Name n1 p1,.Name n2 p2,.Name n3 p3] kt tp,iter,[],sc⟩) G h;show PE X _ (nZ Γ.K (fk Γ .list its) (some 3) fv (uV Γ.calm none)<|aj Γ.calm elt);rw[<-G.K];refine AO o1 (G.calm hq) hi (OZ (G.calm hq) (o2 n1 (by simp)) (o2 n2 (by simp)) (o2 n3 (by simp)) o3) ?_ (fun ex C s H=>he _<|G.inner ⟨.Constant .none 0 ⟨0,0,0,0⟩,.Tuple [.Name n1 p1,.Name n2 p2,.Name n3 p3] kt tp,iter,[],sc⟩ [n1,n2,n3] fv ex C s H)<|oA o4
 exact vE (CX:=CX) (S:=cS S sc [n1,n2,n3] fv) (Γ:=Γ.calm)
end
end L2
namespace Z3
open PySem
abbrev gm(h:Heap)(T:Addr)(a b c:Value):Prop:=h.get? T=some {cls:=.type "tuple",data:=.seq #[a,b,c]}
section
variable {prog:Program}{w:World}{A:Around}{E:Value->Shared->Prop}{s:Shared}
theorem vX{T:Addr}{a b c x:Value}{k:Nat}{Q:Unit->Shared->Prop}(hT:gm s.heap T a b c)
  (h:∀h',h'.get? T=some {cls:=.type "tuple",data:=.seq ((#[a,b,c]:Array Value).setIfInBounds k x)}->Heap.SameBut T s.heap h'->Q () {s with heap:=h'}):wpAny (model prog w) A (updateSeq T (·.setIfInBounds k x)) Q E s:=by
 refine wpAny_updateSeq hT rfl<|h _ ?_<|Heap.SameBut.update ..;rw[Heap.get?_update_self _ hT rfl]
 simp[Obj.mapSeq]
def ZS(h:Heap)(n l1 l2 l3 i:Nat)(f:Value):Prop:=IsZip h (n+5) (n+3) (n+4) f/\gm h (n+3) (.ref n) (.ref<|n+1) (.ref<|n+2)/\(∃a b c,gm h (n+4) a b c)/\h.IsListIter n l1 i/\h.IsListIter (n+1) l2 i/\h.IsListIter (n+2) l3 i
abbrev mO(n c:Nat):Prop:=c≠n/\c≠n+1/\c≠n+2/\c≠n+4/\c≠n+5
section
variable {n l1 l2 l3:Nat}{xs ys zs:Array Value}
theorem O2{x y u:Value}{Q:Value->Shared->Prop}(d1:l1<n)(d2:l2<n)(d3:l3<n)(st:ZS s.heap n l1 l2 l3 i .none)(k1:s.heap.IsList l1 xs)(k2:s.heap.IsList l2 ys)(k3:s.heap.IsList l3 zs)(hx:xs[i]?=some x)(hy:ys[i]?=some y)(hu:zs[i]?=some u)
  (hQ:∀h',ZS h' n l1 l2 l3 (i+1) (rawInt s.heap.objs.size)->gm h' s.heap.objs.size x y u->(∀(c:Nat) o,mO n c->s.heap.get? c=some o->h'.get? c=some o)->Q (.ref s.heap.objs.size) {s with heap:=h'}):
  wpAny (model prog w) A (Builtin.«zip.__next__» ⟨[.ref<|n+5],[]⟩) (fun fin s'=>∃v,fin=.done (.ret v)/\Q v s') E s:=by
 obtain⟨hz,hI,⟨a,b,c,hO⟩,j1,j2,j3⟩:=st;have ne:∀{p q:Nat},(p==q)=false-> @Ne Addr p q:=fun h e=>by rw[e] at h;simp at h
 show wpAny _ _ (field (.ref<|n+5) 2>>=_) _ _ _;refine wpAny_bind (wpAny_field hz rfl (x:=.bool false) rfl ?_);show wpAny _ _ (field (.ref<|n+5) 3>>=_) _ _ _;refine wpAny_bind (wpAny_field hz rfl (x:=.ref (n+3)) rfl<|wpAny_bind<|wpAny_seqItems hI rfl ?_);show wpAny _ _ (Builtin.SmallTypes.ownedTupleIsFree (.ref<|n+5) >>=_) _ _ _;refine wpAny_bind ?_;unfold Builtin.SmallTypes.ownedTupleIsFree;refine wpAny_bind (wpAny_field hz rfl (x:=.none) rfl<|wpAny_pure ?_);simp only[if_true];refine wpAny_bind<|wpAny_rule<|wpAny_bind<|wpAny_field hz rfl (x:=.ref (n+4)) rfl<|wpAny_bind<|wpAny_setField_rec hz (by simp) fun g1 z1 s1=>?_
 replace z1:IsZip g1 (n+5) (n+3) (n+4) .ellipsis:=z1
 refine wpAny_bind ?_;simp only[List.zipIdx_cons,List.zipIdx_nil,zbm,List.forIn_nil];have e1: @Ne Nat n (n+5):=by lia
 have e2: @Ne Nat (n+1) (n+5):=by lia
 have e3: @Ne Nat (n+2) (n+5):=by lia
 have e4: @Ne Nat (n+4) (n+5):=by lia
 have f1: @Ne Nat l1 (n+5):=by lia
 have f2: @Ne Nat l2 (n+5):=by lia
 have f3: @Ne Nat l3 (n+5):=by lia
 have q1: @Ne Nat (n+1) n:=by lia
 have q2: @Ne Nat (n+2) n:=by lia
 have q3: @Ne Nat (n+4) n:=by lia
 have q4: @Ne Nat (n+2) (n+1):=by lia
 have q5: @Ne Nat (n+4) (n+1):=by lia
 have q6: @Ne Nat (n+4) (n+2):=by lia
 have p2: @Ne Nat l2 n:=by lia
 have p3: @Ne Nat l3 n:=by lia
 have p4: @Ne Nat l2 (n+4):=by lia
 have p5: @Ne Nat l3 (n+4):=by lia
 have p6: @Ne Nat l3 (n+1):=by lia
 refine wpAny_bind<|wpAny_bind<|wpAny_onRaise ?_;show wpAny _ _ (Builtin.SmallTypes.nextOf (.ref n) >>=_) _ _ _;refine wpAny_bind<|wpAny_nextOf_list_item (j1.extBut s1.extBut e1) (k1.extBut s1.extBut f1) hx fun g2 a2 s2=>wpAny_pure ?_;have o2:gm g2 (n+4) a b c:=s2.extBut _ _ q3 (s1.extBut _ _ e4 hO);refine wpAny_bind<|wpAny_seqItems o2 rfl<|wpAny_bind<|vX o2 fun g3 o3 s3=>wpAny_bind (wpAny_letGo<|wpAny_pure ?_)
 replace o3:gm g3 (n+4) x b c:=o3
 refine wpAny_bind<|wpAny_bind<|wpAny_onRaise ?_;show wpAny _ _ (Builtin.SmallTypes.nextOf (.ref<|n+1) >>=_) _ _ _;refine wpAny_bind<|wpAny_nextOf_list_item (((j2.extBut s1.extBut e2).extBut s2.extBut q1).extBut s3.extBut q5.symm) (((k2.extBut s1.extBut f2).extBut s2.extBut p2).extBut s3.extBut p4) hy fun g4 a4 s4=>wpAny_pure ?_;have o4:gm g4 (n+4) x b c:=s4.extBut _ _ q5 o3;refine wpAny_bind<|wpAny_seqItems o4 rfl<|wpAny_bind<|vX o4 fun g5 o5 s5=>wpAny_bind (wpAny_letGo<|wpAny_pure ?_)
 replace o5:gm g5 (n+4) x y c:=o5
 refine wpAny_bind<|wpAny_bind<|wpAny_onRaise ?_;show wpAny _ _ (Builtin.SmallTypes.nextOf (.ref<|n+2) >>=_) _ _ _;refine wpAny_bind<|wpAny_nextOf_list_item (((((j3.extBut s1.extBut e3).extBut s2.extBut q2).extBut s3.extBut q6.symm).extBut s4.extBut q4).extBut s5.extBut q6.symm) (((((k3.extBut s1.extBut f3).extBut s2.extBut p3).extBut s3.extBut p5).extBut s4.extBut p6).extBut s5.extBut p5) hu fun g6 a6 s6=>wpAny_pure ?_;have o6:gm g6 (n+4) x y c:=s6.extBut _ _ q6 o5;refine wpAny_bind<|wpAny_seqItems o6 rfl<|wpAny_bind<|vX o6 fun g7 o7 s7=>wpAny_bind (wpAny_letGo<|wpAny_pure<|wpAny_pure ?_)
 replace o7:gm g7 (n+4) x y u:=o7
 refine wpAny_bind<|wpAny_seqItems o7 rfl<|wpAny_bind<|wpAny_newTuple ?_;have sz:g7.objs.size=s.heap.objs.size:=by rw[s7.1,s6.1,s5.1,s4.1,s3.1,s2.1,s1.1]
 have kk:∀(c:Nat) o,mO n c->s.heap.get? c=some o->g7.get? c=some o:=fun c o ⟨c1,c2,c3,c4,c5⟩ e=>s7.extBut _ _ c4 (s6.extBut _ _ c3<|s5.extBut _ _ c4<|s4.extBut _ _ c2<|s3.extBut _ _ c4<|s2.extBut _ _ c1<|s1.extBut _ _ c5 e);have z7:IsZip g7 (n+5) (n+3) (n+4) .ellipsis:=s7.extBut _ _ e4.symm (s6.extBut _ _ e3.symm<|s5.extBut _ _ e4.symm<|s4.extBut _ _ e2.symm<|s3.extBut _ _ e4.symm<|s2.extBut _ _ e1.symm z1);have b1:g7.IsListIter n l1 (i+1):=((((a2.extBut s3.extBut q3.symm).extBut s4.extBut q1.symm).extBut s5.extBut q3.symm).extBut s6.extBut q2.symm).extBut s7.extBut q3.symm;have b2:g7.IsListIter (n+1) l2 (i+1):=((a4.extBut s5.extBut q5.symm).extBut s6.extBut q4.symm).extBut s7.extBut q5.symm;have b3:g7.IsListIter (n+2) l3 (i+1):=a6.extBut s7.extBut q6.symm;have lz: @LT.lt Nat _ (n+5) g7.objs.size:=Heap.lt_size z7;show wpAny _ _ (Builtin.SmallTypes.ownedTupleHandOut (.ref<|n+5) (.ref g7.objs.size) >>=_) _ _ _;refine wpAny_bind ?_;unfold Builtin.SmallTypes.ownedTupleHandOut;have z8:IsZip (g7.push {cls:=.type "tuple",data:=.seq #[x,y,u]}) (n+5) (n+3) (n+4) .ellipsis:=Heap.get?_push_of_some _ z7;refine wpAny_bind<|wpAny_setField_rec z8 (by simp) fun g9 z9 s9=>?_
 replace z9:IsZip g9 (n+5) (n+3) (n+4) (rawInt g7.objs.size):=z9
 refine wpAny_setField_rec z9 (by simp) fun ga za sa=>?_
 replace za:IsZip ga (n+5) (n+3) (n+4) (rawInt g7.objs.size):=za
 have up:∀(c:Nat) o,c≠n+5->g7.get? c=some o->ga.get? c=some o:=fun c o c1 e=>sa.extBut _ _ c1 (s9.extBut _ _ c1<|Heap.get?_push_of_some _ e);have ta:gm ga g7.objs.size x y u:=sa.extBut _ _ (zaF lz) (s9.extBut _ _ (zaF lz)<|Heap.get?_push_size _ rfl);rw[sz] at za ta;refine wpAny_pure ⟨_,rfl,?_⟩;show Q (.ref g7.objs.size) _;rw[sz];exact hQ ga ⟨za,up _ _ (by lia)<|kk _ _ ⟨by lia,by lia,by lia,by lia,by lia⟩ hI,⟨x,y,u,up _ _ (by lia) o7⟩,b1.at fun o e=>up _ o e1 e,b2.at fun o e=>up _ o e2 e,b3.at fun o e=>up _ o e3 e⟩ ta fun c o hc e=>up c o hc.2.2.2.2 (kk c o hc e)
theorem O3{Q:Fin->Shared->Prop}(hh:A.handled=none)(d1:l1<n)(st:ZS s.heap n l1 l2 l3 i .none)(k1:s.heap.IsList l1 xs)(vY:xs[i]?=none)
  (hE:∀h' e,(∀(c:Nat) o,mO n c->s.heap.get? c=some o->h'.get? c=some o)->(∃o,h'.get? e=some o/\o.cls=.type "StopIteration")->E (.ref e) {s with heap:=h'}):
  wpAny (model prog w) A (Builtin.«zip.__next__» ⟨[.ref<|n+5],[]⟩) Q E s:=by
 obtain⟨hz,hI,⟨a,b,c,hO⟩,j1,j2,j3⟩:=st;show wpAny _ _ (field (.ref<|n+5) 2>>=_) _ _ _;refine wpAny_bind (wpAny_field hz rfl (x:=.bool false) rfl ?_);show wpAny _ _ (field (.ref<|n+5) 3>>=_) _ _ _;refine wpAny_bind (wpAny_field hz rfl (x:=.ref (n+3)) rfl<|wpAny_bind<|wpAny_seqItems hI rfl ?_);show wpAny _ _ (Builtin.SmallTypes.ownedTupleIsFree (.ref<|n+5) >>=_) _ _ _;refine wpAny_bind ?_;unfold Builtin.SmallTypes.ownedTupleIsFree;refine wpAny_bind (wpAny_field hz rfl (x:=.none) rfl<|wpAny_pure ?_);simp only[if_true];refine wpAny_bind<|wpAny_rule<|wpAny_bind<|wpAny_field hz rfl (x:=.ref (n+4)) rfl<|wpAny_bind<|wpAny_setField_rec hz (by simp) fun g1 z1 s1=>?_
 replace z1:IsZip g1 (n+5) (n+3) (n+4) .ellipsis:=z1
 refine wpAny_bind ?_;simp only[List.zipIdx_cons,List.zipIdx_nil,zbm,List.forIn_nil];have e1: @Ne Nat n (n+5):=by lia
 have f1: @Ne Nat l1 (n+5):=by lia
 refine wpAny_bind<|wpAny_bind<|wpAny_onRaise ?_;show wpAny _ _ (Builtin.SmallTypes.nextOf (.ref n) >>=_) _ _ _;refine wpAny_bind<|wpAny_nextOf_list_end hh (j1.extBut s1.extBut e1) (k1.extBut s1.extBut f1) vY fun g2 e s2 he=>?_;obtain⟨oe,vZ,Dz⟩:=he;have z2:IsZip g2 (n+5) (n+3) (n+4) .ellipsis:=s2 _ _ e1.symm z1;have O4:e≠n+5:=fun x=>by subst x;rw[z2] at vZ;cases vZ;simp at Dz
 exact wpAny_setField_rec z2 (by simp) fun g3 _ s3=>hE g3 e (fun c o hc x=>s3.extBut _ _ hc.2.2.2.2<|s2 _ _ hc.1<|s1.extBut _ _ hc.2.2.2.2 x) ⟨oe,s3.extBut _ _ O4 vZ,Dz⟩
theorem O5{x y u:Value}{Q:Option Value->Shared->Prop}(d1:l1<n)(d2:l2<n)(d3:l3<n)(st:ZS s.heap n l1 l2 l3 i .none)(k1:s.heap.IsList l1 xs)(k2:s.heap.IsList l2 ys)(k3:s.heap.IsList l3 zs)(hx:xs[i]?=some x)(hy:ys[i]?=some y)(hu:zs[i]?=some u)
  (hQ:∀h',ZS h' n l1 l2 l3 (i+1) (rawInt s.heap.objs.size)->gm h' s.heap.objs.size x y u->(∀(c:Nat) o,mO n c->s.heap.get? c=some o->h'.get? c=some o)->Q (some<|.ref s.heap.objs.size) {s with heap:=h'}):
  wpAny (model prog w) A (pyNext<|.ref<|n+5) Q E s:=by
 have hT:s.TypeIs (.ref<|n+5) "zip":=⟨_,st.1,rfl⟩;unfold pyNext;exact wpAny_bind<|wpAny_attempt<|wpAny_callSpecial?_slot (name:=Str.ofString "__next__") hT F.slot_zip_next<|wpAny_call_entry F.slot_zip_next hT F.entry_zip_next (O2 d1 d2 d3 st k1 k2 k3 hx hy hu fun h' a b c=>wpAny_pure (hQ h' a b c))<|F.args_zip_next_1 _
theorem O6{Q:Option Value->Shared->Prop}(hh:A.handled=none)(d1:l1<n)(st:ZS s.heap n l1 l2 l3 i .none)(k1:s.heap.IsList l1 xs)(vY:xs[i]?=none)
  (hQ:∀h',(∀(c:Nat) o,mO n c->s.heap.get? c=some o->h'.get? c=some o)->Q none {s with heap:=h'}):wpAny (model prog w) A (pyNext<|.ref<|n+5) Q E s:=by
 have hT:s.TypeIs (.ref<|n+5) "zip":=⟨_,st.1,rfl⟩;unfold pyNext;refine wpAny_bind<|wpAny_attempt<|wpAny_callSpecial?_slot (name:=Str.ofString "__next__") hT F.slot_zip_next<|wpAny_call_entry F.slot_zip_next hT F.entry_zip_next (O3 hh d1 st k1 vY fun h' e hk ⟨o,ho,hc⟩=>?_)<|F.args_zip_next_1 _;exact wpAny_bind<|wpAny_isInstance (T:="StopIteration") (b:=true) ⟨o,ho,hc⟩ isSubtype_stop<|wpAny_pure<|hQ _ hk
end
end
end Z3
namespace L2
open PySem PySem.Spec PyProof.Rows PySem.W
structure jO (K:Frag) (C:Addr):Prop where
 ne:findIn K (.ref C) "__ne__"=some (some<|.builtin "object.__ne__")
 eq:findIn K (.ref C) "__eq__"=some (some<|.builtin "object.__eq__")
 hm:mroIn K C (.type "object")=some true
section
variable {prog:Program}{w:World}{M:Model}{A:Around}{E:Value->Shared->Prop}{s:Shared}{K:Frag}{x C:Addr}{ox:Obj}{od:Option Obj}
theorem DA{name:Str}{id:String}{args:List Value}{Q:Option Value->Shared->Prop}(X:K.In s.heap)(I:InstAt s.heap x ox C od)(hs:findIn K (.ref C) name=some (some<|.builtin id))(hb:∀self,bindSpecial (.builtin id) self=pure (.builtin id,[self]))
  (h:wpAny M A (call (.builtin id) (.ref x::args)) (fun v=>Q<|some v) E s):wpAny M A (callSpecialIfBound? (.ref x) name args) Q E s:=by
 simp only[callSpecialIfBound?,bindSpecialIfBound?]
 refine wpAny_holding<|wpAny_bind<|wpAny_bind<|wpAny_bind<|I.type.here<|(looks_findIn X hs).here<|wpAny_bind<|wpAny_askSetting<|wpAny_ite ?_;have fin:wpAny M A (call (.builtin id) ([.ref x]++args) >>=fun v=>pure (some v)) Q E s:=wpAny_bind (wpAny_mono h (fun v s' q=>wpAny_pure q) fun _ _ q=>q)
 simp only[hb]
 split
 ·exact wpAny_bind (wpAny_pure<|wpAny_pure fin)
 ·exact wpAny_tryCatch (wpAny_bind<|wpAny_pure<|wpAny_pure fin)
theorem O7{Q:Value->Shared->Prop}(X:K.In s.heap)(I:InstAt s.heap x ox C od)(c:jO K C)(q:Q (.bool true) s):wpAny (model prog w) A (call (.builtin "object.__eq__") [.ref x,.ref x]) Q E s:=
 wpAny_call (codeAny_call_builtin PySem.F.cmp_object.eq.plain PySem.F.cmpEntry_eq<|check_slot PySem.F.cmpKind_eq PySem.F.cmpSplit_eq (I.type.andThen<|looks_mroIn X c.hm) (PySem.F.cmpArgs_eq _ _)<|objEq_entry_same q)
theorem O8{Q:Value->Shared->Prop}(X:K.In s.heap)(I:InstAt s.heap x ox C od)(c:jO K C)(hu:A.units+1<cLine)(q:Q (.bool false) s):wpAny (model prog w) A (call (.builtin "object.__ne__") [.ref x,.ref x]) Q E s:=by
 refine wpAny_call<|codeAny_call_builtin PySem.F.cmp_object.ne.plain PySem.F.cmpEntry_ne<|check_slot PySem.F.cmpKind_ne PySem.F.cmpSplit_ne (I.type.andThen<|looks_mroIn X c.hm) (PySem.F.cmpArgs_ne _ _) ?_;unfold Builtin.«object.__ne__»;have O9:A.in1.units<cLine:=hu;refine wpAny_bind (m:=slotArgs "__ne__" 1 _)<|wpAny_pure<|wpAny_bind (m:=cRoomFor _ _)<|wpAny_cRoomFor O9 ?_;refine wpAny_bind (m:=callSpecialIfBound? (.ref x) "__eq__" _)<|DA X I c.eq PySem.F.cmp_object.eq.bind<|O7 X I c ?_;exact wpAny_bind<|wpAny_truthy_bool<|wpAny_pure q
theorem O_{Q:Value->Shared->Prop}(X:K.In s.heap)(I:InstAt s.heap x ox C od)(c:jO K C)(hu:A.units+1<cLine)(q:Q (.bool false) s):wpAny (model prog w) A (compareOp .NotEq (.ref x)<|.ref x) Q E s:=by
 show wpAny (model prog w) A (richCompare .NotEq (.ref x)<|.ref x) Q E s;unfold richCompare
 simp only[oneThing_ref]
 refine wpAny_holding<|wpAny_bind<|wpAny_cRoomFor (Nat.lt_of_succ_lt hu)<|wpAny_bind<|I.type.here<|wpAny_bind<|I.type.here ?_;rw[if_neg (by simp)]
 refine wpAny_bind<|wpAny_pure ?_;refine wpAny_bind (m:=tryCompare (.ref x) "__ne__" (.ref x)) ?_;unfold tryCompare;exact wpAny_bind<|DA X I c.ne PySem.F.cmp_object.ne.bind<|O8 X I c hu<|wpAny_pure<|wpAny_pure q
end
def kZ(K:Frag):R2:=fun x y H Q=>∃a C dx fs,x=.ref a/\y=.ref a/\H a=some (.ins C dx fs)/\jO K C/\Q (.bl false) H
def Pa(K:Frag):List V->Hp->VK->Prop
 |[x,y]=>kZ K x y
 |_=>fun _ _=>False
def rB:Frag->TA->TE:=fun K ta σ H Q=>ta σ H fun vs H1=>Pa K vs H1 Q
theorem Pb{K:Frag}{x y:V}{Q:Bool->Hp->Prop}:kZ K x y H (fun v H1=>gh K v H1 fun b=>Q b H1)=kZ K x y H (fun v H1=>∃k,v=.bl k/\Q k H1):=by
 unfold kZ;refine propext ⟨fun⟨a,C,dx,fs,e1,e2,e3,c,q⟩=>⟨a,C,dx,fs,e1,e2,e3,c,false,rfl,q⟩,fun⟨a,C,dx,fs,e1,e2,e3,c,k,e,q⟩=>⟨a,C,dx,fs,e1,e2,e3,c,?_⟩⟩;cases e;exact q
section
variable {CX:bP}{S:bY}{Γ:bf}{X:Cx}{a b:PySem.Expr}{x:Str}{p q pos:Pos}{ra rb:RE}
theorem Pd(hu:X.A.units+64<cLine):a_ X (compareOp .NotEq) (kZ X.K):=by
 intro pins s σ H x y v u Q I rx ry h;obtain⟨a,C,dx,fs,rfl,rfl,e,c,q⟩:=h;cases (show v=Value.ref a from rx)
 cases (show u=Value.ref a from ry)
 obtain⟨mA,O,r,_,_,_⟩:=nJ I.aH e;obtain⟨od,J,_⟩:=O.look;exact O_ I.cb J c (by lia) ⟨.bl false,H,I,rfl,q⟩
theorem Pe(G:Good CX S Γ X)(ha:PE X a (aj Γ ra))(hb:PE X b (aj Γ rb))(hm:behindInMarks .NotEq b=false:=by kernel_rfl):PT X (.Compare a [.NotEq] [b] p) (bc Γ<|.xt rB [ra,rb]):=by
 have h:=zu (pos:=p) (Pd (X:=X) G.units) ha hb hm;rw[G.K] at h;intro pins s σ H Q I q;refine h pins s σ H Q I ?_;have q:aj Γ ra σ H fun x H1=>aj Γ rb σ H1 fun y H2=>kZ Γ.K x y H2 (fun v H3=>gh Γ.K v H3 fun b=>Q b H3):=q
 simp only[Pb] at q
 exact q
def v7(is:List Nat)(T:bf->TI)(body:List RS):bf->TS:=fun Γ=>mw (T Γ) (gj Γ.K is.length<|fP is) (aB Γ body)
theorem Pf{is:List Nat}{T:bf->TI}{t:List RS}{iter:PySem.Expr}{as:List Stmt}{kt}{tp:Pos}(xs:List (Str×Pos))(G:eo CX S Γ X)(hi:PI X (.Tuple (xs.map fun y=>.Name y.1 y.2) kt tp) iter (T Γ))(ha:c_ X as (aB Γ t))(h:jJ S.N S.sc is (xs.map (·.1))=true:=by kernel_rfl)(hs:mE iter=true:=by kernel_rfl)(hq:S.md=0:=by rfl):
  PS X (.For (.Tuple (xs.map fun y=>.Name y.1 y.2) kt tp) iter as [] q) (bZ Γ<|.xs<|v7 is T t):=by
 obtain⟨i1,i2,i3⟩:=qY G is xs h;show PS X _ (mw (T Γ) (gj Γ.K is.length<|fP is)<|aB Γ t);rw[<-G.K];exact tW G.own (G.calm hq) hi (vz (G.calm hq) i1 i2 i3) ha<|oA hs
end
end L2
namespace L2
open PySem PySem.Spec PyProof.Rows
section
variable {CX:bP}{S:bY}{Γ:bf}{X:Cx}{e a b c v:PySem.Expr}{es:List PySem.Expr}{x y:Str}{p q pos:Pos}{r ra rb rc:RE}{i j:Nat}
theorem Ph{ts vs:List PySem.Expr}{k k2:Nat}{p p2:Pos}{env:Env}(h:vs.all (foldedForSure 8)=true):swappedStores [.Tuple ts k p] (.Tuple vs k2 p2) env=pure none:=by
 unfold swappedStores
 simp only[h,if_true]
 repeat' split
 all_goals rfl
theorem Pj{is:List Nat}{kt k2:Nat}{tp p2:Pos}{vs:List PySem.Expr}(xs:List (Str×Pos))(G:eo CX S Γ X)(he:PE X (.Tuple vs k2 p2) (aj Γ r))(h:jJ S.N S.sc is (xs.map (·.1))=true:=by kernel_rfl)(hc:vs.all (foldedForSure 8)=true:=by kernel_rfl)(hq:S.md=0:=by rfl):
  PS X (.Assign [.Tuple (xs.map fun y=>.Name y.1 y.2) kt tp] (.Tuple vs k2 p2) q) (bZ Γ<|.qD is r):=by
 obtain⟨i1,i2,i3⟩:=qY G is xs h;show PS X _ (jr (aj Γ r)<|gj Γ.K is.length<|fP is);rw[<-G.K];exact zd he (vz (G.calm hq) i1 i2 i3) (by show swapsWith (.Tuple vs k2 p2) (some<|.Tuple (xs.map fun y=>PySem.Expr.Name y.1 y.2) kt tp) q.line X.env=pure false;exact qX rfl) (Ph hc) rfl
def par(i j:Nat)(ra rb:RE):bf->TS:=fun Γ=>ze i j (aW Γ [ra,rb])
theorem Pk{k k2:Nat}{p p2 px py:Pos}{env:Env}(hk:env.blockKind=.function)(hx:env.kindOf x=some .local)(hy:env.kindOf y=some .local)(hl:py.line=px.line)(Pl:x≠y)(ha:noStar a=true)(hb:noStar b=true)(hf:[a,b].all (foldedForSure 8)=false)(hc:[a,b].all (constantsAlone 8)=false):
  swappedStores [.Tuple [.Name x px,.Name y py] k p] (.Tuple [a,b] k2 p2) env=pure (some [x,y]):=by
 have Pm:((PySem.Expr.Name x px).pos.line)=px.line:=rfl;unfold swappedStores
 simp only[hk,hf,hc,zbg,List.filterMap_nil,hx,hy,List.head?_cons,zbb,Option.getD_some,Pm,hl]
 have e2:([x,y]:List Str).eraseDups=[x,y]:=by
  have:(y==x)=false:=by simpa using fun z=>Pl z.symm
  simp[List.eraseDups_cons,zbr,this]
 simp[e2]
 intro h;rcases h with h|h
 ·cases a<;>first|exact absurd h zaf|exact absurd ha zaf
 ·cases b<;>first|exact absurd h zaf|exact absurd hb zaf
def DB(S:bY)(i j:Nat)(x y:Str)(px py:Pos)(a b:PySem.Expr):Bool:=decide (S.N[i]?=some x) && decide (S.N[j]?=some y) && decide (i≠j) && decide (S.sc.names.lookup x=some .local) && decide (S.sc.names.lookup y=some .local) && decide ((if S.sc.kind.isAnnotationScope then ScopeKind.function else S.sc.kind)=.function) && decide (py.line=px.line) && decide (x≠y) && noStar a && noStar b && !([a,b].all (foldedForSure 8)) && !([a,b].all (constantsAlone 8))
theorem Pn{kt k2:Nat}{tp p2 px py:Pos}(G:eo CX S Γ X)(hA:PA X [a,b] (aW Γ [ra,rb]))(h:DB S i j x y px py a b=true:=by kernel_rfl)(hq:S.md=0:=by rfl):
  PS X (.Assign [.Tuple [.Name x px,.Name y py] kt tp] (.Tuple [a,b] k2 p2) q) (bZ Γ<|.xs<|par i j ra rb):=by
 simp only[DB,zaa,decide_eq_true_eq,zaL] at h
 obtain⟨⟨⟨⟨⟨⟨⟨⟨⟨⟨⟨h1,h2⟩,h3⟩,h4⟩,h5⟩,h6⟩,h7⟩,h8⟩,h9⟩,Po⟩,Pp⟩,Pq⟩:=h;have k6:X.env.blockKind=.function:=by unfold Env.blockKind;rw[G.sc];exact h6
 have k4:X.env.scope.names.lookup x=some .local:=by rw[G.sc];exact h4
 have k5:X.env.scope.names.lookup y=some .local:=by rw[G.sc];exact h5
 exact IE (G.calm hq) (by rw[G.N];exact G.nd) (by rw[G.N];exact h1) (by rw[G.N];exact h2) h3 k4 k5 hA<|Pk k6 k4 k5 h7 h8 h9 Po Pp Pq
end
end L2
namespace Z3
open PySem
abbrev li(l:Addr):Obj:={cls:=.type "list_iterator",data:=.fields #[.ref l,.int 0 0]}
abbrev g3(h:Heap)(a b c:Addr):Heap:=((h.push<|li a).push<|li b).push (li c)
abbrev g4(h:Heap)(a b c:Addr):Heap:=(g3 h a b c).push {cls:=.type "tuple",data:=.seq #[.ref h.objs.size,.ref (h.push<|li a).objs.size,.ref ((h.push<|li a).push<|li b).objs.size]}
abbrev g5(h:Heap)(a b c:Addr):Heap:=(g4 h a b c).push {cls:=.type "tuple",data:=.seq #[.none,.none,.none]}
abbrev g6(h:Heap)(a b c:Addr):Heap:=(g5 h a b c).push {cls:=.type "zip",data:=.fields #[.none,.bool false,.bool false,.ref (g3 h a b c).objs.size,.ref (g4 h a b c).objs.size]}
theorem Pr(a b c:Addr)(xs ys zs:Array Value):Meets (Builtin.«zip.__new__» ⟨[.type "zip",.ref a,.ref b,.ref c],[]⟩) (fun _ R s=>s.heap.IsList a xs/\s.heap.IsList b ys/\s.heap.IsList c zs/\R (.ok<|.ret<|.ref (g5 s.heap a b c).objs.size) {s with heap:=g6 s.heap a b c}):=
 .of_wp fun prog w A R s h=>by
  obtain⟨hp,g,d,tk,os⟩:=s;obtain⟨k1,k2,k3,h⟩:=h;have YF:=sub_zip;have L1:Heap.IsList (Shared.heap ⟨hp,g,d,tk,os⟩) a xs:=k1;have L2:Heap.IsList (Shared.heap ⟨hp.push<|li a,g,d,tk,os⟩) b ys:=Heap.IsList.push k2 _;have L3:Heap.IsList (Shared.heap ⟨(hp.push<|li a).push<|li b,g,d,tk,os⟩) c zs:=Heap.IsList.push (Heap.IsList.push k3 _) _
  wp_walk using wpAny_pyIter_list L1,wpAny_pyIter_list L2,wpAny_pyIter_list L3
  exact⟨_,rfl,h⟩
theorem Pu(a b c:Value):checkTypeCall "zip" ⟨[a,b,c],[]⟩=pure ():=by kernel_rfl
theorem Pw(a b c:Value):checkBuiltinCall "zip.__new__" ⟨[.type "zip",a,b,c],[]⟩=pure ():=by kernel_rfl
theorem Px(a b c d:Value):argsOk "object.__init__" ⟨[a,b,c,d],[]⟩:=by
 unfold argsOk;rw[signature?_of (id:="object.__init__") (n:=['_','_','t','i','n','i','_','_']) (o:=['t','c','e','j','b','o']) (by kernel_rfl) F.owner_object];kernel_rfl
section
variable {prog:Program}{w:World}{A:Around}{E:Value->Shared->Prop}{s:Shared}
theorem Py{a b:Addr}{xs ys zs:Array Value}{Q:Value->Shared->Prop}(k1:s.heap.IsList a xs)(k2:s.heap.IsList b ys)(k3:s.heap.IsList c zs)
  (h:∀h',ZS h' s.heap.objs.size a b c 0 .none->(∀b o,s.heap.get? b=some o->h'.get? b=some o)->Q (.ref<|s.heap.objs.size+5) {s with heap:=h'}):wpAny (model prog w) A (call (.type "zip") [.ref a,.ref b,.ref c]) Q E s:=by
 refine callType_new F.called_zip (by decide) (Pu _ _ _) (Pw _ _ _) (fun obj=>Px obj _ _ _) F.entry_zip_new (Pr a b c xs ys zs) ⟨k1,k2,k3,?_⟩
 have z1:(s.heap.push<|li a).objs.size=s.heap.objs.size+1:=Heap.size_push ..;have z2:((s.heap.push<|li a).push<|li b).objs.size=s.heap.objs.size+2:=by rw[Heap.size_push,z1]
 have z3:(g3 s.heap a b c).objs.size=s.heap.objs.size+3:=by rw[Heap.size_push,z2]
 have z4:(g4 s.heap a b c).objs.size=s.heap.objs.size+4:=by rw[Heap.size_push,z3]
 have z5:(g5 s.heap a b c).objs.size=s.heap.objs.size+5:=by rw[Heap.size_push,z4]
 have up:∀{h:Heap}{x y o},h.get? x=some o->(h.push y).get? x=some o:=fun e=>Heap.get?_push_of_some _ e;have q6:(g6 s.heap a b c).get? (g5 s.heap a b c).objs.size=some _:=Heap.get?_push_size _ rfl;have q5:(g6 s.heap a b c).get? (g4 s.heap a b c).objs.size=some _:=up (Heap.get?_push_size _ rfl);have q4:(g6 s.heap a b c).get? (g3 s.heap a b c).objs.size=some _:=up (up<|Heap.get?_push_size _ rfl);have q3:(g6 s.heap a b c).get? ((s.heap.push<|li a).push<|li b).objs.size=some _:=up (up<|up<|Heap.get?_push_size _ rfl);have q2:(g6 s.heap a b c).get? (s.heap.push<|li a).objs.size=some _:=up (up<|up<|up<|Heap.get?_push_size _ rfl);have q1:(g6 s.heap a b c).get? s.heap.objs.size=some _:=up (up<|up<|up<|up<|Heap.get?_push_size _ rfl);show _/\_;rw[z3,z4,z5] at q6;rw[z1,z2,z3] at q4;rw[z4] at q5;rw[z2] at q3;rw[z1] at q2;rw[z5];exact⟨⟨_,q6,rfl⟩,h _ ⟨q6,q4,⟨_,_,_,q5⟩,⟨_,q1,rfl,rfl⟩,⟨_,q2,rfl,rfl⟩,⟨_,q3,rfl,rfl⟩⟩ fun b o x=>up (up<|up<|up<|up<|up x)⟩
end
end Z3
namespace L2
open PySem PySem.Spec PyProof.Rows
def jP(K:Frag)(a b c:Addr):It:=
  ⟨fun i H=>∃xs ys zs,ay K H a xs/\ay K H b ys/\ay K H c zs/\i<xs.length/\i<ys.length/\i<zs.length,
   fun i H x H'=>∃T,H T=none/\x=.ref T/\∀xs ys zs u v w,ay K H a xs->ay K H b ys->ay K H c zs->xs[i]?=some u->ys[i]?=some v->zs[i]?=some w->H'=upd H T (.tup [u,v,w]),
   fun i H=>∃xs,ay K H a xs/\i=xs.length⟩
def oM(K:Frag)(ta:TA):TI:=fun σ H R=>ta σ H fun vs H1=>∃a b c,vs=[.ref a,.ref b,.ref c]/\(∃xs,ay K H1 a xs)/\(∃ys,ay K H1 b ys)/\(∃zs,ay K H1 c zs)/\R (jP K a b c) H1
theorem v8{b:Nat}(h:b∉ [n,n+1,n+2,n+3,n+4,n+5]):Z3.mO n b:=by
 simp only[zad,zah,or_false,not_or] at h
 exact⟨h.1,h.2.1,h.2.2.1,h.2.2.2.2.1,h.2.2.2.2.2⟩
theorem Pz{P:Program}{w:World}{K:Frag}{elts:List PySem.Expr}{k:Nat}{pos:Pos}{l1 l2 l3:Nat}(d1:l1<n)(d2:l2<n)(d3:l3<n):
  Turn P w K (.Tuple elts k pos) (jP K l1 l2 l3) [n,n+1,n+2,n+3,n+4,n+5] (n+5) (fun i h=>Z3.ZS h n l1 l2 l3 i .none) where
 mem:=by simp
 obj:=fun i h st b hb=>by
  obtain⟨hz,hI,⟨a,b',c,hO⟩,⟨o1,e1,c1,u1⟩,⟨o2,e2,c2,u2⟩,⟨o3,e3,c3,u3⟩⟩:=st
  simp only[zad,zah,or_false] at hb
  rcases hb with rfl|rfl|rfl|rfl|rfl|rfl
  ·exact⟨_,e1,fun v q=>by rw[u1] at q;cases q⟩
  ·exact⟨_,e2,fun v q=>by rw[u2] at q;cases q⟩
  ·exact⟨_,e3,fun v q=>by rw[u3] at q;cases q⟩
  ·exact⟨_,hI,fun v q=>by cases q⟩
  ·exact⟨_,hO,fun v q=>by cases q⟩
  ·exact⟨_,hz,fun v q=>by cases q⟩
 keep:=fun i h h' st hk=>by
  obtain⟨hz,hI,⟨a,b',c,hO⟩,h1,h2,h3⟩:=st;exact⟨hk _ (by simp) _ hz,hk _ (by simp) _ hI,⟨a,b',c,hk _ (by simp) _ hO⟩,h1.at fun o e=>hk _ (by simp) o e,h2.at fun o e=>hk _ (by simp) o e,h3.at fun o e=>hk _ (by simp) o e⟩
 item:=by
  intro X hP hw hK hc i pins s σ H E I hf st hg;subst hP hw hK;obtain⟨xs,ys,zs,hx,hy,oC,Bi,DC,PB⟩:=hg;obtain⟨iB,r1,p1,z1⟩:=I.list hx;obtain⟨iq,r2,p2,z2⟩:=I.list hy;obtain⟨PC,r3,p3,z3⟩:=I.list oC;have gt:∀{xs:List V}{its:List Value},Vals xs its->i<xs.length->∃a u,xs[i]?=some a/\its.toArray[i]?=some u/\RelV a u:=fun {xs its} r hi=>by
   obtain⟨u,e,q⟩:=r.get (i:=i) (x:=xs[i]) (by simp[hi])
   exact⟨_,u,by simp[hi],by simpa using e,q⟩
  obtain⟨a,u,u_,eu,ra⟩:=gt r1 Bi;obtain⟨b,v,PD,ev,rb⟩:=gt r2 DC;obtain⟨c,w',PF,ew,rc⟩:=gt r3 PB;refine Z3.O5 d1 d2 d3 st p1.isList p2.isList p3.isList eu ev ew fun h' fL PH hk=>?_;refine⟨.ref s.heap.objs.size,rfl,?_⟩;obtain⟨hz,hI,hO,j1,j2,j3⟩:=fL;refine wpAny_letOwnedTupleGo_zip hz fun jb PJ hs=>?_;have kk:∀(b:Nat) o,b∉ [n,n+1,n+2,n+3,n+4,n+5]->s.heap.get? b=some o->jb.get? b=some o:=fun b o hb e=>hs.extBut _ _ (v8 hb).2.2.2.2 (hk b o (v8 hb) e);have I1:Inv X pins σ H {s with heap:=jb}:=by
   refine I.step (g':=s.gens) (d':=s.drawn) (t':=s.toks) (ch:=[n,n+1,n+2,n+3,n+4,n+5]) (fun b hb=>?_) (fun b o _ _ hc e _=>kk b o hc e) (fun b o _ _ hc e _=>⟨o.slots,kk b o hc e⟩) (fun _ _ _ _ n=>n)
    (fun b o hc e=>⟨o,kk b o hc e⟩) (fun _ _ e=>e) (fun _ _ _ e=>e) (fun b ps e=>⟨#[],by rw[e];simp⟩) (fun m hm=>?_) (fun b o e=>?_) I.bare
   ·obtain⟨f0,f1,f2,f3,f4,f5⟩:=hf b hb;exact⟨f3,f1,f4,f5⟩
   ·obtain⟨o,es,ep,ho,r⟩:=hm;exact⟨o,es,ep,kk _ o (fun hb=>(hf _ hb).2.1 rfl) ho,r⟩
   ·have nb:∀c o',H c=some o'->c∉ [n,n+1,n+2,n+3,n+4,n+5]:=fun c o' e hb=>by
     rw[(hf c hb).1] at e;cases e
    refine(I.aH b o e).gL (fun c q cm e'=>kk c q ?_ e') (fun _ q=>q) fun _ _ q=>q;rcases cm with rfl|cm
    ·exact nb _ _ e
    ·exact nb _ _ cm
  have fT:H s.heap.objs.size=none:=I.aH.fresh (zqR _);have lz: @LT.lt Nat _ (n+5) s.heap.objs.size:=by
   obtain⟨PK,_⟩:=st;exact Heap.lt_size PK
  have tT:jb.IsTuple s.heap.objs.size #[u,v,w']:=⟨_,hs.extBut _ _ (zaF lz) PH,rfl,_,rfl⟩;have I2:Inv X pins σ (upd H s.heap.objs.size<|.tup [a,b,c]) {s with heap:=jb}:=by
   refine Inv.uC I1 fT I.sz (zaF I.lt) (fun x c e q=>?_) (fun p hp q=>?_) ⟨by show 3<=sizeLine;decide,[u,v,w'],.cons ra<|.cons rb<|.cons rc .nil,tT⟩
   ·obtain⟨v',q'⟩:=I.cell x c e;have:=q'.lt;rw[q] at this;exact absurd this<|zax _
   ·have:=Heap.lt_size (I.pin p hp).1;rw[q] at this;exact absurd this<|zax _
  refine⟨.ref s.heap.objs.size,_,I2,rfl,⟨_,fT,rfl,fun qI dO YG a' b' c' dD ux oC ea eb ec=>?_⟩,?_,fun c cm=>?_⟩
  ·rw[I.nH dD hx,u_] at ea;rw[I.nH ux hy,PD] at eb;rw[I.nH oC ‹ay _ _ l3 zs›,PF] at ec;cases ea;cases eb;cases ec;rfl
  ·have ne:∀{q:Nat},q≠n+5-> @Ne Addr q (n+5):=fun h=>h;exact⟨PJ,hs.extBut _ _ (ne (by lia)) hI,hO.imp fun a h=>h.imp fun b h=>h.imp fun c h=>hs.extBut _ _ (ne (by lia)) h,j1.extBut hs.extBut<|ne (by lia),j2.extBut hs.extBut<|ne (by lia),j3.extBut hs.extBut<|ne (by lia)⟩
  ·have n0:=(hf c cm).1;have:c≠s.heap.objs.size:=fun q=>by
    have nQ:c<=n+5:=by
     simp only[zad,zah,or_false] at cm
     rcases cm with rfl|rfl|rfl|rfl|rfl|rfl<;>(show @LE.le Nat _ _ _;lia)
    rw[q] at nQ;exact absurd (zaq lz nQ)<|zax _
   rw[aI this];exact n0
 done:=by
  intro X hP hw hK hc i pins s σ H E I hf st hg;subst hP hw hK;obtain⟨xs,hx,rfl⟩:=hg;obtain⟨iB,r1,p1,z1⟩:=I.list hx;have uZ:=r1.length;refine Z3.O6 (I.ok.hd hc) d1 st p1.isList (by simp[uZ]) fun h' hk=>⟨rfl,?_⟩
  have kk:∀(b:Nat) o,b∉ [n,n+1,n+2,n+3,n+4,n+5]->s.heap.get? b=some o->h'.get? b=some o:=fun b o hb e=>hk b o (v8 hb) e;refine I.step (g':=s.gens) (d':=s.drawn) (t':=s.toks) (ch:=[n,n+1,n+2,n+3,n+4,n+5]) (fun b hb=>?_) (fun b o _ _ hc e _=>kk b o hc e) (fun b o _ _ hc e _=>⟨o.slots,kk b o hc e⟩) (fun _ _ _ _ n=>n)
   (fun b o hc e=>⟨o,kk b o hc e⟩) (fun _ _ e=>e) (fun _ _ _ e=>e) (fun b ps e=>⟨#[],by rw[e];simp⟩) (fun m hm=>?_) (fun b o e=>?_) I.bare
  ·obtain⟨f0,f1,f2,f3,f4,f5⟩:=hf b hb;exact⟨f3,f1,f4,f5⟩
  ·obtain⟨o,es,ep,ho,r⟩:=hm;exact⟨o,es,ep,kk _ o (fun hb=>(hf _ hb).2.1 rfl) ho,r⟩
  ·have nb:∀c o',H c=some o'->c∉ [n,n+1,n+2,n+3,n+4,n+5]:=fun c o' e hb=>by
    rw[(hf c hb).1] at e;cases e
   refine(I.aH b o e).gL (fun c q cm e'=>kk c q ?_ e') (fun _ q=>q) fun _ _ q=>q;rcases cm with rfl|cm
   ·exact nb _ _ e
   ·exact nb _ _ cm
 self:=fun A i s Q E st hQ=>wpAny_pyIter_zip st.1 hQ
theorem PL{X:Cx}{elts:List PySem.Expr}{k:Nat}{qe:Pos}{a b c:PySem.Expr}{ta:TA}{p pos:Pos}(hg:Gl X "zip")(hm:X.mg "zip"=none)(ha:PA X [a,b,c] ta)
  (hs:starEach [a,b,c] X.env=(false,eval a X.env)::starEach [b,c] X.env) (gO:(backTo pos<|starEach [b,c] X.env).any (·.1)=false):
  PI X (.Tuple elts k qe) (.Call (.Name "zip" p) [a,b,c] [] pos) (oM X.K ta):=by
 intro pins s σ H R I h;refine Call_<|mm I hg hm boot_zip<|PyProof.Rows.callWith_type1 (aR (ha pos pins s σ H _ I h) fun us s1 ⟨vs,H1,I1,r1,q1⟩=>?_) hs gO;obtain⟨l1,l2,l3,e,⟨xs,hx⟩,⟨ys,hy⟩,⟨zs,hz⟩,q⟩:=q1;subst e;obtain⟨u,v,w',rfl,ru,rv,gM⟩:∃u v w',us=[u,v,w']/\RelV (.ref l1) u/\RelV (.ref l2) v/\RelV (.ref l3) w':=by
  cases r1 with
  |cons p q=>cases q with
   |cons p' q'=>cases q' with
    |cons p2 q2=>cases q2;exact⟨_,_,_,rfl,p,p',p2⟩
 cases ru;cases rv;cases gM;obtain⟨iB,MI,p1,z1⟩:=I1.list hx;obtain⟨iq,YH,p2,z2⟩:=I1.list hy;obtain⟨PC,YI,p3,z3⟩:=I1.list hz;refine Z3.Py p1.isList p2.isList p3.isList fun h' a1 hk=>?_;refine wpAny_pyIter_zip a1.1 ?_;have Bk: @LT.lt Nat _ l1 s1.heap.objs.size:=by obtain⟨_,e,_⟩:=p1.isList;exact Heap.lt_size e
 have DD: @LT.lt Nat _ l2 s1.heap.objs.size:=by obtain⟨_,e,_⟩:=p2.isList;exact Heap.lt_size e
 have PM: @LT.lt Nat _ l3 s1.heap.objs.size:=by obtain⟨_,e,_⟩:=p3.isList;exact Heap.lt_size e
 have I2:Inv X pins σ H1 {s1 with heap:=h'}:=I1.kept (t':=s1.toks) hk
 refine⟨_,_,_,_,H1,rfl,I2,Pz Bk DD PM,a1,fun b' hb=>?_,q⟩;have hle:s1.heap.objs.size<=b':=by
  simp only[zad,zah,or_false] at hb
  rcases hb with rfl|rfl|rfl|rfl|rfl|rfl<;>first|exact zqR _|exact Nat.le_add_right _ _
 exact I1.nI (b:=b') (H':=H1) hle<|I1.aH.fresh hle
section
variable {CX:bP}{S:bY}{Γ:bf}{X:Cx}{a b c:PySem.Expr}{x:Str}{p q pos:Pos}{ra rb rc:RE}
theorem PN{ts:List PySem.Expr}{k}{tp:Pos}(G:Good CX S Γ X)(hA:PA X [a,b,c] (aW Γ [ra,rb,rc]))(h:kB S x "zip"=true:=by kernel_rfl)(hn:ef [a,b,c]=true:=by kernel_rfl):PI X (.Tuple ts k tp) (.Call (.Name x p) [a,b,c] [] pos) (oM Γ.K<|aW Γ [ra,rb,rc]):=by
 simp only[kB,zaa,decide_eq_true_eq] at h
 obtain⟨⟨rfl,h2⟩,h3⟩:=h;rw[<-G.K];exact PL (G.gl h2) (G.gU _ h3) hA (dt (de hn).1)<|gV _ _ _ (de hn).2
end
end L2
namespace L2.k7
open PySem PySem.Spec PyProof.Rows L2.B
def aZ(i:Nat):Stmt:=(PySem.Challenge.pw_inkloom_k17_whole_old_papers.main.body).getD i (.Pass ⟨0,0,0,0⟩)
def DE:Stmt:=aZ 8
abbrev cE(s:Stmt)(k:Nat):Stmt:=(dG s).getD k (.Pass ⟨0,0,0,0⟩)
abbrev cG(b:List RS)(k:Nat):RS:=b.getD k (.ret<|.c .az)
abbrev MX(N:List Str)(s:Stmt)(f g l mn kn en hn:List Str)(b:List RS)(md:Nat):Prop:= ∀{CX:bP}{Γ:bf}{X:Cx},eo CX (q_ N (dr s) f g l mn kn en hn md) Γ X->c_ X (dG s) (aB Γ b)
abbrev MY(N:List Str)(s:Stmt)(f g l mn kn en hn:List Str)(b:List RS)(md k:Nat):Prop:= ∀{CX:bP}{Γ:bf}{X:Cx},eo CX (q_ N (dr s) f g l mn kn en hn md) Γ X->PS X (cE s k) (bZ Γ<|cG b k)
theorem PQ:MX gY DE af af BM af af af af BL 0:=fun G=>have g:=G.toGood;(ah (aM<|gW (iG g<|aa g)<|iE<|vC g<|iG g<|aa g) ar)
def DF:Stmt:=aZ 9
theorem PR:MX B6 DF Oc af af af af af af B7 0:=fun G=>have g:=G.toGood;(ah (aM<|gW (aC g<|ae (aa g) ak)<|iE<|NN g (aa g) (aa g)<|aa g) ar)
def DG:Stmt:=aZ 10
theorem PU:MX vQ DG af af BN af af af af vR 0:=fun G=>have g:=G.toGood;(ah (aM<|gW (iG g<|aa g)<|iE<|fm g (aa g)<|aa g) ar)
def DH:Stmt:=aZ 11
theorem PV:MX gY DH af N3 BN af af af af vS 0:=fun G=>have g:=G.toGood;(ah (aM<|gW (iG g<|aa g)<|iE<|fm g (cq g (aa g)<|ae (BE g) ak) aQ) ar)
def DI:Stmt:=aZ 12
theorem PY:MX gY DI N4 af af af af N5 af BO 0:=fun G=>have g:=G.toGood;(ah (aY (dH<|fq g<|aC g<|ae (aa g) ak) (ah (gX G<|ae aQ ak) ar) ar) ar)
def DJ:Stmt:=aZ 14
theorem PZ:MX gY DJ N6 af N7 af af af af rg 0:=fun G=>have g:=G.toGood;(ah (aY (PW.pt<|cW (dH<|qU g<|iG g<|aa g)<|eS<|aP g (br g<|ae (aa g) ak) aq) (ah (aM iD) ar) ar)<|ah (aY (fq g<|aC g<|ae (av g (aa g) aq)<|ae (bG<|ae aQ ak) ak) (ah (aM<|gW (aC g<|ae (av g (aa g) aq) ak)<|iE<|fm g (av g (aa g) aq) aq) ar) ar)<|ah (aM<|gW (aC g<|ae (av g (aa g) aq)<|ae (bG<|ae aQ<|ae aQ ak) ak)<|gW (aC g<|ae (av g (aa g) aq) ak)<|iE<|fm g (av g (aa g) aq) aQ) ar)
def DK:Stmt:=aZ 15
theorem P7:MX BP DK af af af af af af af BQ 0:=fun G=>have g:=G.toGood;(ah (aM<|gW (fm g (aa g)<|aa g)<|iE<|vC g<|gW (fm g (aa g) aQ)<|iE<|fm g (aa g) aQ) ar)
def DL:Stmt:=aZ 16
theorem P8:MX BR DL N8 af N9 af af N_ af BS 0:=fun G=>have g:=G.toGood;(ah (aY (dH<|qU g<|iG g<|aa g) (ah (gX G<|ae aQ ak) ar) ar)<|ah (aD G aQ)<|ah (jK G (fz g<|aa g)<|ah (aY (dH<|fq g<|aC g<|ae (aa g) ak) (ah (gX G<|ae aQ ak) ar) ar)<|ah (aY (dH<|fq g<|aC g<|ae (av g (aa g) aq)<|ae (aa g) ak) (ah (gX G<|ae aQ ak) ar) ar)<|ah (aD G<|av g (aa g) aq) ar) ar)
def DM:Stmt:=aZ 17
theorem P9:MX BU DM af af jc af af af af BV 0:=fun G=>have g:=G.toGood;(ah (aM<|mJ (aP g (av g (aa g) aq) aQ) (av g (aa g) aq)<|br g<|ae (av g (aa g) aq) ak) ar)
def DN:Stmt:=aZ 18
theorem P_:MX BW DN Oa af Ob af af af af BX 0:=fun G=>have g:=G.toGood;(ah (cX<|aC g<|ae (aa g) ak)<|ah (aD G<|br g<|ae (kP (ln:=["part"]) g (by kernel_rfl) (fz g<|aa g) (oE fun _ g=>(aP g (av g (aa g) aq) aQ))<|fun _ g=>(aC g<|ae (aa g) ak)) ak)<|ah (aD G<|br g<|ae (kP (ln:=["part"]) g (by kernel_rfl) (fz g<|aa g) (oE fun _ g=>(aP g (av g (aa g) aq) aQ))<|fun _ g=>(aC g<|ae (aa g) ak)) ak)<|ah (aM<|bG<|ae (aa g)<|ae (aa g) ak) ar)
def DO:Stmt:=aZ 20
theorem Qa:MX mL DO af af af af af af af Cf 0:=fun G=>have g:=G.toGood;(ah (aM<|mJ (aP g (aa g) cz) aq<|av g (aa g) aq) ar)
def DP:Stmt:=aZ 21
theorem Qc:MX mL DP af af af af af af af Cg 0:=fun G=>have g:=G.toGood;(ah (aM<|mJ (aP g (aa g) cz) aq<|av g (aa g) aq) ar)
def DQ:Stmt:=aZ 22
theorem Qd:MX mL DQ af af af af af af af Ci 0:=fun G=>have g:=G.toGood;(ah (aM<|mJ (aP g (aa g) cz) aq<|av g (aa g) aq) ar)
def DR:Stmt:=aZ 23
theorem Qe:MX Cj DR Of af Og af af af af Ck 0:=fun G=>have g:=G.toGood;(ah (aD G<|ax g aq<|br g<|ae (aC g<|ae (aa g) ak)<|ae (aC g<|ae (aa g) ak) ak)<|ah (aD G<|ax g (ax g (aC g<|ae (aa g) ak)<|av g (aa g) aq)<|aC g<|ae (aa g) ak)<|ah (aM<|bG<|ae (aa g)<|ae (aa g)<|ae (aa g)<|ae (aa g)<|ae (aa g)<|ae (ax g (ax g (aC g<|ae (aa g) ak)<|av g (aa g) aq)<|aC g<|ae (aa g) ak) ak) ar)
def DS:Stmt:=aZ 24
theorem Qf:MX rm DS Cn af af af af af af Cm 0:=fun G=>have g:=G.toGood;(ah (aD G<|av g (aa g) aq)<|ah (aY (aP g (aC g<|ae (av g (aa g) aq) ak)<|aC g<|ae (aa g) ak) (ah (aM<|aC g<|ae (av g (aa g) aq)<|ae (av g (aa g) aq)<|ae (aC g<|ae (aa g)<|ae (aa g)<|ae (aa g) ak) ak) ar) ar)<|ah (aM<|aC g<|ae (aC g<|ae (av g (aa g) aq)<|ae (av g (aa g) aq)<|ae (av g (aa g) aq) ak)<|ae (av g (aa g) aq)<|ae (aC g<|ae (av g (aa g) aq)<|ae (aa g)<|ae (aa g) ak) ak) ar)
def DT:Stmt:=aZ 25
theorem Qg:MX rm DT Cn af af af af af af Co 0:=fun G=>have g:=G.toGood;(ah (aD G<|av g (aa g) aq)<|ah (aY (aP g (aC g<|ae (av g (aa g) aq) ak)<|aC g<|ae (aa g) ak) (ah (aM<|aC g<|ae (aC g<|ae (aa g)<|ae (aa g)<|ae (aa g) ak)<|ae (av g (aa g) aq)<|ae (av g (aa g) aq) ak) ar) ar)<|ah (aM<|aC g<|ae (aC g<|ae (aa g)<|ae (aa g)<|ae (av g (aa g) aq) ak)<|ae (av g (aa g) aq)<|ae (aC g<|ae (av g (aa g) aq)<|ae (av g (aa g) aq)<|ae (av g (aa g) aq) ak) ak) ar)
def DU:Stmt:=aZ 26
theorem Qh:MX oJ DU Oh af af af af af af Cp 0:=fun G=>have g:=G.toGood;(ah (aY (aP g (aC g<|ae (aa g) ak)<|ax g (aC g<|ae (aa g) ak) aq) (ah (aM<|aC g<|ae (aa g)<|ae (aa g)<|ae (aa g) ak) ar) ar)<|ah (aY (aP g (aC g<|ae (aa g) ak)<|ax g (aC g<|ae (aa g) ak) aq) (ah (aM<|aC g<|ae (aa g)<|ae (aa g)<|ae (aa g) ak) ar) ar)<|ah (aM<|aC g<|ae (aa g)<|ae (aa g)<|ae (aa g) ak) ar)
def DV:Stmt:=aZ 27
theorem Qi:MX oJ DV Oi af af af af af af Cq 0:=fun G=>have g:=G.toGood;(ah (aY (aP g (aC g<|ae (aa g) ak)<|ax g (aC g<|ae (aa g) ak) aq) (ah (aM<|aC g<|ae (av g (aa g) aq)<|ae (av g (aa g) aq)<|ae (aC g<|ae (av g (aa g) aq)<|ae (aa g)<|ae (aa g) ak) ak) ar) ar)<|ah (aY (aP g (aC g<|ae (aa g) ak)<|ax g (aC g<|ae (aa g) ak) aq) (ah (aM<|aC g<|ae (aC g<|ae (aa g)<|ae (aa g)<|ae (av g (aa g) aq) ak)<|ae (av g (aa g) aq)<|ae (av g (aa g) aq) ak) ar) ar)<|ah (aM<|aC g<|ae (aa g)<|ae (aa g)<|ae (aa g) ak) ar)
def DW:Stmt:=aZ 28
theorem Qj:MX mM DW Oj af af af af af af Cr 0:=fun G=>have g:=G.toGood;(ah (aY (aP g (av g (aa g) aq) cz) (ah (aM<|bG<|ae (av g (aa g) aq)<|ae (av g (aa g) aq) ak) ar) ar)<|ah (aD G<|aC g<|ae (av g (aa g) aq) ak)<|ah (aM<|bG<|ae (aC g<|ae (av g (aa g) aq)<|ae (av g (aa g) aq)<|ae (av g (aa g) aq) ak)<|ae (av g (aa g) aq) ak) ar)
def DX:Stmt:=aZ 29
theorem Qk:MX mM DX Ol af af af af af af Cs 0:=fun G=>have g:=G.toGood;(ah (aY (aP g (av g (aa g) aq) cz) (ah (aM<|bG<|ae (av g (aa g) aq)<|ae (av g (aa g) aq) ak) ar) ar)<|ah (aD G<|aC g<|ae (av g (aa g) aq) ak)<|ah (aM<|bG<|ae (av g (aa g) aq)<|ae (aC g<|ae (av g (aa g) aq)<|ae (av g (aa g) aq)<|ae (av g (aa g) aq) ak) ak) ar)
def DY:Stmt:=aZ 30
theorem Ql:MX Ct DY Om af af af af af af Cu 0:=fun G=>have g:=G.toGood;(ah (aY (aP g (aa g) cz) (ah (aM<|aa g) ar) ar)<|ah (aD G<|aC g<|ae (aa g) ak)<|ah (aD G<|aC g<|ae (aa g) ak)<|ah (aD G<|av g (aa g) aq)<|ah (aD G<|av g (aa g) aq)<|ah (aY (aP g (ax g (av g (aa g) aq)<|av g (aa g) aq)<|av g (aa g) aq) (ah (aM<|aC g<|ae (av g (aa g) aq)<|ae (bG<|ae (av g (aa g) aq)<|ae (ax g (av g (aa g) aq)<|av g (aa g) aq)<|ae (ax g (av g (aa g) aq)<|av g (aa g) aq) ak)<|ae (av g (aa g) aq) ak) ar) ar)<|ah (aM<|aC g<|ae (av g (aa g) aq)<|ae (aa g)<|ae (aa g) ak) ar)
def DZ:Stmt:=aZ 31
theorem Qm:MX Cv DZ af af af Cy af af af Cw 0:=fun G=>have g:=G.toGood;(ah (aD G<|ax g (av g (aa g) aq)<|aa g)<|ah (aD G<|ax g (cU g (aa g)<|ae (aa g) ak)<|cU g (aa g)<|ae (av g (aa g) aq) ak)<|ah (aM<|bG<|ae (bG<|ae (av g (aa g) aq)<|ae (aa g)<|ae (aa g) ak)<|ae (bG<|ae (aa g)<|ae (ax g (av g (aa g) aq)<|aa g)<|ae (ax g (av g (aa g) aq)<|aa g) ak) ak) ar)
def D0:Stmt:=aZ 32
theorem Qn:MX vV D0 Oo af af af af af af Cz 0:=fun G=>have g:=G.toGood;(ah (aY (aP g (aa g) cz) (ah (aM<|bG<|ae cz<|ae cz ak) ar) ar)<|ah (aD G<|av g (aa g) aq)<|ah (aD G<|aC g<|ae (av g (aa g) aq) ak)<|ah (aD G<|ax g (aa g)<|av g (aa g) aq)<|ah (aY (aP g (aa g)<|aa g) (ah (aD G<|aC g<|ae (av g (aa g) aq)<|ae (aa g)<|ae (aa g) ak)<|ah (aM<|bG<|ae (av g (aa g) aq)<|ae (aC g<|ae (av g (aa g) aq)<|ae (aa g)<|ae (av g (aa g) aq) ak) ak) ar) ar)<|ah (aY (aP g (aa g)<|aa g) (ah (aD G<|aC g<|ae (av g (aa g) aq)<|ae (ax g (aa g)<|aa g)<|ae (aa g) ak)<|ah (aM<|bG<|ae (aC g<|ae (av g (aa g) aq)<|ae (aa g)<|ae (av g (aa g) aq) ak)<|ae (av g (aa g) aq) ak) ar) ar)<|ah (aD G<|aC g<|ae (aa g)<|ae (ax g (aa g)<|aa g)<|ae (aa g) ak)<|ah (aM<|bG<|ae (aC g<|ae (av g (aa g) aq)<|ae (av g (aa g) aq)<|ae cz ak)<|ae (aC g<|ae cz<|ae (av g (aa g) aq)<|ae (av g (aa g) aq) ak) ak) ar)
def D1:Stmt:=aZ 33
theorem Qo:MX vW D1 CC af af af af af af CA 0:=fun G=>have g:=G.toGood;(ah (aY (aP g (aa g) cz) (ah (aM<|cM ak) ar) ar)<|ah (aD G<|aC g<|ae (av g (aa g) aq) ak)<|ah (cX<|cq g (aa g)<|ae (av g (aa g) aq) ak)<|ah (cX<|cq g (aa g)<|ae (aC g<|ae (av g (aa g) aq) ak) ak)<|ah (aM<|aa g) ar)
def D2:Stmt:=aZ 34
theorem Qp:MX Dg D2 OO af af Cy af af af Dh 0:=fun G=>have g:=G.toGood;(ah (aD G aq)<|ah (oF G (aP g (aa g) cz)<|ah (aD G<|av g (aa g) aq)<|ah (aD G<|aC g<|ae (av g (aa g) aq) ak)<|ah (aD G<|ax g (aa g)<|av g (aa g) aq)<|ah (aY (aP g (aa g)<|aa g) (ah (aD G<|av g (aa g) aq) ar)<|ah (aY (aP g (aa g)<|aa g) (ah (aD G<|ax g (cU g (aa g)<|ae (ax g (ax g (av g (aa g) aq)<|aa g)<|aa g) ak)<|cU g (aa g)<|ae (av g (aa g) aq) ak)<|ah (aM<|ax g (ax g (aa g)<|aC g<|ae (av g (aa g) aq) ak)<|aa g) ar)<|ah (aD G<|ax g (ax g (aa g)<|aC g<|ae (av g (aa g) aq) ak)<|av g (aa g) aq)<|ah (aD G<|ax g (aa g)<|aa g)<|ah (aD G<|av g (aa g) aq) ar) ar) ar)<|ah (aM<|aa g) ar)
def D3:Stmt:=aZ 35
theorem Qq:MX Di D3 OP af af OQ af af af Dj 0:=fun G=>have g:=G.toGood;(ah (aD G aq)<|ah (oF G (PW.pt<|cW (aP g (aa g)<|aC g<|ae (av g (aa g) aq) ak)<|eS<|aP g (aa g)<|ax g (aC g<|ae (av g (aa g) aq) ak)<|av g (av g (aa g) aq) aq)<|ah (aY (aP g (aa g)<|aC g<|ae (av g (aa g) aq) ak) (ah (aD G<|av g (aa g) aq) ar)<|ah (aD G<|ax g (ax g (aa g)<|aC g<|ae (av g (aa g) aq) ak)<|av g (av g (aa g) aq) aq)<|ah (aD G<|ax g (ax g (aa g)<|aC g<|ae (av g (aa g) aq) ak)<|av g (av g (aa g) aq) aq)<|ah (aD G<|av g (aa g) aq) ar) ar)<|ah (aD G<|av g (av g (aa g) aq) aq)<|ah (aD G<|cU g (aa g)<|ae (ax g (ax g (cU g (aa g)<|ae (aa g) ak)<|aa g)<|aC g<|ae (av g (aa g) aq) ak) ak)<|ah (aM<|ax g (ax g (ax g (aa g)<|aC g<|ae (av g (aa g) aq) ak)<|aa g)<|aa g) ar)
def D4:Stmt:=aZ 37
theorem Qr:MX B9 D4 af af jc af af af af B_ 0:=fun G=>have g:=G.toGood;(ah (aD G aq)<|ah (aD G<|br g<|ae (aa g) ak)<|ah (oF G (aP g (aa g)<|aa g)<|ah (aD G<|ax g (ax g (aa g)<|aa g) aq)<|ah (aY (aP g (av g (aa g)<|aa g)<|aa g) (ah (aD G<|ax g (aa g) aq) ar)<|ah (aD G<|aa g) ar) ar)<|ah (aM<|aa g) ar)
def D5:Stmt:=inClass (aZ 39) 0
theorem Qs:MX fA D5 af af af af af af af Ca 0:=fun G=>have g:=G.toGood;(ah (kQ G (aa g)<|cM ak)<|ah (kQ G (aa g)<|cM ak)<|ah (kQ G (aa g)<|cM ak)<|ah (kQ G (aa g) aq) ar)
def D6:Stmt:=inClass (aZ 39) 1
theorem Qt:MX vU D6 Od af jc af af af af Cb 0:=fun G=>have g:=G.toGood;(ah (cX<|aC g<|ae (aa g) ak)<|ah (aD G<|bA g<|aa g)<|ah (cX<|cq g (bA g<|aa g)<|ae (aa g) ak)<|ah (cX<|cq g (bA g<|aa g)<|ae (aa g) ak)<|ah (kQ G (aa g)<|ax g (aa g)<|br g<|ae (aa g) ak)<|ah (aD G<|cq g (aa g)<|ae aQ ak)<|ah (oF G (aP g (aa g) aq)<|ah (cX<|cq g (bA g<|aa g)<|ae (ax g (aa g)<|aa g) ak)<|ah (aD G<|cq g (aa g)<|ae aQ<|ae (ax g (aa g) aq) ak) ar)<|ah (aM<|aa g) ar)
def D7:Stmt:=inClass (aZ 39) 2
theorem Qu:MX Cc D7 Oe af jc af af oG af Cd 0:=fun G=>have g:=G.toGood;(ah (aY (PW.pt<|cW (dH<|fq g<|aC g<|ae (aa g)<|ae aq<|ae (bA g<|aa g) ak)<|eS<|dH<|fq g<|aC g<|ae (aa g)<|ae aq<|ae (ax g (bA g<|aa g)<|aa g) ak) (ah (gX G<|ae aQ ak) ar) ar)<|ah (aD G<|cM ak)<|ah (aD G<|ax g (aC g<|ae (bA g<|aa g)<|ae (aa g) ak) aq)<|ah (aD G<|ax g (aa g)<|aa g)<|ah (oF G (aP g (aa g)<|aa g)<|ah (aD G<|ax g (aa g)<|av g (bA g<|aa g)<|aa g)<|ah (aD G<|iH g (av g (bA g<|aa g)<|aa g) (fo<|aa g)<|fo<|ax g (ax g (aa g)<|aa g)<|aa g)<|ah (cX<|cq g (aa g)<|ae (aa g) ak)<|ah (aD G<|ax g (aa g)<|br g<|ae (aa g) ak)<|ah (aD G<|ax g (aa g) aq) ar)<|ah (aM<|cq g aQ<|ae (aa g) ak) ar)
def D8:Stmt:=inClass (aZ 39) 3
theorem Qw:MX fA D8 af af af af af af af Ce 0:=fun G=>have g:=G.toGood;(ah (aM<|bA g<|aa g) ar)
def D9:Stmt:=inClass (aZ 39) 4
theorem Qx:MX CD D9 Oq af af af af af af CG 0:=fun G=>have g:=G.toGood;(ah (aM<|aC g<|ae (bA g<|aa g)<|ae (ax g (aa g) aq) ak) ar)
def D_:Stmt:=inClass (aZ 39) 5
theorem Qy:MX Dk D_ af af af af af af af Dl 0:=fun G=>have g:=G.toGood;(ah (aM<|av g (bA g<|aa g)<|aa g) ar)
def Ea:Stmt:=aZ 41
theorem Qz:MX CH Ea Ot af jc Ou af af af CI 0:=fun G=>have g:=G.toGood;(ah (aY (aP g (aa g) aQ) (ah (aM cz) ar) ar)<|ah (aM<|aC g<|ae cz<|ae (bG<|ae (cU g (aa g)<|ae (aa g) ak)<|ae (br g<|ae (aa g) ak)<|ae (cq g (aa g)<|ae aQ ak) ak)<|ae cz ak) ar)
def Eb:Stmt:=aZ 42
theorem QC:MX CJ Eb Ov af af af Ow af af CK 0:=fun G=>have g:=G.toGood;(ah (cX<|aC g<|ae (aa g) ak)<|ah (aD G<|NO g)<|ah (aM<|BF g<|ae (aa g)<|ae (aC g<|ae (aa g)<|ae (aa g) ak) ak) ar)
def Ec:Stmt:=aZ 43
theorem QD:MX CL Ec Ox af jc Oy af Oz af CM 0:=fun G=>have g:=G.toGood;(ah (aY (aP g (av g (aC g<|ae (aa g) ak) aq)<|fQ g<|aa g) (ah (gX G<|ae aQ ak) ar) ar)<|ah (aD G aq)<|ah (jK G (fz g<|aa g)<|ah (aY (PW.pt<|qT (aP g (av g (aa g) aq) aQ)<|vF<|aP g (cU g (aa g)<|ae (aa g)<|ae (ax g (aa g)<|br g<|ae (av g (aa g) aq) ak) ak)<|av g (aa g) aq) (ah (gX G<|ae aQ ak) ar) ar)<|ah (aY (aP g (av g (aa g) aq) aQ) (ah (aD G<|ax g (aa g)<|aC g<|ae (aa g) ak) ar) ar) ar) ar)
def Ed:Stmt:=aZ 44
theorem QE:MX CO Ed CC af af OA af af af CQ 0:=fun G=>have g:=G.toGood;(ah (aM<|kP (ln:=["piece"]) g (by kernel_rfl) (fz g<|aC g<|ae (aa g) ak) vE<|fun _ g=>(cU g (aa g)<|ae (av g (aa g) aq)<|ae (av g (aa g) aq) ak)) ar)
def Ee:Stmt:=inClass (aZ 45) 0
theorem QF:MX CS Ee af af af af af af af CU 0:=fun G=>have g:=G.toGood;(ah (kQ G (aa g)<|aa g)<|ah (kQ G (aa g)<|aa g) ar)
def Ef:Stmt:=inClass (aZ 45) 1
theorem QG:MX fA Ef OB af af af af af af CV 0:=fun G=>have g:=G.toGood;(ah (aM<|aC g<|ae (bA g<|aa g) ak) ar)
def Eg:Stmt:=inClass (aZ 45) 2
theorem QH:MX fA Eg OD af af af af af af CW 0:=fun G=>have g:=G.toGood;(ah (aM<|ax g (aC g<|ae (bA g<|aa g) ak) aq) ar)
def Eh:Stmt:=inClass (aZ 45) 3
theorem QI:MX fA Eh CZ af af af af af af CY 0:=fun G=>have g:=G.toGood;(ah (aM<|cq g aQ<|ae (aC g<|ae (bA g<|aa g)<|ae (bA g<|aa g) ak) ak) ar)
def Ei:Stmt:=inClass (aZ 45) 4
theorem QJ:MX fA Ei CZ af af af af af af C0 0:=fun G=>have g:=G.toGood;(ah (aM<|aC g<|ae (bA g<|aa g)<|ae (bA g<|aa g) ak) ar)
def Ej:Stmt:=inClass (aZ 45) 5
theorem QK:MX fA Ej OE af af af af af af C1 0:=fun G=>have g:=G.toGood;(ah (aM<|aC g<|ae (bA g<|aa g) ak) ar)
def Ek:Stmt:=inClass (aZ 45) 6
theorem QL:MX C2 Ek OF af af OG af oG af C3 0:=fun G=>have g:=G.toGood;(ah (aY (PW.pt<|cW (dH<|fq g<|aC g<|ae (aa g)<|ae aq<|ae (fQ g<|aa g) ak)<|eS<|dH<|fq g<|aC g<|ae (aa g)<|ae (aa g)<|ae (fQ g<|aa g) ak) (ah (gX G<|ae aQ ak) ar) ar)<|ah (aD G<|av g (aC g<|ae (bA g<|aa g)<|ae (aa g)<|ae (bA g<|aa g) ak) aq)<|ah (aM<|cq g aQ<|ae (aC g<|ae (bA g<|aa g)<|ae (av g (aC g<|ae (aa g)<|ae (aa g)<|ae (bA g<|aa g) ak) aq) ak) ak) ar)
def El:Stmt:=inClass (aZ 45) 7
theorem QM:MX C4 El OH af af af iJ af af C5 0:=fun G=>have g:=G.toGood;(ah (cX<|aC g<|ae (aa g)<|ae (aa g) ak)<|ah (aD G cz)<|ah (aD G<|bA g<|aa g)<|ah (jK G (fz g<|aa g)<|ah (aY (aP g (av g (aa g) aq) aQ) (ah (aD G<|aC g<|ae (aa g)<|ae (aC g<|ae (bA g<|aa g)<|ae (av g (aa g) aq) ak) ak)<|ah NZ ar) ar)<|ah (aD G<|aC g<|ae (aa g)<|ae (aC g<|ae (aa g) ak)<|ae (bA g<|aa g) ak)<|ah (aD G<|av g (aa g) aq)<|ah (aY (aP g (av g (aa g) aq) aQ) (ah (aD G<|aC g<|ae (aa g)<|ae (av g (aa g) aq) ak) ar) ar) ar)<|ah (aM<|BF g<|ae (bA g<|aa g)<|ae (aa g) ak) ar)
def Em:Stmt:=inClass (aZ 45) 8
theorem QN:MX Dm Em OR af af af af af af Dp 0:=fun G=>have g:=G.toGood;(ah (aM<|mJ (aP g (aa g) aq) aq<|ax g (aC g<|ae (bA g<|aa g)<|ae (ax g (aa g) aq)<|ae (bA g<|aa g) ak) aq) ar)
def En:Stmt:=inClass (aZ 45) 9
theorem QO:MX Dq En OS af af OT af oG af Dr 0:=fun G=>have g:=G.toGood;(ah (aY (dH<|fq g<|aC g<|ae (aa g)<|ae aq<|ae (ax g (fQ g<|aa g) aq) ak) (ah (gX G<|ae aQ ak) ar) ar)<|ah (aD G<|fm g (aa g)<|ax g (fQ g<|aa g) aq)<|ah (aD G<|mJ (NQ g<|aa g) (fQ g<|aa g)<|aC g<|ae (bA g<|aa g)<|ae (aa g)<|ae (bA g<|aa g) ak)<|ah (aM<|ax g (aa g)<|cU g (aa g)<|ae (aa g) ak) ar)
def Eo:Stmt:=inClass (aZ 45) 10
theorem QP:MX Ds Eo OU af af OV af oG af Dt 0:=fun G=>have g:=G.toGood;(ah (aY (dH<|fq g<|aC g<|ae (aa g)<|ae aq<|ae (fQ g<|aa g) ak) (ah (gX G<|ae aQ ak) ar) ar)<|ah (aD G<|aC g<|ae (bA g<|aa g)<|ae (aa g)<|ae (bA g<|aa g) ak)<|ah (aM<|bG<|ae (aa g)<|ae (ax g (aa g)<|cU g (aa g)<|ae (aa g) ak) ak) ar)
def Ep:Stmt:=inClass (aZ 45) 11
theorem QR:MX Du Ep OW af af OX af oG af Dv 0:=fun G=>have g:=G.toGood;(ah (aY (dH<|fq g<|aC g<|ae (aa g)<|ae aq<|ae (cU g (aa g)<|ae (aa g) ak) ak) (ah (gX G<|ae aQ ak) ar) ar)<|ah (aM<|ax g (cU g (aa g)<|ae (aa g) ak)<|aa g) ar)
def Er:Stmt:=aZ 47
theorem QS:MX BY Er af af jc af af af af BZ 0:=fun G=>have g:=G.toGood;(ah (aY (aP g (aa g)<|br g<|ae (aa g) ak) (ah (aM<|av g (aa g)<|aa g) ar) ar)<|ah (aM aq) ar)
def vT:List Str:=["_law_found"]
def Es:Stmt:=aZ 48
theorem QU:MX vT Es af af BM af af af af B8 0:=fun G=>have g:=G.toGood;(ah (aM<|gW (iG g<|aa g)<|iE<|vC g<|iG g<|aa g) ar)
def Et:Stmt:=aZ 49
theorem QV:MX C6 Et af af af af af af af C7 0:=fun G=>have g:=G.toGood;(ah (aD G<|ax g (ax g (ax g (ax g (aa g) aq)<|ax g aq<|aa g) aq) aq)<|ah (aM<|ax g (ax g (ax g (ax g (aa g)<|aa g) aq)<|aa g) aq) ar)
def Eu:Stmt:=aZ 50
theorem QW:MX C8 Eu OM af C_ af af af af C9 0:=fun G=>have g:=G.toGood;(ah (aD G aQ)<|ah (aD G<|ax g (aa g) aQ)<|ah (aD G aQ)<|ah (jK G (qW g<|aa g)<|ah (aD G<|aC g<|ae (aa g)<|ae (aa g) ak)<|ah (aD G<|ax g (aa g)<|av g (cM<|ae aQ<|ae (av g aQ<|ax g (ax g (aa g) aq) aq)<|ae (av g (aa g)<|ax g (ax g (aa g) aq) aq)<|ae (av g (aa g)<|ax g (ax g (aa g) aq) aq) ak)<|ax g (aa g) aq) ar)<|ah (aM<|aa g) ar)
def Ew:Stmt:=aZ 51
theorem QX:MX Dc Ew af af ON af af af af Dd 0:=fun G=>have g:=G.toGood;(ah (aD G<|cM ak)<|ah (aD G aQ)<|ah (aD G aQ)<|ah (qZ [(_,_),(_,_)] G (fz g<|ax g (aa g)<|cM<|ae (bG<|ae aQ<|ae aq ak) ak)<|ah (aY (aP g (aa g) aQ) (ah (aD G<|ax g (aa g)<|aa g) ar)<|ah (aY (aP g (aa g) aQ) (ah (aD G<|ax g (aa g)<|aa g) ar)<|ah (aY (PW.pt<|cW (aP g (aa g) aQ)<|eS<|aP g (aa g) aq) (ah (aD G<|ax g (ax g (aa g)<|ax g (cM<|ae (bG<|ae aQ<|ae (aa g) ak) ak)<|br g<|ae (fm g (aa g) aQ) ak)<|ax g (cM<|ae (bG<|ae aQ<|ae (aa g) ak) ak)<|br g<|ae (fm g (aa g) aQ) ak)<|ah (aD G aQ)<|ah (aD G aQ)<|ah (aY (PW.pt<|qT (aP g (aa g) aQ)<|qT (aP g (aa g)<|cM ak)<|vF<|aP g (av g (av g (aa g)<|mI aq) aq) aQ) (ah (NY (bG<|ae aQ<|ae (ax g (av g (av g (aa g)<|mI aq) aq)<|aa g) ak) (aa g)<|mI aq) ar)<|ah (aY (aP g (aa g) aQ) (ah (cX<|cq g (aa g)<|ae (bG<|ae aQ<|ae (aa g) ak) ak) ar) ar) ar) ar) ar) ar) ar) ar)<|ah (aM<|aa g) ar)
def eV:Stmt:=aZ 52
theorem QY:MY jN eV kW af kY af af af af eT 0 0:=by
 intro CX Γ X G;have g:=G.toGood;show PS X (.Assign [.Name "_law_parts" _] _ _) (bZ Γ<|.asg 2 _)
 with_reducible exact(aD G<|cM ak)
theorem QZ:MY jN eV kW af kY af af af af eT 0 1:=by
 intro CX Γ X G;have g:=G.toGood;show PS X (.Assign [.Name "_law_at" _] _ _) (bZ Γ<|.asg 3 _)
 with_reducible exact(aD G aq)
theorem Q0:MY jN eV kW af kY af af af af eT 0 2:=fun G=>have g:=G.toGood;(jK G (qW g<|ax g aq<|ax g (aa g) aq)<|ah (aD G<|aC g<|ae (aa g)<|ae (ax g aq<|aa g) ak)<|ah (aY (aP g (ax g (aa g) aq) aq) (ah (cX<|cq g (aa g)<|ae (bG<|ae aQ<|ae (aC g<|ae (aa g)<|ae (ax g aq<|ax g (ax g (ax g (aa g) aq) aq)<|ax g aq<|ax g (ax g (aa g) aq) aq) ak) ak) ak) ar) ar)<|ah (aD G<|br g<|ae (ax g (br g<|ae (aa g) ak)<|aa g)<|ae (ax g (ax g (aa g) aq)<|ax g aq<|ax g (br g<|ae (aa g) ak) aq) ak)<|ah (aY (PW.pt<|qT (aP g (ax g (ax g (aa g) aq) aq) aq)<|vF<|aP g (aa g) aq) (ah (cX<|cq g (aa g)<|ae (bG<|ae aQ<|ae (iH g (aa g) (fo<|aa g)<|fo<|ax g (aa g)<|aa g) ak) ak) ar)<|ah (cX<|cq g (aa g)<|ae (bG<|ae aQ<|ae (aa g) ak) ak) ar)<|ah (aD G<|ax g (aa g)<|aa g) ar)
theorem Q2:MY jN eV kW af kY af af af af eT 0 3:=fun G=>have g:=G.toGood;(cX<|cq g (aa g)<|ae (bG<|ae aQ<|ae (ax g (br g<|ae (aa g) ak)<|aa g) ak) ak)
theorem Q3:MY jN eV kW af kY af af af af eT 0 4:=fun G=>have g:=G.toGood;(aY (aP g (ax g (ax g (aa g) aq) aq) aq) (ah (cX<|cq g (aa g)<|ae (bG<|ae aQ<|ae (aC g<|ae (aa g)<|ae (ax g aq<|ax g (ax g (aa g) aq) aq) ak) ak) ak) ar) ar)
theorem Q4:MY jN eV kW af kY af af af af eT 0 5:=by
 intro CX Γ X G;have g:=G.toGood;show PS X (.Return (some _) _) (bZ Γ<|.ret _)
 with_reducible exact(aM<|aC g<|ae (aa g) ak)
theorem Q5:MX jN eV kW af kY af af af af eT 0:=by
 intro CX Γ X G;have e:dG eV=[cE eV 0,cE eV 1,cE eV 2,cE eV 3,cE eV 4,cE eV 5]:=by kernel_rfl
 have e2:eT=[cG eT 0,cG eT 1,cG eT 2,cG eT 3,cG eT 4,cG eT 5]:=by kernel_rfl
 rw[e,e2]
 with_reducible exact ah (QY G) (ah (QZ G)<|ah (Q0 G)<|ah (Q2 G)<|ah (Q3 G)<|ah (Q4 G)<|ar)
def Ex:Stmt:=aZ 53
theorem Q6:MX De Ex af af jc af af af af Df 0:=fun G=>have g:=G.toGood;(ah (aD G aQ)<|ah (aD G aq)<|ah (qZ [(_,_),(_,_)] G (fz g<|aa g)<|ah (aY (aP g (aa g) aQ) (ah (aD G<|ax g (aa g)<|aa g) ar)<|ah (aY (aP g (aa g) aQ) (ah (aD G<|ax g (aa g)<|iH g (aa g) (fo<|aa g)<|fo<|ax g (aa g)<|aa g)<|ah (aD G<|ax g (aa g)<|aa g) ar)<|ah (aD G<|ax g (aa g)<|br g<|ae (aa g) ak) ar) ar) ar)<|ah (aM<|aa g) ar)
def gp:List Str:=["_law_node","_law_left","_law_right","_law_size","_law_due"]
noncomputable def cO:List RS:=
 [.ite (.cmp .Is (.v 0) (.c .az)) [.ret (.tup [(.c (.int 0)),(.c (.int 0)),(.c (.int 0))])] [],
 .ite (.or [(.not<|.d_ .tuple<|.v 0),(.cmp .NotEq (.blt .len [.v 0])<|.c<|.int 6),(.not<|.d_ .tuple<|.ix (.v 0)<|.c<|.int 1),(.cmp .NotEq (.blt .len [(.ix (.v 0)<|.c<|.int 1)])<|.c<|.int 3)]) [.ret<|.c .az] [],
 .asg 1 (.call 0 [(.ix (.v 0)<|.c<|.int 0)]),
 .asg 2 (.call 0 [(.ix (.v 0)<|.c<|.int 2)]),
 .ite (.or [(.cmp .Is (.v 1)<|.c .az),(.cmp .Is (.v 2)<|.c .az),(.cmp .Gt (.blt .abs [(.bin .Sub (.ix (.v 1)<|.c<|.int 0)<|.ix (.v 2)<|.c<|.int 0)])<|.c<|.int 1)]) [.ret<|.c .az] [],
 .asg 3 (.bin .Add (.bin .Add (.ix (.v 1)<|.c<|.int 1)<|.ix (.ix (.v 0)<|.c<|.int 1)<|.c<|.int 1)<|.ix (.v 2)<|.c<|.int 1),
 .asg 4 (.tup [(.bin .Add (.c<|.int 1)<|.blt .max [(.ix (.v 1)<|.c<|.int 0),(.ix (.v 2)<|.c<|.int 0)]),.v 3,(.bin .Add (.bin .Add (.ix (.v 1)<|.c<|.int 2)<|.ix (.ix (.v 0)<|.c<|.int 1)<|.c<|.int 2)<|.ix (.v 2)<|.c<|.int 2)]),
 .ite (.or [(.cmp .NotEq (.sl (.v 0) (some<|.c<|.int 3) none)<|.v 4),(.cmp .NotEq (.comp none [] .tup [(.bin .Add (.ix (.v 0)<|.c<|.int 1)<|.sl (.v 0) (some<|.c<|.int 3) none)] (some<|.not<|.call 1 [.v 0])<|.v 0)<|.lst [])]) [.ret<|.c .az] [],
 .ret (.v 4)]
def iK:List Str:=["_law_good","_law_whole"]
def iL:List Str:=["isinstance","tuple","len","abs","max"]
def cY:Stmt:=aZ 54
theorem Q7:MY gp cY iK af iL af af af af cO 0 0:=fun G=>have g:=G.toGood;(aY (aP g (aa g) cz) (ah (aM<|bG<|ae aq<|ae aq<|ae aq ak) ar) ar)
theorem Q8:MY gp cY iK af iL af af af af cO 0 1:=fun G=>have g:=G.toGood;(aY (PW.pt<|cW (dH<|qU g<|iG g<|aa g)<|cW (aP g (br g<|ae (aa g) ak) aq)<|cW (dH<|qU g<|iG g<|av g (aa g) aq)<|eS<|aP g (br g<|ae (av g (aa g) aq) ak) aq) (ah (aM cz) ar) ar)
theorem Q9:MY gp cY iK af iL af af af af cO 0 2:=by
 intro CX Γ X G;have g:=G.toGood;show PS X (.Assign [.Name "_law_left" _] _ _) (bZ Γ<|.asg 1 _)
 with_reducible exact(aD G<|aC g<|ae (av g (aa g) aq) ak)
theorem Q_:MY gp cY iK af iL af af af af cO 0 3:=by
 intro CX Γ X G;have g:=G.toGood;show PS X (.Assign [.Name "_law_right" _] _ _) (bZ Γ<|.asg 2 _)
 with_reducible exact(aD G<|aC g<|ae (av g (aa g) aq) ak)
theorem Ra:MY gp cY iK af iL af af af af cO 0 4:=fun G=>have g:=G.toGood;(aY (PW.pt<|cW (aP g (aa g) cz)<|cW (aP g (aa g) cz)<|eS<|aP g (br g<|ae (ax g (av g (aa g) aq)<|av g (aa g) aq) ak) aq) (ah (aM cz) ar) ar)
theorem Rb:MY gp cY iK af iL af af af af cO 0 5:=by
 intro CX Γ X G;have g:=G.toGood;show PS X (.Assign [.Name "_law_size" _] _ _) (bZ Γ<|.asg 3 _)
 with_reducible exact(aD G<|ax g (ax g (av g (aa g) aq)<|av g (av g (aa g) aq) aq)<|av g (aa g) aq)
theorem Rf:MY gp cY iK af iL af af af af cO 0 6:=by
 intro CX Γ X G;have g:=G.toGood;show PS X (.Assign [.Name "_law_due" _] _ _) (bZ Γ<|.asg 4 _)
 with_reducible exact(aD G<|bG<|ae (ax g aq<|br g<|ae (av g (aa g) aq)<|ae (av g (aa g) aq) ak)<|ae (aa g)<|ae (ax g (ax g (av g (aa g) aq)<|av g (av g (aa g) aq) aq)<|av g (aa g) aq) ak)
theorem Rg:MY gp cY iK af iL af af af af cO 0 7:=fun G=>have g:=G.toGood;(aY (PW.pt<|cW (aP g (iH g (aa g) (fo aq) mK)<|aa g)<|eS<|aP g (kP (ln:=["_law_one"]) g (by kernel_rfl) (NR g<|ax g (av g (aa g) aq)<|iH g (aa g) (fo aq) mK) (oE fun _ g=>(dH<|fq g<|aC g<|ae (aa g) ak))<|fun _ g=>(aa g))<|cM ak) (ah (aM cz) ar) ar)
theorem Rh:MY gp cY iK af iL af af af af cO 0 8:=by
 intro CX Γ X G;have g:=G.toGood;show PS X (.Return (some _) _) (bZ Γ<|.ret _)
 with_reducible exact(aM<|aa g)
theorem Ri:MX gp cY iK af iL af af af af cO 0:=by
 intro CX Γ X G;have e:dG cY=[cE cY 0,cE cY 1,cE cY 2,cE cY 3,cE cY 4,cE cY 5,cE cY 6,cE cY 7,cE cY 8]:=by kernel_rfl
 have e2:cO=[cG cO 0,cG cO 1,cG cO 2,cG cO 3,cG cO 4,cG cO 5,cG cO 6,cG cO 7,cG cO 8]:=by kernel_rfl
 rw[e,e2]
 with_reducible exact ah (Q7 G) (ah (Q8 G)<|ah (Q9 G)<|ah (Q_ G)<|ah (Ra G)<|ah (Rb G)<|ah (Rf G)<|ah (Rg G)<|ah (Rh G)<|ar)
def v_:List Str:=["_law_node"]
noncomputable def Ey:List RS:=
 [.ite (.cmp .Is (.v 0) (.c .az)) [.ret (.lst [])] [],
 .ret (.bin .Add (.bin .Add (.call 0 [(.ix (.v 0) (.c (.int 0)))]) (.lst [(.ix (.v 0) (.c (.int 1)))])) (.call 0 [(.ix (.v 0) (.c (.int 2)))]))]
def Rj:List Str:=["_law_pieces"]
def Ez:Stmt:=aZ 55
theorem Rk:MX v_ Ez Rj af af af af af af Ey 0:=fun G=>have g:=G.toGood;(ah (aY (aP g (aa g) cz) (ah (aM<|cM ak) ar) ar)<|ah (aM<|ax g (ax g (aC g<|ae (av g (aa g) aq) ak)<|cM<|ae (av g (aa g) aq) ak)<|aC g<|ae (av g (aa g) aq) ak) ar)
def EA:List Str:=["_law_height","_law_one","_law_other","_law_turn"]
noncomputable def EB:List RS:=
 [.qD [1,2] (.tup [(.c (.int 0)),(.c (.int 1))]),
 .fN 3 .e9 [.v 0] [.xs<|par 1 2 (.v 2)<|.bin .Add (.bin .Add (.c<|.int 1)<|.v 1)<|.v 2],
 .ret (.v 1)]
def EC:Stmt:=aZ 56
theorem Rl:MX EA EC af af C_ af af af af EB 0:=fun G=>have g:=G.toGood;(ah (Pj [(_,_),(_,_)] G<|bG<|ae aq<|ae aq ak)<|ah (jK G (qW g<|aa g)<|ah (Pn G<|ae (aa g)<|ae (ax g (ax g aq<|aa g)<|aa g) ak) ar)<|ah (aM<|aa g) ar)
def ED:List Str:=["_law_paper","_law_text","_law_lines_here","_law_middle","_law_ahead"]
noncomputable def EE:List RS:=
 [.asg 2 (.xm rA (.v 1) [(.c (.str "\n"))]),
 .asg 3 (.bin .FloorDiv (.blt .len [.v 2])<|.c<|.int 2),
 .asg 4 (.xm rA (.sl (.v 1) none<|some<|.bin .FloorDiv (.blt .len [.v 1])<|.c<|.int 2) [(.c<|.str "\n")]),
 .ite (.or [(.cmp .NotEq (.bo 0 "lines" (.v 0) [])<|.blt .len [.v 2]),(.cmp .NotEq (.bo 1 "line_at" (.v 0) [(.bin .FloorDiv (.blt .len [.v 1])<|.c<|.int 2)])<|.tup [(.bin .Sub (.blt .len [.v 4])<|.c<|.int 1),(.blt .len [(.ix (.v 4)<|.neg<|.c<|.int 1)])])]) [.ret<|.c<|.bl false] [],
 .ite (.or [(.cmp .NotEq (.bo 2 "line_size" (.v 0) [(.bin .Sub (.blt .len [.v 2])<|.c<|.int 1)])<|.blt .len [(.ix (.v 2)<|.neg<|.c<|.int 1)]),(.cmp .NotEq (.bo 2 "line_size" (.v 0) [.v 3])<|.blt .len [(.ix (.v 2)<|.v 3)])]) [.ret<|.c<|.bl false] [],
 .ret (.cmp .Eq (.bo 3 "place_at" (.v 0) [.v 3,(.c (.int 0))]) (.blt .sum [(.comp none [] .list [(.sl (.v 2) none (some (.v 3)))] none (.bin .Add (.blt .len [.v 0]) (.c (.int 1))))]))]
def Rm:List Str:=["len","sum"]
def Rn:List Str:=["lines","line_at","line_size","place_at"]
def EF:Stmt:=aZ 57
theorem Ro:MX ED EF af af Rm Rn af af af EE 0:=fun G=>have g:=G.toGood;(ah (aD G<|Dx g (aa g)<|ae aQ ak)<|ah (aD G<|ax g (br g<|ae (aa g) ak) aq)<|ah (aD G<|Dx g (iH g (aa g) mK<|fo<|ax g (br g<|ae (aa g) ak) aq)<|ae aQ ak)<|ah (aY (PW.pt<|cW (aP g (fQ g<|aa g)<|br g<|ae (aa g) ak)<|eS<|aP g (cU g (aa g)<|ae (ax g (br g<|ae (aa g) ak) aq) ak)<|bG<|ae (ax g (br g<|ae (aa g) ak) aq)<|ae (br g<|ae (av g (aa g)<|mI aq) ak) ak) (ah (aM iD) ar) ar)<|ah (aY (PW.pt<|cW (aP g (cU g (aa g)<|ae (ax g (br g<|ae (aa g) ak) aq) ak)<|br g<|ae (av g (aa g)<|mI aq) ak)<|eS<|aP g (cU g (aa g)<|ae (aa g) ak)<|br g<|ae (av g (aa g)<|aa g) ak) (ah (aM iD) ar) ar)<|ah (aM<|fm g (cU g (aa g)<|ae (aa g)<|ae aq ak)<|br g<|ae (kP (ln:=["_law_line"]) g (by kernel_rfl) (fz g<|iH g (aa g) mK<|fo<|aa g) vE<|fun _ g=>(ax g (br g<|ae (aa g) ak) aq)) ak) ar)
def EG:List Str:=["_law_paper","_law_text","_law_most","_law_found","_law_pieces_here","_law_told","_law_last","_law_begin","_law_size","_law_ends","_law_part"]
noncomputable def EH:List RS:=
 [.asg 3 (.call 0 [(.fld (.v 0) "node")]),
 .asg 4 (.call 1 [(.fld (.v 0) "node")]),
 .ite (.or [(.cmp .Is (.v 3)<|.c .az),(.cmp .NotEq (.sl (.v 3) none<|some<|.c<|.int 2)<|.tup [(.bo 0 "height" (.v 0) []),(.blt .len [.v 1])]),(.cmp .Gt (.blt .len [.v 4])<|.v 2)]) [.ret<|.c<|.bl false] [],
 .ite (.cmp .NotEq (.bo 1 "pieces" (.v 0) [])<|.comp (some 3) [("_law_paper",0)] .list [.v 4] none<|.bo 2 "read" (.fld (.v 3) "stock") [.v 0,.v 1]) [.ret<|.c<|.bl false] [],
 .asg 5 (.c<|.str ""),
 .asg 6 (.neg<|.c<|.int 1),
 .kI [7,8,9] .list [.v 4] [.asg 10 (.bo 2 "read" (.fld (.v 0) "stock") [.v 7,.v 8]),
  .ite (.or [(.cmp .Lt (.v 8)<|.c<|.int 1),(.cmp .Eq (.v 7)<|.v 6),(.cmp .NotEq (.bq .count (.v 10) [(.c<|.str "\n")])<|.v 9)]) [.ret<|.c<|.bl false] [],
  .asg 5 (.bin .Add (.v 5)<|.v 10),
  .asg 6 (.bin .Add (.v 7) (.v 8))],
 .ret (.and [(.cmp .Eq (.v 5) (.v 1)),(.cmp .LtE (.call 2 [(.ix (.v 3) (.c (.int 0)))]) (.blt .len [.v 4]))])]
def Rq:List Str:=["_law_good","_law_pieces","_law_least"]
def Rr:List Str:=["height","pieces","read"]
def EI:Stmt:=aZ 58
theorem Rt:MX EG EI Rq af jc Rr af af af EH 0:=fun G=>have g:=G.toGood;(ah (aD G<|aC g<|ae (bA g<|aa g) ak)<|ah (aD G<|aC g<|ae (bA g<|aa g) ak)<|ah (aY (PW.pt<|cW (aP g (aa g) cz)<|cW (aP g (iH g (aa g) mK<|fo aq)<|bG<|ae (fQ g<|aa g)<|ae (br g<|ae (aa g) ak) ak)<|eS<|aP g (br g<|ae (aa g) ak)<|aa g) (ah (aM iD) ar) ar)<|ah (aY (aP g (fQ g<|aa g)<|O1 g (by kernel_rfl) (fz g<|aa g)<|fun _ g=>(cU g (bA g<|aa g)<|ae (aa g)<|ae (aa g) ak)) (ah (aM iD) ar) ar)<|ah (aD G aQ)<|ah (aD G<|mI aq)<|ah (qZ [(_,_),(_,_),(_,_)] G (fz g<|aa g)<|ah (aD G<|cU g (bA g<|aa g)<|ae (aa g)<|ae (aa g) ak)<|ah (aY (PW.pt<|cW (aP g (aa g) aq)<|cW (aP g (aa g)<|aa g)<|eS<|aP g (cq g (aa g)<|ae aQ ak)<|aa g) (ah (aM iD) ar) ar)<|ah (aD G<|ax g (aa g)<|aa g)<|ah (aD G<|ax g (aa g)<|aa g) ar)<|ah (aM<|gW (fm g (aa g)<|aa g)<|iE<|fm g (aC g<|ae (av g (aa g) aq) ak)<|br g<|ae (aa g) ak) ar)
def EJ:List Str:=["_law_cell","_law_text","_law_at","_law_found","_law_place","_law_turn","_law_parts","_law_many"]
noncomputable def EK:List RS:=
 [.ite (.cmp .Lt (.bin .Mod (.v 0) (.c (.int 5))) (.c (.int 3))) [.ret (.lst [(.call 0 [.v 0,.v 1])])] [],
 .asg 3 (.lst []),
 .asg 4 (.bin .Mod (.v 2)<|.bin .Add (.blt .len [.v 1])<|.c<|.int 1),
 .fN 5 .e9 [(.bin .Add (.c (.int 1)) (.bin .Mod (.bin .FloorDiv (.v 0) (.c (.int 5))) (.c (.int 5))))] [.asg 6 (.lst [(.tup [(.c (.str "keep")),(.bin .Add (.v 4) (.v 5))]),(.tup [(.c (.str "put")),(.ix (.c (.str "xyz\nw")) (.v 5))]),(.tup [(.c (.str "keep")),(.bin .Sub (.blt .len [.v 1]) (.v 4))])]),
  .drop (.bq .append (.v 3) [(.call 1 [.v 6])])],
 .ite (.cmp .Eq (.bin .Mod (.v 0) (.c (.int 5))) (.c (.int 4))) [.asg 7 (.bin .Add (.c (.int 1)) (.bin .Mod (.bin .FloorDiv (.v 0) (.c (.int 5))) (.c (.int 5)))),
  .asg 6 (.lst [(.tup [(.c<|.str "keep"),.v 4]),(.tup [(.c<|.str "cut"),(.sl (.c<|.str "xyz\nw") none<|some<|.v 7)]),(.tup [(.c<|.str "keep"),(.bin .Sub (.blt .len [.v 1])<|.v 4)])]),
  .drop (.bq .append (.v 3) [(.call 1 [.v 6])])] [],
 .ret (.v 3)]
def Ru:List Str:=["_law_change_by","_law_neat"]
def Rv:List Str:=["len","range"]
def EL:Stmt:=aZ 59
theorem Rw:MX EJ EL Ru af Rv af af af af EK 0:=fun G=>have g:=G.toGood;(ah (aY (aP g (ax g (aa g) aq) aq) (ah (aM<|cM<|ae (aC g<|ae (aa g)<|ae (aa g) ak) ak) ar) ar)<|ah (aD G<|cM ak)<|ah (aD G<|ax g (aa g)<|ax g (br g<|ae (aa g) ak) aq)<|ah (jK G (qW g<|ax g aq<|ax g (ax g (aa g) aq) aq)<|ah (aD G<|cM<|ae (bG<|ae aQ<|ae (ax g (aa g)<|aa g) ak)<|ae (bG<|ae aQ<|ae (av g aQ<|aa g) ak)<|ae (bG<|ae aQ<|ae (ax g (br g<|ae (aa g) ak)<|aa g) ak) ak)<|ah (cX<|cq g (aa g)<|ae (aC g<|ae (aa g) ak) ak) ar)<|ah (aY (aP g (ax g (aa g) aq) aq) (ah (aD G<|ax g aq<|ax g (ax g (aa g) aq) aq)<|ah (aD G<|cM<|ae (bG<|ae aQ<|ae (aa g) ak)<|ae (bG<|ae aQ<|ae (iH g aQ mK<|fo<|aa g) ak)<|ae (bG<|ae aQ<|ae (ax g (br g<|ae (aa g) ak)<|aa g) ak) ak)<|ah (cX<|cq g (aa g)<|ae (aC g<|ae (aa g) ak) ak) ar) ar)<|ah (aM<|aa g) ar)
def iM:List Str:=["_law_script","_law_size","_law_texts","_law_papers","_law_most","_law_k","_law_cell","_law_number","_law_at","_law_paper","_law_text","_law_count","_law_change","_law_ahead","_law_puts","_law_many"]
noncomputable def cZ:List RS:=
 [.asg 1 (.bin .Mod (.call 0 [.v 0,(.c (.int 0))]) (.c (.int 25))),
 .ite (.cmp .Eq (.bin .Mod (.bin .FloorDiv (.call 0 [.v 0,(.c<|.int 0)])<|.c<|.int 25)<|.c<|.int 8)<|.c<|.int 1) [.asg 1<|.bin .Add (.c<|.int 60)<|.bin .Mod (.bin .FloorDiv (.call 0 [.v 0,(.c<|.int 0)])<|.c<|.int 200)<|.c<|.int 140] [],
 .asg 2 (.lst [(.call 1 [(.call 0 [.v 0,(.c<|.int 1)]),.v 1])]),
 .asg 3 (.lst [(.call 2 [(.ix (.v 2)<|.c<|.int 0)])]),
 .asg 4 (.lst [(.blt .int [(.cmp .NotEq (.ix (.v 2)<|.c<|.int 0)<|.c<|.str "")])]),
 .kI [5,6] .uS [(.sl (.v 0) (some (.c (.int 3))) (some (.c (.int 17))))] [.asg 7 (.call 3 [.v 6,.v 5]),
  .asg 8 (.bin .Mod (.v 7)<|.blt .len [.v 3]),
  .ite (.cmp .Eq (.bin .Mod (.call 0 [.v 0,(.c<|.int 2)])<|.c<|.int 2)<|.c<|.int 1) [.asg 8<|.bin .Sub (.blt .len [.v 3])<|.c<|.int 1] [],
  .asg 9 (.ix (.v 3)<|.v 8),
  .asg 10 (.ix (.v 2)<|.v 8),
  .asg 11 (.blt .len [(.call 4 [(.fld (.v 9) "node")])]),
  .fN 12 .list [(.call 5 [(.bin .FloorDiv (.v 7) (.c (.int 7))),.v 10,(.bin .FloorDiv (.v 7) (.c (.int 11)))])] [.asg 13 (.bo 0 "many" (.fld (.v 9) "stock") []),
   .asg 9 (.bo 1 "changed" (.v 9) [.v 12]),
   .asg 10 (.call 6 [.v 10,.v 12]),
   .asg 11 (.bin .Add (.v 11)<|.bin .Mult (.c<|.int 2)<|.blt .len [(.comp (some 2) [] .list [.v 12] (some<|.cmp .NotEq (.v 0)<|.c<|.str "keep")<|.v 0)]),
   .asg 14 (.bq .join (.c<|.str "") [(.comp (some 2) [] .list [.v 12] (some<|.cmp .Eq (.v 0)<|.c<|.str "put")<|.v 1)]),
   .ite (.or [(.cmp .NotEq (.bo 0 "many" (.fld (.v 9) "stock") []) (.bin .Add (.v 13) (.blt .len [.v 14]))),(.cmp .NotEq (.bo 2 "read" (.fld (.v 9) "stock") [.v 13,(.blt .len [.v 14])]) (.v 14))]) [.ret (.c (.bl false))] []],
  .ite (.or [(.not<|.xt rp [.v 9,.g 0]),(.xt rB [(.fld (.v 9) "stock"),(.fld (.ix (.v 3)<|.c<|.int 0) "stock")])]) [.ret<|.c<|.bl false] [],
  .drop (.bq .append (.v 3) [.v 9]),
  .drop (.bq .append (.v 2) [.v 10]),
  .drop (.bq .append (.v 4) [.v 11])],
 .xs (v7 [9,10,15] (fun Γ=>oM Γ.K<|aW Γ [.v 3,.v 2,.v 4]) [.ite (.or [(.cmp .NotEq (.bo 3 "text" (.v 9) [])<|.v 10),(.not<|.call 7 [.v 9,.v 10]),(.not<|.call 8 [.v 9,.v 10,.v 15])]) [.ret<|.c<|.bl false] []]),
 .ret (.c (.bl true))]
def jd:List Str:=["_law_cell_at","_law_text_by","paper_of","_law_mixed","_law_pieces","_law_changes","_law_done","_law_lines","_law_stands"]
def je:List Str:=["int","enumerate","len","isinstance","zip"]
def jf:List Str:=["many","changed","read","text"]
def dv:Stmt:=aZ 60
theorem Rx:MY iM dv jd iJ je jf af af af cZ 0 0:=by
 intro CX Γ X G;have g:=G.toGood;show PS X (.Assign [.Name "_law_size" _] _ _) (bZ Γ<|.asg 1 _)
 with_reducible exact(aD G<|ax g (aC g<|ae (aa g)<|ae aq ak) aq)
theorem Ry:MY iM dv jd iJ je jf af af af cZ 0 1:=fun G=>have g:=G.toGood;(aY (aP g (ax g (ax g (aC g<|ae (aa g)<|ae aq ak) aq) aq) aq) (ah (aD G<|ax g aq<|ax g (ax g (aC g<|ae (aa g)<|ae aq ak) aq) aq) ar) ar)
theorem Rz:MY iM dv jd iJ je jf af af af cZ 0 2:=by
 intro CX Γ X G;have g:=G.toGood;show PS X (.Assign [.Name "_law_texts" _] _ _) (bZ Γ<|.asg 2 _)
 with_reducible exact(aD G<|cM<|ae (aC g<|ae (aC g<|ae (aa g)<|ae aq ak)<|ae (aa g) ak) ak)
theorem RA:MY iM dv jd iJ je jf af af af cZ 0 3:=by
 intro CX Γ X G;have g:=G.toGood;show PS X (.Assign [.Name "_law_papers" _] _ _) (bZ Γ<|.asg 3 _)
 with_reducible exact(aD G<|cM<|ae (aC g<|ae (av g (aa g) aq) ak) ak)
theorem RB:MY iM dv jd iJ je jf af af af cZ 0 4:=by
 intro CX Γ X G;have g:=G.toGood;show PS X (.Assign [.Name "_law_most" _] _ _) (bZ Γ<|.asg 4 _)
 with_reducible exact(aD G<|cM<|ae (br g<|ae (fm g (av g (aa g) aq) aQ) ak) ak)
theorem RC:MY iM dv jd iJ je jf af af af cZ 0 5:=fun G=>have g:=G.toGood;(qZ [(_,_),(_,_)] G (NS g<|iH g (aa g) (fo aq)<|fo aq)<|ah (aD G<|aC g<|ae (aa g)<|ae (aa g) ak)<|ah (aD G<|ax g (aa g)<|br g<|ae (aa g) ak)<|ah (aY (aP g (ax g (aC g<|ae (aa g)<|ae aq ak) aq) aq) (ah (aD G<|ax g (br g<|ae (aa g) ak) aq) ar) ar)<|ah (aD G<|av g (aa g)<|aa g)<|ah (aD G<|av g (aa g)<|aa g)<|ah (aD G<|br g<|ae (aC g<|ae (bA g<|aa g) ak) ak)<|ah (jK G (fz g<|aC g<|ae (ax g (aa g) aq)<|ae (aa g)<|ae (ax g (aa g) aq) ak)<|ah (aD G<|fQ g<|bA g<|aa g)<|ah (aD G<|cU g (aa g)<|ae (aa g) ak)<|ah (aD G<|aC g<|ae (aa g)<|ae (aa g) ak)<|ah (aD G<|ax g (aa g)<|ax g aq<|br g<|ae (kP (ln:=["_law_word","_law_thing"]) g (by kernel_rfl) (fz g<|aa g) (oE fun _ g=>(aP g (aa g) aQ))<|fun _ g=>(aa g)) ak)<|ah (aD G<|cq g aQ<|ae (kP (ln:=["_law_word","_law_thing"]) g (by kernel_rfl) (fz g<|aa g) (oE fun _ g=>(aP g (aa g) aQ))<|fun _ g=>(aa g)) ak)<|ah (aY (PW.pt<|cW (aP g (fQ g<|bA g<|aa g)<|ax g (aa g)<|br g<|ae (aa g) ak)<|eS<|aP g (cU g (bA g<|aa g)<|ae (aa g)<|ae (br g<|ae (aa g) ak) ak)<|aa g) (ah (aM iD) ar) ar) ar)<|ah (aY (PW.pt<|cW (dH<|OJ g<|OL g<|ae (aa g)<|ae (BE g) ak)<|eS<|Pe g (bA g<|aa g)<|bA g<|av g (aa g) aq) (ah (aM iD) ar) ar)<|ah (cX<|cq g (aa g)<|ae (aa g) ak)<|ah (cX<|cq g (aa g)<|ae (aa g) ak)<|ah (cX<|cq g (aa g)<|ae (aa g) ak) ar)
theorem RD:MY iM dv jd iJ je jf af af af cZ 0 6:=fun G=>have g:=G.toGood;(Pf (T:=fun Γ=>oM Γ.K (aW Γ _)) [(_,_),(_,_),(_,_)] G (PN g<|ae (aa g)<|ae (aa g)<|ae (aa g) ak)<|ah (aY (PW.pt<|cW (aP g (fQ g<|aa g)<|aa g)<|cW (dH<|fq g<|aC g<|ae (aa g)<|ae (aa g) ak)<|eS<|dH<|fq g<|aC g<|ae (aa g)<|ae (aa g)<|ae (aa g) ak) (ah (aM iD) ar) ar) ar)
theorem RF:MY iM dv jd iJ je jf af af af cZ 0 7:=by
 intro CX Γ X G;have g:=G.toGood;show PS X (.Return (some _) _) (bZ Γ<|.ret _)
 with_reducible exact(aM iD)
theorem RG:MX iM dv jd iJ je jf af af af cZ 0:=by
 intro CX Γ X G;have e:dG dv=[cE dv 0,cE dv 1,cE dv 2,cE dv 3,cE dv 4,cE dv 5,cE dv 6,cE dv 7]:=by kernel_rfl
 have e2:cZ=[cG cZ 0,cG cZ 1,cG cZ 2,cG cZ 3,cG cZ 4,cG cZ 5,cG cZ 6,cG cZ 7]:=by kernel_rfl
 rw[e,e2]
 with_reducible exact ah (Rx G) (ah (Ry G)<|ah (Rz G)<|ah (RA G)<|ah (RB G)<|ah (RC G)<|ah (RD G)<|ah (RF G)<|ar)
end L2.k7
namespace L2.N
inductive Tr where
 |nil|node (l:Tr) (a b c:Int) (r:Tr)
namespace Tr
def h:Tr->Int
 |nil=>0
 |node l _ _ _ r=>1+(if r.h>l.h then r.h else l.h)
def sz:Tr->Int
 |nil=>0
 |node l _ b _ r=>l.sz+b+r.sz
def en:Tr->Int
 |nil=>0
 |node l _ _ c r=>l.en+c+r.en
def ai:Tr->List (Int×Int×Int)
 |nil=>[]
 |node l a b c r=>l.ai++(a,b,c)::r.ai
def ok:Tr->Prop
 |nil=>True
 |node l _ _ _ r=>l.ok/\r.ok/\l.h<=r.h+1/\r.h<=l.h+1
theorem h0:∀t:Tr,0<=t.h
 |nil=>zaW _
 |node l _ _ _ r=>by
  have:=h0 l;have:=h0 r;show 0<=1+(if r.h>l.h then r.h else l.h)
  split<;>lia
theorem mP:∀{t:Tr},0<t.h->∃l a b c r,t=node l a b c r
 |nil,h=>absurd h (by decide)
 |node l a b c r,_=>⟨l,a,b,c,r,rfl⟩
theorem cf(l:Tr)(a b c:Int)(r:Tr):(node l a b c r).h=1+(if r.h>l.h then r.h else l.h):=rfl
theorem wa:∀{t:Tr} (n:Nat),t.ok->(n:Int)<=t.h->2 ^ (n / 2)<=t.ai.length+1
 |nil,n,_,hn=>by
  have:n=0:=by
   have:(n:Int)<=0:=hn;lia
  subst this;decide
 |node l a b c r,n,ho,hn=>by
  obtain⟨o1,o2,o3,o4⟩:=ho;rw[cf] at hn
  simp only[ai,zqA,zau]
  match n with
  | 0=>simp
  | 1=>simp
  |n+2=>
   have e:(n+2) / 2=n / 2+1:=by lia
   rw[e,Nat.pow_succ];have k1:(n:Int)<=l.h:=by split at hn<;>lia
   have k2:(n:Int)<=r.h:=by split at hn<;>lia
   have i1:=wa n o1 k1;have i2:=wa n o2 k2;lia
theorem fD{t:Tr}(ho:t.ok)(hn:t.ai.length<=1000):t.h<=19:=by
 by_cases hh:t.h<=19
 ·exact hh
 ·have:=wa 20 ho (by lia)
  lia
structure iN (l:Tr) (a b c:Int) (r t:Tr):Prop where
 ok:t.ok
 ai:t.ai=l.ai++(a,b,c)::r.ai
 near:l.h<=r.h+1->r.h<=l.h+1->t.h=1+(if r.h>l.h then r.h else l.h)
 lo:l.h<=t.h/\r.h<=t.h
 hi:t.h<=l.h+1\/t.h<=r.h+1
theorem EM{l r:Tr}{a b c:Int}(o1:l.ok)(o2:r.ok)(h1:l.h<=r.h+1)(h2:r.h<=l.h+1):iN l a b c r (node l a b c r):=by
 refine⟨⟨o1,o2,h1,h2⟩,rfl,fun _ _=>rfl,?_,?_⟩
 all_goals rw[cf];split<;>lia
theorem RH{ll lr r:Tr}{a b c a' b' c':Int}(o1:(node ll a b c lr).ok)(o2:r.ok)(h1:(node ll a b c lr).h=r.h+2)(hh:lr.h<=ll.h):
  iN (node ll a b c lr) a' b' c' r (node ll a b c<|node lr a' b' c' r):=by
 obtain⟨p1,p2,p3,p4⟩:=o1;have e1:=cf ll a b c lr;have e2:=cf lr a' b' c' r;have e3:=cf ll a b c (node lr a' b' c' r);rw[h1] at e1;have k:r.h+1=ll.h:=by rw[if_neg (by lia)] at e1;lia
 refine⟨⟨p1,⟨p2,o2,by lia,by lia⟩,?_,?_⟩,by simp[ai],fun q1 q2=>absurd h1 (by lia),?_,?_⟩
 ·rw[e2];split<;>lia
 ·rw[e2];split<;>lia
 ·rw[e3,e2,h1];constructor<;>((repeat' split) <;>lia)
 ·rw[e3,e2,h1];left;(split<;>split<;>lia)
theorem RI{ll il ir r:Tr}{a b c a' b' c' x y z:Int}(o1:(node ll a b c<|node il x y z ir).ok)(o2:r.ok)(h1:(node ll a b c<|node il x y z ir).h=r.h+2)(hh:ll.h< (node il x y z ir).h):
  iN (node ll a b c<|node il x y z ir) a' b' c' r (node (node ll a b c il) x y z<|node ir a' b' c' r):=by
 obtain⟨p1,⟨p5,p6,p7,p8⟩,p3,p4⟩:=o1;have e1:=cf ll a b c (node il x y z ir);have e2:=cf il x y z ir;have e3:=cf ll a b c il;have e4:=cf ir a' b' c' r;have e5:=cf (node ll a b c il) x y z (node ir a' b' c' r);rw[h1,if_pos (by lia)] at e1
 have k1:ll.h=r.h:=by lia
 have k2:il.h<=r.h/\ir.h<=r.h:=by rw[e2] at e1;split at e1<;>lia
 have k3:r.h - 1<=il.h/\r.h - 1<=ir.h:=by rw[e2] at e1;split at e1<;>lia
 have f3:(node ll a b c il).h=r.h+1:=by rw[e3];split<;>lia
 have f4:(node ir a' b' c' r).h=r.h+1:=by rw[e4];split<;>lia
 have f5:(node (node ll a b c il) x y z<|node ir a' b' c' r).h=r.h+2:=by rw[e5,f3,f4];split<;>lia
 refine⟨⟨⟨p1,p5,by lia,by lia⟩,⟨p6,o2,by lia,by lia⟩,by lia,by lia⟩,by simp[ai],fun q1 q2=>absurd h1 (by lia),by lia,by lia⟩
theorem RJ{l rl rr:Tr}{a b c a' b' c':Int}(o1:l.ok)(o2:(node rl a' b' c' rr).ok)(h1:(node rl a' b' c' rr).h=l.h+2)(hh:rl.h<=rr.h):
  iN l a b c (node rl a' b' c' rr) (node (node l a b c rl) a' b' c' rr):=by
 obtain⟨p1,p2,p3,p4⟩:=o2;have e1:=cf rl a' b' c' rr;have e2:=cf l a b c rl;have e3:=cf (node l a b c rl) a' b' c' rr;rw[h1] at e1;have k:l.h+1=rr.h:=by split at e1<;>lia
 refine⟨⟨⟨o1,p1,by lia,by lia⟩,p2,?_,?_⟩,by simp[ai],fun q1 q2=>absurd h1 (by lia),?_,?_⟩
 ·rw[e2];split<;>lia
 ·rw[e2];split<;>lia
 ·rw[e3,e2,h1];constructor<;>((repeat' split) <;>lia)
 ·rw[e3,e2,h1];right;(split<;>split<;>lia)
theorem RK{l il ir rr:Tr}{a b c a' b' c' x y z:Int}(o1:l.ok)(o2:(node (node il x y z ir) a' b' c' rr).ok)(h1:(node (node il x y z ir) a' b' c' rr).h=l.h+2)(hh:rr.h< (node il x y z ir).h):
  iN l a b c (node (node il x y z ir) a' b' c' rr) (node (node l a b c il) x y z<|node ir a' b' c' rr):=by
 obtain⟨⟨p5,p6,p7,p8⟩,p2,p3,p4⟩:=o2;have e1:=cf (node il x y z ir) a' b' c' rr;have e2:=cf il x y z ir;have e3:=cf l a b c il;have e4:=cf ir a' b' c' rr;have e5:=cf (node l a b c il) x y z (node ir a' b' c' rr);rw[h1,if_neg (by lia)] at e1
 have k1:l.h=rr.h:=by lia
 have k2:il.h<=l.h/\ir.h<=l.h:=by rw[e2] at e1;split at e1<;>lia
 have k3:l.h - 1<=il.h/\l.h - 1<=ir.h:=by rw[e2] at e1;split at e1<;>lia
 have f3:(node l a b c il).h=l.h+1:=by rw[e3];split<;>lia
 have f4:(node ir a' b' c' rr).h=l.h+1:=by rw[e4];split<;>lia
 have f5:(node (node l a b c il) x y z<|node ir a' b' c' rr).h=l.h+2:=by rw[e5,f3,f4];split<;>lia
 refine⟨⟨⟨o1,p5,by lia,by lia⟩,⟨p6,p2,by lia,by lia⟩,by lia,by lia⟩,by simp[ai],fun q1 q2=>absurd h1 (by lia),by lia,by lia⟩
structure Jn (l:Tr) (a b c:Int) (r t:Tr):Prop where
 ok:t.ok
 ai:t.ai=l.ai++(a,b,c)::r.ai
 lo:l.h<=t.h/\r.h<=t.h
 hi:t.h<=l.h+1\/t.h<=r.h+1
theorem RL{l r:Tr}{a b c:Int}(o1:l.ok)(o2:r.ok)(h1:l.h<=r.h+1)(h2:r.h<=l.h+1):Jn l a b c r (node l a b c r):=
 let L:=EM (a:=a) (b:=b) (c:=c) o1 o2 h1 h2
 ⟨L.ok,L.ai,L.lo,L.hi⟩
theorem RM{ll lr r j t:Tr}{a b c a' b' c':Int}(o1:(node ll a b c lr).ok)(hh:r.h+1< (node ll a b c lr).h)(J:Jn lr a' b' c' r j)(L:iN ll a b c j t):
  Jn (node ll a b c lr) a' b' c' r t:=by
 obtain⟨p1,p2,p3,p4⟩:=o1;have e1:=cf ll a b c lr;have j1:=J.lo;have j2:=J.hi;have l1:=L.lo;have l2:=L.hi;have l3:=L.near;have gZ:r.h<=lr.h:=by rw[e1] at hh;split at hh<;>lia
 have hj:j.h=lr.h\/j.h=lr.h+1:=by lia
 refine⟨L.ok,by rw[L.ai,J.ai];simp[ai],?_,?_⟩
 ·rw[e1];by_cases q:ll.h<=j.h+1/\j.h<=ll.h+1
  ·have:=l3 q.1 q.2;rw[this]
   constructor<;>((repeat' split) <;>lia)
  ·constructor<;>((repeat' split) <;>lia)
 ·rw[e1]
  left
  by_cases q:ll.h<=j.h+1/\j.h<=ll.h+1
  ·have:=l3 q.1 q.2;rw[this]
   split<;>split<;>lia
  ·split<;>lia
theorem RN{l rl rr j t:Tr}{a b c a' b' c':Int}(o2:(node rl a' b' c' rr).ok)(hh:l.h+1< (node rl a' b' c' rr).h)(J:Jn l a b c rl j)(L:iN j a' b' c' rr t):
  Jn l a b c (node rl a' b' c' rr) t:=by
 obtain⟨p1,p2,p3,p4⟩:=o2;have e1:=cf rl a' b' c' rr;have j1:=J.lo;have j2:=J.hi;have l1:=L.lo;have l2:=L.hi;have l3:=L.near;have gZ:l.h<=rl.h:=by rw[e1] at hh;split at hh<;>lia
 have hj:j.h=rl.h\/j.h=rl.h+1:=by lia
 refine⟨L.ok,by rw[L.ai,J.ai];simp[ai],?_,?_⟩
 ·rw[e1];by_cases q:j.h<=rr.h+1/\rr.h<=j.h+1
  ·have:=l3 q.1 q.2;rw[this]
   constructor<;>((repeat' split) <;>lia)
  ·constructor<;>((repeat' split) <;>lia)
 ·rw[e1]
  right
  by_cases q:j.h<=rr.h+1/\rr.h<=j.h+1
  ·have:=l3 q.1 q.2;rw[this]
   split<;>split<;>lia
  ·split<;>lia
theorem RO{ll lr r j:Tr}{a b c a' b' c':Int}(o1:(node ll a b c lr).ok)(hh:r.h+1< (node ll a b c lr).h)(J:Jn lr a' b' c' r j):ll.h<=j.h+2/\j.h<=ll.h+2:=by
 obtain⟨p1,p2,p3,p4⟩:=o1;have e1:=cf ll a b c lr;have j1:=J.lo;have j2:=J.hi;have gZ:r.h<=lr.h:=by rw[e1] at hh;split at hh<;>lia
 lia
theorem RP{l rl rr j:Tr}{a b c a' b' c':Int}(o2:(node rl a' b' c' rr).ok)(hh:l.h+1< (node rl a' b' c' rr).h)(J:Jn l a b c rl j):j.h<=rr.h+2/\rr.h<=j.h+2:=by
 obtain⟨p1,p2,p3,p4⟩:=o2;have e1:=cf rl a' b' c' rr;have j1:=J.lo;have j2:=J.hi;have gZ:l.h<=rl.h:=by rw[e1] at hh;split at hh<;>lia
 lia
end Tr
abbrev P3:=Int×Int×Int
def cv(ps:List P3):Int:=(ps.map fun p=>p.2.1).sum
def bM(F:Int->Int):List P3->Int->List P3
 |[],_=>[]
 |p::ps,n=>if n<=0 then [] else if p.2.1<=n then p::bM F ps (n - p.2.1) else [(p.1,n,F (p.1+n) - F p.1)]
def b6(F:Int->Int):List P3->Int->List P3
 |[],_=>[]
 |p::ps,n=>if n<=0 then p::ps else if p.2.1<=n then b6 F ps (n - p.2.1) else (p.1+n,p.2.1 - n,p.2.2 - (F (p.1+n) - F p.1))::ps
theorem EN:cv []=0:=rfl
theorem k8(p:P3)(ps:List P3):cv (p::ps)=p.2.1+cv ps:=by simp[cv]
theorem EO(a b:List P3):cv (a++b)=cv a+cv b:=by simp[cv]
theorem rC(F:Int->Int){n:Int}(h:n<=0):∀ps:List P3,bM F ps n=[]/\b6 F ps n=ps
 |[]=>⟨rfl,rfl⟩
 |p::ps=>by simp[bM,b6,h]
theorem ER:∀{ps:List P3},(∀p∈ps,1<=p.2.1)->0<=cv ps
 |[],_=>zaW _
 |p::ps,h=>by
  have:=ER (ps:=ps) fun q hq=>h q (zam _ hq);have:=h p zan;rw[k8];lia
theorem ES(F:Int->Int)(ys:List P3):∀(xs:List P3) (n:Int),(∀p∈xs,1<=p.2.1)->n<=cv xs->bM F (xs++ys) n=bM F xs n/\b6 F (xs++ys) n=b6 F xs n++ys
 |[],n,_,h=>by
  have h:n<=0:=h;obtain⟨a,b⟩:=rC F h ys;exact⟨a,b⟩
 |p::xs,n,hp,h=>by
  rw[k8] at h;have ih:=ES F ys xs (n - p.2.1) (fun q hq=>hp q<|zam _ hq) (by lia)
  simp only[zbe,bM,b6]
  rw[ih.1,ih.2]
  constructor
  ·rfl
  ·split
   ·rfl
   ·split<;>rfl
theorem wb(F:Int->Int)(ys:List P3):∀(xs:List P3) (n:Int),(∀p∈xs,1<=p.2.1)->cv xs<=n->bM F (xs++ys) n=xs++bM F ys (n - cv xs)/\b6 F (xs++ys) n=b6 F ys (n - cv xs)
 |[],n,_,h=>by rw[EN,Int.sub_zero];exact⟨rfl,rfl⟩
 |p::xs,n,hp,h=>by
  have h1:=hp p zan;have h2:=ER fun q hq=>hp q (zam _ hq);rw[k8] at h⊢;have ih:=wb F ys xs (n - p.2.1) (fun q hq=>hp q<|zam _ hq) (by lia)
  have e:n - p.2.1 - cv xs=n - (p.2.1+cv xs):=by lia
  rw[e] at ih
  simp only[zbe,bM,b6]
  rw[if_neg (by lia),if_pos (by lia),if_neg (by lia),if_pos (by lia),ih.1,ih.2]
  exact⟨rfl,rfl⟩
theorem k9(F:Int->Int):∀(xs:List P3) (n:Int),(bM F xs n).length<=xs.length/\(b6 F xs n).length<=xs.length
 |[],n=>⟨zqR _,zqR _⟩
 |p::xs,n=>by
  obtain⟨a,b⟩:=k9 F xs (n - p.2.1)
  simp only[bM,b6]
  split
  ·exact⟨zqZ _,zqR _⟩
  ·split<;>simp<;>lia
end L2.N
namespace L2.B
def cw(xs:List Int)(most:Int):Nat:=(xs.filter fun x=>decide (x<=most)).length
def mQ(xs:List Int):Prop:=xs.Pairwise (· <= ·)
theorem wc(xs:List Int)(most:Int):cw xs most<=xs.length:=zbG _ _
theorem we(a b:List Int)(most:Int):cw (a++b) most=cw a most+cw b most:=by simp[cw]
theorem ET{xs:List Int}{most:Int}(h:∀x∈xs,x<=most):cw xs most=xs.length:=by
 unfold cw;rw[List.filter_eq_self.mpr fun x hx=>by simpa using h x hx]
theorem EU{xs:List Int}{most:Int}(h:∀x∈xs,most<x):cw xs most=0:=by
 unfold cw;rw[List.length_eq_zero_iff,List.filter_eq_nil_iff];intro x hx;have:=h x hx
 simp;lia
theorem wg{xs:List Int}{most x:Int}{m:Nat}(h:mQ xs)(g:xs[m]?=some x)(hx:x<=most):m+1<=cw xs most:=by
 have hm:=(zab.mp g).1;have e:xs=xs.take (m+1)++xs.drop (m+1):=(zaA _ _).symm;have a:∀y∈xs.take (m+1),y<=most:=by
  intro y hy;obtain⟨j,hj,rfl⟩:=zbF hy;rw[zaj] at hj;rw[List.getElem_take];have e2:xs[m]=x:=(zab.mp g).2;by_cases q:j=m
  ·subst q;lia
  ·have:=zbH.mp h j m (by lia) hm (by lia)
   lia
 have:cw xs most=cw (xs.take<|m+1) most+cw (xs.drop<|m+1) most:=by rw[<-we,<-e]
 rw[this,ET a,zaj];lia
theorem EV{xs:List Int}{most x:Int}{m:Nat}(h:mQ xs)(g:xs[m]?=some x)(hx:¬x<=most):cw xs most<=m:=by
 have hm:=(zab.mp g).1;have e:xs=xs.take m++xs.drop m:=(zaA _ _).symm;have a:∀y∈xs.drop m,most<y:=by
  intro y hy;obtain⟨j,hj,rfl⟩:=zbF hy;rw[zas] at hj;rw[List.getElem_drop];have e2:xs[m]=x:=(zab.mp g).2;by_cases q:j=0
  ·subst q;simp;lia
  ·have:=zbH.mp h m (m+j) hm (by lia) (by lia)
   lia
 have:cw xs most=cw (xs.take m) most+cw (xs.drop m) most:=by rw[<-we,<-e]
 have l:=wc (xs.take m) most;rw[this,EU a];rw[zaj] at l;lia
open PySem PySem.StrLaws
def pos(c:Nat):List Nat->Nat->List Nat
 |[],_=>[]
 |d::r,k=>if d=c then k::pos c r (k+1) else pos c r (k+1)
theorem jQ(c:Nat):∀(a b:List Nat) (k:Nat),pos c (a++b) k=pos c a k++pos c b (k+a.length)
 |[],b,k=>by simp[pos]
 |d::r,b,k=>by
  have ih:=jQ c r b (k+1);rw[show k+1+r.length=k+(d::r).length by simp;lia] at ih
  simp only[zbe,pos]
  split
  ·rw[ih];rfl
  ·rw[ih]
theorem eW(c:Nat):∀(a:List Nat) (k:Nat),(pos c a k).length=a.count c
 |[],k=>rfl
 |d::r,k=>by
  simp only[pos]
  rw[List.count_cons]
  split
  ·rename_i h;subst h;simp[eW d r<|k+1]
  ·rename_i h
   have:(d==c)=false:=by simpa using h
   rw[eW c r<|k+1,this];simp
theorem jR(c:Nat):∀(a:List Nat) (k i:Nat),i∈pos c a k->k<=i/\i<k+a.length
 |[],k,i,h=>by simp[pos] at h
 |d::r,k,i,h=>by
  simp only[pos] at h
  have go:i∈pos c r (k+1)->k<=i/\i<k+(d::r).length:=fun z=>by
   have:=jR c r (k+1) i z
   simp;lia
  split at h
  ·rcases zad.mp h with rfl|z
   ·simp
   ·exact go z
  ·exact go h
theorem rD(c:Nat):∀(a:List Nat) (k:Nat),(pos c a k).Pairwise (· < ·)
 |[],k=>by simp[pos]
 |d::r,k=>by
  simp only[pos]
  split
  ·rw[List.pairwise_cons];exact⟨fun i hi=>by have:=jR c r (k+1) i hi;lia,rD c r<|k+1⟩
  ·exact rD c r (k+1)
def eA(c:Nat)(a:List Nat):List Int:=(pos c a 0).map fun(i:Nat)=>(i:Int)
theorem RQ(c:Nat)(a:List Nat):mQ (eA c a):=by
 unfold mQ eA;rw[List.pairwise_map];exact(rD c a 0).imp fun h=>by lia
theorem RT(c:Nat)(a:List Nat)(n:Nat):cw (eA c a) ((n:Int) - 1)=(a.take n).count c:=by
 have e:a=a.take n++a.drop n:=(zaA _ _).symm;have e1:eA c a=eA c (a.take n)++((pos c (a.drop n) (a.take n).length).map fun(i:Nat)=>(i:Int)):=by
  unfold eA
  conv=>lhs;rw[e]
  rw[jQ,zaw,zaS]
 rw[e1,we,ET,EU]
 ·unfold eA;rw[zai,eW];simp
 ·intro x hx;obtain⟨i,hi,rfl⟩:=zaX.mp hx;have h:=jR _ _ _ _ hi;rw[zaj,zas] at h;lia
 ·intro x hx;obtain⟨i,hi,rfl⟩:=zaX.mp hx;have h:=jR _ _ _ _ hi;rw[zaj] at h;lia
theorem EW(c:Nat):∀(l:List Nat) (k i:Nat) (done rest:List Nat),pos c l k=done++i::rest->pos c (l.drop<|i+1 - k) (i+1)=rest
 |[],k,i,done,rest,h=>by
  simp[pos] at h
 |d::r,k,i,done,rest,h=>by
  have hi:=jR c (d::r) k i (by rw[h];simp)
  simp only[pos] at h
  have go:∀dn,pos c r (k+1)=dn++i::rest->pos c ((d::r).drop<|i+1 - k) (i+1)=rest:=fun dn hd=>by
   have h2:=jR c r (k+1) i (by rw[hd];simp)
   have ih:=EW c r (k+1) i dn rest hd;rw[show i+1 - k=(i+1 - (k+1))+1 by lia,List.drop_succ_cons]
   exact ih
  split at h
  ·cases done with
   |nil=>
    simp only[zaO,List.cons.injEq] at h
    obtain⟨rfl,h⟩:=h;rw[show k+1 - k=1 by lia,List.drop_succ_cons,zaR]
    exact h
   |cons e dn=>
    simp only[zbe,List.cons.injEq] at h
    exact go dn h.2
  ·exact go done h
theorem oN(c:Nat):∀(l:List Nat) (k j:Nat),pos c l (k+j)=(pos c l j).map (k+ ·)
 |[],k,j=>rfl
 |d::r,k,j=>by
  have ih:=oN c r k (j+1);rw[<-Nat.add_assoc] at ih
  simp only[pos]
  split
  ·rw[ih];rfl
  ·exact ih
theorem RU(c:Nat)(a b:List Nat):eA c (a++b)=eA c a++((pos c b 0).map fun(i:Nat)=>((a.length:Nat):Int)+(i:Int)):=by
 unfold eA;rw[jQ,zaw,zaS]
 congr 1
 have:=oN c b a.length 0;rw[Nat.add_zero] at this;rw[this,List.map_map]
 apply List.map_congr_left
 intro i _;show((a.length+i:Nat):Int)=_;lia
theorem rE(x y:Str)(hy:y.length=1)(hi lim:Nat):∀(n lo:Nat) (acc:Array Nat) (free:Nat),free<=lo->
  ((forIn (List.range' lo n) (acc,free)<|occBody x y hi lim).run.fst.toList=acc.toList++((List.range' lo n).filter fun i=>decide (i+1<=hi) && Builtin.Str.subAt x y i).take (lim - acc.size))
 | 0,lo,acc,free,hf=>by simp
 |n+1,lo,acc,free,hf=>by
  rw[List.range'_succ,zbm];unfold occBody;rw[hy];by_cases hp:lo+1<=hi/\Builtin.Str.subAt x y lo=true
  ·have e:(decide (lo+1<=hi) && Builtin.Str.subAt x y lo)=true:=by simp[hp.1,hp.2]
   by_cases hs:acc.size<lim
   ·rw[if_pos ⟨⟨⟨hs,hf⟩,hp.1⟩,hp.2⟩];have ih:=rE x y hy hi lim n (lo+1) (acc.push lo) (lo+1) (zqR _);unfold occBody at ih;rw[hy] at ih;refine Eq.trans ih ?_;rw[List.filter_cons_of_pos (by exact e)]
    have e2:lim - acc.size=(lim - (acc.push lo).size)+1:=by rw[Array.size_push];lia
    rw[e2,List.take_succ_cons]
    simp
   ·rw[if_neg<|fun z=>hs z.1.1.1];have ih:=rE x y hy hi lim n (lo+1) acc free (by lia)
    unfold occBody at ih;rw[hy] at ih;refine Eq.trans ih ?_;have e2:lim - acc.size=0:=by lia
    rw[e2];simp
  ·rw[if_neg<|fun z=>hp ⟨z.1.2,z.2⟩];have e:¬(decide (lo+1<=hi) && Builtin.Str.subAt x y lo)=true:=by
    intro z
    simp only[zaa,decide_eq_true_eq] at z
    exact hp z
   have ih:=rE x y hy hi lim n (lo+1) acc free (by lia)
   unfold occBody at ih;rw[hy] at ih;refine Eq.trans ih ?_;rw[zbI (by exact e)]
theorem RV(x:Str)(c i:Nat):Builtin.Str.subAt x ⟨#[c]⟩ i=decide (x.cps[i]?=some c):=by
 unfold Builtin.Str.subAt;have e:(⟨#[c]⟩:Str).length=1:=rfl;rw[e,show(⟨#[c]⟩:Str).cps= #[c] from rfl]
 by_cases h:i<x.cps.size
 ·have e2:x.cps.extract i (i+1)= #[x.cps[i]]:=by
   apply Array.ext
   ·simp;lia
   ·intro j h1 h2
    simp at h1 h2⊢
    have:j=0:=by lia
    subst this;rfl
  rw[e2,Array.getElem?_eq_getElem h];by_cases q:x.cps[i]=c
  ·subst q;simp
  ·have:¬(#[x.cps[i]]= #[c]):=fun z=>q (by injection z with z;injection z)
   simp[q]
 ·have e2:x.cps.extract i (i+1)= #[]:=by
   apply zbp
   simp;lia
  rw[e2,Array.getElem?_eq_none (by lia)]
  simp
theorem EX(c:Nat):∀(l:List Nat) (k:Nat) (p:Nat->Bool),(∀i,i<l.length->p (k+i)=decide (l[i]?=some c))->(List.range' k l.length).filter p=pos c l k
 |[],k,p,h=>rfl
 |d::r,k,p,h=>by
  rw[zau,List.range'_succ];have h0:p k=decide (d=c):=by
   have:=h 0 (Nat.zero_lt_succ _)
   simpa using this
  have ih:=EX c r (k+1) p fun i hi=>by
   have:=h (i+1) (Nat.succ_lt_succ hi);rw[show k+1+i=k+(i+1) by lia,this];simp
  by_cases e:d=c
  ·rw[List.filter_cons_of_pos (by rw[h0];simpa using e),ih,pos,if_pos e]
  ·rw[zbI (by rw[h0];simpa using e),ih,pos,if_neg e]
theorem wj(x:Str)(c lo lim:Nat)(hl:lo<=x.length):Builtin.Str.occurrences x ⟨#[c]⟩ lo x.length lim=(pos c (x.cps.toList.drop lo) lo).take lim:=by
 have hx:x.cps.toList.length=x.length:=by simp[Str.length]
 rw[occ_eq,rE x _ rfl x.length lim _ lo #[] lo (zqR _)]
 simp only[zaO,Array.size_empty,zbd]
 congr 1
 have e:x.length+1 - lo=(x.cps.toList.drop lo).length+1:=by rw[zas,hx];lia
 rw[e,List.range'_concat,zbs];rw[EX c (x.cps.toList.drop lo) lo]
 ·have:¬(lo+1* (x.cps.toList.drop lo).length+1<=x.length):=by rw[zas,hx];lia
  rw[zbI (by rw[zqF this];simp)]
  simp
 ·intro i hi;rw[RV];rw[zas,hx] at hi;rw[zqT (show lo+i+1<=x.length by lia),Bool.true_and,List.getElem?_drop,Array.getElem?_toList]
end L2.B
namespace L2.B
open PySem PySem.Spec PyProof.Rows
def iO(H H':Hp):Prop:= ∀b xs,H b=some (.tup xs)->H' b=some (.tup xs)
theorem aU(h:aF H H'):iO H H':=fun b xs e=>h b _ e
theorem sameNew{p:Addr}{o:HO}(h:H p=none):aF H (upd H p o):=fun b u e=>by rw[aI<|bK e h];exact e
def bQ(c:Addr)(H H':Hp):Prop:= ∀b o,H b=some o->b≠c->H' b=some o
theorem bQ.upd{o:HO}:bQ c H (upd H c o):=fun b u e n=>by rw[aI n];exact e
theorem bQ.trans(a:bQ c H H1)(b:bQ c H1 H2):bQ c H H2:=fun d o e n=>b d o (a d o e n) n
theorem bQ.same(a:bQ c H H1)(b:aF H1 H2):bQ c H H2:=fun d o e n=>b d o (a d o e n)
theorem jS(a:aF H H1)(hc:H c=none)(b:bQ c H1 H2):aF H H2:=fun d o e=>b d o (a d o e) (bK e hc)
theorem bQ.b_(h:bQ c H H')(hc:H c=some (.lst xs)):iO H H':=fun b ys e=>h b _ e (fun z=>by rw[z,hc] at e;cases e)
theorem iF{c:Bool}{A B:Prop}(q:B)(h:c=false:=by first|rfl|decide):if c=true then A else B:=by
 rw[h];exact iw q
theorem iT{c:Bool}{A B:Prop}(q:A)(h:c=true:=by first|rfl|decide):if c=true then A else B:=by
 rw[h];exact d6 q
inductive Pt where|keep (n:Int)|put (s:Str)|cut (s:Str)
 deriving DecidableEq
def Pt.word:Pt->Str|.keep _=> "keep" |.put _=> "put" |.cut _=> "cut"
def Pt.val:Pt->V|.keep n=>.int n|.put s=>.str s|.cut s=>.str s
def iP(H:Hp)(v:V)(p:Pt):Prop:= ∃a,v=.ref a/\H a=some (.tup [.str p.word,p.val])
abbrev bH(H:Hp):List V->List Pt->Prop:=Paired (iP H)
theorem iP.mono{v:V}{p:Pt}(t:iO H H')(h:iP H v p):iP H' v p:=by
 obtain⟨a,e,h⟩:=h;exact⟨a,e,t _ _ h⟩
theorem bH.mono{H H':Hp}(t:iO H H'):∀{vs:List V}{ps:List Pt},bH H vs ps->bH H' vs ps
 |_,_,.nil=>.nil
 |_,_,.cons h r=>.cons (h.mono t) (bH.mono t r)
theorem bH.get{H:Hp}:∀{vs:List V}{ps:List Pt}{i:Nat}{v:V},bH H vs ps->vs[i]?=some v->∃p,ps[i]?=some p/\iP H v p
 |_,_,i,v,.nil,e=>by simp at e
 |_,_,0,v,.cons h r,e=>by simp at e;subst e;exact⟨_,rfl,h⟩
 |_,_,i+1,v,.cons h r,e=>by
  obtain⟨p,a,b⟩:=bH.get (i:=i) r (by simpa using e)
  exact⟨p,by simpa using a,b⟩
def EY:Sp:=fun vs H Q E=>∃i,vs=[.int i]/\Q (.bl true) H
def eB(w a:Str):Bool:=w !=a && !(a=="cut" && w=="put")
def EZ:Sp:=fun vs H Q E=>∃w a,vs=[.str w,.str a]/\Q (.bl<|eB w a) H
theorem RW{K:Frag}(vs:List V)(H:Hp)(Q:VK)(E:XK)(h:EZ vs H Q E):aB (aK K [] [] (E:=E)) BQ {nx:=fun _ H'=>Q .az H',rt:=Q} (start BP vs) H:=by
 obtain⟨w,a,rfl,q⟩:=h;refine⟨_,rfl,_,rfl,_,rfl,?_⟩;unfold eB at q;refine d9 (fun h=>?_)<|fun h=>?_
 ·rw[zaQ,gN] at h;have e:(w !=a)=true:=h;rw[e] at q;refine⟨_,rfl,_,rfl,?_⟩;refine d9 (fun h2=>?_)<|fun h2=>?_
  ·rw[zaK,gN] at h2;rw[h2] at q;refine⟨_,rfl,?_⟩;show Q (.bl<|!(false ^^ decide (V.str w=V.str "put"))) H;rw[zaK,gN];exact q
  ·rw[zaK,gN] at h2;have e2:(a=="cut")=false:=by simpa using h2
   rw[e2] at q;exact q
 ·rw[zaQ,gN] at h;have e:(w !=a)=false:=by simpa using h
  rw[e] at q;exact q
def oO:Pt->Int|.keep n=>n|.put s=>s.length|.cut s=>s.length
def wk:Pt->Prop|.keep _=>True|.put s=>s.length<=1000000|.cut s=>s.length<=1000000
theorem bE(h:n<=1000000):n<=sizeLine:=zar h (by decide)
theorem fE(h:n<=1000000):n<sizeLine:=Nat.lt_of_le_of_lt h (by decide)
def jT:Sp:=fun vs H Q E=>∃v p,vs=[v]/\iP H v p/\wk p/\Q (.int<|oO p) H
theorem RX{K:Frag}(vs:List V)(H:Hp)(Q:VK)(E:XK)(h:jT vs H Q E):aB (aK K [] [] (E:=E)) BV {nx:=fun _ H'=>Q .az H',rt:=Q} (start BU vs) H:=by
 obtain⟨v,p,rfl,⟨a,rfl,ha⟩,ho,q⟩:=h;refine⟨_,rfl,.inr<|.inl ⟨_,_,_,_,rfl,rfl,aO.of ha,rfl,_,rfl,?_⟩⟩;rw[zaK,gN];cases p with
 |keep n=>exact d6 ⟨_,rfl,.inr<|.inl ⟨_,_,_,_,rfl,rfl,aO.of ha,rfl,q⟩⟩
 |put s=>exact iw ⟨_,rfl,.inr<|.inl ⟨_,_,_,_,rfl,rfl,aO.of ha,rfl,bE ho,q⟩⟩
 |cut s=>exact iw ⟨_,rfl,.inr<|.inl ⟨_,_,_,_,rfl,rfl,aO.of ha,rfl,bE ho,q⟩⟩
def cell(ns:List Int)(k:Nat):Int:=ns.getD k 0
def wm(K:Frag):Sp:=fun vs H Q E=>∃(a:Addr) (ns:List Int) (k:Int),vs=[.ref a,.int k]/\ay K H a (ns.map V.int)/\0<=k/\Q (.int<|cell ns k.toNat) H
theorem RY{K:Frag}(vs:List V)(H:Hp)(Q:VK)(E:XK)(h:wm K vs H Q E):aB (aK K [] [] (E:=E)) BZ {nx:=fun _ H'=>Q .az H',rt:=Q} (start BY vs) H:=by
 obtain⟨a,ns,k,rfl,ha,hk,q⟩:=h;refine⟨_,rfl,_,rfl,.inl ⟨_,ha,trivial,_,rfl,?_⟩⟩;rw[zai];refine d9 (fun h=>?_)<|fun h=>?_
 ·have aS:k< (ns.length:Int):=of_decide_eq_true h;refine⟨_,rfl,_,rfl,.inl ⟨_,_,_,_,rfl,rfl,ha,?_,q⟩⟩;have e:=fh (xs:=ns.map V.int) (j:=k.toNat) (v:=.int (cell ns k.toNat)) (by
   have:k.toNat<ns.length:=by lia
   simp[cell,this])
  rw[show((k.toNat:Nat):Int)=k by lia] at e
  exact e
 ·have k_:¬k< (ns.length:Int):=fun z=>h (zqT z);have e:cell ns k.toNat=0:=by
   have z:ns[k.toNat]?=none:=List.getElem?_eq_none_iff.mpr (by lia)
   unfold cell;rw[List.getD_eq_getElem?_getD,z];rfl
  rw[e] at q;exact q
def SG:Str:=" !\"#$&'()*+,-./0123456789:;<=>?@ABCDEFGHIJKLMNOPQRSTUVWXYZ[\\]^_`abcdefghijklmnopqrstuvwxyz{|}~\n"
def good(x:Str):Prop:=x.length<=1000000/\∀c∈x.cps.toList,SG.cps.contains c=true
theorem takeWhile_all{α:Type}(p:α->Bool):∀l:List α,(∀c∈l,p c=true)->l.takeWhile p=l
 |[],_=>rfl
 |c::l,h=>by rw[List.takeWhile_cons,h c zan,takeWhile_all p l fun d hd=>h d (zam _ hd)];rfl
theorem RZ(x y:Str)(h:∀c∈x.cps.toList,y.cps.contains c=true):Txt.lstripChars x y="":=by
 have e0:stripLo y.cps.contains true x=x.length:=by
  unfold stripLo;rw[if_pos rfl,takeWhile_all _ _ h]
  simp[Str.length]
 have e1:stripHi y.cps.contains false x x.length=x.length:=rfl;unfold Txt.lstripChars Txt.stripBy stripSame stripped;rw[e0,e1]
 split
 ·rename_i hq
  simp only[zaa,beq_iff_eq] at hq
  have:x.cps= #[]:=zbp hq.1;obtain⟨c⟩:=x;have e:c= #[]:=this;subst e
  rfl
 ·show(⟨x.cps.extract x.length x.length⟩:Str)=_;have:x.cps.extract x.length x.length= #[]:=by simp[Str.length]
  rw[this];rfl
theorem rF{a:Addr}{T:Ty}{k:Bool->Prop}(h:H a=some (.tup xs))(q:k (T==.tuple)):bI T (.ref a) H k:=by
 show(match H a with|some (.lst _)=>k (T==.list)|some (.bJ _<|.lst _)=>k (T==.list)|some (.tup _)=>k (T==.tuple)|some (.dK _)=>k (T==.dict)|some (.dT _)=>k (T==.dict)|_=>False)
 rw[h];exact q
theorem R0{a:Addr}{T:Ty}{k:Bool->Prop}(h:H a=some (.lst xs))(q:k (T==.list)):bI T (.ref a) H k:=by
 show(match H a with|some (.lst _)=>k (T==.list)|some (.bJ _<|.lst _)=>k (T==.list)|some (.tup _)=>k (T==.tuple)|some (.dK _)=>k (T==.dict)|some (.dT _)=>k (T==.dict)|_=>False)
 rw[h];exact q
abbrev gS:List (Str×V):=[("SIGNS",.str SG)]
def R1:Sp:=fun vs H Q E=>∃x,vs=[.str x]/\good x/\Q (.bl true) H
theorem R6{K:Frag}(vs:List V)(H:Hp)(Q:VK)(E:XK)(h:R1 vs H Q E):aB (aK K [] gS (E:=E)) vS {nx:=fun _ H'=>Q .az H',rt:=Q} (start gY vs) H:=by
 obtain⟨x,rfl,hx,q⟩:=h;refine⟨_,rfl,rfl,_,rfl,d6 ⟨_,rfl,rfl,bE hx.1,?_⟩⟩;show Q (.bl<|false ^^ decide (V.str (Txt.lstripChars x SG)=V.str "")) H;rw[RZ x SG hx.2,zqT rfl];exact q
def dw:Pt->Prop|.keep n=>1<=n|.put s=>good s/\s≠"" |.cut s=>good s/\s≠""
def R7(K:Frag):Sp:=fun vs H Q E=>∃w p xs,vs=[.str w,.ref p]/\aO K H p xs/\xs.all fi=true/\Q (.bl<|eO (.str w) xs) H
theorem R8{K:Frag}(vs:List V)(H:Hp)(Q:VK)(E:XK)(h:R7 K vs H Q E):aB (aK K [] [] (E:=E)) vR {nx:=fun _ H'=>Q .az H',rt:=Q} (start vQ vs) H:=by
 obtain⟨w,p,xs,rfl,hp,hf,q⟩:=h;exact⟨_,rfl,rfl,_,rfl,d6 ⟨_,rfl,_,rfl,p,xs,rfl,.inr hp,rfl,hf,q⟩⟩
def wo:Sp:=fun vs H Q E=>∃v p,vs=[v]/\iP H v p/\dw p/\∀H',aF H H'->Q (.bl true) H'
def chainOk:Str->List Pt->Bool
 |_,[]=>true
 |a,p::r=>eB p.word a && chainOk p.word r
def iQ(a:Str)(ps:List Pt):Nat->Str
 | 0=>a
 |i+1=>match ps[i]? with|some p=>p.word|none=> ""
theorem wq:∀(ps:List Pt) (a:Str) (i:Nat) (p:Pt),chainOk a ps=true->ps[i]?=some p->eB p.word (iQ a ps i)=true
 |[],_,_,_,_,h=>by simp at h
 |q::r,a,0,p,h,e=>by
  simp only[chainOk,zaa] at h
  simp at e;subst e;exact h.1
 |q::r,a,i+1,p,h,e=>by
  simp only[chainOk,zaa] at h
  have e':r[i]?=some p:=by simpa using e
  have ih:=wq r q.word i p h.2 e';cases i with
  |zero=>simpa[iQ] using ih
  |succ i=>simpa[iQ] using ih
abbrev R9:List (Str×Sp):=[("is_part",wo),("may_follow",EZ)]
def E1:Sp:=fun vs H Q E=>∃a xs ps,vs=[.ref a]/\H a=some (.lst xs)/\bH H xs ps/\(∀p∈ps,dw p)/\chainOk "" ps=true/\∀H',aF H H'->Q .az H'
theorem R_{K:Frag}{et:List (Str×Addr)}(vs:List V)(H:Hp)(Q:VK)(E:XK)(h:E1 vs H Q E):aB (aK K R9 [] (et:=et) (E:=E)) BS {nx:=fun _ H'=>Q .az H',rt:=Q} (start BR vs) H:=by
 obtain⟨a,xs,ps,rfl,ha,cH,aH,cT,q⟩:=h;refine⟨_,rfl,rfl,R0 ha ⟨_,rfl,a,rfl,⟨_,ay.of ha⟩,km (K:=K) (a:=a) (xs:=xs) (fun i σ H2=>∃v,σ=[some (.ref a),some (.str (iQ "" ps i)),v]/\aF H H2) ⟨none,rfl,aF.refl _⟩
  (fun i σ H2 _ ⟨_,_,s2⟩=>ay.of (s2 _ _ ha)) ?_ ?_⟩⟩
 ·rintro i x σ H2 hi ⟨v,rfl,s2⟩;obtain⟨p,hp,jg⟩:=cH.get hi;obtain⟨b,rfl,hb⟩:=jg.mono (aU s2);refine⟨_,rfl,_,p,rfl,⟨b,rfl,hb⟩,aH p<|zap hp,fun H3 s3=>?_⟩;refine⟨_,rfl,.inr<|.inl ⟨_,_,_,_,rfl,rfl,aO.of<|s3 _ _ hb,rfl,_,rfl,p.word,_,rfl,?_⟩⟩;have e:=wq ps "" i p cT hp;show(fun c H1=>if (!c)=true then _ else _) (eB p.word<|iQ "" ps i) H3
  rw[e];refine⟨_,rfl,.inr<|.inl ⟨_,_,_,_,rfl,rfl,aO.of<|s3 _ _ hb,rfl,some<|.ref b,?_,s2.trans s3⟩⟩;show[some<|V.ref a,some<|V.str p.word,some<|V.ref b]=_;have e2:iQ "" ps (i+1)=p.word:=by simp only[iQ,hp]
  rw[e2]
 ·rintro σ H2 ⟨v,rfl,s2⟩;exact q H2 s2
def overOf(ps:List Pt):List Int:=(ps.filter fun p=>decide (p.word≠ ("put":Str))).map oO
def Sa(ps:List Pt):List Int:=(ps.filter fun p=>decide (p.word≠ ("cut":Str))).map oO
abbrev E2:List (Str×Sp):=[("need_change",E1),("part_size",jT)]
def wt:Sp:=fun vs H Q E=>∃a xs ps,vs=[.ref a]/\H a=some (.lst xs)/\bH H xs ps/\(∀p∈ps,dw p)/\chainOk "" ps=true/\ps.length<=1000000/\
 ∀t H',aF H H'->H' t=some (.tup [.int (overOf ps).sum,.int (Sa ps).sum])->Q (.ref t) H'
theorem E3{p:Pt}(h:dw p):wk p:=by
 cases p with
 |keep n=>trivial
 |put s=>exact h.1.1
 |cut s=>exact h.1.1
theorem Sb{α:Type}(p:α->Bool)(l:List α)(i:Nat)(v:α)(h:l[i]?=some v):(l.take<|i+1).filter p=(l.take i).filter p++(if p v then [v] else []):=by
 rw[List.take_add_one,h,zbs];cases hp:p v<;>simp[hp]
theorem Sd{K:Frag}(vs:List V)(H:Hp)(Q:VK)(E:XK)(h:wt vs H Q E):aB (aK K E2 [] (E:=E)) BX {nx:=fun _ H'=>Q .az H',rt:=Q} (start BW vs) H:=by
 obtain⟨a,xs,ps,rfl,ha,cH,aH,cT,hlen,q⟩:=h;refine⟨_,rfl,a,xs,ps,rfl,ha,cH,aH,cT,fun H1 s1=>?_⟩;have hl:=Paired.length cH;have comp:∀(w:Str) (H1:Hp) (Q1:VK) (σ:St),aF H H1->σ[0]?=some (some<|.ref a)->
   (∀b H2,aF H H2->H2 b=some (.lst<|((ps.filter fun p=>decide (p.word≠w)).map oO).map V.int)->Q1 (.ref b) H2)->
   aj (aK K E2 [] (E:=E)) (.comp none [] .list [.v 0] (some<|.cmp .NotEq (.ix (.v 0)<|.c<|.int 0)<|.c<|.str w)<|.call 1 [.v 0]) σ H1 Q1:=by
  intro w H1 Q1 σ s1 hσ hq;refine⟨_,hσ,a,rfl,⟨_,ay.of<|s1 _ _ ha⟩,fun i m ys H2=>m=xs.length - i/\i<=xs.length/\aF H H2/\ys=(((ps.take i).filter fun p=>decide (p.word≠w)).map oO).map V.int,⟨_,rfl,zqZ _,s1,rfl⟩,?_⟩;rintro i m ys H2 ⟨rfl,hi,s2,rfl⟩;by_cases aS:i<xs.length
  ·refine .inr ⟨⟨xs,xs[i],ay.of<|s2 _ _ ha,by simp[aS]⟩,?_⟩
   rintro x H3 ⟨rfl,hx⟩;have dD:=hx xs (ay.of<|s2 _ _ ha);obtain⟨p,hp,jg⟩:=cH.get dD;obtain⟨b,rfl,hb⟩:=jg.mono (aU s2);refine⟨_,rfl,.inr<|.inl ⟨_,_,_,_,rfl,rfl,aO.of hb,rfl,_,rfl,?_⟩⟩;rw[zaQ,gN];have tf:=Sb (fun p=>decide<|p.word≠w) ps i p hp;have hc:((ps.take i).filter fun p=>decide (p.word≠w)).length<=1000000:=zar (zbG _ _) (zar (List.length_take_le _ _) (by lia))
   refine d9 (fun h=>?_)<|fun h=>?_
   ·have e:decide (p.word≠w)=true:=by simpa using h
    refine⟨_,rfl,_,p,rfl,⟨b,rfl,hb⟩,E3<|aH p<|zap hp,?_,xs.length - (i+1),by lia,rfl,aS,s2,?_⟩
    ·rw[zai,zai];exact fE hc
    ·rw[tf,e];simp
   ·have e:decide (p.word≠w)=false:=by simpa using h
    refine⟨xs.length - (i+1),by lia,rfl,aS,s2,?_⟩
    rw[tf,e];simp
  ·have ji:i=xs.length:=by lia
   subst ji;refine .inl ⟨⟨xs,ay.of<|s2 _ _ ha,zqR _⟩,fun p hp=>?_⟩;have e:ps.take xs.length=ps:=zaC (by lia)
   rw[e];exact hq p _ (s2.trans<|sameNew hp) aG
 refine BI<|BJ<|BK<|comp "put" H1 _ _ s1 rfl fun b1 H2 s2 e2=>⟨_,ay.of e2,?_⟩;refine BI<|BJ<|BK<|comp "cut" H2 _ _ s2 rfl fun b2 H3 s3 e3=>⟨_,ay.of e3,?_⟩;refine⟨_,rfl,_,rfl,cR,fun t ht=>?_⟩;exact q t _ (s3.trans<|sameNew ht) aG
def cat(ts:List Str):Str:=Txt.join "" ts
def sz(ts:List Str):Nat:=(ts.map Str.length).sum
theorem lh(ts:List Str):(cat ts).cps.toList=(ts.map fun t=>t.cps.toList).flatten:=by
 have e:(Str.ofString "").cps= #[]:=rfl;cases ts with
 |nil=>rfl
 |cons t r=>
  show(r.foldl (fun acc p=>acc++(Str.ofString "").cps++p.cps) t.cps).toList=_;rw[e];have go:∀(r:List Str) (acc:Array Nat),(r.foldl (fun acc p=>acc++ #[]++p.cps) acc).toList=acc.toList++(r.map fun t=>t.cps.toList).flatten:=by
   intro r
   induction r with
   |nil=>intro acc;simp
   |cons q r ih=>
    intro acc;show(r.foldl (fun acc p=>acc++ #[]++p.cps)<|acc++ #[]++q.cps).toList=_;rw[ih];simp
  rw[go];simp
theorem gu{x:Str}(h:x.cps.toList=y.cps.toList):x=y:=by
 obtain⟨x⟩:=x;obtain⟨y⟩:=y;exact congrArg Str.mk<|Array.toList_inj.mp h
theorem app_list(x y:Str):(x++y).cps.toList=x.cps.toList++y.cps.toList:=by
 show(x.cps++y.cps).toList=_
 simp
theorem Se(a b:List Str):cat (a++b)=cat a++cat b:=gu (by rw[app_list,lh,lh,lh];simp)
theorem Sf(x:Str):cat [x]=x:=gu (by rw[lh];simp)
theorem Sg:cat []="":=rfl
theorem len_list(x:Str):x.length=x.cps.toList.length:=by simp[Str.length]
theorem wu(ts:List Str):(cat ts).length=sz ts:=by
 rw[len_list,lh,List.length_flatten];unfold sz;rw[List.map_map]
 congr 1
theorem joinOk_of{ts:List Str}(h:sz ts<=1000000):JoinOk "" ts=true:=by
 have go:∀(l:List Str) (n:Nat),l.foldl (· + ·.length+(Str.ofString "").length) n=n+sz l:=by
  intro l
  induction l with
  |nil=>intro n;rfl
  |cons t r ih=>
   intro n;show r.foldl _ (n+t.length+0)=_;rw[ih];show n+t.length+0+sz r=n+(t.length+sz r);lia
 unfold JoinOk;have e:ts.toArray.foldl (· + ·.length+(Str.ofString "").length) 0=sz ts:=by
  rw[List.foldl_toArray,go,zaS]
 rw[e];show(!decide (sz ts>sizeLine))=true;rw[zqF (by have:=bE h;lia)]
 rfl
def txt(mk:Str->Pt)(x:Str):List Pt:=if x="" then [] else [mk x]
def gw(ch:List Pt)(n:Int):List Pt:=match ch.getLast? with
 |some (.keep m)=>ch.dropLast++[.keep<|n+m]
 |_=>ch++[.keep n]
theorem Sh(ch:List Pt)(n:Int):(gw ch n).length<=ch.length+1:=by
 unfold gw
 split
 ·simp only[zqA,List.length_dropLast,zbE];lia
 ·simp
def A1:Str:=" !\"#$&'()*+,-./0123456789:;<=>?@ABCDEFGHIJKLMNOPQRSTUVWXYZ[\\]^_`"
def rG(al:Str):Prop:=0<al.length/\al.length<=1000/\∀c∈al.cps.toList,SG.cps.contains c=true
theorem E4{al:Str}(h:(decide (0<al.length) && decide (al.length<=1000) && al.cps.toList.all fun c=>SG.cps.contains c)=true):rG al:=by
 simp only[zaa,decide_eq_true_eq,zaV] at h
 exact⟨h.1.1,h.1.2,h.2⟩
def rH(t:Str):Prop:=t.length=1/\∀c∈t.cps.toList,SG.cps.contains c=true
abbrev Dn(Q:VK):Ends:={nx:=fun _ H'=>Q .az H',rt:=Q}
abbrev bF(sp:Sp)(Γ:XK->bf)(b:List RS)(N:List Str):Prop:= ∀vs H Q E,sp vs H Q E->aB (Γ E) b (Dn Q) (start N vs) H
theorem E5(x y:Str):(x++y).length=x.length+y.length:=by rw[len_list,app_list,zqA,<-len_list,<-len_list]
def Si:Pt->Bool|.keep _=>true|_=>false
theorem rJ{ch:List Pt}{n:Int}(h:∀p,ch.getLast?=some p->Si p=false):gw ch n=ch++[.keep n]:=by
 unfold gw
 split
 ·rename_i m e
  have:=h _ e;cases this
 ·rfl
theorem wx(ch:List Pt)(m n:Int):gw (ch++[.keep m]) n=ch++[.keep<|n+m]:=by
 unfold gw;rw[List.getLast?_append]
 simp
theorem txt_nil(mk:Str->Pt):txt mk ""=[]:=if_pos rfl
theorem cg{mk:Str->Pt}{x:Str}(h:x≠""):txt mk x=[mk x]:=if_neg h
def sg(x:Str):Prop:= ∀c∈x.cps.toList,SG.cps.contains c=true
theorem E6{x:Str}(a:sg x)(b:sg y):sg (x++y):=fun c hc=>by
 rw[app_list] at hc;rcases zao.mp hc with z|z
 ·exact a c z
 ·exact b c z
theorem rK:sg (Str.ofString ""):=fun c hc=>by cases hc
def Sj:Pt->PyData|.keep n=>.int n|.put s=>.str s|.cut s=>.str s
def toD(p:Pt):PyData:=.tuple [.str p.word,Sj p]
def dY:Pt->Prop|.keep _=>True|.put s=>sg s|.cut s=>sg s
theorem wy{x:Str}(h:sg x):PyData.strOk x=true:=by
 have small:∀c,SG.cps.contains c=true->c<0x110000:=by
  have all:SG.cps.toList.all (fun c=>decide<|c<0x110000)=true:=by decide+kernel
  intro c hc;have hm:c∈SG.cps.toList:=by simpa using hc
  exact of_decide_eq_true<|zaV.mp all c hm
 unfold PyData.strOk;rw[Array.all_eq_true'];intro c hc;exact zqT<|small c<|h c (by simpa using hc)
theorem toD_ok{p:Pt}(h:dY p):(toD p).canLay0=true/\(toD p).depth=1:=by
 cases p with
 |keep n=>exact⟨(by show(PyData.strOk (Str.ofString "keep") && (true && true))=true;decide+kernel),rfl⟩
 |put s=>
  refine⟨?_,rfl⟩;show(PyData.strOk (Str.ofString "put") && (PyData.strOk s && true))=true;rw[wy h];decide+kernel
 |cut s=>
  refine⟨?_,rfl⟩;show(PyData.strOk (Str.ofString "cut") && (PyData.strOk s && true))=true;rw[wy h];decide+kernel
theorem E7:∀(ps:List Pt),(∀p∈ps,dY p)->PyData.canLayAll0 (ps.map toD)=true/\PyData.depthAll (ps.map toD)<=1
 |[],_=>⟨rfl,zqZ _⟩
 |p::r,h=>by
  obtain⟨a,b⟩:=toD_ok (h p zan);obtain⟨c,d⟩:=E7 r fun q hq=>h q (zam _ hq);refine⟨?_,?_⟩
  ·show((toD p).canLay0 && PyData.canLayAll0 (r.map toD))=true;rw[a,c];rfl
  ·show max (toD p).depth (PyData.depthAll<|r.map toD)<=1;rw[b];lia
theorem Sk{ps:List Pt}(h:∀p∈ps,dY p):SeqAt.shaped (.list<|ps.map toD)=true:=by
 obtain⟨c,d⟩:=E7 ps h;unfold SeqAt.shaped;have e:(PyData.list<|ps.map toD).canLay0=true:=c;have e2:(PyData.list<|ps.map toD).depth<=64:=by show PyData.depthAll (ps.map toD)+1<=64;lia
 rw[e,zqT e2];rfl
theorem E8{H:Hp}:∀{vs:List V}{ps:List Pt},bH H vs ps->IsL H (ps.map toD) vs
 |_,_,.nil=>rfl
 |_,_,.cons (a:=v) (b:=p) ⟨a,e,h⟩ r=>by
  refine⟨v,_,rfl,?_,E8 r⟩;refine⟨a,_,e,h,.str p.word,[p.val],rfl,rfl,p.val,[],rfl,?_,rfl⟩;cases p<;>rfl
def Pt.wz:Pt->Pt|.keep n=>.keep n|.put s=>.cut s|.cut s=>.put s
def E9(ps:List Pt):List Pt:=ps.map Pt.wz
inductive Run:List Nat->List Pt->List Nat->Prop
 |nil:Run [] [] []
 |keep {a l r:List Nat}{n:Int}{ps:List Pt}:n=a.length->Run l ps r->Run (a++l) (.keep n::ps) (a++r)
 |put {s:Str}{l r:List Nat}{ps:List Pt}:Run l ps r->Run l (.put s::ps) (s.cps.toList++r)
 |cut {s:Str}{l r:List Nat}{ps:List Pt}:Run l ps r->Run (s.cps.toList++l) (.cut s::ps) r
theorem Run.wz{ps:List Pt}(h:Run l ps r):Run r (E9 ps) l:=by
 induction h with
 |nil=>exact .nil
 |keep e _ ih=>exact .keep e ih
 |put _ ih=>exact .cut ih
 |cut _ ih=>exact .put ih
theorem Run.app{l' r':List Nat}{ps qs:List Pt}(h:Run l ps r)(h':Run l' qs r'):Run (l++l') (ps++qs) (r++r'):=by
 induction h with
 |nil=>exact h'
 |keep e _ ih=>rw[zat,zat];exact .keep e ih
 |put _ ih=>rw[zat];exact .put ih
 |cut _ ih=>rw[zat];exact .cut ih
theorem Run.over{ps:List Pt}(h:Run l ps r):(overOf ps).sum=l.length:=by
 induction h with
 |nil=>rfl
 | @keep a l r n ps e _ ih=>
  have e2:overOf (.keep n::ps)=n::overOf ps:=rfl;rw[e2,zbt,ih,e,zqA]
  simp
 | @put s l r ps _ ih=>
  have e2:overOf (.put s::ps)=overOf ps:=rfl;rw[e2,ih]
 | @cut s l r ps _ ih=>
  have e2:overOf (.cut s::ps)=(s.length:Int)::overOf ps:=rfl;rw[e2,zbt,ih,zqA,len_list]
  simp
theorem E_{s:Str}:Run [] (txt .put s) s.cps.toList:=by
 by_cases h:s=""
 ·rw[h,txt_nil];exact .nil
 ·rw[cg h];have:=Run.put (s:=s) Run.nil
  rwa [zae] at this
theorem Sl{s:Str}:Run s.cps.toList (txt .cut s) []:=by
 have:=(E_ (s:=s)).wz;have e:E9 (txt .put s)=txt .cut s:=by
  unfold txt;split<;>rfl
 rwa [e] at this
def One:Pt->List Nat->List Nat->Prop
 |.keep n,l,q=>l=q/\n=l.length
 |.put s,l,q=>l=[]/\q=s.cps.toList
 |.cut s,l,q=>l=s.cps.toList/\q=[]
theorem Sm{p:Pt}{q:List Nat}{ps:List Pt}(h:Run l (p::ps) q):∃l1 l2 q1 q2,l=l1++l2/\q=q1++q2/\Run l2 ps q2/\
  One p l1 q1:=by
 cases h with
 |keep e h=>exact⟨_,_,_,_,rfl,rfl,h,rfl,e⟩
 |put h=>exact⟨[],_,_,_,rfl,rfl,h,rfl,rfl⟩
 |cut h=>exact⟨_,_,[],_,rfl,rfl,h,rfl,rfl⟩
theorem Fb{x:Str}{a b c:List Nat}(h:x.cps.toList=a++(b++c))(n:Int)(hn:n=b.length):gg x (some (a.length:Int)) (some<|(a.length:Int)+n)=⟨b.toArray⟩:=by
 have e1:(a.length:Int)+n=((a.length+b.length:Nat):Int):=by rw[hn];simp
 unfold gg iz;rw[e1,HT.jx,HT.jx,h];have l1:(a++(b++c)).length=a.length+(b.length+c.length):=by simp
 rw[l1];have m1:min a.length (a.length+(b.length+c.length))=a.length:=by lia
 have m2:min (a.length+b.length) (a.length+(b.length+c.length))=a.length+b.length:=by lia
 rw[m1,m2,zaT,show a.length+b.length - a.length=b.length by lia,zbu]
theorem mR{k:Str}{v:V}{r:List (Str×V)}:((k,v)::r).lookup k=some v:=by simp[List.lookup]
theorem fR{k j:Str}{v:V}{r:List (Str×V)}(h:¬k=j):((j,v)::r).lookup k=r.lookup k:=by
 have:(k==j)=false:=by simpa using h
 simp[List.lookup,this]
theorem Sn{k:Str}{v w:V}{r:List (Str×V)}:bO k v ((k,w)::r)=(k,v)::r:=by simp[bO]
theorem iR{k j:Str}{v w:V}{r:List (Str×V)}(h:¬j=k):bO k v ((j,w)::r)=(j,w)::bO k v r:=by simp[bO,h]
end L2.B
variable {ps:List L2.B.Pt}
namespace L2.B
open PySem PySem.Spec PyProof.Rows
theorem fF{K:Frag}{sd:Addr->List (Key×V)->Prop}{a:Addr}{i:Int}{v:V}(h:H a=some (.lst xs))(e:dX xs i=some v)(q:Q v H):ja K sd (.ref a) (.int i) H Q:=
 .inl ⟨_,_,_,_,rfl,rfl,ay.of h,e,q⟩
def rM:Sp:=fun vs H Q E=>∃(a:Addr) (xs:List Int) (most:Int),vs=[.ref a,.int most]/\H a=some (.lst<|xs.map V.int)/\mQ xs/\Q (.int<|cw xs most) H
theorem So{K:Frag}(vs:List V)(H:Hp)(Q:VK)(E:XK)(h:rM vs H Q E):aB (aK K [] [] (E:=E)) B_ {nx:=fun _ H'=>Q .az H',rt:=Q} (start B9 vs) H:=by
 obtain⟨a,xs,most,rfl,ha,hr,q⟩:=h;have hc:=wc xs most;refine⟨_,rfl,.inl ⟨_,ay.of ha,?_⟩⟩;rw[zai];refine⟨fun m σ H'=>∃(lo hi:Nat) (w:Option V),m=hi - lo/\σ=[some (.ref a),some (.int most),some (.int lo),some (.int hi),w]/\lo<=cw xs most/\cw xs most<=hi/\hi<=xs.length/\H'=H,
  ⟨_,0,xs.length,none,rfl,rfl,zqZ _,hc,zqR _,rfl⟩,?_⟩
 rintro m σ H' ⟨lo,hi,w,rfl,rfl,h1,h2,h3,rfl⟩;refine⟨_,rfl,_,rfl,trivial,_,rfl,?_⟩;refine d9 (fun h=>?_)<|fun h=>?_
 ·have aS:(lo:Int) < (hi:Int):=of_decide_eq_true h;refine⟨_,fun σ' Fc q=>q,?_⟩;refine⟨_,rfl,_,rfl,⟨by decide,by decide⟩,?_⟩
  have hk:(lo+hi) / 2<xs.length:=by lia
  generalize YJ:(lo+hi) / 2=k at hk;have hm:((lo:Int)+(hi:Int)) / 2=(k:Int):=by lia
  show aB _ _ _ [some<|V.ref a,some<|V.int most,some<|V.int lo,some<|V.int hi,some<|V.int<|((lo:Int)+(hi:Int)) / 2] _;rw[hm];have gk:xs[k]?=some xs[k]:=zaD hk;have ik:dX (xs.map V.int) (k:Int)=some (.int xs[k]):=fh (by rw[zag,gk];rfl)
  refine⟨_,rfl,_,rfl,fF ha ik ⟨_,rfl,trivial,_,rfl,?_⟩⟩;refine d9 (fun g=>?_)<|fun g=>?_
  ·have hle:xs[k]<=most:=of_decide_eq_true g;exact⟨_,rfl,hi - (k+1),by lia,k+1,hi,some<|V.int k,rfl,rfl,wg hr gk hle,h2,h3,rfl⟩
  ·have hle:¬xs[k]<=most:=fun z=>g (zqT z);exact⟨_,rfl,k - lo,by lia,lo,k,some<|V.int k,rfl,rfl,h1,EV hr gk hle,by lia,rfl⟩
 ·have hle:¬(lo:Int) < (hi:Int):=fun z=>h (zqT z);have e:cw xs most=lo:=by lia
  rw[e] at q;exact⟨_,rfl,q⟩
theorem Sq{T:Ty}{v:V}{P Q:Bool->Prop}(h:bI T v H P)(i:∀b,P b->Q b):bI T v H Q:=by
 cases v with
 |ref a=>
  unfold bI at h⊢
  simp only at h⊢
  split at h
  all_goals first|exact i _ h|exact h.elim
 |az=>exact i _ h
 |bl b=>exact i _ h
 |int _=>exact i _ h
 |str _=>exact i _ h
 |_=>exact False.elim h
theorem Sr{T:Ty}{v:V}{P:Bool->Prop}(h:bI T v H P)(s:aF H H'):bI T v H' P:=by
 cases v with
 |ref a=>
  unfold bI at h⊢
  simp only at h⊢
  cases e:H a with
  |none=>rw[e] at h;exact h.elim
  |some o=>rw[e] at h;rw[s _ _ e];exact h
 |az=>exact h
 |bl b=>exact h
 |int _=>exact h
 |str _=>exact h
 |_=>exact False.elim h
def gy(T:Ty)(v:V)(H:Hp):Prop:=bI T v H fun b=>b=false
theorem gy.same{T:Ty}{v:V}(h:gy T v H)(s:aF H H'):gy T v H':=Sr h s
theorem gy.go{T:Ty}{v:V}{Q:Bool->Prop}(h:gy T v H)(q:Q false):bI T v H Q:=Sq h fun b e=>by rw[e];exact q
def Ss(x:Str):Bool:=x.cps.toList.all fun c=>SG.cps.contains c
theorem Fd{α:Type}(p:α->Bool):∀l:List α,l.all p=false->(l.takeWhile p).length<l.length
 |[],h=>by cases h
 |c::l,h=>by
  rw[List.takeWhile_cons];cases hc:p c with
  |false=>simp
  |true=>
   rw[zaU,hc,Bool.true_and] at h;have:=Fd p l h
   simp;lia
theorem Su(x y:Str)(h:(x.cps.toList.all fun c=>y.cps.contains c)=false):Txt.lstripChars x y≠"":=by
 have lt:=Fd _ _ h;have e0:stripLo y.cps.contains true x=(x.cps.toList.takeWhile y.cps.contains).length:=by
  unfold stripLo;rw[if_pos rfl]
 have e1:∀n,stripHi y.cps.contains false x n=x.length:=fun n=>rfl;intro z;have z2:=congrArg Str.length z;have l0:(Str.ofString "").length=0:=rfl;rw[l0] at z2;unfold Txt.lstripChars Txt.stripBy stripSame stripped at z2;rw[e0,e1] at z2;have hx:x.cps.size=x.cps.toList.length:=by simp
 split at z2
 ·have:x.cps.size=0:=z2;lia
 ·have z3:(x.cps.extract (x.cps.toList.takeWhile y.cps.contains).length x.cps.size).size=0:=z2;rw[Array.size_extract,Nat.min_self] at z3;have z4:x.cps.size - (List.takeWhile (fun c=>y.cps.contains c) x.cps.toList).length=0:=z3;lia
def lA(v:V)(H:Hp):Prop:=(∃x,v=.str x/\x.length<=1000000/\Ss x=false)\/gy .str v H
theorem lA.same{v:V}(h:lA v H)(s:aF H H'):lA v H':=by
 rcases h with h|h
 ·exact .inl h
 ·exact .inr (h.same s)
def mS(v:V)(H:Hp):Prop:=(∃b,v=.bl b)\/gy .int v H
theorem mS.same{v:V}(h:mS v H)(s:aF H H'):mS v H':=by
 rcases h with h|h
 ·exact .inl h
 ·exact .inr (h.same s)
def rN:Sp:=fun vs H Q E=>∃v,vs=[v]/\((∃i,v=.int i/\Q (.bl true) H)\/(mS v H/\Q (.bl false) H))
theorem Sv{K:Frag}:bF (rN) (fun E=>aK K [] [] (E:=E)) BL gY:=by
 intro vs H Q E h;obtain⟨v,rfl,⟨i,rfl,q⟩|⟨⟨b,rfl⟩|hn,q⟩⟩:=h
 ·exact⟨_,rfl,rfl,_,rfl,d6 ⟨_,rfl,rfl,q⟩⟩
 ·exact⟨_,rfl,rfl,_,rfl,d6 ⟨_,rfl,rfl,q⟩⟩
 ·exact⟨_,rfl,rfl,hn.go ⟨_,rfl,iw q⟩⟩
def wA:Sp:=fun vs H Q E=>∃v,vs=[v]/\((∃x,v=.str x/\good x/\Q (.bl true) H)\/(lA v H/\Q (.bl false) H))
theorem Sw{K:Frag}:bF (wA) (fun E=>aK K [] gS (E:=E)) vS gY:=by
 intro vs H Q E h;obtain⟨v,rfl,⟨x,rfl,hx,q⟩|⟨⟨x,rfl,hl,hx⟩|hn,q⟩⟩:=h
 ·exact R6 _ _ _ _ ⟨x,rfl,hx,q⟩
 ·refine⟨_,rfl,rfl,_,rfl,d6 ⟨_,rfl,rfl,bE hl,?_⟩⟩;show Q (.bl<|false ^^ decide (V.str (Txt.lstripChars x SG)=V.str "")) H;rw[zqF<|fun z=>Su x SG hx (by injection z)]
  exact q
 ·exact⟨_,rfl,rfl,hn.go ⟨_,rfl,iw q⟩⟩
abbrev Sx:List (Str×Sp):=[("is_text",wA)]
def rO(C:Addr):Sp:=fun vs H Q E=>∃v,vs=[v]/\((∃x,v=.str x/\good x/\Q .az H)\/(lA v H/\E (.ref C) none H))
theorem Sy{K:Frag}:bF (rO C) (fun E=>aK K Sx [] (et:=[("BadText",C)]) (E:=E)) BO gY:=by
 intro vs H Q E h;obtain⟨v,rfl,⟨x,rfl,hx,q⟩|⟨hn,q⟩⟩:=h
 ·exact⟨_,rfl,_,rfl,.inl ⟨x,rfl,hx,q⟩⟩
 ·exact⟨_,rfl,_,rfl,.inr ⟨hn,gb,q⟩⟩
def Fe(K:Frag):Sp:=fun vs H Q E=>∃v p xs,vs=[v,.ref p]/\aO K H p xs/\xs.all fi=true/\((∃w,v=.str w/\Q (.bl<|eO (.str w) xs) H)\/(gy .str v H/\Q (.bl false) H))
theorem Sz{K:Frag}:bF (Fe K) (fun E=>aK K [] [] (E:=E)) vR vQ:=by
 intro vs H Q E h;obtain⟨v,p,xs,rfl,hp,hf,⟨w,rfl,q⟩|⟨hn,q⟩⟩:=h
 ·exact R8 _ _ _ _ ⟨w,p,xs,rfl,hp,hf,q⟩
 ·exact⟨_,rfl,rfl,hn.go ⟨_,rfl,iw q⟩⟩
def SA(v:V)(H:Hp):Prop:=gy .tuple v H\/∃a xs,v=.ref a/\H a=some (.tup xs)/\xs.length<=1000000/\(xs.length≠2\/∃w t,xs=[w,t]/\
 (gy .str w H\/(∃s,w=.str s/\s≠"keep"/\s≠"cut"/\s≠"put")\/(w=.str "keep"/\(mS t H\/∃n,t=.int n/\n<1))\/((w=.str "cut"\/w=.str "put")/\(lA t H\/t=.str ""))))
abbrev rP(K:Frag):List (Str×Sp):=[("is_word",Fe K),("is_whole",rN),("is_text",wA)]
def Ff:Sp:=fun vs H Q E=>∃v,vs=[v]/\((∃p,iP H v p/\dw p/\∀H',aF H H'->Q (.bl true) H')\/(SA v H/\∀H',aF H H'->Q (.bl false) H'))
theorem Fg(s t:Str):eO (.str s) [.str t]=(t==s):=by
 unfold eO;show(eN (.str t) (.str s)||false)=_;rw[zbk];rfl
theorem SD{K:Frag}:bF (Ff) (fun E=>aK K (rP K) [] (E:=E)) rg gY:=by
 intro vs H Q E h;have two:∀(a:Addr) (w t:V) (Q1:VK) (H1:Hp) (σ:St),σ[0]?=some (some<|.ref a)->H1 a=some (.tup [w,t])->
   (∀(tt:Addr) H2,aF H1 H2->∀b:Bool,(b=true->w=.str "cut"\/w=.str "put")->(b=false->w≠ .str "cut"/\w≠ .str "put")->Q1 (.bl b) H2)->(gy .str w H1\/∃s,w=.str s)->
   aj (aK K (rP K) [] (E:=E)) (.call 0 [(.ix (.v 0)<|.c<|.int 0),(.tup [(.c<|.str "cut"),(.c<|.str "put")])]) σ H1 Q1:=by
  intro a w t Q1 H1 σ h0 ha q hw;refine⟨_,h0,.inr<|.inl ⟨_,_,_,_,rfl,rfl,aO.of ha,rfl,cR,fun t ht=>?_⟩⟩;have s2:=sameNew (o:=.tup [V.str "cut",V.str "put"]) ht;refine⟨w,t,_,rfl,aO.of aG,rfl,?_⟩;rcases hw with hw|⟨s,rfl⟩
  ·refine .inr ⟨hw.same s2,q t _ s2 false (fun z=>by cases z) fun _=>⟨?_,?_⟩⟩
   ·rintro rfl;cases (show true=false from hw)
   ·rintro rfl;cases (show true=false from hw)
  ·refine .inl ⟨s,rfl,q t _ s2 _ (fun z=>?_) fun z=>?_⟩
   ·have z':((Str.ofString "cut"==s)||((Str.ofString "put"==s)||false))=true:=z
    simp only[zbk,zbo,beq_iff_eq] at z'
    rcases z' with z'|z'<;>subst z'
    ·exact .inl rfl
    ·exact .inr rfl
   ·have z':((Str.ofString "cut"==s)||((Str.ofString "put"==s)||false))=false:=z
    simp only[zbk,Bool.or_eq_false_iff,beq_eq_false_iff_ne] at z'
    exact⟨fun y=>z'.1 (by injection y with y;exact y.symm),fun y=>z'.2 (by injection y with y;exact y.symm)⟩
 obtain⟨v,rfl,⟨p,⟨a,rfl,ha⟩,hp,q⟩|⟨hn|⟨a,xs,rfl,ha,hl,hb⟩,q⟩⟩:=h
 ·refine⟨_,rfl,rfl,rF ha ⟨_,rfl,.inr ⟨_,aO.of ha,_,rfl,?_⟩⟩⟩;refine⟨_,rfl,.inr<|.inl ⟨_,_,_,_,rfl,rfl,aO.of ha,rfl,gb,fun t1 wB=>?_⟩⟩;have s1:=sameNew (o:=.tup [V.str "keep"]) wB;refine⟨.str p.word,t1,[.str "keep"],rfl,aO.of aG,rfl,.inl ⟨p.word,rfl,?_⟩⟩;have dZ:=s1 _ _ ha;generalize upd H t1 (.tup [V.str "keep"])=H1 at s1 dZ;have fin:∀(s:Str),good s->s≠""->H1 a=some (.tup [.str p.word,.str s])->p.word="put"\/p.word="cut"->aB (aK K (rP K) [] (E:=E)) (rg.drop 2) (Dn Q) (start gY [.ref a]) H1:=by
   intro s gs ns hs hw;refine two a (.str p.word) (.str s) _ H1 _ rfl hs (fun tt H2 s2 b mT rQ=>?_)<|.inr ⟨_,rfl⟩;have eb:b=true:=by
    cases b with
    |true=>rfl
    |false=>
     obtain⟨z1,z2⟩:=rQ rfl;rcases hw with z|z
     ·exact absurd (congrArg V.str z) z2
     ·exact absurd (congrArg V.str z) z1
   subst eb;have rR:=s2 _ _ hs;refine⟨_,rfl,d6 ⟨_,rfl,.inr<|.inl ⟨_,_,_,_,rfl,rfl,aO.of rR,rfl,.str s,rfl,.inl ⟨s,rfl,gs,_,rfl,?_⟩⟩⟩⟩;refine d6 ⟨_,rfl,.inr<|.inl ⟨_,_,_,_,rfl,rfl,aO.of rR,rfl,?_⟩⟩;show Q (.bl<|true ^^ decide (V.str s=V.str "")) _;rw[zqF<|fun z=>ns (by injection z)]
   exact q _<|s1.trans s2
  cases p with
  |keep n=>
   rw[show eO (.str (Pt.keep n).word) [.str "keep"]=true by show eO (.str "keep") [.str "keep"]=true;decide]
   refine⟨_,rfl,.inr<|.inl ⟨_,_,_,_,rfl,rfl,aO.of dZ,rfl,.int n,rfl,.inl ⟨n,rfl,_,rfl,?_⟩⟩⟩;refine d6 ⟨_,rfl,.inr<|.inl ⟨_,_,_,_,rfl,rfl,aO.of dZ,rfl,trivial,?_⟩⟩;show Q (.bl<|decide<|1<=n) H1;rw[zqT (show(1:Int)<=n from hp)]
   exact q _ s1
  |put s=>
   rw[show eO (.str (Pt.put s).word) [.str "keep"]=false by show eO (.str "put") [.str "keep"]=false;decide]
   exact fin s hp.1 hp.2 dZ<|.inl rfl
  |cut s=>
   rw[show eO (.str (Pt.cut s).word) [.str "keep"]=false by show eO (.str "cut") [.str "keep"]=false;decide]
   exact fin s hp.1 hp.2 dZ<|.inr rfl
 ·exact⟨_,rfl,rfl,hn.go<|q _<|aF.refl _⟩
 ·refine⟨_,rfl,rfl,rF ha ⟨_,rfl,.inr ⟨_,aO.of ha,_,rfl,?_⟩⟩⟩;show if (true ^^ decide (V.int (xs.length:Int)=V.int 2))=true then _ else _
  rcases hb with hb|⟨w,t,rfl,hb⟩
  ·rw[zqF<|fun z=>hb (by injection z with z;lia)]
   exact q _<|aF.refl _
  ·refine⟨_,rfl,.inr<|.inl ⟨_,_,_,_,rfl,rfl,aO.of ha,rfl,gb,fun t1 wB=>?_⟩⟩;have s1:=sameNew (o:=.tup [V.str "keep"]) wB;refine⟨w,t1,[.str "keep"],rfl,aO.of aG,rfl,?_⟩;have dZ:=s1 _ _ ha;generalize upd H t1 (.tup [V.str "keep"])=H1 at s1 dZ;have no:(gy .str w H1\/∃s,w=.str s)->w≠ .str "cut"->w≠ .str "put"->aB (aK K (rP K) [] (E:=E)) (rg.drop 2) (Dn Q) (start gY [.ref a]) H1:=by
    intro hw n1 n2;refine two a w t _ H1 _ rfl dZ (fun tt H2 s2 b mT rQ=>?_) hw;have eb:b=false:=by
     cases b with
     |false=>rfl
     |true=>rcases mT rfl with z|z;exact absurd z n1;exact absurd z n2
    subst eb;exact⟨_,rfl,iw<|q _<|s1.trans s2⟩
   rcases hb with hb|⟨s,rfl,n0,n1,n2⟩|⟨rfl,hb⟩|⟨hw,hb⟩
   ·refine .inr ⟨hb.same s1,no (.inl<|hb.same s1) ?_ ?_⟩
    ·rintro rfl;cases (show true=false from hb)
    ·rintro rfl;cases (show true=false from hb)
   ·refine .inl ⟨s,rfl,?_⟩;rw[Fg,beq_eq_false_iff_ne.mpr<|Ne.symm n0];exact no (.inr ⟨s,rfl⟩) (fun z=>n1 (by injection z))<|fun z=>n2 (by injection z)
   ·refine .inl ⟨_,rfl,?_⟩;rw[show eO (.str "keep") [.str "keep"]=true by decide]
    refine⟨_,rfl,.inr<|.inl ⟨_,_,_,_,rfl,rfl,aO.of dZ,rfl,t,rfl,?_⟩⟩;rcases hb with hb|⟨n,rfl,hn⟩
    ·exact .inr ⟨hb.same s1,_,rfl,iw<|q _ s1⟩
    ·refine .inl ⟨n,rfl,_,rfl,d6 ⟨_,rfl,.inr<|.inl ⟨_,_,_,_,rfl,rfl,aO.of dZ,rfl,trivial,?_⟩⟩⟩;show Q (.bl<|decide<|1<=n) H1;rw[zqF (by lia)]
     exact q _ s1
   ·have SE:∃s,w=.str s/\(Str.ofString "keep"==s)=false:=by
     rcases hw with rfl|rfl
     ·exact⟨_,rfl,by decide⟩
     ·exact⟨_,rfl,by decide⟩
    obtain⟨s,rfl,hk⟩:=SE;refine .inl ⟨s,rfl,?_⟩;rw[Fg,hk];refine two a (.str s) t _ H1 _ rfl dZ (fun tt H2 s2 b mT rQ=>?_)<|.inr ⟨s,rfl⟩;have eb:b=true:=by
     cases b with
     |true=>rfl
     |false=>
      obtain⟨z1,z2⟩:=rQ rfl;rcases hw with z|z
      ·exact absurd z z1
      ·exact absurd z z2
    subst eb;have mU:=s2 _ _ dZ;refine⟨_,rfl,d6 ⟨_,rfl,.inr<|.inl ⟨_,_,_,_,rfl,rfl,aO.of mU,rfl,t,rfl,?_⟩⟩⟩;rcases hb with hb|rfl
    ·exact .inr ⟨hb.same<|s1.trans s2,_,rfl,iw<|q _<|s1.trans s2⟩
    ·refine .inl ⟨_,rfl,⟨by decide,fun c hc=>by cases hc⟩,_,rfl,d6 ⟨_,rfl,.inr<|.inl ⟨_,_,_,_,rfl,rfl,aO.of mU,rfl,?_⟩⟩⟩
     exact q _<|s1.trans s2
theorem SF{vs:List V}{E:XK}(h:wo vs H Q E):Ff vs H Q E:=by
 obtain⟨v,p,rfl,hp,ho,q⟩:=h;exact⟨_,rfl,.inl ⟨p,hp,ho,q⟩⟩
end L2.B
namespace L2
open PySem PySem.Spec PyProof.Rows
section
variable {Γ:bf}{D:Ends}{σ:St}{H:Hp}{r:List RS}{Q:VK}{QA:List V->Hp->Prop}{QT:Bool->Hp->Prop}
theorem ag{v:V}(h:σ[i]?=some (some v))(q:Q v H):aj Γ (.v i) σ H Q:=⟨_,h,q⟩
theorem au{v:V}(q:Q v H):aj Γ (.c v) σ H Q:=q
theorem SH(q:Q (Γ.gv j) H):aj Γ (.g j) σ H Q:=q
theorem aE{op:Operator}(h:aj Γ a σ H fun x H1=>aj Γ b σ H1 fun y H2=>i8 Γ.K op x y H2 Q):aj Γ (.bin op a b) σ H Q:=h
theorem mV{op:CmpOp}(h:aj Γ a σ H fun x H1=>aj Γ b σ H1 fun y H2=>bX Γ.K op x y H2 Q):aj Γ (.cmp op a b) σ H Q:=h
theorem aV(h:aj Γ a σ H fun x H1=>aj Γ b σ H1 fun y H2=>ja Γ.K Γ.sd x y H2 Q):aj Γ (.ix a b) σ H Q:=h
theorem SI(h:aW Γ as σ H fun vs H1=>Γ.fs j (vs++[]) H1 Q Γ.E):aj Γ (.call j as) σ H Q:=h
theorem bh(sp:Sp)(hs:Γ.fs j=sp)(h:aW Γ as σ H fun vs H1=>sp vs H1 Q Γ.E):aj Γ (.call j as) σ H Q:=by
 subst hs;refine SI ?_;have e:(fun(vs:List V) (H1:Hp)=>Γ.fs j (vs++[]) H1 Q Γ.E)=fun vs H1=>Γ.fs j vs H1 Q Γ.E:=by
  funext vs H1;rw[zae]
 rw[e];exact h
theorem oP{b:i9}(h:aW Γ as σ H fun vs H1=>jF Γ.K b vs H1 Q):aj Γ (.blt b as) σ H Q:=h
theorem gA(h:aW Γ as σ H fun xs H1=>xs.length<=sizeLine/\∀p,H1 p=none->Q (.ref p) (upd H1 p<|.tup xs)):aj Γ (.tup as) σ H Q:=h
theorem fS(h:aW Γ as σ H fun xs H1=>xs.length<=sizeLine/\∀p,H1 p=none->Q (.ref p) (upd H1 p<|.lst xs)):aj Γ (.lst as) σ H Q:=h
theorem aJ(q:QA [] H):aW Γ [] σ H QA:=q
theorem aw(h:aj Γ a σ H fun x H1=>aW Γ as σ H1 fun xs H2=>QA (x::xs) H2):aW Γ (a::as) σ H QA:=h
theorem aN(h:aj Γ e σ H fun x H1=>aB Γ r D (σ.set i<|some x) H1):aB Γ (.asg i e::r) D σ H:=h
theorem jj(h:aj Γ e σ H fun _ H1=>aB Γ r D σ H1):aB Γ (.drop e::r) D σ H:=h
theorem bU(h:aj Γ e σ H D.rt):aB Γ (.ret e::r) D σ H:=h
end
end L2
namespace L2.B
open PySem PySem.Spec PyProof.Rows
theorem Paired.app{α β:Type}{R:α->β->Prop}:∀{xs qI:List α}{ys dO:List β},Paired R xs ys->Paired R qI dO->Paired R (xs++qI) (ys++dO)
 |_,_,_,_,.nil,s=>s
 |_,_,_,_,.cons r t,s=>.cons r (Paired.app t s)
theorem Run.good(h:Run l ps r)(hl:∀c∈l,SG.cps.contains c=true)(hp:∀p∈ps,dY p):∀c∈r,SG.cps.contains c=true:=by
 induction h with
 |nil=>exact hl
 |keep e _ ih=>
  intro c hc;rcases zao.mp hc with z|z
  ·exact hl c (zao.mpr<|.inl z)
  ·exact ih (fun d hd=>hl d<|zao.mpr<|.inr hd) (fun p h=>hp p<|.tail _ h) c z
 |put _ ih=>
  intro c hc;rcases zao.mp hc with z|z
  ·exact(hp _ (.head _):sg _) c z
  ·exact ih hl (fun p h=>hp p<|.tail _ h) c z
 |cut _ ih=>exact ih (fun d hd=>hl d<|zao.mpr<|.inr hd) (fun p h=>hp p<|.tail _ h)
theorem SJ{x:Str}(k:Nat)(n:Int)(m:Nat)(hn:n=m):gg x (some (k:Int)) (some<|(k:Int)+n)=⟨((x.cps.toList.drop k).take m).toArray⟩:=by
 have e1:(k:Int)+n=((k+m:Nat):Int):=by rw[hn];simp
 unfold gg iz;rw[e1,HT.jx,HT.jx]
 congr 1
 by_cases h:k<=x.cps.toList.length
 ·rw[show min k x.cps.toList.length=k by lia]
  by_cases h2:k+m<=x.cps.toList.length
  ·rw[show min (k+m) x.cps.toList.length=k+m by lia,Nat.add_sub_cancel_left]
  ·rw[show min (k+m) x.cps.toList.length=x.cps.toList.length by lia,zaC (by rw[zas];lia),zaC (by rw[zas];lia)]
 ·rw[show min k x.cps.toList.length=x.cps.toList.length by lia,zbv,zbw (by lia),zbx,zbx]
def wC:Sp:=fun vs H Q E=>∃x a xs ps r,vs=[.str x,.ref a]/\good x/\H a=some (.lst xs)/\bH H xs ps/\(∀p∈ps,wk p)/\Run x.cps.toList ps r/\r.length<=1000000/\Q (.str ⟨r.toArray⟩) H
end L2.B
namespace L2
open PySem PySem.Spec PyProof.Rows
theorem jU{α:Type _}{p:α->Prop}:∀x∈ ([]:List α),p x:=fun _ h=>nomatch h
theorem jV{α:Type _}{p:α->Prop}{a:α}{l:List α}(h:p a)(t:∀x∈l,p x):∀x∈a::l,p x:=List.forall_mem_cons.2 ⟨h,t⟩
section
variable {P:Program}{w:World}{K:Frag}{mg:Str->Option Value}{base:Heap}{k:Nat}
theorem b7.weak{CX:bP}{f:Addr}{fd:FuncData}{ps:List Str}{a b:Sp}(A:b7 P w K mg base CX k f fd ps b)(h:∀vs H Q E,a vs H Q E->b vs H Q E):b7 P w K mg base CX k f fd ps a:=
 ⟨fun vs H Q E q=>A.len vs H Q E<|h _ _ _ _ q,fun A' outer s H args us vs Q E hr e0 hb hv hs=>A.run A' outer s H args us vs Q E hr e0 hb hv<|h _ _ _ _ hs⟩
theorem du.weak{x:Str}{a b:Sp}(T:du P w K mg base k x b)(h:∀vs H Q E,a vs H Q E->b vs H Q E):du P w K mg base k x a:=by
 obtain⟨f,fd,ps,F,r⟩:=T;exact⟨f,fd,ps,F.weak h,r⟩
open PySem.W in
theorem SK{x:Str}(X:K.In base)(G:base.Ns mainGlobals mg)(e:nsIn K mainGlobals x=some (some<|.ref C))(q:excIn K C [.type "ValueError",.type "Exception",.type "BaseException",.type "object"] "ValueError.__new__"=true):rf mg base (x,C):=by
 refine⟨_,_,_,_,⟨mg_of X G e,?_⟩,PySem.F.excBase_ValueError⟩;unfold excIn at q
 split at q
 ·rename_i dd cd sl ho
  split at q
  ·rename_i C' bm k0 k1 k2 k3 n k5 hm hs
   simp only[zaa,beq_iff_eq,zaL] at q
   obtain⟨⟨⟨⟨⟨rfl,rfl⟩,Fh⟩,ht⟩,aH⟩,qK⟩:=q;obtain⟨nm,bs,mro,ns,qn,hd,sn,sub,ab,col,del⟩:=cd
   dsimp only at hm Fh aH qK
   subst hm Fh;obtain⟨sl⟩:=sl;have rR:sl=_:=hs;subst rR;exact⟨bm,ns,nm,qn,bs,hd,sn,sub,ab,col,dd,k0,k1,k2,k3,k5,_,X _ _ ho,.of_isNs<|isNs_of_in X aH,nsMap_none_of_in X aH qK,tail_of_in X ht⟩
  ·cases q
 ·cases q
end
end L2
namespace L2.B
end L2.B
namespace L2.B
open PySem PySem.Spec PyProof.Rows
end L2.B
namespace L2
open PySem PySem.Spec PyProof.Rows
section
variable {Γ:bf}{D:Ends}{σ:St}{H:Hp}{r:List RS}{Q:VK}{QA:List V->Hp->Prop}{QT:Bool->Hp->Prop}
theorem gB{m:Str}(C:Addr)(sp:Sp)(hm:Γ.ms j=(C,sp))(h:aj Γ o σ H fun x H1=>∃a dx fs,x=.ref a/\H1 a=some (.ins C dx fs)/\fs.lookup m=none/\sp [x] H1 Q Γ.E):aj Γ (.bo j m o []) σ H Q:=by
 show ks (Γ.ms j).1 m (Γ.ms j).2 [] Γ.E (aj Γ o) (aW Γ []) σ H Q;rw[hm];exact h
theorem fU{m:Str}(C:Addr)(sp:Sp)(hm:Γ.ms j=(C,sp))(h:aj Γ o σ H fun x H1=>∃p dx fs,x=.ref p/\H1 p=some (.ins C dx fs)/\fs.lookup m=none/\aj Γ a σ H1 fun y H2=>sp [x,y] H2 Q Γ.E):aj Γ (.bo j m o [a]) σ H Q:=by
 show ks (Γ.ms j).1 m (Γ.ms j).2 [] Γ.E (aj Γ o) (aW Γ [a]) σ H Q;rw[hm];exact h
theorem wD{c:RE}(W:Nat->St->Hp->Prop)(h0:∃m,W m σ H)
  (h:∀m σ H,W m σ H->bc Γ c σ H fun b H1=>if b=true then ∃N:St->Hp->Prop,(∀σ' H',N σ' H'->∃m',m'<m/\W m' σ' H')/\aB Γ body {{D with nx:=aB Γ r D} with nx:=N,ct:=N,bk:=aB Γ r D} σ H1 else aB Γ r D σ H1):aB Γ (.jE c body::r) D σ H:=⟨W,h0,h⟩
theorem bp{c:RE}{t e:List RS}(h:bc Γ c σ H fun b H1=>if b=true then aB Γ t {D with nx:=aB Γ r D} σ H1 else aB Γ e {D with nx:=aB Γ r D} σ H1):aB Γ (.ite c t e::r) D σ H:=h
theorem ba{op:CmpOp}(h:aj Γ a σ H fun x H1=>aj Γ b σ H1 fun y H2=>bX Γ.K op x y H2 fun z H3=>∃k,z=.bl k/\QT k H3):bc Γ (.cmp op a b) σ H QT:=h
theorem bV{f:Str}(h:aj Γ o σ H fun x H1=>∃a C dx fs v,x=.ref a/\H1 a=some (.ins C dx fs)/\dh Γ.K C/\eM Γ.K C f/\fs.lookup f=some v/\Q v H1):aj Γ (.fld o f) σ H Q:=h
theorem fV{m:gR}(h:aj Γ o σ H fun x H1=>nT Γ.K (qF m) x H1/\aj Γ a σ H1 fun y H2=>oj Γ.K m x [y] H2 Q):aj Γ (.bq m o [a]) σ H Q:=h
theorem dy{K:Frag}{x:Str}(q:Q (.bl<|x==y) H):bX K .Eq (.str x) (.str y) H Q:=by
 show Q (.bl<|false ^^ decide (V.str x=V.str y)) H;rw[zaK,gN];exact q
theorem jW{K:Frag}{x:Str}(q:Q (.bl<|x !=y) H):bX K .NotEq (.str x) (.str y) H Q:=by
 show Q (.bl<|true ^^ decide (V.str x=V.str y)) H;rw[zaQ,gN];exact q
end
end L2
namespace L2.B
open PySem PySem.Spec PyProof.Rows
def wF(v:V)(lo hi:Int)(H:Hp):Prop:=mS v H\/∃i,v=.int i/\(i<lo\/hi<i)
def d0:Sp:=fun vs H Q E=>∃(v:V) (lo hi:Int),vs=[v,.int lo,.int hi]/\((∃i,v=.int i/\lo<=i/\i<=hi/\Q (.bl true) H)\/(wF v lo hi H/\Q (.bl false) H))
theorem SM{K:Frag}:bF (d0) (fun E=>aK K [("is_whole",rN)] [] (E:=E)) B7 B6:=by
 intro vs H Q E h;have chain:∀(i lo hi:Int) (b:Bool) (H:Hp),decide (lo<=i/\i<=hi)=b->Q (.bl b) H->aj (aK K [("is_whole",rN)] [] (E:=E)) (.oi .LtE .LtE (.v 1) (.v 0)<|.v 2) [some<|.int i,some<|.int lo,some<|.int hi] H Q:=by
  intro i lo hi b H hb q;refine⟨_,rfl,_,rfl,trivial,_,rfl,?_⟩;refine d9 (fun h1=>?_)<|fun h1=>?_
  ·refine⟨_,rfl,trivial,?_⟩;have jk:lo<=i:=of_decide_eq_true h1;have e:decide (i<=hi)=b:=by rw[<-hb];simp[jk]
   show Q (.bl<|decide<|i<=hi) H;rw[e];exact q
  ·have jk:¬lo<=i:=fun z=>h1 (zqT z);have e:b=false:=by rw[<-hb];simp[jk]
   have e2:decide (lo<=i)=false:=zqF jk;rw[e] at q
   first
    |exact q
    | (show Q (.bl<|decide<|lo<=i) H;rw[e2];exact q)
 obtain⟨v,lo,hi,rfl,⟨i,rfl,h1,h2,q⟩|⟨hn|⟨i,rfl,hb⟩,q⟩⟩:=h
 ·exact⟨_,rfl,_,rfl,.inl ⟨i,rfl,_,rfl,d6<|chain i lo hi true H (by simp[h1,h2]) q⟩⟩
 ·exact⟨_,rfl,_,rfl,.inr ⟨hn,_,rfl,iw q⟩⟩
 ·exact⟨_,rfl,_,rfl,.inl ⟨i,rfl,_,rfl,d6<|chain i lo hi false H (by rw[zqF];rintro⟨a,b⟩;lia) q⟩⟩
def c6(lt lb lf:Addr)(n:Int):List (Str×V):=[("texts",.ref lt),("begins",.ref lb),("feeds",.ref lf),("signs",.int n)]
theorem rS{lt:Addr}{n:Int}:(c6 lt lb lf n).lookup ("texts":Str)=some (V.ref lt):=mR
theorem wG{lt:Addr}{n:Int}:(c6 lt lb lf n).lookup ("begins":Str)=some (V.ref lb):=(fR (by decide+kernel)).trans mR
theorem wH{lt:Addr}{n:Int}:(c6 lt lb lf n).lookup ("feeds":Str)=some (V.ref lf):=(fR (by decide+kernel)).trans ((fR (by decide+kernel)).trans mR)
theorem wI{lt:Addr}{n:Int}:(c6 lt lb lf n).lookup ("signs":Str)=some (V.int n):=(fR (by decide+kernel)).trans ((fR (by decide+kernel)).trans<|(fR (by decide+kernel)).trans mR)
theorem mW{lt:Addr}{n:Int}{m:Str}(h1:¬m="texts")(h2:¬m="begins")(h3:¬m="feeds")(h4:¬m="signs"):(c6 lt lb lf n).lookup m=none:=
 (fR h1).trans ((fR h2).trans<|(fR h3).trans<|(fR h4).trans rfl)
theorem SN{lt:Addr}{n k:Int}:bO "signs" (.int k) (c6 lt lb lf n)=c6 lt lb lf k:=by
 unfold c6;rw[iR (by decide+kernel),iR (by decide+kernel),iR (by decide+kernel),Sn]
theorem SO{lt:Addr}{n:Int}:bO "signs" (.int n) (bO "feeds" (.ref lf)<|bO "begins" (.ref lb)<|bO "texts" (.ref lt) [])=c6 lt lb lf n:=by
 have e1:bO "texts" (V.ref lt) []=[(("texts":Str),V.ref lt)]:=rfl;have e2:bO "begins" (V.ref lb) []=[(("begins":Str),V.ref lb)]:=rfl;have e3:bO "feeds" (V.ref lf) []=[(("feeds":Str),V.ref lf)]:=rfl;unfold c6;rw[e1,iR (by decide+kernel),e2,iR (by decide+kernel),iR (by decide+kernel),iR (by decide+kernel),e3,iR (by decide+kernel),iR (by decide+kernel)]
 rfl
def ao(ts:List Str):List Nat:=(ts.map fun t=>t.cps.toList).flatten
theorem eY(a b:List Str):ao (a++b)=ao a++ao b:=by simp[ao]
theorem jl(t:Str):ao [t]=t.cps.toList:=by simp[ao]
def cI:List Str->Nat->List Int
 |[],_=>[]
 |t::r,k=>(k:Int)::cI r (k+t.length)
theorem Fi:∀(a b:List Str) (k:Nat),cI (a++b) k=cI a k++cI b (k+(ao a).length)
 |[],b,k=>by simp[cI,ao]
 |t::a,b,k=>by
  have ih:=Fi a b (k+t.length);have e:k+t.length+(ao a).length=k+(ao (t::a)).length:=by
   simp[ao,Str.length];lia
  rw[e] at ih
  simp only[zbe,cI,ih]
structure bB (C:Addr) (H:Hp) (p dx lt lb lf:Addr) (ts:List Str):Prop where
 ob:H p=some (.ins C dx<|c6 lt lb lf (ao ts).length)
 tx:H lt=some (.lst<|ts.map V.str)
 bg:H lb=some (.lst<|(cI ts 0).map V.int)
 fd:H lf=some (.lst<|(eA 10<|ao ts).map V.int)
 n1:lt≠lb
 n2:lt≠lf
 n3:lb≠lf
def dz(p lt lb lf:Addr)(H H':Hp):Prop:= ∀b o,H b=some o->b≠p->b≠lt->b≠lb->b≠lf->H' b=some o
theorem dz.trans{p lt:Addr}(a:dz p lt lb lf H H1)(b:dz p lt lb lf H1 H2):dz p lt lb lf H H2:=fun c o e n1 n2 n3 n4=>b c o (a c o e n1 n2 n3 n4) n1 n2 n3 n4
theorem bB.same{p lt:Addr}{ts:List Str}(S:bB C H p dx lt lb lf ts)(s:aF H H'):bB C H' p dx lt lb lf ts:=
 ⟨s _ _ S.ob,s _ _ S.tx,s _ _ S.bg,s _ _ S.fd,S.n1,S.n2,S.n3⟩
def wJ(C:Addr):Sp:=fun vs H Q E=>∃(p dx:Addr),vs=[.ref p]/\H p=some (.ins C dx [])/\∀(lt lb lf:Addr) (H':Hp),bB C H' p dx lt lb lf []->H lt=none->H lb=none->H lf=none->(∀b o,H b=some o->b≠p->H' b=some o)->Q .az H'
theorem SQ{K:Frag}(T:jM K C)(vs:List V)(H:Hp)(Q:VK)(E:XK)(h:wJ C vs H Q E):aB (aK K [] [] (E:=E)) Ca {nx:=fun _ H'=>Q .az H',rt:=Q} (start fA vs) H:=by
 obtain⟨p,dx,rfl,hp,k⟩:=h;refine⟨zqZ _,fun lt f1=>?_⟩;have jX:p≠lt:=bK hp f1;refine⟨_,rfl,p,C,dx,[],rfl,(by rw[aI jX];exact hp),T.cl,T.oH,(by show 0<1000;decide),?_⟩
 refine⟨zqZ _,fun lb f2=>?_⟩;have mX:p≠lb:=fun z=>by rw[<-z,aG] at f2;cases f2
 have rT:lt≠lb:=fun z=>by rw[<-z,aI jX.symm,aG] at f2;cases f2
 refine⟨_,rfl,p,C,dx,_,rfl,(by rw[aI mX,aG]),T.cl,T.rj,(by show 1<1000;decide),?_⟩
 refine⟨zqZ _,fun lf f3=>?_⟩;have oQ:p≠lf:=fun z=>by rw[<-z,aG] at f3;cases f3
 have wK:lb≠lf:=fun z=>by rw[<-z,aI mX.symm,aG] at f3;cases f3
 have wL:lt≠lf:=fun z=>by rw[<-z,aI jX.symm,aI rT,aI jX.symm,aG] at f3;cases f3
 refine⟨_,rfl,p,C,dx,_,rfl,(by rw[aI oQ,aG]),T.cl,T.rk,(by show 2<1000;decide),?_⟩
 refine⟨_,rfl,p,C,dx,_,rfl,aG,T.cl,T.oI,(by show 3<1000;decide),?_⟩
 have fb:H lb=none:=by
  rw[aI mX.symm,aI rT.symm] at f2;exact f2
 have ff:H lf=none:=by
  rw[aI oQ.symm,aI wK.symm,aI oQ.symm,aI wL.symm] at f3;exact f3
 refine k lt lb lf _ ⟨?_,?_,?_,?_,rT,wL,wK⟩ f1 fb ff fun b o e nb=>?_
 ·rw[aG];exact congrArg (fun l=>some<|HO.ins C dx l) SO
 ·rw[aI jX.symm,aI jX.symm,aI wL,aI jX.symm,aI rT,aI jX.symm,aG];rfl
 ·rw[aI mX.symm,aI mX.symm,aI wK,aI mX.symm,aG];rfl
 ·rw[aI oQ.symm,aI oQ.symm,aG];rfl
 ·rw[aI nb,aI nb,aI<|bK e ff,aI nb,aI<|bK e fb,aI nb,aI<|bK e f1];exact e
def wM(C:Addr):Sp:=fun vs H Q E=>∃(p dx lt lb lf:Addr) (ts:List Str),vs=[.ref p]/\bB C H p dx lt lb lf ts/\Q (.int (ao ts).length) H
theorem SR{K:Frag}(T:jM K C)(vs:List V)(H:Hp)(Q:VK)(E:XK)(h:wM C vs H Q E):aB (aK K [] [] (E:=E)) Ce {nx:=fun _ H'=>Q .az H',rt:=Q} (start fA vs) H:=by
 obtain⟨p,dx,lt,lb,lf,ts,rfl,S,q⟩:=h;exact⟨_,rfl,p,C,dx,_,_,rfl,S.ob,T.cl,T.oI,wI,q⟩
theorem SS:(Str.ofString "\n")=⟨#[10]⟩:=by rfl
def jY(l:List Nat):Int:=match l with|i::_=>(i:Int)|[]=> -1
theorem Fj(x:Str)(lo:Nat)(hl:lo<=x.length):(match Builtin.Str.occurrences x (Str.ofString "\n") lo x.length 1 with|i::_=>(i:Int)|[]=> -1)=jY (pos 10 (x.cps.toList.drop lo) lo):=by
 rw[SS,wj x 10 lo 1 hl];cases pos 10 (x.cps.toList.drop lo) lo<;>rfl
def wN(CT C:Addr):Sp:=fun vs H Q E=>∃(p dx lt lb lf:Addr) (ts:List Str) (v:V),vs=[.ref p,v]/\bB C H p dx lt lb lf ts/\((lA v H/\E (.ref CT) none H)\/∃x,v=.str x/\good x/\ts.length<=100000/\(ao ts).length<=1000000/\
 ∀H',dz p lt lb lf H H'->bB C H' p dx lt lb lf (ts++[x])->Q (.int (ao ts).length) H')
theorem wO:∀(ts:List Str) (k:Nat),(cI ts k).length=ts.length
 |[],_=>rfl
 |t::r,k=>by simp[cI,wO r]
theorem Fl(c:Nat)(a:List Nat)(k:Nat):(pos c a k).length<=a.length:=by
 rw[eW];exact zby
theorem SU{K:Frag}{CT:Addr}(T:jM K C)(vs:List V)(H:Hp)(Q:VK)(E:XK)(h:wN CT C vs H Q E):aB (aK K [("need_text",rO CT)] [] (E:=E)) Cb {nx:=fun _ H'=>Q .az H',rt:=Q} (start vU vs) H:=by
 obtain⟨p,dx,lt,lb,lf,ts,v,rfl,S,⟨hb,q⟩|⟨x,rfl,hx,ht,hs,k⟩⟩:=h
 ·exact⟨_,rfl,_,rfl,.inr ⟨hb,q⟩⟩
 have Fm:p≠lt:=tm S.ob S.tx (by intro z;cases z)
 have Fn:p≠lb:=tm S.ob S.bg (by intro z;cases z)
 have Fo:p≠lf:=tm S.ob S.fd (by intro z;cases z)
 refine⟨_,rfl,_,rfl,.inl ⟨x,rfl,hx,?_⟩⟩;refine⟨_,rfl,p,C,dx,_,_,rfl,S.ob,T.cl,T.oI,wI,?_⟩;refine⟨_,rfl,p,C,dx,_,_,rfl,S.ob,T.cl,T.oH,rS,.inl ⟨rfl,_,ay.of S.tx⟩,_,rfl,_,S.tx,fE (by simp;lia),?_⟩
 have o1:upd H lt (.lst<|ts.map V.str++[V.str x]) p=some (.ins C dx<|c6 lt lb lf (ao ts).length):=by rw[aI Fm];exact S.ob
 have o2:upd H lt (.lst<|ts.map V.str++[V.str x]) lb=some (.lst<|(cI ts 0).map V.int):=by rw[aI S.n1.symm];exact S.bg
 refine⟨_,rfl,p,C,dx,_,_,rfl,o1,T.cl,T.rj,wG,.inl ⟨rfl,_,ay.of o2⟩,_,rfl,_,o2,fE (by rw[zai,wO];lia),?_⟩
 refine⟨_,rfl,_,rfl,bE hx.1,_,rfl,p,C,dx,_,rfl,(by rw[aI Fn];exact o1),T.cl,T.oI,(by show 4<1000;decide),?_⟩
 generalize eP:upd (upd (upd H lt<|.lst<|ts.map V.str++[V.str x]) lb<|.lst<|(cI ts 0).map V.int++[V.int ((ao ts).length:Int)]) p (.ins C dx<|bO "signs" (.int<|((ao ts).length:Int)+(x.length:Int))<|c6 lt lb lf ((ao ts).length:Int))=H3;have b3:dz p lt lb lf H H3:=fun b o e n1 n2 n3 n4=>by
  rw[<-eP,aI n1,aI n3,aI n2];exact e
 have SV:H3 p=some (.ins C dx<|c6 lt lb lf<|((ao ts).length:Int)+(x.length:Int)):=by
  rw[<-eP,aG];exact congrArg (fun l=>some<|HO.ins C dx l) SN
 have SW:H3 lt=some (.lst<|ts.map V.str++[V.str x]):=by rw[<-eP,aI Fm.symm,aI S.n1,aG]
 have SX:H3 lb=some (.lst<|(cI ts 0).map V.int++[V.int ((ao ts).length:Int)]):=by rw[<-eP,aI Fn.symm,aG]
 have SY:H3 lf=some (.lst<|(eA 10<|ao ts).map V.int):=by rw[<-eP,aI Fo.symm,aI S.n3.symm,aI S.n2.symm];exact S.fd
 have oR:=len_list x;have l0:=Fl 10 (ao ts) 0;have l1:=Fl 10 x.cps.toList 0;refine⟨_,rfl,rfl,?_⟩;show aB _ _ _ ((start vU [V.ref p,V.str x]).set 2 _|>.set 3 (some<|V.int (match Builtin.Str.occurrences x (Str.ofString "\n") 0 x.length 1 with|i::_=>(i:Int)|[]=> -1))) H3
 rw[Fj x 0<|zqZ _,zaR];refine⟨fun m σ H'=>∃(done rest:List Nat),m=rest.length/\pos 10 x.cps.toList 0=done++rest/\σ=[some (.ref p),some (.str x),some (.int ((ao ts).length:Int)),some (.int (jY rest))]/\bQ lf H3 H'/\H' lf=some (.lst ((eA 10 (ao ts)++done.map fun(i:Nat)=>((ao ts).length:Int)+(i:Int)).map V.int)),
  ⟨_,[],pos 10 x.cps.toList 0,rfl,rfl,rfl,fun b o e _=>e,by rw[List.map_nil,zae];exact SY⟩,?_⟩
 rintro m σ H' ⟨done,rest,rfl,hd,rfl,b4,f4⟩;have Fp:=b4 _ _ SV Fo;refine⟨_,rfl,trivial,_,rfl,?_⟩;cases rest with
 |nil=>
  refine iF ⟨_,rfl,?_⟩;rw[zae] at hd;refine k H' (fun b o e n1 n2 n3 n4=>b4 b o (b3 b o e n1 n2 n3 n4) n4) ⟨?_,?_,?_,?_,S.n1,S.n2,S.n3⟩
  ·rw[eY,jl,zqA,<-oR,zbz];exact Fp
  ·rw[zaw];exact b4 _ _ SW S.n2
  ·rw[Fi,zaw,zaS];exact b4 _ _ SX S.n3
  ·rw[eY,jl,RU,hd];exact f4
 |cons i rest=>
  have hi:=jR 10 x.cps.toList 0 i (by rw[hd];simp)
  have hl:done.length+(rest.length+1)<=x.cps.toList.length:=by
   have:=congrArg List.length hd
   simp at this
   lia
  have k_:decide ((0:Int)<=jY (i::rest))=true:=zqT (by show(0:Int)<= (i:Int);lia)
  refine iT ?_ k_;refine⟨_,fun σ' Fc q=>q,?_⟩;refine⟨_,rfl,p,C,dx,_,_,rfl,Fp,T.cl,T.rk,wH,.inl ⟨rfl,_,ay.of f4⟩,_,rfl,_,rfl,_,f4,(by have e:sizeLine=16777216:=rfl;have:=hx.1;simp[eA];lia),?_⟩
  refine⟨_,rfl,rfl,_,rfl,?_⟩;have e1:fromIndex x.length (jY (i::rest)+1)=i+1:=by
   show fromIndex x.length ((i:Int)+1)=i+1;unfold fromIndex;rw[if_neg (by lia)];lia
  have nx:=EW 10 x.cps.toList 0 i done rest hd;rw[zbd] at nx;have e2:=Fj x (i+1) (by lia)
  rw[nx] at e2;rw[<-e1] at e2;refine⟨rest.length,zbi _,done++[i],rest,rfl,by rw[hd];simp,?_,b4.trans bQ.upd,?_⟩
  ·show[_,_,_,some<|V.int (match Builtin.Str.occurrences x (Str.ofString "\n") (fromIndex x.length<|jY (i::rest)+1) x.length 1 with|k::_=>(k:Int)|[]=> -1)]=_
   rw[e2]
  ·rw[aG]
   simp[jY]
end L2.B
namespace L2
open PySem PySem.Spec PyProof.Rows
section
variable {Γ:bf}{D:Ends}{σ:St}{H:Hp}{r:List RS}{Q:VK}{QA:List V->Hp->Prop}{QT:Bool->Hp->Prop}
theorem fG{K:Frag}{b:Bool}{QB:Bool->Prop}(h:QB b):gh K (.bl b) H QB:=h
theorem fW(h:bc Γ a σ H fun b H1=>QT (!b) H1):bc Γ (.not a) σ H QT:=h
theorem gC(sp:Sp)(hs:Γ.fs j=sp)(h:aW Γ as σ H fun vs H1=>sp vs H1 (fun x H2=>gh Γ.K x H2 fun b=>QT b H2) Γ.E):bc Γ (.call j as) σ H QT:=by
 subst hs;show aW Γ as σ H fun vs H1=>Γ.fs j (vs++[]) H1 (fun x H2=>gh Γ.K x H2 fun b=>QT b H2) Γ.E;have e:(fun(vs:List V) (H1:Hp)=>Γ.fs j (vs++[]) H1 (fun x H2=>gh Γ.K x H2 fun b=>QT b H2) Γ.E)=fun vs H1=>Γ.fs j vs H1 (fun x H2=>gh Γ.K x H2 fun b=>QT b H2) Γ.E:=by
  funext vs H1;rw[zae]
 rw[e];exact h
theorem oS(h:bc Γ a σ H fun c H1=>if c=true then QT true H1 else bc Γ b σ H1 QT):bc Γ (.or [a,b]) σ H QT:=h
theorem Fq(h:bc Γ a σ H fun c H1=>if c=true then bc Γ b σ H1 QT else QT false H1):bc Γ (.and [a,b]) σ H QT:=h
end
end L2
namespace L2.B
open PySem PySem.Spec PyProof.Rows
section
variable {Γ:bf}{σ:St}{H:Hp}{Q:VK}{QT:Bool->Hp->Prop}{K:Frag}
theorem gE{r:List RE}(h:bc Γ a σ H fun c H1=>if c=true then QT true H1 else bc Γ (.or (b::r)) σ H1 QT):bc Γ (.or (a::b::r)) σ H QT:=h
theorem jZ(h:bc Γ a σ H QT):bc Γ (.or [a]) σ H QT:=h
theorem wQ{r:List RE}(h:bc Γ a σ H fun c H1=>if c=true then bc Γ (.and (b::r)) σ H1 QT else QT false H1):bc Γ (.and (a::b::r)) σ H QT:=h
theorem S9(h:bc Γ a σ H QT):bc Γ (.and [a]) σ H QT:=h
theorem aA{sd:Addr->List (Key×V)->Prop}{a:Addr}{i:Int}{v:V}(h:H a=some (.tup xs))(e:dX xs i=some v)(q:Q v H):ja K sd (.ref a) (.int i) H Q:=
 .inr (.inl ⟨_,_,_,_,rfl,rfl,aO.of h,e,q⟩)
theorem g8{x y:Int}(q:Q (.bl<|decide<|x=y) H):bX K .Eq (.int x) (.int y) H Q:=by
 show Q (.bl<|false ^^ decide (V.int x=V.int y)) H;rw[zaK,show decide (V.int x=V.int y)=decide (x=y) from decide_eq_decide.mpr ⟨fun z=>by injection z,fun z=>by rw[z]⟩];exact q
theorem mY{x y:Int}(q:Q (.bl<|!decide (x=y)) H):bX K .NotEq (.int x) (.int y) H Q:=by
 show Q (.bl<|true ^^ decide (V.int x=V.int y)) H;rw[zaQ,show decide (V.int x=V.int y)=decide (x=y) from decide_eq_decide.mpr ⟨fun z=>by injection z,fun z=>by rw[z]⟩];exact q
theorem Fs{x:Str}(q:Q (.bl false) H):bX K .NotEq (.str x) (.str x) H Q:=by
 refine jW ?_;rw[show(x !=x)=false by simp];exact q
theorem bz{i j:Int}(h:Q (.int<|i+j) H):i8 K .Add (.int i) (.int j) H Q:=h
end
theorem S_{K:Frag}{x y:Int}(q:Q (.bl<|decide<|x<y) H):bX K .Lt (.int x) (.int y) H Q:=⟨trivial,q⟩
theorem Ta(ps:List Str)(z:Str):(cat<|ps++[z]).cps.toList=(cat ps).cps.toList++z.cps.toList:=by rw[Se,Sf,app_list]
def pre(ts:List Str)(k:Nat):Nat:=(ao<|ts.take k).length
theorem Ft(t:Str)(r:List Str):ao (t::r)=t.cps.toList++ao r:=by simp[ao]
theorem Fu{ts:List Str}{k:Nat}(h:ts.length<=k):pre ts k=(ao ts).length:=by unfold pre;rw[zaC h]
theorem Tb{ts:List Str}{k:Nat}{t:Str}(h:ts[k]?=some t):ao ts=ao (ts.take k)++(t.cps.toList++ao (ts.drop<|k+1)):=by
 obtain⟨h1,h2⟩:=zab.mp h
 conv=>lhs;rw[<-zaA k ts,zaY h1,h2]
 rw[eY,Ft]
theorem Fv{ts:List Str}{k:Nat}{t:Str}(h:ts[k]?=some t):pre ts (k+1)=pre ts k+t.length:=by
 unfold pre;rw[List.take_add_one,h,eY,zqA];show _+(ao [t]).length=_;rw[jl,len_list]
theorem Tc(ts:List Str)(k:Nat):pre ts k<= (ao ts).length:=by
 have e:ao ts=ao (ts.take k)++ao (ts.drop k):=by rw[<-eY,zaA]
 rw[e,zqA];unfold pre;lia
theorem Td(ts:List Str):pre ts 0=0:=rfl
theorem oT:∀(ts:List Str) (k j:Nat),j<ts.length->(cI ts k)[j]?=some (((k+pre ts j:Nat):Int))
 |[],k,j,h=>by cases h
 |t::r,k,0,h=>by simp[cI,pre,ao]
 |t::r,k,j+1,h=>by
  have ih:=oT r (k+t.length) j (Nat.lt_of_succ_lt_succ h);show(cI r<|k+t.length)[j]?=_;rw[ih];have:pre (t::r) (j+1)=t.length+pre r j:=by
   unfold pre;rw[List.take_succ_cons,Ft,zqA,len_list]
  rw[this];congr 1;lia
theorem Fw:∀(ts:List Str) (k:Nat),∀x∈cI ts k,(k:Int)<=x
 |[],k,x,h=>by cases h
 |t::r,k,x,h=>by
  rcases zad.mp h with rfl|h
  ·exact zaW _
  ·have:=Fw r (k+t.length) x h;lia
theorem wR:∀(ts:List Str) (k:Nat),mQ (cI ts k)
 |[],k=>List.Pairwise.nil
 |t::r,k=>List.Pairwise.cons (fun x hx=>by have:=Fw r (k+t.length) x hx;lia) (wR r<|k+t.length)
theorem Te{ts:List Str}{b:Nat}(h:b< (ao ts).length):∃k,cw (cI ts 0) (b:Int)=k+1/\k<ts.length/\pre ts k<=b/\b<=pre ts (k+1):=by
 have hl:=wO ts 0;have hc:=wc (cI ts 0) (b:Int);have hr:=wR ts 0;have Tf:0<ts.length:=by
  cases ts with
  |nil=>simp[ao] at h
  |cons t r=>exact Nat.zero_lt_succ _
 have h0:=wg (most:=(b:Int)) hr (oT ts 0 0 Tf) (by rw[Td];lia)
 obtain⟨k,hk⟩:∃k,cw (cI ts 0) (b:Int)=k+1:=⟨cw (cI ts 0) (b:Int) - 1,by lia⟩
 have Fx:k<ts.length:=by lia
 refine⟨k,hk,Fx,?_,?_⟩
 ·by_cases q:pre ts k<=b
  ·exact q
  ·have:=EV (most:=(b:Int)) hr (oT ts 0 k Fx) (by lia)
   lia
 ·by_cases q:k+1<ts.length
  ·by_cases z:b<=pre ts (k+1)
   ·exact z
   ·have:=wg (most:=(b:Int)) hr (oT ts 0 (k+1) q) (by lia)
    lia
  ·rw[Fu (by lia)];lia
theorem Tg{ts:List Str}{k c m:Nat}{t:Str}(h:ts[k]?=some t)(h1:pre ts k<=c)(h2:c<=pre ts (k+1)):(t.cps.toList.drop<|c - pre ts k).take m=((ao ts).drop c).take (min m<|pre ts (k+1) - c):=by
 rw[Tb h];have hp:=Fv h;have lt:=len_list t;have e:(ao (ts.take k)++(t.cps.toList++ao (ts.drop<|k+1))).drop c=t.cps.toList.drop (c - pre ts k)++ao (ts.drop<|k+1):=by
  rw[List.drop_append,zbw (show(ao<|ts.take k).length<=c from h1),zaO]
  show(t.cps.toList++_).drop (c - pre ts k)=_;rw[List.drop_append_of_le_length (by lia)]
 rw[e];have hl:(t.cps.toList.drop<|c - pre ts k).length=pre ts (k+1) - c:=by rw[zas];lia
 rw[zbA (by rw[hl];lia),<-hl,<-List.take_take,zaE]
theorem Th(b c m:Nat)(h:b<=c):(l.drop b).take (c - b)++(l.drop c).take m=(l.drop b).take (c+m - b):=by
 rw[show c+m - b=(c - b)+m by lia,List.take_add,List.drop_drop,show b+(c - b)=c by lia]
def Ti(vb vn:V)(n:Nat)(H:Hp):Prop:=wF vb 0 (n:Int) H\/∃b:Int,vb=.int b/\0<=b/\b<= (n:Int)/\wF vn 0 ((n:Int) - b) H
def j4(CP C:Addr):Sp:=fun vs H Q E=>∃(p dx lt lb lf:Addr) (ts:List Str) (vb vn:V),vs=[.ref p,vb,vn]/\bB C H p dx lt lb lf ts/\((Ti vb vn (ao ts).length H/\E (.ref CP) none H)\/
 ∃b n:Nat,vb=.int (b:Nat)/\vn=.int (n:Nat)/\b+n<= (ao ts).length/\ts.length<=100000/\(ao ts).length<=1000000/\(∀t∈ts,t.length<=1000000)/\∀H',aF H H'->Q (.str ⟨(((ao ts).drop b).take n).toArray⟩) H')
abbrev mZ:List (Str×Sp):=[("is_between",d0),("many_upto",rM)]
theorem Tj{K:Frag}(T:jM K C):bF (j4 CP C) (fun E=>aK K mZ [] (et:=[("NoPlace",CP)]) (E:=E)) Cd Cc:=by
 intro vs H Q E h;obtain⟨p,dx,lt,lb,lf,ts,vb,vn,rfl,S,h⟩:=h;have fs:∀{H1:Hp}{σ:St}{Q':VK},aF H H1->σ[0]?=some (some<|.ref p)->Q' (.int (ao ts).length) H1->aj (aK K mZ [] (et:=[("NoPlace",CP)]) (E:=E)) (.fld (.v 0) "signs") σ H1 Q':=fun s e q=>⟨_,e,p,C,dx,_,_,rfl,s _ _ S.ob,T.cl,T.oI,wI,q⟩;have fb:∀{H1:Hp}{σ:St}{Q':VK},aF H H1->σ[0]?=some (some<|.ref p)->Q' (.ref lb) H1->aj (aK K mZ [] (et:=[("NoPlace",CP)]) (E:=E)) (.fld (.v 0) "begins") σ H1 Q':=fun s e q=>⟨_,e,p,C,dx,_,_,rfl,s _ _ S.ob,T.cl,T.rj,wG,q⟩;have ft:∀{H1:Hp}{σ:St}{Q':VK},aF H H1->σ[0]?=some (some<|.ref p)->Q' (.ref lt) H1->aj (aK K mZ [] (et:=[("NoPlace",CP)]) (E:=E)) (.fld (.v 0) "texts") σ H1 Q':=fun s e q=>⟨_,e,p,C,dx,_,_,rfl,s _ _ S.ob,T.cl,T.oH,rS,q⟩;have rz:=aF.refl H;rcases h with⟨hb|⟨b,rfl,h1,h2,hb⟩,q⟩|⟨b,n,rfl,rfl,YK,YL,YM,Tn,q⟩
 ·refine bp (oS<|fW<|gC d0 rfl<|aw<|ag rfl<|aw<|au<|aw<|fs rz rfl<|aJ ⟨_,_,_,rfl,.inr ⟨hb,fG<|iT (iT ?_ rfl) rfl⟩⟩);exact⟨gb,q⟩
 ·refine bp (oS<|fW<|gC d0 rfl<|aw<|ag rfl<|aw<|au<|aw<|fs rz rfl<|aJ ⟨_,_,_,rfl,.inl ⟨b,rfl,h1,h2,fG<|iF ?_ rfl⟩⟩);refine fW<|gC d0 rfl<|aw<|ag rfl<|aw<|au<|aw<|aE<|fs rz rfl<|ag rfl ⟨trivial,aJ ⟨_,_,_,rfl,.inr ⟨hb,fG<|iT ?_ rfl⟩⟩⟩;exact⟨gb,q⟩
 ·refine bp (oS<|fW<|gC d0 rfl<|aw<|ag rfl<|aw<|au<|aw<|fs rz rfl<|aJ ⟨_,_,_,rfl,.inl ⟨_,rfl,by lia,by lia,fG<|iF ?_ rfl⟩⟩)
  refine fW<|gC d0 rfl<|aw<|ag rfl<|aw<|au<|aw<|aE<|fs rz rfl<|ag rfl ⟨trivial,aJ ⟨_,_,_,rfl,.inl ⟨_,rfl,by lia,by lia,fG<|iF ?_ rfl⟩⟩⟩
  refine aN<|fS<|aJ ⟨zqZ _,fun d hd=>?_⟩;have s1:=sameNew (o:=.lst []) hd;refine aN<|aE<|bh rM rfl<|aw<|fb s1 rfl<|aw<|ag rfl<|aJ ⟨lb,cI ts 0,_,rfl,s1 _ _ S.bg,wR ts 0,au ⟨trivial,?_⟩⟩;refine aN<|aE<|ag rfl<|ag rfl<|bz ?_;have jY:upd H d (.lst []) d=some (.lst<|([]:List Str).map V.str):=aG;refine wD (fun m σ H2=>∃(c:Nat) (k:Int) (ps:List Str) (u6 u7:Option V),m=ts.length+1 - k.toNat/\σ=[some (.ref p),some (.int (c:Nat)),some (.int (n:Nat)),some (.ref d),some (.int k),some (.int ((b:Int)+(n:Int))),u6,u7]/\bQ d H H2/\H2 d=some (.lst (ps.map V.str))/\b<=c/\c<=b+n/\(cat ps).cps.toList=((ao ts).drop b).take (c - b)/\ps.length<=k.toNat+1/\
    (c<b+n->∃j:Nat,k=(j:Int)/\j<ts.length/\pre ts j<=c/\c<=pre ts (j+1)))
   ⟨_,b,((cw (cI ts 0) (b:Int):Nat):Int) - 1,[],none,none,rfl,rfl,fun x o e nx=>by rw[aI nx];exact e,jY,zqR _,by lia,by rw[Sg,Nat.sub_self,List.take_zero];rfl,zqZ _,fun aS=>?_⟩ ?_
  ·obtain⟨j,e,h1,h2,h3⟩:=Te (ts:=ts) (b:=b) (by lia)
   exact⟨j,by lia,h1,h2,h3⟩
  rintro m σ H2 ⟨c,k,ps,u6,u7,rfl,rfl,b2,hd2,To,YN,cH,gO,mG⟩;refine ba<|ag rfl<|ag rfl<|S_ ⟨_,rfl,?_⟩;refine d9 (fun aS=>?_)<|fun aS=>?_
  ·have wU:c<b+n:=by have:=of_decide_eq_true aS;lia
   obtain⟨j,rfl,jm,Tp,wV⟩:=mG wU;clear mG;have nd:∀{a:Addr}{o:HO},H a=some o->H2 a=some o:=fun {a o} e=>b2 a o e (fun z=>by rw[z,hd] at e;cases e)
   have tj:ts[j]?=some ts[j]:=zaD jm;have Tq:∀{σ:St}{Q':VK},σ[0]?=some (some<|.ref p)->Q' (.ref lb) H2->aj (aK K mZ [] (et:=[("NoPlace",CP)]) (E:=E)) (.fld (.v 0) "begins") σ H2 Q':=fun e q=>⟨_,e,p,C,dx,_,_,rfl,nd S.ob,T.cl,T.rj,wG,q⟩;have YO:∀{σ:St}{Q':VK},σ[0]?=some (some<|.ref p)->Q' (.ref lt) H2->aj (aK K mZ [] (et:=[("NoPlace",CP)]) (E:=E)) (.fld (.v 0) "texts") σ H2 Q':=fun e q=>⟨_,e,p,C,dx,_,_,rfl,nd S.ob,T.cl,T.oH,rS,q⟩;have ab:dX ((cI ts 0).map V.int) (j:Int)=some (.int (pre ts j:Nat)):=fh (by rw[zag,oT ts 0 j jm,zaS];rfl)
   have at':dX (ts.map V.str) (j:Int)=some (.str ts[j]):=fh (by rw[zag,tj];rfl)
   have Ts:=Tn _ (zbc jm);refine⟨_,fun σ' Fc q=>q,?_⟩;refine aN<|aE<|ag rfl<|aV<|Tq rfl<|ag rfl<|fF (nd S.bg) ab ⟨trivial,?_⟩;refine aN ?_;refine⟨_,rfl,p,C,dx,_,_,rfl,nd S.ob,T.cl,T.oH,rS,_,rfl,fF (nd S.tx) at' ?_⟩;refine⟨_,rfl,_,rfl,_,rfl,_,rfl,_,rfl,trivial,_,rfl,bE Ts,?_⟩;have ec:gg ts[j] (some<|(c:Int) - (pre ts j:Nat)) (some<|(c:Int) - (pre ts j:Nat)+((b:Int)+(n:Int)) - (c:Int))=⟨((ao ts).drop c).take (min (b+n - c)<|pre ts (j+1) - c)|>.toArray⟩:=by
    rw[show(c:Int) - (pre ts j:Nat)=((c - pre ts j:Nat):Int) by lia,show((c - pre ts j:Nat):Int)+((b:Int)+(n:Int)) - (c:Int)=((c - pre ts j:Nat):Int)+((b+n - c:Nat):Int) by lia,SJ (c - pre ts j) ((b+n - c:Nat):Int) (b+n - c) rfl,Tg tj Tp wV]
   rw[ec];have YQ:=Tc ts (j+1);have lz:(⟨(((ao ts).drop c).take<|min (b+n - c)<|pre ts (j+1) - c).toArray⟩:Str).length=min (b+n - c) (pre ts (j+1) - c):=by
    rw[len_list];show(((ao ts).drop c).take _).length=_;rw[zaj,zas];lia
   generalize hz:(⟨(((ao ts).drop c).take<|min (b+n - c)<|pre ts (j+1) - c).toArray⟩:Str)=z at lz⊢;refine jj<|fV<|ag rfl ⟨.inl ⟨rfl,_,ay.of hd2⟩,ag rfl ⟨_,hd2,fE (by rw[zai];lia),?_⟩⟩
   refine aN<|aE<|ag rfl<|oP<|aw<|ag rfl<|aJ ⟨bE (by lia),bz ?_⟩
   refine aN<|aE<|ag rfl<|au<|bz ?_;refine⟨_,?_,c+z.length,((j:Int)+1),ps++[z],some<|.int<|(c:Int) - (pre ts j:Nat),some<|.str z,rfl,?_,b2.trans bQ.upd,?_,by lia,by lia,?_,?_,?_⟩
   ·lia
   ·show[_,some<|V.int<|(c:Int)+(z.length:Int),_,_,_,_,_,_]=_;rw[zbz]
   ·rw[aG,zaw];rfl
   ·rw[Ta,cH,<-hz];show _++((ao ts).drop c).take _=_;rw[Th b c _ To,hz,lz]
   ·rw[zqA];show ps.length+1<=_;lia
   ·intro Ad;have e3:c+z.length=pre ts (j+1):=by lia
    have Fy:j+1<ts.length:=by
     by_cases q:j+1<ts.length
     ·exact q
     ·have:=Fu (ts:=ts) (k:=j+1) (by lia)
      lia
    have lB:=Fv (zaD Fy);exact⟨j+1,by lia,Fy,by lia,by lia⟩
  ·have wU:c=b+n:=by
    have:¬((c:Int) < (b:Int)+(n:Int)):=fun z=>aS (zqT z);lia
   subst wU;rw[show b+n - b=n by lia] at cH
   have lc:(cat ps).length<=1000000:=by rw[len_list,cH,zaj,zas];lia
   refine bU<|fV<|au ⟨rfl,ag rfl ⟨ps,ay.of hd2,joinOk_of (by rw[<-wu];exact lc),?_⟩⟩
   have es:Txt.join "" ps=⟨(((ao ts).drop b).take n).toArray⟩:=gu cH;rw[es];exact q H2 fun a o e=>b2 a o e (fun z=>by rw[z,hd] at e;cases e)
end L2.B
namespace L2.N
open PySem PySem.Spec PyProof.Rows L2.B
abbrev tp(p:P3):HO:=.tup [.int p.1,.int p.2.1,.int p.2.2]
def Pc(H:Hp)(v:V)(p:P3):Prop:= ∃q,v=.ref q/\H q=some (tp p)
abbrev gF(H:Hp):List V->List P3->Prop:=Paired (Pc H)
theorem Pc.mono{v:V}{p:P3}(t:iO H H')(h:Pc H v p):Pc H' v p:=by
 obtain⟨a,e,h⟩:=h;exact⟨a,e,t _ _ h⟩
theorem gF.mono{H H':Hp}(t:iO H H'):∀{vs:List V}{ps:List P3},gF H vs ps->gF H' vs ps
 |_,_,.nil=>.nil
 |_,_,.cons h r=>.cons (h.mono t) (gF.mono t r)
theorem gF.app{H:Hp}:∀{vs ws:List V}{ps qs:List P3},gF H vs ps->gF H ws qs->gF H (vs++ws) (ps++qs)
 |_,_,_,_,.nil,b=>b
 |_,_,_,_,.cons h r,b=>.cons h (gF.app r b)
def Nd(H:Hp):Tr->V->Prop
 |.nil,v=>v=.az
 |.node l a b c r,v=>∃p q vl vr,v=.ref p/\H p=some (.tup [vl,.ref q,vr,.int (Tr.node l a b c r).h,.int (Tr.node l a b c r).sz,.int (Tr.node l a b c r).en])/\H q=some (tp (a,b,c))/\Nd H l vl/\Nd H r vr
theorem Nd.mono(t:iO H H'):∀{x:Tr}{v:V},Nd H x v->Nd H' x v
 |.nil,_,h=>h
 |.node l a b c r,_,⟨p,q,vl,vr,e,h1,h2,h3,h4⟩=>⟨p,q,vl,vr,e,t _ _ h1,t _ _ h2,h3.mono t,h4.mono t⟩
def lE:Sp:=fun vs H Q E=>∃v t,vs=[v]/\Nd H t v/\Q (.int t.h) H
def g_:Sp:=fun vs H Q E=>∃v t,vs=[v]/\Nd H t v/\Q (.int t.sz) H
def hG:Sp:=fun vs H Q E=>∃v t,vs=[v]/\Nd H t v/\Q (.int t.en) H
theorem Tt{K:Frag}(vs:List V)(H:Hp)(Q:VK)(E:XK)(h:lE vs H Q E):aB (aK K [] [] (E:=E)) Cf {nx:=fun _ H'=>Q .az H',rt:=Q} (start mL vs) H:=by
 obtain⟨v,t,rfl,hn,q⟩:=h;refine⟨_,rfl,rfl,_,rfl,?_⟩;cases t with
 |nil=>cases hn;exact iT q
 |node l a b c r=>
  obtain⟨p,qq,vl,vr,rfl,h1, -⟩:=hn;exact iF ⟨_,rfl,aA h1 rfl q⟩
theorem Tu{K:Frag}(vs:List V)(H:Hp)(Q:VK)(E:XK)(h:g_ vs H Q E):aB (aK K [] [] (E:=E)) Cg {nx:=fun _ H'=>Q .az H',rt:=Q} (start mL vs) H:=by
 obtain⟨v,t,rfl,hn,q⟩:=h;refine⟨_,rfl,rfl,_,rfl,?_⟩;cases t with
 |nil=>cases hn;exact iT q
 |node l a b c r=>
  obtain⟨p,qq,vl,vr,rfl,h1, -⟩:=hn;exact iF ⟨_,rfl,aA h1 rfl q⟩
theorem Tv{K:Frag}(vs:List V)(H:Hp)(Q:VK)(E:XK)(h:hG vs H Q E):aB (aK K [] [] (E:=E)) Ci {nx:=fun _ H'=>Q .az H',rt:=Q} (start mL vs) H:=by
 obtain⟨v,t,rfl,hn,q⟩:=h;refine⟨_,rfl,rfl,_,rfl,?_⟩;cases t with
 |nil=>cases hn;exact iT q
 |node l a b c r=>
  obtain⟨p,qq,vl,vr,rfl,h1, -⟩:=hn;exact iF ⟨_,rfl,aA h1 rfl q⟩
abbrev Tw:List (Str×Sp):=[("height_of",lE),("size_of",g_),("ends_of",hG)]
def rV:Sp:=fun vs H Q E=>∃vl q vr l r a b c,vs=[vl,.ref q,vr]/\Nd H l vl/\Nd H r vr/\H q=some (tp (a,b,c))/\∀v H',aF H H'->Nd H' (.node l a b c r) v->Q v H'
theorem Tx{K:Frag}(vs:List V)(H:Hp)(Q:VK)(E:XK)(h:rV vs H Q E):aB (aK K Tw [] (E:=E)) Ck {nx:=fun _ H'=>Q .az H',rt:=Q} (start Cj vs) H:=by
 obtain⟨vl,q,vr,l,r,a,b,c,rfl,hl,hr,hq,k⟩:=h;refine⟨_,rfl,vl,l,rfl,hl,_,rfl,vr,r,rfl,hr,?_⟩;refine⟨_,rfl,vl,l,rfl,hl,_,rfl,aA hq rfl ⟨_,rfl,vr,r,rfl,hr,?_⟩⟩;refine⟨_,rfl,_,rfl,_,rfl,_,rfl,_,rfl,_,rfl,vl,l,rfl,hl,_,rfl,aA hq rfl ⟨_,rfl,vr,r,rfl,hr,yF,fun t ht=>?_⟩⟩;have s:=sameNew (o:=.tup [vl,.ref q,vr,.int<|1+(if r.h>l.h then r.h else l.h),.int<|l.sz+b+r.sz,.int<|l.en+c+r.en]) ht
 exact k _ _ s ⟨t,q,vl,vr,rfl,aG,s _ _ hq,hl.mono<|aU s,hr.mono<|aU s⟩
abbrev Fz:List (Str×Sp):=[("height_of",lE),("made",rV)]
def FA:Sp:=fun vs H Q E=>∃vl q vr l r a b c,vs=[vl,.ref q,vr]/\Nd H l vl/\Nd H r vr/\H q=some (tp (a,b,c))/\l.ok/\r.ok/\l.h=r.h+2/\∀v H' t,aF H H'->Nd H' t v->Tr.iN l a b c r t->Q v H'
def FC:Sp:=fun vs H Q E=>∃vl q vr l r a b c,vs=[vl,.ref q,vr]/\Nd H l vl/\Nd H r vr/\H q=some (tp (a,b,c))/\l.ok/\r.ok/\r.h=l.h+2/\∀v H' t,aF H H'->Nd H' t v->Tr.iN l a b c r t->Q v H'
theorem Tz{K:Frag}(vs:List V)(H:Hp)(Q:VK)(E:XK)(h:FA vs H Q E):aB (aK K Fz [] (E:=E)) Cm {nx:=fun _ H'=>Q .az H',rt:=Q} (start rm vs) H:=by
 obtain⟨vl,q,vr,l,r,a',b',c',rfl,hl,hr,hq,o1,o2,hh,k⟩:=h;have r0:=Tr.h0 r;obtain⟨ll,a,b,c,lr,rfl⟩:=Tr.mP (t:=l) (by lia)
 obtain⟨p,ql,lG,m3,rfl,hp,lH,lI,gZ⟩:=hl;refine⟨_,rfl,aA hp rfl ?_⟩;refine⟨_,rfl,aA hp rfl ⟨lG,ll,rfl,lI,_,rfl,m3,lr,rfl,gZ,trivial,_,rfl,?_⟩⟩;refine d9 (fun h=>?_)<|fun h=>?_
 ·have k_:lr.h<=ll.h:=of_decide_eq_true h;refine⟨_,rfl,aA hp rfl ⟨_,rfl,aA hp rfl ⟨_,rfl,_,rfl,_,rfl,m3,q,vr,lr,r,a',b',c',rfl,gZ,hr,hq,fun v H1 s1 n1=>?_⟩⟩⟩;refine⟨lG,ql,v,ll,_,a,b,c,rfl,lI.mono<|aU s1,n1,s1 _ _ lH,fun v2 H2 s2 n2=>?_⟩;exact k _ _ _ (s1.trans s2) n2<|Tr.RH o1 o2 hh k_
 ·have aS:ll.h<lr.h:=by
   have:¬lr.h<=ll.h:=fun z=>h (zqT z);lia
  have l0:=Tr.h0 ll;obtain⟨il,x,y,z,ir,rfl⟩:=Tr.mP (t:=lr) (by lia)
  obtain⟨pi,qi,wW,wX,rfl,lJ,wY,wZ,w9⟩:=gZ;refine⟨_,rfl,aA hp rfl ⟨_,rfl,aA hp rfl ⟨_,rfl,aA lJ rfl ⟨lG,ql,wW,ll,il,a,b,c,rfl,lI,wZ,lH,fun v H1 s1 n1=>?_⟩⟩⟩⟩;refine⟨_,rfl,aA (s1 _ _ lJ) rfl ⟨_,rfl,aA (s1 _ _ lJ) rfl ⟨_,rfl,_,rfl,wX,q,vr,ir,r,a',b',c',rfl,w9.mono<|aU s1,hr.mono<|aU s1,s1 _ _ hq,fun v2 H2 s2 n2=>?_⟩⟩⟩;refine⟨v,qi,v2,_,_,x,y,z,rfl,n1.mono<|aU s2,n2,s2 _ _<|s1 _ _ wY,fun v3 H3 s3 n3=>?_⟩;exact k _ _ _ (s1.trans<|s2.trans s3) n3<|Tr.RI o1 o2 hh aS
theorem TB{K:Frag}(vs:List V)(H:Hp)(Q:VK)(E:XK)(h:FC vs H Q E):aB (aK K Fz [] (E:=E)) Co {nx:=fun _ H'=>Q .az H',rt:=Q} (start rm vs) H:=by
 obtain⟨vl,q,vr,l,r,a,b,c,rfl,hl,hr,hq,o1,o2,hh,k⟩:=h;have r0:=Tr.h0 l;obtain⟨rl,a',b',c',rr,rfl⟩:=Tr.mP (t:=r) (by lia)
 obtain⟨p,qr,m4,lK,rfl,hp,rW,iS,lL⟩:=hr;refine⟨_,rfl,aA hp rfl ?_⟩;refine⟨_,rfl,aA hp rfl ⟨lK,rr,rfl,lL,_,rfl,m4,rl,rfl,iS,trivial,_,rfl,?_⟩⟩;refine d9 (fun h=>?_)<|fun h=>?_
 ·have k_:rl.h<=rr.h:=of_decide_eq_true h;refine⟨_,rfl,_,rfl,_,rfl,vl,q,m4,l,rl,a,b,c,rfl,hl,iS,hq,fun v H1 s1 n1=>?_⟩;refine⟨_,rfl,aA (s1 _ _ hp) rfl ⟨_,rfl,aA (s1 _ _ hp) rfl ⟨v,qr,lK,_,rr,a',b',c',rfl,n1,lL.mono<|aU s1,s1 _ _ rW,fun v2 H2 s2 n2=>?_⟩⟩⟩;exact k _ _ _ (s1.trans s2) n2<|Tr.RJ o1 o2 hh k_
 ·have aS:rr.h<rl.h:=by
   have:¬rl.h<=rr.h:=fun z=>h (zqT z);lia
  have l0:=Tr.h0 rr;obtain⟨il,x,y,z,ir,rfl⟩:=Tr.mP (t:=rl) (by lia)
  obtain⟨pi,qi,wW,wX,rfl,lJ,wY,wZ,w9⟩:=iS;refine⟨_,rfl,_,rfl,_,rfl,aA lJ rfl ⟨vl,q,wW,l,il,a,b,c,rfl,hl,wZ,hq,fun v H1 s1 n1=>?_⟩⟩;refine⟨_,rfl,aA (s1 _ _ lJ) rfl ⟨_,rfl,aA (s1 _ _ lJ) rfl ⟨_,rfl,aA (s1 _ _ hp) rfl ⟨_,rfl,aA (s1 _ _ hp) rfl ⟨wX,qr,lK,ir,rr,a',b',c',rfl,w9.mono<|aU s1,lL.mono<|aU s1,s1 _ _ rW,fun v2 H2 s2 n2=>?_⟩⟩⟩⟩⟩;refine⟨v,qi,v2,_,_,x,y,z,rfl,n1.mono<|aU s2,n2,s2 _ _<|s1 _ _ wY,fun v3 H3 s3 n3=>?_⟩;exact k _ _ _ (s1.trans<|s2.trans s3) n3<|Tr.RK o1 o2 hh aS
abbrev TC:List (Str×Sp):=[("height_of",lE),("turned_right",FA),("turned_left",FC),("made",rV)]
def FD:Sp:=fun vs H Q E=>∃vl q vr l r a b c,vs=[vl,.ref q,vr]/\Nd H l vl/\Nd H r vr/\H q=some (tp (a,b,c))/\l.ok/\r.ok/\l.h<=r.h+2/\r.h<=l.h+2/\∀v H' t,aF H H'->Nd H' t v->Tr.iN l a b c r t->Q v H'
theorem TF{K:Frag}(vs:List V)(H:Hp)(Q:VK)(E:XK)(h:FD vs H Q E):aB (aK K TC [] (E:=E)) Cp {nx:=fun _ H'=>Q .az H',rt:=Q} (start oJ vs) H:=by
 obtain⟨vl,q,vr,l,r,a,b,c,rfl,hl,hr,hq,o1,o2,TH,YR,k⟩:=h;refine⟨_,rfl,vl,l,rfl,hl,_,rfl,vr,r,rfl,hr,trivial,_,rfl,?_⟩;refine d9 (fun h=>?_)<|fun h=>?_
 ·have g:r.h+1<l.h:=of_decide_eq_true h;exact⟨_,rfl,_,rfl,_,rfl,vl,q,vr,l,r,a,b,c,rfl,hl,hr,hq,o1,o2,by lia,k⟩
 ·have g:¬r.h+1<l.h:=fun z=>h (zqT z);refine⟨_,rfl,vr,r,rfl,hr,_,rfl,vl,l,rfl,hl,trivial,_,rfl,?_⟩;refine d9 (fun h=>?_)<|fun h=>?_
  ·have g2:l.h+1<r.h:=of_decide_eq_true h;exact⟨_,rfl,_,rfl,_,rfl,vl,q,vr,l,r,a,b,c,rfl,hl,hr,hq,o1,o2,by lia,k⟩
  ·have g2:¬l.h+1<r.h:=fun z=>h (zqT z);exact⟨_,rfl,_,rfl,_,rfl,vl,q,vr,l,r,a,b,c,rfl,hl,hr,hq,fun v H' s n=>k _ _ _ s n<|Tr.EM o1 o2 (by lia) (by lia)⟩
def gG(n:Nat):Sp:=fun vs H Q E=>∃vl q vr l r a b c,vs=[vl,.ref q,vr]/\Nd H l vl/\Nd H r vr/\H q=some (tp (a,b,c))/\l.ok/\r.ok/\l.h+r.h<n/\∀v H' t,aF H H'->Nd H' t v->Tr.Jn l a b c r t->Q v H'
theorem TJ(vs:List V)(H:Hp)(Q:VK)(E:XK):¬gG 0 vs H Q E:=by
 rintro⟨vl,q,vr,l,r,a,b,c, -, -, -, -, -, -,h, -⟩;have:=Tr.h0 l;have:=Tr.h0 r;lia
abbrev TK(n:Nat):List (Str×Sp):=[("height_of",lE),("leveled",FD),("joined",gG n),("made",rV)]
theorem TL{K:Frag}(n:Nat)(vs:List V)(H:Hp)(Q:VK)(E:XK)(h:gG (n+1) vs H Q E):aB (aK K (TK n) [] (E:=E)) Cq {nx:=fun _ H'=>Q .az H',rt:=Q} (start oJ vs) H:=by
 obtain⟨vl,q,vr,l,r,a,b,c,rfl,hl,hr,hq,o1,o2,hh,k⟩:=h;have r0:=Tr.h0 r;have l0:=Tr.h0 l;refine⟨_,rfl,vl,l,rfl,hl,_,rfl,vr,r,rfl,hr,trivial,_,rfl,?_⟩;refine d9 (fun h=>?_)<|fun h=>?_
 ·have g:r.h+1<l.h:=of_decide_eq_true h;obtain⟨ll,a1,b1,c1,lr,rfl⟩:=Tr.mP (t:=l) (by lia)
  obtain⟨p,ql,lG,m3,rfl,hp,lH,lI,gZ⟩:=hl;have e1:=Tr.cf ll a1 b1 c1 lr;have aS:lr.h+r.h<n:=by
   have:lr.h< (Tr.node ll a1 b1 c1 lr).h:=by rw[e1];split<;>lia
   lia
  refine⟨_,rfl,aA hp rfl ⟨_,rfl,aA hp rfl ⟨_,rfl,aA hp rfl ⟨_,rfl,_,rfl,m3,q,vr,lr,r,a,b,c,rfl,gZ,hr,hq,o1.2.1,o2,aS,fun v H1 t s1 n1 J=>?_⟩⟩⟩⟩;obtain⟨g1,g2⟩:=Tr.RO o1 g J;refine⟨lG,ql,v,ll,t,a1,b1,c1,rfl,lI.mono<|aU s1,n1,s1 _ _ lH,o1.1,J.ok,g1,g2,fun v2 H2 t2 s2 n2 L=>?_⟩;exact k _ _ _ (s1.trans s2) n2<|Tr.RM o1 g J L
 ·have g:¬r.h+1<l.h:=fun z=>h (zqT z);refine⟨_,rfl,vr,r,rfl,hr,_,rfl,vl,l,rfl,hl,trivial,_,rfl,?_⟩;refine d9 (fun h=>?_)<|fun h=>?_
  ·have g2:l.h+1<r.h:=of_decide_eq_true h;obtain⟨rl,a1,b1,c1,rr,rfl⟩:=Tr.mP (t:=r) (by lia)
   obtain⟨p,qr,m4,lK,rfl,hp,rW,iS,lL⟩:=hr;have e1:=Tr.cf rl a1 b1 c1 rr;have aS:l.h+rl.h<n:=by
    have:rl.h< (Tr.node rl a1 b1 c1 rr).h:=by rw[e1];split<;>lia
    lia
   refine⟨_,rfl,_,rfl,_,rfl,aA hp rfl ⟨vl,q,m4,l,rl,a,b,c,rfl,hl,iS,hq,o1,o2.1,aS,fun v H1 t s1 n1 J=>?_⟩⟩;obtain⟨k1,k2⟩:=Tr.RP o2 g2 J;refine⟨_,rfl,aA (s1 _ _ hp) rfl ⟨_,rfl,aA (s1 _ _ hp) rfl ⟨v,qr,lK,t,rr,a1,b1,c1,rfl,n1,lL.mono<|aU s1,s1 _ _ rW,J.ok,o2.2.1,k1,k2,fun v2 H2 t2 s2 n2 L=>?_⟩⟩⟩;exact k _ _ _ (s1.trans s2) n2<|Tr.RN o2 g2 J L
  ·have g2:¬l.h+1<r.h:=fun z=>h (zqT z);exact⟨_,rfl,_,rfl,_,rfl,vl,q,vr,l,r,a,b,c,rfl,hl,hr,hq,fun v H' s n=>k _ _ _ s n<|Tr.RL o1 o2 (by lia) (by lia)⟩
def oU(n:Nat):Sp:=fun vs H Q E=>∃v l a b c r,vs=[v]/\Nd H (.node l a b c r) v/\(Tr.node l a b c r).ok/\(Tr.node l a b c r).h<n/\(Tr.node l a b c r).h<=30/\
 ∀w H' q vt t a' b' c',aF H H'->H' w=some (.tup [vt,.ref q])->Nd H' t vt->H' q=some (tp (a',b',c'))->t.ok->(Tr.node l a b c r).ai=t.ai++[(a',b',c')]->t.h<= (Tr.node l a b c r).h->Q (.ref w) H'
theorem TM(vs:List V)(H:Hp)(Q:VK)(E:XK):¬oU 0 vs H Q E:=by
 rintro⟨v,l,a,b,c,r, -, -, -,h, -⟩;have:=Tr.h0 (.node l a b c r);lia
abbrev TN(n:Nat):List (Str×Sp):=[("last_out",oU n),("joined",gG 64)]
theorem TQ{K:Frag}(n:Nat)(vs:List V)(H:Hp)(Q:VK)(E:XK)(h:oU (n+1) vs H Q E):aB (aK K (TN n) [] (E:=E)) Cr {nx:=fun _ H'=>Q .az H',rt:=Q} (start mM vs) H:=by
 obtain⟨v,l,a,b,c,r,rfl,⟨p,q,vl,vr,rfl,hp,hq,hl,hr⟩,ho,hh,TR,k⟩:=h;have e1:=Tr.cf l a b c r;have l0:=Tr.h0 l;refine⟨_,rfl,aA hp rfl ⟨rfl,_,rfl,?_⟩⟩;cases r with
 |nil=>
  cases hr;refine iT ⟨_,rfl,aA hp rfl ⟨_,rfl,aA hp rfl ⟨cR,fun w hw=>?_⟩⟩⟩;have s:=sameNew (o:=.tup [vl,.ref q]) hw;exact k w _ q vl l a b c s aG (hl.mono<|aU s) (s _ _ hq) ho.1 rfl (by rw[e1];split<;>lia)
 |node rl a1 b1 c1 rr=>
  obtain⟨p2,q2,m4,lK,rfl,lB,eR,iS,lL⟩:=hr;have aS:(Tr.node rl a1 b1 c1 rr).h< (Tr.node l a b c<|.node rl a1 b1 c1 rr).h:=by rw[e1];split<;>lia
  have hle:l.h< (Tr.node l a b c<|.node rl a1 b1 c1 rr).h:=by rw[e1];split<;>lia
  refine iF ⟨_,rfl,aA hp rfl ⟨.ref p2,rl,a1,b1,c1,rr,rfl,⟨p2,q2,m4,lK,rfl,lB,eR,iS,lL⟩,ho.2.1,by lia,by lia,fun w H1 q3 vt t a2 b2 c2 s1 hw ht oV to w_ th=>?_⟩⟩
  refine⟨_,rfl,aA (s1 _ _ hp) rfl ⟨_,rfl,aA (s1 _ _ hp) rfl ⟨_,rfl,aA hw rfl ⟨vl,q,vt,l,t,a,b,c,rfl,hl.mono<|aU s1,ht,s1 _ _ hq,ho.1,to,(by show l.h+t.h< (64:Nat);lia),fun v2 H2 t2 s2 n2 J=>?_⟩⟩⟩⟩
  refine⟨_,rfl,aA (s2 _ _ hw) rfl ⟨cR,fun w2 dP=>?_⟩⟩;have s3:=sameNew (o:=.tup [v2,.ref q3]) dP;have jh:=J.hi;refine k w2 _ q3 v2 t2 a2 b2 c2 (s1.trans<|s2.trans s3) aG (n2.mono<|aU s3) (s3 _ _<|s2 _ _ oV) J.ok ?_ ?_
  ·rw[J.ai,Tr.ai,w_];simp
  ·have:=J.hi;lia
def fX(n:Nat):Sp:=fun vs H Q E=>∃v t,vs=[v]/\Nd H t v/\t.h<n/\t.ai.length<=1000/\∀w H' xs,aF H H'->H w=none->H' w=some (.lst xs)->gF H' xs t.ai->Q (.ref w) H'
theorem FE(vs:List V)(H:Hp)(Q:VK)(E:XK):¬fX 0 vs H Q E:=by
 rintro⟨v,t, -, -,h, -⟩;have:=Tr.h0 t;lia
theorem xa{l r:Tr}{a b c:Int}(h:(Tr.node l a b c r).ai.length<=n):l.ai.length+r.ai.length+1<=n:=by
 simp only[Tr.ai,zqA,zau] at h;lia
theorem rX(l r:Tr)(a b c:Int):l.h< (Tr.node l a b c r).h/\r.h< (Tr.node l a b c r).h:=by
 rw[Tr.cf];split<;>lia
theorem TU{K:Frag}(n:Nat)(vs:List V)(H:Hp)(Q:VK)(E:XK)(h:fX (n+1) vs H Q E):aB (aK K [("pieces_of",fX n)] [] (E:=E)) CA {nx:=fun _ H'=>Q .az H',rt:=Q} (start vW vs) H:=by
 obtain⟨v,t,rfl,hn,hh,hl,k⟩:=h;refine⟨_,rfl,rfl,_,rfl,?_⟩;cases t with
 |nil=>
  cases hn;exact iT ⟨zqZ _,fun w hw=>k w _ [] (sameNew hw) hw aG .nil⟩
 |node l a b c r=>
  obtain⟨p,q,vl,vr,rfl,hp,hq,fI,jn⟩:=hn;have e1:=xa hl;obtain⟨e2,e3⟩:=rX l r a b c;refine iF ⟨_,rfl,aA hp rfl ⟨vl,l,rfl,fI,by lia,by lia,fun w H1 xs s1 fw hw px=>?_⟩⟩
  have lx:=Paired.length px;refine⟨_,rfl,.inl ⟨rfl,_,ay.of hw⟩,_,rfl,aA (s1 _ _ hp) rfl ⟨_,hw,fE (by lia),?_⟩⟩
  have b1:bQ w H1 (upd H1 w<|.lst<|xs++[V.ref q]):=bQ.upd;have s2:aF H (upd H1 w<|.lst<|xs++[V.ref q]):=jS s1 fw b1;have t1:=b1.b_ hw;generalize TV:upd H1 w (.lst<|xs++[V.ref q])=H2 at s2 t1;have xb:H2 w=some (.lst<|xs++[V.ref q]):=by rw[<-TV,aG]
  refine⟨_,rfl,.inl ⟨rfl,_,ay.of xb⟩,_,rfl,aA (s2 _ _ hp) rfl ⟨vr,r,rfl,jn.mono<|aU s2,by lia,by lia,fun w2 H3 ys s3 iU dP py=>?_⟩⟩
  have ly:=Paired.length py;refine⟨_,_,s3 _ _ xb,dP,bE (by simp;lia),?_⟩
  have b3:bQ w H3 (upd H3 w<|.lst<|xs++[V.ref q]++ys):=bQ.upd;have t3:=b3.b_ (s3 _ _ xb);refine⟨_,rfl,k w _ (xs++[V.ref q]++ys) (jS (s2.trans s3) fw b3) fw aG ?_⟩;have e:(Tr.node l a b c r).ai=l.ai++[(a,b,c)]++r.ai:=by simp[Tr.ai]
  rw[e];refine((((px.mono t1).mono<|aU s3).app<|.cons ⟨q,rfl,s3 _ _<|t1 _ _<|s1 _ _ hq⟩ .nil).app py).mono t3
def ends(ts:List Str)(n:Int):Int:=(((ao ts).take n.toNat).count 10:Nat)
def lM(C:Addr):Sp:=fun vs H Q E=>∃(p dx lt lb lf:Addr) (ts:List Str) (n:Int),vs=[.ref p,.int n]/\bB C H p dx lt lb lf ts/\0<=n/\Q (.int<|ends ts n) H
theorem TX{K:Frag}(T:jM K C)(vs:List V)(H:Hp)(Q:VK)(E:XK)(h:lM C vs H Q E):aB (aK K [("many_upto",rM)] [] (E:=E)) CG {nx:=fun _ H'=>Q .az H',rt:=Q} (start CD vs) H:=by
 obtain⟨p,dx,lt,lb,lf,ts,n,rfl,S,hn,q⟩:=h;refine⟨_,rfl,p,C,dx,_,_,rfl,S.ob,T.cl,T.rk,wH,_,rfl,trivial,lf,_,_,rfl,S.fd,RQ _ _,?_⟩;obtain⟨m,rfl⟩:=Int.eq_ofNat_of_zero_le hn;rw[RT];exact q
abbrev TY(C:Addr):List (Str×Addr×Sp):=[("ends_ahead",C,lM C)]
theorem FF{lt:Addr}{n:Int}:(c6 lt lb lf n).lookup ("ends_ahead":Str)=none:=mW (by decide+kernel) (by decide+kernel) (by decide+kernel) (by decide+kernel)
def FG(C:Addr):Sp:=fun vs H Q E=>∃(q:Addr) (a b c n:Int) (p dx lt lb lf:Addr) (ts:List Str),vs=[.ref q,.int n,.ref p]/\H q=some (tp (a,b,c))/\bB C H p dx lt lb lf ts/\0<=a/\0<=n/\
 ∀(w q1 q2:Addr) (H':Hp),aF H H'->H' w=some (.tup [.ref q1,.ref q2])->H' q1=some (tp (a,n,ends ts (a+n) - ends ts a))->H' q2=some (tp (a+n,b - n,c - (ends ts (a+n) - ends ts a)))->Q (.ref w) H'
theorem TZ{K:Frag}(vs:List V)(H:Hp)(Q:VK)(E:XK)(h:FG C vs H Q E):aB (aK K [] [] [] (TY C) (E:=E)) Cw {nx:=fun _ H'=>Q .az H',rt:=Q} (start Cv vs) H:=by
 obtain⟨q,a,b,c,n,p,dx,lt,lb,lf,ts,rfl,hq,S,ha,hn,k⟩:=h;refine⟨_,rfl,aA hq rfl ⟨_,rfl,?_⟩⟩;refine⟨_,rfl,p,dx,_,rfl,S.ob,FF,_,rfl,p,dx,lt,lb,lf,ts,_,rfl,S,(by show 0<=a+n;lia),?_⟩
 refine⟨_,rfl,p,dx,_,rfl,S.ob,FF,_,rfl,aA hq rfl ⟨p,dx,lt,lb,lf,ts,a,rfl,S,ha,trivial,?_⟩⟩;refine⟨_,rfl,aA hq rfl ⟨_,rfl,_,rfl,kc,fun q1 f1=>?_⟩⟩;have s1:=sameNew (o:=tp (a,n,ends ts (a+n) - ends ts a)) f1;refine⟨_,rfl,_,rfl,aA (s1 _ _ hq) rfl ⟨_,rfl,trivial,_,rfl,aA (s1 _ _ hq) rfl ⟨_,rfl,trivial,kc,fun q2 f2=>?_⟩⟩⟩;have s2:=sameNew (o:=tp (a+n,b - n,c - (ends ts (a+n) - ends ts a))) f2;refine⟨cR,fun w fw=>?_⟩;have s3:=sameNew (o:=.tup [V.ref q1,V.ref q2]) fw;exact k w q1 q2 _ (s1.trans<|s2.trans s3) aG (s3 _ _<|s2 _ _ aG)<|s3 _ _ aG
theorem fY:∀t:Tr,t.sz=cv t.ai
 |.nil=>rfl
 |.node l a b c r=>by
  show l.sz+b+r.sz=cv (l.ai++(a,b,c)::r.ai);rw[EO,k8,fY l,fY r];show cv l.ai+b+cv r.ai=cv l.ai+(b+cv r.ai);lia
def oW(p:P3):Prop:=0<=p.1/\1<=p.2.1
def iV(C:Addr)(n:Nat):Sp:=fun vs H Q E=>∃(v:V) (t:Tr) (pl:Int) (p dx lt lb lf:Addr) (ts:List Str),vs=[v,.int pl,.ref p]/\Nd H t v/\t.ok/\bB C H p dx lt lb lf ts/\(∀q∈t.ai,oW q)/\t.h<n/\t.ai.length<=1000/\0<=pl/\pl<=t.sz/\
 ∀(w:Addr) (v1 v2:V) (t1 t2:Tr) (H':Hp),aF H H'->H' w=some (.tup [v1,v2])->Nd H' t1 v1->Nd H' t2 v2->t1.ok->t2.ok->t1.ai=bM (ends ts) t.ai pl->t2.ai=b6 (ends ts) t.ai pl->Q (.ref w) H'
theorem T_(C:Addr)(vs:List V)(H:Hp)(Q:VK)(E:XK):¬iV C 0 vs H Q E:=by
 rintro⟨v,t,pl,p,dx,lt,lb,lf,ts, -, -, -, -, -,h, -⟩;have:=Tr.h0 t;lia
abbrev Ua(C:Addr)(n:Nat):List (Str×Sp):=[("size_of",g_),("parted",iV C n),("joined",gG 64),("cut_in_two",FG C)]
theorem Ub{K:Frag}(n:Nat)(vs:List V)(H:Hp)(Q:VK)(E:XK)(h:iV C (n+1) vs H Q E):aB (aK K (Ua C n) [] (E:=E)) Cz {nx:=fun _ H'=>Q .az H',rt:=Q} (start vV vs) H:=by
 obtain⟨v,t,pl,p,dx,lt,lb,lf,ts,rfl,hn,ho,S,xf,hh,hlen,Uc,eE,k⟩:=h;refine⟨_,rfl,rfl,_,rfl,?_⟩;cases t with
 |nil=>
  cases hn;exact iT ⟨cR,fun w hw=>k w .az .az .nil .nil _ (sameNew hw) aG rfl rfl trivial trivial rfl rfl⟩
 |node l a b c r=>
  obtain⟨pa,q,vl,vr,rfl,j5,hq,hl,hr⟩:=hn;obtain⟨o1,o2,o3,o4⟩:=ho;obtain⟨e2,e3⟩:=rX l r a b c;have e1:=xa hlen;have js:=fY l;have YS:=fY r;have gH:∀x∈l.ai,oW x:=fun x hx=>xf x (by simp[Tr.ai,hx])
  have oX:∀x∈r.ai,oW x:=fun x hx=>xf x (by simp[Tr.ai,hx])
  have pm:oW (a,b,c):=xf _ (by simp[Tr.ai])
  have oY:(Tr.node l a b c r).ai=l.ai++(a,b,c)::r.ai:=rfl;have YT:(Tr.node l a b c r).sz=l.sz+b+r.sz:=rfl;have YU:=Tr.fD o1 (by lia:l.ai.length<=1000)
  have YV:=Tr.fD o2 (by lia:r.ai.length<=1000)
  refine iF ⟨_,rfl,aA j5 rfl ?_⟩;refine⟨_,rfl,aA j5 rfl ⟨vl,l,rfl,hl,?_⟩⟩;refine⟨_,rfl,_,rfl,aA hq rfl ?_⟩;refine⟨_,rfl,_,rfl,trivial,_,rfl,?_⟩;refine d9 (fun g=>?_)<|fun g=>?_
  ·have hle:pl<=l.sz:=of_decide_eq_true g;refine⟨_,rfl,aA j5 rfl ⟨_,rfl,_,rfl,vl,l,pl,p,dx,lt,lb,lf,ts,rfl,hl,o1,S,gH,by lia,by lia,Uc,hle,fun w v1 v2 t1 t2 H1 s1 hw n1 n2 k1 k2 c1 c2=>?_⟩⟩
   obtain⟨x1,x2⟩:=ES (ends ts) ((a,b,c)::r.ai) l.ai pl (fun x hx=>(gH x hx).2) (by lia)
   have l2:=(k9 (ends ts) l.ai pl).2;have h2:=Tr.fD k2 (by rw[c2];lia)
   refine⟨_,rfl,aA hw rfl ⟨_,rfl,aA hw rfl ⟨_,rfl,_,rfl,aA (s1 _ _ j5) rfl ⟨v2,q,vr,t2,r,a,b,c,rfl,n2,hr.mono<|aU s1,s1 _ _ hq,k2,o2,(by show _< ((64:Nat):Int);lia),fun v3 H2 t3 s2 n3 J=>⟨cR,fun w2 iU=>?_⟩⟩⟩⟩⟩
   have s3:=sameNew (o:=.tup [v1,v3]) iU;refine k w2 v1 v3 t1 t3 _ (s1.trans<|s2.trans s3) aG ((n1.mono<|aU s2).mono<|aU s3) (n3.mono<|aU s3) k1 J.ok ?_ ?_
   ·rw[oY,x1,c1]
   ·rw[oY,x2,J.ai,c2]
  ·have YW:¬pl<=l.sz:=fun z=>g (zqT z);refine⟨_,rfl,_,rfl,trivial,_,rfl,?_⟩;refine d9 (fun g=>?_)<|fun g=>?_
   ·have k_:l.sz+b<=pl:=of_decide_eq_true g;refine⟨_,rfl,aA j5 rfl ⟨_,rfl,_,rfl,trivial,_,rfl,vr,r,pl - (l.sz+b),p,dx,lt,lb,lf,ts,rfl,hr,o2,S,oX,by lia,by lia,by lia,by lia,fun w v1 v2 t1 t2 H1 s1 hw n1 n2 k1 k2 c1 c2=>?_⟩⟩
    have ez:cv (l.ai++[(a,b,c)])=l.sz+b:=by
     rw[EO,k8,EN,js];show cv l.ai+(b+0)=_;lia
    obtain⟨x1,x2⟩:=wb (ends ts) r.ai (l.ai++[(a,b,c)]) pl (fun x hx=>by
     rcases zao.mp hx with z|z
     ·exact(gH x z).2
     ·rw[zav.mp z];exact pm.2) (by lia)
    have l1:=(k9 (ends ts) r.ai<|pl - (l.sz+b)).1;have h1:=Tr.fD k1 (by rw[c1];lia)
    refine⟨_,rfl,aA (s1 _ _ j5) rfl ⟨_,rfl,_,rfl,aA hw rfl ⟨vl,q,v1,l,t1,a,b,c,rfl,hl.mono<|aU s1,n1,s1 _ _ hq,o1,k1,(by show _< ((64:Nat):Int);lia),fun v3 H2 t3 s2 n3 J=>?_⟩⟩⟩
    refine⟨_,rfl,aA (s2 _ _ hw) rfl ⟨cR,fun w2 iU=>?_⟩⟩;have s3:=sameNew (o:=.tup [v3,v2]) iU;have e5:(Tr.node l a b c r).ai=(l.ai++[(a,b,c)])++r.ai:=by rw[oY];simp
    refine k w2 v3 v2 t3 t2 _ (s1.trans<|s2.trans s3) aG (n3.mono<|aU s3) ((n2.mono<|aU s2).mono<|aU s3) J.ok k2 ?_ ?_
    ·rw[e5,x1,ez,J.ai,c1];simp
    ·rw[e5,x2,ez,c2]
   ·have aS:¬l.sz+b<=pl:=fun z=>g (zqT z);refine⟨_,rfl,_,rfl,_,rfl,trivial,_,rfl,q,a,b,c,pl - l.sz,p,dx,lt,lb,lf,ts,rfl,hq,S,pm.1,by lia,fun w q1 q2 H1 s1 hw h1 h2=>?_⟩
    obtain⟨x1,x2⟩:=wb (ends ts) ((a,b,c)::r.ai) l.ai pl (fun x hx=>(gH x hx).2) (by lia)
    rw[<-js] at x1 x2;refine⟨_,rfl,aA (s1 _ _ j5) rfl ⟨_,rfl,aA hw rfl ⟨vl,q1,.az,l,.nil,a,pl - l.sz,_,rfl,hl.mono<|aU s1,rfl,h1,o1,trivial,(by show _< ((64:Nat):Int);show l.h+0<64;lia),fun v3 H2 t3 s2 n3 J=>?_⟩⟩⟩
    refine⟨_,rfl,aA (s2 _ _ hw) rfl ⟨_,rfl,aA (s2 _ _<|s1 _ _ j5) rfl ⟨.az,q2,vr,.nil,r,_,_,_,rfl,rfl,(hr.mono<|aU s1).mono<|aU s2,s2 _ _ h2,trivial,o2,(by show _< ((64:Nat):Int);show 0+r.h<64;lia),fun v4 H3 t4 s3 n4 J2=>⟨cR,fun w2 iU=>?_⟩⟩⟩⟩
    have s4:=sameNew (o:=.tup [v3,v4]) iU;refine k w2 v3 v4 t3 t4 _ (s1.trans<|s2.trans<|s3.trans s4) aG ((n3.mono<|aU s3).mono<|aU s4) (n4.mono<|aU s4) J.ok J2.ok ?_ ?_
    ·rw[oY,x1,J.ai]
     simp only[bM]
     rw[if_neg (by lia),if_neg (by show ¬b<=pl - l.sz;lia)]
     rfl
    ·rw[oY,x2,J2.ai]
     simp only[b6]
     rw[if_neg (by lia),if_neg (by show ¬b<=pl - l.sz;lia)]
     rfl
end L2.N
namespace L2.N
open PySem PySem.Spec L2.B
def seg(S:List Nat)(q:P3):List Nat:=(S.drop q.1.toNat).take q.2.1.toNat
def txt(S:List Nat)(ps:List P3):List Nat:=ps.flatMap (seg S)
theorem txt_nil(S:List Nat):txt S []=[]:=rfl
theorem cg(S:List Nat)(p:P3)(r:List P3):txt S (p::r)=seg S p++txt S r:=rfl
theorem lN(S:List Nat)(a b:List P3):txt S (a++b)=txt S a++txt S b:=List.flatMap_append
structure bD (S:List Nat) (q:P3):Prop where
 p0:0<=q.1
 p1:1<=q.2.1
 p2:q.1+q.2.1<=S.length
 p3:q.2.2=((seg S q).count 10:Nat)
theorem bD.len{q:P3}(h:bD S q):((seg S q).length:Int)=q.2.1:=by
 have h0:=h.p0;have h1:=h.p1;have h2:=h.p2;unfold seg;rw[zaj,zas];lia
theorem bD.grow{T:List Nat}{q:P3}(h:bD S q):bD (S++T) q/\seg (S++T) q=seg S q:=by
 have h0:=h.p0;have h1:=h.p1;have h2:=h.p2;have e:seg (S++T) q=seg S q:=by
  unfold seg;rw[List.drop_append_of_le_length (by lia),zbA (by rw[zas];lia)]
 exact⟨⟨h0,h1,by rw[zqA];lia,by rw[e];exact h.p3⟩,e⟩
theorem rY{S T:List Nat}:∀{ps:List P3},(∀q∈ps,bD S q)->txt (S++T) ps=txt S ps
 |[],_=>rfl
 |p::r,h=>by
  rw[cg,cg,(h p zan).grow.2,rY fun q hq=>h q (zam _ hq)]
theorem m6{S:List Nat}:∀{ps:List P3},(∀q∈ps,bD S q)->((txt S ps).length:Int)=cv ps
 |[],_=>rfl
 |p::r,h=>by
  rw[cg,zqA,k8,<-m6 fun q hq=>h q (zam _ hq),<-(h p zan).len];lia
theorem r6:∀t:Tr,t.en=((t.ai.map fun p=>p.2.2).sum)
 |.nil=>rfl
 |.node l a b c r=>by
  show l.en+c+r.en=((l.ai++(a,b,c)::r.ai).map fun p=>p.2.2).sum;rw[zaw,List.sum_append,zaG,zbt,r6 l,r6 r];show(l.ai.map fun p=>p.2.2).sum+c+(r.ai.map fun p=>p.2.2).sum=(l.ai.map fun p=>p.2.2).sum+(c+(r.ai.map fun p=>p.2.2).sum);lia
theorem xg{S:List Nat}:∀{ps:List P3},(∀q∈ps,bD S q)->(ps.map fun p=>p.2.2).sum=((txt S ps).count 10:Nat)
 |[],_=>rfl
 |p::r,h=>by
  rw[cg,zaM,zaG,zbt,xg fun q hq=>h q (zam _ hq),(h p zan).p3];lia
theorem FH{a b n:Int}(h0:0<=a)(h1:0<=n)(h2:n<=b)(h3:a+b<=S.length)(c1 c2 c3:Int):seg S (a,n,c1)++seg S (a+n,b - n,c2)=seg S (a,b,c3):=by
 unfold seg;show(S.drop a.toNat).take n.toNat++(S.drop (a+n).toNat).take (b - n).toNat=(S.drop a.toNat).take b.toNat;have e1:(a+n).toNat=a.toNat+n.toNat:=by lia
 have e2:b.toNat=n.toNat+(b - n).toNat:=by lia
 rw[e1,e2,<-List.drop_drop,List.take_add]
theorem FI{a n:Int}(h0:0<=a)(h1:0<=n)(c:Int):((S.take (a+n).toNat).count 10:Int) - ((S.take a.toNat).count 10:Nat)=((seg S (a,n,c)).count 10:Nat):=by
 have e1:(a+n).toNat=a.toNat+n.toNat:=by lia
 unfold seg;show((S.take (a+n).toNat).count 10:Int) - ((S.take a.toNat).count 10:Nat)=((((S.drop a.toNat).take n.toNat).count 10:Nat):Int);rw[e1,List.take_add,zaM];lia
theorem r9{ts:List Str}:∀(ps:List P3) (n:Int),(∀q∈ps,bD (ao ts) q)->0<=n->n<=cv ps->
  (∀q∈bM (ends ts) ps n,bD (ao ts) q)/\(∀q∈b6 (ends ts) ps n,bD (ao ts) q)/\txt (ao ts) (bM (ends ts) ps n)=(txt (ao ts) ps).take n.toNat/\txt (ao ts) (b6 (ends ts) ps n)=(txt (ao ts) ps).drop n.toNat:=by
 intro ps
 induction ps with
 |nil=>
  intro n _ h0 h1;exact⟨fun q hq=>(by cases hq),fun q hq=>(by cases hq),by simp[bM,txt],by simp[b6,txt]⟩
 |cons p r ih=>
  intro n h h0 h1;obtain⟨a,b,c⟩:=p;have hp:=h _ zan;have hr:∀q∈r,bD (ao ts) q:=fun q hq=>h q (zam _ hq);have q0:0<=a:=hp.p0;have q1:1<=b:=hp.p1;have q2:a+b<= (ao ts).length:=hp.p2;have hl:=hp.len;have AU:((seg (ao ts) (a,b,c)).length:Int)=b:=hl;by_cases z:n<=0
  ·obtain⟨e1,e2⟩:=rC (ends ts) z ((a,b,c)::r);rw[e1,e2];have:n.toNat=0:=by lia
   rw[this];exact⟨fun q hq=>(by cases hq),h,by simp[txt],by simp⟩
  ·by_cases g:b<=n
   ·have e1:bM (ends ts) ((a,b,c)::r) n=(a,b,c)::bM (ends ts) r (n - b):=by simp only[bM];rw[if_neg z,if_pos g]
    have e2:b6 (ends ts) ((a,b,c)::r) n=b6 (ends ts) r (n - b):=by simp only[b6];rw[if_neg z,if_pos g]
    rw[k8] at h1;have jk:n<=b+cv r:=h1;obtain⟨i1,i2,i3,i4⟩:=ih (n - b) hr (by lia) (by lia)
    rw[e1,e2];refine⟨fun q hq=>?_,i2,?_,?_⟩
    ·rcases zad.mp hq with rfl|hq
     ·exact hp
     ·exact i1 q hq
    ·rw[cg,cg,i3];have:n.toNat=(seg (ao ts) (a,b,c)).length+(n - b).toNat:=by lia
     rw[this,zbf]
    ·rw[cg,i4];have:n.toNat=(seg (ao ts) (a,b,c)).length+(n - b).toNat:=by lia
     rw[this,List.drop_length_add_append]
   ·have e1:bM (ends ts) ((a,b,c)::r) n=[(a,n,ends ts (a+n) - ends ts a)]:=by simp only[bM];rw[if_neg z,if_neg g]
    have e2:b6 (ends ts) ((a,b,c)::r) n=(a+n,b - n,c - (ends ts (a+n) - ends ts a))::r:=by simp only[b6];rw[if_neg z,if_neg g]
    rw[e1,e2];have k1:bD (ao ts) (a,n,ends ts (a+n) - ends ts a):=⟨q0,by show 1<=n;lia,by show a+n<=_;lia,FI q0 h0 _⟩
    have sc:=FH (S:=ao ts) q0 h0 (by lia:n<=b) q2 (ends ts (a+n) - ends ts a) (c - (ends ts (a+n) - ends ts a)) c
    have k2:bD (ao ts) (a+n,b - n,c - (ends ts (a+n) - ends ts a)):=by
     refine⟨by show 0<=a+n;lia,by show 1<=b - n;lia,by show a+n+(b - n)<=_;lia,?_⟩
     have e4:c=ends ts (a+n) - ends ts a+((seg (ao ts) (a+n,b - n,c - (ends ts (a+n) - ends ts a))).count 10:Nat):=by
      have k3:=k1.p3;have e5:=hp.p3;rw[<-sc,zaM] at e5;have e6:c=(((seg (ao ts) (a,n,ends ts (a+n) - ends ts a)).count 10+(seg (ao ts) (a+n,b - n,c - (ends ts (a+n) - ends ts a))).count 10:Nat):Int):=e5;have k4:ends ts (a+n) - ends ts a=((seg (ao ts) (a,n,ends ts (a+n) - ends ts a)).count 10:Nat):=k3;lia
     show c - (ends ts (a+n) - ends ts a)=_;lia
    refine⟨fun q hq=>?_,fun q hq=>?_,?_,?_⟩
    ·rw[zav.mp hq];exact k1
    ·rcases zad.mp hq with rfl|hq
     ·exact k2
     ·exact hr q hq
    ·rw[cg,txt_nil,zae,cg,<-sc];have l1:=k1.len;have:n.toNat=(seg (ao ts) (a,n,ends ts (a+n) - ends ts a)).length:=by have Ud:((seg (ao ts) (a,n,ends ts (a+n) - ends ts a)).length:Int)=n:=l1;lia
     rw[this,zat,zbu]
    ·rw[cg,cg,<-sc];have l1:=k1.len;have:n.toNat=(seg (ao ts) (a,n,ends ts (a+n) - ends ts a)).length:=by have Ud:((seg (ao ts) (a,n,ends ts (a+n) - ends ts a)).length:Int)=n:=l1;lia
     rw[this,zat,zaT]
theorem ck{r:List RS}(h:aB Γ r D σ H):aB Γ [] {D with nx:=aB Γ r D} σ H:=h
def oZ(n:Nat):Sp:=fun vs H Q E=>∃v l a b c r,vs=[v]/\Nd H (.node l a b c r) v/\(Tr.node l a b c r).ok/\(Tr.node l a b c r).h<n/\(Tr.node l a b c r).h<=30/\
 ∀w H' q vt t a' b' c',aF H H'->H' w=some (.tup [.ref q,vt])->Nd H' t vt->H' q=some (tp (a',b',c'))->t.ok->(Tr.node l a b c r).ai=(a',b',c')::t.ai->t.h<= (Tr.node l a b c r).h->Q (.ref w) H'
theorem Ue(vs:List V)(H:Hp)(Q:VK)(E:XK):¬oZ 0 vs H Q E:=by
 rintro⟨v,l,a,b,c,r, -, -, -,h, -⟩;have:=Tr.h0 (.node l a b c r);lia
abbrev Ug(n:Nat):List (Str×Sp):=[("first_out",oZ n),("joined",gG 64)]
theorem Uh{K:Frag}(n:Nat)(vs:List V)(H:Hp)(Q:VK)(E:XK)(h:oZ (n+1) vs H Q E):aB (aK K (Ug n) [] (E:=E)) Cs {nx:=fun _ H'=>Q .az H',rt:=Q} (start mM vs) H:=by
 obtain⟨v,l,a,b,c,r,rfl,⟨p,q,vl,vr,rfl,hp,hq,hl,hr⟩,ho,hh,TR,k⟩:=h;have e1:=Tr.cf l a b c r;have r0:=Tr.h0 r;refine⟨_,rfl,aA hp rfl ⟨rfl,_,rfl,?_⟩⟩;cases l with
 |nil=>
  cases hl;refine iT ⟨_,rfl,aA hp rfl ⟨_,rfl,aA hp rfl ⟨cR,fun w hw=>?_⟩⟩⟩;have s:=sameNew (o:=.tup [.ref q,vr]) hw;exact k w _ q vr r a b c s aG (hr.mono<|aU s) (s _ _ hq) ho.2.1 rfl (by rw[e1];split<;>lia)
 |node ll a1 b1 c1 lr=>
  obtain⟨p2,q2,lG,m3,rfl,lB,eR,lI,gZ⟩:=hl;have aS:(Tr.node ll a1 b1 c1 lr).h< (Tr.node (.node ll a1 b1 c1 lr) a b c r).h:=by rw[e1];split<;>lia
  have hle:r.h< (Tr.node (.node ll a1 b1 c1 lr) a b c r).h:=by rw[e1];split<;>lia
  refine iF ⟨_,rfl,aA hp rfl ⟨.ref p2,ll,a1,b1,c1,lr,rfl,⟨p2,q2,lG,m3,rfl,lB,eR,lI,gZ⟩,ho.1,by lia,by lia,fun w H1 q3 vt t a2 b2 c2 s1 hw ht oV to w_ th=>?_⟩⟩
  refine⟨_,rfl,aA hw rfl ⟨_,rfl,aA hw rfl ⟨_,rfl,aA (s1 _ _ hp) rfl ⟨_,rfl,aA (s1 _ _ hp) rfl ⟨vt,q,vr,t,r,a,b,c,rfl,ht,hr.mono<|aU s1,s1 _ _ hq,to,ho.2.1,(by show t.h+r.h< (64:Nat);lia),fun v2 H2 t2 s2 n2 J=>?_⟩⟩⟩⟩⟩
  refine⟨cR,fun w2 dP=>?_⟩;have s3:=sameNew (o:=.tup [.ref q3,v2]) dP;have jh:=J.hi;refine k w2 _ q3 v2 t2 a2 b2 c2 (s1.trans<|s2.trans s3) aG (n2.mono<|aU s3) (s3 _ _<|s2 _ _ oV) J.ok ?_ ?_
  ·rw[J.ai,Tr.ai,w_];simp
  ·have:=J.hi;lia
end L2.N
namespace L2.B
open PySem PySem.Spec PyProof.Rows
theorem FJ{K:Frag}{QQ:List V->Hp->Addr->Prop}{te:TE}{a:Addr}(ha:H a=some (.lst xs))(hl:xs.length<=1000000)(P:Nat->List V->Hp->Prop)(p0:P 0 [] H)
  (step:∀i x ys H2,xs[i]?=some x->aF H H2->P i ys H2->∀Q':VK,(∀y H3,aF H2 H3->P (i+1) (ys++[y]) H3->Q' y H3)->te (some x::bT σ fv) H2 Q')
  (fin:∀ys H2 p,aF H H2->P xs.length ys H2->H2 p=none->QQ ys H2 p):∃W:Nat->Nat->List V->Hp->Prop,(∃m,W 0 m [] H)/\∀i m ys H2,W i m ys H2->
   ((cp K a).stop i H2/\∀p,H2 p=none->QQ ys H2 p)\/
   ((cp K a).go i H2/\∀x H3,(cp K a).dE i H2 x H3->gQ K none x H3 fun zs=>jB none (zs.map some++bT σ fv) H3 fun b H5=>
    if b=true then te (zs.map some++bT σ fv) H5 fun y H6=>ys.length<sizeLine/\∃m',m'<m/\W (i+1) m' (ys++[y]) H6 else ∃m',m'<m/\W (i+1) m' ys H5):=by
 refine⟨fun i m ys H2=>m=xs.length - i/\i<=xs.length/\ys.length=i/\aF H H2/\P i ys H2,⟨_,rfl,zqZ _,rfl,aF.refl _,p0⟩,?_⟩;rintro i m ys H2 ⟨rfl,hi,hy,s,p⟩;by_cases aS:i<xs.length
 ·refine .inr ⟨⟨xs,xs[i],ay.of<|s _ _ ha,by simp[aS]⟩,?_⟩
  rintro x H3 ⟨rfl,hx⟩;have dD:=hx xs (ay.of<|s _ _ ha);exact step i x ys _ dD s p _ fun y H4 s4 p4=>⟨fE (by lia),xs.length - (i+1),by lia,rfl,aS,by simp[hy],s.trans s4,p4⟩
 ·have ji:i=xs.length:=by lia
  subst ji;exact .inl ⟨⟨xs,ay.of<|s _ _ ha,zqR _⟩,fun q hq=>fin ys _ q s p hq⟩
end L2.B
namespace L2.N
open PySem PySem.Spec L2.B
section
variable {Γ:bf}{D:Ends}{σ:St}{H:Hp}{r:List RS}{Q:VK}
theorem m8{x:RE}(A B:VK)(Ui:∀v H1,A v H1↔B v H1)(ha:aj Γ x σ H A):aj Γ x σ H B:=by
 have:A=B:=funext fun x=>funext fun H1=>propext (Ui x H1);rw[<-this];exact ha
theorem FK{x elt:RE}(h:aj Γ x σ H fun v H1=>∃a,v=.ref a/\(∃xs,ay Γ.K H1 a xs)/\∃W:Nat->Nat->List V->Hp->Prop,(∃m,W 0 m [] H1)/\∀i m ys H2,W i m ys H2->
   ((cp Γ.K a).stop i H2/\∀p,H2 p=none->Q (.ref p) (upd H2 p<|.lst ys))\/
   ((cp Γ.K a).go i H2/\∀x H3,(cp Γ.K a).dE i H2 x H3->gQ Γ.K none x H3 fun zs=>jB none (zs.map some++bT σ fv) H3 fun b H5=>
    if b=true then aj Γ.calm elt (zs.map some++bT σ fv) H5 fun y H6=>ys.length<sizeLine/\∃m',m'<m/\W (i+1) m' (ys++[y]) H6 else ∃m',m'<m/\W (i+1) m' ys H5)):aj Γ (.comp none fv .list [x] none elt) σ H Q:=m8 (x:=x) _ _ (fun _ _=>Iff.rfl) h
theorem o8{m:Str}(C:Addr)(sp:Sp)(hm:Γ.ms j=(C,sp))(h:aj Γ o σ H fun x H1=>∃p dx fs,x=.ref p/\H1 p=some (.ins C dx fs)/\fs.lookup m=none/\aj Γ a σ H1 fun y H2=>aj Γ b σ H2 fun z H3=>sp [x,y,z] H3 Q Γ.E):aj Γ (.bo j m o [a,b]) σ H Q:=by
 show ks (Γ.ms j).1 m (Γ.ms j).2 [] Γ.E (aj Γ o) (aW Γ [a,b]) σ H Q;rw[hm];exact h
theorem cy{x:RE}(h:aj Γ x σ H fun v H1=>nW Γ.K v H1 fun n=>Q (.int n) H1):aj Γ (.blt .len [x]) σ H Q:=h
end
theorem _root_.L2.B.dz.b_{p lt:Addr}{ts:List Str}(b:dz p lt lb lf H H')(S:bB C H p dx lt lb lf ts):iO H H':=fun c xs e=>
 b c _ e (fun z=>by rw[z,S.ob] at e;cases e) (fun z=>by rw[z,S.tx] at e;cases e) (fun z=>by rw[z,S.bg] at e;cases e) (fun z=>by rw[z,S.fd] at e;cases e)
theorem iW{p lt:Addr}(s:aF H H'):dz p lt lb lf H H':=fun b o e _ _ _ _=>s b o e
theorem Uj(x:Str):(Builtin.Str.occurrences x (Str.ofString "\n") 0 x.length<|x.length+1).length=x.cps.toList.count 10:=by
 have:=wj x 10 0 (x.length+1) (zqZ _);rw[zaR] at this;show(Builtin.Str.occurrences x ⟨#[10]⟩ 0 x.length<|x.length+1).length=_;rw[this,zaj,eW];have:x.cps.toList.count 10<=x.length:=by rw[len_list];exact zby
 lia
theorem FL{K:Frag}{x:Str}(q:Q (.int ((x.cps.toList.count 10:Nat):Int)) H):oj K .count (.str x) [.str "\n"] H Q:=by
 show Q (.int ((Builtin.Str.occurrences x (Str.ofString "\n") 0 x.length<|x.length+1).length:Nat)) H;rw[Uj];exact q
theorem r_{H:Hp}:∀{vs:List V}{ps:List P3}{i:Nat}{v:V},gF H vs ps->vs[i]?=some v->∃p,ps[i]?=some p/\Pc H v p
 |_,_,i,v,.nil,e=>by simp at e
 |_,_,0,v,.cons h r,e=>by simp at e;subst e;exact⟨_,rfl,h⟩
 |_,_,i+1,v,.cons h r,e=>by
  obtain⟨p,a,b⟩:=r_ (i:=i) r (by simpa using e)
  exact⟨p,by simpa using a,b⟩
theorem Uk{lt:Addr}{n:Int}:(c6 lt lb lf n).lookup ("put":Str)=none:=mW (by decide+kernel) (by decide+kernel) (by decide+kernel) (by decide+kernel)
theorem xh{lt:Addr}{n:Int}:(c6 lt lb lf n).lookup ("read":Str)=none:=mW (by decide+kernel) (by decide+kernel) (by decide+kernel) (by decide+kernel)
def o9(C:Addr):Sp:=fun vs H Q E=>∃(s dx lt lb lf:Addr) (ts:List Str) (x:Str),vs=[.ref s,.str x]/\bB C H s dx lt lb lf ts/\good x/\ts.length<=10000/\(ao ts).length<=500000/\
 ((x=""/\Q .az H)\/(x≠""/\∀v H' t,dz s lt lb lf H H'->bB C H' s dx lt lb lf (ts++[x])->Nd H' t v->t.ok->t.ai=[(((ao ts).length:Int),(x.length:Int),(x.cps.toList.count 10:Int))]->Q v H'))
theorem Ul{K:Frag}{CT:Addr}:bF (o9 C) (fun E=>aK K [("joined",gG 64)] [] [] [("put",C,wN CT C)] (E:=E)) CI CH:=by
 intro vs H Q E h;obtain⟨s,dx,lt,lb,lf,ts,x,rfl,S,gx,l1,l2,h⟩:=h;refine bp<|ba<|ag rfl<|au<|dy ⟨_,rfl,?_⟩;rcases h with⟨rfl,q⟩|⟨hx,k⟩
 ·exact iT (bU<|au q) (by decide)
 ·refine iF (ck ?_) (beq_eq_false_iff_ne.mpr hx);refine bU<|bh (gG 64) rfl<|aw<|au<|aw<|gA<|aw<|fU C (wN CT C) rfl<|ag rfl ⟨s,dx,_,rfl,S.ob,Uk,ag rfl ⟨s,dx,lt,lb,lf,ts,_,rfl,S,.inr ⟨x,rfl,gx,by lia,by lia,fun H1 b1 S1=>?_⟩⟩⟩
  refine aw<|cy<|ag rfl ⟨bE gx.1,?_⟩;refine aw<|fV<|ag rfl ⟨rfl,au<|FL ?_⟩;refine aJ ⟨kc,fun q f=>aw<|au<|aJ ?_⟩;have s2:=sameNew (o:=tp (((ao ts).length:Int),(x.length:Int),((x.cps.toList.count 10:Nat):Int))) f;refine⟨.az,q,.az,.nil,.nil,_,_,_,rfl,rfl,rfl,aG,trivial,trivial,(by show(0:Int)+0< (64:Nat);decide),fun v H2 t s3 n3 J=>?_⟩
  exact k v H2 t (b1.trans<|iW<|s2.trans s3) (S1.same<|s2.trans s3) n3 J.ok J.ai
def cK(S:List Nat)(q:P3):Str:=⟨(seg S q).toArray⟩
def lO(C:Addr):Sp:=fun vs H Q E=>∃(s dx lt lb lf:Addr) (ts:List Str) (v:V) (t:Tr),vs=[.ref s,v]/\bB C H s dx lt lb lf ts/\Nd H t v/\t.ok/\(∀q∈t.ai,bD (ao ts) q)/\t.ai.length<=1000/\ts.length<=10000/\(ao ts).length<=500000/\
 ∀w H',aF H H'->H w=none->H' w=some (.lst<|(t.ai.map<|cK<|ao ts).map V.str)->Q (.ref w) H'
theorem xi{ts:List Str}:∀t∈ts,t.length<= (ao ts).length:=by
 induction ts with
 |nil=>intro t h;cases h
 |cons a r ih=>
  intro t h;have e:(ao (a::r)).length=a.length+(ao r).length:=by simp[ao,Str.length]
  rw[e];rcases zad.mp h with rfl|h
  ·lia
  ·have:=ih t h;lia
theorem Um{K:Frag}:bF (lO C) (fun E=>aK K [("pieces_of",fX 32)] [] [] [("read",C,j4 CP C)] (E:=E)) CQ CO:=by
 intro vs H Q E h;obtain⟨s,dx,lt,lb,lf,ts,v,t,rfl,S,hn,ho,hp,l1,l2,l3,k⟩:=h;have hh:=Tr.fD ho l1;refine bU<|FK<|bh (fX 32) rfl<|aw<|ag rfl<|aJ ⟨v,t,rfl,hn,by lia,l1,fun w H1 xs s1 fw hw px=>⟨w,rfl,⟨_,ay.of hw⟩,?_⟩⟩
 have lx:=Paired.length px;refine FJ hw (by lia) (fun i ys _=>ys=((t.ai.take i).map<|cK<|ao ts).map V.str) (by simp) ?_ ?_
 ·intro i x ys H2 hx s2 e Q' kk;obtain⟨pt,cP,⟨q,rfl,hq⟩⟩:=r_ px hx;have hi:i<t.ai.length:=(zab.mp cP).1;have pc:=hp pt (zap cP);have p0:=pc.p0;have p1:=pc.p1;have p2:=pc.p2;have S2:=(S.same s1).same s2;have eR:=s2 _ _ hq;refine o8 C (j4 CP C) rfl<|ag rfl ⟨s,dx,_,rfl,S2.ob,xh,aV<|ag rfl<|au<|aA eR rfl<|aV<|ag rfl<|au<|aA eR rfl ?_⟩;refine⟨s,dx,lt,lb,lf,ts,_,_,rfl,S2,.inr ⟨pt.1.toNat,pt.2.1.toNat,?_,?_,by lia,by lia,by lia,fun u hu=>by have:=xi u hu;lia,fun H3 s3=>kk _ _ s3 ?_⟩⟩
  ·rw[show((pt.1.toNat:Nat):Int)=pt.1 by lia]
  ·rw[show((pt.2.1.toNat:Nat):Int)=pt.2.1 by lia]
  ·rw[e,zaN hi,(zab.mp cP).2,zaw,zaw];rfl
 ·intro ys H2 p s2 e jt;have e':ys=(t.ai.map<|cK<|ao ts).map V.str:=by rw[e,lx,zaE]
  have s3:aF H H2:=s1.trans s2;exact k p _ (s3.trans<|sameNew jt) (s3.free jt) (by rw[aG,e'])
theorem FN(S:List Nat)(ps:List P3):cat (ps.map (cK S))=⟨(txt S ps).toArray⟩:=gu (by
 rw[lh,List.map_map];show(ps.map fun q=>(cK S q).cps.toList).flatten=(txt S ps).toArray.toList
 simp only[cK,List.toList_toArray]
 rfl)
theorem Uo{ps:List P3}:sz (ps.map<|cK S)=(txt S ps).length:=by
 have:=congrArg Str.length (FN S ps);rw[wu] at this;rw[this]
 simp[Str.length]
section
variable {Γ:bf}{D:Ends}{σ:St}{H:Hp}{r:List RS}{Q:VK}{QT:Bool->Hp->Prop}
theorem Up(C:Addr)(sp:Sp)(hm:Γ.kt j=(C,sp))(h:∀x dx,H x=none->H dx=none->dx≠x->sp [.ref x] (upd (upd H dx<|.own x) x<|.ins C dx []) (fun v H2=>v=.az/\Q (.ref x) H2) Γ.E):aj Γ (.make j []) σ H Q:=by
 show nN (Γ.kt j).1 (Γ.kt j).2 [] Γ.E (aW Γ []) σ H Q;rw[hm];exact h
theorem FO(C:Addr)(sp:Sp)(hm:Γ.kt j=(C,sp))(h:aj Γ a σ H fun y H0=>aj Γ b σ H0 fun z H1=>∀x dx,H1 x=none->H1 dx=none->dx≠x->sp [.ref x,y,z] (upd (upd H1 dx<|.own x) x<|.ins C dx []) (fun v H2=>v=.az/\Q (.ref x) H2) Γ.E):aj Γ (.make j [a,b]) σ H Q:=by
 show nN (Γ.kt j).1 (Γ.kt j).2 [] Γ.E (aW Γ [a,b]) σ H Q;rw[hm];exact h
theorem FP{f:Str}(h:aj Γ e σ H fun v H1=>aj Γ o σ H1 fun x H2=>∃a C dx fs,x=.ref a/\H2 a=some (.ins C dx fs)/\dh Γ.K C/\eM Γ.K C f/\fs.length<1000/\aB Γ r D σ (upd H2 a<|.ins C dx<|bO f v fs)):aB Γ (.iA o f e::r) D σ H:=h
end
def dA(s:Addr)(v:V):List (Str×V):=[("stock",.ref s),("node",v)]
theorem d4{v:V}:(dA s v).lookup ("stock":Str)=some (V.ref s):=mR
theorem fZ{v:V}:(dA s v).lookup ("node":Str)=some v:=(fR (by decide+kernel)).trans mR
theorem eZ{v:V}{m:Str}(h1:¬m="stock")(h2:¬m="node"):(dA s v).lookup m=none:=(fR h1).trans ((fR h2).trans rfl)
theorem Uq{v:V}:bO "node" v (bO "stock" (.ref s) [])=dA s v:=by
 have e1:bO "stock" (V.ref s) []=[(("stock":Str),V.ref s)]:=rfl;unfold dA;rw[e1,iR (by decide+kernel)];rfl
structure bS (CP:Addr) (H:Hp) (p dp s:Addr) (v:V) (t:Tr) (S:List Nat):Prop where
 ob:H p=some (.ins CP dp<|dA s v)
 nd:Nd H t v
 ok:t.ok
 pc:∀q∈t.ai,bD S q
theorem bS.same{p dp:Addr}{v:V}{t:Tr}(P:bS CP H p dp s v t S)(h:aF H H'):bS CP H' p dp s v t S:=⟨h _ _ P.ob,P.nd.mono<|aU h,P.ok,P.pc⟩
def lQ(CP:Addr):Sp:=fun vs H Q E=>∃(p dp s:Addr) (v:V),vs=[.ref p,.ref s,v]/\H p=some (.ins CP dp [])/\∀H',H' p=some (.ins CP dp<|dA s v)->(∀b o,H b=some o->b≠p->H' b=some o)->Q .az H'
theorem Ur{K:Frag}(T:cN K CP):bF (lQ CP) (fun E=>aK K [] [] (E:=E)) CU CS:=by
 intro vs H Q E h;obtain⟨p,dp,s,v,rfl,hp,k⟩:=h;refine FP<|ag rfl<|ag rfl ⟨p,CP,dp,[],rfl,hp,T.cl,T.dJ,(by show 0<1000;decide),?_⟩
 refine FP<|ag rfl<|ag rfl ⟨p,CP,dp,_,rfl,aG,T.cl,T.fB,(by show 1<1000;decide),?_⟩
 refine k _ ?_ fun b o e nb=>?_
 ·rw[aG];exact congrArg (fun l=>some<|HO.ins CP dp l) Uq
 ·rw[aI nb,aI nb];exact e
def hJ(CP:Addr):Sp:=fun vs H Q E=>∃(p dp s:Addr) (v:V) (t:Tr) (S:List Nat),vs=[.ref p]/\bS CP H p dp s v t S/\Q (.int ((txt S t.ai).length:Nat)) H
def lR(CP:Addr):Sp:=fun vs H Q E=>∃(p dp s:Addr) (v:V) (t:Tr) (S:List Nat),vs=[.ref p]/\bS CP H p dp s v t S/\Q (.int ((txt S t.ai).count 10+1:Nat)) H
def xj(CP:Addr):Sp:=fun vs H Q E=>∃(p dp s:Addr) (v:V) (t:Tr) (S:List Nat),vs=[.ref p]/\bS CP H p dp s v t S/\Q (.int t.h) H
theorem bS.sz{p dp:Addr}{v:V}{t:Tr}(P:bS CP H p dp s v t S):t.sz=((txt S t.ai).length:Nat):=by rw[fY,<-m6 P.pc]
theorem bS.en{p dp:Addr}{v:V}{t:Tr}(P:bS CP H p dp s v t S):t.en=((txt S t.ai).count 10:Nat):=by rw[r6,xg P.pc]
theorem Us{K:Frag}(T:cN K CP):bF (hJ CP) (fun E=>aK K [("size_of",g_)] [] (E:=E)) CV fA:=by
 intro vs H Q E h;obtain⟨p,dp,s,v,t,S,rfl,P,q⟩:=h;refine bU<|bh g_ rfl<|aw<|bV<|ag rfl ⟨p,CP,dp,_,_,rfl,P.ob,T.cl,T.fB,fZ,aJ ⟨v,t,rfl,P.nd,?_⟩⟩;rw[P.sz];exact q
theorem Ut{K:Frag}(T:cN K CP):bF (lR CP) (fun E=>aK K [("ends_of",hG)] [] (E:=E)) CW fA:=by
 intro vs H Q E h;obtain⟨p,dp,s,v,t,S,rfl,P,q⟩:=h;refine bU<|aE<|bh hG rfl<|aw<|bV<|ag rfl ⟨p,CP,dp,_,_,rfl,P.ob,T.cl,T.fB,fZ,aJ ⟨v,t,rfl,P.nd,au<|bz ?_⟩⟩;rw[P.en];exact q
theorem Uu{K:Frag}(T:cN K CP):bF (xj CP) (fun E=>aK K [("height_of",lE)] [] (E:=E)) C1 fA:=by
 intro vs H Q E h;obtain⟨p,dp,s,v,t,S,rfl,P,q⟩:=h;exact bU<|bh lE rfl<|aw<|bV<|ag rfl ⟨p,CP,dp,_,_,rfl,P.ob,T.cl,T.fB,fZ,aJ ⟨v,t,rfl,P.nd,q⟩⟩
def tx(S:List Nat)(ps:List P3):Str:=⟨(txt S ps).toArray⟩
theorem Uv(S:List Nat)(ps:List P3):(tx S ps).cps.toList=txt S ps:=by simp[tx]
def xk(CP C:Addr):Sp:=fun vs H Q E=>∃(p dp s dx lt lb lf:Addr) (v:V) (t:Tr) (ts:List Str),vs=[.ref p]/\bS CP H p dp s v t (ao ts)/\bB C H s dx lt lb lf ts/\t.ai.length<=1000/\ts.length<=10000/\(ao ts).length<=500000/\(txt (ao ts) t.ai).length<=1000000/\
 ∀H',aF H H'->Q (.str<|tx (ao ts) t.ai) H'
def xl(CP C:Addr):Sp:=fun vs H Q E=>∃(p dp s dx lt lb lf:Addr) (v:V) (t:Tr) (ts:List Str),vs=[.ref p]/\bS CP H p dp s v t (ao ts)/\bB C H s dx lt lb lf ts/\t.ai.length<=1000/\ts.length<=10000/\(ao ts).length<=500000/\
 ∀w H',aF H H'->H w=none->H' w=some (.lst<|(t.ai.map<|cK<|ao ts).map V.str)->Q (.ref w) H'
theorem Uw{K:Frag}(T:cN K CP):bF (xl CP C) (fun E=>aK K [("texts_of",lO C)] [] (E:=E)) C0 fA:=by
 intro vs H Q E h;obtain⟨p,dp,s,dx,lt,lb,lf,v,t,ts,rfl,P,S,l1,l2,l3,k⟩:=h;exact bU<|bh (lO C) rfl<|aw<|bV<|ag rfl ⟨p,CP,dp,_,_,rfl,P.ob,T.cl,T.dJ,d4,aw<|bV<|ag rfl ⟨p,CP,dp,_,_,rfl,P.ob,T.cl,T.fB,fZ,aJ ⟨s,dx,lt,lb,lf,ts,v,t,rfl,S,P.nd,P.ok,P.pc,l1,l2,l3,k⟩⟩⟩
theorem FQ{K:Frag}{w:Addr}{ps:List P3}(h:H w=some (.lst<|(ps.map<|cK S).map V.str))(hl:(txt S ps).length<=1000000)(q:Q (.str<|tx S ps) H):oj K .join (.str "") [.ref w] H Q:=by
 refine⟨ps.map<|cK S,ay.of h,joinOk_of (by rw[Uo];exact hl),?_⟩
 have e:Txt.join "" (ps.map<|cK S)=tx S ps:=FN S ps;rw[e];exact q
theorem Ux{K:Frag}(T:cN K CP):bF (xk CP C) (fun E=>aK K [("texts_of",lO C)] [] (E:=E)) CY fA:=by
 intro vs H Q E h;obtain⟨p,dp,s,dx,lt,lb,lf,v,t,ts,rfl,P,S,l1,l2,l3,l4,k⟩:=h;exact bU<|fV<|au ⟨rfl,bh (lO C) rfl<|aw<|bV<|ag rfl ⟨p,CP,dp,_,_,rfl,P.ob,T.cl,T.dJ,d4,aw<|bV<|ag rfl ⟨p,CP,dp,_,_,rfl,P.ob,T.cl,T.fB,fZ,aJ ⟨s,dx,lt,lb,lf,ts,v,t,rfl,S,P.nd,P.ok,P.pc,l1,l2,l3,fun w H1 s1 f1 h1=>FQ h1 l4<|k H1 s1⟩⟩⟩⟩
theorem se{ps:List P3}(h:∀q∈ps,bD S q):∀q∈ps,oW q:=fun q hq=>⟨(h q hq).p0,(h q hq).p1⟩
def sf(l:List Nat)(a b:Nat):Str:=⟨((l.take b).drop a).toArray⟩
def xn(CP C:Addr):Sp:=fun vs H Q E=>∃(p dp s dx lt lb lf:Addr) (v:V) (t:Tr) (ts:List Str) (a b:Nat),vs=[.ref p,.int a,.int b]/\bS CP H p dp s v t (ao ts)/\bB C H s dx lt lb lf ts/\t.ai.length<=1000/\ts.length<=10000/\(ao ts).length<=500000/\(txt (ao ts) t.ai).length<=1000000/\
 a<=b/\b<= (txt (ao ts) t.ai).length/\∀H',aF H H'->Q (.str<|sf (txt (ao ts) t.ai) a b) H'
theorem Uy{K:Frag}{CE:Addr}(T:cN K CP):bF (xn CP C) (fun E=>aK K [("is_between",d0),("parted",iV C 32),("texts_of",lO C)] [] [] [("size",CP,hJ CP)] (et:=[("NoPlace",CE)]) (E:=E)) C3 C2:=by
 intro vs H Q E h;obtain⟨p,dp,s,dx,lt,lb,lf,v,t,ts,a,b,rfl,P,S,l1,l2,l3,l4,h1,h2,k⟩:=h;have hz:=P.sz;have hh:=Tr.fD P.ok l1;have sh:(dA s v).lookup ("size":Str)=none:=eZ (by decide+kernel) (by decide+kernel)
 refine bp<|oS<|fW<|gC d0 rfl<|aw<|ag rfl<|aw<|au<|aw<|gB CP (hJ CP) rfl<|ag rfl ⟨p,dp,_,rfl,P.ob,sh,p,dp,s,v,t,_,rfl,P,aJ ⟨_,_,_,rfl,.inl ⟨_,rfl,by lia,by lia,fG<|iF ?_ rfl⟩⟩⟩
 refine fW<|gC d0 rfl<|aw<|ag rfl<|aw<|ag rfl<|aw<|gB CP (hJ CP) rfl<|ag rfl ⟨p,dp,_,rfl,P.ob,sh,p,dp,s,v,t,_,rfl,P,aJ ⟨_,_,_,rfl,.inl ⟨_,rfl,by lia,by lia,fG<|iF ?_ rfl⟩⟩⟩
 refine ck<|aN<|aV<|bh (iV C 32) rfl<|aw<|bV<|ag rfl ⟨p,CP,dp,_,_,rfl,P.ob,T.cl,T.fB,fZ,aw<|ag rfl<|aw<|bV<|ag rfl ⟨p,CP,dp,_,_,rfl,P.ob,T.cl,T.dJ,d4,aJ ?_⟩⟩;refine⟨v,t,b,s,dx,lt,lb,lf,ts,rfl,P.nd,P.ok,S,se P.pc,by lia,l1,by lia,by lia,fun w v1 v2 t1 t2 H1 s1 hw n1 n2 o1 o2 e1 e2=>au<|aA hw rfl ?_⟩
 obtain⟨c1,c2,c3,c4⟩:=r9 t.ai (b:Int) P.pc (by lia) (by rw[<-fY,hz];lia)
 rw[<-e1] at c1 c3;have P1:=P.same s1;have S1:=S.same s1;have g1:t1.ai.length<=1000:=by rw[e1];have:=(k9 (ends ts) t.ai b).1;lia
 have TH:=Tr.fD o1 g1;have Uz:t1.sz=((txt (ao ts) t1.ai).length:Nat):=by rw[fY,<-m6 c1]
 rw[zaJ] at c3;have lz:(txt (ao ts) t1.ai).length=b:=by rw[c3,zaj];lia
 refine bU<|fV<|au ⟨rfl,bh (lO C) rfl<|aw<|bV<|ag rfl ⟨p,CP,dp,_,_,rfl,P1.ob,T.cl,T.dJ,d4,aw<|aV<|bh (iV C 32) rfl<|aw<|ag rfl<|aw<|ag rfl<|aw<|bV<|ag rfl ⟨p,CP,dp,_,_,rfl,P1.ob,T.cl,T.dJ,d4,aJ ?_⟩⟩⟩;refine⟨v1,t1,a,s,dx,lt,lb,lf,ts,rfl,n1,o1,S1,se c1,by lia,g1,by lia,by lia,fun w' w1 w2 u1 u2 H2 s2 o_ m1 m2 p1 p2 d1 d2=>au<|aA o_ rfl<|aJ ?_⟩
 obtain⟨b1,b2,b3,b4⟩:=r9 t1.ai (a:Int) c1 (by lia) (by rw[<-fY,Uz];lia)
 rw[<-d2] at b2 b4;rw[zaJ] at b4;have g2:u2.ai.length<=1000:=by rw[d2];have:=(k9 (ends ts) t1.ai a).2;lia
 have g3:(txt (ao ts) u2.ai).length<=1000000:=by rw[b4,zas];lia
 refine⟨s,dx,lt,lb,lf,ts,w2,u2,rfl,S1.same s2,m2,p2,b2,g2,l2,l3,fun w3 H3 s3 f3 h3=>FQ h3 g3 ?_⟩;have e:tx (ao ts) u2.ai=sf (txt (ao ts) t.ai) a b:=by unfold tx sf;rw[b4,c3]
 rw[e];exact k H3<|s1.trans<|s2.trans s3
theorem xo{r:List RS}{x:RE}(h:aj Γ x σ H fun v H1=>∃a,v=.ref a/\(∃xs,ay Γ.K H1 a xs)/\∃W:Nat->Nat->St->Hp->Prop,(∃m,W 0 m σ H1)/\∀j m σ H,W j m σ H->
  ((cp Γ.K a).stop j H/\({D with nx:=aB Γ r D}:Ends).nx σ H)\/((cp Γ.K a).go j H/\∃N:St->Hp->Prop,(∀σ' H',N σ' H'->∃m',m'<m/\W (j+1) m' σ' H')/\∀x H',(cp Γ.K a).dE j H x H'->da i x σ H' fun σ2 H2=>aB Γ body {({D with nx:=aB Γ r D}:Ends) with nx:=N,ct:=N,bk:=({D with nx:=aB Γ r D}:Ends).nx} σ2 H2)):
  aB Γ (.fN i .list [x] body::r) D σ H:=m8 (x:=x) _ _ (fun _ _=>Iff.rfl) h
theorem FR:(("keep":Str)==("cut":Str))=false:=by decide+kernel
theorem UA:(("put":Str)==("cut":Str))=false:=by decide+kernel
theorem FT:(("cut":Str)==("cut":Str))=true:=by decide+kernel
theorem UB:(("keep":Str) !=("put":Str))=true:=by decide+kernel
theorem UC:(("put":Str) !=("put":Str))=false:=by decide+kernel
theorem UD:(("cut":Str) !=("put":Str))=true:=by decide+kernel
theorem pb{n:Int}(h:Run l (.keep n::ps) r):∃a l' r',l=a++l'/\r=a++r'/\n=a.length/\Run l' ps r':=by
 cases h with|keep e h=>exact⟨_,_,_,rfl,rfl,e,h⟩
theorem si{s:Str}(h:Run l (.put s::ps) r):∃r',r=s.cps.toList++r'/\Run l ps r':=by
 cases h with|put h=>exact⟨_,rfl,h⟩
theorem sj{s:Str}(h:Run l (.cut s::ps) r):∃l',l=s.cps.toList++l'/\Run l' ps r:=by
 cases h with|cut h=>exact⟨_,rfl,h⟩
def xp(CP C:Addr):Sp:=fun vs H Q E=>∃(p dp s dx lt lb lf a:Addr) (v:V) (t:Tr) (ts:List Str) (xs:List V) (ps:List Pt) (r:List Nat),vs=[.ref p,.ref a]/\bS CP H p dp s v t (ao ts)/\bB C H s dx lt lb lf ts/\t.ai.length<=1000/\ts.length<=10000/\(ao ts).length<=500000/\(txt (ao ts) t.ai).length<=1000000/\
 H a=some (.lst xs)/\bH H xs ps/\(∀p∈ps,dw p)/\chainOk "" ps=true/\ps.length<=1000000/\Run (txt (ao ts) t.ai) ps r/\∀H',aF H H'->Q .az H'
abbrev UE(CP C:Addr):List (Str×Addr×Sp):=[("size",CP,hJ CP),("part",CP,xn CP C)]
theorem UG{K:Frag}{CF:Addr}(T:cN K CP):bF (xp CP C) (fun E=>aK K [("sizes",wt),("part_size",jT)] [] [] (UE CP C) (et:=[("BadFit",CF)]) (E:=E)) CM CL:=by
 intro vs H Q E h;obtain⟨p,dp,s,dx,lt,lb,lf,a,v,t,ts,xs,ps,r,rfl,P,S,l1,l2,l3,l4,ha,cH,aH,cT,hl,hr,k⟩:=h;have lx:=Paired.length cH;have sh:(dA s v).lookup ("size":Str)=none:=eZ (by decide+kernel) (by decide+kernel)
 have UH:(dA s v).lookup ("part":Str)=none:=eZ (by decide+kernel) (by decide+kernel)
 refine bp<|ba<|aV<|bh wt rfl<|aw<|ag rfl<|aJ ⟨a,xs,ps,rfl,ha,cH,aH,cT,hl,fun w H1 s1 hw=>au<|aA hw rfl ?_⟩;have P1:=P.same s1;refine gB CP (hJ CP) rfl<|ag rfl ⟨p,dp,_,rfl,P1.ob,sh,p,dp,s,v,t,_,rfl,P1,mY ⟨_,rfl,iF (ck ?_) (by rw[hr.over];simp)⟩⟩
 refine aN<|au ?_;refine xo (ag rfl ⟨a,rfl,⟨_,ay.of (s1 _ _ ha)⟩,km (K:=K) (a:=a) (xs:=xs) (fun i σ H2=>∃(x:Option V) (m1 m2 r2:List Nat),σ=[some (.ref p),some (.ref a),some (.int (m1.length:Nat)),x]/\aF H H2/\txt (ao ts) t.ai=m1++m2/\Run m2 (ps.drop i) r2)
  ⟨none,[],_,r,rfl,s1,rfl,hr⟩ (fun i σ H2 _ ⟨_,_,_,_,_,s2,_⟩=>ay.of (s2 _ _ ha)) ?_ ?_⟩)
 ·rintro i x σ H2 hi ⟨x0,m1,m2,r2,rfl,s2,em,b8⟩;obtain⟨q,hq,jg⟩:=cH.get hi;obtain⟨b,rfl,hb⟩:=jg.mono (aU s2);have aS:i<ps.length:=(zab.mp hq).1;have ed:ps.drop i=q::ps.drop (i+1):=by rw[zaY aS,(zab.mp hq).2]
  have oq:=aH q (zap hq);rw[ed] at b8;have P2:=P.same s2;have S2:=S.same s2;have lm:(txt (ao ts) t.ai).length=m1.length+m2.length:=by rw[em,zqA]
  refine bp<|Fq<|ba<|aV<|ag rfl<|au<|aA hb rfl<|au<|dy ⟨_,rfl,?_⟩;cases q with
  |keep n=>
   obtain⟨c,l',r',e1,e2,e3,h'⟩:=pb b8;refine iF (iF (ck ?_) rfl) FR;refine bp<|ba<|aV<|ag rfl<|au<|aA hb rfl<|au<|jW ⟨_,rfl,iT ?_ UB⟩;refine aN<|aE<|ag rfl<|bh jT rfl<|aw<|ag rfl<|aJ ⟨_,.keep n,rfl,⟨b,rfl,hb⟩,trivial,bz ?_⟩;refine⟨some<|.ref b,m1++c,l',r',?_,s2,by rw[em,e1,zat],h'⟩
   show[some<|V.ref p,some<|V.ref a,some<|V.int<|(m1.length:Int)+n,some<|V.ref b]=_;rw[zqA,e3];rfl
  |put z=>
   obtain⟨r',e2,h'⟩:=si b8;refine iF (iF (ck ?_) rfl) UA;refine bp<|ba<|aV<|ag rfl<|au<|aA hb rfl<|au<|jW ⟨_,rfl,iF ?_ UC⟩;exact⟨some<|.ref b,m1,m2,r',rfl,s2,em,h'⟩
  |cut z=>
   obtain⟨l',e1,h'⟩:=sj b8;have lz:=len_list z;have YX:m2.length=z.length+l'.length:=by rw[e1,zqA,<-lz]
   refine iT ?_ FT;refine ba<|o8 CP (xn CP C) rfl<|ag rfl ⟨p,dp,_,rfl,P2.ob,UH,ag rfl<|aE<|ag rfl<|cy<|aV<|ag rfl<|au<|aA hb rfl ⟨bE oq.1.1,bz ?_⟩⟩;refine⟨p,dp,s,dx,lt,lb,lf,v,t,ts,m1.length,m1.length+z.length,rfl,P2,S2,l1,l2,l3,l4,by lia,by lia,fun H3 s3=>?_⟩
   have ec:sf (txt (ao ts) t.ai) m1.length (m1.length+z.length)=z:=by
    apply gu
    show(((txt (ao ts) t.ai).take _).drop _).toArray.toList=_;rw[em,e1,zbf,lz,zbu,zaT]
   have lS:=s3 _ _ hb;refine aV<|ag rfl<|au<|aA lS rfl<|jW ⟨_,rfl,iF (ck ?_) (by rw[ec];simp[Pt.val])⟩
   refine bp<|ba<|aV<|ag rfl<|au<|aA lS rfl<|au<|jW ⟨_,rfl,iT ?_ UD⟩;refine aN<|aE<|ag rfl<|bh jT rfl<|aw<|ag rfl<|aJ ⟨_,.cut z,rfl,⟨b,rfl,lS⟩,oq.1.1,bz ?_⟩;refine⟨some<|.ref b,m1++z.cps.toList,l',r2,?_,s2.trans s3,by rw[em,e1,zat],h'⟩
   show[some<|V.ref p,some<|V.ref a,some<|V.int<|(m1.length:Int)+(z.length:Nat),some<|V.ref b]=_;rw[zqA,<-lz];rfl
 ·rintro σ H2 ⟨_,_,_,_,rfl,s2,_⟩;exact k H2 s2
theorem xq(F:Int->Int):∀(xs:List P3) (n:Int),(bM F xs n).length+(b6 F xs n).length<=xs.length+1
 |[],n=>by simp[bM,b6]
 |p::xs,n=>by
  have ih:=xq F xs (n - p.2.1);by_cases z:n<=0
  ·obtain⟨e1,e2⟩:=rC F z (p::xs);rw[e1,e2];simp
  ·by_cases g:p.2.1<=n
   ·have e1:bM F (p::xs) n=p::bM F xs (n - p.2.1):=by obtain⟨a,b,c⟩:=p;simp only[bM];rw[if_neg z,if_pos g]
    have e2:b6 F (p::xs) n=b6 F xs (n - p.2.1):=by obtain⟨a,b,c⟩:=p;simp only[b6];rw[if_neg z,if_pos g]
    rw[e1,e2,zau,zau];lia
   ·have e1:(bM F (p::xs) n).length=1:=by obtain⟨a,b,c⟩:=p;simp only[bM];rw[if_neg z,if_neg g];rfl
    have e2:(b6 F (p::xs) n).length=xs.length+1:=by obtain⟨a,b,c⟩:=p;simp only[b6];rw[if_neg z,if_neg g];rfl
    rw[e1,e2,zau];lia
theorem bS.ne{p dp s' lt:Addr}{v:V}{t:Tr}{ts:List Str}(P:bS CP H p dp s' v t S)(St:bB C H s dx lt lb lf ts):p≠s/\p≠lt/\p≠lb/\p≠lf:=by
 refine⟨fun z=>?_,fun z=>?_,fun z=>?_,fun z=>?_⟩
 ·have e:=P.ob;rw[z,St.ob] at e
  injection e with e
  injection e with e1 e2 e3
  have:=congrArg List.length e3
  simp[c6,dA] at this
 ·have e:=P.ob;rw[z,St.tx] at e;cases e
 ·have e:=P.ob;rw[z,St.bg] at e;cases e
 ·have e:=P.ob;rw[z,St.fd] at e;cases e
theorem bS.but{p dp s' lt:Addr}{v:V}{t:Tr}{ts:List Str}(P:bS CP H p dp s' v t S)(St:bB C H s dx lt lb lf ts)(b:dz s lt lb lf H H'):bS CP H' p dp s' v t S:=by
 obtain⟨n1,n2,n3,n4⟩:=P.ne St;exact⟨b _ _ P.ob n1 n2 n3 n4,P.nd.mono<|b.b_ St,P.ok,P.pc⟩
theorem bS.grow{p dp:Addr}{v:V}{t:Tr}(T:List Nat)(P:bS CP H p dp s v t S):bS CP H p dp s v t (S++T):=⟨P.ob,P.nd,P.ok,fun q hq=>(P.pc q hq).grow.1⟩
theorem FU{ts:List Str}{z:Str}(hz:z≠""):bD (ao<|ts++[z]) (((ao ts).length:Int),(z.length:Int),(z.cps.toList.count 10:Int))/\seg (ao<|ts++[z]) (((ao ts).length:Int),(z.length:Int),(z.cps.toList.count 10:Int))=z.cps.toList:=by
 have e:seg (ao<|ts++[z]) (((ao ts).length:Int),(z.length:Int),(z.cps.toList.count 10:Int))=z.cps.toList:=by
  unfold seg;rw[eY,jl];show((ao ts++z.cps.toList).drop (((ao ts).length:Nat):Int).toNat).take ((z.length:Nat):Int).toNat=_;rw[zaJ,zaJ,zaT,len_list,zaE]
 have l1:1<=z.length:=by
  by_cases q:z.length=0
  ·have e0:z.cps.toList=[]:=zbJ (by rw[<-len_list];exact q)
   have e1:z="":=gu (by rw[e0];rfl)
   exact absurd e1 hz
  ·lia
 refine⟨⟨by show(0:Int)<= ((ao ts).length:Int);lia,by show(1:Int)<= (z.length:Int);lia,?_,by rw[e]⟩,e⟩
 rw[eY,jl,zqA,<-len_list];show((ao ts).length:Int)+(z.length:Int)<=_;lia
theorem xr:(("put":Str)==("put":Str))=true:=by decide+kernel
theorem xu:(("keep":Str)==("put":Str))=false:=by decide+kernel
theorem xv:(("cut":Str)==("put":Str))=false:=by decide+kernel
theorem UI:(("keep":Str)==("keep":Str))=true:=by decide+kernel
theorem FV:(("cut":Str)==("keep":Str))=false:=by decide+kernel
def NT:List P3->Prop
 |p::q::r=>p.1+p.2.1≠q.1/\NT (q::r)
 |_=>True
theorem FW{p:P3}:∀{r:List P3},NT (p::r)->NT r
 |[],_=>trivial
 |_::_,h=>h.2
theorem FX{x y z x' y' z':Int}{u:List P3}(g:¬x+y=x'):∀{t:List P3},NT (t++[(x,y,z)])->NT ((x',y',z')::u)->NT (t++(x,y,z)::(x',y',z')::u)
 |[],_,h=>⟨g,h⟩
 |[p],h,h'=>⟨h.1,g,h'⟩
 |p::q::t,h,h'=>⟨h.1,FX g (t:=q::t) h.2 h'⟩
theorem xx{p q:P3}(e:p.1+p.2.1=q.1+q.2.1):∀{r:List P3},NT (p::r)->NT (q::r)
 |[],_=>trivial
 |a::r,h=>⟨by rw[<-e];exact h.1,h.2⟩
theorem FY{x y z x' y' z' w:Int}{u:List P3}(g:x+y=x'):∀{t:List P3},NT (t++[(x,y,z)])->NT ((x',y',z')::u)->NT (t++(x,y+y',w)::u)
 |[],_,h=>xx (p:=(x',y',z')) (q:=(x,y+y',w)) (by show x'+y'=x+(y+y');lia) h
 |[p],h,h'=>⟨h.1,xx (p:=(x',y',z')) (q:=(x,y+y',w)) (by show x'+y'=x+(y+y');lia) h'⟩
 |p::q::t,h,h'=>⟨h.1,FY g (t:=q::t) h.2 h'⟩
theorem xy(F:Int->Int):∀(xs:List P3) (n:Int),NT xs->NT (b6 F xs n)
 |[],n,_=>trivial
 |p::xs,n,h=>by
  simp only[b6]
  split
  ·exact h
  ·split
   ·exact xy F xs _ (FW h)
   ·exact xx (by show p.1+p.2.1=p.1+n+(p.2.1 - n);lia) h
theorem FZ(F:Int->Int):∀(xs:List P3) (n:Int),NT xs->NT (bM F xs n)
 |[],n,_=>trivial
 |p::xs,n,h=>by
  have ih:=FZ F xs (n - p.2.1) (FW h)
  simp only[bM]
  split
  ·trivial
  ·split
   ·cases xs with
    |nil=>trivial
    |cons q r=>
     by_cases z:n - p.2.1<=0
     ·rw[(rC F z (q::r)).1];trivial
     ·by_cases g:q.2.1<=n - p.2.1
      ·have e:bM F (q::r) (n - p.2.1)=q::bM F r (n - p.2.1 - q.2.1):=by simp only[bM];rw[if_neg z,if_pos g]
       rw[e] at ih⊢;exact⟨h.1,ih⟩
      ·have e:bM F (q::r) (n - p.2.1)=[(q.1,n - p.2.1,F (q.1+(n - p.2.1)) - F q.1)]:=by simp only[bM];rw[if_neg z,if_neg g]
       rw[e];exact⟨h.1,trivial⟩
   ·trivial
theorem F0{ps:List P3}(h:∀q∈ps,bD S q)(e:txt S ps=[]):ps=[]:=by
 cases ps with
 |nil=>rfl
 |cons p r=>
  have h1:=(h p zan).len;have h2:=(h p zan).p1;rw[cg] at e;have:seg S p=[]:=(List.append_eq_nil_iff.mp e).1;rw[this] at h1;have:(0:Int)=p.2.1:=h1;lia
def sk:Sp:=fun vs H Q E=>∃(vl vr:V) (l r:Tr) (S:List Nat),vs=[vl,vr]/\Nd H l vl/\Nd H r vr/\l.ok/\r.ok/\(∀q∈l.ai,bD S q)/\(∀q∈r.ai,bD S q)/\(l≠ .nil->r≠ .nil)/\l.ai.length<=1000/\r.ai.length<=1000/\
 ∀v H' t,aF H H'->Nd H' t v->t.ok->(∀q∈t.ai,bD S q)->txt S t.ai=txt S l.ai++txt S r.ai->t.ai.length<=l.ai.length+r.ai.length->(NT l.ai->NT r.ai->NT t.ai)->Q v H'
abbrev UJ:List (Str×Sp):=[("last_out",oU 32),("first_out",oZ 32),("joined",gG 64)]
theorem UK{K:Frag}:bF (sk) (fun E=>aK K UJ [] (E:=E)) Cu Ct:=by
 intro vs H Q E h;obtain⟨vl,vr,l,r,S,rfl,hl,hr,ol,or,pl,pr,oB,ll,lr,k⟩:=h;refine⟨_,rfl,rfl,_,rfl,?_⟩;cases l with
 |nil=>
  cases hl;exact iT ⟨_,rfl,k vr H r (aF.refl _) hr or pr rfl (by show _<=0+_;lia) fun _ h=>h⟩
 |node l1 a b c l2=>
  cases r with
  |nil=>exact absurd rfl (oB (by simp))
  |node r1 a' b' c' r2=>
   have h1:=Tr.fD ol ll;have h2:=Tr.fD or lr;have UL:=hl;obtain⟨p,q,wl,wr,rfl,hp, -⟩:=UL;refine iF ⟨_,rfl,.ref p,l1,a,b,c,l2,rfl,hl,ol,by lia,by lia,fun w H1 q1 vt t x y z s1 hw ht UM to ep th=>?_⟩
   refine⟨_,rfl,vr,r1,a',b',c',r2,rfl,hr.mono<|aU s1,or,by lia,by lia,fun w2 H2 q2 vu u x' y' z' s2 dP hu eR uo m9 uh=>?_⟩
   have o_:=s2 _ _ hw;have m_:=s2 _ _ UM;refine⟨_,rfl,aA o_ rfl ⟨_,rfl,aA dP rfl ?_⟩⟩;have p1:bD S (x,y,z):=pl _ (by rw[ep];simp)
   have p2:bD S (x',y',z'):=pr _ (by rw[m9];simp)
   have pt:∀q∈t.ai,bD S q:=fun q hq=>pl q (by rw[ep];simp[hq])
   have pu:∀q∈u.ai,bD S q:=fun q hq=>pr q (by rw[m9];simp[hq])
   have el:(Tr.node l1 a b c l2).ai.length=t.ai.length+1:=by rw[ep];simp
   have er:(Tr.node r1 a' b' c' r2).ai.length=u.ai.length+1:=by rw[m9];simp
   have t0:=Tr.h0 t;have u0:=Tr.h0 u;refine bp<|ba<|aE<|aV<|ag rfl<|au<|aA m_ rfl<|aV<|ag rfl<|au<|aA m_ rfl<|bz<|aV<|ag rfl<|au<|aA eR rfl<|g8 ⟨_,rfl,?_⟩;by_cases g:x+y=x'
   ·refine iT ?_ (zqT g);refine bU<|bh (gG 64) rfl<|aw<|aV<|ag rfl<|au<|aA o_ rfl<|aw<|gA<|aw<|aV<|ag rfl<|au<|aA m_ rfl ?_;refine aw<|aE<|aV<|ag rfl<|au<|aA m_ rfl<|aV<|ag rfl<|au<|aA eR rfl<|bz ?_;refine aw<|aE<|aV<|ag rfl<|au<|aA m_ rfl<|aV<|ag rfl<|au<|aA eR rfl<|bz<|aJ ⟨kc,fun q3 f3=>?_⟩;have s3:=sameNew (o:=tp (x,y+y',z+z')) f3;refine aw<|aV<|ag rfl<|au<|aA (s3 _ _ dP) rfl<|aJ ?_;refine⟨vt,q3,vu,t,u,x,y+y',z+z',rfl,(ht.mono<|aU s2).mono<|aU s3,hu.mono<|aU s3,aG,to,uo,(by show t.h+u.h< (64:Nat);lia),fun v H3 tt s4 n4 J=>?_⟩
    have j0:=p1.p0;have j1:=p1.p1;have j2:=p2.p2;have j3:=p2.p1;have F1:0<=x:=j0;have YY:1<=y:=j1;have YZ:x'+y'<=S.length:=j2;have Y0:1<=y':=j3;have sc:=FH (S:=S) (a:=x) (b:=y+y') (n:=y) F1 (by lia) (by lia) (by lia) z z' (z+z')
    rw[g,show y+y' - y=y' by lia] at sc
    have p3:bD S (x,y+y',z+z'):=by
     refine⟨F1,by show 1<=y+y';lia,by show x+(y+y')<=_;lia,?_⟩
     have c1:=p1.p3;have c2:=p2.p3;have F2:z=((seg S (x,y,z)).count 10:Nat):=c1;have F3:z'=((seg S (x',y',z')).count 10:Nat):=c2;show z+z'=_;rw[<-sc,zaM];lia
    refine k v H3 tt (s1.trans<|s2.trans<|s3.trans s4) n4 J.ok (fun q hq=>?_) ?_ ?_ ?_
    ·rw[J.ai] at hq;rcases zao.mp hq with hq|hq
     ·exact pt q hq
     ·rcases zad.mp hq with rfl|hq
      ·exact p3
      ·exact pu q hq
    ·rw[J.ai,ep,m9,lN,lN,cg,cg,cg,txt_nil,<-sc];simp
    ·rw[J.ai,el,er,zqA,zau];lia
    ·intro n1 n2;rw[ep] at n1;rw[m9] at n2;rw[J.ai];exact FY g n1 n2
   ·refine iF (ck ?_) (zqF g);refine bU<|bh (gG 64) rfl<|aw<|aV<|ag rfl<|au<|aA o_ rfl<|aw<|ag rfl<|aw<|ag rfl<|aJ ?_;have h3:=Tr.fD or lr;refine⟨vt,q1,vr,t,.node r1 a' b' c' r2,x,y,z,rfl,ht.mono<|aU s2,(hr.mono<|aU s1).mono<|aU s2,m_,to,or,(by show t.h+_< ((64:Nat):Int);lia),fun v H3 tt s4 n4 J=>?_⟩
    refine k v H3 tt (s1.trans<|s2.trans s4) n4 J.ok (fun q hq=>?_) ?_ ?_ ?_
    ·rw[J.ai] at hq;rcases zao.mp hq with hq|hq
     ·exact pt q hq
     ·rcases zad.mp hq with rfl|hq
      ·exact p1
      ·exact pr q hq
    ·rw[J.ai,ep,lN,lN,cg,cg,txt_nil];simp
    ·rw[J.ai,el,zqA,zau];lia
    ·intro n1 n2;rw[ep] at n1;rw[J.ai];rw[m9] at n2⊢;exact FX g n1 n2
def dB(ps:List Pt):List Nat:=ps.flatMap fun p=>match p with|.put s=>s.cps.toList|_=>[]
def nk(ps:List Pt):Nat:=(ps.filter fun p=>p.word !=("keep":Str)).length
theorem xB(a b:List Pt):dB (a++b)=dB a++dB b:=List.flatMap_append
theorem xC(a b:List Pt):nk (a++b)=nk a+nk b:=by unfold nk;rw[zbs,zqA]
def sq(C:Addr)(H:Hp)(p a s dx lt lb lf:Addr)(N:Nat)(ts:List Str)(ps:List Pt)(r:List Nat)(i:Nat)(σ:St)(H2:Hp):Prop:=
 ∃(x4 x5:Option V) (va vr:V) (ta tr:Tr) (us:List Str) (m2 r1 r2:List Nat),σ=[some<|.ref p,some<|.ref a,some va,some vr,x4,x5]/\dz s lt lb lf H H2/\bB C H2 s dx lt lb lf (ts++us)/\Nd H2 ta va/\Nd H2 tr vr/\ta.ok/\tr.ok/\
  (∀q∈ta.ai,bD (ao<|ts++us) q)/\(∀q∈tr.ai,bD (ao<|ts++us) q)/\txt (ao<|ts++us) ta.ai=r1/\txt (ao<|ts++us) tr.ai=m2/\r=r1++r2/\Run m2 (ps.drop i) r2/\
  ta.ai.length+tr.ai.length<=N+i/\us.length<=i/\(ao us).length<=r1.length/\NT ta.ai/\NT tr.ai/\ao us=dB (ps.take i)/\∃e,ta.ai.length+tr.ai.length<=N+2*nk (ps.take i)+e/\e<=1/\(e=1->iQ "" ps i="keep"/\m2≠ [])
def xD(CP C:Addr):Sp:=fun vs H Q E=>∃(p dp s dx lt lb lf a:Addr) (v:V) (t:Tr) (ts:List Str) (xs:List V) (ps:List Pt) (r:List Nat),vs=[.ref p,.ref a]/\bS CP H p dp s v t (ao ts)/\bB C H s dx lt lb lf ts/\t.ai.length+ps.length<=1000/\ts.length+ps.length<=10000/\(ao ts).length+r.length<=500000/\(txt (ao ts) t.ai).length<=1000000/\
 H a=some (.lst xs)/\a≠lt/\a≠lb/\a≠lf/\bH H xs ps/\(∀p∈ps,dw p)/\chainOk "" ps=true/\Run (txt (ao ts) t.ai) ps r/\NT t.ai/\
 ∀p' gI v' t' us H',dz s lt lb lf H H'->H p'=none->bB C H' s dx lt lb lf (ts++us)->bS CP H' p' gI s v' t' (ao<|ts++us)->txt (ao<|ts++us) t'.ai=r->t'.ai.length<=t.ai.length+ps.length->us.length<=ps.length->(ao us).length<=r.length->NT t'.ai->t'.ai.length<=t.ai.length+2*nk ps->ao us=dB ps->Q (.ref p') H'
abbrev F4(CP C:Addr):List (Str×Sp):=[("need_fit",xp CP C),("sewn",sk),("node_put",o9 C),("parted",iV C 32),("part_size",jT)]
theorem UN{K:Frag}{E:XK}(T:cN K CP){p dp a lt:Addr}{v:V}{t:Tr}{N:Nat}{ts:List Str}{x:V}{q:Pt}
  (P:bS CP H p dp s v t (ao ts)) (S0:bB C H s dx lt lb lf ts) (hq:ps[i]?=some q) (cT:chainOk "" ps=true) (oq:dw q) (hx:iP H2 x q) (bN:N+ps.length<=1000) (bt:ts.length+ps.length<=10000) (bs:(ao ts).length+r.length<=500000)
  (I:sq C H p a s dx lt lb lf N ts ps r i σ H2)
  (hD:D.nx=sq C H p a s dx lt lb lf N ts ps r (i+1)) (hC:D.ct=sq C H p a s dx lt lb lf N ts ps r (i+1)):
  aB (aK K (F4 CP C) [] [] [] [("Paper",CP,lQ CP)] (E:=E)) [.ite (.cmp .Eq (.ix (.v 4) (.c (.int 0))) (.c (.str "put"))) [.asg 2 (.call 1 [.v 2,(.call 2 [(.fld (.v 0) "stock"),(.ix (.v 4) (.c (.int 1)))])]),
   .cont] [],
  .asg 5 (.call 3 [.v 3,(.call 4 [.v 4]),(.fld (.v 0) "stock")]),
  .asg 3 (.ix (.v 5)<|.c<|.int 1),
  .ite (.cmp .Eq (.ix (.v 4) (.c (.int 0))) (.c (.str "keep"))) [.asg 2 (.call 1 [.v 2,(.ix (.v 5) (.c (.int 0)))])] []] D (σ.set 4 (some x)) H2:=by
 obtain⟨x4,x5,va,vr,ta,tr,us,m2,r1,r2,rfl,bu,S,na,nr,oa,orr,pa,pr,ea,er,j6,b8,bl,UO,xE,pd,pe,eU,ex,xF,UP,sr⟩:=I;obtain⟨b,rfl,hb⟩:=hx;have aS:i<ps.length:=(zab.mp hq).1;have ed:ps.drop i=q::ps.drop (i+1):=by rw[zaY aS,(zab.mp hq).2]
 rw[ed] at b8;have et:ps.take (i+1)=ps.take i++[q]:=by rw[zaN aS,(zab.mp hq).2]
 have UQ:iQ "" ps (i+1)=q.word:=by show(match ps[i]? with|some p=>p.word|none=>("":Str))=_;rw[hq]
 have mf:=wq ps "" i q cT hq;have P2:=P.but S0 bu;have lr:r.length=r1.length+r2.length:=by rw[j6,zqA]
 have ls:(ao<|ts++us).length=(ao ts).length+(ao us).length:=by rw[eY,zqA]
 have DD:(ts++us).length=ts.length+us.length:=zqA;refine bp<|ba<|aV<|ag rfl<|au<|aA hb rfl<|au<|dy ⟨_,rfl,?_⟩;cases q with
 |put z=>
  obtain⟨r',e2,h'⟩:=si b8;refine iT ?_ xr;have lz:=len_list z;have xG:r2.length=z.length+r'.length:=by rw[e2,zqA,<-lz]
  refine aN<|bh sk rfl<|aw<|ag rfl<|aw<|bh (o9 C) rfl<|aw<|bV<|ag rfl ⟨p,CP,dp,_,_,rfl,P2.ob,T.cl,T.dJ,d4,aw<|aV<|ag rfl<|au<|aA hb rfl<|aJ ?_⟩;refine⟨s,dx,lt,lb,lf,ts++us,z,rfl,S,oq.1,by lia,by lia,.inr ⟨oq.2,fun v1 H3 t1 b3 S3 n1 o1 e1=>aJ ?_⟩⟩
  rw[zat] at S3;obtain⟨pz,ez⟩:=FU (ts:=ts++us) oq.2;rw[zat] at pz ez;have eg:ao (ts++(us++[z]))=ao (ts++us)++z.cps.toList:=by rw[<-zat,eY,jl]
  have p1:∀q∈t1.ai,bD (ao<|ts++(us++[z])) q:=fun q hq=>by
   rw[e1] at hq;rw[zav.mp hq];exact pz
  have tu:=b3.b_ S;refine⟨va,v1,ta,t1,ao<|ts++(us++[z]),rfl,na.mono tu,n1,oa,o1,fun q hq=>by rw[eg];exact(pa q hq).grow.1,p1,fun _ hh=>?_,by lia,by rw[e1];exact zbK rfl,fun v4 H4 t4 s4 n4 o4 p4 e4 l4 w4=>?_⟩
  ·rw[hh] at e1;cases e1
  ·have UR:=aU s4;show D.ct _ _;rw[hC];have US:txt (ao<|ts++(us++[z])) t1.ai=z.cps.toList:=by rw[e1,cg,txt_nil,zae];exact ez
   refine⟨some<|.ref b,x5,v4,vr,t4,tr,us++[z],m2,r1++z.cps.toList,r',rfl,(bu.trans b3).trans<|iW s4,S3.same s4,n4,(nr.mono tu).mono UR,o4,orr,p4,fun q hq=>by rw[eg];exact(pr q hq).grow.1,?_,?_,?_,h',?_,?_,?_,w4 pd (by rw[e1];trivial),pe,?_,0,?_,zqZ _,fun z=>by cases z⟩
   ·rw[e4,US,eg,rY pa,ea]
   ·rw[eg,rY pr,er]
   ·rw[j6,e2,zat]
   ·have:t1.ai.length=1:=by rw[e1];rfl
    lia
   ·rw[zqA];show us.length+1<=i+1;lia
   ·rw[eY,jl,zqA,zqA];lia
   ·rw[eY,jl,et,xB,eU];simp[dB]
   ·have:t1.ai.length=1:=by rw[e1];rfl
    have h2:nk (ps.take<|i+1)=nk (ps.take i)+1:=by rw[et,xC];rfl
    lia
 |keep n=>
  obtain⟨c,l',r',e1,e2,e3,h'⟩:=pb b8;refine iF (ck ?_) xu;have n1:1<=n:=oq;have hz:tr.sz=((txt (ao<|ts++us) tr.ai).length:Nat):=by rw[fY,<-m6 pr]
  have lm:(txt (ao<|ts++us) tr.ai).length=c.length+l'.length:=by rw[er,e1,zqA]
  have hh:=Tr.fD orr (by lia)
  refine aN<|bh (iV C 32) rfl<|aw<|ag rfl<|aw<|bh jT rfl<|aw<|ag rfl<|aJ ⟨_,.keep n,rfl,⟨b,rfl,hb⟩,trivial,aw<|bV<|ag rfl ⟨p,CP,dp,_,_,rfl,P2.ob,T.cl,T.dJ,d4,aJ ?_⟩⟩;refine⟨vr,tr,n,s,dx,lt,lb,lf,ts++us,rfl,nr,orr,S,se pr,by lia,by lia,by lia,by lia,fun w v1 v2 t1 t2 H3 s3 hw F5 n2 o1 o2 d1 d2=>?_⟩
  obtain⟨c1,c2,c3,c4⟩:=r9 tr.ai n pr (by lia) (by rw[<-fY,hz];lia)
  have cs:=xq (ends<|ts++us) tr.ai n;rw[<-d1] at c1 c3;rw[<-d2] at c2 c4;rw[<-d1,<-d2] at cs;have en:n.toNat=c.length:=by lia
  have xH:txt (ao<|ts++us) t1.ai=c:=by rw[c3,er,e1,en,zbu]
  have sv:txt (ao<|ts++us) t2.ai=l':=by rw[c4,er,e1,en,zaT]
  have lS:=s3 _ _ hb;have UT:=aU s3;refine aN<|aV<|ag rfl<|au<|aA hw rfl ?_;refine bp<|ba<|aV<|ag rfl<|au<|aA lS rfl<|au<|dy ⟨_,rfl,iT ?_ UI⟩;refine aN<|bh sk rfl<|aw<|ag rfl<|aw<|aV<|ag rfl<|au<|aA hw rfl<|aJ ?_;refine⟨va,v1,ta,t1,ao<|ts++us,rfl,na.mono UT,F5,oa,o1,pa,c1,fun _ z=>?_,by lia,by lia,fun v4 H4 t4 s4 n4 o4 p4 e4 l4 w4=>?_⟩
  ·rw[z] at xH;have:c=[]:=by rw[<-xH];rfl
   rw[this] at e3
   simp at e3;lia
  ·show D.nx _ _;rw[hD];refine⟨some<|.ref b,some<|.ref w,v4,v2,t4,t2,us,l',r1++c,r',rfl,(bu.trans<|iW s3).trans<|iW s4,(S.same s3).same s4,n4,n2.mono<|aU s4,o4,o2,p4,c2,?_,sv,?_,h',by lia,by lia,?_,w4 pd (by rw[d1];exact FZ _ _ _ pe),(by rw[d2];exact xy _ _ _ pe),?_,?_⟩
   ·rw[e4,ea,xH]
   ·rw[j6,e2,zat]
   ·rw[zqA];lia
   ·rw[et,xB,eU];simp[dB]
   ·have h2:nk (ps.take<|i+1)=nk (ps.take i):=by rw[et,xC];rfl
    have UU:iQ "" ps i≠"keep":=fun z=>by
     unfold eB at mf;rw[zaa,bne_iff_ne] at mf;exact mf.1 z.symm
    have x0:ex=0:=by
     have:ex≠1:=fun z=>UU (sr z).1;lia
    rw[h2];by_cases zl:l'=[]
    ·have:t2.ai=[]:=F0 c2 (by rw[sv,zl])
     have l0:t2.ai.length=0:=by rw[this];rfl
     have l1:=(k9 (ends<|ts++us) tr.ai n).1;rw[<-d1] at l1;exact⟨0,by lia,zqZ _,fun z=>by cases z⟩
    ·exact⟨1,by lia,zqR _,fun _=>⟨by rw[UQ];rfl,zl⟩⟩
 |cut z=>
  obtain⟨l',e1,h'⟩:=sj b8;refine iF (ck ?_) xv;have lz:=len_list z;have hz:tr.sz=((txt (ao<|ts++us) tr.ai).length:Nat):=by rw[fY,<-m6 pr]
  have lm:(txt (ao<|ts++us) tr.ai).length=z.length+l'.length:=by rw[er,e1,zqA,<-lz]
  have hh:=Tr.fD orr (by lia)
  refine aN<|bh (iV C 32) rfl<|aw<|ag rfl<|aw<|bh jT rfl<|aw<|ag rfl<|aJ ⟨_,.cut z,rfl,⟨b,rfl,hb⟩,oq.1.1,aw<|bV<|ag rfl ⟨p,CP,dp,_,_,rfl,P2.ob,T.cl,T.dJ,d4,aJ ?_⟩⟩;refine⟨vr,tr,(z.length:Nat),s,dx,lt,lb,lf,ts++us,rfl,nr,orr,S,se pr,by lia,by lia,by lia,by lia,fun w v1 v2 t1 t2 H3 s3 hw F5 n2 o1 o2 d1 d2=>?_⟩
  obtain⟨c1,c2,c3,c4⟩:=r9 tr.ai (z.length:Nat) pr (by lia) (by rw[<-fY,hz];lia)
  have cs:=xq (ends<|ts++us) tr.ai (z.length:Nat);rw[<-d2] at c2 c4;rw[<-d1,<-d2] at cs;have sv:txt (ao<|ts++us) t2.ai=l':=by rw[c4,er,e1,zaJ,lz,zaT]
  have lS:=s3 _ _ hb;refine aN<|aV<|ag rfl<|au<|aA hw rfl ?_;refine bp<|ba<|aV<|ag rfl<|au<|aA lS rfl<|au<|dy ⟨_,rfl,iF (ck ?_) FV⟩;show D.nx _ _;rw[hD];have h2:nk (ps.take<|i+1)=nk (ps.take i)+1:=by rw[et,xC];rfl
  have l1:=(k9 (ends<|ts++us) tr.ai (z.length:Nat)).2;rw[<-d2] at l1;exact⟨some<|.ref b,some<|.ref w,va,v2,ta,t2,us,l',r1,r2,rfl,bu.trans<|iW s3,S.same s3,na.mono<|aU s3,n2,oa,o2,pa,c2,ea,sv,j6,h',by lia,by lia,xE,pd,(by rw[d2];exact xy _ _ _ pe),(by rw[et,xB,eU];simp[dB]),0,by lia,zqZ _,fun z=>by cases z⟩
theorem UW{K:Frag}(T:cN K CP):bF (xD CP C) (fun E=>aK K (F4 CP C) [] [] [] [("Paper",CP,lQ CP)] (E:=E)) C5 C4:=by
 intro vs H Q E h;obtain⟨p,dp,s,dx,lt,lb,lf,a,v,t,ts,xs,ps,r,rfl,P,S,l1,l2,l3,l4,ha,a1,a2,a3,cH,aH,cT,hr,nt,k⟩:=h;have lx:=Paired.length cH;have a0:a≠s:=fun z=>by rw[z,S.ob] at ha;cases ha
 refine jj<|bh (xp CP C) rfl<|aw<|ag rfl<|aw<|ag rfl<|aJ ⟨p,dp,s,dx,lt,lb,lf,a,v,t,ts,xs,ps,r,rfl,P,S,by lia,by lia,by lia,l4,ha,cH,aH,cT,by lia,hr,fun H1 s1=>?_⟩
 have P1:=P.same s1;have S1:=S.same s1;refine aN<|au<|aN<|bV<|ag rfl ⟨p,CP,dp,_,_,rfl,P1.ob,T.cl,T.fB,fZ,?_⟩;refine xo<|ag rfl ⟨a,rfl,⟨_,ay.of<|s1 _ _ ha⟩,km (K:=K) (a:=a) (xs:=xs) (sq C H p a s dx lt lb lf t.ai.length ts ps r) ?_ ?_ ?_ ?_⟩
 ·exact⟨none,none,.az,v,.nil,t,[],_,[],r,rfl,iW s1,by rw[zae];exact S1,rfl,P1.nd,trivial,P.ok,fun q hq=>(by cases hq),by rw[zae];exact P.pc,rfl,by rw[zae],rfl,hr,by show 0+_<=_;lia,zqZ _,zqZ _,trivial,nt,rfl,0,by show 0+_<=_+2*0+0;lia,zqZ _,fun z=>by cases z⟩
 ·rintro i σ H2 _ ⟨_,_,_,_,_,_,_,_,_,_,_,bu,_⟩;exact ay.of<|bu _ _ ha a0 a1 a2 a3
 ·intro i x σ H2 hi I;obtain⟨q,hq,jg⟩:=cH.get hi;have bu:dz s lt lb lf H H2:=by obtain⟨_,_,_,_,_,_,_,_,_,_,_,bu,_⟩:=I;exact bu
  exact UN T P S hq cT (aH q<|zap hq) (jg.mono<|bu.b_ S) l1 l2 l3 I rfl rfl
 ·rintro σ H2 ⟨x4,x5,va,vr,ta,tr,us,m2,r1,r2,rfl,bu,S2,na,nr,oa,orr,pa,pr,ea,er,j6,b8,bl,UO,xE,pd,pe,eU,ex,xF,UP,sr⟩;rw[lx,zbv] at b8;rw[lx] at eU xF sr;rw[zaE] at eU xF;have e2:r2=[]:=by cases b8;rfl
  have em:m2=[]:=by cases b8;rfl
  have x0:ex=0:=by
   have:ex≠1:=fun z=>(sr z).2 em;lia
  rw[e2,zae] at j6;have P2:=P.but S bu;refine bU<|FO CP (lQ CP) rfl<|bV<|ag rfl ⟨p,CP,dp,_,_,rfl,P2.ob,T.cl,T.dJ,d4,ag rfl fun p' gI f1 f2 f3=>?_⟩;refine⟨p',gI,s,va,rfl,aG,fun H3 h3 hk=>⟨rfl,?_⟩⟩;have s3:aF H2 H3:=fun b o e=>hk b o (by rw[aI<|bK e f1,aI<|bK e f2];exact e) (bK e f1)
  have fp:H p'=none:=by
   cases hq:H p' with
   |none=>rfl
   |some o=>
    exfalso
    by_cases z1:p'=s
    ·rw[z1,S2.ob] at f1;cases f1
    ·by_cases z2:p'=lt
     ·rw[z2,S2.tx] at f1;cases f1
     ·by_cases z3:p'=lb
      ·rw[z3,S2.bg] at f1;cases f1
      ·by_cases z4:p'=lf
       ·rw[z4,S2.fd] at f1;cases f1
       ·rw[bu _ _ hq z1 z2 z3 z4] at f1;cases f1
  exact k p' gI va ta us H3 (bu.trans<|iW s3) fp (S2.same s3) ⟨h3,na.mono<|aU s3,oa,pa⟩ (by rw[ea,j6]) (by lia) (by lia) (by rw[j6];exact xE) pd (by lia) eU
def xI(CP C:Addr):Sp:=fun vs H Q E=>∃(x:Str),vs=[.str x]/\good x/\
 ∀p dp s dx lt lb lf v t ts H',aF H H'->bB C H' s dx lt lb lf ts->bS CP H' p dp s v t (ao ts)->txt (ao ts) t.ai=x.cps.toList->t.ai.length<=1->ts.length<=1->(ao ts).length<=x.length->H p=none->H s=none->H lt=none->H lb=none->H lf=none->Q (.ref p) H'
theorem UX{K:Frag}{CT:Addr}:bF (xI CP C) (fun E=>aK K [("need_text",rO CT),("node_put",o9 C)] [] [] [] [("Stock",C,wJ C),("Paper",CP,lQ CP)] (E:=E)) CK CJ:=by
 intro vs H Q E h;obtain⟨x,rfl,gx,k⟩:=h;refine jj<|bh (rO CT) rfl<|aw<|ag rfl<|aJ ⟨_,rfl,.inl ⟨x,rfl,gx,?_⟩⟩;refine aN<|Up C (wJ C) rfl fun s dx f1 f2 f3=>⟨s,dx,rfl,aG,fun lt lb lf H1 S1 g1 g2 g3 hk=>⟨rfl,?_⟩⟩;have s1:aF H H1:=fun b o e=>hk b o (by rw[aI<|bK e f1,aI<|bK e f2];exact e) (bK e f1)
 have fr:∀b,upd (upd H dx<|.own s) s (.ins C dx []) b=none->H b=none:=fun b e=>by
  cases hq:H b with
  |none=>rfl
  |some o=>rw[aI<|bK hq f1,aI<|bK hq f2,hq] at e;cases e
 have q1:=fr lt g1;have q2:=fr lb g2;have q3:=fr lf g3;have fin:∀(H2:Hp) (v:V) (t:Tr) (ts:List Str),dz s lt lb lf H1 H2->bB C H2 s dx lt lb lf ts->Nd H2 t v->t.ok->(∀q∈t.ai,bD (ao ts) q)->txt (ao ts) t.ai=x.cps.toList->t.ai.length<=1->ts.length<=1->(ao ts).length<=x.length->
   ∀p dp,H2 p=none->H2 dp=none->dp≠p->lQ CP [.ref p,.ref s,v] (upd (upd H2 dp<|.own p) p<|.ins CP dp []) (fun v H2=>v=.az/\Q (.ref p) H2) E:=by
  intro H2 v t ts b2 S2 n2 o2 p2 e2 l2 l3 l4 p dp h1 h2 h3;have s2:aF H H2:=fun b o e=>b2 b o (s1 _ _ e) (bK e f1) (bK e q1) (bK e q2) (bK e q3);refine⟨p,dp,s,v,rfl,aG,fun H3 h3 hk=>⟨rfl,?_⟩⟩;have s3:aF H2 H3:=fun b o e=>hk b o (by rw[aI<|bK e h1,aI<|bK e h2];exact e) (bK e h1)
  exact k p dp s dx lt lb lf v t ts H3 (s2.trans s3) (S2.same s3) ⟨h3,n2.mono<|aU s3,o2,p2⟩ e2 l2 l3 l4 (s2.free h1) f1 q1 q2 q3
 refine bU<|FO CP (lQ CP) rfl<|ag rfl<|bh (o9 C) rfl<|aw<|ag rfl<|aw<|ag rfl<|aJ ⟨s,dx,lt,lb,lf,[],x,rfl,S1,gx,zqZ _,zqZ _,?_⟩;by_cases hx:x=""
 ·refine .inl ⟨hx,fin H1 .az .nil [] (iW<|aF.refl _) S1 rfl trivial (fun q hq=>(by cases hq)) (by rw[hx];rfl) (zqZ _) (zqZ _)<|zqZ _⟩
 ·obtain⟨pz,ez⟩:=FU (ts:=[]) hx;refine .inr ⟨hx,fun v H2 t b2 S2 n2 o2 e2=>fin H2 v t [x] b2 S2 n2 o2 (fun q hq=>?_) ?_ ?_ (zqR _) ?_⟩
  ·rw[e2] at hq;rw[zav.mp hq];exact pz
  ·rw[e2,cg,txt_nil,zae];exact ez
  ·rw[e2];exact zqR _
  ·rw[jl,len_list];exact zqR _
theorem pick{its:List V}{j:Int}(h0:0<=j)(h1:j<its.length):∃v∈its,dX its j=some v:=by
 have jm:j.toNat<its.length:=by lia
 refine⟨its[j.toNat],zbc jm,?_⟩;have e:=fh (xs:=its) (j:=j.toNat) (v:=its[j.toNat]) (by simp[jm])
 rw[show((j.toNat:Nat):Int)=j by lia] at e
 exact e
def lT:Sp:=fun vs H Q E=>∃c k,vs=[.int c,.int k]/\∀m,0<=m->Q (.int m) H
theorem UY{K:Frag}:bF (lT) (fun E=>aK K [] [] (E:=E)) C7 C6:=by
 intro vs H Q E h;obtain⟨c,k,rfl,q⟩:=h;have h0:∀z:Int,0<=z % 2147483647/\z % 2147483647<2147483647:=fun z=>⟨zaz _ (by decide),zaB _ (by decide)⟩
 have h1:=h0 (c*48271+7919*k+12345);have h2:=h0 ((c*48271+7919*k+12345) % 2147483647* ((c*48271+7919*k+12345) % 2147483647));have pm:(0:Int) <2147483647:=by decide
 refine⟨_,rfl,.inr ⟨by decide,by decide⟩,_,rfl,.inl ⟨by decide,by decide⟩,pm,?_⟩
 refine⟨_,rfl,_,rfl,.inl ⟨by lia,by lia⟩,pm,_,rfl,.inl ⟨by lia,by lia⟩,pm,?_⟩
 exact q _<|zaz _ (by decide)
def A4:Str:="abcdefghijklmnopqrstuvwxyz{|}~"
def A5:Str:="ab"
theorem F6:rG (A1++A4):=E4 (by decide+kernel)
theorem F7:(A1++A4).length=94:=by decide+kernel
theorem UZ:rG A5:=E4 (by decide+kernel)
theorem U0:A1.length+A4.length<=sizeLine:=by decide+kernel
theorem U1:rH "\n":=⟨rfl,fun c hc=>by
 have:((Str.ofString "\n").cps.toList.all fun c=>SG.cps.contains c)=true:=by decide+kernel
 exact zaV.mp this c hc⟩
theorem xJ{K:Frag}{sd:Addr->List (Key×V)->Prop}{al:Str}{j:Int}(ho:rG al)(h0:0<=j)(h1:j<al.length)(q:∀t,rH t->Q (.str t) H):ja K sd (.str al) (.int j) H Q:=by
 have jm:j.toNat<al.cps.toList.length:=by rw[<-len_list];lia
 refine .inr<|.inr<|.inl ⟨al,j,al.cps.toList[j.toNat],rfl,rfl,bE (by have:=ho.2.1;lia),?_,q _ ⟨rfl,fun c hc=>?_⟩⟩
 ·have e:=fh (xs:=al.cps.toList) (j:=j.toNat) (v:=al.cps.toList[j.toNat]) (by simp[jm])
  rw[show((j.toNat:Nat):Int)=j by lia] at e
  exact e
 ·have:c=al.cps.toList[j.toNat]:=by simpa using hc
  rw[this];exact ho.2.2 _ (zbc jm)
theorem U2{x t:Str}(hx:good x)(ht:rH t)(hl:x.length<=1000):good (x++t):=by
 refine⟨by rw[E5,ht.1];lia,fun c hc=>?_⟩
 rw[app_list] at hc;rcases zao.mp hc with h|h
 ·exact hx.2 c h
 ·exact ht.2 c h
theorem U3:good "":=⟨by decide,fun c hc=>by
 have:((Str.ofString "").cps.toList.all fun c=>SG.cps.contains c)=true:=by decide+kernel
 exact zaV.mp this c hc⟩
def nc:Sp:=fun vs H Q E=>∃c n,vs=[.int c,.int n]/\0<=n/\n<=1000/\∀x H',good x->x.length=n.toNat->aF H H'->Q (.str x) H'
theorem U4{K:Frag}:bF (nc) (fun E=>aK K [("_law_mixed",lT)] [] (E:=E)) C9 C8:=by
 intro vs H Q E h;obtain⟨c,n,rfl,Y1,gi,k⟩:=h;refine aN<|au ?_;refine aN<|aE<|ag rfl<|au ⟨U0,?_⟩;refine aN<|au ?_;refine⟨_,rfl,n,rfl,by lia,by lia,pW (lo:=0) (n:=n.toNat) (fun i σ H2=>∃(x:Str) (u4 u5:Option V),σ=[some<|.int c,some<|.int n,some<|.str<|A1++A4,some<|.str x,u4,u5]/\aF H H2/\good x/\x.length=i) ⟨_,none,none,rfl,aF.refl _,U3,rfl⟩ ?_ ?_⟩
 ·rintro i σ H2 hi ⟨x,u4,u5,rfl,s2,hx,oR⟩;refine aN<|bh lT rfl<|aw<|ag rfl<|aw<|ag rfl<|aJ ⟨_,_,rfl,fun m hm=>?_⟩;have m2:0<=m / 8 % 2/\m / 8 % 2<2:=⟨zaz _ (by decide),zaB _ (by decide)⟩
  have sx:0<=m / 8 % 94/\m / 8 % 94<94:=⟨zaz _ (by decide),zaB _ (by decide)⟩
  have c8:t6 m 8:=⟨by decide,by decide⟩
  refine aN<|aE<|ag rfl<|aV<|fS<|aw<|au<|aw<|aV<|au<|aE<|aE<|ag rfl<|au ⟨c8,au ⟨(by show(0:Int) <2;decide),?_⟩⟩
  refine xJ UZ m2.1 m2.2 fun t1 o1=>?_;refine aw<|aV<|ag rfl<|aE<|aE<|ag rfl<|au ⟨c8,au ⟨(by show(0:Int) <94;decide),?_⟩⟩
  refine xJ F6 sx.1 (by rw[F7];exact sx.2) fun t2 o2=>?_
  refine aw<|aV<|ag rfl<|aE<|aE<|ag rfl<|au ⟨c8,au ⟨(by show(0:Int) <94;decide),?_⟩⟩
  refine xJ F6 sx.1 (by rw[F7];exact sx.2) fun t3 o3=>?_
  refine aJ ⟨HC,fun l hl=>?_⟩;have s3:=sameNew (o:=.lst [V.str "\n",V.str t1,V.str t2,V.str t3]) hl;obtain⟨v,hv,U5⟩:=pick (its:=[V.str "\n",V.str t1,V.str t2,V.str t3]) (j:=m % 4) (zaz _ (by decide)) (zaB _ (by decide))
  have t9:∃t,v=.str t/\rH t:=by
   simp only[zad,zah,or_false] at hv
   rcases hv with rfl|rfl|rfl|rfl
   ·exact⟨_,rfl,U1⟩
   ·exact⟨_,rfl,o1⟩
   ·exact⟨_,rfl,o2⟩
   ·exact⟨_,rfl,o3⟩
  obtain⟨t,rfl,ot⟩:=t9;refine aE<|ag rfl<|au ⟨(by show(0:Int) <4;decide),.inl ⟨l,_,_,_,rfl,rfl,ay.of aG,U5,?_⟩⟩
  refine⟨bE (by rw[ot.1];lia),?_⟩
  exact⟨_,_,_,rfl,s2.trans s3,U2 hx ot (by lia),by rw[E5,ot.1,oR]⟩
 ·rintro σ H2 ⟨x,u4,u5,rfl,s2,hx,oR⟩;exact bU<|ag rfl<|k x H2 hx oR s2
theorem U6{K:Frag}:bF (wC) (fun E=>aK K [] [] (E:=E)) Df De:=by
 intro vs H Q E h;obtain⟨x,a,xs,ps,r,rfl,hx,ha,cH,aH,hr,iS,q⟩:=h;have hlen:=Paired.length cH;refine⟨_,rfl,a,rfl,⟨_,ay.of ha⟩,km (K:=K) (a:=a) (xs:=xs) (fun i σ H2=>∃l1 l2 q1 q2 w v,σ=[some (.str x),some (.ref a),some (.str ⟨q1.toArray⟩),some (.int ((l1.length:Nat):Int)),w,v]/\H2=H/\
   x.cps.toList=l1++l2/\r=q1++q2/\Run l2 (ps.drop i) q2)
  ⟨[],x.cps.toList,[],r,none,none,rfl,rfl,rfl,rfl,hr⟩ (fun i σ H2 _ ⟨_,_,_,_,_,_,_,e,_⟩=>e ▸ ay.of ha) ?_ ?_⟩
 ·rintro i y σ H2 hi ⟨l1,l2,q1,q2,w,v,rfl,rfl,e1,e2,b8⟩;obtain⟨pt,cP,b,rfl,hb⟩:=cH.get hi;have jI:i<ps.length:=(zab.mp cP).1;have ed:ps.drop i=pt::ps.drop (i+1):=by
   rw[zaY jI]
   congr 1
   exact zak<|(zaD jI).symm.trans cP
  rw[ed] at b8;obtain⟨la,lb,qa,qb,rfl,rfl,xM,one⟩:=Sm b8;have U7:=aH pt (zap cP);have lH:q1.length+qa.length<=1000000:=by rw[e2] at iS;simp at iS;lia
  refine⟨b,_,rfl,.inl<|aO.of hb,rfl,_,_,rfl,_,_,rfl,rfl,?_⟩;cases pt with
  |put s=>
   obtain⟨rfl,rfl⟩:=one;refine⟨_,rfl,_,rfl,_,rfl,_,rfl,bE (by rw[len_list,len_list];exact lH),?_⟩
   refine⟨l1,lb,q1++s.cps.toList,qb,some<|.str "put",some<|.str s,?_,rfl,e1,by rw[e2];simp,xM⟩
   show[_,_,some<|V.str<|⟨q1.toArray⟩++s,_,_,_]=_;rw[show(⟨q1.toArray⟩++s:Str)=⟨(q1++s.cps.toList).toArray⟩ from gu (by rw[app_list])]
   rfl
  |cut s=>
   obtain⟨rfl,rfl⟩:=one;refine⟨_,rfl,_,rfl,_,rfl,_,rfl,_,rfl,_,rfl,bE U7,?_⟩;refine⟨l1++s.cps.toList,lb,q1,qb,some<|.str "cut",some<|.str s,?_,rfl,by rw[e1];simp,e2,xM⟩
   show[_,_,_,some<|V.int<|(l1.length:Int)+(s.length:Int),_,_]=_;rw[zqA,<-len_list,zbz]
   rfl
  |keep n=>
   obtain⟨rfl,hn⟩:=one;refine⟨_,rfl,_,rfl,_,rfl,_,rfl,?_⟩;refine⟨_,rfl,_,rfl,_,rfl,_,rfl,_,rfl,_,rfl,_,rfl,bE hx.1,?_⟩;rw[Fb e1 n hn];refine⟨bE (by rw[len_list,len_list];exact lH),?_⟩
   refine⟨_,rfl,_,rfl,?_⟩;refine⟨l1++la,lb,q1++la,qb,some<|.str "keep",some<|.int n,?_,rfl,by rw[e1];simp,by rw[e2];simp,xM⟩
   show[_,_,some<|V.str<|⟨q1.toArray⟩++ ⟨la.toArray⟩,some<|V.int<|(l1.length:Int)+n,_,_]=_;rw[show(⟨q1.toArray⟩++ ⟨la.toArray⟩:Str)=⟨(q1++la).toArray⟩ from gu (by rw[app_list]),zqA,hn,zbz]
   rfl
 ·rintro σ H2 ⟨l1,l2,q1,q2,w,v,rfl,rfl,e1,e2,b8⟩;rw[hlen,zbv] at b8;cases b8;rw[zae] at e2;subst e2;exact⟨_,rfl,q⟩
theorem F8{α β:Type}{R:α->β->Prop}:∀{ps:List β}{p:β}{xs:List α},Paired R xs (ps++[p])->∃sy x,xs=sy++[x]/\Paired R sy ps/\R x p
 |[],p,_,.cons h .nil=>⟨[],_,rfl,.nil,h⟩
 |q::ps,p,_,.cons h r=>by
  obtain⟨sy,x,e,a,b⟩:=F8 (ps:=ps) r;exact⟨_::sy,x,by rw[e];rfl,.cons h a,b⟩
section
variable {Γ:bf}{D:Ends}{σ:St}{H:Hp}{r:List RS}{Q:VK}
theorem nh{i:Int}(h:Q (.int<|-i) H):aj Γ (.neg<|.c<|.int i) σ H Q:=h
theorem U8{ix:RE}(h:aj Γ e σ H fun v H1=>aj Γ o σ H1 fun x H2=>aj Γ ix σ H2 fun y H3=>uk x y v H3 fun H4=>aB Γ r D σ H4):aB Γ (.set o ix e::r) D σ H:=h
theorem F9{is:List Nat}{x:RE}(h:aj Γ x σ H fun v H1=>∃a,v=.ref a/\(∃xs,ay Γ.K H1 a xs)/\∃W:Nat->Nat->St->Hp->Prop,(∃m,W 0 m σ H1)/\∀j m σ H,W j m σ H->
  ((cp Γ.K a).stop j H/\({D with nx:=aB Γ r D}:Ends).nx σ H)\/((cp Γ.K a).go j H/\∃N:St->Hp->Prop,(∀σ' H',N σ' H'->∃m',m'<m/\W (j+1) m' σ' H')/\∀x H',(cp Γ.K a).dE j H x H'->gj Γ.K is.length (fP is) x σ H' fun σ2 H2=>aB Γ body {({D with nx:=aB Γ r D}:Ends) with nx:=N,ct:=N,bk:=({D with nx:=aB Γ r D}:Ends).nx} σ2 H2)):
  aB Γ (.kI is .list [x] body::r) D σ H:=m8 (x:=x) _ _ (fun _ _=>Iff.rfl) h
end
theorem F_{K:Frag}{a b:Addr}(ha:H a=some (.lst xs))(hb:H b=some (.lst []))(hx:bH H xs ps)(ho:∀p∈ps,dY p)(q:Q (.bl<|decide<|ps≠ []) H):
  bX K .NotEq (.ref a) (.ref b) H Q:=by
 refine⟨.list<|ps.map toD,.list [],⟨a,xs,rfl,ha,E8 hx⟩,⟨b,[],rfl,hb,rfl⟩,Sk ho,(by decide),?_⟩
 have e:(true ^^ PyData.eqv (.list<|ps.map toD) (.list []))=decide (ps≠ []):=by
  cases ps with
  |nil=>rfl
  |cons p r=>rfl
 rw[e];exact q
theorem Ga{x w:Str}(mk:Str->Pt)(hw:(mk x).word=w)(hv:(mk x).val=.str x)(hσ:σ[i]?=some (some<|.str x))
  (k:∀b H' ys,aF H H'->H b=none->H' b=some (.lst ys)->bH H' ys (B.txt mk x)->Q (.ref b) H'):
  aj Γ (.bin .Mult (.lst [(.tup [(.c<|.str w),.v i])])<|.blt .int [(.cmp .NotEq (.v i)<|.c<|.str "")]) σ H Q:=by
 refine aE<|fS<|aw<|gA<|aw<|au<|aw<|ag hσ<|aJ ⟨cR,fun t ft=>aJ ⟨gb,fun l fl=>?_⟩⟩;have s1:=sameNew (o:=.tup [.str w,.str x]) ft;have s2:=sameNew (o:=.lst [V.ref t]) fl;refine oP<|aw<|mV<|ag hσ<|au<|jW<|aJ ?_;show uN (.ref l) (.int (if (x !=("":Str))=true then 1 else 0)) _ Q
 by_cases hx:x=""
 ·have e:(x !=("":Str))=false:=by rw[hx];decide
  rw[e];refine⟨l,0,[.ref t],rfl,rfl,aG,by decide,by decide,zbK rfl,fun p fp=>?_⟩
  exact k p _ _ ((s1.trans s2).trans<|sameNew fp) ((s1.trans s2).free fp) aG (by rw[hx,B.txt_nil];exact .nil)
 ·have e:(x !=("":Str))=true:=by simp[hx]
  rw[e];refine⟨l,1,[.ref t],rfl,rfl,aG,by decide,by decide,zbK rfl,fun p fp=>?_⟩
  refine k p _ [.ref t] ((s1.trans s2).trans<|sameNew fp) ((s1.trans s2).free fp) aG ?_;rw[B.cg hx];exact .cons ⟨t,rfl,by rw[hw,hv];exact(s2.trans<|sameNew fp) _ _ aG⟩ .nil
theorem Gb(n:Nat):gP (n+1) (-1)=some n:=by
 unfold gP;have:¬(0:Int)<= -1:=by decide
 rw[if_neg this,if_pos (by lia)]
 congr 1
 lia
theorem xO:(("keep":Str)==("keep":Str))=true:=by decide+kernel
theorem U9:(("put":Str)==("keep":Str))=false:=by decide+kernel
theorem U_{w:Option V}{f:Addr}{P C:V}{n:Int}{F:List Pt}(hf:H f=some (.lst ys))(pv:bH H ys F)(ho:∀p∈F,dY p)(hl:F.length<=900000)
  (k:∀H' dO,bQ f H H'->H' f=some (.lst dO)->bH H' dO (gw F n)->D.nx [w,some<|.ref f,some P,some C,some<|.str "keep",some<|.int n] H'):
  aB Γ [.ite (.and [(.cmp .Eq (.v 4)<|.c<|.str "keep"),(.cmp .NotEq (.v 1)<|.lst []),(.cmp .Eq (.ix (.ix (.v 1)<|.neg<|.c<|.int 1)<|.c<|.int 0)<|.c<|.str "keep")]) [.set (.v 1) (.neg<|.c<|.int 1)<|.tup [(.c<|.str "keep"),(.bin .Add (.ix (.ix (.v 1)<|.neg<|.c<|.int 1)<|.c<|.int 1)<|.v 5)]] [.ite (.cmp .Eq (.v 4)<|.c<|.str "keep") [.drop<|.bq .append (.v 1) [(.tup [(.c<|.str "keep"),.v 5])]] []]]
   D [w,some<|.ref f,some P,some C,some<|.str "keep",some<|.int n] H:=by
 have lf:=Paired.length pv;have app:∀H1,aF H H1->gw F n=F++[.keep n]->aB Γ [.ite (.cmp .Eq (.v 4)<|.c<|.str "keep") [.drop<|.bq .append (.v 1) [(.tup [(.c<|.str "keep"),.v 5])]] []] {D with nx:=aB Γ [] D} [w,some<|.ref f,some P,some C,some<|.str "keep",some<|.int n] H1:=by
  intro H1 s1 e;refine bp<|ba<|ag rfl<|au<|dy ⟨_,rfl,iT ?_ xO⟩;refine jj<|fV<|ag rfl ⟨.inl ⟨rfl,_,ay.of<|s1 _ _ hf⟩,gA<|aw<|au<|aw<|ag rfl<|aJ ⟨cR,fun t ft=>⟨ys,(sameNew ft) _ _<|s1 _ _ hf,fE (by lia),?_⟩⟩⟩
  have s2:=s1.trans (sameNew (o:=.tup [.str "keep",.int n]) ft);have bb:bQ f H (upd (upd H1 t<|.tup [.str "keep",.int n]) f<|.lst<|ys++[V.ref t]):=fun b o e ne=>by rw[aI ne];exact s2 _ _ e
  have nt:t≠f:=fun z=>by rw[z,s1 _ _ hf] at ft;cases ft
  refine k _ _ bb aG ?_;rw[e];exact B.Paired.app (pv.mono<|bb.b_ hf)<|.cons ⟨t,rfl,by rw[aI nt,aG];rfl⟩ .nil
 refine bp<|wQ<|ba<|ag rfl<|au<|dy ⟨_,rfl,iT ?_ xO⟩;refine wQ<|ba<|ag rfl<|fS<|aJ ⟨zqZ _,fun e fe=>?_⟩;have s1:=sameNew (o:=.lst []) fe;refine F_ (s1 _ _ hf) aG (pv.mono<|aU s1) ho ⟨_,rfl,?_⟩;rcases List.eq_nil_or_concat F with hF|⟨F',p,hF⟩
 ·refine iF (iF (app _ s1 (by rw[hF];rfl)) rfl) (by rw[hF];rfl)
 ·rw[List.concat_eq_append] at hF;refine iT ?_ (by rw[hF];simp)
  have sA:=pv;rw[hF] at sA;obtain⟨pf,x,ey,p0,⟨b,ex,hb⟩⟩:=F8 sA;have ph:=s1 _ _ hf;rw[ey,ex] at ph;have mT:=s1 _ _ hb;refine S9<|ba<|aV<|aV<|ag rfl<|nh<|fF ph (zX _ _)<|au<|aA mT rfl<|au<|dy ⟨_,rfl,?_⟩;cases p with
  |keep m=>
   refine iT ?_ xO;refine U8<|gA<|aw<|au<|aw<|aE<|aV<|aV<|ag rfl<|nh<|fF ph (zX _ _)<|au<|aA mT rfl<|ag rfl<|bz<|aJ ⟨cR,fun t ft=>?_⟩;have s2:=s1.trans (sameNew (o:=.tup [.str "keep",.int<|m+n]) ft);have Va:=(sameNew (o:=.tup [.str "keep",.int<|m+n]) ft) _ _ ph;refine ag rfl<|nh ⟨f,_, -1,pf.length,rfl,rfl,Va,by rw[zqA];exact Gb _,?_⟩
   have es:(pf++[V.ref b]).set pf.length (.ref t)=pf++[.ref t]:=by rw[List.set_append_right _ _<|zqR _,Nat.sub_self];rfl
   rw[es];have bb:bQ f H (upd (upd (upd H e<|.lst []) t<|.tup [.str "keep",.int<|m+n]) f<|.lst<|pf++[V.ref t]):=fun b o e ne=>by rw[aI ne];exact s2 _ _ e
   have nt:t≠f:=fun z=>by rw[z,ph] at ft;cases ft
   refine k _ _ bb aG ?_;rw[hF,wx];exact B.Paired.app (bH.mono (bb.b_ hf) p0)<|.cons ⟨t,rfl,by rw[aI nt,aG,Int.add_comm];rfl⟩ .nil
  |put z=>exact iF (app _ s1 (by rw[hF];exact rJ fun q hq=>by rw[zbB] at hq;cases hq;rfl)) U9
  |cut z=>exact iF (app _ s1 (by rw[hF];exact rJ fun q hq=>by rw[zbB] at hq;cases hq;rfl)) FV
def gJ(a:Str):List Pt->Str
 |[]=>a
 |p::r=>gJ p.word r
theorem ni:∀(F:List Pt) (a:Str) (G:List Pt),chainOk a (F++G)=(chainOk a F && chainOk (gJ a F) G)
 |[],a,G=>by simp[chainOk,gJ]
 |p::F,a,G=>by
  show(eB p.word a && chainOk p.word (F++G))=_;rw[ni F p.word G,<-Bool.and_assoc];rfl
theorem pj:∀(F:List Pt) (a:Str) (G:List Pt),gJ a (F++G)=gJ (gJ a F) G
 |[],a,G=>rfl
 |p::F,a,G=>pj F p.word G
structure Gd (F:List Pt):Prop where
 ok:∀p∈F,dw p
 ch:chainOk "" F=true
 la:gJ "" F=""\/gJ "" F="keep"
def tl(P C:Str):List Pt:=B.txt .put P++B.txt .cut C
theorem Ge{w P C:Str}(h:w=""\/w="keep"):chainOk w (tl P C)=true:=by
 unfold tl;by_cases hp:P="" <;>by_cases hc:C=""
 ·rw[hp,hc,B.txt_nil,B.txt_nil];rfl
 ·rw[hp,B.txt_nil,B.cg hc];rcases h with rfl|rfl
  ·show(eB "cut" "" && true)=true;decide+kernel
  ·show(eB "cut" "keep" && true)=true;decide+kernel
 ·rw[hc,B.txt_nil,B.cg hp];rcases h with rfl|rfl
  ·show(eB "put" "" && true)=true;decide+kernel
  ·show(eB "put" "keep" && true)=true;decide+kernel
 ·rw[B.cg hp,B.cg hc];rcases h with rfl|rfl
  ·show(eB "put" "" && (eB "cut" "put" && true))=true;decide+kernel
  ·show(eB "put" "keep" && (eB "cut" "put" && true))=true;decide+kernel
theorem Gf(P C:Str):(tl P C).length<=2:=by
 unfold tl B.txt;by_cases hp:P="" <;>by_cases hc:C="" <;>simp[hp,hc]
theorem Gg{P C:Str}(hp:good P)(hc:good C):∀q∈tl P C,dw q:=by
 intro q hq;unfold tl B.txt at hq;rcases zao.mp hq with h|h
 ·by_cases z:P=""
  ·rw[if_pos z] at h;cases h
  ·rw[if_neg z] at h;rw[zav.mp h];exact⟨hp,z⟩
 ·by_cases z:C=""
  ·rw[if_pos z] at h;cases h
  ·rw[if_neg z] at h;rw[zav.mp h];exact⟨hc,z⟩
theorem Gh{F:List Pt}{P C:Str}(h:Run l F r):Run (l++C.cps.toList) (F++tl P C) (r++P.cps.toList):=by
 have:=h.app (E_ (s:=P)|>.app (Sl (s:=C)));rw[zaO,zae] at this;exact this
theorem sD:∀{F G:List Pt}{l r:List Nat},Run l (F++G) r->∃l1 l2 r1 r2,l=l1++l2/\r=r1++r2/\Run l1 F r1/\Run l2 G r2
 |[],G,l,r,h=>⟨[],l,[],r,rfl,rfl,.nil,h⟩
 |.keep n::F,G,l,r,h=>by
  obtain⟨a,l',r',rfl,rfl,e,h'⟩:=pb h;obtain⟨l1,l2,r1,r2,rfl,rfl,h1,h2⟩:=sD (F:=F) h';exact⟨a++l1,l2,a++r1,r2,by simp,by simp,.keep e h1,h2⟩
 |.put s::F,G,l,r,h=>by
  obtain⟨r',rfl,h'⟩:=si h;obtain⟨l1,l2,r1,r2,rfl,rfl,h1,h2⟩:=sD (F:=F) h';exact⟨l1,l2,s.cps.toList++r1,r2,rfl,by simp,.put h1,h2⟩
 |.cut s::F,G,l,r,h=>by
  obtain⟨l',rfl,h'⟩:=sj h;obtain⟨l1,l2,r1,r2,rfl,rfl,h1,h2⟩:=sD (F:=F) h';exact⟨s.cps.toList++l1,l2,r1,r2,by simp,rfl,.cut h1,h2⟩
theorem Gi(h:Run l [] r):l=[]/\r=[]:=by cases h;exact⟨rfl,rfl⟩
theorem sE{c:List Nat}{n:Int}(h:n=c.length):Run c [.keep n] c:=by
 have:=Run.keep (a:=c) h Run.nil;rw[zae] at this;exact this
theorem Gj(F:List Pt):(∃F' m,F=F'++[.keep m])\/((gJ "" F=""\/gJ "" F="put"\/gJ "" F="cut")/\∀n,gw F n=F++[.keep n]):=by
 rcases List.eq_nil_or_concat F with rfl|⟨F',p,hF⟩
 ·exact .inr ⟨.inl rfl,fun n=>rfl⟩
 ·rw[List.concat_eq_append] at hF;subst hF;cases p with
  |keep m=>exact .inl ⟨F',m,rfl⟩
  |put z=>exact .inr ⟨.inr<|.inl (by rw[pj];rfl),fun n=>rJ fun q hq=>by rw[zbB] at hq;cases hq;rfl⟩
  |cut z=>exact .inr ⟨.inr<|.inr (by rw[pj];rfl),fun n=>rJ fun q hq=>by rw[zbB] at hq;cases hq;rfl⟩
theorem Vb{F:List Pt}{c:List Nat}{n:Int}(h:Run l F r)(hn:n=c.length):Run (l++c) (gw F n) (r++c):=by
 rcases Gj F with⟨F',m,rfl⟩|⟨_,e⟩
 ·rw[wx];obtain⟨l1,l2,r1,r2,rfl,rfl,h1,h2⟩:=sD h;obtain⟨a,l',r',rfl,rfl,e,h'⟩:=pb h2;obtain⟨rfl,rfl⟩:=Gi h';rw[zae,zat,zat];exact h1.app<|sE (by rw[zqA,e,hn];lia)
 ·rw[e];exact h.app (sE hn)
theorem Vc{F:List Pt}{n:Int}(h:∀p∈F,dw p)(hc:chainOk "" F=true)(hn:1<=n):Gd (gw F n):=by
 rcases Gj F with⟨F',m,rfl⟩|⟨hw,e⟩
 ·rw[wx];rw[ni] at hc;have hm:1<=m:=h (.keep m) (by simp)
  refine⟨fun p hp=>?_,?_,.inr (by rw[pj];rfl)⟩
  ·rcases zao.mp hp with q|q
   ·exact h p (by simp[q])
   ·rw[zav.mp q];show 1<=n+m;lia
  ·rw[ni];exact hc
 ·rw[e];refine⟨fun p hp=>?_,?_,.inr (by rw[pj];rfl)⟩
  ·rcases zao.mp hp with q|q
   ·exact h p q
   ·rw[zav.mp q];exact hn
  ·rw[ni,hc];show(true && (eB "keep" (gJ "" F) && true))=true;rcases hw with z|z|z<;>rw[z] <;>decide+kernel
theorem Gk{p:Pt}(h:dw p):dY p:=by
 cases p with
 |keep n=>trivial
 |put s=>exact h.1.2
 |cut s=>exact h.1.2
theorem Gm{w wd va:Option V}{f:Addr}{P C:Str}{F:List Pt}{rest:List RS}(hf:H f=some (.lst ys))(pv:bH H ys F)(hl:F.length<=900000)
  (k:∀f' H' dO,aF H H'->H f'=none->H' f'=some (.lst dO)->bH H' dO (F++tl P C)->aB Γ rest D [w,some<|.ref f',some<|.str "",some<|.str "",wd,va] H'):
  aB Γ (.asg 1 (.bin .Add (.bin .Add (.v 1) (.bin .Mult (.lst [(.tup [(.c (.str "put")),.v 2])]) (.blt .int [(.cmp .NotEq (.v 2) (.c (.str "")))]))) (.bin .Mult (.lst [(.tup [(.c (.str "cut")),.v 3])]) (.blt .int [(.cmp .NotEq (.v 3) (.c (.str "")))])))::
   .asg 2 (.c (.str "")):: .asg 3 (.c (.str ""))::rest) D [w,some (.ref f),some (.str P),some (.str C),wd,va] H:=by
 have lf:=Paired.length pv;refine aN<|aE<|aE<|ag rfl<|Ga .put rfl rfl rfl fun b1 H1 y1 s1 n1 h1 p1=>?_;have l1:=Paired.length p1;have g1:(B.txt .put P).length<=1:=by unfold B.txt;by_cases z:P="" <;>simp[z]
 refine .inl ⟨f,b1,ys,y1,rfl,rfl,s1 _ _ hf,h1,bE (by lia),fun b2 n2=>?_⟩
 have s2:=sameNew (o:=.lst (ys++y1)) n2;refine Ga .cut rfl rfl rfl fun b3 H3 y3 s3 n3 h3 p3=>?_;have l3:=Paired.length p3;have g3:(B.txt .cut C).length<=1:=by unfold B.txt;by_cases z:C="" <;>simp[z]
 refine .inl ⟨b2,b3,ys++y1,y3,rfl,rfl,s3 _ _ aG,h3,bE (by rw[zqA];lia),fun b4 n4=>?_⟩
 have s4:=sameNew (o:=.lst (ys++y1++y3)) n4;have eF:=s1.trans (s2.trans<|s3.trans s4);refine aN<|au<|aN<|au ?_;refine k b4 _ (ys++y1++y3) eF ((s1.trans<|s2.trans s3).free n4) aG ?_;unfold tl;rw[<-zat];exact B.Paired.app (B.Paired.app (pv.mono<|aU eF)<|bH.mono (aU<|s2.trans<|s3.trans s4) p1)<|bH.mono (aU s4) p3
def xQ:List RS:=[.ite (.cmp .Eq (.v 4)<|.c<|.str "put") [.asg 2<|.bin .Add (.v 2)<|.v 5] [.ite (.cmp .Eq (.v 4)<|.c<|.str "cut") [.asg 3<|.bin .Add (.v 3)<|.v 5] [.ite (.or [(.cmp .Eq (.v 4)<|.c<|.str "end"),(.cmp .Gt (.v 5)<|.c<|.int 0)]) [.asg 1<|.bin .Add (.bin .Add (.v 1)<|.bin .Mult (.lst [(.tup [(.c<|.str "put"),.v 2])])<|.blt .int [(.cmp .NotEq (.v 2)<|.c<|.str "")])<|.bin .Mult (.lst [(.tup [(.c<|.str "cut"),.v 3])])<|.blt .int [(.cmp .NotEq (.v 3)<|.c<|.str "")],.asg 2<|.c<|.str "",.asg 3<|.c<|.str "",.ite (.and [(.cmp .Eq (.v 4)<|.c<|.str "keep"),(.cmp .NotEq (.v 1)<|.lst []),(.cmp .Eq (.ix (.ix (.v 1)<|.neg<|.c<|.int 1)<|.c<|.int 0)<|.c<|.str "keep")]) [.set (.v 1) (.neg<|.c<|.int 1)<|.tup [(.c<|.str "keep"),(.bin .Add (.ix (.ix (.v 1)<|.neg<|.c<|.int 1)<|.c<|.int 1)<|.v 5)]] [.ite (.cmp .Eq (.v 4)<|.c<|.str "keep") [.drop<|.bq .append (.v 1) [(.tup [(.c<|.str "keep"),.v 5])]] []]] []]]]
structure NX (H:Hp) (a w2 e f:Addr) (xs ys:List V) (F:List Pt) (H2:Hp):Prop where
 sm:aF H H2
 fr:H f=none
 it:H2 w2=some (.lst<|xs++[.ref e])
 en:H2 e=some (.tup [.str "end",.int 0])
 ne:f≠w2
 li:H2 f=some (.lst ys)
 pv:bH H2 ys F
def NI(H:Hp)(a w2 e:Addr)(xs:List V)(l r:List Nat)(ps:List Pt)(i:Nat)(σ:St)(H2:Hp):Prop:=
 ∃(f:Addr) (ys:List V) (F:List Pt) (P C:Str) (u4 u5:Option V) (l0 r0 l2 r2:List Nat),σ=[some<|.ref a,some<|.ref f,some<|.str P,some<|.str C,u4,u5]/\NX H a w2 e f xs ys F H2/\Gd F/\Run l0 F r0/\sg P/\sg C/\
  l=l0++(C.cps.toList++l2)/\r=r0++(P.cps.toList++r2)/\Run l2 (ps.drop i) r2/\F.length<=3*i
def NF(H:Hp)(a w2 e:Addr)(xs:List V)(l r:List Nat)(n:Nat)(σ:St)(H2:Hp):Prop:=
 ∃(f:Addr) (ys:List V) (F:List Pt) (u2 u3 u4 u5:Option V),σ=[some<|.ref a,some<|.ref f,u2,u3,u4,u5]/\NX H a w2 e f xs ys F H2/\(∀p∈F,dw p)/\chainOk "" F=true/\Run l F r/\F.length<=3*n+2
theorem Vd:(("end":Str)==("put":Str))=false:=by decide+kernel
theorem Ve:(("end":Str)==("cut":Str))=false:=by decide+kernel
theorem Vf:(("end":Str)==("end":Str))=true:=by decide+kernel
theorem Gn:(("end":Str)==("keep":Str))=false:=by decide+kernel
theorem Vg:(("keep":Str)==("end":Str))=false:=by decide+kernel
theorem xR{K:Frag}{x y:Int}(q:Q (.bl<|decide<|y<x) H):bX K .Gt (.int x) (.int y) H Q:=⟨trivial,q⟩
theorem sG{x:Str}(h:sg x)(hl:x.length<=1000000):good x:=⟨hl,h⟩
section
variable {Γ:bf}{D:Ends}{H H2:Hp}{a w2 e:Addr}{xs:List V}{l r:List Nat}{ps:List Pt}{i:Nat}{σ:St}
theorem Vh(hl:l.length<=100000)(hr:r.length<=100000)(hn:ps.length<=1000)(I:NI H a w2 e xs l r ps ps.length σ H2)(hD:∀σ H',NF H a w2 e xs l r ps.length σ H'->D.nx σ H'):
  aB Γ xQ D ((σ.set 4<|some<|.str "end").set 5<|some<|.int 0) H2:=by
 obtain⟨f,ys,F,P,C,u4,u5,l0,r0,l2,r2,rfl,X,hF,hR,sP,sC,el,er,b8,lF⟩:=I;rw[zbv] at b8;obtain⟨rfl,rfl⟩:=Gi b8;rw[zae] at el er;have lP:=len_list P;have lC:=len_list C;have ll:l.length=l0.length+C.length:=by rw[el,zqA,lC]
 have lr:r.length=r0.length+P.length:=by rw[er,zqA,lP]
 refine bp<|ba<|ag rfl<|au<|dy ⟨_,rfl,iF ?_ Vd⟩;refine bp<|ba<|ag rfl<|au<|dy ⟨_,rfl,iF ?_ Ve⟩;refine bp<|gE<|ba<|ag rfl<|au<|dy ⟨_,rfl,iT (iT ?_ rfl) Vf⟩;refine Gm X.li X.pv (by lia) fun f' H3 dO s3 n3 h3 p3=>?_
 refine bp<|wQ<|ba<|ag rfl<|au<|dy ⟨_,rfl,iF (iF ?_ rfl) Gn⟩;refine bp<|ba<|ag rfl<|au<|dy ⟨_,rfl,iF ?_ Gn⟩;refine hD _ _ ?_;have Vi:=Gf P C;refine⟨f',dO,F++tl P C,_,_,_,_,rfl,⟨X.sm.trans s3,X.sm.free n3,s3 _ _ X.it,s3 _ _ X.en,(bK X.it n3).symm,h3,p3⟩,fun p hp=>?_,?_,?_,?_⟩
 ·rcases zao.mp hp with q|q
  ·exact hF.ok p q
  ·exact Gg (sG sP (by lia)) (sG sC (by lia)) p q
 ·rw[ni,hF.ch,Ge hF.la];rfl
 ·rw[el,er];exact Gh hR
 ·rw[zqA];lia
theorem Vj{q:Pt}{b:Addr}(hl:l.length<=100000)(hr:r.length<=100000)(hn:ps.length<=1000)(hq:ps[i]?=some q)(oq:dY q)(I:NI H a w2 e xs l r ps i σ H2)(hD:∀σ H',NI H a w2 e xs l r ps (i+1) σ H'->D.nx σ H'):
  aB Γ xQ D ((σ.set 4<|some<|.str q.word).set 5<|some q.val) H2:=by
 obtain⟨f,ys,F,P,C,u4,u5,l0,r0,l2,r2,rfl,X,hF,hR,sP,sC,el,er,b8,lF⟩:=I;have aS:i<ps.length:=(zab.mp hq).1;have ed:ps.drop i=q::ps.drop (i+1):=by rw[zaY aS,(zab.mp hq).2]
 rw[ed] at b8;have lP:=len_list P;have lC:=len_list C;have ll:l.length=l0.length+(C.length+l2.length):=by rw[el,zqA,zqA,lC]
 have lr:r.length=r0.length+(P.length+r2.length):=by rw[er,zqA,zqA,lP]
 refine bp<|ba<|ag rfl<|au<|dy ⟨_,rfl,?_⟩;cases q with
 |put z=>
  obtain⟨r',e2,h'⟩:=si b8;have lz:=len_list z;have xG:r2.length=z.length+r'.length:=by rw[e2,zqA,<-lz]
  refine iT ?_ xr;refine aN<|aE<|ag rfl<|ag rfl ⟨bE (by lia),?_⟩
  refine hD _ _ ?_;exact⟨f,ys,F,P++z,C,_,_,l0,r0,l2,r',rfl,X,hF,hR,E6 sP oq,sC,el,by rw[er,e2,app_list];simp,h',by lia⟩
 |cut z=>
  obtain⟨l',e1,h'⟩:=sj b8;have lz:=len_list z;have xS:l2.length=z.length+l'.length:=by rw[e1,zqA,<-lz]
  refine iF ?_ xv;refine bp<|ba<|ag rfl<|au<|dy ⟨_,rfl,iT ?_ FT⟩;refine aN<|aE<|ag rfl<|ag rfl ⟨bE (by lia),?_⟩
  refine hD _ _ ?_;exact⟨f,ys,F,P,C++z,_,_,l0,r0,l',r2,rfl,X,hF,hR,sP,E6 sC oq,by rw[el,e1,app_list];simp,er,h',by lia⟩
 |keep n=>
  obtain⟨c,l',r',e1,e2,e3,h'⟩:=pb b8;refine iF ?_ xu;refine bp<|ba<|ag rfl<|au<|dy ⟨_,rfl,iF ?_ FR⟩;refine bp<|gE<|ba<|ag rfl<|au<|dy ⟨_,rfl,iF ?_ Vg⟩;refine jZ<|ba<|ag rfl<|au<|xR ⟨_,rfl,?_⟩;by_cases hz:0<n
  ·refine iT ?_ (zqT hz);refine Gm X.li X.pv (by lia) fun f' H3 dO s3 n3 h3 p3=>?_
   have Vi:=Gf P C;have Gp:∀p∈F++tl P C,dw p:=fun p hp=>by
    rcases zao.mp hp with q|q
    ·exact hF.ok p q
    ·exact Gg (sG sP (by lia)) (sG sC (by lia)) p q
   have Vk:chainOk "" (F++tl P C)=true:=by rw[ni,hF.ch,Ge hF.la];rfl
   have Y2:(F++tl P C).length<=3*i+2:=by rw[zqA];lia
   refine U_ h3 p3 (fun p hp=>Gk<|Gp p hp) (by lia) fun H4 y4 b4 h4 p4=>?_
   refine hD _ _ ?_;have nw:w2≠f':=bK X.it n3;have fH:=X.sm.free n3;have lk:=Sh (F++tl P C) n;refine⟨f',y4,gw (F++tl P C) n,"","",_,_,l0++C.cps.toList++c,r0++P.cps.toList++c,l',r',rfl,⟨jS (X.sm.trans s3) fH b4,fH,b4 _ _ (s3 _ _ X.it) nw,(b4.b_ h3) _ _<|s3 _ _ X.en,nw.symm,h4,p4⟩,Vc Gp Vk (by lia),Vb (Gh hR) e3,rK,rK,?_,?_,h',by lia⟩
   ·rw[el,e1];show _=_++([]++l');simp
   ·rw[er,e2];show _=_++([]++r');simp
  ·refine iF ?_ (zqF hz);have c0:c=[]:=zbJ (by lia)
   refine hD _ _ ?_;rw[c0,zaO] at e1 e2;exact⟨f,ys,F,P,C,_,_,l0,r0,l2,r2,rfl,X,hF,hR,sP,sC,el,er,by rw[e1,e2];exact h',by lia⟩
end
def pq:Sp:=fun vs H Q E=>∃a xs ps l r,vs=[.ref a]/\H a=some (.lst xs)/\bH H xs ps/\Run l ps r/\(∀p∈ps,dY p)/\ps.length<=1000/\l.length<=100000/\r.length<=100000/\
 ∀b H' ys qs,aF H H'->H b=none->H' b=some (.lst ys)->bH H' ys qs->(∀p∈qs,dw p)->chainOk "" qs=true->Run l qs r->qs.length<=3*ps.length+2->Q (.ref b) H'
theorem Vl{K:Frag}:bF (pq) (fun E=>aK K [] [] (E:=E)) Dd Dc:=by
 intro vs H Q E h;obtain⟨a,xs,ps,l,r,rfl,ha,cH,b8,aH,hn,hl,hr,k⟩:=h;have lx:=Paired.length cH;refine aN<|fS<|aJ ⟨zqZ _,fun f nf=>?_⟩;have s1:=sameNew (o:=.lst []) nf;refine aN<|au<|aN<|au ?_;refine F9 (body:=xQ)<|aE<|ag rfl<|fS<|aw<|gA<|aw<|au<|aw<|au<|aJ ⟨cR,fun e ne=>aJ ⟨gb,fun g ng=>?_⟩⟩;have s2:=sameNew (o:=.tup [.str "end",.int 0]) ne;have s3:=sameNew (o:=.lst [V.ref e]) ng;refine .inl ⟨a,g,xs,[.ref e],rfl,rfl,(s1.trans<|s2.trans s3) _ _ ha,aG,bE (by show xs.length+1<=_;lia),fun w2 nw=>?_⟩
 have s4:=sameNew (o:=.lst (xs++[V.ref e])) nw;have eF:=s1.trans (s2.trans<|s3.trans s4);have fw:f≠w2:=fun z=>by
  rw[<-z] at nw;rw[(s2.trans s3) _ _ aG] at nw;cases nw
 refine⟨w2,rfl,⟨_,ay.of aG⟩,km (K:=K) (a:=w2) (xs:=xs++[.ref e]) (fun i σ H2=>(i<=ps.length/\NI H a w2 e xs l r ps i σ H2)\/(i=ps.length+1/\NF H a w2 e xs l r ps.length σ H2)) ?_ ?_ ?_ ?_⟩
 ·refine .inl ⟨zqZ _,f,[],[],"","",_,_,[],[],l,r,rfl,⟨eF,nf,aG,(s3.trans s4) _ _ aG,fw,(s2.trans<|s3.trans s4) _ _ aG,.nil⟩,⟨fun p hp=>(by cases hp),rfl,.inl rfl⟩,.nil,rK,rK,rfl,rfl,b8,zqZ _⟩
 ·rintro i σ H2 _ (⟨_,f,ys,F,P,C,u4,u5,l0,r0,l2,r2,_,X,_⟩|⟨_,f,ys,F,u2,u3,u4,u5,_,X,_⟩)
  ·exact ay.of X.it
  ·exact ay.of X.it
 ·intro i x σ H2 hi I;have jI:i< (xs++[V.ref e]).length:=(zab.mp hi).1;have DC:i<ps.length+1:=by rw[zqA,lx] at jI;exact jI
  rcases I with⟨_,I⟩|⟨z,_⟩
  ·by_cases aS:i<ps.length
   ·rw[zaI (by lia)] at hi
    obtain⟨q,hq,jg⟩:=cH.get hi;have sm:aF H H2:=by obtain⟨f,ys,F,P,C,u4,u5,l0,r0,l2,r2,_,X,_⟩:=I;exact X.sm
    obtain⟨b,rfl,hb⟩:=jg.mono (aU sm);refine⟨b,_,rfl,.inl<|aO.of hb,rfl,_,_,rfl,_,_,rfl,rfl,?_⟩;exact Vj (b:=b) hl hr hn hq (aH q<|zap hq) I fun σ' H' I'=>.inl ⟨aS,I'⟩
   ·have ei:i=ps.length:=by lia
    subst ei;have en:H2 e=some (.tup [.str "end",.int 0]):=by obtain⟨f,ys,F,P,C,u4,u5,l0,r0,l2,r2,_,X,_⟩:=I;exact X.en
    rw[zaH (by lia),lx,Nat.sub_self] at hi
    cases hi;refine⟨e,_,rfl,.inl<|aO.of en,rfl,_,_,rfl,_,_,rfl,rfl,?_⟩;exact Vh hl hr hn I fun σ' H' I'=>.inr ⟨rfl,I'⟩
  ·lia
 ·rintro σ H2 (⟨h,_⟩|⟨_,f,ys,F,u2,u3,u4,u5,rfl,X,ok,ch,hR,lF⟩)
  ·rw[zqA,lx] at h;exact absurd h (by show ¬ps.length+1<=ps.length;lia)
  ·exact bU (ag rfl<|k f H2 ys F X.sm X.fr X.li X.pv ok ch hR lF)
section
variable {Γ:bf}{D:Ends}{σ:St}{H:Hp}{r:List RS}{Q:VK}
theorem Vm{lo hi:RE}(h:aj Γ a σ H fun x H1=>aj Γ lo σ H1 fun i H2=>∃i':Int,i=.int i'/\aj Γ hi σ H2 fun j H3=>∃j':Int,j=.int j'/\om Γ.K x (some i') (some j') H3 Q):aj Γ (.sl a (some lo)<|some hi) σ H Q:=h
theorem xT{x:RE}(h:aj Γ x σ H fun v H1=>∃n:Int,[v]=[.int n]/\ -(2 ^ 62)<=n/\n<2 ^ 62/\∃W:Nat->Nat->St->Hp->Prop,(∃m,W 0 m σ H1)/\∀j m σ H,W j m σ H->
  ((ig 0 n.toNat).stop j H/\({D with nx:=aB Γ r D}:Ends).nx σ H)\/((ig 0 n.toNat).go j H/\∃N:St->Hp->Prop,(∀σ' H',N σ' H'->∃m',m'<m/\W (j+1) m' σ' H')/\∀x H',(ig 0 n.toNat).dE j H x H'->da i x σ H' fun σ2 H2=>aB Γ body {({D with nx:=aB Γ r D}:Ends) with nx:=N,ct:=N,bk:=({D with nx:=aB Γ r D}:Ends).nx} σ2 H2)):
  aB Γ (.fN i .e9 [x] body::r) D σ H:=m8 (x:=x) _ _ (fun _ _=>Iff.rfl) h
theorem pw{b0:Addr}{w:Str}(hσ:σ[i]?=some (some<|.ref b0))(hb:H b0=some (.lst ys))(h:aj Γ e σ H fun v H1=>2<=sizeLine/\∀t,H1 t=none->∃zs,upd H1 t (.tup [.str w,v]) b0=some (.lst zs)/\zs.length<sizeLine/\aB Γ r D σ (upd (upd H1 t<|.tup [.str w,v]) b0<|.lst<|zs++[.ref t])):
  aB Γ (.drop (.bq .append (.v i) [(.tup [(.c<|.str w),e])])::r) D σ H:=
 jj (fV<|ag hσ ⟨.inl ⟨rfl,_,ay.of hb⟩,gA<|aw<|au<|aw<|m8 (x:=e) _ _ (fun _ _=>Iff.rfl) h⟩)
end
theorem push{b0:Addr}{p:Pt}{w:Str}{v:V}{R:Hp->Prop}(s:aF H H1)(hb:H b0=some (.lst ys))(pv:bH H ys ps)(hl:ps.length<=900000)(hw:p.word=w)(hv:p.val=v)(k:∀H' dO,bQ b0 H H'->H' b0=some (.lst dO)->bH H' dO (ps++[p])->R H'):
  2<=sizeLine/\∀t,H1 t=none->∃zs,upd H1 t (.tup [.str w,v]) b0=some (.lst zs)/\zs.length<sizeLine/\R (upd (upd H1 t<|.tup [.str w,v]) b0<|.lst<|zs++[.ref t]):=by
 refine⟨by decide,fun t ft=>?_⟩
 have s2:=s.trans (sameNew (o:=.tup [.str w,v]) ft);have lx:=Paired.length pv;have bb:bQ b0 H (upd (upd H1 t<|.tup [.str w,v]) b0<|.lst<|ys++[.ref t]):=fun b o e ne=>by rw[aI ne];exact s2 _ _ e
 have nt:t≠b0:=fun z=>by rw[z,s _ _ hb] at ft;cases ft
 refine⟨ys,s2 _ _ hb,fE (by lia),k _ _ bb aG ?_⟩
 exact B.Paired.app (pv.mono<|bb.b_ hb)<|.cons ⟨t,rfl,by rw[aI nt,aG,hw,hv]⟩ .nil
def xU:List RS:=[.asg 5<|.call 0 [.v 0,(.bin .Add (.c<|.int 40)<|.v 4)],.ite (.cmp .Eq (.bin .Mod (.v 5)<|.c<|.int 3)<|.c<|.int 0) [.drop<|.bq .append (.v 2) [(.tup [(.c<|.str "put"),(.call 1 [.v 5,(.bin .Add (.c<|.int 1)<|.bin .Mult (.bin .Mod (.bin .FloorDiv (.v 5)<|.c<|.int 3)<|.c<|.int 4)<|.bin .Add (.c<|.int 1)<|.bin .Mod (.bin .FloorDiv (.v 5)<|.c<|.int 12)<|.c<|.int 3)])])]] [],.asg 6<|.blt .min [(.bin .Sub (.blt .len [.v 1])<|.v 3),(.bin .Mod (.bin .FloorDiv (.v 5)<|.c<|.int 36)<|.bin .Add (.c<|.int 2)<|.bin .FloorDiv (.blt .len [.v 1])<|.c<|.int 3)],.ite (.and [(.cmp .Eq (.bin .Mod (.bin .FloorDiv (.v 5)<|.c<|.int 5)<|.c<|.int 3)<|.c<|.int 0),(.cmp .Gt (.v 6)<|.c<|.int 0)]) [.drop<|.bq .append (.v 2) [(.tup [(.c<|.str "cut"),(.sl (.v 1) (some<|.v 3)<|some<|.bin .Add (.v 3)<|.v 6)])]] [.drop<|.bq .append (.v 2) [(.tup [(.c<|.str "keep"),.v 6])]],.asg 3<|.bin .Add (.v 3)<|.v 6]
def Vn:List RS:=[.drop<|.bq .append (.v 2) [(.tup [(.c<|.str "keep"),(.bin .Sub (.blt .len [.v 1])<|.v 3)])],.ite (.cmp .Eq (.bin .Mod (.bin .FloorDiv (.v 0)<|.c<|.int 7)<|.c<|.int 3)<|.c<|.int 0) [.drop<|.bq .append (.v 2) [(.tup [(.c<|.str "put"),(.call 1 [.v 0,(.bin .Add (.c<|.int 1)<|.bin .Mod (.bin .FloorDiv (.v 0)<|.c<|.int 21)<|.c<|.int 5)])])]] [],.ret<|.call 2 [.v 2]]
def CB(H:Hp)(c:Int)(x:Str)(i:Nat)(σ:St)(H2:Hp):Prop:=
 ∃(b0:Addr) (ys:List V) (ps:List Pt) (l1 l2 r1:List Nat) (u4 u5 u6:Option V),σ=[some<|.int c,some<|.str x,some<|.ref b0,some<|.int (l1.length:Nat),u4,u5,u6]/\aF H H2/\H b0=none/\H2 b0=some (.lst ys)/\bH H2 ys ps/\x.cps.toList=l1++l2/\Run l1 ps r1/\
  (∀p∈ps,dY p)/\ps.length<=2*i/\r1.length<=l1.length+10*i
def xV:Sp:=fun vs H Q E=>∃c x,vs=[.int c,.str x]/\good x/\x.length<=10000/\∀b H' ys qs r,aF H H'->H b=none->H' b=some (.lst ys)->bH H' ys qs->(∀p∈qs,dw p)->chainOk "" qs=true->Run x.cps.toList qs r->r.length<=x.length+100->qs.length<=60->Q (.ref b) H'
abbrev dj:List (Str×Sp):=[("_law_mixed",lT),("_law_text_by",nc),("_law_neat",pq)]
theorem Vo{K:Frag}{E:XK}{c:Int}{x:Str}{kv:V}(hx:good x)(hl:x.length<=10000)(hi:i<7)(hk:kv=.int (0+(i:Int)))(I:CB H c x i σ H2)(hD:∀σ H',CB H c x (i+1) σ H'->D.nx σ H'):
  aB (aK K dj [] (E:=E)) xU D (σ.set 4<|some kv) H2:=by
 obtain⟨b0,ys,ps,l1,l2,r1,u4,u5,u6,rfl,sm,fr,hb,pv,ex,hR,aH,lp,lr⟩:=I;subst hk;have lx:x.length=l1.length+l2.length:=by rw[len_list,ex,zqA]
 refine aN<|bh lT rfl<|aw<|ag rfl<|aw<|aE<|au<|ag rfl<|bz<|aJ ⟨_,_,rfl,fun m hm=>?_⟩;have c3:(0:Int) <3:=by decide
 have c4:(0:Int) <4:=by decide
 have go:∀(H3:Hp) (xW:List V) (lU:List Pt) (r3:List Nat),aF H H3->H3 b0=some (.lst xW)->bH H3 xW lU->Run l1 lU r3->(∀p∈lU,dY p)->lU.length<=2*i+1->r3.length<=l1.length+10*i+10->
   aB (aK K dj [] (E:=E)) (xU.drop 2) D [some<|.int c,some<|.str x,some<|.ref b0,some<|.int (l1.length:Nat),some<|.int<|0+(i:Int),some<|.int m,u6] H3:=by
  intro H3 xW lU r3 s3 h3 p3 R3 lV Y3 Gq;refine aN<|oP<|aw<|aE<|cy<|ag rfl ⟨bE hx.1,ag rfl ⟨trivial,aw<|aE<|aE<|ag rfl<|au ⟨⟨by decide,by decide⟩,aE<|au<|aE<|cy<|ag rfl ⟨bE hx.1,au ⟨⟨by decide,by decide⟩,bz ⟨?_,aJ ?_⟩⟩⟩⟩⟩⟩
  ·show(0:Int) <2+(x.length:Int) / 3;lia
  have g0:0<=m / 36 % (2+(x.length:Int) / 3):=zaz _ (by lia)
  obtain⟨z,ez⟩:∃z:Int,z=(if m / 36 % (2+(x.length:Int) / 3) < (x.length:Int) - (l1.length:Nat) then m / 36 % (2+(x.length:Int) / 3) else (x.length:Int) - (l1.length:Nat)):=⟨_,rfl⟩
  have z0:0<=z/\z<=l2.length:=by rw[ez];split<;>lia
  show aB _ _ D [some<|.int c,some<|.str x,some<|.ref b0,some<|.int (l1.length:Nat),some<|.int<|0+(i:Int),some<|.int m,some<|.int (if m / 36 % (2+(x.length:Int) / 3) < (x.length:Int) - (l1.length:Nat) then m / 36 % (2+(x.length:Int) / 3) else (x.length:Int) - (l1.length:Nat))] H3
  rw[<-ez];obtain⟨la,lb,el,xX⟩:∃la lb,l2=la++lb/\z=la.length:=⟨l2.take z.toNat,l2.drop z.toNat,(zaA _ _).symm,by rw[zaj];lia⟩
  have fin:∀(H4:Hp) (sH:List V) (p4:List Pt) (r4:List Nat),aF H H4->H4 b0=some (.lst sH)->bH H4 sH p4->Run (l1++la) p4 r4->(∀p∈p4,dY p)->p4.length<=2*i+2->r4.length<= (l1++la).length+10*i+10->
    aB (aK K dj [] (E:=E)) [.asg 3<|.bin .Add (.v 3)<|.v 6] D [some<|.int c,some<|.str x,some<|.ref b0,some<|.int (l1.length:Nat),some<|.int<|0+(i:Int),some<|.int m,some<|.int z] H4:=by
   intro H4 sH p4 r4 s4 h4 v4 R4 xY Vp Vq;refine aN<|aE<|ag rfl<|ag rfl<|bz ?_;refine hD _ _ ⟨b0,sH,p4,l1++la,lb,r4,some<|.int<|0+(i:Int),some<|.int m,some<|.int z,?_,s4,fr,h4,v4,by rw[ex,el,zat],R4,xY,by lia,by lia⟩
   show[_,_,_,some<|V.int<|(l1.length:Int)+z,_,_,_]=_;rw[zqA,xX];rfl
  refine bp<|Fq<|ba<|aE<|aE<|ag rfl<|au ⟨⟨by decide,by decide⟩,au ⟨c3,au<|g8 ⟨_,rfl,?_⟩⟩⟩
  have Gr:aB (aK K dj [] (E:=E)) [.drop<|.bq .append (.v 2) [(.tup [(.c<|.str "keep"),.v 6])]] {D with nx:=aB (aK K dj [] (E:=E)) [.asg 3<|.bin .Add (.v 3)<|.v 6] D} [some<|.int c,some<|.str x,some<|.ref b0,some<|.int (l1.length:Nat),some<|.int<|0+(i:Int),some<|.int m,some<|.int z] H3:=by
   refine pw rfl h3<|ag rfl<|push (p:=.keep z) (aF.refl _) h3 p3 (by lia) rfl rfl fun H4 y4 b4 h4 p4=>?_
   refine fin H4 y4 _ (r3++la) (jS s3 fr b4) h4 p4 (R3.app<|sE xX) (fun p hp=>?_) ?_ ?_
   ·rcases zao.mp hp with q|q
    ·exact lV p q
    ·rw[zav.mp q];trivial
   ·rw[zqA];show lU.length+1<=_;lia
   ·rw[zqA,zqA];lia
  by_cases q5:m / 5 % 3=0
  ·refine iT ?_ (zqT q5);refine ba<|ag rfl<|au<|xR ⟨_,rfl,?_⟩;by_cases qz:0<z
   ·refine iT ?_ (zqT qz);refine pw rfl h3<|Vm<|ag rfl<|ag rfl ⟨_,rfl,aE<|ag rfl<|ag rfl<|bz ⟨_,rfl,bE hx.1,?_⟩⟩;have ec:gg x (some ((l1.length:Nat):Int)) (some<|((l1.length:Nat):Int)+z)=⟨la.toArray⟩:=Fb (by rw[ex,el]) z xX
    rw[ec];refine push (p:=.cut ⟨la.toArray⟩) (aF.refl _) h3 p3 (by lia) rfl rfl fun H4 y4 b4 h4 p4=>?_
    have Rc:Run la [.cut ⟨la.toArray⟩] []:=by
     have:=Run.cut (s:=⟨la.toArray⟩) Run.nil;rw[zae] at this;exact this
    refine fin H4 y4 _ (r3++[]) (jS s3 fr b4) h4 p4 (R3.app Rc) (fun p hp=>?_) ?_ ?_
    ·rcases zao.mp hp with q|q
     ·exact lV p q
     ·rw[zav.mp q];intro d hd;have e2:x.cps.toList=l1++(la++lb):=by rw[ex,el]
      exact hx.2 d (by rw[e2];simp at hd;simp[hd])
    ·rw[zqA];show lU.length+1<=_;lia
    ·rw[zqA,zqA];show r3.length+0<=_;lia
   ·exact iF Gr (zqF qz)
  ·exact iF (iF Gr rfl) (zqF q5)
 refine bp<|ba<|aE<|ag rfl<|au ⟨c3,au<|g8 ⟨_,rfl,?_⟩⟩;by_cases q3:m % 3=0
 ·refine iT ?_ (zqT q3);have A0:0<=m / 3 % 4/\m / 3 % 4<4:=⟨zaz _ (by decide),zaB _ (by decide)⟩
  have B0:0<=m / 12 % 3/\m / 12 % 3<3:=⟨zaz _ (by decide),zaB _ (by decide)⟩
  have AB:m / 3 % 4* (1+m / 12 % 3)<=3*3:=Int.mul_le_mul (by lia) (by lia) (by lia) (by decide)
  have Y4:0<=m / 3 % 4* (1+m / 12 % 3):=Int.mul_nonneg (by lia) (by lia)
  refine pw rfl hb<|bh nc rfl<|aw<|ag rfl<|aw<|aE<|au<|aE<|aE<|aE<|ag rfl<|au ⟨⟨by decide,by decide⟩,au ⟨c4,aE<|au<|aE<|aE<|ag rfl<|au ⟨⟨by decide,by decide⟩,au ⟨c3,bz ?_⟩⟩⟩⟩
  refine⟨.inl ⟨by lia,by lia⟩,bz<|aJ ⟨_,_,rfl,by lia,by lia,fun z H3 gz lz s3=>?_⟩⟩
  refine push (p:=.put z) s3 hb pv (by lia) rfl rfl fun H4 y4 b4 h4 p4=>?_
  have Rp:Run [] [.put z] z.cps.toList:=by
   have:=Run.put (s:=z) Run.nil;rw[zae] at this;exact this
  have R4:Run l1 (ps++[.put z]) (r1++z.cps.toList):=by
   have:=hR.app Rp;rw[zae] at this;exact this
  have Vr:=len_list z;refine go H4 y4 _ _ (jS sm fr b4) h4 p4 R4 (fun p hp=>?_) ?_ ?_
  ·rcases zao.mp hp with q|q
   ·exact aH p q
   ·rw[zav.mp q];exact gz.2
  ·rw[zqA];show ps.length+1<=_;lia
  ·rw[zqA];lia
 ·exact iF (ck<|go H2 ys ps r1 sm hb pv hR aH (by lia) (by lia)) (zqF q3)
theorem Vs{K:Frag}:bF (xV) (fun E=>aK K dj [] (E:=E)) eT jN:=by
 intro vs H Q E h;obtain⟨c,x,rfl,hx,hl,k⟩:=h;have m7:0<=c % 7/\c % 7<7:=⟨zaz _ (by decide),zaB _ (by decide)⟩
 have c3:(0:Int) <3:=by decide
 have c5:(0:Int) <5:=by decide
 have c7:(0:Int) <7:=by decide
 refine aN<|fS<|aJ ⟨zqZ _,fun b0 n0=>?_⟩;have s1:=sameNew (o:=.lst []) n0;refine aN<|au ?_;refine xT (body:=xU) (r:=Vn)<|aE<|au<|aE<|ag rfl<|au ⟨c7,bz ⟨1+c % 7,rfl,by lia,by lia,pW (lo:=0) (n:=(1+c % 7).toNat) (CB H c x) ?_ ?_ ?_⟩⟩
 ·exact⟨b0,[],[],[],_,[],none,none,none,rfl,s1,n0,aG,.nil,rfl,.nil,fun p hp=>(by cases hp),zqZ _,zqZ _⟩
 ·intro i σ H2 hi I;exact Vo hx hl (by lia) rfl I fun σ' H' I'=>I'
 ·rintro σ H2 ⟨b0,ys,ps,l1,l2,r1,u4,u5,u6,rfl,sm,fr,hb,pv,ex,hR,aH,lp,lr⟩;have lx:x.length=l1.length+l2.length:=by rw[len_list,ex,zqA]
  refine pw rfl hb<|aE<|cy<|ag rfl ⟨bE hx.1,ag rfl ⟨trivial,push (p:=.keep ((x.length:Int) - (l1.length:Nat))) (aF.refl _) hb pv (by lia) rfl rfl fun H3 y3 b3 h3 p3=>?_⟩⟩
  have R3:Run x.cps.toList (ps++[.keep<|(x.length:Int) - (l1.length:Nat)]) (r1++l2):=by rw[ex];exact hR.app (sE (by lia))
  have lV:∀p∈ps++[Pt.keep<|(x.length:Int) - (l1.length:Nat)],dY p:=fun p hp=>by
   rcases zao.mp hp with q|q
   ·exact aH p q
   ·rw[zav.mp q];trivial
  have l3:(ps++[Pt.keep<|(x.length:Int) - (l1.length:Nat)]).length=ps.length+1:=by rw[zqA];rfl
  have Gq:(r1++l2).length=r1.length+l2.length:=zqA;have Gs:=jS sm fr b3;have fin:∀(H4:Hp) (y4:List V) (p4:List Pt) (r4:List Nat),aF H H4->H4 b0=some (.lst y4)->bH H4 y4 p4->Run x.cps.toList p4 r4->(∀p∈p4,dY p)->p4.length<=16->r4.length<=x.length+80->
    aB (aK K dj [] (E:=E)) [.ret<|.call 2 [.v 2]] (Dn Q) [some<|.int c,some<|.str x,some<|.ref b0,some<|.int (l1.length:Nat),u4,u5,u6] H4:=by
   intro H4 y4 p4 r4 s4 h4 v4 R4 xY Vp Vq;refine bU<|bh pq rfl<|aw<|ag rfl<|aJ ⟨b0,y4,p4,_,r4,rfl,h4,v4,R4,xY,by lia,by rw[<-len_list];lia,by lia,fun b H5 y5 qs s5 n5 h5 v5 Vt Vu R5 l5=>?_⟩
   exact k b H5 y5 qs r4 (s4.trans s5) (s4.free n5) h5 v5 Vt Vu R5 (by lia) (by lia)
  refine bp<|ba<|aE<|aE<|ag rfl<|au ⟨⟨by decide,by decide⟩,au ⟨c3,au<|g8 ⟨_,rfl,?_⟩⟩⟩
  by_cases q3:c / 7 % 3=0
  ·refine iT ?_ (zqT q3);have B0:0<=c / 21 % 5/\c / 21 % 5<5:=⟨zaz _ (by decide),zaB _ (by decide)⟩
   refine pw rfl h3<|bh nc rfl<|aw<|ag rfl<|aw<|aE<|au<|aE<|aE<|ag rfl<|au ⟨⟨by decide,by decide⟩,au ⟨c5,bz<|aJ ⟨_,_,rfl,by lia,by lia,fun z H4 gz lz s4=>?_⟩⟩⟩
   refine push (p:=.put z) s4 h3 p3 (by lia) rfl rfl fun H5 y5 b5 h5 p5=>?_
   have Rp:Run [] [.put z] z.cps.toList:=by
    have:=Run.put (s:=z) Run.nil;rw[zae] at this;exact this
   have R5:=R3.app Rp;rw[zae] at R5;have Vr:=len_list z;refine fin H5 y5 _ _ (jS Gs fr b5) h5 p5 R5 (fun p hp=>?_) ?_ ?_
   ·rcases zao.mp hp with q|q
    ·exact lV p q
    ·rw[zav.mp q];exact gz.2
   ·rw[zqA,l3];show ps.length+1+1<=_;lia
   ·rw[zqA,Gq];lia
  ·exact iF (ck<|fin H3 y3 _ _ Gs h3 p3 R3 lV (by lia) (by lia)) (zqF q3)
theorem Gu(S:List Nat)(l:Tr)(a b c:Int)(r:Tr):txt S (Tr.node l a b c r).ai=txt S l.ai++(seg S (a,b,c)++txt S r.ai):=by rw[Tr.ai,lN,cg]
theorem Gv{t:Tr}(h:∀q∈t.ai,bD S q):t.en=((txt S t.ai).count 10:Nat):=by rw[r6,xg h]
theorem Gw{t:Tr}(h:∀q∈t.ai,bD S q):t.sz=((txt S t.ai).length:Nat):=by rw[fY,<-m6 h]
theorem xZ{lt:Addr}{n:Int}:(c6 lt lb lf n).lookup ("ends_ahead":Str)=none:=mW (by decide+kernel) (by decide+kernel) (by decide+kernel) (by decide+kernel)
theorem Vv{lt:Addr}{n:Int}:(c6 lt lb lf n).lookup ("end_place":Str)=none:=mW (by decide+kernel) (by decide+kernel) (by decide+kernel) (by decide+kernel)
theorem eG{K:Frag}{i j:Int}(h:Q (.int<|i - j) H):i8 K .Sub (.int i) (.int j) H Q:=⟨trivial,h⟩
theorem Gx{K:Frag}{x y:Int}(q:Q (.bl<|decide<|x<=y) H):bX K .LtE (.int x) (.int y) H Q:=⟨trivial,q⟩
theorem ltI{K:Frag}{x y:Int}(q:Q (.bl<|decide<|x<y) H):bX K .Lt (.int x) (.int y) H Q:=⟨trivial,q⟩
theorem Vw{K:Frag}{x y:Int}(q:Q (.bl<|decide<|y<=x) H):bX K .GtE (.int x) (.int y) H Q:=⟨trivial,q⟩
def x3(C:Addr):Sp:=fun vs H Q E=>∃(v:V) (t:Tr) (pl:Int) (s dx lt lb lf:Addr) (ts:List Str),vs=[v,.int pl,.ref s]/\Nd H t v/\(∀q∈t.ai,bD (ao ts) q)/\bB C H s dx lt lb lf ts/\0<=pl/\pl<=t.sz/\
 Q (.int ((((txt (ao ts) t.ai).take pl.toNat).count 10:Nat):Int)) H
theorem Vx{K:Frag}:bF (x3 C) (fun E=>aK K [("size_of",g_),("ends_of",hG)] [] [] [("ends_ahead",C,lM C)] (E:=E)) Dh Dg:=by
 intro vs H Q E h;obtain⟨v,t,pl,s,dx,lt,lb,lf,ts,rfl,hn,hp,S,h0,h1,k⟩:=h;obtain⟨j7,et⟩:∃j7:Int,j7=((((txt (ao ts) t.ai).take pl.toNat).count 10:Nat):Int):=⟨_,rfl⟩;rw[<-et] at k;refine aN<|au ?_;refine wD (fun m σ H2=>∃(v:V) (t:Tr) (pl e:Int) (u4 u5 u6 u7:Option V),σ=[some v,some<|.int pl,some<|.ref s,some<|.int e,u4,u5,u6,u7]/\H2=H/\Nd H t v/\(∀q∈t.ai,bD (ao ts) q)/\0<=pl/\pl<=t.sz/\j7=e+((((txt (ao ts) t.ai).take pl.toNat).count 10:Nat):Int)/\m=t.ai.length)
  ⟨_,v,t,pl,0,none,none,none,none,rfl,rfl,hn,hp,h0,h1,by lia,rfl⟩ ?_
 rintro m σ H2 ⟨v,t,pl,e,u4,u5,u6,u7,rfl,rfl,hn,hp,h0,h1,et,rfl⟩;refine ba<|ag rfl<|au ?_;cases t with
 |nil=>
  cases hn;refine⟨rfl,_,rfl,iF ?_ rfl⟩;refine bU<|ag rfl ?_;have:j7=e:=by rw[et];show e+(((([]:List Nat).take pl.toNat).count 10:Nat):Int)=e;simp
  rw[<-this];exact k
 |node l a b c r=>
  obtain⟨p,q,vl,vr,rfl,eE,hq,fI,jn⟩:=hn;have gH:∀x∈l.ai,bD (ao ts) x:=fun x hx=>hp x (by simp[Tr.ai,hx])
  have oX:∀x∈r.ai,bD (ao ts) x:=fun x hx=>hp x (by simp[Tr.ai,hx])
  have pc:=hp (a,b,c) (by simp[Tr.ai])
  have q0:0<=a:=pc.p0;have q1:1<=b:=pc.p1;have q2:a+b<= (ao ts).length:=pc.p2;have q3:c=((seg (ao ts) (a,b,c)).count 10:Nat):=pc.p3;have ql:((seg (ao ts) (a,b,c)).length:Int)=b:=pc.len;have zl:=Gw gH;have el:=Gv gH;have zs:(Tr.node l a b c r).sz=l.sz+b+r.sz:=rfl;rw[zs] at h1;rw[Gu] at et;refine⟨rfl,_,rfl,iT ?_ rfl⟩;refine⟨fun σ' H'=>∃m',m'< (Tr.node l a b c r).ai.length/\∃(v:V) (t:Tr) (pl e:Int) (u4 u5 u6 u7:Option V),σ'=[some v,some<|.int pl,some<|.ref s,some<|.int e,u4,u5,u6,u7]/\H'=H2/\Nd H2 t v/\(∀q∈t.ai,bD (ao ts) q)/\0<=pl/\pl<=t.sz/\j7=e+((((txt (ao ts) t.ai).take pl.toNat).count 10:Nat):Int)/\m'=t.ai.length,fun σ' H' h=>h,?_⟩;refine aN<|aV<|ag rfl<|au<|aA eE rfl ?_;refine aN<|bh g_ rfl<|aw<|aV<|ag rfl<|au<|aA eE rfl<|aJ ⟨vl,l,rfl,fI,?_⟩;refine aN<|aE<|ag rfl<|aV<|ag rfl<|au<|aA hq rfl<|bz ?_;refine bp<|ba<|ag rfl<|ag rfl<|Gx ⟨_,rfl,?_⟩;by_cases g1:pl<=l.sz
  ·refine iT ?_ (zqT g1);refine aN<|aV<|ag rfl<|au<|aA eE rfl ?_;refine⟨_,(by rw[Tr.ai,zqA,zau];lia),vl,l,pl,e,_,_,_,_,rfl,rfl,fI,gH,h0,g1,?_,rfl⟩
   rw[et,zbA (by lia)]
  ·refine iF ?_ (zqF g1);refine bp<|ba<|ag rfl<|ag rfl<|ltI ⟨_,rfl,?_⟩;by_cases g2:pl<l.sz+b
   ·refine iT ?_ (zqT g2);refine aN<|aE<|fU C (lM C) rfl<|ag rfl ⟨s,dx,_,rfl,S.ob,xZ,aE<|aE<|aV<|ag rfl<|au<|aA hq rfl<|ag rfl<|bz<|ag rfl<|eG ?_⟩;refine⟨s,dx,lt,lb,lf,ts,_,rfl,S,by lia,?_⟩
    refine fU C (lM C) rfl<|ag rfl ⟨s,dx,_,rfl,S.ob,xZ,aV<|ag rfl<|au<|aA hq rfl ⟨s,dx,lt,lb,lf,ts,_,rfl,S,q0,eG ?_⟩⟩;refine bU<|aE<|aE<|ag rfl<|bh hG rfl<|aw<|aV<|ag rfl<|au<|aA eE rfl<|aJ ⟨vl,l,rfl,fI,bz<|ag rfl<|bz ?_⟩;have cc:=FI (S:=ao ts) (a:=a) (n:=pl - l.sz) q0 (by lia) c
    have e1:a+pl - l.sz=a+(pl - l.sz):=by lia
    have key:e+l.en+(ends ts (a+pl - l.sz) - ends ts a)=j7:=by
     rw[e1,et];have e2:ends ts (a+(pl - l.sz)) - ends ts a=((seg (ao ts) (a,pl - l.sz,c)).count 10:Nat):=cc;rw[e2,el];have e3:(txt (ao ts) l.ai++(seg (ao ts) (a,b,c)++txt (ao ts) r.ai)).take pl.toNat=txt (ao ts) l.ai++(seg (ao ts) (a,b,c)).take (pl - l.sz).toNat:=by
      rw[show pl.toNat=(txt (ao ts) l.ai).length+(pl - l.sz).toNat by lia,zbf,zbA (by lia)]
     rw[e3,zaM];have e4:(seg (ao ts) (a,b,c)).take (pl - l.sz).toNat=seg (ao ts) (a,pl - l.sz,c):=by
      unfold seg;show(((ao ts).drop a.toNat).take b.toNat).take (pl - l.sz).toNat=((ao ts).drop a.toNat).take (pl - l.sz).toNat;rw[List.take_take];congr 1;lia
     rw[e4];lia
    rw[key];exact k
   ·refine iF ?_ (zqF g2);refine aN<|aE<|aE<|ag rfl<|bh hG rfl<|aw<|aV<|ag rfl<|au<|aA eE rfl<|aJ ⟨vl,l,rfl,fI,bz<|aV<|ag rfl<|au<|aA hq rfl<|bz ?_⟩;refine aN<|aE<|ag rfl<|ag rfl<|eG ?_;refine aN<|aV<|ag rfl<|au<|aA eE rfl ?_;refine⟨_,(by rw[Tr.ai,zqA,zau];lia),vr,r,pl - (l.sz+b),e+l.en+c,_,_,_,_,rfl,rfl,jn,oX,by lia,by lia,?_,rfl⟩
    rw[et,show pl.toNat=(txt (ao ts) l.ai).length+((seg (ao ts) (a,b,c)).length+(pl - (l.sz+b)).toNat) by lia,zbf,zbf,zaM,zaM,el]
    lia
def x6(C:Addr):Sp:=fun vs H Q E=>∃(p dx lt lb lf:Addr) (ts:List Str) (n:Int) (j:Nat),vs=[.ref p,.int n]/\bB C H p dx lt lb lf ts/\0<=n/\(pos 10 (ao ts) 0)[n.toNat]?=some j/\Q (.int j) H
theorem Vy{K:Frag}(T:jM K C):bF (x6 C) (fun E=>aK K [] [] (E:=E)) Dl Dk:=by
 intro vs H Q E h;obtain⟨p,dx,lt,lb,lf,ts,n,j,rfl,S,hn,hj,q⟩:=h;refine bU<|aV<|bV<|ag rfl ⟨p,C,dx,_,_,rfl,S.ob,T.cl,T.rk,wH,ag rfl<|fF S.fd ?_ q⟩;have e:=fh (xs:=(eA 10<|ao ts).map V.int) (j:=n.toNat) (v:=.int j) (by rw[zag,eA,zag,hj];rfl)
 rw[show((n.toNat:Nat):Int)=n by lia] at e
 exact e
theorem Vz{l r:Tr}{a b c:Int}:pos 10 (txt S (Tr.node l a b c r).ai) 0=pos 10 (txt S l.ai) 0++((pos 10 (seg S (a,b,c)) 0).map ((txt S l.ai).length+ ·)++(pos 10 (txt S r.ai) 0).map ((txt S l.ai).length+(seg S (a,b,c)).length+ ·)):=by
 rw[Gu,jQ,jQ];have e1:=oN 10 (seg S (a,b,c)) (txt S l.ai).length 0;have e2:=oN 10 (txt S r.ai) ((txt S l.ai).length+(seg S (a,b,c)).length) 0;rw[Nat.add_zero] at e1 e2;rw[zaS,e1,e2]
def nj(C:Addr):Sp:=fun vs H Q E=>∃(v:V) (t:Tr) (n:Int) (s dx lt lb lf:Addr) (ts:List Str) (j:Nat),vs=[v,.int n,.ref s]/\Nd H t v/\(∀q∈t.ai,bD (ao ts) q)/\bB C H s dx lt lb lf ts/\0<=n/\(pos 10 (txt (ao ts) t.ai) 0)[n.toNat]?=some j/\Q (.int j) H
def pA(H:Hp)(s:Addr)(S:List Nat)(j7:Int)(m:Nat)(σ:St)(H2:Hp):Prop:=
 ∃(v:V) (t:Tr) (n e:Int) (j:Nat) (u4 u5:Option V),σ=[some v,some<|.int n,some<|.ref s,some<|.int e,u4,u5]/\H2=H/\Nd H t v/\(∀q∈t.ai,bD S q)/\0<=n/\(pos 10 (txt S t.ai) 0)[n.toNat]?=some j/\j7=e+j/\m=t.ai.length
abbrev x8(C:Addr):List (Str×Addr×Sp):=[("end_place",C,x6 C),("ends_ahead",C,lM C)]
theorem VA{K:Frag}:bF (nj C) (fun E=>aK K [("ends_of",hG),("size_of",g_)] [] [] (x8 C) (E:=E)) Dj Di:=by
 intro vs H Q E h;obtain⟨v,t,n,s,dx,lt,lb,lf,ts,j,rfl,hn,hp,S,h0,hj,k⟩:=h;refine aN<|au ?_;refine wD (pA H s (ao ts) (j:Int)) ⟨_,v,t,n,0,j,none,none,rfl,rfl,hn,hp,h0,hj,by lia,rfl⟩ ?_
 rintro m σ H2 ⟨v,t,n,e,j',u4,u5,rfl,rfl,hn,hp,h0,bx,et,rfl⟩;cases t with
 |nil=>exact absurd bx (by show ¬([]:List Nat)[n.toNat]?=some j';simp)
 |node l a b c r=>
  obtain⟨p,q,vl,vr,rfl,eE,hq,fI,jn⟩:=hn;have gH:∀x∈l.ai,bD (ao ts) x:=fun x hx=>hp x (by simp[Tr.ai,hx])
  have oX:∀x∈r.ai,bD (ao ts) x:=fun x hx=>hp x (by simp[Tr.ai,hx])
  have pc:=hp (a,b,c) (by simp[Tr.ai])
  have q0:0<=a:=pc.p0;have q1:1<=b:=pc.p1;have q2:a+b<= (ao ts).length:=pc.p2;have q3:c=((seg (ao ts) (a,b,c)).count 10:Nat):=pc.p3;have ql:((seg (ao ts) (a,b,c)).length:Int)=b:=pc.len;have zl:=Gw gH;have el:=Gv gH;rw[Vz] at bx;have L1:=eW 10 (txt (ao ts) l.ai) 0;have L2:((pos 10 (seg (ao ts) (a,b,c)) 0).map ((txt (ao ts) l.ai).length+ ·)).length=(seg (ao ts) (a,b,c)).count 10:=by rw[zai,eW]
  have rL:∀{σ:St}{Q1:VK},σ[0]?=some (some<|.ref p)->Q1 (.int l.en) H2->aj (aK K [("ends_of",hG),("size_of",g_)] [] [] (x8 C) (E:=E)) (.call 0 [(.ix (.v 0)<|.c<|.int 0)]) σ H2 Q1:=fun e0 q=>bh hG rfl (aw<|aV<|ag e0<|au<|aA eE rfl<|aJ ⟨vl,l,rfl,fI,q⟩);have rZ:∀{σ:St}{Q1:VK},σ[0]?=some (some<|.ref p)->Q1 (.int l.sz) H2->aj (aK K [("ends_of",hG),("size_of",g_)] [] [] (x8 C) (E:=E)) (.call 1 [(.ix (.v 0)<|.c<|.int 0)]) σ H2 Q1:=fun e0 q=>bh g_ rfl (aw<|aV<|ag e0<|au<|aA eE rfl<|aJ ⟨vl,l,rfl,fI,q⟩);refine oS<|ba<|ag rfl<|rL rfl<|ltI ⟨_,rfl,?_⟩;have less:∀m',m'< (Tr.node l a b c r).ai.length->∀σ' H',pA H2 s (ao ts) (j:Int) m' σ' H'->∃m',m'< (Tr.node l a b c r).ai.length/\pA H2 s (ao ts) (j:Int) m' σ' H':=fun m' h σ' H' x=>⟨m',h,x⟩;have Y5:(Tr.node l a b c r).ai.length=l.ai.length+(r.ai.length+1):=by rw[Tr.ai,zqA,zau]
  by_cases g1:n<l.en
  ·refine iT (iT ?_ rfl) (zqT g1);refine⟨pA H2 s (ao ts) (j:Int) l.ai.length,less _ (by lia),?_⟩
   refine bp<|ba<|ag rfl<|rL rfl<|ltI ⟨_,rfl,iT ?_<|zqT g1⟩;refine aN<|aV<|ag rfl<|au<|aA eE rfl ?_;refine⟨vl,l,n,e,j',u4,u5,rfl,rfl,fI,gH,h0,?_,et,rfl⟩;rw[zaI (by lia)] at bx
   exact bx
  ·refine iF ?_ (zqF g1);rw[zaH (by lia),L1] at bx
   refine ba<|ag rfl<|aE<|rL rfl<|aV<|aV<|ag rfl<|au<|aA eE rfl<|au<|aA hq rfl<|bz<|Vw ⟨_,rfl,?_⟩;by_cases g2:l.en+c<=n
   ·refine iT ?_ (zqT g2);refine⟨pA H2 s (ao ts) (j:Int) r.ai.length,less _ (by lia),?_⟩
    refine bp<|ba<|ag rfl<|rL rfl<|ltI ⟨_,rfl,iF ?_<|zqF g1⟩;refine aN<|aE<|aE<|ag rfl<|rL rfl<|eG<|aV<|aV<|ag rfl<|au<|aA eE rfl<|au<|aA hq rfl<|eG ?_;refine aN<|aE<|aE<|ag rfl<|rZ rfl<|bz<|aV<|aV<|ag rfl<|au<|aA eE rfl<|au<|aA hq rfl<|bz ?_;refine aN<|aV<|ag rfl<|au<|aA eE rfl ?_;rw[zaH (by lia),L2,zag] at bx
    obtain⟨j2,wV,e2⟩:=zbL.mp bx;refine⟨vr,r,n - l.en - c,e+l.sz+b,j2,u4,u5,rfl,rfl,jn,oX,by lia,?_,by lia,rfl⟩
    rw[show(n - l.en - c).toNat=n.toNat - (txt (ao ts) l.ai).count 10 - (seg (ao ts) (a,b,c)).count 10 by lia]
    exact wV
   ·refine iF ?_ (zqF g2);rw[zaI (by lia),zag] at bx
    obtain⟨g,hg,e2⟩:=zbL.mp bx;refine aN<|aV<|aV<|ag rfl<|au<|aA eE rfl<|au<|aA hq rfl ?_;have ea:ends ts a=(((ao ts).take a.toNat).count 10:Nat):=rfl;refine aN<|fU C (x6 C) rfl<|ag rfl ⟨s,dx,_,rfl,S.ob,Vv,aE<|aE<|fU C (lM C) rfl<|ag rfl ⟨s,dx,_,rfl,S.ob,xZ,ag rfl ⟨s,dx,lt,lb,lf,ts,a,rfl,S,q0,ag rfl<|bz<|rL rfl<|eG ?_⟩⟩⟩;have es:ao ts=(ao ts).take a.toNat++(seg (ao ts) (a,b,c)++((ao ts).drop a.toNat).drop b.toNat):=by
     show ao ts=(ao ts).take a.toNat++(((ao ts).drop a.toNat).take b.toNat++((ao ts).drop a.toNat).drop b.toNat);rw[zaA,zaA]
    have lt':((ao ts).take a.toNat).length=a.toNat:=by rw[zaj];lia
    have key:(pos 10 (ao ts) 0)[(ends ts a+n - l.en).toNat]?=some (a.toNat+g):=by
     have e3:pos 10 (ao ts) 0=pos 10 ((ao ts).take a.toNat) 0++((pos 10 (seg (ao ts) (a,b,c)) 0).map (a.toNat+ ·)++pos 10 (((ao ts).drop a.toNat).drop b.toNat) (a.toNat+(seg (ao ts) (a,b,c)).length)):=by
      have p1:=oN 10 (seg (ao ts) (a,b,c)) a.toNat 0;rw[Nat.add_zero] at p1;rw[<-p1]
      conv=>lhs;rw[es,jQ,jQ,lt',zaS]
     rw[e3,zaH (by rw[eW];lia),eW,zaI (by rw[zai,eW];lia),zag]
     rw[show(ends ts a+n - l.en).toNat - ((ao ts).take a.toNat).count 10=n.toNat - (txt (ao ts) l.ai).count 10 by lia,hg];rfl
    refine⟨s,dx,lt,lb,lf,ts,_,a.toNat+g,rfl,S,by lia,key,?_⟩
    refine bU<|aE<|aE<|aE<|ag rfl<|rZ rfl<|bz<|ag rfl<|bz<|ag rfl<|eG ?_;rw[show e+l.sz+((a.toNat+g:Nat):Int) - a=(j:Int) by lia]
    exact k
theorem Gy{t:RE}(h:bc Γ t σ H fun c H1=>if c=true then aj Γ a σ H1 Q else aj Γ b σ H1 Q):aj Γ (.i_ t a b) σ H Q:=h
def cA(l:List Nat)(i:Nat):Nat:=if i=0 then 0 else ((pos 10 l 0)[i - 1]?).getD 0+1
def j8(l:List Nat)(i:Nat):Int:=(if i=l.count 10 then (l.length:Int) else ((((pos 10 l 0)[i]?).getD 0:Nat):Int)) - cA l i
theorem lW(h:i<l.count 10):(pos 10 l 0)[i]?=some (((pos 10 l 0)[i]?).getD 0):=by
 have:i< (pos 10 l 0).length:=by rw[eW];exact h
 simp[this]
section
variable {K:Frag}{CP C:Addr}
def j9(CP C:Addr):Sp:=fun vs H Q E=>∃(p dp s dx lt lb lf:Addr) (v:V) (t:Tr) (ts:List Str) (i:Nat),vs=[.ref p,.int i]/\bS CP H p dp s v t (ao ts)/\bB C H s dx lt lb lf ts/\i<= (txt (ao ts) t.ai).count 10/\Q (.int<|cA (txt (ao ts) t.ai) i) H
theorem VB(T:cN K CP):bF (j9 CP C) (fun E=>aK K [("place_of_end",nj C)] [] (E:=E)) Dp Dm:=by
 intro vs H Q E h;obtain⟨p,dp,s,dx,lt,lb,lf,v,t,ts,i,rfl,P,S,hi,q⟩:=h;unfold cA at q;refine bU<|Gy<|ba<|ag rfl<|au<|g8 ⟨_,rfl,?_⟩;by_cases z:i=0
 ·rw[if_pos z] at q;exact iT (au q)<|zqT (by lia)
 ·rw[if_neg z] at q;refine iF ?_<|zqF (by lia)
  refine aE<|bh (nj C) rfl<|aw<|bV<|ag rfl ⟨p,CP,dp,_,_,rfl,P.ob,T.cl,T.fB,fZ,aw<|aE<|ag rfl<|au<|eG<|aw<|bV<|ag rfl ⟨p,CP,dp,_,_,rfl,P.ob,T.cl,T.dJ,d4,aJ ?_⟩⟩;have hp:=lW (l:=txt (ao ts) t.ai) (i:=i - 1) (by lia)
  refine⟨v,t,(i:Int) - 1,s,dx,lt,lb,lf,ts,_,rfl,P.nd,P.pc,S,by lia,by rw[show((i:Int) - 1).toNat=i - 1 by lia];exact hp,au<|bz ?_⟩
  exact q
def nq(CP C:Addr):Sp:=fun vs H Q E=>∃(p dp s dx lt lb lf:Addr) (v:V) (t:Tr) (ts:List Str) (i:Nat),vs=[.ref p,.int i]/\bS CP H p dp s v t (ao ts)/\bB C H s dx lt lb lf ts/\i<= (txt (ao ts) t.ai).count 10/\Q (.int<|j8 (txt (ao ts) t.ai) i) H
theorem VC{CE:Addr}(T:cN K CP):bF (nq CP C) (fun E=>aK K [("is_between",d0),("place_of_end",nj C)] [] [] [("lines",CP,lR CP),("size",CP,hJ CP),("line_begin",CP,j9 CP C)] (et:=[("NoPlace",CE)]) (E:=E)) Dr Dq:=by
 intro vs H Q E h;obtain⟨p,dp,s,dx,lt,lb,lf,v,t,ts,i,rfl,P,S,hi,q⟩:=h;have n1:(dA s v).lookup ("lines":Str)=none:=eZ (by decide+kernel) (by decide+kernel)
 have n2:(dA s v).lookup ("size":Str)=none:=eZ (by decide+kernel) (by decide+kernel)
 have n3:(dA s v).lookup ("line_begin":Str)=none:=eZ (by decide+kernel) (by decide+kernel)
 refine bp<|fW<|gC d0 rfl<|aw<|ag rfl<|aw<|au<|aw<|aE<|gB CP (lR CP) rfl<|ag rfl ⟨p,dp,_,rfl,P.ob,n1,p,dp,s,v,t,_,rfl,P,au<|eG<|aJ ⟨_,_,_,rfl,.inl ⟨_,rfl,by lia,by lia,fG<|iF (ck ?_) rfl⟩⟩⟩
 refine aN<|mV<|ag rfl<|aE<|gB CP (lR CP) rfl<|ag rfl ⟨p,dp,_,rfl,P.ob,n1,p,dp,s,v,t,_,rfl,P,au<|eG<|g8 ?_⟩;have fin:∀(e:Int) (u:Option V),e - cA (txt (ao ts) t.ai) i=j8 (txt (ao ts) t.ai) i->aB (aK K [("is_between",d0),("place_of_end",nj C)] [] [] [("lines",CP,lR CP),("size",CP,hJ CP),("line_begin",CP,j9 CP C)] (et:=[("NoPlace",CE)]) (E:=E)) [.ret<|.bin .Sub (.v 3)<|.bo 2 "line_begin" (.v 0) [.v 1]] (Dn Q) [some<|.ref p,some<|.int i,u,some<|.int e] H:=by
  intro e u he;refine bU<|aE<|ag rfl<|fU CP (j9 CP C) rfl<|ag rfl ⟨p,dp,_,rfl,P.ob,n3,ag rfl ⟨p,dp,s,dx,lt,lb,lf,v,t,ts,i,rfl,P,S,hi,eG ?_⟩⟩;rw[he];exact q
 refine aN<|Gy ?_;refine⟨_,rfl,?_⟩;by_cases z:i=(txt (ao ts) t.ai).count 10
 ·refine iT ?_ (zqT (by lia))
  refine gB CP (hJ CP) rfl<|ag rfl ⟨p,dp,_,rfl,P.ob,n2,p,dp,s,v,t,_,rfl,P,fin _ _ ?_⟩;unfold j8;rw[if_pos z]
 ·refine iF ?_ (zqF (by lia))
  refine bh (nj C) rfl<|aw<|bV<|ag rfl ⟨p,CP,dp,_,_,rfl,P.ob,T.cl,T.fB,fZ,aw<|ag rfl<|aw<|bV<|ag rfl ⟨p,CP,dp,_,_,rfl,P.ob,T.cl,T.dJ,d4,aJ ?_⟩⟩;have hp:=lW (l:=txt (ao ts) t.ai) (i:=i) (by lia)
  refine⟨v,t,(i:Int),s,dx,lt,lb,lf,ts,_,rfl,P.nd,P.pc,S,by lia,hp,fin _ _ ?_⟩
  unfold j8;rw[if_neg z]
end
section
variable {K:Frag}{CP C:Addr}
def dC(l:List Nat)(pl:Nat):Nat:=(l.take pl).count 10
theorem VD(l:List Nat)(pl:Nat):dC l pl<=l.count 10:=by
 unfold dC;have:l.count 10=(l.take pl).count 10+(l.drop pl).count 10:=by rw[<-zaM,zaA]
 lia
def x9(CP C:Addr):Sp:=fun vs H Q E=>∃(p dp s dx lt lb lf:Addr) (v:V) (t:Tr) (ts:List Str) (pl:Nat),vs=[.ref p,.int pl]/\bS CP H p dp s v t (ao ts)/\bB C H s dx lt lb lf ts/\pl<= (txt (ao ts) t.ai).length/\
 ∀w H',aF H H'->H w=none->H' w=some (.tup [.int (dC (txt (ao ts) t.ai) pl:Nat),.int<|(pl:Int) - cA (txt (ao ts) t.ai) (dC (txt (ao ts) t.ai) pl)])->Q (.ref w) H'
theorem VE{CE:Addr}(T:cN K CP):bF (x9 CP C) (fun E=>aK K [("is_between",d0),("ends_ahead_of",x3 C)] [] [] [("size",CP,hJ CP),("line_begin",CP,j9 CP C)] (et:=[("NoPlace",CE)]) (E:=E)) Dt Ds:=by
 intro vs H Q E h;obtain⟨p,dp,s,dx,lt,lb,lf,v,t,ts,pl,rfl,P,S,hp,q⟩:=h;have n2:(dA s v).lookup ("size":Str)=none:=eZ (by decide+kernel) (by decide+kernel)
 have n3:(dA s v).lookup ("line_begin":Str)=none:=eZ (by decide+kernel) (by decide+kernel)
 have hz:=P.sz;refine bp<|fW<|gC d0 rfl<|aw<|ag rfl<|aw<|au<|aw<|gB CP (hJ CP) rfl<|ag rfl ⟨p,dp,_,rfl,P.ob,n2,p,dp,s,v,t,_,rfl,P,aJ ⟨_,_,_,rfl,.inl ⟨_,rfl,by lia,by lia,fG<|iF (ck ?_) rfl⟩⟩⟩
 refine aN<|bh (x3 C) rfl<|aw<|bV<|ag rfl ⟨p,CP,dp,_,_,rfl,P.ob,T.cl,T.fB,fZ,aw<|ag rfl<|aw<|bV<|ag rfl ⟨p,CP,dp,_,_,rfl,P.ob,T.cl,T.dJ,d4,aJ ?_⟩⟩;refine⟨v,t,pl,s,dx,lt,lb,lf,ts,rfl,P.nd,P.pc,S,by lia,by lia,?_⟩
 have ll:=VD (txt (ao ts) t.ai) pl;refine bU<|gA<|aw<|ag rfl<|aw<|aE<|ag rfl<|fU CP (j9 CP C) rfl<|ag rfl ⟨p,dp,_,rfl,P.ob,n3,ag rfl ⟨p,dp,s,dx,lt,lb,lf,v,t,ts,dC (txt (ao ts) t.ai) pl,rfl,P,S,ll,eG<|aJ ⟨cR,fun w fw=>?_⟩⟩⟩;exact q w _ (sameNew fw) fw aG
def x_(CP C:Addr):Sp:=fun vs H Q E=>∃(p dp s dx lt lb lf:Addr) (v:V) (t:Tr) (ts:List Str) (i:Nat) (c:Int),vs=[.ref p,.int i,.int c]/\bS CP H p dp s v t (ao ts)/\bB C H s dx lt lb lf ts/\i<= (txt (ao ts) t.ai).count 10/\0<=c/\c<=j8 (txt (ao ts) t.ai) i/\Q (.int<|cA (txt (ao ts) t.ai) i+c) H
theorem VF{CE:Addr}:bF (x_ CP C) (fun E=>aK K [("is_between",d0)] [] [] [("line_size",CP,nq CP C),("line_begin",CP,j9 CP C)] (et:=[("NoPlace",CE)]) (E:=E)) Dv Du:=by
 intro vs H Q E h;obtain⟨p,dp,s,dx,lt,lb,lf,v,t,ts,i,c,rfl,P,S,hi,h0,h1,q⟩:=h;have n2:(dA s v).lookup ("line_size":Str)=none:=eZ (by decide+kernel) (by decide+kernel)
 have n3:(dA s v).lookup ("line_begin":Str)=none:=eZ (by decide+kernel) (by decide+kernel)
 refine bp<|fW<|gC d0 rfl<|aw<|ag rfl<|aw<|au<|aw<|fU CP (nq CP C) rfl<|ag rfl ⟨p,dp,_,rfl,P.ob,n2,ag rfl ⟨p,dp,s,dx,lt,lb,lf,v,t,ts,i,rfl,P,S,hi,aJ ⟨_,_,_,rfl,.inl ⟨_,rfl,by lia,by lia,fG<|iF (ck ?_) rfl⟩⟩⟩⟩
 exact bU<|aE<|fU CP (j9 CP C) rfl<|ag rfl ⟨p,dp,_,rfl,P.ob,n3,ag rfl ⟨p,dp,s,dx,lt,lb,lf,v,t,ts,i,rfl,P,S,hi,ag rfl<|bz q⟩⟩
end
def lend(l:List Nat)(i:Nat):Nat:=if i=l.count 10 then l.length else ((pos 10 l 0)[i]?).getD 0
theorem VG(l:List Nat)(i:Nat):j8 l i=(lend l i:Int) - cA l i:=by
 unfold j8 lend
 split<;>rfl
theorem ya(h:(pos 10 l 0)[i]?=some j):j<l.length:=by
 have:=(jR 10 l 0 j<|zap h).2;lia
theorem VH{k:Nat}(h:(pos 10 l 0)[i]?=some j)(h':(pos 10 l 0)[i+1]?=some k):j<k:=by
 obtain⟨a,rfl⟩:=zab.mp h;obtain⟨b,rfl⟩:=zab.mp h';exact zbH.mp (rD 10 l 0) i (i+1) a b (by lia)
theorem sI(h:i<=l.count 10):cA l i<=lend l i/\lend l i<=l.length:=by
 unfold cA lend;by_cases z:i=0
 ·rw[if_pos z];by_cases g:i=l.count 10
  ·rw[if_pos g];lia
  ·rw[if_neg g];have:=ya (lW (l:=l) (i:=i) (by lia))
   lia
 ·rw[if_neg z];have p1:=lW (l:=l) (i:=i - 1) (by lia)
  have l1:=ya p1;by_cases g:i=l.count 10
  ·rw[if_pos g];lia
  ·rw[if_neg g];have p2:=lW (l:=l) (i:=i) (by lia)
   have l2:=ya p2;have:=VH p1 (by rw[show i - 1+1=i by lia];exact p2)
   lia
theorem VI(h:i<l.count 10):cA l (i+1)=lend l i+1:=by
 unfold cA lend;rw[if_neg (by lia),if_neg (by lia)];rfl
theorem VJ(l:List Nat):lend l (l.count 10)=l.length:=by unfold lend;rw[if_pos rfl]
theorem VL(x:Str):Builtin.Str.occurrences x (Str.ofString "\n") 0 x.length (x.length+1)=pos 10 x.cps.toList 0:=by
 have:=wj x 10 0 (x.length+1) (zqZ _);rw[zaR] at this;show Builtin.Str.occurrences x ⟨#[10]⟩ 0 x.length (x.length+1)=_;rw[this,zaC];rw[eW];have:x.cps.toList.count 10<=x.length:=by rw[len_list];exact zby
 lia
theorem Gz(x:Str):Txt.split x (Str.ofString "\n")=Builtin.Str.partsBetween x (pos 10 x.cps.toList 0) 1:=by
 have one:pos 10 x.cps.toList 0=[]->Builtin.Str.partsBetween x (pos 10 x.cps.toList 0) 1=[x]:=fun e=>by
  rw[e];show[Builtin.Str.strSub x 0 x.length]=[x]
  congr 1
  apply gu
  show(x.cps.extract 0 x.cps.size).toList=x.cps.toList
  simp
 unfold Txt.split;rw[VL];by_cases h:(decide (x.length< (Str.ofString "\n").length)||decide (Builtin.Str.strKind x<Builtin.Str.strKind (Str.ofString "\n")))=true
 ·rw[if_pos h];refine(one ?_).symm;have k1:Builtin.Str.strKind (Str.ofString "\n")=1:=by decide+kernel
  have k2:1<=Builtin.Str.strKind x:=by unfold Builtin.Str.strKind;split<;>(try split) <;>decide
  have l1:(Str.ofString "\n").length=1:=by decide+kernel
  rw[k1,l1,zbo] at h;have:x.length=0:=by
   rcases h with h|h
   ·have:=of_decide_eq_true h;lia
   ·have:=of_decide_eq_true h;lia
  have e:x.cps.toList=[]:=zbJ (by rw[<-len_list];exact this)
  rw[e];rfl
 ·rw[if_neg h];by_cases g:(pos 10 x.cps.toList 0).isEmpty=true
  ·rw[if_pos g];exact(one<|List.isEmpty_iff.mp g).symm
  ·rw[if_neg g];rfl
theorem split_len(x:Str):(Txt.split x<|Str.ofString "\n").length=x.cps.toList.count 10+1:=by rw[Gz,length_partsBetween,eW]
theorem yb{x:Str}(h:i<=x.cps.toList.count 10):∃z,(Txt.split x<|Str.ofString "\n")[i]?=some z/\z.length=lend x.cps.toList i - cA x.cps.toList i:=by
 rw[Gz];have L:=eW 10 x.cps.toList 0;have ok:=sI h;have e1:(0::(pos 10 x.cps.toList 0).map (· +1))[i]?=some (cA x.cps.toList i):=by
  unfold cA;by_cases z:i=0
  ·rw[if_pos z,z];rfl
  ·rw[if_neg z];obtain⟨k,rfl⟩:∃k,i=k+1:=⟨i - 1,by lia⟩
   rw[List.getElem?_cons_succ,zag,lW (by lia)];rfl
 have e2:(pos 10 x.cps.toList 0++[x.length])[i]?=some (lend x.cps.toList i):=by
  unfold lend;by_cases z:i=x.cps.toList.count 10
  ·rw[if_pos z,zaH (by lia),L,z,Nat.sub_self,<-len_list];rfl
  ·rw[if_neg z,zaI (by lia)]
   exact lW (by lia)
 refine⟨Builtin.Str.strSub x (cA x.cps.toList i)<|lend x.cps.toList i,?_,?_⟩
 ·show(((0::(pos 10 x.cps.toList 0).map (· +1)).zip<|pos 10 x.cps.toList 0++[x.length]).map fun(i,j)=>Builtin.Str.strSub x i j)[i]?=_;rw[zag,(List.getElem?_zip_eq_some (z:=(cA x.cps.toList i,lend x.cps.toList i))).mpr ⟨e1,e2⟩];rfl
 ·show(x.cps.extract (cA x.cps.toList i)<|lend x.cps.toList i).size=_;rw[Array.size_extract];have:x.cps.size=x.cps.toList.length:=by simp
  lia
end L2.N
namespace L2.B
open PySem PySem.Spec PyProof.Rows
end L2.B
namespace L2.B
open PySem PySem.Spec PyProof.Rows
theorem VM{K:Frag}:bF (EY) (fun E=>aK K [] [] (E:=E)) B8 vT:=by
 intro vs H Q E h;obtain⟨i,rfl,q⟩:=h;exact⟨_,rfl,rfl,_,rfl,d6 ⟨_,rfl,rfl,q⟩⟩
end L2.B
namespace L2
open PySem PySem.Spec PyProof.Rows
theorem VN{r:List RS}{is:List Nat}(h:aj Γ e σ H fun x H1=>gj Γ.K is.length (fP is) x σ H1 (aB Γ r D)):aB Γ (.qD is e::r) D σ H:=h
theorem VO{K:Frag}{t:Addr}{v w:V}{Q:St->Hp->Prop}(ht:H t=some (.tup [v,w]))(q:Q ((σ.set i<|some v).set j<|some w) H):gj K [i,j].length (fP [i,j]) (.ref t) σ H Q:=
 ⟨t,_,rfl,.inl<|aO.of ht,rfl,_,_,rfl,_,_,rfl,rfl,q⟩
end L2
namespace L2.N
open PySem PySem.Spec L2.B
structure eI (CP C:Addr) (H:Hp) (p dp s dx lt lb lf:Addr) (v:V) (t:Tr) (ts:List Str) (x:Str):Prop where
 pa:bS CP H p dp s v t (ao ts)
 st:bB C H s dx lt lb lf ts
 l1:t.ai.length<=1000
 l2:ts.length<=10000
 l3:(ao ts).length<=500000
 tx:txt (ao ts) t.ai=x.cps.toList
 go:good x
theorem eI.same{p dp lt:Addr}{v:V}{t:Tr}{ts:List Str}{x:Str}(B:eI CP C H p dp s dx lt lb lf v t ts x)(h:aF H H'):eI CP C H' p dp s dx lt lb lf v t ts x:=⟨B.pa.same h,B.st.same h,B.l1,B.l2,B.l3,B.tx,B.go⟩
section
variable {K:Frag}{CP C:Addr}{H H':Hp}{p dp s dx lt lb lf:Addr}{v:V}{t:Tr}{ts:List Str}{x:Str}
theorem eI.eq(B:eI CP C H p dp s dx lt lb lf v t ts x):L2.N.tx (ao ts) t.ai=x:=gu (by rw[Uv,B.tx])
theorem eI.l4(B:eI CP C H p dp s dx lt lb lf v t ts x):(txt (ao ts) t.ai).length<=1000000:=by rw[B.tx,<-len_list];exact B.go.1
end
section
variable {K:Frag}{H:Hp}{Q:VK}
theorem VP{QT:Bool->Hp->Prop}(h:aW Γ [a,b] σ H fun vs H1=>rn Γ.K vs H1 fun x H2=>gh Γ.K x H2 fun b=>QT b H2):bc Γ (.xt rp [a,b]) σ H QT:=h
end
structure Kp (lt lb lf a:Addr):Prop where
 k1:a≠lt
 k2:a≠lb
 k3:a≠lf
theorem Kp.of{lt a:Addr}{ts:List Str}(S:bB C H s dx lt lb lf ts)(h:H a=none):Kp lt lb lf a:=
 ⟨fun z=>(by rw[z,S.tx] at h;cases h),fun z=>(by rw[z,S.bg] at h;cases h),fun z=>(by rw[z,S.fd] at h;cases h)⟩
theorem lX{lt a:Addr}{ts:List Str}(S:bB C H s dx lt lb lf ts)(b:dz s lt lb lf H H')(k:Kp lt lb lf a)(h:H a=some (.lst xs)):H' a=some (.lst xs):=
 b _ _ h (fun z=>by rw[z,S.ob] at h;cases h) k.k1 k.k2 k.k3
theorem VQ(xs:List V)(i j:Nat):dF xs (some (i:Int)) (some (j:Int))=(xs.drop i).take (j - i):=by
 unfold dF;rw[HT.jx,HT.jx];by_cases h:i<=xs.length
 ·by_cases h2:j<=xs.length
  ·rw[show min i xs.length=i by lia,show min j xs.length=j by lia]
  ·rw[show min i xs.length=i by lia,show min j xs.length=xs.length by lia,zaC (by rw[zas];lia),zaC (by rw[zas];lia)]
 ·rw[zbw (by lia),zbw (by lia),zbx,zbx]
end L2.N
namespace L2.N
open PySem PySem.Spec
end L2.N
namespace L2.N
open PySem PySem.Spec L2.B
section
variable {K:Frag}{H:Hp}{Q:VK}{Γ:bf}{σ:St}{D:Ends}
theorem VR{r:List RE}(h:aj Γ a σ H fun x H1=>∃c,x=.bl c/\if c=true then aj Γ (.and (b::r)) σ H1 Q else Q (.bl false) H1):aj Γ (.and (a::b::r)) σ H Q:=h
theorem VS(h:aj Γ a σ H Q):aj Γ (.and [a]) σ H Q:=h
end
section
variable {K:Frag}
end
theorem GA{K:Frag}{k:Nat}{t:Addr}{u v w:V}{Q:St->Hp->Prop}(ht:H t=some (.tup [u,v,w]))(q:Q (((σ.set i<|some u).set j<|some v).set k<|some w) H):gj K [i,j,k].length (fP [i,j,k]) (.ref t) σ H Q:=
 ⟨t,_,rfl,.inl<|aO.of ht,rfl,_,_,rfl,_,_,rfl,_,_,rfl,rfl,q⟩
theorem sJ{hi:RE}(h:aj Γ a σ H fun x H1=>aj Γ hi σ H1 fun j H3=>∃j':Int,j=.int j'/\om Γ.K x none (some j') H3 Q):aj Γ (.sl a none<|some hi) σ H Q:=h
theorem GB(h:aj Γ o σ H fun x H1=>nT Γ.K "str" x H1/\aj Γ a σ H1 fun y H2=>rq x [y] H2 Q):aj Γ (.xm rA o [a]) σ H Q:=h
theorem GC{x:Str}:gg x none (some (n:Int))=⟨(x.cps.toList.take n).toArray⟩:=by
 unfold gg iz;rw[HT.zP,HT.jx];show(⟨((x.cps.toList.drop 0).take<|min n x.cps.toList.length - 0).toArray⟩:Str)=_;rw[zaR,zbd];by_cases h:n<=x.cps.toList.length
 ·rw[Nat.min_eq_left h]
 ·rw[Nat.min_eq_right (by lia),zaC<|zqR _,zaC (by lia)]
theorem VT(xs:List V)(n:Nat):dF xs none (some (n:Int))=xs.take n:=by
 unfold dF;rw[HT.zP,HT.jx];show(xs.drop 0).take (min n xs.length - 0)=_;rw[zaR,zbd];by_cases h:n<=xs.length
 ·rw[Nat.min_eq_left h]
 ·rw[Nat.min_eq_right (by lia),zaC<|zqR _,zaC (by lia)]
theorem GD(l:List Nat)(n:Nat):cA (l.take n) (dC l n)=cA l (dC l n):=by
 unfold cA;by_cases z:dC l n=0
 ·rw[if_pos z,if_pos z]
 ·rw[if_neg z,if_neg z];have e:pos 10 l 0=pos 10 (l.take n) 0++pos 10 (l.drop n) (0+(l.take n).length):=by rw[<-jQ,zaA]
  have hl:(pos 10 (l.take n) 0).length=dC l n:=eW 10 _ _;rw[e,zaI (by lia)]
theorem GF{x:Str}:∀i,i<=x.cps.toList.count 10->(((Txt.split x<|Str.ofString "\n").take i).map fun z=>((z.length:Int)+1)).sum=(cA x.cps.toList i:Nat)
 | 0,_=>by unfold cA;simp
 |i+1,h=>by
  obtain⟨z,hz,lz⟩:=yb (x:=x) (i:=i) (by lia)
  have ok:=sI (l:=x.cps.toList) (i:=i) (by lia)
  have aS:i< (Txt.split x<|Str.ofString "\n").length:=(zab.mp hz).1;rw[zaN aS,(zab.mp hz).2,zaw,List.sum_append,GF i (by lia),VI (by lia)]
  show((cA x.cps.toList i:Nat):Int)+(((z.length:Int)+1)+0)=_;rw[lz];lia
section
variable {K:Frag}
end
section
variable {K:Frag}
end
section
variable {K:Frag}
end
theorem VU{α:Type}{l:List α}{i:Nat}{x:α}(h:l[i]?=some x):l.take (i+1)=l.take i++[x]:=by
 have aS:i<l.length:=(zab.mp h).1;rw[zaN aS,(zab.mp h).2]
section
variable {K:Frag}
end
section
variable {K:Frag}
end
section
variable {K:Frag}
end
end L2.N
namespace L2
open PySem PySem.Spec PyProof.Rows
end L2
namespace L2.N
open PySem PySem.Spec L2.B
theorem df{a b:Addr}{o o':HO}(n:a≠b)(h:H a=some o):L2.upd H b o' a=some o:=by rw[aI n];exact h
end L2.N
namespace L2.B
open PySem PySem.Spec PyProof.Rows
end L2.B
namespace L2.N
open PySem PySem.Spec L2.B
section
variable {K:Frag}{C CP:Addr}
theorem VV{a p:Addr}(b:bQ p H H')(f:H' a=none)(n:a≠p):H a=none:=by
 cases h:H a with
 |none=>rfl
 |some o=>rw[b a o h n] at f;cases f
end
end L2.N
namespace L2.B
open PySem PySem.Spec PyProof.Rows
end L2.B
namespace L2.N
open PySem PySem.Spec L2.B
end L2.N
namespace L2.k7
open PySem PySem.Spec L2.B L2.N
section
variable {K:Frag}{H:Hp}{Q:VK}
theorem GG{x y z:Int}(h:H c=some (tp (x,y,z))):Is H (.tuple [.int x,.int y,.int z]) (.ref c):=⟨c,_,rfl,h,.int x,[.int y,.int z],rfl,rfl,.int y,[.int z],rfl,rfl,.int z,[],rfl,rfl,rfl⟩
theorem VW(x y z:Int):PyData.eqv (.tuple [.int x,.int y,.int z]) (.tuple [.int x,.int y,.int z])=true:=SeqAt.eqv_refl _ (SeqAt.canLay_of_shaped (by rfl))
theorem VX{a b:Addr}{x y z:Int}(ha:H a=some (tp (x,y,z)))(hb:H b=some (tp (x,y,z)))(q:Q (.bl false) H):bX K .NotEq (.ref a) (.ref b) H Q:=by
 refine⟨_,_,GG ha,GG hb,(by rfl),(by rfl),?_⟩
 rw[VW];exact q
theorem GH{x y:Int}(h:H c=some (.tup [.int x,.int y])):Is H (.tuple [.int x,.int y]) (.ref c):=⟨c,_,rfl,h,.int x,[.int y],rfl,rfl,.int y,[],rfl,rfl,rfl⟩
theorem VY(x y:Int):PyData.eqv (.tuple [.int x,.int y]) (.tuple [.int x,.int y])=true:=SeqAt.eqv_refl _ (SeqAt.canLay_of_shaped (by rfl))
theorem GI{a b:Addr}{x y:Int}(ha:H a=some (.tup [.int x,.int y]))(hb:H b=some (.tup [.int x,.int y]))(q:Q (.bl false) H):bX K .NotEq (.ref a) (.ref b) H Q:=by
 refine⟨_,_,GH ha,GH hb,(by rfl),(by rfl),?_⟩
 rw[VY];exact q
end
theorem VZ{K:Frag}(n:Nat):bF (N.fX<|n+1) (fun E=>aK K [("_law_pieces",N.fX n)] [] (E:=E)) Ey v_:=by
 intro vs H Q E h;obtain⟨v,t,rfl,hn,hh,hl,k⟩:=h;refine⟨_,rfl,rfl,_,rfl,?_⟩;cases t with
 |nil=>
  cases hn;exact iT ⟨zqZ _,fun w hw=>k w _ [] (sameNew hw) hw aG .nil⟩
 |node l a b c r=>
  obtain⟨p,q,vl,vr,rfl,hp,hq,fI,jn⟩:=hn;have e1:=xa hl;obtain⟨e2,e3⟩:=rX l r a b c;refine iF ⟨_,rfl,aA hp rfl ⟨vl,l,rfl,fI,by lia,by lia,fun w H1 xs s1 fw hw px=>?_⟩⟩
  have lx:=Paired.length px;refine⟨_,rfl,aA (s1 _ _ hp) rfl ⟨gb,fun w1 V0=>?_⟩⟩;have s2:=sameNew (o:=.lst [V.ref q]) V0;refine .inl ⟨w,w1,_,_,rfl,rfl,s2 _ _ hw,aG,bE (by simp;lia),fun w2 iU=>?_⟩
  have s3:=s2.trans (sameNew (o:=.lst (xs++[V.ref q])) iU);generalize eP:upd (upd H1 w1<|.lst [V.ref q]) w2 (.lst<|xs++[V.ref q])=H3 at s3;have h3:H3 w2=some (.lst<|xs++[V.ref q]):=by rw[<-eP,aG]
  have hU:=s1.trans s3;refine⟨_,rfl,aA (hU _ _ hp) rfl ⟨vr,r,rfl,jn.mono<|aU hU,by lia,by lia,fun w3 H4 ys s4 GJ lY py=>?_⟩⟩
  have ly:=Paired.length py;refine .inl ⟨w2,w3,_,_,rfl,rfl,s4 _ _ h3,lY,bE (by simp;lia),fun w4 sL=>?_⟩
  have s5:=sameNew (o:=.lst (xs++[V.ref q]++ys)) sL;have GK:=s4.trans s5;have GN:=hU.trans GK;refine k w4 _ (xs++[V.ref q]++ys) GN ((hU.trans s4).free sL) aG ?_;have e:(Tr.node l a b c r).ai=l.ai++[(a,b,c)]++r.ai:=by simp[Tr.ai]
  rw[e];exact((px.mono<|aU<|s3.trans GK).app<|.cons ⟨q,rfl,GN _ _ hq⟩ .nil).app<|py.mono<|aU s5
def nu(n:Nat):Sp:=fun vs H Q E=>∃v t,vs=[v]/\Nd H t v/\t.ok/\t.h<n/\∀w H',aF H H'->H' w=some (tp (t.h,t.sz,t.en))->Q (.ref w) H'
theorem V1(vs:List V)(H:Hp)(Q:VK)(E:XK):¬nu 0 vs H Q E:=by
 rintro⟨v,t, -, -, -,h, -⟩;have:=Tr.h0 t;lia
abbrev GO(n:Nat):List (Str×Sp):=[("_law_good",nu n),("_law_whole",EY)]
theorem V2{K:Frag}(n:Nat):bF (nu<|n+1) (fun E=>aK K (GO n) [] (E:=E)) cO gp:=by
 intro vs H Q E h;obtain⟨v,t,rfl,hn,ho,hh,k⟩:=h;refine⟨_,rfl,rfl,_,rfl,?_⟩;cases t with
 |nil=>
  cases hn;exact iT ⟨kc,fun w hw=>k w _ (sameNew hw) aG⟩
 |node l a b c r=>
  obtain⟨p,q,vl,vr,rfl,hp,hq,fI,jn⟩:=hn;obtain⟨e2,e3⟩:=rX l r a b c;refine iF ⟨_,rfl,rfl,rF hp ⟨_,rfl,.inr ⟨_,aO.of hp,_,rfl,?_⟩⟩⟩;refine⟨_,rfl,aA hp rfl ⟨rfl,rF hq ⟨_,rfl,aA hp rfl<|.inr ⟨_,aO.of hq,_,rfl,?_⟩⟩⟩⟩;refine⟨_,rfl,aA hp rfl ⟨vl,l,rfl,fI,ho.1,by lia,fun w1 H1 s1 j_=>?_⟩⟩
  refine⟨_,rfl,aA (s1 _ _ hp) rfl ⟨vr,r,rfl,jn.mono<|aU s1,ho.2.1,by lia,fun w2 H2 s2 dP=>?_⟩⟩
  have fJ:=s1.trans s2;have sM:=s2 _ _ j_;refine⟨_,rfl,rfl,_,rfl,?_⟩;refine⟨_,rfl,rfl,_,rfl,?_⟩;refine⟨_,rfl,aA sM rfl ⟨_,rfl,aA dP rfl ⟨trivial,trivial,_,rfl,?_⟩⟩⟩;have ha:(decide<|(1:Int) < (if l.h - r.h<0 then -(l.h - r.h) else l.h - r.h))=false:=by
   have:=ho.2.2.1;have:=ho.2.2.2
   apply zqF
   split<;>lia
  refine iF ?_ ha;have lB:=fJ _ _ hp;have eR:=fJ _ _ hq;refine⟨_,rfl,aA sM rfl ⟨_,rfl,aA lB rfl<|aA eR rfl ⟨_,rfl,aA dP rfl ?_⟩⟩⟩;refine⟨_,rfl,aA sM rfl ⟨_,rfl,aA dP rfl ⟨_,rfl,_,rfl,aA sM rfl ⟨_,rfl,aA lB rfl<|aA eR rfl ⟨_,rfl,aA dP rfl ⟨kc,fun w3 GJ=>?_⟩⟩⟩⟩⟩⟩;have s3:=sameNew (o:=tp ((Tr.node l a b c r).h,(Tr.node l a b c r).sz,(Tr.node l a b c r).en)) GJ;have e0:upd H2 w3 (HO.tup [V.int<|1+(if r.h>l.h then r.h else l.h),V.int<|l.sz+b+r.sz,V.int<|l.en+c+r.en])=upd H2 w3 (tp ((Tr.node l a b c r).h,(Tr.node l a b c r).sz,(Tr.node l a b c r).en)):=rfl
  generalize eP:upd H2 w3 (tp ((Tr.node l a b c r).h,(Tr.node l a b c r).sz,(Tr.node l a b c r).en))=H3 at s3;have h3:H3 w3=some (tp ((Tr.node l a b c r).h,(Tr.node l a b c r).sz,(Tr.node l a b c r).en)):=by rw[<-eP,aG]
  show aB (aK K (GO n) [] (E:=E)) (cO.drop 7) _ _ (upd H2 w3<|tp ((Tr.node l a b c r).h,(Tr.node l a b c r).sz,(Tr.node l a b c r).en));rw[eP];have hU:=fJ.trans s3;have GP:=hU _ _ hp;have oV:=hU _ _ hq;have cut:dF [vl,V.ref q,vr,V.int (Tr.node l a b c r).h,V.int (Tr.node l a b c r).sz,V.int (Tr.node l a b c r).en] (some 3) none=[V.int (Tr.node l a b c r).h,V.int (Tr.node l a b c r).sz,V.int (Tr.node l a b c r).en]:=rfl;have nw:¬(HT.aX 6 0 (some (3:Int))=0/\HT.aX 6 6 (none:Option Int)=6):=by decide
  refine⟨_,rfl,_,rfl,.inr ⟨_,aO.of GP,nw,fun w4 sL=>?_⟩⟩;rw[cut];have s4:=sameNew (o:=tp ((Tr.node l a b c r).h,(Tr.node l a b c r).sz,(Tr.node l a b c r).en)) sL;refine⟨_,rfl,VX aG (s4 _ _ h3) ⟨_,rfl,?_⟩⟩;have GQ:=s4 _ _ GP;have V3:=s4 _ _ oV;refine⟨_,rfl,aA GQ rfl ⟨_,rfl,_,rfl,.inr ⟨_,aO.of GQ,nw,fun w5 V4=>?_⟩⟩⟩;rw[cut];have s5:=sameNew (o:=tp ((Tr.node l a b c r).h,(Tr.node l a b c r).sz,(Tr.node l a b c r).en)) V4;refine .inr ⟨q,w5,_,_,rfl,rfl,aO.of<|s5 _ _ V3,aO.of aG,(fun z=>nomatch z),yF,(fun z=>nomatch z),fun _ w6 V5=>?_⟩;have s6:=sameNew (o:=.tup [V.int a,V.int b,V.int c,V.int (Tr.node l a b c r).h,V.int (Tr.node l a b c r).sz,V.int (Tr.node l a b c r).en]) V5;generalize GR:upd (upd (upd H3 w4<|HO.tup [V.int (Tr.node l a b c r).h,V.int (Tr.node l a b c r).sz,V.int (Tr.node l a b c r).en]) w5<|HO.tup [V.int (Tr.node l a b c r).h,V.int (Tr.node l a b c r).sz,V.int (Tr.node l a b c r).en]) w6 (HO.tup<|[V.int a,V.int b,V.int c]++[V.int (Tr.node l a b c r).h,V.int (Tr.node l a b c r).sz,V.int (Tr.node l a b c r).en])=H6;have V6:aF H3 H6:=by
   rw[<-GR];exact s4.trans<|s5.trans s6
  have h6:H6 w6=some (.tup<|[a,b,c,(Tr.node l a b c r).h,(Tr.node l a b c r).sz,(Tr.node l a b c r).en].map V.int):=by rw[<-GR,aG];rfl
  generalize nV:[a,b,c,(Tr.node l a b c r).h,(Tr.node l a b c r).sz,(Tr.node l a b c r).en]=ns at h6;refine⟨w6,rfl,⟨_,aO.of h6⟩,fun i m ys H7=>m=ns.length - i/\i<=ns.length/\ys=[]/\H7=H6,⟨_,rfl,zqZ _,rfl,rfl⟩,?_⟩;rintro i m ys H7 ⟨rfl,hi,rfl,rfl⟩;by_cases aS:i<ns.length
  ·refine .inr ⟨⟨_,V.int ns[i],aO.of h6,by simp[aS]⟩,?_⟩
   rintro x H8 ⟨rfl,hx⟩;have dD:=hx _ (aO.of h6);have ex:x=V.int ns[i]:=by
    rw[zag,zaD aS] at dD;exact(zak dD).symm
   subst ex;refine⟨_,rfl,_,rfl,?_⟩;exact⟨ns.length - (i+1),by lia,rfl,aS,rfl,rfl⟩
  ·have ji:i=ns.length:=by lia
   subst ji;refine .inl ⟨⟨_,aO.of h6,by simp⟩,fun w7 V7=>?_⟩
   refine⟨zqZ _,fun w8 V8=>?_⟩;have s7:=sameNew (o:=.lst []) V7;have s8:=sameNew (o:=.lst []) V8;refine F_ (s8 _ _ aG) aG .nil (fun p hp=>by cases hp) ⟨_,rfl,?_⟩
   have GS:=V6.trans (s7.trans s8);exact iF ⟨_,rfl,k w3 _ (hU.trans GS)<|GS _ _ h3⟩ rfl
def lst:Nat->Nat×Nat
 | 0=>(0,1)
 |n+1=>((lst n).2,1+(lst n).1+(lst n).2)
theorem V9:∀n,(lst n).1<= (lst n).2
 | 0=>zqZ _
 |n+1=>by show(lst n).2<=1+(lst n).1+(lst n).2;lia
theorem V_{m:Nat}(h:n<=m):(lst n).1<= (lst m).1:=by
 induction h with
 |refl=>exact zqR _
 |step _ ih=>exact zar ih (V9 _)
theorem yc:∀{t:Tr},t.ok->(lst t.h.toNat).1<=t.ai.length
 |.nil,_=>zqR _
 |.node l a b c r,ho=>by
  obtain⟨o1,o2,o3,o4⟩:=ho;have i1:=yc o1;have i2:=yc o2;have l0:=Tr.h0 l;have r0:=Tr.h0 r;have e:=Tr.cf l a b c r
  simp only[Tr.ai,zqA,zau]
  by_cases g:r.h>l.h
  ·rw[if_pos g] at e;have e1:(Tr.node l a b c r).h.toNat=l.h.toNat+1+1:=by lia
   have e2:r.h.toNat=l.h.toNat+1:=by lia
   rw[e1];show 1+(lst l.h.toNat).1+(lst l.h.toNat).2<=_;rw[e2] at i2;have Y6:(lst l.h.toNat).2<=r.ai.length:=i2;lia
  ·rw[if_neg g] at e;by_cases z:l.h=0
   ·have e1:(Tr.node l a b c r).h.toNat=1:=by lia
    rw[e1];show 1<=_;lia
   ·have e1:(Tr.node l a b c r).h.toNat=(l.h.toNat - 1)+1+1:=by lia
    have e2:l.h.toNat=(l.h.toNat - 1)+1:=by lia
    rw[e1];show 1+(lst<|l.h.toNat - 1).1+(lst<|l.h.toNat - 1).2<=_;have Y7:(lst<|l.h.toNat - 1).2<=l.ai.length:=by rw[e2] at i1;exact i1
    have i3:(lst<|l.h.toNat - 1).1<= (lst r.h.toNat).1:=V_ (by lia)
    lia
def yd:Sp:=fun vs H Q E=>∃n:Nat,vs=[.int (n:Nat)]/\n<=1000/\∀H',aF H H'->Q (.int ((lst n).1:Nat)) H'
theorem Wa{r:List RS}(h:aW Γ [a,b] σ H fun vs H1=>∃v w,vs=[v,w]/\aB Γ r D ((σ.set i<|some v).set j<|some w) H1):aB Γ (.xs (par i j a b)::r) D σ H:=h
theorem Wb{K:Frag}:bF (yd) (fun E=>aK K [] [] (E:=E)) EB EA:=by
 intro vs H Q E h;obtain⟨n,rfl,hn,q⟩:=h;refine VN<|gA<|aw<|au<|aw<|au<|aJ ⟨cR,fun t ft=>⟨t,_,rfl,.inl<|aO.of aG,rfl,_,_,rfl,_,_,rfl,rfl,?_⟩⟩;have s1:=sameNew (o:=.tup [V.int 0,V.int 1]) ft;generalize upd H t (.tup [V.int 0,V.int 1])=H1 at s1⊢;refine xT (body:=[.xs<|par 1 2 (.v 2)<|.bin .Add (.bin .Add (.c<|.int 1)<|.v 1)<|.v 2])<|ag rfl ⟨n,rfl,by lia,by lia,pW (lo:=0) (n:=((n:Nat):Int).toNat) (fun i σ H2=>H2=H1/\∃u,σ=[some<|.int (n:Nat),some<|.int ((lst i).1:Nat),some<|.int ((lst i).2:Nat),u]) ?_ ?_ ?_⟩
 ·exact⟨rfl,none,rfl⟩
 ·rintro i σ H2 hi ⟨rfl,u,rfl⟩;refine Wa<|aw<|ag rfl<|aw<|aE<|aE<|au<|ag rfl<|bz<|ag rfl<|bz<|aJ ⟨_,_,rfl,?_⟩;refine⟨rfl,some<|.int<|0+(i:Int),?_⟩;show _=[some<|V.int (n:Nat),some<|V.int (((lst i).2:Nat):Int),some<|V.int ((1+(lst i).1+(lst i).2:Nat):Int),_];have e:(1:Int)+((lst i).1:Nat)+((lst i).2:Nat)=((1+(lst i).1+(lst i).2:Nat):Int):=by lia
  rw[<-e];rfl
 ·rintro σ H2 ⟨rfl,u,rfl⟩;refine bU<|ag rfl ?_;rw[zaJ];exact q _ s1
section
variable {K:Frag}{CP C:Addr}
abbrev Wc(CP C:Addr):List (Str×Addr×Sp):=[("lines",CP,lR CP),("line_at",CP,x9 CP C),("line_size",CP,nq CP C),("place_at",CP,x_ CP C)]
def ye(CP C:Addr):Sp:=fun vs H Q E=>∃(p dp s dx lt lb lf:Addr) (v:V) (t:Tr) (ts:List Str) (x:Str),vs=[.ref p,.str x]/\eI CP C H p dp s dx lt lb lf v t ts x/\x.length<=10000/\∀H',aF H H'->Q (.bl true) H'
theorem half(n:Nat):((n:Nat):Int) / 2=((n / 2:Nat):Int):=by lia
theorem yf(q:Q (.int ((n / 2:Nat):Int)) H):i8 K .FloorDiv (.int (n:Nat)) (.int 2) H Q:=⟨⟨by decide,by decide⟩,by show Q (.int<|((n:Nat):Int) / 2) H;rw[half];exact q⟩
theorem GU{l:List V}{v:V}(hl:l.length=n+1)(h:l[n]?=some v):dX l (-1)=some v:=by
 unfold dX;rw[hl,Gb];exact h
theorem Wd:bF (ye CP C) (fun E=>aK K [] [] [] (Wc CP C) (E:=E)) EE ED:=by
 intro vs H Q E h;obtain⟨p,dp,s,dx,lt,lb,lf,v,t,ts,x,rfl,B,hx,q⟩:=h;have lx:=len_list x;have cx:x.cps.toList.count 10<=x.length:=by rw[lx];exact zby
 have no:∀{m:Str},¬m="stock"-> ¬m="node"->(dA s v).lookup m=none:=fun a b=>eZ a b;refine aN<|GB<|ag rfl ⟨rfl,au ⟨x,_,rfl,rfl,by decide+kernel,by lia,fun l1 f1=>?_⟩⟩
 have s1:=sameNew (o:=.lst ((Txt.split x<|Str.ofString "\n").map V.str)) f1;have h1:upd H l1 (.lst<|(Txt.split x<|Str.ofString "\n").map V.str) l1=some (.lst<|(Txt.split x<|Str.ofString "\n").map V.str):=aG;generalize upd H l1 (.lst<|(Txt.split x<|Str.ofString "\n").map V.str)=H1 at s1 h1⊢;have sl:(Txt.split x<|Str.ofString "\n").length=x.cps.toList.count 10+1:=split_len x;have ll:((Txt.split x<|Str.ofString "\n").map V.str).length=x.cps.toList.count 10+1:=by rw[zai,sl]
 refine aN<|aE<|cy<|ag rfl<|.inl ⟨_,ay.of h1,au<|yf ?_⟩;rw[ll];obtain⟨mi,We⟩:∃mi,mi=(x.cps.toList.count 10+1) / 2:=⟨_,rfl⟩;rw[<-We];have sN:mi<=x.cps.toList.count 10:=by lia
 obtain⟨n,en⟩:∃n,n=x.length / 2:=⟨_,rfl⟩;have hn:n<=x.length:=by lia
 refine aN<|GB<|sJ<|ag rfl<|aE<|cy<|ag rfl ⟨bE (by lia),au<|yf ⟨_,rfl,bE (by lia),?_⟩⟩
 rw[<-en,GC];obtain⟨x',ex⟩:∃x':Str,x'=⟨(x.cps.toList.take n).toArray⟩:=⟨_,rfl⟩;have et:x'.cps.toList=x.cps.toList.take n:=by rw[ex]
 have GV:x'.length=n:=by rw[len_list,et,zaj];lia
 have ec:x'.cps.toList.count 10=dC x.cps.toList n:=by rw[et];rfl
 rw[<-ex];refine⟨rfl,au ⟨x',_,rfl,rfl,by decide+kernel,by lia,fun l2 f2=>?_⟩⟩
 have s2:=sameNew (o:=.lst ((Txt.split x'<|Str.ofString "\n").map V.str)) f2;have h2:upd H1 l2 (.lst<|(Txt.split x'<|Str.ofString "\n").map V.str) l2=some (.lst<|(Txt.split x'<|Str.ofString "\n").map V.str):=aG;have jk:=s2 _ _ h1;generalize upd H1 l2 (.lst<|(Txt.split x'<|Str.ofString "\n").map V.str)=H2 at s2 h2 jk⊢;have xS:((Txt.split x'<|Str.ofString "\n").map V.str).length=dC x.cps.toList n+1:=by rw[zai,split_len,ec]
 have fJ:=s1.trans s2;have B2:=B.same fJ;have e7:=B.tx;obtain⟨z,hz,lz⟩:=yb (x:=x') (i:=x'.cps.toList.count 10) (zqR _);rw[VJ,ec,<-len_list,GV,et,GD] at lz;rw[ec] at hz;have z2:((Txt.split x'<|Str.ofString "\n").map V.str)[dC x.cps.toList n]?=some (.str z):=by rw[zag,hz];rfl
 have Y8:cA x.cps.toList (dC x.cps.toList n)<=n:=by
  have o:=sI (l:=x.cps.toList.take n) (i:=dC x.cps.toList n) (zqR _);have o1:=o.1;have o2:=o.2;rw[GD] at o1;rw[zaj] at o2;lia
 refine bp<|gE<|ba<|gB CP (lR CP) rfl<|ag rfl ⟨p,dp,_,rfl,B2.pa.ob,no (by decide+kernel) (by decide+kernel),p,dp,s,v,t,_,rfl,B2.pa,cy<|ag rfl<|.inl ⟨_,ay.of jk,mY ⟨_,rfl,iF ?_ (by rw[ll,e7];simp)⟩⟩⟩
 refine jZ<|ba<|fU CP (x9 CP C) rfl<|ag rfl ⟨p,dp,_,rfl,B2.pa.ob,no (by decide+kernel) (by decide+kernel),aE<|cy<|ag rfl ⟨bE (by lia),au<|yf ?_⟩⟩
 rw[<-en];refine⟨p,dp,s,dx,lt,lb,lf,v,t,ts,n,rfl,B2.pa,B2.st,by rw[e7,<-lx];exact hn,fun w H3 s3 fw hw=>?_⟩
 rw[e7] at hw;refine gA<|aw<|aE<|cy<|ag rfl<|.inl ⟨_,ay.of<|s3 _ _ h2,au<|eG ?_⟩;rw[xS];refine aw<|cy<|aV<|ag rfl<|nh<|fF (s3 _ _ h2) (GU xS z2) ⟨bE (by rw[lz];lia),aJ ⟨cR,fun u fu=>?_⟩⟩
 have s4:=sameNew (o:=.tup [V.int<|((dC x.cps.toList n+1:Nat):Int) - 1,V.int ((z.length:Nat):Int)]) fu;have e1:((dC x.cps.toList n+1:Nat):Int) - 1=(dC x.cps.toList n:Nat):=by lia
 have e2:(n:Int) - (cA x.cps.toList (dC x.cps.toList n):Nat)=((z.length:Nat):Int):=by rw[lz];lia
 rw[e2] at hw;rw[e1] at s4⊢;refine GI (s4 _ _ hw) aG ⟨_,rfl,iF (ck ?_) rfl⟩;have eF:=fJ.trans (s3.trans s4);have pB:=(s3.trans s4) _ _ jk;generalize upd H3 u (.tup [V.int (dC x.cps.toList n:Nat),V.int ((z.length:Nat):Int)])=H4 at eF pB⊢;have B4:=B.same eF;have size:∀{i:Nat}{H5:Hp},i<=x.cps.toList.count 10->∃y,(Txt.split x<|Str.ofString "\n")[i]?=some y/\j8 x.cps.toList i=((y.length:Nat):Int)/\y.length<=10000:=fun {i H5} hi=>by
  obtain⟨y,hy,ly⟩:=yb hi;have o:=sI hi;refine⟨y,hy,?_,by rw[ly];lia⟩
  rw[VG,ly];lia
 obtain⟨y1,Wf,z1,w1⟩:=size (i:=x.cps.toList.count 10) (H5:=H4) (zqR _);obtain⟨y2,Wg,GW,w2⟩:=size (i:=mi) (H5:=H4) sN;have g1:((Txt.split x<|Str.ofString "\n").map V.str)[x.cps.toList.count 10]?=some (.str y1):=by rw[zag,Wf];rfl
 have g2:((Txt.split x<|Str.ofString "\n").map V.str)[mi]?=some (.str y2):=by rw[zag,Wg];rfl
 refine bp<|gE<|ba<|fU CP (nq CP C) rfl<|ag rfl ⟨p,dp,_,rfl,B4.pa.ob,no (by decide+kernel) (by decide+kernel),aE<|cy<|ag rfl<|.inl ⟨_,ay.of pB,au<|eG ?_⟩⟩
 rw[ll,show((x.cps.toList.count 10+1:Nat):Int) - 1=(x.cps.toList.count 10:Nat) by lia]
 refine⟨p,dp,s,dx,lt,lb,lf,v,t,ts,_,rfl,B4.pa,B4.st,by rw[e7];exact zqR _,?_⟩
 rw[e7];refine cy<|aV<|ag rfl<|nh<|fF pB (GU ll g1) ⟨bE (by lia),mY ⟨_,rfl,iF ?_ (by rw[z1];simp)⟩⟩
 refine jZ<|ba<|fU CP (nq CP C) rfl<|ag rfl ⟨p,dp,_,rfl,B4.pa.ob,no (by decide+kernel) (by decide+kernel),ag rfl ⟨p,dp,s,dx,lt,lb,lf,v,t,ts,mi,rfl,B4.pa,B4.st,by rw[e7];exact sN,?_⟩⟩
 rw[e7];refine cy<|aV<|ag rfl<|ag rfl<|fF pB (fh g2) ⟨bE (by lia),mY ⟨_,rfl,iF (ck ?_) (by rw[GW];simp)⟩⟩
 refine bU<|mV<|o8 CP (x_ CP C) rfl<|ag rfl ⟨p,dp,_,rfl,B4.pa.ob,no (by decide+kernel) (by decide+kernel),ag rfl<|au ⟨p,dp,s,dx,lt,lb,lf,v,t,ts,mi,0,rfl,B4.pa,B4.st,by rw[e7];exact sN,zaW _,by rw[e7,GW];lia,?_⟩⟩
 rw[e7];refine oP<|aw<|FK<|sJ<|ag rfl<|ag rfl ⟨_,rfl,.inl ⟨_,ay.of pB,fun l5 f5=>⟨l5,rfl,⟨_,ay.of aG⟩,?_⟩⟩⟩;rw[VT,<-List.map_take];have s5:=sameNew (o:=.lst (((Txt.split x<|Str.ofString "\n").take mi).map V.str)) f5;have h5:upd H4 l5 (.lst<|((Txt.split x<|Str.ofString "\n").take mi).map V.str) l5=some (.lst<|((Txt.split x<|Str.ofString "\n").take mi).map V.str):=aG;generalize upd H4 l5 (.lst<|((Txt.split x<|Str.ofString "\n").take mi).map V.str)=H5 at s5 h5⊢;have Wh:(((Txt.split x<|Str.ofString "\n").take mi).map V.str).length=mi:=by rw[zai,zaj];lia
 refine FJ h5 (by lia) (fun k ys _=>ys=((((Txt.split x<|Str.ofString "\n").take k).map fun z=>((z.length:Int)+1)).map V.int)) rfl ?_ ?_
 ·intro k y ys H3 hk s3 e Q' kk;have Wi:k<mi:=by have:=(zab.mp hk).1;lia
  rw[zag,List.getElem?_take_of_lt Wi] at hk;have aS:k< (Txt.split x<|Str.ofString "\n").length:=by lia
  obtain⟨y3,yg,z3,w3⟩:=size (i:=k) (H5:=H4) (by lia)
  have ez:(Txt.split x<|Str.ofString "\n")[k]=y3:=by
   rw[zaD aS] at yg;exact zak yg
  rw[yg] at hk;cases hk;refine aE<|cy<|ag rfl ⟨bE (by lia),au<|bz<|kk _ _ (aF.refl _) ?_⟩
  rw[e,zaN aS,zaw,zaw,ez];rfl
 ·intro ys H3 l6 s6 e f6;subst e;rw[Wh];have s7:=sameNew (o:=.lst ((((Txt.split x<|Str.ofString "\n").take mi).map fun z=>((z.length:Int)+1)).map V.int)) f6;refine aJ ⟨_,ay.of aG,?_⟩;rw[GF mi sN];refine g8 ?_;rw[zqT (by lia)]
  exact q _<|eF.trans<|(s5.trans s6).trans s7
end
section
variable {K:Frag}{CP C CN:Addr}{H:Hp}{Q:VK}
theorem yh{H:Hp}:∀(zs:List Str),IsL H (zs.map PyData.str) (zs.map V.str)
 |[]=>rfl
 |z::r=>⟨.str z,r.map V.str,rfl,rfl,yh r⟩
theorem yi{zs:List Str}(h:∀z∈zs,sg z):SeqAt.shaped (.list<|zs.map PyData.str)=true:=by
 have all:∀(zs:List Str),(∀z∈zs,sg z)->PyData.canLayAll0 (zs.map PyData.str)=true/\PyData.depthAll (zs.map PyData.str)<=1:=by
  intro zs
  induction zs with
  |nil=>intro _;exact⟨rfl,zqZ _⟩
  |cons z r ih=>
   intro h;obtain⟨c,d⟩:=ih fun q hq=>h q (zam _ hq);refine⟨?_,?_⟩
   ·show(PyData.strOk z && PyData.canLayAll0 (r.map PyData.str))=true;rw[wy<|h z zan,c];rfl
   ·show max 0 (PyData.depthAll<|r.map PyData.str)<=1;lia
 obtain⟨c,d⟩:=all zs h;unfold SeqAt.shaped;have e:(PyData.list<|zs.map PyData.str).canLay0=true:=c;have e2:(PyData.list<|zs.map PyData.str).depth<=64:=by show PyData.depthAll (zs.map PyData.str)+1<=64;lia
 rw[e,zqT e2];rfl
theorem Wj{a b:Addr}{zs:List Str}(ha:H a=some (.lst<|zs.map V.str))(hb:H b=some (.lst<|zs.map V.str))(ho:∀z∈zs,sg z)(q:Q (.bl false) H):bX K .NotEq (.ref a) (.ref b) H Q:=by
 refine⟨.list<|zs.map PyData.str,.list<|zs.map PyData.str,⟨a,_,rfl,ha,yh zs⟩,⟨b,_,rfl,hb,yh zs⟩,yi ho,yi ho,?_⟩;rw[SeqAt.eqv_refl _<|SeqAt.canLay_of_shaped<|yi ho];exact q
theorem Wk{QQ:List V->Hp->Addr->Prop}{te:TE}{a:Addr}{ps:List P3}(ha:H a=some (.lst xs))(pv:gF H xs ps)(hl:xs.length<=1000000)(P:Nat->List V->Hp->Prop)(p0:P 0 [] H)
  (step:∀i p ys H2,ps[i]?=some p->aF H H2->P i ys H2->∀Q':VK,(∀y H3,aF H2 H3->P (i+1) (ys++[y]) H3->Q' y H3)->te (some (.int p.1)::some (.int p.2.1)::some (.int p.2.2)::bT σ fv) H2 Q')
  (fin:∀ys H2 p,aF H H2->P xs.length ys H2->H2 p=none->QQ ys H2 p):∃W:Nat->Nat->List V->Hp->Prop,(∃m,W 0 m [] H)/\∀i m ys H2,W i m ys H2->
   ((cp K a).stop i H2/\∀p,H2 p=none->QQ ys H2 p)\/
   ((cp K a).go i H2/\∀x H3,(cp K a).dE i H2 x H3->gQ K (some 3) x H3 fun zs=>jB none (zs.map some++bT σ fv) H3 fun b H5=>
    if b=true then te (zs.map some++bT σ fv) H5 fun y H6=>ys.length<sizeLine/\∃m',m'<m/\W (i+1) m' (ys++[y]) H6 else ∃m',m'<m/\W (i+1) m' ys H5):=by
 refine⟨fun i m ys H2=>m=xs.length - i/\i<=xs.length/\ys.length=i/\aF H H2/\P i ys H2,⟨_,rfl,zqZ _,rfl,aF.refl _,p0⟩,?_⟩;rintro i m ys H2 ⟨rfl,hi,hy,s,p⟩;by_cases aS:i<xs.length
 ·refine .inr ⟨⟨xs,xs[i],ay.of<|s _ _ ha,by simp[aS]⟩,?_⟩
  rintro x H3 ⟨rfl,hx⟩;have dD:=hx xs (ay.of<|s _ _ ha);obtain⟨pt,cP,⟨q,rfl,hq⟩⟩:=r_ pv dD;refine⟨q,_,rfl,aO.of<|s _ _ hq,rfl,?_⟩;exact step i pt ys _ cP s p _ fun y H4 s4 p4=>⟨fE (by lia),xs.length - (i+1),by lia,rfl,aS,by simp[hy],s.trans s4,p4⟩
 ·have ji:i=xs.length:=by lia
  subst ji;exact .inl ⟨⟨xs,ay.of<|s _ _ ha,zqR _⟩,fun q hq=>fin ys _ q s p hq⟩
theorem Wl{x elt:RE}(h:aj Γ x σ H fun v H1=>∃a,v=.ref a/\(∃xs,ay Γ.K H1 a xs)/\∃W:Nat->Nat->List V->Hp->Prop,(∃m,W 0 m [] H1)/\∀i m ys H2,W i m ys H2->
   ((cp Γ.K a).stop i H2/\∀p,H2 p=none->Q (.ref p) (upd H2 p<|.lst ys))\/
   ((cp Γ.K a).go i H2/\∀x H3,(cp Γ.K a).dE i H2 x H3->gQ Γ.K (some 3) x H3 fun zs=>jB none (zs.map some++bT σ fv) H3 fun b H5=>
    if b=true then aj Γ.calm elt (zs.map some++bT σ fv) H5 fun y H6=>ys.length<sizeLine/\∃m',m'<m/\W (i+1) m' (ys++[y]) H6 else ∃m',m'<m/\W (i+1) m' ys H5)):aj Γ (.comp (some 3) fv .list [x] none elt) σ H Q:=m8 (x:=x) _ _ (fun _ _=>Iff.rfl) h
theorem Wm{ps:List P3}{x:Str}(h:N.txt S ps=x.cps.toList)(gx:good x):∀z∈ps.map (cK S),sg z:=by
 intro z hz c hc;obtain⟨q,hq,rfl⟩:=zaX.mp hz;refine gx.2 c ?_;rw[<-h];exact List.mem_flatMap.mpr ⟨q,hq,by simpa[cK] using hc⟩
abbrev Wn:List (Str×Sp):=[("_law_good",nu 32),("_law_pieces",N.fX 32),("_law_least",yd)]
abbrev Wo(CP C CN:Addr):List (Str×Addr×Sp):=[("height",CP,xj CP),("pieces",CP,xl CP C),("read",C,j4 CN C)]
def yj(CP C:Addr):Sp:=fun vs H Q E=>∃(p dp s dx lt lb lf:Addr) (v:V) (t:Tr) (ts:List Str) (x:Str) (m:Nat),vs=[.ref p,.str x,.int (m:Nat)]/\eI CP C H p dp s dx lt lb lf v t ts x/\NT t.ai/\t.ai.length<=m/\x.length<=10000/\∀H',aF H H'->Q (.bl true) H'
theorem GX{p dp lt:Addr}{v:V}{t:Tr}{ts:List Str}{x:Str}{q:P3}(T:cN Γ.K CP)(B:eI CP C H p dp s dx lt lb lf v t ts x)(hm:Γ.ms j=(C,j4 CN C))(e0:σ[i]?=some (some<|.ref p))(hq:q∈t.ai)
  (ha:∀Q:VK,Q (.int q.1) H->aj Γ a σ H Q) (hb:∀Q:VK,Q (.int q.2.1) H->aj Γ b σ H Q) (k:∀H',aF H H'->Q (.str<|cK (ao ts) q) H'):aj Γ (.bo j "read" (.fld (.v i) "stock") [a,b]) σ H Q:=by
 have pc:=B.pa.pc q hq;have p0:=pc.p0;have p1:=pc.p1;have p2:=pc.p2;have l2:=B.l2;have l3:=B.l3;refine o8 C (j4 CN C) hm<|bV<|ag e0 ⟨p,CP,dp,_,_,rfl,B.pa.ob,T.cl,T.dJ,d4,s,dx,_,rfl,B.st.ob,xh,ha _<|hb _ ?_⟩;refine⟨s,dx,lt,lb,lf,ts,_,_,rfl,B.st,.inr ⟨q.1.toNat,q.2.1.toNat,?_,?_,by lia,by lia,by lia,fun u hu=>by have:=xi u hu;lia,fun H3 s3=>k _ s3⟩⟩
 ·rw[show((q.1.toNat:Nat):Int)=q.1 by lia]
 ·rw[show((q.2.1.toNat:Nat):Int)=q.2.1 by lia]
def yk(ps:List P3):Nat->Int
 | 0=> -1
 |i+1=>match ps[i]? with
  |some q=>q.1+q.2.1
  |none=>0
theorem GY:∀{ps:List P3}{i:Nat}{q:P3},NT ps->(∀q∈ps,0<=q.1)->ps[i]?=some q->q.1≠yk ps i
 |ps,0,q,_,h0,hq=>by
  have:=h0 q (zap hq);show q.1≠ -1;lia
 |[],i+1,q,_,_,hq=>by simp at hq
 |[a],i+1,q,_,_,hq=>by simp at hq
 |a::b::r,0+1,q,h,_,hq=>by
  have e:b=q:=by simpa using hq
  subst e;exact fun z=>h.1 z.symm
 |a::b::r,(i+1)+1,q,h,h0,hq=>by
  have:=GY (ps:=b::r) (i:=i+1) (q:=q) h.2 (fun q hq=>h0 q<|zam _ hq) (by simpa using hq)
  exact this
theorem Wq(T:cN K CP):bF (yj CP C) (fun E=>aK K Wn [] [] (Wo CP C CN) (E:=E)) EH EG:=by
 intro vs H Q E h;obtain⟨p,dp,s,dx,lt,lb,lf,v,t,ts,x,m,rfl,B,nt,hm,hx,q⟩:=h;have hh:=Tr.fD B.pa.ok B.l1;have h0:=Tr.h0 t;have l1:=B.l1;have e7:=B.tx;have lx:=len_list x;refine aN<|bh (nu 32) rfl<|aw<|bV<|ag rfl ⟨p,CP,dp,_,_,rfl,B.pa.ob,T.cl,T.fB,fZ,aJ ⟨v,t,rfl,B.pa.nd,B.pa.ok,by lia,fun w H1 s1 hw=>?_⟩⟩
 have B1:=B.same s1;refine aN<|bh (N.fX 32) rfl<|aw<|bV<|ag rfl ⟨p,CP,dp,_,_,rfl,B1.pa.ob,T.cl,T.fB,fZ,aJ ⟨v,t,rfl,B1.pa.nd,by lia,l1,fun l H2 xs s2 fl hl px=>?_⟩⟩
 have B2:=B1.same s2;have nv:=Paired.length px;have nw:¬(HT.aX 3 0 (none:Option Int)=0/\HT.aX 3 3 (some (2:Int))=3):=by decide
 refine bp<|gE<|ba<|ag rfl<|au ⟨rfl,_,rfl,iF ?_ rfl⟩;refine gE<|ba<|sJ<|ag rfl<|au ⟨_,rfl,.inr ⟨_,aO.of<|s2 _ _ hw,nw,fun u fu=>?_⟩⟩;have cu:dF [V.int t.h,V.int t.sz,V.int t.en] none (some (2:Int))=[V.int t.h,V.int t.sz]:=rfl;rw[cu];have s3:=sameNew (o:=.tup [V.int t.h,V.int t.sz]) fu;have hu:upd H2 u (.tup [V.int t.h,V.int t.sz]) u=some (.tup [V.int t.h,V.int t.sz]):=aG;generalize upd H2 u (.tup [V.int t.h,V.int t.sz])=H3 at s3 hu⊢;have B3:=B2.same s3;refine gA<|aw<|gB CP (xj CP) rfl<|ag rfl ⟨p,dp,_,rfl,B3.pa.ob,eZ (by decide+kernel) (by decide+kernel),p,dp,s,v,t,_,rfl,B3.pa,aw<|cy<|ag rfl ⟨bE (by lia),aJ ⟨cR,fun u2 Wr=>?_⟩⟩⟩
 have Ws:t.sz=((x.length:Nat):Int):=by rw[B.pa.sz,e7,lx]
 have s4:=sameNew (o:=.tup [V.int t.h,V.int ((x.length:Nat):Int)]) Wr;rw[Ws] at hu;refine GI (s4 _ _ hu) aG ⟨_,rfl,iF ?_ rfl⟩;have pE:=s3.trans s4;have yl:=pE _ _ hl;have GZ:=px.mono (aU pE);have ny:=pE _ _ (s2 _ _ hw);have eF:=s1.trans (s2.trans pE);generalize upd H3 u2 (.tup [V.int t.h,V.int ((x.length:Nat):Int)])=H4 at pE yl GZ ny eF⊢;refine jZ<|ba<|cy<|ag rfl<|.inl ⟨_,ay.of yl,ag rfl<|N.xR ⟨_,rfl,iF (ck ?_)<|zqF (by rw[nv];lia)⟩⟩
 have B4:=B.same eF;have gt:∀{i:Nat}{q:P3},t.ai[i]?=some q->q∈t.ai:=fun h=>zap h;refine bp<|ba<|gB CP (xl CP C) rfl<|ag rfl ⟨p,dp,_,rfl,B4.pa.ob,eZ (by decide+kernel) (by decide+kernel),p,dp,s,dx,lt,lb,lf,v,t,ts,rfl,B4.pa,B4.st,B4.l1,B4.l2,B4.l3,fun g H5 s5 fg hg=>?_⟩
 have G0:=GZ.mono (aU s5);have ym:=s5 _ _ yl;have B5:=B4.same s5;refine Wl<|ag rfl ⟨l,rfl,⟨_,ay.of ym⟩,Wk ym G0 (by lia) (fun i ys _=>ys=((t.ai.take i).map<|cK<|ao ts).map V.str) (by simp) ?_ ?_⟩
 ·intro i pt ys H6 cP s6 e Q' kk;have hi:i<t.ai.length:=(zab.mp cP).1;refine GX (H:=H6) (q:=pt) T (B5.same s6) rfl rfl (gt cP) (fun Q q=>ag rfl q) (fun Q q=>ag rfl q) fun H7 s7=>kk _ _ s7 ?_;rw[e,zaN hi,(zab.mp cP).2,zaw,zaw];rfl
 ·intro ys H6 g2 s6 e f6;have e':ys=(t.ai.map<|cK<|ao ts).map V.str:=by rw[e,nv,zaE]
  subst e';have s7:=sameNew (o:=.lst ((t.ai.map<|cK<|ao ts).map V.str)) f6;refine Wj (s7 _ _<|s6 _ _ hg) aG (Wm e7 B.go) ⟨_,rfl,iF (ck ?_) rfl⟩;have pF:=s6.trans s7;have yn:=eF.trans (s5.trans pF);have sO:=pF _ _ ym;have G1:=G0.mono (aU pF);have G3:=pF _ _ (s5 _ _ ny);generalize upd H6 g2 (.lst<|(t.ai.map<|cK<|ao ts).map V.str)=H7 at pF yn sO G1 G3⊢;refine aN<|au<|aN<|nh ?_;refine F9<|ag rfl ⟨l,rfl,⟨_,ay.of sO⟩,km (K:=K) (a:=l) (xs:=xs) (fun i σ H8=>aF H7 H8/\∃u7 u8 u9 e8,σ=[some<|.ref p,some<|.str x,some<|.int (m:Nat),some<|.ref w,some<|.ref l,some<|.str ⟨(txt (ao ts)<|t.ai.take i).toArray⟩,some<|.int<|yk t.ai i,u7,u8,u9,e8]) ?_ ?_ ?_ ?_⟩
  ·exact⟨aF.refl _,none,none,none,none,rfl⟩
  ·rintro i σ H8 _ ⟨s8,_⟩;exact ay.of<|s8 _ _ sO
  ·rintro i y σ H8 hi ⟨s8,u7,u8,u9,e8,rfl⟩;obtain⟨pt,cP,⟨qa,rfl,Wt⟩⟩:=r_ G1 hi;have aS:i<t.ai.length:=(zab.mp cP).1;have pc:=B.pa.pc pt (gt cP);have pl:=pc.len;have p1:=pc.p1;refine GA (s8 _ _ Wt) ?_;refine aN<|GX (H:=H8) (q:=pt) T (B.same<|yn.trans s8) rfl rfl (gt cP) (fun Q q=>ag rfl q) (fun Q q=>ag rfl q) fun H9 s9=>?_;refine bp<|gE<|ba<|ag rfl<|au<|N.ltI ⟨_,rfl,iF ?_<|zqF (by lia)⟩
   refine gE<|ba<|ag rfl<|ag rfl<|g8 ⟨_,rfl,iF ?_<|zqF<|GY nt (fun q hq=>(B.pa.pc q hq).p0) cP⟩;refine jZ<|ba<|fV<|ag rfl ⟨rfl,au<|FL<|ag rfl<|mY ⟨_,rfl,iF (ck ?_) ?_⟩⟩
   rotate_left
   ·have:pt.2.2=(((cK (ao ts) pt).cps.toList.count 10:Nat):Int):=by rw[pc.p3];simp[cK]
    rw[this];simp
   have et:txt (ao ts) (t.ai.take<|i+1)=txt (ao ts) (t.ai.take i)++seg (ao ts) pt:=by
    rw[zaN aS,(zab.mp cP).2,lN,N.cg,N.txt_nil,zae]
   have lt':(txt (ao ts)<|t.ai.take<|i+1).length<=x.length:=by
    have e3:txt (ao ts) t.ai=txt (ao ts) (t.ai.take<|i+1)++txt (ao ts) (t.ai.drop<|i+1):=by rw[<-lN,zaA]
    have:=congrArg List.length e3;rw[e7,zqA,<-lx] at this;lia
   rw[et,zqA] at lt';refine aN<|aE<|ag rfl<|ag rfl ⟨bE ?_,?_⟩
   ·rw[len_list,len_list];show(txt (ao ts)<|t.ai.take i).toArray.toList.length+(seg (ao ts) pt).toArray.toList.length<=1000000
    simp only[List.toList_toArray]
    lia
   refine aN<|aE<|ag rfl<|ag rfl<|bz ?_;refine⟨s8.trans s9,some<|.int pt.1,some<|.int pt.2.1,some<|.int pt.2.2,some<|.str<|cK (ao ts) pt,?_⟩;have e4:(⟨(txt (ao ts)<|t.ai.take i).toArray⟩++cK (ao ts) pt:Str)=⟨(txt (ao ts)<|t.ai.take<|i+1).toArray⟩:=gu (by rw[app_list,et];simp[cK])
   have e5:yk t.ai (i+1)=pt.1+pt.2.1:=by show(match t.ai[i]? with|some q=>q.1+q.2.1|none=>0)=_;rw[cP]
   rw[e5,<-e4];rfl
  ·rintro σ H8 ⟨s8,u7,u8,u9,e8,rfl⟩;rw[nv,zaE,e7];refine bU<|VR<|mV<|ag rfl<|ag rfl<|dy ⟨_,rfl,iT ?_ (by simp)⟩
   have eh:t.h=((t.h.toNat:Nat):Int):=by lia
   have Wu:=s8 _ _ G3;refine VS<|mV<|bh yd rfl<|aw<|aV<|ag rfl<|au<|aA Wu rfl<|aJ ⟨t.h.toNat,by rw[<-eh],by lia,fun H9 s9=>?_⟩
   refine cy<|ag rfl<|.inl ⟨_,ay.of<|s9 _ _<|s8 _ _ sO,N.Gx ?_⟩;have:=yc B.pa.ok;rw[zqT (by rw[nv];lia)]
   exact q _<|yn.trans<|s8.trans s9
end
def cQ(H0 H:Hp)(lim:Nat):List V->List Nat->List Nat->Nat->Prop
 |[],l,r,_=>l=r
 |v::vs,l,r,n=>∃(a:Addr) (ys:List V) (qs:List Pt) (m:List Nat) (k:Nat),v=.ref a/\H0 a=none/\H a=some (.lst ys)/\bH H ys qs/\(∀p∈qs,dw p)/\chainOk "" qs=true/\Run l qs m/\m.length<=lim/\qs.length+k<=n/\cQ H0 H lim vs m r k
theorem cQ.mono{H0:Hp}(k:∀a ys,H0 a=none->H a=some (.lst ys)->H' a=some (.lst ys))(t:iO H H'):∀{vs:List V}{l r:List Nat}{n:Nat},cQ H0 H lim vs l r n->cQ H0 H' lim vs l r n
 |[],_,_,_,h=>h
 |v::vs,_,_,_,⟨a,ys,qs,m,j,e,f,ha,pv,ok,ch,R,lm,ln,h⟩=>⟨a,ys,qs,m,j,e,f,k a ys f ha,pv.mono t,ok,ch,R,lm,ln,h.mono k t⟩
theorem cQ.snoc{H0 H:Hp}{lim:Nat}{a:Addr}{ys:List V}{qs:List Pt}{m r:List Nat}(f:H0 a=none)(ha:H a=some (.lst ys))(pv:bH H ys qs)(ok:∀p∈qs,dw p)(ch:chainOk "" qs=true)(R:Run m qs r)(lm:r.length<=lim):
  ∀{vs:List V}{l:List Nat}{n:Nat},cQ H0 H lim vs l m n->cQ H0 H lim (vs++[.ref a]) l r (n+qs.length)
 |[],_,n,h=>by
  have h:_=m:=h;subst h;exact⟨a,ys,qs,r,0,rfl,f,ha,pv,ok,ch,R,lm,by lia,rfl⟩
 |v::vs,_,n,⟨a',dO,Wv,m',j,e,f',Ww,sA,Wx,Wy,R',Wz,ln,h⟩=>⟨a',dO,Wv,m',j+qs.length,e,f',Ww,sA,Wx,Wy,R',Wz,by lia,cQ.snoc f ha pv ok ch R lm h⟩
def PX:List Nat:=[120,121,122,10,119]
def pX:Str:="xyz\nw"
theorem pG:pX.cps.toList=PX:=by decide+kernel
theorem G4:sg pX:=fun c hc=>by
 rw[pG] at hc
 revert c
 decide+kernel
section
variable {K:Frag}{H:Hp}{Q:VK}
theorem yo{w:Str}{p:Pt}(hw:p.word=w)(he:∀Q:VK,Q p.val H->aj Γ e σ H Q)(k:∀t H',aF H H'->iP H' (.ref t) p->Q (.ref t) H'):aj Γ (.tup [.c<|.str w,e]) σ H Q:=by
 subst hw;refine gA<|aw<|au<|aw<|he _<|aJ ⟨cR,fun t f=>k t _ (sameNew f) ⟨t,rfl,aG⟩⟩
theorem G5{w1 w2 w3:Str}{e1 e2 e3:RE}{p1 p2 p3:Pt}(h1:p1.word=w1)(h2:p2.word=w2)(h3:p3.word=w3)(g1:∀(H1:Hp) (Q:VK),Q p1.val H1->aj Γ e1 σ H1 Q)(g2:∀(H1:Hp) (Q:VK),Q p2.val H1->aj Γ e2 σ H1 Q)(g3:∀(H1:Hp) (Q:VK),Q p3.val H1->aj Γ e3 σ H1 Q)
  (k:∀l xs H',aF H H'->H' l=some (.lst xs)->bH H' xs [p1,p2,p3]->Q (.ref l) H'):aj Γ (.lst [.tup [.c<|.str w1,e1],.tup [.c<|.str w2,e2],.tup [.c<|.str w3,e3]]) σ H Q:=by
 refine fS<|aw<|yo h1 (g1 _) fun t1 H1 s1 v1=>aw (yo h2 (g2 _) fun t2 H2 s2 v2=>aw (yo h3 (g3 _) fun t3 H3 s3 v3=>aJ ⟨kc,fun l f=>?_⟩));have s4:=sameNew (o:=.lst [V.ref t1,V.ref t2,V.ref t3]) f;exact k l _ _ (((s1.trans s2).trans s3).trans s4) aG<|.cons (((v1.mono<|aU s2).mono<|aU s3).mono<|aU s4)<|.cons ((v2.mono<|aU s3).mono<|aU s4)<|.cons (v3.mono<|aU s4) .nil
def yp:Sp:=fun vs H Q E=>∃(c a:Int) (x:Str),vs=[.int c,.str x,.int a]/\good x/\x.length<=5000/\
 ∀(w:Addr) (H':Hp) (ws:List V) (r:List Nat),aF H H'->H w=none->H' w=some (.lst ws)->ws.length<=6->cQ H H' (x.length+100) ws x.cps.toList r 66->Q (.ref w) H'
abbrev pH:List (Str×Sp):=[("_law_change_by",xV),("_law_neat",pq)]
def G6:List RS:=[.asg 6 (.lst [(.tup [(.c (.str "keep")),(.bin .Add (.v 4) (.v 5))]),(.tup [(.c (.str "put")),(.ix (.c (.str "xyz\nw")) (.v 5))]),(.tup [(.c (.str "keep")),(.bin .Sub (.blt .len [.v 1]) (.v 4))])]),
  .drop (.bq .append (.v 3) [(.call 1 [.v 6])])]
def into(l:List Nat)(n i:Nat):List Nat:=l.take n++(PX.take i++l.drop n)
theorem sQ(hi:i<=5):(into l n i).length=l.length+i:=by
 unfold into PX
 simp only[zqA,zaj,zas,zau,List.length_nil]
 lia
theorem WA(l:List Nat)(n:Nat):into l n 0=l:=by
 unfold into;rw[List.take_zero,zaO,zaA]
theorem cQ.from{H0:Hp}(k:∀a,H0 a=none->H1 a=none):∀{vs:List V}{l r:List Nat}{n:Nat},cQ H0 H lim vs l r n->cQ H1 H lim vs l r n
 |[],_,_,_,h=>h
 |v::vs,_,_,_,⟨a,ys,qs,m,j,e,f,ha,pv,ok,ch,R,lm,ln,h⟩=>⟨a,ys,qs,m,j,e,k a f,ha,pv,ok,ch,R,lm,ln,h.from k⟩
theorem cQ.le{H0:Hp}{n':Nat}:∀{vs:List V}{l r:List Nat}{n:Nat},cQ H0 H lim vs l r n->n<=n'->cQ H0 H lim vs l r n'
 |[],_,_,_,h,_=>h
 |v::vs,_,_,_,⟨a,ys,qs,m,j,e,f,ha,pv,ok,ch,R,lm,ln,h⟩,q=>⟨a,ys,qs,m,j,e,f,ha,pv,ok,ch,R,lm,by lia,h⟩
theorem WB{x:List Nat}{c:Nat}(hn:n<=x.length)(hi:PX[i]?=some c):Run (into x n i) [.keep ((n:Nat)+(i:Nat):Int),.put ⟨#[c]⟩,.keep ((x.length:Nat) - (n:Nat):Int)] (into x n<|i+1):=by
 have aS:i<PX.length:=(zab.mp hi).1;have h5:i<5:=aS;have e1:into x n i=(x.take n++PX.take i)++(x.drop n++[]):=by unfold into;simp
 have e2:into x n (i+1)=(x.take n++PX.take i)++((⟨#[c]⟩:Str).cps.toList++(x.drop n++[])):=by
  unfold into;rw[zaN aS,(zab.mp hi).2]
  simp
 rw[e1,e2];refine .keep ?_<|.put<|.keep ?_ .nil
 ·rw[zqA,zaj,zaj];have:PX.length=5:=rfl;lia
 ·rw[zas];lia
theorem WC{x:List Nat}{k:Nat}(hn:n<=x.length):Run (into x n k) [.keep ((n:Nat):Int),.cut ⟨(PX.take k).toArray⟩,.keep ((x.length:Nat) - (n:Nat):Int)] x:=by
 have e1:into x n k=x.take n++((⟨(PX.take k).toArray⟩:Str).cps.toList++(x.drop n++[])):=by unfold into;simp
 have e2:x.take n++(x.drop n++[])=x:=by rw[zae,zaA]
 have R:Run (x.take n++((⟨(PX.take k).toArray⟩:Str).cps.toList++(x.drop n++[]))) [.keep ((n:Nat):Int),.cut ⟨(PX.take k).toArray⟩,.keep ((x.length:Nat) - (n:Nat):Int)] (x.take n++(x.drop n++[])):=by
  refine .keep ?_<|.cut<|.keep ?_ .nil
  ·rw[zaj];lia
  ·rw[zas];lia
 rw[e2] at R;rw[e1];exact R
theorem WD{sd:Addr->List (Key×V)->Prop}{c:Nat}(hi:PX[i]?=some c)(q:Q (.str ⟨#[c]⟩) H):ja K sd (.str pX) (.int (i:Nat)) H Q:=by
 refine .inr<|.inr<|.inl ⟨pX,_,c,rfl,rfl,(by decide+kernel),?_,q⟩
 rw[pG];exact fh hi
theorem G7{E:XK}{r:List RS}{w l:Addr}{vs:List V}{l0 m0 r0:List Nat}(h3:σ[3]?=some (some<|.ref w))(h6:σ[6]?=some (some<|.ref l))(j_:∃o,H1 w=some o)(sm:bQ w H1 H2)(hw:H2 w=some (.lst vs))(lv:vs.length<=100)(hl:H2 l=some (.lst xs))(pv:bH H2 xs ps)(R:Run m0 ps r0)
  (so:∀p∈ps,dY p) (lp:ps.length=3) (lm:m0.length<=100000) (lr:r0.length<=100000) (xG:r0.length<=lim) (ch:cQ H1 H2 lim vs l0 m0 n)
  (k:∀b H',bQ w H1 H'->H' w=some (.lst<|vs++[.ref b])->cQ H1 H' lim (vs++[.ref b]) l0 r0 (n+11)->aB (aK K pH [] (E:=E)) r D σ H'):
  aB (aK K pH [] (E:=E)) (.drop (.bq .append (.v 3) [(.call 1 [.v 6])])::r) D σ H2:=by
 refine jj<|fV<|ag h3 ⟨.inl ⟨rfl,_,ay.of hw⟩,bh pq rfl<|aw<|ag h6<|aJ ⟨l,xs,ps,m0,r0,rfl,hl,pv,R,so,by lia,lm,lr,fun b H3 ys qs s3 fb hb WE lV G8 R3 lq=>?_⟩⟩
 have lY:=s3 _ _ hw;have nb:b≠w:=fun z=>by rw[z,hw] at fb;cases fb
 refine⟨vs,lY,fE (by lia),?_⟩
 have b4:bQ w H3 (upd H3 w<|.lst<|vs++[.ref b]):=bQ.upd;have t4:=b4.b_ lY;have f1:H1 b=none:=VV sm fb nb;refine k b _ ((sm.same s3).trans b4) aG ?_;obtain⟨o,ho⟩:=j_;have c3:cQ H1 H3 lim vs l0 m0 n:=ch.mono (fun a ys _ e=>s3 _ _ e) (aU s3);have c4:=cQ.snoc (H0:=H1) f1 hb WE lV G8 R3 xG c3;exact(c4.mono (fun a ys f e=>b4 a _ e fun z=>by rw[z,ho] at f;cases f) t4).le (by lia)
theorem WG:bF (yp) (fun E=>aK K pH [] (E:=E)) EK EJ:=by
 intro vs H Q E h;obtain⟨c,a,x,rfl,gx,lx,q⟩:=h;have ll:=len_list x;have m5:0<=c / 5 % 5/\c / 5 % 5<5:=⟨zaz _ (by decide),zaB _ (by decide)⟩
 refine bp<|ba<|aE<|ag rfl<|au ⟨(by show(0:Int) <5;decide),au<|N.ltI ⟨_,rfl,?_⟩⟩
 by_cases z:c % 5<3
 ·refine iT ?_ (zqT z);refine bU<|fS<|aw<|bh xV rfl<|aw<|ag rfl<|aw<|ag rfl<|aJ ⟨c,x,rfl,gx,by lia,fun b H1 ys qs r s1 fb hb pv ok ch R lr lq=>aJ ⟨gb,fun w fw=>?_⟩⟩
  have s2:=sameNew (o:=.lst [V.ref b]) fw;exact q w _ [.ref b] r (s1.trans s2) (s1.free fw) aG (by show 1<=6;decide) ⟨b,ys,qs,r,0,rfl,fb,s2 _ _ hb,pv.mono<|aU s2,ok,ch,R,lr,by lia,rfl⟩
 ·refine iF (ck ?_) (zqF z);refine aN<|fS<|aJ ⟨zqZ _,fun w fw=>?_⟩;have s1:=sameNew (o:=.lst []) fw;have j_:upd H w (.lst []) w=some (.lst []):=aG;generalize upd H w (.lst [])=H1 at s1 j_⊢;have lp:(0:Int) < (x.length:Int)+1:=by lia
  refine aN<|aE<|ag rfl<|aE<|cy<|ag rfl ⟨bE (by lia),au<|bz ⟨lp,?_⟩⟩
  have n0:=zaz a (show(x.length:Int)+1≠0 by lia)
  have n1:=zaB a lp;obtain⟨n,en⟩:∃n:Nat,a % ((x.length:Int)+1)=(n:Nat):=⟨(a % ((x.length:Int)+1)).toNat,by lia⟩
  have hn:n<=x.cps.toList.length:=by lia
  show aB _ _ _ [some<|.int c,some<|.str x,some<|.int a,some<|.ref w,some<|.int<|a % ((x.length:Int)+1),none,none,none] H1;rw[en];obtain⟨k,ek⟩:∃k:Nat,1+c / 5 % 5=(k:Nat):=⟨(1+c / 5 % 5).toNat,by lia⟩
  have hk:k<=5:=by lia
  have G9:∀{σ:St} (H3:Hp) (Q:VK),σ[1]?=some (some<|.str x)->σ[4]?=some (some<|.int (n:Nat))->Q (.int ((x.cps.toList.length:Nat) - (n:Nat):Int)) H3->aj (aK K pH [] (E:=E)) (.bin .Sub (.blt .len [.v 1])<|.v 4) σ H3 Q:=fun H3 Q a b q=>aE (cy<|ag a ⟨bE (by lia),ag b<|eG (by rw[ll];exact q)⟩)
  refine xT (body:=G6)<|aE<|au<|aE<|aE<|ag rfl<|au ⟨⟨by decide,by decide⟩,au ⟨(by show(0:Int) <5;decide),bz ⟨_,rfl,by lia,by lia,pW (lo:=0) (n:=(1+c / 5 % 5).toNat) (fun i σ H2=>∃(vs:List V) (u5 u6:Option V),σ=[some<|.int c,some<|.str x,some<|.int a,some<|.ref w,some<|.int (n:Nat),u5,u6,none]/\bQ w H1 H2/\H2 w=some (.lst vs)/\vs.length=i/\cQ H1 H2 (x.length+100) vs x.cps.toList (into x.cps.toList n i) (11*i)) ?_ ?_ ?_⟩⟩⟩
  ·exact⟨[],none,none,rfl,fun _ _ e _=>e,j_,rfl,(WA _ _).symm⟩
  ·rintro i σ H2 hi ⟨vs,u5,u6,rfl,b2,dP,lv,ch⟩;have G_:i<5:=by lia
   have Ha:PX[i]?=some PX[i]:=zaD G_;have ei:(0+(i:Int))=((i:Nat):Int):=by lia
   rw[ei];show aB _ G6 _ [some<|.int c,some<|.str x,some<|.int a,some<|.ref w,some<|.int (n:Nat),some<|.int (i:Nat),u6,none] H2;refine aN<|G5 (p1:=.keep ((n:Nat)+(i:Nat):Int)) (p2:=.put ⟨#[PX[i]]⟩) (p3:=.keep ((x.cps.toList.length:Nat) - (n:Nat):Int)) rfl rfl rfl (fun H3 Q q=>aE<|ag rfl<|ag rfl<|bz q) (fun H3 Q q=>aV<|au<|ag rfl<|WD Ha q) (fun H3 Q q=>G9 H3 Q rfl rfl q) fun l xs H3 s3 hl pv=>?_;have so:∀p∈ [Pt.keep ((n:Nat)+(i:Nat):Int),.put ⟨#[PX[i]]⟩,.keep ((x.cps.toList.length:Nat) - (n:Nat):Int)],dY p:=by
    intro p hp
    simp only[zad,zah,or_false] at hp
    rcases hp with rfl|rfl|rfl
    ·trivial
    ·intro d hd;have:d=PX[i]:=by simpa using hd
     rw[this];exact G4 _ (by rw[pG];exact zbc G_)
    ·trivial
   refine G7 (σ:=[some<|.int c,some<|.str x,some<|.int a,some<|.ref w,some<|.int (n:Nat),some<|.int (i:Nat),some<|.ref l,none]) (vs:=vs) rfl rfl ⟨_,j_⟩ (b2.same s3) (s3 _ _ dP) (by lia) hl pv (WB hn Ha) so rfl (by rw[sQ (by lia)];lia) (by rw[sQ (by lia)];lia) (by rw[sQ (by lia)];lia) (ch.mono (fun a ys _ e=>s3 _ _ e)<|aU s3) fun b H4 b4 ny yq=>?_
   exact⟨vs++[.ref b],_,_,rfl,b4,ny,by rw[zqA,lv];rfl,yq.le (by lia)⟩
  ·rintro σ H2 ⟨vs,u5,u6,rfl,b2,dP,lv,ch⟩;rw[ek,zaJ] at lv ch;have fin:∀{vs:List V}{H':Hp}{r:List Nat}{u7 u8 u9:Option V},bQ w H1 H'->H' w=some (.lst vs)->vs.length<=6->cQ H1 H' (x.length+100) vs x.cps.toList r 66->aB (aK K pH [] (E:=E)) [.ret<|.v 3] (Dn Q) [some<|.int c,some<|.str x,some<|.int a,some<|.ref w,some<|.int (n:Nat),u7,u8,u9] H':=fun {vs H' r u7 u8 u9} b hw lv ch=>
    bU (ag rfl<|q w H' vs r (fun d o e=>b d o (s1 _ _ e) fun z=>by rw[z,fw] at e;cases e) fw hw lv<|ch.from fun a f=>s1.free f)
   refine bp<|ba<|aE<|ag rfl<|au ⟨(by show(0:Int) <5;decide),au<|g8 ⟨_,rfl,?_⟩⟩
   by_cases z4:c % 5=4
   ·refine iT ?_ (zqT z4);refine aN<|aE<|au<|aE<|aE<|ag rfl<|au ⟨⟨by decide,by decide⟩,au ⟨(by show(0:Int) <5;decide),bz ?_⟩⟩
    show aB _ _ _ [some<|.int c,some<|.str x,some<|.int a,some<|.ref w,some<|.int (n:Nat),u5,u6,some<|.int<|1+c / 5 % 5] H2;rw[ek];refine aN<|G5 (p1:=.keep ((n:Nat):Int)) (p2:=.cut ⟨(PX.take k).toArray⟩) (p3:=.keep ((x.cps.toList.length:Nat) - (n:Nat):Int)) rfl rfl rfl (fun H3 Q q=>ag rfl q) (fun H3 Q q=>sJ<|au<|ag rfl ⟨_,rfl,(by show pX.length<=sizeLine;decide+kernel),by show Q (.str<|gg pX none<|some ((k:Nat):Int)) H3;rw[GC,pG];exact q⟩) (fun H3 Q q=>G9 H3 Q rfl rfl q) fun l xs H3 s3 hl pv=>?_
    have so:∀p∈ [Pt.keep ((n:Nat):Int),.cut ⟨(PX.take k).toArray⟩,.keep ((x.cps.toList.length:Nat) - (n:Nat):Int)],dY p:=by
     intro p hp
     simp only[zad,zah,or_false] at hp
     rcases hp with rfl|rfl|rfl
     ·trivial
     ·intro d hd;have:d∈PX.take k:=by simpa using hd
      exact G4 _ (by rw[pG];exact List.mem_of_mem_take this)
     ·trivial
    refine G7 (σ:=[some<|.int c,some<|.str x,some<|.int a,some<|.ref w,some<|.int (n:Nat),u5,some<|.ref l,some<|.int (k:Nat)]) (vs:=vs) rfl rfl ⟨_,j_⟩ (b2.same s3) (s3 _ _ dP) (by lia) hl pv (WC hn) so rfl (by rw[sQ hk];lia) (by lia) (by lia) (ch.mono (fun a ys _ e=>s3 _ _ e)<|aU s3) fun b H4 b4 ny yq=>?_
    exact fin b4 ny (by rw[zqA,lv];show k+1<=6;lia)<|yq.le (by lia)
   ·exact iF (ck<|fin b2 dP (by lia)<|ch.le (by lia)) (zqF z4)
end
def hV:List Pt->List Str
 |[]=>[]
 |.put s::r=>s::hV r
 |_::r=>hV r
theorem sR:∀(ps:List Pt),((ps.filter fun p=>p.word==("put":Str)).map Pt.val)=(hV ps).map V.str
 |[]=>rfl
 |.put s::r=>by
  have e:((Pt.put s).word==("put":Str))=true:=xr;rw[zbr,if_pos e,zaG,sR r];rfl
 |.keep n::r=>by
  have e:¬((Pt.keep n).word==("put":Str))=true:=by show ¬(("keep":Str)==("put":Str))=true;rw[xu];exact zaf
  rw[zbr,if_neg e,sR r];rfl
 |.cut s::r=>by
  have e:¬((Pt.cut s).word==("put":Str))=true:=by show ¬(("cut":Str)==("put":Str))=true;rw[xv];exact zaf
  rw[zbr,if_neg e,sR r];rfl
theorem sS:∀(ps:List Pt),((hV ps).map fun t=>t.cps.toList).flatten=dB ps
 |[]=>rfl
 |.put s::r=>by
  show s.cps.toList++((hV r).map fun t=>t.cps.toList).flatten=s.cps.toList++dB r;rw[sS r]
 |.keep n::r=>sS r
 |.cut s::r=>sS r
theorem Hb(ps:List Pt):cat (hV ps)=⟨(dB ps).toArray⟩:=gu (by rw[lh,sS])
section
variable {K:Frag}{CP C CN:Addr}{E:XK}{Q:VK}{H:Hp}
theorem He{QQ:List V->Hp->Addr->Prop}{te:TE}{tc:TT}{a:Addr}(f:Pt->Bool)(g:Pt->V)(ha:H a=some (.lst xs))(pv:bH H xs ps)(hl:xs.length<=1000000)
  (WH:∀(p:Pt) (k:Bool->Hp->Prop),k (f p) H->tc (some (.str p.word)::some p.val::bT σ fv) H k) (elt:∀(p:Pt) (k:VK),k (g p) H->te (some (.str p.word)::some p.val::bT σ fv) H k)
  (fin:∀w,H w=none->QQ ((ps.filter f).map g) H w):∃W:Nat->Nat->List V->Hp->Prop,(∃m,W 0 m [] H)/\∀i m ys H2,W i m ys H2->
   ((cp K a).stop i H2/\∀p,H2 p=none->QQ ys H2 p)\/
   ((cp K a).go i H2/\∀x H3,(cp K a).dE i H2 x H3->gQ K (some 2) x H3 fun zs=>jB (some tc) (zs.map some++bT σ fv) H3 fun b H5=>
    if b=true then te (zs.map some++bT σ fv) H5 fun y H6=>ys.length<sizeLine/\∃m',m'<m/\W (i+1) m' (ys++[y]) H6 else ∃m',m'<m/\W (i+1) m' ys H5):=by
 have lx:=Paired.length pv;refine⟨fun i m ys H2=>m=xs.length - i/\i<=xs.length/\ys=((ps.take i).filter f).map g/\H2=H,⟨_,rfl,zqZ _,rfl,rfl⟩,?_⟩;rintro i m ys H2 ⟨rfl,hi,rfl,rfl⟩;by_cases aS:i<xs.length
 ·refine .inr ⟨⟨xs,xs[i],ay.of ha,by simp[aS]⟩,?_⟩
  rintro x H3 ⟨rfl,hx⟩;have dD:=hx xs (ay.of ha);obtain⟨pt,cP,⟨q,rfl,hq⟩⟩:=pv.get dD;have et:((ps.take<|i+1).filter f).map g=((ps.take i).filter f).map g++([pt].filter f).map g:=by rw[VU cP,zbs,zaw]
  refine⟨q,_,rfl,aO.of hq,rfl,WH pt _ ?_⟩;have ll:(((ps.take i).filter f).map g).length<=i:=by
   rw[zai];have:=zbG f (ps.take i);rw[zaj] at this;lia
  cases hf:f pt with
  |true=>
   have e1:[pt].filter f=[pt]:=by simp[hf]
   rw[e1] at et;exact iT (elt pt _ ⟨fE (by lia),xs.length - (i+1),by lia,rfl,aS,et.symm,rfl⟩) rfl
  |false=>
   have e1:[pt].filter f=[]:=by simp[hf]
   rw[e1] at et;exact iF ⟨xs.length - (i+1),by lia,rfl,aS,by rw[et];simp,rfl⟩ rfl
 ·have ji:i=xs.length:=by lia
  subst ji;refine .inl ⟨⟨xs,ay.of ha,zqR _⟩,fun q hq=>?_⟩;rw[lx,zaE];exact fin q hq
abbrev GL(K:Frag)(CP C CN:Addr)(E:XK):bf:=aK K [("_law_cell_at",wm K),("_law_text_by",nc),("paper_of",xI CP C),("_law_mixed",lT),("_law_pieces",N.fX 32),("_law_changes",yp),("_law_done",wC),("_law_lines",ye CP C),("_law_stands",yj CP C)] [("Paper",.ref CP)] [] [("many",C,wM C),("changed",CP,xD CP C),("read",C,j4 CN C),("text",CP,xk CP C)] (E:=E)
def sT:List RS:=[.asg 13 (.bo 0 "many" (.fld (.v 9) "stock") []),
   .asg 9 (.bo 1 "changed" (.v 9) [.v 12]),
   .asg 10 (.call 6 [.v 10,.v 12]),
   .asg 11 (.bin .Add (.v 11)<|.bin .Mult (.c<|.int 2)<|.blt .len [(.comp (some 2) [] .list [.v 12] (some<|.cmp .NotEq (.v 0)<|.c<|.str "keep")<|.v 0)]),
   .asg 14 (.bq .join (.c<|.str "") [(.comp (some 2) [] .list [.v 12] (some<|.cmp .Eq (.v 0)<|.c<|.str "put")<|.v 1)]),
   .ite (.or [(.cmp .NotEq (.bo 0 "many" (.fld (.v 9) "stock") []) (.bin .Add (.v 13) (.blt .len [.v 14]))),(.cmp .NotEq (.bo 2 "read" (.fld (.v 9) "stock") [.v 13,(.blt .len [.v 14])]) (.v 14))]) [.ret (.c (.bl false))] []]
theorem WI{lt:Addr}{n:Int}:(c6 lt lb lf n).lookup ("many":Str)=none:=mW (by decide+kernel) (by decide+kernel) (by decide+kernel) (by decide+kernel)
theorem Hf{p dp lt:Addr}{v:V}{t:Tr}{ts:List Str}{x:Str}(T:cN K CP)(B:eI CP C H p dp s dx lt lb lf v t ts x)(e0:σ[i]?=some (some<|.ref p))(k:Q (.int (ao ts).length) H):aj (GL K CP C CN E) (.bo 0 "many" (.fld (.v i) "stock") []) σ H Q:=
 gB C (wM C) rfl (bV<|ag e0 ⟨p,CP,dp,_,_,rfl,B.pa.ob,T.cl,T.dJ,d4,s,dx,_,rfl,B.st.ob,WI,s,dx,lt,lb,lf,ts,rfl,B.st,k⟩)
theorem WJ{y:Int}(q:Q (.int<|2*y) H):i8 K .Mult (.int 2) (.int y) H Q:=⟨.inl ⟨by decide,by decide⟩,q⟩
theorem one{p dp lt a:Addr}{v:V}{t:Tr}{ts:List Str}{x:Str}{cnt:Nat}{qs:List Pt}{m:List Nat}{u0 u1 u2 u3 u4 u5 u6 u7 u8 dQ dR u15:Option V}(T:cN K CP)(B:eI CP C H p dp s dx lt lb lf v t ts x)(nt:NT t.ai)(hc:t.ai.length<=cnt)(ha:H a=some (.lst ys))(ka:Kp lt lb lf a)(pv:bH H ys qs)(ok:∀p∈qs,dw p)(ch:chainOk "" qs=true)(R:Run x.cps.toList qs m)
  (lm:m.length<=10000) (l1:t.ai.length+qs.length<=1000) (l2:ts.length+qs.length<=10000) (l3:(ao ts).length+m.length<=400000)
  (hN:∀(p' gI:Addr) (v':V) (t':Tr) (us:List Str) (H':Hp) (lZ l7:Option V),dz s lt lb lf H H'->eI CP C H' p' gI s dx lt lb lf v' t' (ts++us) ⟨m.toArray⟩->NT t'.ai->t'.ai.length<=cnt+2*nk qs->t'.ai.length<=t.ai.length+qs.length->us.length<=qs.length->(ao us).length<=m.length->
   D.nx [u0,u1,u2,u3,u4,u5,u6,u7,u8,some (.ref p'),some (.str ⟨m.toArray⟩),some (.int ((cnt+2*nk qs:Nat):Int)),some (.ref a),lZ,l7,u15] H'):
  aB (GL K CP C CN E) sT D [u0,u1,u2,u3,u4,u5,u6,u7,u8,some<|.ref p,some<|.str x,some<|.int (cnt:Nat),some<|.ref a,dQ,dR,u15] H:=by
 have ll:=B.l4;have lq:=Paired.length pv;refine aN<|Hf T B rfl ?_;refine aN<|fU CP (xD CP C) rfl<|ag rfl ⟨p,dp,_,rfl,B.pa.ob,eZ (by decide+kernel) (by decide+kernel),ag rfl ⟨p,dp,s,dx,lt,lb,lf,a,v,t,ts,ys,qs,m,rfl,B.pa,B.st,l1,l2,by lia,ll,ha,ka.k1,ka.k2,ka.k3,pv,ok,ch,by rw[B.tx];exact R,nt,fun p' gI v' t' us H1 b1 fp S1 P1 e1 n1 lu ls WK n2 eU=>?_⟩⟩
 have dZ:H1 a=some (.lst ys):=lX B.st b1 ka ha;have yr:bH H1 ys qs:=pv.mono (b1.b_ B.st);have WL:(⟨m.toArray⟩:Str).length=m.length:=by simp[Str.length]
 have gr:good ⟨m.toArray⟩:=⟨by rw[WL];lia,fun d hd=>R.good B.go.2 (fun q hq=>Gk<|ok q hq) d (by simpa using hd)⟩
 have Hg:(ts++us).length=ts.length+us.length:=zqA;have sU:(ao<|ts++us).length=(ao ts).length+(ao us).length:=by rw[eY,zqA]
 have B1:eI CP C H1 p' gI s dx lt lb lf v' t' (ts++us) ⟨m.toArray⟩:=⟨P1,S1,by lia,by lia,by lia,by rw[e1],gr⟩
 refine aN<|bh wC rfl<|aw<|ag rfl<|aw<|ag rfl<|aJ ⟨x,a,ys,qs,m,rfl,B.go,dZ,yr,fun q hq=>E3<|ok q hq,R,by lia,?_⟩
 refine aN<|aE<|ag rfl<|aE<|au<|cy ?_;refine⟨_,rfl,a,rfl,⟨_,ay.of dZ⟩,He (fun p=>p.word !=("keep":Str)) (fun p=>.str p.word) dZ yr (by lia) (fun p k q=>ba<|ag rfl<|au<|jW ⟨_,rfl,q⟩) (fun p k q=>ag rfl q) fun w fw=>?_⟩
 have s2:=sameNew (o:=.lst ((qs.filter fun p=>p.word !=("keep":Str)).map fun p=>V.str p.word)) fw;refine .inl ⟨_,ay.of aG,WJ<|bz ?_⟩;have en:(cnt:Int)+2* ((((qs.filter fun p=>p.word !=("keep":Str)).map fun p=>V.str p.word).length:Nat):Int)=((cnt+2*nk qs:Nat):Int):=by
  rw[zai];show(cnt:Int)+2* ((nk qs:Nat):Int)=_;lia
 rw[en];have mU:=s2 _ _ dZ;have Hh:=yr.mono (aU s2);generalize upd H1 w (.lst<|(qs.filter fun p=>p.word !=("keep":Str)).map fun p=>V.str p.word)=H2 at s2 mU Hh⊢;refine aN<|fV<|au ⟨rfl,?_⟩;refine⟨_,rfl,a,rfl,⟨_,ay.of mU⟩,He (fun p=>p.word==("put":Str)) Pt.val mU Hh (by lia) (fun p k q=>ba<|ag rfl<|au<|dy ⟨_,rfl,q⟩) (fun p k q=>ag rfl q) fun w2 iU=>?_⟩
 rw[sR];have s3:=sameNew (o:=.lst ((hV qs).map V.str)) iU;have lp:(dB qs).length<=m.length:=by rw[<-eU];exact ls
 have WM:(cat<|hV qs).length=(dB qs).length:=by rw[Hb];simp[Str.length]
 refine⟨hV qs,ay.of aG,joinOk_of (by rw[<-wu,WM];lia),?_⟩
 have ej:Txt.join "" (hV qs)=⟨(dB qs).toArray⟩:=Hb qs;rw[ej];generalize upd H2 w2 (.lst<|(hV qs).map V.str)=H3 at s3⊢;have hU:=s2.trans s3;have B3:=B1.same hU;have pI:(⟨(dB qs).toArray⟩:Str).length=(dB qs).length:=by simp[Str.length]
 refine bp<|gE<|ba<|Hf T B3 rfl<|aE<|ag rfl<|cy<|ag rfl ⟨bE (by rw[pI];lia),bz<|mY ⟨_,rfl,iF ?_ ?_⟩⟩
 rotate_left
 ·rw[sU,eU,pI];simp
 refine jZ<|ba<|o8 C (j4 CN C) rfl<|bV<|ag rfl ⟨p',CP,gI,_,_,rfl,B3.pa.ob,T.cl,T.dJ,d4,s,dx,_,rfl,B3.st.ob,xh,ag rfl<|cy<|ag rfl ⟨bE (by rw[pI];lia),s,dx,lt,lb,lf,ts++us,_,_,rfl,B3.st,.inr ⟨(ao ts).length,(⟨(dB qs).toArray⟩:Str).length,rfl,rfl,by rw[pI,sU,eU];exact zqR _,by lia,by lia,fun z hz=>by have:=xi z hz;lia,fun H4 s4=>?_⟩⟩⟩
 have er:((ao<|ts++us).drop (ao ts).length).take (⟨(dB qs).toArray⟩:Str).length=dB qs:=by
  rw[eY,zaT,eU,pI,zaE]
 rw[er];refine ag rfl<|Fs ⟨_,rfl,iF (ck ?_) rfl⟩;exact hN p' gI v' t' us H4 _ _ (b1.trans<|iW<|hU.trans s4) (B3.same s4) WK (by lia) n1 lu ls
end
structure Pg where
 p:Addr
 dp:Addr
 v:V
 t:Tr
 x:Str
 m:Nat
structure f9 (CP:Addr) (H:Hp) (s:Addr) (S:List Nat) (b1 b2:Nat) (g:Pg):Prop where
 pa:bS CP H g.p g.dp s g.v g.t S
 tx:N.txt S g.t.ai=g.x.cps.toList
 go:good g.x
 nt:NT g.t.ai
 le:g.t.ai.length<=g.m
 c1:g.t.ai.length<=b1
 c2:g.x.length<=b2
structure l8 (H0:Hp) (s lt lb lf tx pp mo w:Addr):Prop where
 k1:Kp lt lb lf tx
 k2:Kp lt lb lf pp
 k3:Kp lt lb lf mo
 k4:Kp lt lb lf w
 n1:tx≠pp
 n2:tx≠mo
 n3:pp≠mo
 n4:w≠tx
 n5:w≠pp
 n6:w≠mo
 f1:H0 s=none
 f2:H0 lt=none
 f3:H0 lb=none
 f4:H0 lf=none
 f5:H0 tx=none
 f6:H0 pp=none
 f7:H0 mo=none
structure dS (CP C:Addr) (H0 H:Hp) (s dx lt lb lf tx pp mo w:Addr) (ws:List V) (ts:List Str) (gs:List Pg) (b1 b2:Nat):Prop where
 st:bB C H s dx lt lb lf ts
 pk:∀g∈gs,f9 CP H s (ao ts) b1 b2 g
 ht:H tx=some (.lst<|gs.map fun g=>V.str g.x)
 hp:H pp=some (.lst<|gs.map fun g=>V.ref g.p)
 hm:H mo=some (.lst<|gs.map fun g=>V.int (g.m:Nat))
 hw:H w=some (.lst ws)
 sm:aF H0 H
section
variable {K:Frag}{CP C CN:Addr}{E:XK}{Q:VK}{H0 H H':Hp}{s dx lt lb lf tx pp mo w:Addr}{ws:List V}{ts us:List Str}{gs:List Pg}{b1 b2:Nat}
theorem f9.but{g:Pg}(P:f9 CP H s (ao ts) b1 b2 g)(st:bB C H s dx lt lb lf ts)(b:dz s lt lb lf H H'):f9 CP H' s (ao<|ts++us) b1 b2 g:=by
 rw[eY];exact⟨(P.pa.but st b).grow _,by rw[rY P.pa.pc];exact P.tx,P.go,P.nt,P.le,P.c1,P.c2⟩
theorem f9.WN{g:Pg}{d1 d2:Nat}(P:f9 CP H s S b1 b2 g)(h1:b1<=d1)(h2:b2<=d2):f9 CP H s S d1 d2 g:=⟨P.pa,P.tx,P.go,P.nt,P.le,zar P.c1 h1,zar P.c2 h2⟩
theorem dS.but(A:l8 H0 s lt lb lf tx pp mo w)(S:dS CP C H0 H s dx lt lb lf tx pp mo w ws ts gs b1 b2)(b:dz s lt lb lf H H')(st:bB C H' s dx lt lb lf (ts++us)):dS CP C H0 H' s dx lt lb lf tx pp mo w ws (ts++us) gs b1 b2:=
 ⟨st,fun g hg=>(S.pk g hg).but S.st b,lX S.st b A.k1 S.ht,lX S.st b A.k2 S.hp,lX S.st b A.k3 S.hm,lX S.st b A.k4 S.hw,fun c o e=>b c o (S.sm _ _ e) (bK e A.f1) (bK e A.f2) (bK e A.f3)<|bK e A.f4⟩
theorem dS.same(A:l8 H0 s lt lb lf tx pp mo w)(S:dS CP C H0 H s dx lt lb lf tx pp mo w ws ts gs b1 b2)(e:aF H H'):dS CP C H0 H' s dx lt lb lf tx pp mo w ws ts gs b1 b2:=by
 have:=S.but (us:=[]) A (iW e) (by rw[zae];exact S.st.same e)
 rw[zae] at this;exact this
theorem dS.bears{g:Pg}(S:dS CP C H0 H s dx lt lb lf tx pp mo w ws ts gs b1 b2)(hg:g∈gs)(h1:b1<=1000)(h2:ts.length<=10000)(h3:(ao ts).length<=500000):eI CP C H g.p g.dp s dx lt lb lf g.v g.t ts g.x:=
 ⟨(S.pk g hg).pa,S.st,zar (S.pk g hg).c1 h1,h2,h3,(S.pk g hg).tx,(S.pk g hg).go⟩
theorem yt{a:Addr}{zs:List V}(st:bB C H s dx lt lb lf ts)(k:Kp lt lb lf a)(ha:H a=some (.lst xs)):bB C (upd H a<|.lst zs) s dx lt lb lf ts:=by
 have ns:s≠a:=fun z=>by rw[<-z,st.ob] at ha;cases ha
 exact {st with ob:=df ns st.ob,tx:=df (Ne.symm k.k1) st.tx,bg:=df (Ne.symm k.k2) st.bg,fd:=df (Ne.symm k.k3) st.fd}
theorem yu{a:Addr}{zs:List V}{g:Pg}(P:f9 CP H s S b1 b2 g)(ha:H a=some (.lst xs)):f9 CP (upd H a<|.lst zs) s S b1 b2 g:=by
 have np:g.p≠a:=fun z=>by have:=P.pa.ob;rw[z,ha] at this;cases this
 have t:iO H (upd H a<|.lst zs):=(show bQ a H (upd H a<|.lst zs) from bQ.upd).b_ ha
 exact⟨⟨df np P.pa.ob,P.pa.nd.mono t,P.pa.ok,P.pa.pc⟩,P.tx,P.go,P.nt,P.le,P.c1,P.c2⟩
theorem dS.push{g:Pg}{d1 d2:Nat}(A:l8 H0 s lt lb lf tx pp mo w)(S:dS CP C H0 H s dx lt lb lf tx pp mo w ws ts gs b1 b2)(P:f9 CP H s (ao ts) d1 d2 g)(h1:b1<=d1)(h2:b2<=d2):
  dS CP C H0 (upd (upd (upd H pp<|.lst<|gs.map (fun g=>V.ref g.p)++[V.ref g.p]) tx<|.lst<|gs.map (fun g=>V.str g.x)++[V.str g.x]) mo<|.lst<|gs.map (fun g=>V.int (g.m:Nat))++[V.int (g.m:Nat)]) s dx lt lb lf tx pp mo w ws ts (gs++[g]) d1 d2:=by
 have e1:upd H pp (.lst<|gs.map (fun g=>V.ref g.p)++[V.ref g.p]) tx=some (.lst<|gs.map fun g=>V.str g.x):=df A.n1 S.ht;have e2:upd (upd H pp<|.lst<|gs.map (fun g=>V.ref g.p)++[V.ref g.p]) tx (.lst<|gs.map (fun g=>V.str g.x)++[V.str g.x]) mo=some (.lst<|gs.map fun g=>V.int (g.m:Nat)):=df (Ne.symm A.n2) (df (Ne.symm A.n3) S.hm);have up:∀{g':Pg},f9 CP H s (ao ts) d1 d2 g'->f9 CP (upd (upd (upd H pp<|.lst<|gs.map (fun g=>V.ref g.p)++[V.ref g.p]) tx<|.lst<|gs.map (fun g=>V.str g.x)++[V.str g.x]) mo<|.lst<|gs.map (fun g=>V.int (g.m:Nat))++[V.int (g.m:Nat)]) s (ao ts) d1 d2 g':=fun P=>yu (yu (yu P S.hp) e1) e2;refine⟨yt (yt (yt S.st A.k2 S.hp) A.k1 e1) A.k3 e2,fun g' hg=>?_,?_,?_,?_,?_,fun c o e=>?_⟩
 ·rcases zao.mp hg with hg|hg
  ·exact up ((S.pk g' hg).WN h1 h2)
  ·rw[zav.mp hg];exact up P
 ·rw[aI A.n2,aG,zaw];rfl
 ·rw[aI A.n3,aI<|Ne.symm A.n1,aG,zaw];rfl
 ·rw[aG,zaw];rfl
 ·exact df A.n6 (df A.n4<|df A.n5 S.hw)
 ·exact df (bK e A.f7) (df (bK e A.f5)<|df (bK e A.f6)<|S.sm _ _ e)
theorem pJ{Q':VK}{a:Addr}{ns:List Int}(ha:ay K H0 a (ns.map V.int))(i:Int)(s1:aF H0 H1)(e0:σ[0]?=some (some<|.ref a))(hi:0<=i)(q:Q' (.int<|cell ns i.toNat) H1):aj (GL K CP C CN E) (.call 0 [.v 0,(.c<|.int i)]) σ H1 Q':=
 bh (wm K) rfl (aw<|ag e0<|aw<|au<|aJ ⟨a,ns,i,rfl,s1.seq ha,hi,q⟩)
def yv(K:Frag)(CP C:Addr)(H0 Hc:Hp)(s dx lt lb lf tx pp mo w wl:Addr)(ws wv:List V)(ts:List Str)(gs:List Pg)(b1 b2 c1 c2 lim:Nat)(rr:List Nat)(u0 u1 u2 u3 u4 u5 u6 u7 u8:Option V)(j:Nat)(σ:St)(H2:Hp):Prop:=
 ∃(g:Pg) (us:List Str) (k:Nat) (eJ dQ dR:Option V),σ=[u0,u1,u2,u3,u4,u5,u6,u7,u8,some<|.ref g.p,some<|.str g.x,some<|.int (g.m:Nat),eJ,dQ,dR,none]/\dS CP C H0 H2 s dx lt lb lf tx pp mo w ws (ts++us) gs b1 b2/\eI CP C H2 g.p g.dp s dx lt lb lf g.v g.t (ts++us) g.x/\NT g.t.ai/\g.t.ai.length<=g.m/\g.x.length<=lim/\
  H2 wl=some (.lst wv)/\cQ Hc H2 lim (wv.drop j) g.x.cps.toList rr k/\g.t.ai.length+k<=b1+66/\(ts++us).length+k<=c1+66/\(ao<|ts++us).length<=c2+lim*j
theorem WO{Hc:Hp}{wl:Addr}{wv:List V}{rr:List Nat}{c1 c2:Nat}{y:V}{u0 u1 u2 u3 u4 u5 u6 u7 u8:Option V}(T:cN K CP)(A:l8 H0 s lt lb lf tx pp mo w)(yw:bB C Hc s dx lt lb lf ts)(fw:Hc wl=none)(lw:wv.length<=6)
  (h1:b1+66<=1000) (h2:lim<=5000) (h4:c1+66<=10000) (h6:c2<=200000) (hy:wv[j]?=some y) (I:yv K CP C H0 Hc s dx lt lb lf tx pp mo w wl ws wv ts gs b1 b2 c1 c2 lim rr u0 u1 u2 u3 u4 u5 u6 u7 u8 j σ H)
  (hD:∀σ' H',yv K CP C H0 Hc s dx lt lb lf tx pp mo w wl ws wv ts gs b1 b2 c1 c2 lim rr u0 u1 u2 u3 u4 u5 u6 u7 u8 (j+1) σ' H'->D.nx σ' H'):aB (GL K CP C CN E) sT D (σ.set 12<|some y) H:=by
 obtain⟨g,us,k,eJ,dQ,dR,rfl,S,B,nt,le,lx,jz,ch,d1,d2,d3⟩:=I;have aS:j<wv.length:=(zab.mp hy).1;have ed:wv.drop j=y::wv.drop (j+1):=by rw[zaY aS,(zab.mp hy).2]
 rw[ed] at ch;obtain⟨a,ys,qs,m,k',rfl,fa,ha,pv,ok,WQ,R,lm,ln,ch⟩:=ch;have ka:Kp lt lb lf a:=Kp.of yw fa;have kl:Kp lt lb lf wl:=Kp.of yw fw;have lj:lim*j<=5000*6:=Nat.mul_le_mul h2 (by lia)
 refine one (u15:=none) T B nt le ha ka pv ok WQ R (by lia) (by lia) (by lia) (by lia) fun p' gI v' t' nz H' lZ l7 b B' WR n1 n2 lu ls=>hD _ _ ?_
 have e2:lim* (j+1)=lim*j+lim:=Nat.mul_succ _ _;have Hg:((ts++us)++nz).length=(ts++us).length+nz.length:=zqA;have sU:(ao<|(ts++us)++nz).length=(ao<|ts++us).length+(ao nz).length:=by rw[eY,zqA]
 have l':(⟨m.toArray⟩:Str).length=m.length:=by simp[Str.length]
 have S':=S.but (us:=nz) A b B'.st;rw[zat] at S' B' Hg sU;refine⟨⟨p',gI,v',t',⟨m.toArray⟩,g.m+2*nk qs⟩,us++nz,k',some<|.ref a,lZ,l7,rfl,S',B',WR,n1,by show(⟨m.toArray⟩:Str).length<=lim;lia,lX S.st b kl jz,?_,by show t'.ai.length+k'<=_;lia,by lia,by lia⟩
 refine ch.mono (fun a' dO f' e'=>lX S.st b (Kp.of yw f') e')<|b.b_ S.st
def Hi:List RS:=[.asg 7 (.call 3 [.v 6,.v 5]),
  .asg 8 (.bin .Mod (.v 7)<|.blt .len [.v 3]),
  .ite (.cmp .Eq (.bin .Mod (.call 0 [.v 0,(.c<|.int 2)])<|.c<|.int 2)<|.c<|.int 1) [.asg 8<|.bin .Sub (.blt .len [.v 3])<|.c<|.int 1] [],
  .asg 9 (.ix (.v 3)<|.v 8),
  .asg 10 (.ix (.v 2)<|.v 8),
  .asg 11 (.blt .len [(.call 4 [(.fld (.v 9) "node")])]),
  .fN 12 .list [(.call 5 [(.bin .FloorDiv (.v 7)<|.c<|.int 7),.v 10,(.bin .FloorDiv (.v 7)<|.c<|.int 11)])] sT,
  .ite (.or [(.not<|.xt rp [.v 9,.g 0]),(.xt rB [(.fld (.v 9) "stock"),(.fld (.ix (.v 3)<|.c<|.int 0) "stock")])]) [.ret<|.c<|.bl false] [],
  .drop (.bq .append (.v 3) [.v 9]),
  .drop (.bq .append (.v 2) [.v 10]),
  .drop (.bq .append (.v 4) [.v 11])]
theorem WS{QT:Bool->Hp->Prop}(h:aj Γ a σ H fun x H1=>aj Γ b σ H1 fun y H2=>kZ Γ.K x y H2 fun v H3=>gh Γ.K v H3 fun b=>QT b H3):bc Γ (.xt rB [a,b]) σ H QT:=h
theorem WT{a:Addr}{ns:List Int}{c:Int}{u1 u7 u8 u9 e8 gK eJ dQ dR:Option V}(T:cN K CP)(O:oK K CP)(OC:jO K C)(A:l8 H0 s lt lb lf tx pp mo w)(ha:ay K H0 a (ns.map V.int))(hi:i<14)(S:dS CP C H0 H s dx lt lb lf tx pp mo w ws ts gs (1+66*i) (200+100*i))(lg:gs.length=i+1)(c1:ts.length<=1+66*i)(c2:(ao ts).length<=200+11000*i)
  (hN:∀(g:Pg) (us:List Str) (H':Hp) (y7 y8 y9 Hj Hk yx lZ l7:Option V),dS CP C H0 H' s dx lt lb lf tx pp mo w ws (ts++us) (gs++[g]) (1+66* (i+1)) (200+100* (i+1))->(ts++us).length<=1+66* (i+1)->(ao (ts++us)).length<=200+11000* (i+1)->
   D.nx [some (.ref a),u1,some (.ref tx),some (.ref pp),some (.ref mo),some (.int (i:Nat)),some (.int c),y7,y8,y9,Hj,Hk,yx,lZ,l7,none] H'):
  aB (GL K CP C CN E) Hi D [some<|.ref a,u1,some<|.ref tx,some<|.ref pp,some<|.ref mo,some<|.int (i:Nat),some<|.int c,u7,u8,u9,e8,gK,eJ,dQ,dR,none] H:=by
 have Hl:(gs.map fun g=>V.ref g.p).length=i+1:=by rw[zai,lg]
 refine aN<|bh lT rfl<|aw<|ag rfl<|aw<|ag rfl<|aJ ⟨_,_,rfl,fun n hn=>?_⟩;refine aN<|aE<|ag rfl<|cy<|ag rfl<|.inl ⟨_,ay.of S.hp,?_⟩;have p0:(0:Int) < (((gs.map fun g=>V.ref g.p).length:Nat):Int):=by rw[Hl];lia
 refine⟨p0,?_⟩;have m0:=zaz n (show(((gs.map fun g=>V.ref g.p).length:Nat):Int)≠0 by lia)
 have m1:=zaB n p0;obtain⟨k0,ek⟩:∃k0:Nat,n % (((gs.map fun g=>V.ref g.p).length:Nat):Int)=(k0:Nat):=⟨(n % (((gs.map fun g=>V.ref g.p).length:Nat):Int)).toNat,by lia⟩
 have WU:k0<gs.length:=by lia
 show aB _ _ _ [some<|.ref a,u1,some<|.ref tx,some<|.ref pp,some<|.ref mo,some<|.int (i:Nat),some<|.int c,some<|.int n,some<|.int<|n % (((gs.map fun g=>V.ref g.p).length:Nat):Int),u9,e8,gK,eJ,dQ,dR,none] H;rw[ek];have go:∀{k:Nat},k<gs.length->aB (GL K CP C CN E) (Hi.drop 3) D [some<|.ref a,u1,some<|.ref tx,some<|.ref pp,some<|.ref mo,some<|.int (i:Nat),some<|.int c,some<|.int n,some<|.int (k:Nat),u9,e8,gK,eJ,dQ,dR,none] H:=by
  intro k hk;obtain⟨g,eg⟩:∃g,gs[k]?=some g:=⟨_,zaD hk⟩;have hg:g∈gs:=zap eg;have P:=S.pk g hg;have x2:=P.c2;have x1:=P.c1;have hh:=Tr.fD P.pa.ok (by lia:g.t.ai.length<=1000)
  refine aN<|aV<|ag rfl<|ag rfl<|fF S.hp (fh (by rw[zag,eg];rfl)) ?_
  refine aN<|aV<|ag rfl<|ag rfl<|fF S.ht (fh (by rw[zag,eg];rfl)) ?_
  refine aN<|cy<|bh (N.fX 32) rfl<|aw<|bV<|ag rfl ⟨g.p,CP,g.dp,_,_,rfl,P.pa.ob,T.cl,T.fB,fZ,aJ ⟨g.v,g.t,rfl,P.pa.nd,by lia,by lia,fun l H1 xs s1 fl hl px=>.inl ⟨_,ay.of hl,?_⟩⟩⟩
  have nv:=Paired.length px;rw[nv];have S1:=S.same A s1;have B1:=S1.bears hg (by lia) (by lia) (by lia)
  have Y9:∀{m:Int},m≠0->m≠0:=fun h=>h;refine xo (body:=sT)<|bh yp rfl<|aw<|aE<|ag rfl<|au ⟨⟨by decide,by decide⟩,aw<|ag rfl<|aw<|aE<|ag rfl<|au ⟨⟨by decide,by decide⟩,aJ ⟨_,_,g.x,rfl,P.go,by lia,fun wl H2 wv rr s2 fw jz lw ch=>⟨wl,rfl,⟨_,ay.of jz⟩,?_⟩⟩⟩⟩
  have S2:=S1.same A s2;have B2:=B1.same s2;have WV:g.x.length+100<=5000:=by lia
  refine km (K:=K) (a:=wl) (xs:=wv) (yv K CP C H0 H1 s dx lt lb lf tx pp mo w wl ws wv ts gs (1+66*i) (200+100*i) (1+66*i) (200+11000*i) (g.x.length+100) rr (some<|.ref a) u1 (some<|.ref tx) (some<|.ref pp) (some<|.ref mo) (some<|.int (i:Nat)) (some<|.int c) (some<|.int n)<|some<|.int (k:Nat)) ?_ ?_ ?_ ?_
  ·exact⟨⟨g.p,g.dp,g.v,g.t,g.x,g.t.ai.length⟩,[],66,eJ,dQ,dR,rfl,by rw[zae];exact S2,by rw[zae];exact B2,P.nt,zqR _,Nat.le_add_right _ _,jz,ch,by show g.t.ai.length+66<=_;lia,by rw[zae];lia,by rw[zae];lia⟩
  ·rintro j σ H3 _ ⟨_,_,_,_,_,_,_,_,_,_,_,_,lY,_⟩;exact ay.of lY
  ·intro j y σ H3 hj I;exact WO T A S1.st fw lw (by lia) WV (by lia) (by lia) hj I fun σ' H' I'=>I'
  ·rintro σ H3 ⟨g',us,k',yx,lZ,l7,rfl,S3,B3,WW,WX,Y_,lY,G8,d1,d2,d3⟩;have lj:(g.x.length+100)*wv.length<= (200+100*i+100)*6:=Nat.mul_le_mul (by lia) lw
   obtain⟨g0,e0⟩:∃g0,gs[0]?=some g0:=⟨_,zaD (by lia)⟩
   have P0:=S3.pk g0 (zap e0);refine bp<|gE<|fW<|VP<|aw<|ag rfl<|aw<|SH<|aJ ⟨g'.p,CP,g'.dp,_,rfl,B3.pa.ob,O,fG<|iF ?_ rfl⟩;refine jZ<|WS<|bV<|ag rfl ⟨g'.p,CP,g'.dp,_,_,rfl,B3.pa.ob,T.cl,T.dJ,d4,bV<|aV<|ag rfl<|au<|fF S3.hp (fh (j:=0) (by rw[zag,e0];rfl)) ⟨g0.p,CP,g0.dp,_,_,rfl,P0.pa.ob,T.cl,T.dJ,d4,s,C,dx,_,rfl,rfl,S3.st.ob,OC,fG<|iF (ck ?_) rfl⟩⟩
   have P':f9 CP H3 s (ao<|ts++us) (1+66* (i+1)) (200+100* (i+1)) g':=⟨B3.pa,B3.tx,B3.go,WW,WX,by lia,by lia⟩
   have S4:=S3.push A P' (by lia) (by lia)
   refine jj<|fV<|ag rfl ⟨.inl ⟨rfl,_,ay.of S3.hp⟩,ag rfl ⟨_,S3.hp,fE (by lia),?_⟩⟩
   refine jj<|fV<|ag rfl ⟨.inl ⟨rfl,_,ay.of<|df A.n1 S3.ht⟩,ag rfl ⟨_,df A.n1 S3.ht,fE (by rw[zai];lia),?_⟩⟩
   refine jj<|fV<|ag rfl ⟨.inl ⟨rfl,_,ay.of<|df (Ne.symm A.n2)<|df (Ne.symm A.n3) S3.hm⟩,ag rfl ⟨_,df (Ne.symm A.n2)<|df (Ne.symm A.n3) S3.hm,fE (by rw[zai];lia),?_⟩⟩
   exact hN g' us _ _ _ _ _ _ _ _ _ S4 (by lia) (by lia)
 refine bp<|ba<|aE<|pJ ha 2 S.sm rfl (by decide)<|au ⟨(by show(0:Int) <2;decide),au<|g8 ⟨_,rfl,?_⟩⟩
 by_cases z:cell ns 2 % 2=1
 ·refine iT ?_ (zqT z);refine aN<|aE<|cy<|ag rfl<|.inl ⟨_,ay.of S.hp,au<|eG ?_⟩;show aB _ _ _ [some<|.ref a,u1,some<|.ref tx,some<|.ref pp,some<|.ref mo,some<|.int (i:Nat),some<|.int c,some<|.int n,some<|.int<|(((gs.map fun g=>V.ref g.p).length:Nat):Int) - 1,u9,e8,gK,eJ,dQ,dR,none] H;rw[Hl,show(((i+1:Nat):Int) - 1)=((i:Nat):Int) by lia]
  exact go (by lia)
 ·exact iF (ck<|go WU) (zqF z)
end
section
variable {K:Frag}{CP C CN:Addr}{E:XK}{Q:VK}{H0 H:Hp}{s dx lt lb lf tx pp mo w:Addr}{ws:List V}{ts:List Str}{gs:List Pg}{b1 b2:Nat}
theorem WY{a b:Addr}{zs:List V}{g:TG}{tb:TS}(h1:ys.length=xs.length)(h2:zs.length=xs.length)(Pv:Nat->St->Hp->Prop)(h0:Pv 0 σ H)(ha:∀i σ H,Pv i σ H->ay K H a xs/\ay K H b ys/\ay K H c zs)
  (hs:∀i x y z σ H T,xs[i]?=some x->ys[i]?=some y->zs[i]?=some z->Pv i σ H->H T=none->g (.ref T) σ (upd H T<|.tup [x,y,z]) fun σ2 H2=>tb {D with nx:=Pv (i+1),ct:=Pv (i+1),bk:=D.nx} σ2 H2) (hd:∀σ H,Pv xs.length σ H->D.nx σ H):
  ∃W:Nat->Nat->St->Hp->Prop,(∃m,W 0 m σ H)/\∀i m σ H,W i m σ H->
   ((jP K a b c).stop i H/\D.nx σ H)\/((jP K a b c).go i H/\∃N:St->Hp->Prop,(∀σ' H',N σ' H'->∃m',m'<m/\W (i+1) m' σ' H')/\∀x H',(jP K a b c).dE i H x H'->g x σ H' fun σ2 H2=>tb {D with nx:=N,ct:=N,bk:=D.nx} σ2 H2):=by
 refine⟨fun i m σ H=>m=xs.length - i/\i<=xs.length/\Pv i σ H,⟨xs.length,by simp,zqZ _,h0⟩,?_⟩
 rintro i m σ H ⟨rfl,hi,p⟩;obtain⟨q1,q2,q3⟩:=ha i σ H p;by_cases aS:i<xs.length
 ·refine .inr ⟨⟨xs,ys,zs,q1,q2,q3,aS,by lia,by lia⟩,Pv<|i+1,fun σ' H' p'=>⟨xs.length - (i+1),by lia,rfl,aS,p'⟩,fun x H' y=>?_⟩
  obtain⟨T,hT,rfl,y⟩:=y;have l1:i<ys.length:=by lia
  have l2:i<zs.length:=by lia
  have e:=y xs ys zs xs[i] ys[i] zs[i] q1 q2 q3 (by simp[aS]) (by simp[l1]) (by simp[l2])
  subst e;exact hs i xs[i] ys[i] zs[i] σ H T (by simp[aS]) (by simp[l1]) (by simp[l2]) p hT
 ·have e:i=xs.length:=by lia
  subst e;exact .inl ⟨⟨xs,q1,rfl⟩,hd σ H p⟩
theorem WZ{r:List RS}{is:List Nat}{x y z:RE}(h:aW Γ [x,y,z] σ H fun vs H1=>∃a b c,vs=[.ref a,.ref b,.ref c]/\(∃xs,ay Γ.K H1 a xs)/\(∃ys,ay Γ.K H1 b ys)/\(∃zs,ay Γ.K H1 c zs)/\∃W:Nat->Nat->St->Hp->Prop,(∃m,W 0 m σ H1)/\∀j m σ H,W j m σ H->
  ((jP Γ.K a b c).stop j H/\({D with nx:=aB Γ r D}:Ends).nx σ H)\/((jP Γ.K a b c).go j H/\∃N:St->Hp->Prop,(∀σ' H',N σ' H'->∃m',m'<m/\W (j+1) m' σ' H')/\∀x H',(jP Γ.K a b c).dE j H x H'->gj Γ.K is.length (fP is) x σ H' fun σ2 H2=>aB Γ body {({D with nx:=aB Γ r D}:Ends) with nx:=N,ct:=N,bk:=({D with nx:=aB Γ r D}:Ends).nx} σ2 H2)):
  aB Γ (.xs (v7 is (fun Γ=>oM Γ.K<|aW Γ [x,y,z]) body)::r) D σ H:=h
theorem W0{K:Frag}{b:Bool}{i:Int}(e:(if b=true then (1:Int) else 0)=i)(q:Q (.int i) H):jF K .int [.bl b] H Q:=by
 subst e;exact q
def sV(K:Frag):Sp:=fun vs H Q E=>∃(a:Addr) (ns:List Int),vs=[.ref a]/\ay K H a (ns.map V.int)/\∀H',Q (.bl true) H'
theorem W2{u0 u1 u5 u6 u7 u8 u9 e8 gK eJ dQ dR:Option V}(A:l8 H0 s lt lb lf tx pp mo w)(S:dS CP C H0 H s dx lt lb lf tx pp mo w ws ts gs b1 b2)(h1:b1<=1000)(h2:b2<=10000)(h3:ts.length<=10000)(h4:(ao ts).length<=500000)(k:∀H',Q (.bl true) H'):
  aB (GL K CP C CN E) (cZ.drop 6) (Dn Q) [u0,u1,some<|.ref tx,some<|.ref pp,some<|.ref mo,u5,u6,u7,u8,u9,e8,gK,eJ,dQ,dR,none] H:=by
 have l1:(gs.map fun g=>V.str g.x).length=(gs.map fun g=>V.ref g.p).length:=by rw[zai,zai]
 have l2:(gs.map fun g=>V.int (g.m:Nat)).length=(gs.map fun g=>V.ref g.p).length:=by rw[zai,zai]
 refine WZ<|aw<|ag rfl<|aw<|ag rfl<|aw<|ag rfl<|aJ ⟨pp,tx,mo,rfl,⟨_,ay.of S.hp⟩,⟨_,ay.of S.ht⟩,⟨_,ay.of S.hm⟩,WY l1 l2 (fun i σ H2=>∃v9 v10 sW,σ=[u0,u1,some<|.ref tx,some<|.ref pp,some<|.ref mo,u5,u6,u7,u8,v9,v10,gK,eJ,dQ,dR,sW]/\dS CP C H0 H2 s dx lt lb lf tx pp mo w ws ts gs b1 b2) ?_ ?_ ?_ ?_⟩
 ·exact⟨_,_,_,rfl,S⟩
 ·rintro i σ H2 ⟨v9,v10,sW,rfl,S2⟩;exact⟨ay.of S2.hp,ay.of S2.ht,ay.of S2.hm⟩
 ·rintro i x y z σ H2 t hx hy hz ⟨v9,v10,sW,rfl,S2⟩ ft;rw[zag] at hx hy hz;obtain⟨g,eg,rfl⟩:=zbL.mp hx;rw[eg] at hy hz;cases hy;cases hz;have s3:=sameNew (o:=.tup [V.ref g.p,V.str g.x,V.int (g.m:Nat)]) ft;refine GA aG ?_;have S3:=S2.same A s3;generalize upd H2 t (.tup [V.ref g.p,V.str g.x,V.int (g.m:Nat)])=H3 at s3 S3⊢;have hg:=zap eg;have P:=S3.pk g hg;have B:=S3.bears hg h1 h3 h4;have x2:=P.c2;refine bp<|gE<|ba<|gB CP (xk CP C) rfl<|ag rfl ⟨g.p,g.dp,_,rfl,B.pa.ob,eZ (by decide+kernel) (by decide+kernel),g.p,g.dp,s,dx,lt,lb,lf,g.v,g.t,ts,rfl,B.pa,B.st,B.l1,B.l2,B.l3,B.l4,fun H4 s4=>?_⟩
  rw[B.eq];refine ag rfl<|Fs ⟨_,rfl,iF ?_ rfl⟩;have S4:=S3.same A s4;refine gE<|fW<|gC (ye CP C) rfl<|aw<|ag rfl<|aw<|ag rfl<|aJ ⟨g.p,g.dp,s,dx,lt,lb,lf,g.v,g.t,ts,g.x,rfl,B.same s4,by lia,fun H5 s5=>fG<|iF ?_ rfl⟩
  have S5:=S4.same A s5;refine jZ<|fW<|gC (yj CP C) rfl<|aw<|ag rfl<|aw<|ag rfl<|aw<|ag rfl<|aJ ⟨g.p,g.dp,s,dx,lt,lb,lf,g.v,g.t,ts,g.x,g.m,rfl,(B.same s4).same s5,P.nt,P.le,by lia,fun H6 s6=>fG<|iF (ck ?_) rfl⟩
  exact⟨_,_,_,rfl,S5.same A s6⟩
 ·rintro σ H2 ⟨v9,v10,sW,rfl,S2⟩;exact bU<|au<|k _
theorem W3(T:cN K CP)(O:oK K CP)(OC:jO K C):bF (sV K) (fun E=>GL K CP C CN E) cZ iM:=by
 intro vs H Q E h;obtain⟨a,ns,rfl,ha,k⟩:=h;have go:∀z:Int,0<=z->z<=199->aB (GL K CP C CN E) (cZ.drop 2) (Dn Q) [some<|.ref a,some<|.int z,none,none,none,none,none,none,none,none,none,none,none,none,none,none] H:=by
  intro z z0 z1;refine aN<|fS<|aw<|bh nc rfl<|aw<|pJ ha 1 (aF.refl _) rfl (by decide)<|aw<|ag rfl<|aJ ⟨_,_,rfl,z0,by lia,fun x H1 gx lx s1=>aJ ⟨gb,fun tx Hm=>?_⟩⟩
  have s2:=sameNew (o:=.lst [V.str x]) Hm;have l9:upd H1 tx (.lst [V.str x]) tx=some (.lst [V.str x]):=aG;have fx:=s1.free Hm;have fJ:=s1.trans s2;generalize upd H1 tx (.lst [V.str x])=H2 at s2 l9 fJ⊢;refine aN<|fS<|aw<|bh (xI CP C) rfl<|aw<|aV<|ag rfl<|au<|fF l9 (fh (j:=0) rfl)<|aJ ⟨x,rfl,gx,fun p dp s dx lt lb lf v t ts H3 s3 S3 P3 e3 l1 l2 l3 f1 f2 f3 f4 f5=>aJ ⟨gb,fun pp pK=>?_⟩⟩;have s4:=sameNew (o:=.lst [V.ref p]) pK;have yy:upd H3 pp (.lst [V.ref p]) pp=some (.lst [V.ref p]):=aG;have W4:=Kp.of S3 pK;have W5:=fJ.free (s3.free pK);have sX:=s4 _ _ (s3 _ _ l9);have W6:tx≠pp:=fun z=>by rw[<-z,s3 _ _ l9] at pK;cases pK
  have S4:=S3.same s4;have P4:=P3.same s4;have eF:=fJ.trans (s3.trans s4);generalize upd H3 pp (.lst [V.ref p])=H4 at s4 yy sX S4 P4 eF⊢;obtain⟨m,em⟩:∃m:Nat,m=if x="" then 0 else 1:=⟨_,rfl⟩
  have bm:(if (x !=("":Str))=true then (1:Int) else 0)=((m:Nat):Int):=by
   by_cases q:x=""
   ·rw[em,if_pos q,if_neg (by simpa using q)];rfl
   ·rw[em,if_neg q,if_pos (by simpa using q)];rfl
  refine aN<|fS<|aw<|oP<|aw<|mV<|aV<|ag rfl<|au<|fF sX (fh (j:=0) rfl)<|au<|jW<|aJ<|W0 bm ?_;refine aJ ⟨gb,fun mo l_=>?_⟩;have s5:=sameNew (o:=.lst [V.int (m:Nat)]) l_;have yz:upd H4 mo (.lst [V.int (m:Nat)]) mo=some (.lst [V.int (m:Nat)]):=aG;have W7:=Kp.of S4 l_;have W8:=eF.free l_;have W9:tx≠mo:=fun z=>by rw[<-z,sX] at l_;cases l_
  have W_:pp≠mo:=fun z=>by rw[<-z,yy] at l_;cases l_
  have S5:=S4.same s5;have P5:=P4.same s5;have yA:=s5 _ _ sX;have yB:=s5 _ _ yy;have yC:=eF.trans s5;generalize upd H4 mo (.lst [V.int (m:Nat)])=H5 at s5 yz S5 P5 yA yB yC⊢;refine⟨_,rfl,_,rfl,_,rfl,.inl ⟨_,yC.seq ha,fun w fw=>?_⟩⟩;have kw:=Kp.of S5 fw;have s6:=sameNew (o:=.lst (dF (ns.map V.int) (some 3)<|some 17)) fw;have sY:upd H5 w (.lst<|dF (ns.map V.int) (some 3)<|some 17) w=some (.lst<|dF (ns.map V.int) (some 3)<|some 17):=aG;have ec:=N.VQ (ns.map V.int) 3 17;rw[show((3:Nat):Int)=3 from rfl,show((17:Nat):Int)=17 from rfl] at ec
  have Xa:w≠tx:=fun z=>by rw[z,yA] at fw;cases fw
  have Xb:w≠pp:=fun z=>by rw[z,yB] at fw;cases fw
  have Xd:w≠mo:=fun z=>by rw[z,yz] at fw;cases fw
  have Hn:=s6 _ _ yA;have Ho:=s6 _ _ yB;have Hq:=s6 _ _ yz;have S6:=S5.same s6;have P6:=P5.same s6;have Hr:=yC.trans s6;generalize upd H5 w (.lst<|dF (ns.map V.int) (some 3)<|some 17)=H6 at s6 sY Hn Ho Hq S6 P6 Hr⊢;rw[ec] at sY;have kx:Kp lt lb lf tx:=⟨fun z=>(by rw[<-z,l9] at f3;cases f3),fun z=>(by rw[<-z,l9] at f4;cases f4),fun z=>(by rw[<-z,l9] at f5;cases f5)⟩
  have A:l8 H s lt lb lf tx pp mo w:=⟨kx,W4,W7,kw,W6,W9,W_,Xa,Xb,Xd,fJ.free f2,fJ.free f3,fJ.free f4,fJ.free f5,fx,W5,W8⟩;have GV:x.length<=199:=by lia
  have Xe:NT t.ai:=by
   match t.ai,l1 with
   |[],_=>trivial
   |[q],_=>trivial
   |q::q'::r,h=>exact absurd h (by show ¬r.length+1+1<=1;lia)
  have lm:t.ai.length<=m:=by
   by_cases q:x=""
   ·have:t.ai=[]:=F0 P3.pc (by rw[e3,q];rfl)
    rw[this];exact zqZ _
   ·rw[em,if_neg q];exact l1
  have S0:dS CP C H H6 s dx lt lb lf tx pp mo w (((ns.map V.int).drop 3).take<|17 - 3) ts [⟨p,dp,v,t,x,m⟩] (1+66*0) (200+100*0):=by
   refine⟨S6,fun g hg=>?_,Hn,Ho,Hq,sY,Hr⟩;rw[zav.mp hg];exact⟨P6,e3,gx,Xe,lm,by lia,by show x.length<=_;lia⟩
  refine⟨w,rfl,⟨_,ay.of sY⟩,MJ (K:=K) (a:=w) (xs:=((ns.map V.int).drop 3).take (17 - 3)) (fun i σ H7=>∃(nA:List Str) (gs:List Pg) (u1 u5 u6 u7 u8 u9 e8 gK eJ dQ dR:Option V),σ=[some<|.ref a,u1,some<|.ref tx,some<|.ref pp,some<|.ref mo,u5,u6,u7,u8,u9,e8,gK,eJ,dQ,dR,none]/\dS CP C H H7 s dx lt lb lf tx pp mo w (((ns.map V.int).drop 3).take<|17 - 3) nA gs (1+66*i) (200+100*i)/\gs.length=i+1/\nA.length<=1+66*i/\(ao nA).length<=200+11000*i) ?_ ?_ ?_ ?_⟩
  ·exact⟨ts,_,some<|.int z,none,none,none,none,none,none,none,none,none,none,rfl,S0,rfl,by lia,by lia⟩
  ·rintro i σ H7 ⟨nA,gs,u1,u5,u6,u7,u8,u9,e8,gK,eJ,dQ,dR,rfl,S7,_⟩;exact ay.of S7.hw
  ·rintro i y σ H7 T' hi ⟨nA,gs,u1,u5,u6,u7,u8,u9,e8,gK,eJ,dQ,dR,rfl,S7,lg,c1,c2⟩ hT;have Xf:i<14:=by
    have:=(zab.mp hi).1;rw[zaj] at this;lia
   obtain⟨c,rfl⟩:∃c:Int,y=.int c:=by
    have hm:=List.mem_of_mem_drop (List.mem_of_mem_take<|zap hi);obtain⟨c,_,e⟩:=zaX.mp hm;exact⟨c,e.symm⟩
   have s8:=sameNew (o:=.tup [V.int (i:Nat),V.int c]) hT;refine VO aG ?_;have S8:=S7.same A s8;generalize upd H7 T' (.tup [V.int (i:Nat),V.int c])=H8 at s8 S8⊢;exact WT T O OC A ha Xf S8 lg c1 c2 fun g us H' y7 y8 y9 Hj Hk yx lZ l7 S' F2 F3=>⟨_,_,_,_,_,_,_,_,_,_,_,_,_,rfl,S',by rw[zqA,lg];rfl,F2,F3⟩
  ·rintro σ H7 ⟨nA,gs,u1,u5,u6,u7,u8,u9,e8,gK,eJ,dQ,dR,rfl,S7,lg,c1,c2⟩;have li:(((ns.map V.int).drop 3).take<|17 - 3).length<=14:=by rw[zaj];lia
   exact W2 A S7 (by lia) (by lia) (by lia) (by lia) k
 have Xg:0<=cell ns 0 % 25/\cell ns 0 % 25<25:=⟨zaz _ (by decide),zaB _ (by decide)⟩
 have Za:0<=cell ns 0 / 200 % 140/\cell ns 0 / 200 % 140<140:=⟨zaz _ (by decide),zaB _ (by decide)⟩
 refine aN<|aE<|pJ ha 0 (aF.refl _) rfl (by decide)<|au ⟨(by show(0:Int) <25;decide),?_⟩
 refine bp<|ba<|aE<|aE<|pJ ha 0 (aF.refl _) rfl (by decide)<|au ⟨⟨by decide,by decide⟩,au ⟨(by show(0:Int) <8;decide),au<|g8 ⟨_,rfl,?_⟩⟩⟩
 by_cases q:cell ns 0 / 25 % 8=1
 ·refine iT ?_ (zqT q);refine aN<|aE<|au<|aE<|aE<|pJ ha 0 (aF.refl _) rfl (by decide)<|au ⟨⟨by decide,by decide⟩,au ⟨(by show(0:Int) <140;decide),bz ?_⟩⟩
  exact go (60+cell ns 0 / 200 % 140) (by lia) (by lia)
 ·exact iF (ck<|go (cell ns 0 % 25) Xg.1 (by lia)) (zqF q)
end
end L2.k7
namespace L2
open PySem PySem.Spec PyProof.Rows
open PySem.W (Frag nsIn findIn isFn keepIn codeIn fnOf mg_of mg_none_of)
def f_(st:Stmt):List Str:=(gf st).args.map (·.arg)
structure Top (P:Program) (w:World) (K:Frag) (mg:Str->Option Value) (base:Heap):Prop where
 X:K.In base
 G:base.Ns mainGlobals mg
def bj(K:Frag)(x:Str)(st:Stmt):Prop:= ∃f fd,nsIn K mainGlobals x=some (some<|.ref f)/\jA K x x st f fd
def c9(K:Frag)(C:Addr)(x q:Str)(st:Stmt):Prop:= ∃f fd,findIn K (.ref C) x=some (some<|.ref f)/\isFn K (.ref f)=true/\jA K x q st f fd
structure sZ (K:Frag) (x:Str) (C:Addr):Prop where
 g:nsIn K mainGlobals x=some (some<|.ref C)
 m:makesIn K C=true
 k:keepIn K (.ref C)=true
structure jo (K:Frag) (p:Str×V):Prop where
 ex:∃u,nsIn K mainGlobals p.1=some (some u)/\RelV p.2 u
structure nB (K:Frag) (p:Str×Addr):Prop where
 g:nsIn K mainGlobals p.1=some (some<|.ref p.2)
 x:PySem.W.excIn K p.2 [.type "ValueError",.type "Exception",.type "BaseException",.type "object"] "ValueError.__new__"=true
section
variable {P:Program}{w:World}{K:Frag}{mg:Str->Option Value}{base:Heap}{x q:Str}{st:Stmt}{f C:Addr}{fd:FuncData}{k:Nat}{sp:Sp}
theorem Xh{oc:Value}{od an:Option Addr}{fc:Array (Option Value)}{kV doc pm bw ct:Value}(a:nsIn K mainGlobals x=some (some<|.ref f))(l:K.lookup f=some ⟨oc,od,.func<|fnOf x x (gf st) (dG st) (dr st) .none kV doc pm an bw ct,fc⟩)
  (c:codeIn K bw x=true) (k:keepIn K (.ref f)=true):bj K x st:=⟨f,_,a,Aj l c k⟩
theorem Xi{oc:Value}{od an:Option Addr}{fc:Array (Option Value)}{kV doc pm bw ct:Value}(a:findIn K (.ref C) x=some (some<|.ref f))(i:isFn K (.ref f)=true)(l:K.lookup f=some ⟨oc,od,.func<|fnOf x q (gf st) (dG st) (dr st) .none kV doc pm an bw ct,fc⟩)
  (c:codeIn K bw q=true) (k:keepIn K (.ref f)=true):c9 K C x q st:=⟨f,_,a,i,Aj l c k⟩
theorem Xj{t:Tok}(h:nsIn K mainGlobals x=some (some<|.str y t)):jo K (x,.str y):=⟨_,h,⟨_,rfl⟩⟩
theorem Xk{y:Addr}(h:nsIn K mainGlobals x=some (some<|.ref y)):jo K (x,.ref y):=⟨_,h,rfl⟩
theorem Xl(h:findIn K (.ref C) y=some none):eM K C y:=h
theorem Top.gv{p:Str×V}(Z:Top P w K mg base)(h:jo K p):vG mg p:=by
 obtain⟨u,a,b⟩:=h.ex;exact⟨u,mg_of Z.X Z.G a,b⟩
theorem Top.no(Z:Top P w K mg base)(h:nsIn K mainGlobals x=some none):mg x=none:=mg_none_of Z.X Z.G h
theorem Top.exc{p:Str×Addr}(Z:Top P w K mg base)(h:nB K p):rf mg base p:=SK Z.X Z.G h.g h.x
structure pL (P:Program) (w:World) (K:Frag) (mg:Str->Option Value) (base:Heap) (k:Nat) (st:Stmt) (sp:Sp):Prop where
 ok:∀{x q:Str}{f:Addr}{fd:FuncData},jA K x q st f fd->b7 P w K mg base (eQ P w) k f fd (f_ st) sp
theorem kb{N P:List Str}{sc:Scope}(a:sc.kind=.function:=by kernel_rfl)(b:sc.isCoroutine=false:=by kernel_rfl)(c:sc.isGenerator=false:=by kernel_rfl)(d:N.Nodup:=by decide+kernel)(e:N.take P.length=P:=by kernel_rfl)(f:∀x∈P,sc.names.lookup x=some .local\/sc.names.lookup x=some .cell:=by decide+kernel)(g:∀y∈sc.names,y.2≠ .free:=by decide+kernel):ku N P sc:=⟨a,b,c,d,e,f,g⟩
theorem dL{N N0 bl:List Str}{tab:List (Str×Sp)}{gt:List (Str×V)}{dk:List (Addr×List (Key×V))}{mt kt:List (Str×Addr×Sp)}{et:List (Str×Addr)}{ht:List (Str×Sp)}{body:List RS}(Z:Top P w K mg base)
  (vP:∀vs H Q E,sp vs H Q E->aB (aK K tab gt dk mt kt et ht E) body {nx:=fun _ H'=>Q .az H',rt:=Q} (start N0 vs) H)
  (hm:∀{CX:bP}{Γ:bf}{X:Cx},eo CX (q_ N (dr st) (tab.map (·.1)) (gt.map (·.1)) bl (mt.map (·.1)) (kt.map (·.1)) (et.map (·.1)) (ht.map (·.1))) Γ X->c_ X (dG st) (aB Γ body)) (k:Nat)
  (len:∀vs H Q E,sp vs H Q E->vs.length=(f_ st).length:=by intro _ _ _ _ h;repeat (first| (obtain⟨rfl,_⟩:=h;kernel_rfl)| (obtain⟨_,h⟩:=h)))
  (vI:∀p∈tab,du P w K mg base k p.1 p.2:=by repeat (first|exact jU|refine jV (du.mono (by assumption) (by first|decide|lia)) ?_))
  (vJ:∀p∈gt,vG mg p:=by repeat (first|exact jU|refine jV (Top.gv (by assumption) (by assumption)) ?_))
  (vK:∀y∈bl,mg y=none:=by repeat (first|exact jU|refine jV (Top.no (by assumption) (by assumption)) ?_))
  (vL:∀q∈dk,BH P w K q:=by repeat (first|exact jU|refine jV (by assumption) ?_))
  (vM:∀p∈mt,kR P w K mg base k p:=by repeat (first|exact jU|refine jV (kR.mono (by assumption) (by first|decide|lia)) ?_))
  (vN:∀p∈kt,kS P w K mg base k p:=by repeat (first|exact jU|refine jV (kS.mono (by assumption) (by first|decide|lia)) ?_))
  (het:∀p∈et,rf mg base p:=by repeat (first|exact jU|refine jV (Top.exc (by assumption) (by assumption)) ?_))
  (vO:∀p∈ht,vH P w K mg base k p.1 p.2:=by repeat (first|exact jU|refine jV (vH.mono (by assumption) (by first|decide|lia)) ?_))
  (S:ku N (f_ st) (dr st):=by exact kb) (hN:N0.length=N.length:=by kernel_rfl):pL P w K mg base (k+1) st sp:=
 ⟨fun F=>N1 F S tab gt bl mt kt et ht body hm vI vJ vK dk vL vM vN het vO len fun vs H Q E h=>by
  have r:=vP vs H Q E h;unfold start at r⊢;rw[hN] at r;exact r⟩
def Bd(x q:Str)(st:Stmt):Prop:= ∀(kV doc pm:Value) (an:Option Addr) (bw ct:Value) (us:List Value),us.length=(f_ st).length->bindArgs (fnOf x q (gf st) (dG st) (dr st) .none kV doc pm an bw ct) ⟨us,[]⟩=pure ((f_ st).zip us)
theorem Xm(hp:(f_ st).length=1)(h:∀(kV doc pm:Value) (an:Option Addr) (bw ct a0:Value),bindArgs (fnOf x q (gf st) (dG st) (dr st) .none kV doc pm an bw ct) ⟨[a0],[]⟩=pure ((f_ st).zip [a0])):Bd x q st:=fun kV doc pm an bw ct us hl=>by
 have e:=hl.trans hp;rcases us with _|⟨a0,_|⟨_,_⟩⟩ <;>first|exact h kV doc pm an bw ct _|exact absurd e (by simp)
theorem Xn(hp:(f_ st).length=2)(h:∀(kV doc pm:Value) (an:Option Addr) (bw ct a0 a1:Value),bindArgs (fnOf x q (gf st) (dG st) (dr st) .none kV doc pm an bw ct) ⟨[a0,a1],[]⟩=pure ((f_ st).zip [a0,a1])):Bd x q st:=fun kV doc pm an bw ct us hl=>by
 have e:=hl.trans hp;rcases us with _|⟨a0,_|⟨a1,_|⟨_,_⟩⟩⟩ <;>first|exact h kV doc pm an bw ct _ _|exact absurd e (by simp)
theorem Xo(hp:(f_ st).length=3)(h:∀(kV doc pm:Value) (an:Option Addr) (bw ct a0 a1 a2:Value),bindArgs (fnOf x q (gf st) (dG st) (dr st) .none kV doc pm an bw ct) ⟨[a0,a1,a2],[]⟩=pure ((f_ st).zip [a0,a1,a2])):Bd x q st:=fun kV doc pm an bw ct us hl=>by
 have e:=hl.trans hp;rcases us with _|⟨a0,_|⟨a1,_|⟨a2,_|⟨_,_⟩⟩⟩⟩ <;>first|exact h kV doc pm an bw ct _ _ _|exact absurd e (by simp)
theorem s_(hb:Bd x q st:=by first|exact Xm (by kernel_rfl) fun _ _ _ _ _ _ _=>rfl|exact Xn (by kernel_rfl) fun _ _ _ _ _ _ _ _=>rfl|exact Xo (by kernel_rfl) fun _ _ _ _ _ _ _ _ _=>rfl|exact Zb (by kernel_rfl) fun _ _ _ _ _ _ _ _ _ _=>rfl|exact Zc (by kernel_rfl) fun _ _ _ _ _ _ _ _ _ _ _=>rfl|exact Zd (by kernel_rfl) fun _ _ _ _ _ _ _ _ _ _ _ _=>rfl|exact Ze (by kernel_rfl) fun _ _ _ _ _ _ _ _ _ _ _ _ _=>rfl|exact Zf (by kernel_rfl) fun _ _ _ _ _ _=>rfl):Bd x q st:=hb
theorem dT(Z:Top P w K mg base)(D:bj K x st)(R:pL P w K mg base k st sp)(hb:Bd x x st:=by exact s_):du P w K mg base k x sp:=by
 obtain⟨f,fd,a,F⟩:=D;exact⟨f,fd,_,R.ok F,mg_of Z.X Z.G a,F.kp,F.binds hb⟩
theorem dM(D:c9 K C x q st)(c:dh K C)(R:pL P w K mg base k st sp)(hb:Bd x q st:=by exact s_):kR P w K mg base k (x,C,sp):=by
 obtain⟨f,fd,a,i,F⟩:=D;exact⟨c,f,fd,_,⟨a,i,F.kp⟩,R.ok F,F.binds hb⟩
theorem dI{cn:Str}(Z:Top P w K mg base)(D:c9 K C "__init__" q st)(M:sZ K cn C)(R:pL P w K mg base k st sp)(hb:Bd "__init__" q st:=by exact s_):kS P w K mg base (k+1) (cn,C,sp):=by
 obtain⟨f,fd,a,i,F⟩:=D;exact⟨k,f,fd,_,zqR _,⟨M.m,a,i,M.k⟩,R.ok F,mg_of Z.X Z.G M.g,F.binds hb⟩
theorem dN(Z:Top P w K mg base)(D:bj K x st){N:List Str}(no:∀vs H Q E,¬sp vs H Q E)(S:ku N (f_ st) (dr st))(hb:Bd x x st:=by exact s_):du P w K mg base (k+1) x sp:=by
 obtain⟨f,fd,a,F⟩:=D;exact N2 F S (mg_of Z.X Z.G a) (F.binds hb) no
theorem Xp{h:Heap}{fa:Addr}(X:K.In h)(G:h.Ns mainGlobals mg)(yD:mg x=some (.ref fa))(D:bj K x st)
  (R:∀base,Top P w K mg base->pL P w K mg base k st sp) (hp:f_ st=[y]:=by kernel_rfl)
  (hb:∀(kV doc pm:Value) (an:Option Addr) (bw ct a0:Value),bindArgs (fnOf x x (gf st) (dG st) (dr st) .none kV doc pm an bw ct) ⟨[a0],[]⟩=pure [(y,a0)]:=by exact fun _ _ _ _ _ _ _=>rfl):
  ∃fd:FuncData,(∀(s:Shared) (v:Value),BindsTo s fd ⟨[v],[]⟩ [(y,v)])/\∀base:Heap,K.In base->base.Ns mainGlobals mg->b7 P w K mg base nX k fa fd [y] (fun vs H Q _=>sp vs H Q E0):=by
 obtain⟨f,fd,e,F⟩:=D;cases yD.symm.trans (mg_of X G e);have F':=F;obtain⟨oc,od,kV,doc,pm,an,bw,ct,fc,rfl,lk,gc⟩:=F'.ex;refine⟨_,fun s v=>.of_eq<|hb kV doc pm an bw ct v,fun base X2 G2=>?_⟩;have r:=(R base ⟨X2,G2⟩).ok F;rw[hp] at r;exact b7.top r
end
end L2
namespace L2.k7
open PySem PySem.Spec PyProof.Rows L2.B
theorem all_mk{P:Program}{w:World}{K:Frag}{h:Heap}{mg:Str->Option Value}{fa hX eK Hs yE Ht Hu:Addr}(X:K.In h)(G:h.Ns mainGlobals mg)(yD:mg "law"=some (.ref fa))
  (Zg:jo K ("BadText",.ref Hs))
  (Zh:jo K ("BadChange",.ref yE))
  (Zi:jo K ("BadFit",.ref Ht))
  (Zj:jo K ("NoPlace",.ref Hu))
  (Xq:sZ K "Stock" hX)
  (Xr:sZ K "Paper" eK)
  (Zk:jo K ("Paper",.ref eK))
  (hZ:jM K hX)
  (cB:cN K eK)
  (Xs:oK K eK)
  (Xt:jO K hX)
  (Zl:nB K ("BadText",Hs))
  (Zm:nB K ("BadChange",yE))
  (Zn:nB K ("BadFit",Ht))
  (Zo:nB K ("NoPlace",Hu))
  (a0:bj K "is_whole" DE)
  (a1:bj K "is_between" DF)
  (a2:bj K "is_word" DG)
  (a3:bj K "is_text" DH)
  (a4:bj K "need_text" DI)
  (a5:bj K "is_part" DJ)
  (a6:bj K "may_follow" DK)
  (a7:bj K "need_change" DL)
  (a8:bj K "part_size" DM)
  (a9:bj K "sizes" DN)
  (Xu:bj K "height_of" DO)
  (Xv:bj K "size_of" DP)
  (Xw:bj K "ends_of" DQ)
  (Xx:bj K "made" DR)
  (Xy:bj K "turned_right" DS)
  (Xz:bj K "turned_left" DT)
  (XA:bj K "leveled" DU)
  (Hv:bj K "joined" DV)
  (Hw:bj K "last_out" DW)
  (Hx:bj K "first_out" DX)
  (XB:bj K "sewn" DY)
  (XC:bj K "cut_in_two" DZ)
  (Hy:bj K "parted" D0)
  (Hz:bj K "pieces_of" D1)
  (XD:bj K "ends_ahead_of" D2)
  (XE:bj K "place_of_end" D3)
  (XF:bj K "many_upto" D4)
  (XG:c9 K hX "__init__" "Stock.__init__" D5)
  (XH:c9 K hX "put" "Stock.put" D6)
  (XI:c9 K hX "read" "Stock.read" D7)
  (XJ:c9 K hX "many" "Stock.many" D8)
  (XM:c9 K hX "ends_ahead" "Stock.ends_ahead" D9)
  (XN:c9 K hX "end_place" "Stock.end_place" D_)
  (XO:bj K "node_put" Ea)
  (XQ:bj K "paper_of" Eb)
  (XR:bj K "need_fit" Ec)
  (XS:bj K "texts_of" Ed)
  (XT:c9 K eK "__init__" "Paper.__init__" Ee)
  (XU:c9 K eK "size" "Paper.size" Ef)
  (XW:c9 K eK "lines" "Paper.lines" Eg)
  (XX:c9 K eK "text" "Paper.text" Eh)
  (XY:c9 K eK "pieces" "Paper.pieces" Ei)
  (XZ:c9 K eK "height" "Paper.height" Ej)
  (X0:c9 K eK "part" "Paper.part" Ek)
  (X1:c9 K eK "changed" "Paper.changed" El)
  (X3:c9 K eK "line_begin" "Paper.line_begin" Em)
  (X4:c9 K eK "line_size" "Paper.line_size" En)
  (X5:c9 K eK "line_at" "Paper.line_at" Eo)
  (X6:c9 K eK "place_at" "Paper.place_at" Ep)
  (X7:bj K "_law_cell_at" Er)
  (X8:bj K "_law_whole" Es)
  (X9:bj K "_law_mixed" Et)
  (X_:bj K "_law_text_by" Eu)
  (Ya:bj K "_law_neat" Ew)
  (Yb:bj K "_law_change_by" eV)
  (Yc:bj K "_law_done" Ex)
  (HA:bj K "_law_good" cY)
  (HB:bj K "_law_pieces" Ez)
  (Yd:bj K "_law_least" EC)
  (Ye:bj K "_law_lines" EF)
  (Yf:bj K "_law_stands" EI)
  (Yg:bj K "_law_changes" EL)
  (Yh:bj K "law" dv)
  (Zp:jo K ("SIGNS",.str SG))
  (Zq:nsIn K mainGlobals "abs"=some none)
  (Zr:nsIn K mainGlobals "bool"=some none)
  (Zs:nsIn K mainGlobals "enumerate"=some none)
  (Zt:nsIn K mainGlobals "int"=some none)
  (Zu:nsIn K mainGlobals "isinstance"=some none)
  (Zv:nsIn K mainGlobals "len"=some none)
  (Zw:nsIn K mainGlobals "list"=some none)
  (Zx:nsIn K mainGlobals "max"=some none)
  (Zy:nsIn K mainGlobals "min"=some none)
  (Zz:nsIn K mainGlobals "range"=some none)
  (ZA:nsIn K mainGlobals "str"=some none)
  (ZC:nsIn K mainGlobals "sum"=some none)
  (ZD:nsIn K mainGlobals "tuple"=some none)
  (ZE:nsIn K mainGlobals "zip"=some none)
  :∃fd:FuncData,(∀(s:Shared) (v:Value),BindsTo s fd ⟨[v],[]⟩ [("_law_script",v)])/\∀base:Heap,K.In base->base.Ns mainGlobals mg->b7 P w K mg base nX 106 fa fd ["_law_script"] (fun vs H Q _=>(sV K) vs H Q E0):=by
 refine Xp X G yD Yh fun base Z=>?_;have T0:=dT Z a0 (dL Z Sv @PQ 0);have T1:=dT Z a1 (dL Z SM @PR 1);have T2:=dT Z a2 (dL Z Sz @PU 0);have T3:=dT Z a3 (dL Z Sw @PV 0);have T4:=dT Z a4 (dL Z Sy @PY 1);have T5:=dT Z a5 (dL Z SD @PZ 1);have ZF:=T5.weak (a:=wo) fun _ _ _ _ h=>SF h;have T6:=dT Z a6 (dL Z RW @P7 0);have T7:=dT Z a7 (dL Z (R_ (et:=[("BadChange",yE)])) @P8 2);have T8:=dT Z a8 (dL Z RX @P9 0);have T9:=dT Z a9 (dL Z Sd @P_ 3);have ZG:=dT Z Xu (dL Z N.Tt @Qa 0);have ZH:=dT Z Xv (dL Z N.Tu @Qc 0);have ZI:=dT Z Xw (dL Z N.Tv @Qd 0);have ZJ:=dT Z Xx (dL Z N.Tx @Qe 1);have ZK:=dT Z Xy (dL Z N.Tz @Qf 2);have ZL:=dT Z Xz (dL Z N.TB @Qg 2);have ZM:=dT Z XA (dL Z N.TF @Qh 3);have Yi:∀n,du P w K mg base (4+n+1) "joined" (N.gG n):=by
  intro n;induction n with
  |zero=>exact dN Z Hv (N:=oJ) N.TJ kb
  |succ n ih=>exact dT Z Hv (dL Z (N.TL n) @Qi<|4+n+1)
 have ZN:=Yi 64;have Yj:∀n,du P w K mg base (69+n+1) "last_out" (N.oU n):=by
  intro n;induction n with
  |zero=>exact dN Z Hw (N:=mM) N.TM kb
  |succ n ih=>exact dT Z Hw (dL Z (N.TQ n) @Qj<|69+n+1)
 have ZO:=Yj 32;have Yk:∀n,du P w K mg base (69+n+1) "first_out" (N.oZ n):=by
  intro n;induction n with
  |zero=>exact dN Z Hx (N:=mM) N.Ue kb
  |succ n ih=>exact dT Z Hx (dL Z (N.Uh n) @Qk<|69+n+1)
 have ZP:=Yk 32;have ZQ:=dT Z XB (dL Z N.UK @Ql 102);have ZR:=dT Z XF (dL Z So @Qr 0);have ZT:=dM XM hZ.cl (dL Z (N.TX hZ) @Qx 1);have ZU:=dT Z XC (dL Z N.TZ @Qm 2);have Yl:∀n,du P w K mg base (69+n+1) "parted" (N.iV hX n):=by
  intro n;induction n with
  |zero=>exact dN Z Hy (N:=vV) (N.T_ hX) kb
  |succ n ih=>exact dT Z Hy (dL Z (N.Ub n) @Qn<|69+n+1)
 have ZV:=Yl 32;have Ym:∀n,du P w K mg base (0+n+1) "pieces_of" (N.fX n):=by
  intro n;induction n with
  |zero=>exact dN Z Hz (N:=vW) N.FE kb
  |succ n ih=>exact dT Z Hz (dL Z (N.TU n) @Qo<|0+n+1)
 have ZW:=Ym 32;have ZX:=dT Z XD (dL Z N.Vx @Qp 2);have ZY:=dM XN hZ.cl (dL Z (N.Vy hZ) @Qy 0);have ZZ:=dT Z XE (dL Z N.VA @Qq 2);have Z0:=dI Z XG Xq (dL Z (SQ hZ) @Qs 0);have Z1:=dM XH hZ.cl (dL Z (SU hZ) @Qt 2);have Z2:=dM XI hZ.cl (dL Z (Tj hZ) @Qu 2);have Z4:=dM XJ hZ.cl (dL Z (SR hZ) @Qw 0);have Z5:=dT Z XO (dL Z N.Ul @Qz 69);have Z6:=dI Z XT Xr (dL Z (N.Ur cB) @QF 0);have Z7:=dT Z XQ (dL Z N.UX @QC 70);have Z8:=dM XU cB.cl (dL Z (N.Us cB) @QG 1);have Z9:=dT Z XS (dL Z N.Um @QE 33);have Z_:=dM X0 cB.cl (dL Z (N.Uy cB) @QL 102);have T35:=dT Z XR (dL Z (N.UG cB) @QD 103);have T39:=dM XW cB.cl (dL Z (N.Ut cB) @QH 1);have T40:=dM XX cB.cl (dL Z (N.Ux cB) @QI 34);have T41:=dM XY cB.cl (dL Z (N.Uw cB) @QJ 34);have T42:=dM XZ cB.cl (dL Z (N.Uu cB) @QK 1);have T44:=dM X1 cB.cl (dL Z (N.UW cB) @QM 104);have T45:=dM X3 cB.cl (dL Z (N.VB cB) @QN 3);have T46:=dM X4 cB.cl (dL Z (N.VC cB) @QO 4);have T47:=dM X5 cB.cl (dL Z (N.VE cB) @QP 4);have T48:=dM X6 cB.cl (dL Z N.VF @QR 5);have T49:=dT Z X7 (dL Z RY @QS 0);have T50:=dT Z X8 (dL Z VM @QU 0);have T51:=dT Z X9 (dL Z N.UY @QV 0);have T52:=dT Z X_ (dL Z N.U4 @QW 1);have T53:=dT Z Ya (dL Z N.Vl @QX 0);have T54:=dT Z Yb (dL Z N.Vs @Q5 2);have T55:=dT Z Yc (dL Z N.U6 @Q6 0);have Yn:∀n,du P w K mg base (1+n+1) "_law_good" (nu n):=by
  intro n;induction n with
  |zero=>exact dN Z HA (N:=gp) V1 kb
  |succ n ih=>exact dT Z HA (dL Z (V2 n) @Ri<|1+n+1)
 have T56:=Yn 32;have Yo:∀n,du P w K mg base (0+n+1) "_law_pieces" (N.fX n):=by
  intro n;induction n with
  |zero=>exact dN Z HB (N:=v_) N.FE kb
  |succ n ih=>exact dT Z HB (dL Z (VZ n) @Rk<|0+n+1)
 have T57:=Yo 32;have T58:=dT Z Yd (dL Z Wb @Rl 0);have T59:=dT Z Ye (dL Z Wd @Ro 6);have T60:=dT Z Yf (dL Z (Wq cB) @Rt 35);have T61:=dT Z Yg (dL Z WG @Rw 3);exact dL Z (W3 cB Xs Xt) @RG 105
theorem walk{l:PySem.W.OpenLaw}{q:Program}{loose:List Str}{XP:(Str->Option Value)->Heap->Prop}{YP:World->Heap->Prop}{d:DefRec}{K:Params->Frag}(hn:l.most=some 63)(nU:d.params.defaults=[])
  (hY:∀(w:World) (h:Heap),YP w h->(K w.params).In h)
  (F:∀(w:World) (mg:Str->Option Value) (fa:Addr) (h:Heap),(K w.params).In h->h.Ns mainGlobals mg->mg d.name=some (.ref fa)->
   ∃fd:FuncData,(∀(s:Shared) (u:Value),BindsTo s fd ⟨[u],[]⟩ [("_law_script",u)])/\∀base:Heap,(K w.params).In base->base.Ns mainGlobals mg->b7 l.prog w (K w.params) mg base nX 106 fa fd ["_law_script"] ((fun K=>(fun vs H Q _=>(sV K) vs H Q E0)) (K w.params))):
  PySem.W.WalkO q loose XP YP l.row.toRowW d [] (fun f vs=>PySem.call f vs):=
 L2.K7 (n:=63) (k:=106) (x:="_law_script") (CX:=fun _=>nX) (sp:=fun w=>(fun K=>(fun vs H Q _=>(sV K) vs H Q E0)) (K w.params)) hn (by decide) nU ⟨rfl,by decide,by decide⟩ hY F (fun _ _ a ns hl _ hS=>⟨a,ns,rfl,hS,fun _=>rfl⟩) fun _ _ _ _ _ z=>z
end L2.k7
namespace PySem.W.Fast
def tw1339843099881365800:=()
def tw15930629524148778812:=()
def tw11708445836794076474:=()
def tw5143927542387223455:=()
def tw17913013005649527394:=()
def tw5689990109703487775:=()
def tw791914637584553783:=()
def tw18095893559842009304:=()
def tw6974076168380698826:=()
def tw13722525840438927561:=()
def tw9963106253752453343:=()
def tw6541403689057617717:=()
def tw5083952728290775958:=()
def tw1105536345343566735:=()
def tw14650316835759229258:=()
def tw7287013919957213452:=()
def tw8324577204714041498:=()
def tw13484913022166132408:=()
def tw4164868624282047183:=()
def tw5930127806233715534:=()
def tw15511373542229442033:=()
def tw17790629489056857169:=()
def tw82135525280798888:=()
def tw1385959484490420183:=()
def tw6452918325169980539:=()
def tw4786192212090485084:=()
def tw7168954864948551698:=()
def tw8279867385698083897:=()
def tw16926030829566023882:=()
def tw17791590558550572260:=()
def tw13238731118105787399:=()
def tw7035204442201321081:=()
def tw9400705194017486204:=()
def tw7354351115975644613:=()
def tw8323190735655563526:=()
def tw2873079727546272969:=()
def tw13872702898222908329:=()
def tw2705242522053545716:=()
def tw15313830554615726301:=()
def tw2564983929773413759:=()
def tw10284263675400016257:=()
def tw1829258129003818215:=()
def tw12540740221950603768:=()
def tw3218468378302104793:=()
def tw1031461146610533693:=()
def tw10272659293846524464:=()
def tw12313917365307275939:=()
def tw11739767048440261055:=()
def tw5829982662273203514:=()
def tw16418742006096480253:=()
def tw9759013357305306819:=()
def tw6367545756311617357:=()
def tw13866320788137902271:=()
def tw7852901602677288878:=()
def tw5857287193878799358:=()
def tw16081662358801953242:=()
def tw7178644309287750304:=()
def tw17214079952908856859:=()
def tw74647654285894352:=()
def tw3476001618466853475:=()
def tw12854006857020019301:=()
def tw1627922314382632419:=()
def tw272378379305124579:=()
def tw17054820872831608372:=()
def tw14449315587554191956:=()
def tw7469177303787633568:=()
def tw11584302872777916768:=()
def tw5202900540582693199:=()
def tw8970624445779581728:=()
def tw12146943160110533324:=()
def tw13292551174042815521:=()
def tw6324510447223133978:=()
def tw17793552423054309217:=()
def tw4098419964492132225:=()
def tw11405043167030416993:=()
def tw2427644109442475400:=()
def tw13314267591694530512:=()
def tw558562672142371364:=()
def tw2551601305999260311:=()
def tw18378731032079260128:=()
def tw10712205469225520558:=()
def tw17386014777699245177:=()
def tw18068932410022310841:=()
def tw2136031338745471904:=()
def tw11413001254102668093:=()
def tw10171306164087097416:=()
def tw6851302293201004733:=()
def tw2938064917194391706:=()
def tw5409099011933315848:=()
def tw8105787922885048311:=()
def tw6207501821316878901:=()
def tw2006530529638516870:=()
def tw4420853479358143849:=()
def tw8334524616103774613:=()
def tw2555021038665312009:=()
def tw17919421262946026086:=()
def tw18190803248286744803:=()
def tw11698651357305591343:=()
def tw6075521631479506543:=()
def tw3978946395938145257:=()
def tw1154172551378244090:=()
def tw1142173707646015423:=()
def tw15946799957020606993:=()
def tw3851678650268378814:=()
def tw5514665238261548005:=()
def tw13857672535806299385:=()
def tw9705845059832608459:=()
def tw15903729087361041363:=()
def tw9948883509406975263:=()
def tw8898059442789589714:=()
def tw7970968944155087992:=()
def tw8274866222314295786:=()
def tw13402511106512663219:=()
def tw13315152389365484713:=()
def tw543345732399365074:=()
def tw2921001010921777578:=()
def tw16531088617795427894:=()
def tw9784243789727624615:=()
def tw10691833660555408071:=()
def tw13326684566750779797:=()
def tw11260324793057666127:=()
def tw5413048637829046052:=()
def tw2888499941013802223:=()
def tw2548301706920194780:=()
def tw3746516397104925883:=()
def tw11430785089010412975:=()
def tw13803737758003684957:=()
def tw5337756872233777273:=()
def tw589982899212536015:=()
def tw2615716143957959060:=()
def tw12050458976916959759:=()
def tw5470025060860351083:=()
def tw1046895574612652426:=()
def tw1402694305841204236:=()
def tw3627067438603806318:=()
def tw5561461298028478239:=()
def tw12518826245020430446:=()
def tw16538956181838918025:=()
def tw3114391548937895650:=()
def tw11027960418229318960:=()
def tw9013870902493551384:=()
def tw11880189538179381178:=()
def tw13807232886672669207:=()
def tw3247368336993314716:=()
def tw17984548988919727777:=()
def tw11934535118762410266:=()
def tw10458083682710358823:=()
def tw13641866207890387784:=()
def tw16280781782410827800:=()
def tw7047942381729816191:=()
def tw1553714142780839523:=()
def tw2685334714432471153:=()
def tw16275394880210893457:=()
def tw10409102127366574294:=()
def tw13779622544560804683:=()
def tw17126705751319153410:=()
def tw16020185673228431726:=()
def tw11836548670198726567:=()
def tw15178875881735671508:=()
def tw17967493060044377688:=()
def tw1914358567187359801:=()
def tw4181608384577039951:=()
def tw14792310515744629959:=()
def tw4602040589929547497:=()
def tw8992900899253904720:=()
def tw1776281113117517011:=()
def tw10436278044662476906:=()
def tw12155097481619628662:=()
def tw18275646307721487215:=()
def tw14230619113763142366:=()
def tw2685670214943972311:=()
def tw7936628582596417491:=()
def tw4166509049804758199:=()
def tw5501877027096694848:=()
def tw2232515257235908579:=()
def tw8694998727564012928:=()
def tw16209054075508628770:=()
def tw4650773776460375420:=()
def tw7782502337718924362:=()
def tw12809320635294900750:=()
def tw16734728055907187638:=()
def tw9753222233685798742:=()
def tw15057779329925426764:=()
def tw6908300334153882663:=()
def tw16649338800223773310:=()
def tw8076150142154531932:=()
end PySem.W.Fast
open PySem PySem.W PyProof.Rows
set_option maxRecDepth 100000 in
set_option maxHeartbeats 0 in
theorem PySem.Challenge.cw_inkloom_k17_whole_old_papers_holds : PySem.Challenge.rw_inkloom_k17_whole_old_papers.Holds := by
 w_on;o_law;k_head;(case hw=>w_witness2)
 k_fill
 refine L2.k7.walk (l:=PySem.Challenge.rw_inkloom_k17_whole_old_papers) rfl rfl (fun w h Y=>PySem.W.kIn_of Y) ?F
 case F=>
  intro w mg fa h KX G kz
  refine' L2.k7.all_mk KX G kz ..
  all_goals try first | refine' L2.Xh .. | refine' L2.Xk .. | refine' L2.sZ.mk .. | refine' L2.Xi .. | refine' L2.aax .. | refine' L2.Xj .. | refine' L2.nB.mk .. | refine' L2.oK.mk (L2.dh.mk ..) .. | refine' L2.jO.mk .. | refine' L2.B.jM.mk (L2.dh.mk ..) .. | refine' L2.B.cN.mk (L2.dh.mk ..) ..
  all_goals try refine' L2.Xl ..
  all_goals try first | k_is | k_exc | kernel_rfl
