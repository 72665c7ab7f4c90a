import PyProof.Rows.All
import Wide.All
import OpenK.AllK
import Wide.FinOn
import Lean
import PyProof.EqAt
import PyProof.EqKinds
import PyProof.TupleCall
import PyProof.Rows.EqDataRows
import PyProof.DictList
import PyProof.FactsAll.dict_1
import PyProof.FactsAll.subtypes_4
import KE.KTryMore
import PyProof.WalksEnum
import PyProof.EnumMake
import PyProof.ListStr
import PyProof.TupleOfStr
import PyProof.Dict
import PyProof.ToksMono
import PyProof.StrCalls6
import PyProof.StrWalks
import PyProof.ConsumeWalk
import PyProof.CallStr
import PyProof.MeetsStr
import KE.KIntText
import PyProof.StrCalls2
import PyProof.StrOps2
import KE.KDictSum
import PyProof.ReprRoads
import PyProof.StrLawsIn
import KE.KSortTup
import PyProof.WalksMore
import PyProof.TupleIter
import PyProof.Rows.StrCut
import PyProof.ListRange
import KE.KRevIter
import PyProof.SliceList
import PyProof.ZipIter
import PyProof.ListNew
import PyProof.StrLawsRepr
import PyProof.Rows.StrJoinMade
import PySem.Challenge.RW_inkloom_k35_the_server
set_option Elab.async false
set_option linter.all false
set_option maxRecDepth 100000
set_option compiler.extract_closed false
noncomputable section
theorem ji:1≤PySem.sizeLine:=by decide
theorem dc:2≤PySem.sizeLine:=by decide
theorem pI:3≤PySem.sizeLine:=by decide
theorem yi:5≤PySem.sizeLine:=by decide
theorem Nn:6≤PySem.sizeLine:=by decide
open PySem.W (Frag callWith_K cellsFrom_some emptyDict exmOne handedIn hasDictIn hideAll hideAll_get instObj kia_one kitOne kitx_dict kitx_list lookIn makesIn methodObj mroIn nsIn of_hideAll plainGet plainGet_of plainOver specialIn takerIn takesIn)
theorem zqT{p:Prop}[Decidable p](h:p):decide p=true:=decide_eq_true h
theorem zqF{p:Prop}[Decidable p](h: ¬p):decide p=false:=decide_eq_false h
theorem zqA{α:Type}{a b:List α}:(a++b).length=a.length+b.length:=List.length_append
theorem zqR(n:Nat):n≤n:=Nat.le_refl n
theorem zqZ(n:Nat):0≤n:=Nat.zero_le n
def zaa:=@List.mem_cons
def zab:=@List.not_mem_nil
def zac:=@List.length_map
def zad:=@List.append_nil
def zae:=@Bool.and_eq_true
def zaf:=@List.mem_append
def zag:=@List.mem_singleton
def zah:=@List.size_toArray
def zai:=@List.getElem?_eq_getElem
def zaj:=@List.getElem?_map
def zak:=@List.map_append
def zal:=@Nat.ne_of_lt
def zam:=@Option.some.inj
def zan:=@Bool.false_ne_true
def zao:=@List.append_assoc
def zap:=@List.getElem?_eq_some_iff
def zaq:=@List.mem_append_right
def zar:=@List.mem_of_getElem?
def zas:=@Nat.le_trans
def zat:=@Nat.lt_of_lt_of_le
def zau:=@List.mem_cons_self
def zav:=@List.mem_cons_of_mem
def zaw:=@List.map_cons
def zax:=@Int.toNat_natCast
def zay:=@List.length_cons
def zaz:=@List.length_drop
def zaA:=@Int.emod_nonneg
def zaB:=@Int.emod_lt_of_pos
def zaC:=@Bool.false_xor
def zaD:=@Nat.lt_irrefl
def zaE:=@List.nodup_cons
def zaF:=@List.length_take
def zaG:=@Bool.true_xor
def zaH:=@List.length_eq_zero_iff
def zaI:=@List.replicate_succ
def zaJ:=@List.find?_cons
def zaK:=@List.mem_append_left
def zaL:=@List.take_of_length_le
def zaM:=@Int.le_refl
def zaN:=@List.mem_map
def zaO:=@List.length_range
def zaP:=@List.getD_eq_getElem?_getD
def zaQ:=@List.cons_append
def zaR:=@Int.eq_ofNat_of_zero_le
def zaS:=@List.getElem?_append_right
def zaT:=@Bool.not_eq_true'
def zaU:=@Array.length_toList
def zaV:=@List.map_nil
def zaW:=@List.lookup_cons
def zaX:=@Int.natCast_add
def zaY:=@Nat.sub_self
def zaZ:=@List.cons_ne_nil
def zba:=@List.getElem?_append_left
def zbb:=@List.all_cons
def zbc:=@List.flatten_cons
def zbd:=@List.take_length
def zbe:=@List.cons.inj
def zbf:=@List.take_append_drop
def zbg:=@List.sum_cons
def zbh:=@Bool.eq_iff_iff
def zbi:=@Nat.le_of_eq
def zbj:=@List.length_replicate
def zbk:=@List.length_set
def zbl:=@List.any_cons
def zbm:=@List.length_singleton
def zbn:=@List.length_nil
def zbo:=@Nat.le_add_right
def zbp:=@List.all_eq_true
def zbq:=@List.mem_map_of_mem
def zbr:=@List.map_replicate
def zbs:=@Bool.or_false
def zbt:=@Option.map_some
def zbu:=@Bool.false_eq_true
def zbv:=@Nat.lt_succ_of_lt
def zbw:=@List.drop_zero
def zbx:=@List.drop_eq_getElem_cons
def zby:=@List.take_add_one
def zbz:=@List.sum_append
def zbA:=@List.mem_flatten
def zbB:=@List.mem_of_mem_drop
def zbC:=@List.nodup_nil
def zbD:=@List.getElem?_range
def zbE:=@List.filterMap_cons
def zbF:=@List.mem_filterMap
def zbG:=@List.length_dropLast
def zbH:=@Option.ne_none_iff_exists'
def zbI:=@Array.eq_empty_of_size_eq_zero
def zbJ:=@List.getLast?_append
def zbK:=@List.mem_of_mem_take
def zbL:=@List.getElem?_drop
namespace L2
open PySem PySem.Spec PyProof.Rows
abbrev Key:=Sum Int Str
def pJ:Key->Value->Bool
 |.inl k,v=>Value.isInt k v
 |.inr x,v=>Value.isStrOf x v
def Np(w:World):Key->Int
 |.inl k=>hashInt k
 |.inr x=>hashStr w x
theorem kD:∀{k:Key}{v:Value},pJ k v=true->(∃i t,k=Sum.inl i/\v=Value.int i t)\/(∃x t,k=Sum.inr x/\v=Value.str x t)
 |.inl i,v,h=>by
  obtain⟨t,e⟩:=Value.isInt_shape (k:=i) (v:=v) h;exact .inl ⟨i,t,rfl,e⟩
 |.inr x,v,h=>by
  obtain⟨t,e⟩:=Value.isStrOf_shape (x:=x) (v:=v) h;exact .inr ⟨x,t,rfl,e⟩
theorem Nq(i:Int)(t:Tok):pJ (.inl i) (.int i t)=true:=by simp[pJ,Value.isInt]
theorem Nr(x:Str)(t:Tok):pJ (.inr x) (.str x t)=true:=by simp[pJ,Value.isStrOf]
theorem Nt(a b:Int):decide ((Sum.inl a:Key)=Sum.inl b)=(a==b):=by
 by_cases e:a=b
 ·subst e;simp
 ·have h:¬(Sum.inl a:Key)=Sum.inl b:=fun q=>e (Sum.inl.inj q);rw[zqF h];exact(beq_eq_false_iff_ne.mpr e).symm
theorem Nu(a b:Str):decide ((Sum.inr a:Key)=Sum.inr b)=decide (a=b):=by
 by_cases e:a=b
 ·subst e;simp
 ·have h:¬(Sum.inr a:Key)=Sum.inr b:=fun q=>e (Sum.inr.inj q);rw[zqF h,zqF e]
theorem Nv(a:Int)(b:Str):decide ((Sum.inl a:Key)=Sum.inr b)=false:=zqF (fun q=>nomatch q)
theorem Nw(a:Str)(b:Int):decide ((Sum.inr a:Key)=Sum.inl b)=false:=zqF (fun q=>nomatch q)
def eg(prog:Program)(w:World):PySem.KeyKind prog w Key where
 is:=pJ
 hash:=Np w
 inj:=fun v a b ha hb=>by
  rcases kD ha with⟨i,t,rfl,rfl⟩|⟨x,t,rfl,rfl⟩
  ·rcases kD hb with⟨j,u,rfl,e⟩|⟨y,u,rfl,e⟩
   ·injection e with e1 _;rw[e1]
   ·exact nomatch e
  ·rcases kD hb with⟨j,u,rfl,e⟩|⟨y,u,rfl,e⟩
   ·exact nomatch e
   ·injection e with e1 _;rw[e1]
 byValue:=fun k v h=>by
  rcases kD h with⟨i,t,rfl,rfl⟩|⟨x,t,rfl,rfl⟩ <;>rfl
 pyHash:=fun hv h=>by
  rcases kD hv with⟨i,t,rfl,rfl⟩|⟨x,t,rfl,rfl⟩
  ·exact wpAny_pyHash_int h
  ·exact wpAny_pyHash_str h
 eqBool:=fun hu hv h=>by
  rcases kD hu with⟨i,t,rfl,rfl⟩|⟨x,t,rfl,rfl⟩
  ·rcases kD hv with⟨j,u,rfl,rfl⟩|⟨y,u,rfl,rfl⟩
   ·rw[Nt] at h;exact wpAny_eqBool_int h
   ·rw[Nv] at h;exact SeqAt.EqAt.int_str i t y u _ _ _ _ h
  ·rcases kD hv with⟨j,u,rfl,rfl⟩|⟨y,u,rfl,rfl⟩
   ·rw[Nw] at h;exact SeqAt.EqAt.str_int x t j u _ _ _ _ h
   ·rw[Nu] at h;exact wpAny_eqBool_str h
 «strs»:=fun k x t v h=>by
  rcases kD h with⟨i,u,rfl,e⟩|⟨y,u,rfl,e⟩
  ·exact nomatch e
  ·injection e with e1 _
   subst e1;cases v<;>rfl
theorem Dy(prog:Program)(w:World)(i:Int)(t:Tok):(eg prog w).is (.inl i) (.int i t)=true:=Nq i t
theorem Dz(prog:Program)(w:World)(x:Str)(t:Tok):(eg prog w).is (.inr x) (.str x t)=true:=Nr x t
inductive V where
 |aF|bl (b:Bool)|int (i:Int)|str (x:Str)|fg (b:Array UInt8)|iS (b:UInt64)|ref (a:Addr)|ty (n:String)
 deriving DecidableEq
def RelV:V->Value->Prop
 |.aF,u=>u=Value.none
 |.bl b,u=>u=Value.bool b
 |.int i,u=>∃t,u=Value.int i t
 |.str x,u=>∃t,u=Value.str x t
 |.fg b,u=>∃t,u=Value.bytes b t
 |.iS b,u=>∃t,u=Value.float b t
 |.ref a,u=>u=Value.ref a
 |.ty n,u=>u=Value.type n
abbrev Vals:List V->List Value->Prop:=Paired RelV
theorem Vals.length{xs:List V}{us:List Value}(r:Vals xs us):xs.length=us.length:=Paired.length r
theorem Vals.get:∀{xs:List V}{us:List Value}{i:Nat}{x:V},Vals xs us->xs[i]?=some x->∃u,us[i]?=some u/\RelV x u
 |_,_,_,_,.nil,e=>by simp at e
 |_,_,0,_,.cons r _,e=>by simp at e;subst e;exact⟨_,rfl,r⟩
 |_,_,i+1,x,.cons _ t,e=>by
  obtain⟨u,h1,h2⟩:=Vals.get (i:=i) (x:=x) t (by simpa using e)
  exact⟨u,by simpa using h1,h2⟩
theorem Vals.set{x:V}{u:Value}(r:RelV x u):∀{xs:List V}{us:List Value} (i:Nat),Vals xs us->Vals (xs.set i x) (us.set i u)
 |_,_,_,.nil=>.nil
 |_,_,0,.cons _ t=>.cons r t
 |_,_,i+1,.cons q t=>.cons q (Vals.set r i t)
theorem Vals.append:∀{xs ys:List V}{us ws:List Value},Vals xs us->Vals ys ws->Vals (xs++ys) (us++ws)
 |_,_,_,_,.nil,s=>s
 |_,_,_,_,.cons r t,s=>.cons r (Vals.append t s)
theorem Vals.take:∀{xs:List V}{us:List Value} (n:Nat),Vals xs us->Vals (xs.take n) (us.take n)
 |_,_,0,_=>.nil
 |_,_,_+1,.nil=>.nil
 |_,_,n+1,.cons r t=>.cons r (Vals.take n t)
theorem Vals.drop:∀{xs:List V}{us:List Value} (n:Nat),Vals xs us->Vals (xs.drop n) (us.drop n)
 |_,_,0,r=>r
 |_,_,_+1,.nil=>.nil
 |_,_,n+1,.cons _ t=>Vals.drop n t
def g_:Option V->Option Value->Prop
 |some v,some u=>RelV v u
 |none,none=>True
 |_,_=>False
def KV{κ:Type}:List (κ×V)->List (κ×Value)->Prop:=Paired fun(p:κ×V) (q:κ×Value)=>p.1=q.1/\RelV p.2 q.2
def kV:Key->V
 |.inl i=>.int i
 |.inr x=>.str x
inductive HO where
 |lst (xs:List V)
 |tup (xs:List V)
 |dK (kvs:List (Key×V))|dT (kvs:List (List Key×V))
 |set (S:Int->Bool) (n:Nat)
 |ins (C dx:Addr) (fs:List (Str×V))
 |own (x:Addr)
 |xd (fs:List (Str×V))
 |met (f x:Addr)
 |dz (lo hi:Int)
 |bO (o:Obj) (u:HO)
 |jO (ps:Array Value)
 |ext (φ:Heap->Prop)
abbrev Hp:=Addr->Option HO
def upd(H:Hp)(a:Addr)(o:HO):Hp:=fun b=>if b=a then some o else H b
theorem aw{H:Hp}{a:Addr}{o:HO}:upd H a o a=some o:=by unfold upd;rw[if_pos rfl]
theorem aC{H:Hp}{a b:Addr}{o:HO}(h:b≠a):upd H a o b=H b:=by unfold upd;rw[if_neg h]
theorem uT{H:Hp}{a:Addr}{o u:HO}:upd (upd H a o) a u=upd H a u:=by
 funext b;unfold upd;split<;>rfl
theorem cb{H:Hp}{a b:Addr}{o u:HO}(h:H a=some o)(h':H b=some u)(d:o≠u):a≠b:=by
 intro e;subst e;rw[h] at h';exact d (zam h')
theorem aK{H:Hp}{a b:Addr}{o:HO}(h:H a=some o)(h':H b=none):a≠b:=by
 intro e;subst e;rw[h] at h';cases h'
section
variable (P:Program) (w:World)
def cB(H:Hp)(h:Heap)(a:Addr):HO->Prop
 |.lst xs=>xs.length<=sizeLine/\∃(ah:List Value) (n:Nat),Vals xs ah/\h.get? a=some {cls:=.type "list",data:=.seq ah.toArray n}
 |.tup xs=>xs.length<=sizeLine/\∃ah:List Value,Vals xs ah/\IsTup h a ah.toArray
 |.dK kvs=>kvs.length<=sizeLine/\(a==sysModules)=false/\∃vs,KV kvs vs/\h.DictOf (eg P w) a vs
 |.dT kvs=>kvs.length<=sizeLine/\(a==sysModules)=false/\∃xs:List (List Key×Addr×Value),
   Paired (fun(p:List Key×V) (q:List Key×Addr×Value)=>p.1=q.1/\H q.2.1=some (.tup<|p.1.map kV)/\RelV p.2 q.2.2) kvs xs/\
   ∃o es ep,h.get? a=some o/\o.ExactDict/\o.data=.dict es ep/\es.toList=xs.map (entryOfKey<|tupleKind<|eg P w)/\(xs.map (·.1)).Nodup
 |.set S n=>h.SetOf (intKind P w) a S n
 |.ins C dx fs=>H dx=some (.own a)/\fs.length<=1000/\dx≠a/\h.get? a=some (instObj C dx)/\
   ∃mA,h.Ns1 dx mA/\(∀f,g_ (fs.lookup f)<|mA f)/\PySem.Within mA (fs.map (·.1))
 |.own _=>∃o,h.get? a=some o
 |.xd fs=>∃mA,h.Ns1 a mA/\∀f,g_ (fs.lookup f) (mA f)
 |.dz lo hi=>∃t u v,h.get? a=some {cls:=.type "range",data:=.fields #[.int lo t,.int hi u,.int 1 v]}
 |.bO o u=>h.get? a=some o/\cB H h a u
 |.jO ps=>h.get? a=some {cls:=.none,data:=.fields ps}
 |.met f x=>h.get? a=some (methodObj (.ref f)<|.ref x)
 |.ext φ=>φ h/\(∃o,h.get? a=some o)/\∀h1 h2:Heap,φ h1->(∀o,h1.get? a=some o->h2.get? a=some o)->φ h2
def bR(H:Hp)(h:Heap):Prop:= ∀a o,H a=some o->cB P w H h a o
end
section
variable {P:Program}{w:World}{H H':Hp}{h h':Heap}{a:Addr}{o:HO}
theorem cB.lt(x:cB P w H h a o):a<h.objs.size:=by
 cases o with
 |lst xs=>obtain⟨_,_,_,_,e⟩:=x;exact Heap.lt_size e
 |tup xs=>obtain⟨_,_,_,p⟩:=x;exact p.lt
 |dK kvs=>obtain⟨_,_,_,_,o,_,_,e,_⟩:=x;exact Heap.lt_size e
 |dT kvs=>obtain⟨_,_,_,_,o,_,_,e,_⟩:=x;exact Heap.lt_size e
 |set S n=>obtain⟨o,_,_,_,e,_⟩:=x;exact Heap.lt_size e
 |ins C dx fs=>obtain⟨_,_,_,e,_⟩:=x;exact Heap.lt_size e
 |own y=>obtain⟨_,e⟩:=x;exact Heap.lt_size e
 |xd fs=>obtain⟨_,⟨_,_,_,e,_⟩,_⟩:=x;exact Heap.lt_size e
 |dz lo hi=>obtain⟨_,_,_,e⟩:=x;exact Heap.lt_size e
 |bO ob u=>obtain⟨e,_⟩:=x;exact Heap.lt_size e
 |jO ps=>exact Heap.lt_size (show h.get? a=some _ from x)
 |met f y=>exact Heap.lt_size (show h.get? a=some _ from x)
 |ext φ=>obtain⟨_,⟨_,e⟩,_⟩:=x;exact Heap.lt_size e
theorem Paired.cH{α β:Type}{F G:α->β->Prop}:∀{l₁:List α}{l₂:List β},Paired F l₁ l₂->(∀a b,F a b->G a b)->Paired G l₁ l₂
 |_,_,.nil,_=>.nil
 |_,_,.cons r t,f=>.cons (f _ _ r) (Paired.cH t f)
theorem cB.jP(x:cB P w H h a o)(k:∀b u,(b=a\/H b=some (.own a))->h.get? b=some u->h'.get? b=some u)
  (ho:∀b,H b=some (.own a)->H' b=some (.own a)) (ht:∀b xs,H b=some (.tup xs)->H' b=some (.tup xs)):cB P w H' h' a o:=by
 induction o with
 |lst xs=>obtain⟨z,ah,n,r,e⟩:=x;exact⟨z,ah,n,r,k _ _ (.inl rfl) e⟩
 |tup xs=>obtain⟨z,ah,r,ob,e,c⟩:=x;exact⟨z,ah,r,ob,k _ _ (.inl rfl) e,c⟩
 |dK kvs=>obtain⟨z,y,vs,r,ob,es,ep,e,c⟩:=x;exact⟨z,y,vs,r,ob,es,ep,k _ _ (.inl rfl) e,c⟩
 |dT kvs=>
  obtain⟨z,y,xs,r,ob,es,ep,e,c⟩:=x;exact⟨z,y,xs,Paired.cH r fun p q z=>⟨z.1,ht _ _ z.2.1,z.2.2⟩,ob,es,ep,k _ _ (.inl rfl) e,c⟩
 |set S n=>obtain⟨ob,es,ep,t,e,c⟩:=x;exact⟨ob,es,ep,t,k _ _ (.inl rfl) e,c⟩
 |ins C dx fs=>
  obtain⟨d,z,ne,e,mA,⟨od,es,ep,e2,c⟩,r⟩:=x;exact⟨ho _ d,z,ne,k _ _ (.inl rfl) e,mA,⟨od,es,ep,k _ _ (.inr d) e2,c⟩,r⟩
 |own y=>obtain⟨ob,e⟩:=x;exact⟨ob,k _ _ (.inl rfl) e⟩
 |xd fs=>obtain⟨mA,⟨od,es,ep,e,c⟩,r⟩:=x;exact⟨mA,⟨od,es,ep,k _ _ (.inl rfl) e,c⟩,r⟩
 |dz lo hi=>obtain⟨t,u,v,e⟩:=x;exact⟨t,u,v,k _ _ (.inl rfl) e⟩
 |bO ob u ih=>obtain⟨e,q⟩:=x;exact⟨k _ _ (.inl rfl) e,ih q⟩
 |jO ps=>
  have e:h.get? a=some {cls:=.none,data:=.fields ps}:=x;show h'.get? a=some {cls:=.none,data:=.fields ps};exact k a _ (.inl rfl) e
 |met f y=>
  have e:h.get? a=some (methodObj (.ref f)<|.ref y):=x;show h'.get? a=some (methodObj (.ref f)<|.ref y);exact k a _ (.inl rfl) e
 |ext φ=>obtain⟨p,⟨o,e⟩,st⟩:=x;exact⟨st _ _ p fun o q=>k _ _ (.inl rfl) q,⟨o,k _ _ (.inl rfl) e⟩,st⟩
theorem bR.lt(x:bR P w H h)(e:H a=some o):a<h.objs.size:=(x a o e).lt
theorem bR.fresh(x:bR P w H h)(e:h.objs.size<=a):H a=none:=by
 cases q:H a with
 |none=>rfl
 |some u=>exact absurd (zat (x.lt q) e) (zaD _)
theorem bR.kept(x:bR P w H h)(k:∀b u,h.get? b=some u->h'.get? b=some u):bR P w H h':=fun a o e=>
 (x a o e).jP (fun b u _ q=>k b u q) (fun _ q=>q) fun _ _ q=>q
theorem bR.laid(x:bR P w H h)(k:∀b u,h.get? b=some u->h'.get? b=some u)(hp:h.objs.size<=a)(new:cB P w (upd H a o) h' a o):bR P w (upd H a o) h':=fun b u e=>by
 have hn:=x.fresh hp;by_cases hb:b=a
 ·subst hb;rw[aw] at e;cases e;exact new
 ·rw[aC hb] at e;exact(x b u e).jP (fun c v _ q=>k c v q) (fun c q=>by rw[aC<|aK q hn];exact q) fun c xs q=>by rw[aC<|aK q hn];exact q
end
def Rd(H:Hp)(a:Addr)(u:HO):Prop:=H a=some u\/∃o,H a=some (.bO o u)
theorem Rd.ok{P:Program}{w:World}{H:Hp}{h:Heap}{a:Addr}{u:HO}(r:Rd H a u)(x:bR P w H h):cB P w H h a u:=by
 rcases r with r|⟨o,r⟩
 ·exact x a u r
 ·obtain⟨_,q⟩:=x a _ r;exact q
def rA:Option HO->Prop
 |some (.lst _)=>True
 |some (.dK _)=>True
 |some (.dT _)=>True
 |some (.set _ _)=>True
 |some (.ins _ _ _)=>True
 |some (.ext _)=>True
 |_=>False
section
variable {P:Program}{w:World}{H:Hp}{h h':Heap}{x e:Addr}{o':HO}
theorem bR.write(ok:bR P w H h)(mu:rA (H x))(he:e=x\/H e=some (.own x))(k:∀b u,b≠e->h.get? b=some u->h'.get? b=some u)(pK:∃u,h'.get? e=some u)
  (new:cB P w (upd H x o') h' x o'):bR P w (upd H x o') h':=fun b u q=>by
 have DA:∀c y,H c=some (.own y)->c≠x:=fun c y r z=>by subst z;rw[r] at mu;exact mu
 have Nx:∀c xs,H c=some (.tup xs)->c≠x:=fun c xs r z=>by subst z;rw[r] at mu;exact mu
 by_cases hb:b=x
 ·subst hb;rw[aw] at q;cases q;exact new
 ·rw[aC hb] at q;by_cases nC:b=e
  ·have q':H b=some (.own x):=by
    rcases he with z|z
    ·exact absurd (nC.trans z) hb
    ·rw[nC];exact z
   rw[q] at q';cases q';obtain⟨v,hv⟩:=pK;exact⟨v,by rw[nC];exact hv⟩
  ·refine(ok b u q).jP (fun c v hc r=>k c v ?_ r) (fun c r=>by rw[aC<|DA c b r];exact r) fun c xs r=>by rw[aC<|Nx c xs r];exact r
   rcases hc with rfl|hc
   ·exact nC
   ·rintro rfl;rcases he with z|z
    ·exact DA c b hc z
    ·rw[hc] at z;cases z;exact hb rfl
end
structure Un (fs ex:List Addr) (H H':Hp) (h h':Heap):Prop where
 keep:∀b o,h.get? b=some o->H b=none->b∉fs->b∉ex->h'.get? b=some o
 slot:∀b o,h.get? b=some o->H b=none->b∈fs->b∉ex->∃sl,h'.get? b=some {o with slots:=sl}
 free:∀b o,h.get? b=some o->H b=none->b∉ex->H' b=none
 there:∀b o,h.get? b=some o->b∉ex->∃o',h'.get? b=some o'
 dP:∀b xs,H b=some (.tup xs)->H' b=some (.tup xs)
 fO:∀b o u,H b=some (.bO o u)->H' b=some (.bO o u)
 gB:∀b ps,H b=some (.jO ps)->∃more,H' b=some (.jO<|ps++more)
section
variable {fs rB ex ex':List Addr}{H H1 H2:Hp}{h h1 h2 h':Heap}{a x e:Addr}{o:HO}
theorem Un.any(u:Un fs ex H H1 h h1){b:Addr}{ob:Obj}(q:h.get? b=some ob)(n:H b=none)(hx:b∉ex):∃sl,h1.get? b=some {ob with slots:=sl}:=by
 by_cases hb:b∈fs
 ·exact u.slot b ob q n hb hx
 ·exact⟨ob.slots,u.keep b ob q n hb hx⟩
theorem Un.kept(k:∀b u,h.get? b=some u->h'.get? b=some u):Un fs ex H H h h':=
 ⟨fun b ob q _ _ _=>k b ob q,fun b ob q _ _ _=>⟨ob.slots,k b ob q⟩,fun _ _ _ n _=>n,fun b ob q _=>⟨ob,k b ob q⟩,fun _ _ q=>q,fun _ _ _ q=>q,fun _ ps q=>⟨#[],by rw[q];simp⟩⟩
theorem Un.refl:Un fs ex H H h h:=Un.kept fun _ _ q=>q
theorem Un.laid(k:∀b u,h.get? b=some u->h'.get? b=some u)(hp:h.objs.size<=a)(hn:H a=none):Un fs ex H (upd H a o) h h' where
 keep:=fun b u q _ _ _=>k b u q
 slot:=fun b u q _ _ _=>⟨u.slots,k b u q⟩
 free:=fun b u q n _=>by rw[aC<|zal<|zat (Heap.lt_size q) hp];exact n
 there:=fun b u q _=>⟨u,k b u q⟩
 dP:=fun b xs q=>by rw[aC<|aK q hn];exact q
 fO:=fun b u xs q=>by rw[aC<|aK q hn];exact q
 gB:=fun b ps q=>⟨#[],by rw[aC<|aK q hn,q];simp⟩
theorem Un.write(mu:rA (H x))(he:e=x\/H e=some (.own x))(k:∀b u,b≠e->h.get? b=some u->h'.get? b=some u)(pK:∃u,h'.get? e=some u):Un fs ex H (upd H x o) h h':=by
 have hx:∀b,H b=none->b≠x:=fun b n z=>by subst z;rw[n] at mu;exact mu
 have hb:∀b,H b=none->b≠e:=fun b n z=>by
  subst z;rcases he with r|r
  ·exact hx b n r
  ·rw[n] at r;cases r
 have hm:∀b u,H b=some u-> ¬rA (some u)->b≠x:=fun b u q nm z=>by subst z;rw[q] at mu;exact nm mu
 refine⟨fun b u q n _ _=>k b u (hb b n) q,fun b u q n _ _=>⟨u.slots,k b u (hb b n) q⟩,fun b u q n _=>by rw[aC (hx b n)];exact n,fun b u q _=>?_,
  fun b xs q=>by rw[aC (hm b _ q fun z=>z)];exact q,fun b u xs q=>by rw[aC (hm b _ q fun z=>z)];exact q,fun b ps q=>⟨#[],by rw[aC (hm b _ q fun z=>z),q];simp⟩⟩
 by_cases nC:b=e
 ·subst nC;exact pK
 ·exact⟨u,k b u nC q⟩
end
def jQ(h:Heap)(H:Hp):List Addr:=(List.range h.objs.size).filter fun a=>(H a).isSome
def kE(h:Heap)(H:Hp):Heap:=hideAll h (jQ h H)
theorem Ny(h:Heap)(H:Hp):(kE h H).objs.size=h.objs.size:=PySem.W.hideAll_size _ _
theorem Nz{h:Heap}{H:Hp}{b:Addr}{o:Obj}(e:h.get? b=some o)(n:H b=none):(kE h H).get? b=some o:=
 hideAll_get _ e fun hm=>by
  have q:(H b).isSome=true:=(List.mem_filter.mp hm).2;rw[n] at q;simp at q
theorem NA{h:Heap}{H:Hp}{b:Addr}{o:Obj}(e:(kE h H).get? b=some o):h.get? b=some o/\H b=none:=by
 have e':h.get? b=some o:=of_hideAll (jQ h H) e;refine⟨e',?_⟩;cases q:H b with
 |none=>rfl
 |some x=>
  have hm:b∈jQ h H:=List.mem_filter.mpr ⟨List.mem_range.mpr<|Heap.lt_size e',by simp[q]⟩
  have z:(kE h H).get? b=none:=PySem.W.hideAll_none (jQ h H) hm;rw[z] at e;cases e
structure Mod (K:Frag) (mg:Str->Option Value) (base:Heap):Prop where
 rC:K.In base
 glob:base.Ns mainGlobals mg
 blt:∃mb,base.Ns builtinsNs mb/\∀x:Str,x≠"__name__"->mb x=bootBuiltins x
 nolimit:base.NoLimit
structure Cx where
 prog:Program
 w:World
 K:Frag
 mg:Str->Option Value
 base:Heap
 A:Around
 N:List Str
 s₀:Shared
 H₀:Hp
 env:Env
 outer:List Env
 stack:List Env
 ex:List Addr
 fn:Str->Bool
 calm:Bool
 pn:List (Addr×Obj)
 xe:Value->Shared->Prop
def bx(l:List Env):List Addr:=l.filterMap (·.frame)
abbrev Cx.fs(X:Cx):List Addr:=bx X.outer
def uU(sc:Scope)(x:Str):Prop:=sc.names.lookup x=some .local\/sc.names.lookup x=some .cell\/sc.names.lookup x=some .free
def Loc(sc:Scope)(x:Str):Prop:=sc.names.lookup x=some .local\/sc.names.lookup x=some .cell
def Look(env:Env)(h:Heap)(m:Str->Option Value)(x:Str)(u:Value):Prop:=
 (env.kindOf x=some .local/\m x=some u)\/((env.kindOf x=some .cell\/env.kindOf x=some .free)/\∃c,env.cells.lookup x=some c/\h.IsCell c (some u))
structure Cx.Ok (X:Cx):Prop where
 mod:Mod X.K X.mg X.base
 kind:X.env.scope.kind=.function
 glob:X.env.globals=mainGlobals
 blt:X.env.builtins=builtinsNs
 above:X.s₀.heap.objs.size<=X.env.locals
 inj:∀x y c,X.env.cells.lookup x=some c->X.env.cells.lookup y=some c->x=y
 has:∀x,(X.env.kindOf x=some .cell\/X.env.kindOf x=some .free)->∃c,X.env.cells.lookup x=some c
 uV:∀x c,X.fn x=true->X.env.cells.lookup x=some c->X.s₀.heap.objs.size<=c
 hd:X.calm=true->X.A.handled=none
 frames:X.A.frames=some X.stack
 jj:X.stack=X.outer\/(X.stack=X.env::X.outer/\X.env.frame=some X.env.locals)
 NB:∀b∈X.ex,b≠X.env.locals/\∀x c,X.env.cells.lookup x=some c->c≠b
 bs:∀b o,X.base.get? b=some o->X.s₀.heap.get? b=some o/\X.H₀ b=none
 nE:X.base.objs.size<=X.s₀.heap.objs.size
 uW:∀b o,X.base.get? b=some o->b∉X.ex
 uX:∀b∈X.ex,b∉X.fs
 jk:X.s₀.heap.FunFrames X.base X.outer
 pL:∀b∈X.fs,X.H₀ b=none
structure Inv (X:Cx) (pins:List (Addr×Obj)) (σ:List (Option V)) (H:Hp) (s:Shared):Prop where
 ok:X.Ok
 os:s.os=X.s₀.os
 bare:AllBare s.gens
 base:Un X.fs X.ex X.H₀ H X.s₀.heap s.heap
 loc:∃m,s.heap.Ns X.env.locals m/\∀(i:Nat) (x:Str) (v:V),X.N[i]?=some x->σ[i]?=some (some v)->uU X.env.scope x->∃u,RelV v u/\Look X.env s.heap m x u
 cell:∀x c,X.env.cells.lookup x=some c->∃v,s.heap.IsCell c v
 free:H X.env.locals=none
 ir:∀x c,X.env.cells.lookup x=some c->H c=none
 pin:∀p∈X.pn++pins,s.heap.get? p.1=some p.2/\H p.1=none/\p.1≠X.env.locals/\p.1∉X.fs/\∀v,p.2.data≠ .cell v
 aE:bR X.prog X.w H s.heap
 len:σ.length=X.N.length
section
variable {X:Cx}{pins:List (Addr×Obj)}{σ:List (Option V)}{H H':Hp}{s:Shared}{h':Heap}
theorem Cx.Ok.NC(ok:X.Ok){b:Addr}{o:Obj}(e:X.base.get? b=some o):b∉X.fs:=fun hb=>by
 have:=(ok.jk.mem hb).1;rw[e] at this;cases this
theorem Inv.bs(I:Inv X pins σ H s):∀b o,X.base.get? b=some o->s.heap.get? b=some o/\H b=none:=fun b o e=>
 ⟨I.base.keep b o (I.ok.bs b o e).1 (I.ok.bs b o e).2 (I.ok.NC e)<|I.ok.uW b o e,I.base.free b o (I.ok.bs b o e).1 (I.ok.bs b o e).2<|I.ok.uW b o e⟩
theorem Inv.bk(I:Inv X pins σ H s):∀b o,X.base.get? b=some o->s.heap.get? b=some o:=fun b o e=>(I.bs b o e).1
theorem Inv.mod(I:Inv X pins σ H s):Mod X.K X.mg X.base:=I.ok.mod
theorem Inv.c5(I:Inv X pins σ H s):X.K.In s.heap:=I.ok.mod.rC.keeps I.bk
theorem Inv.lt(I:Inv X pins σ H s):X.env.locals<s.heap.objs.size:=let ⟨_,hn,_⟩:=I.loc;hn.lt
theorem Inv.sz(I:Inv X pins σ H s):X.s₀.heap.objs.size<=s.heap.objs.size:=zas I.ok.above (Nat.le_of_lt I.lt)
theorem Inv.DB(I:Inv X pins σ H s){a:Addr}(h:s.heap.objs.size<=a):a∉X.fs:=fun hb=>by
 obtain⟨_,o,ho,_⟩:=I.ok.jk.mem hb;exact absurd (zat (Heap.lt_size ho)<|zas I.sz h)<|zaD _
theorem Inv.nF(I:Inv X pins σ H s):∀x c,X.env.cells.lookup x=some c->c≠X.env.locals:=fun x c e z=>by
 obtain⟨v,o,ho,hd⟩:=I.cell x c e;obtain⟨m,⟨o',es,ep,dA,nG,_⟩,_⟩:=I.loc;rw[z,dA] at ho;cases ho;rw[nG] at hd;cases hd
theorem Inv.jk(I:Inv X pins σ H s):s.heap.FunFrames X.base X.outer:=by
 have all:∀(l:List Env),(∀b∈bx l,b∈X.fs)->X.s₀.heap.FunFrames X.base l->s.heap.FunFrames X.base l:=by
  intro l
  induction l with
  |nil=>intro _ _;trivial
  |cons env r ih=>
   intro hs hl;obtain⟨hk,⟨L,o,hf,hn,ho,hd⟩,hr⟩:=hl;have hL:L∈X.fs:=hs L (by unfold bx;rw[zbE,hf];exact zau)
   obtain⟨sl,e⟩:=I.base.slot L o ho (I.ok.pL L hL) hL fun z=>I.ok.uX L z hL;exact⟨hk,⟨L,_,hf,hn,e,hd⟩,ih (fun b hb=>hs b (by unfold bx;rw[zbE,hf];exact zav _ hb)) hr⟩
 exact all X.outer (fun _ hb=>hb) I.ok.jk
theorem Inv.stack(I:Inv X pins σ H s):s.heap.FunFrames X.base X.stack:=by
 rcases I.ok.jj with e|⟨e,hf⟩
 ·rw[e];exact I.jk
 ·rw[e];obtain⟨m,hn,_⟩:=I.loc;refine .cons (by rw[I.ok.kind];decide) hf hn ?_ I.jk
  exact Heap.get?_none_of_le<|zas I.ok.nE I.ok.above
theorem Inv.uY(I:Inv X pins σ H s):∀b∈bx X.stack,b∈X.env.locals::X.fs:=fun b hb=>by
 rcases I.ok.jj with e|⟨e,hf⟩
 ·rw[e] at hb;exact zav _ hb
 ·rw[e] at hb;unfold bx at hb;rw[zbE,hf] at hb;exact hb
theorem Inv.uZ(I:Inv X pins σ H s):∀b∈bx X.stack,H b=none:=fun b hb=>by
 rcases zaa.mp (I.uY b hb) with e|hb
 ·rw[e];exact I.free
 ·obtain⟨_,o,ho,_⟩:=I.ok.jk.mem hb;exact I.base.free b o ho (I.ok.pL b hb) fun z=>I.ok.uX b z hb
theorem Inv.step{g':Array GenState}{t':Nat}{d':Drawn}{ch:List Addr}(I:Inv X pins σ H s)
  (bu:∀b∈ch,(b∈X.ex\/X.s₀.heap.objs.size<=b)/\b≠X.env.locals/\(∀x c,X.env.cells.lookup x=some c->c≠b)/\∀p∈X.pn++pins,p.1≠b)
  (keep:∀b o,b≠X.env.locals->b∉X.fs->b∉ch->s.heap.get? b=some o->H b=none->h'.get? b=some o)
  (slot:∀b o,b≠X.env.locals->b∈X.fs->b∉ch->s.heap.get? b=some o->H b=none->∃sl,h'.get? b=some {o with slots:=sl}) (free:∀b o,b∉ch->s.heap.get? b=some o->H b=none->H' b=none)
  (there:∀b o,b∉ch->s.heap.get? b=some o->∃o',h'.get? b=some o')
  (dP:∀b xs,H b=some (.tup xs)->H' b=some (.tup xs)) (fO:∀b o u,H b=some (.bO o u)->H' b=some (.bO o u)) (gB:∀b ps,H b=some (.jO ps)->∃more,H' b=some (.jO<|ps++more))
  (ns:∀m,s.heap.Ns X.env.locals m->h'.Ns X.env.locals m) (aE:bR X.prog X.w H' h') (hg:AllBare g'):
  Inv X pins σ H' {s with heap:=h',gens:=g',drawn:=d',toks:=t'}:=by
 have DC:∀b o,X.s₀.heap.get? b=some o->b≠X.env.locals:=fun b o e=>zal (zat (Heap.lt_size e) I.ok.above);have u_:∀b o,X.s₀.heap.get? b=some o->b∉X.ex->b∉ch:=fun b o e hx hb=>by
  rcases (bu b hb).1 with z|z
  ·exact hx z
  ·exact absurd (zat (Heap.lt_size e) z) (zaD _)
 have cellK:∀x c,X.env.cells.lookup x=some c->∀v,s.heap.IsCell c v->h'.IsCell c v:=fun x c e v ⟨o,ho,hd⟩=>by
  have iu:c∉ch:=fun z=>(bu c z).2.2.1 x c e rfl;by_cases hc:c∈X.fs
  ·obtain⟨sl,q⟩:=slot c o (I.nF x c e) hc iu ho (I.ir x c e);exact⟨_,q,hd⟩
  ·exact⟨o,keep c o (I.nF x c e) hc iu ho<|I.ir x c e,hd⟩
 refine⟨I.ok,I.os,hg,⟨fun b o e n hb hx=>?_,fun b o e n hb hx=>?_,fun b o e n hx=>?_,fun b o e hx=>?_,fun b xs e=>dP b xs<|I.base.dP b xs e,fun b o xs e=>fO b o xs<|I.base.fO b o xs e,fun b ps e=>?_⟩,?_,fun x c e=>?_,?_,fun x c e=>?_,fun p hp=>?_,aE,I.len⟩
 ·exact keep b o (DC b o e) hb (u_ b o e hx) (I.base.keep b o e n hb hx) (I.base.free b o e n hx)
 ·obtain⟨sl,e1⟩:=I.base.slot b o e n hb hx;obtain⟨ND,e2⟩:=slot b _ (DC b o e) hb (u_ b o e hx) e1 (I.base.free b o e n hx);exact⟨ND,e2⟩
 ·obtain⟨o',e1⟩:=I.base.there b o e hx;exact free b o' (u_ b o e hx) e1<|I.base.free b o e n hx
 ·obtain⟨o',e1⟩:=I.base.there b o e hx;exact there b o' (u_ b o e hx) e1
 ·obtain⟨m1,e1⟩:=I.base.gB b ps e;obtain⟨m2,e2⟩:=gB b _ e1;exact⟨m1++m2,by rw[e2,Array.append_assoc]⟩
 ·obtain⟨m,hn,hl⟩:=I.loc;refine⟨m,ns m hn,fun i x v e1 e2 e3=>?_⟩;obtain⟨u,r,l⟩:=hl i x v e1 e2 e3;refine⟨u,r,?_⟩;rcases l with l|⟨k,c,e,z⟩
  ·exact .inl l
  ·exact .inr ⟨k,c,e,cellK x c e _ z⟩
 ·obtain⟨v,z⟩:=I.cell x c e;exact⟨v,cellK x c e v z⟩
 ·obtain⟨m,⟨o,_,_,ho,_⟩,_⟩:=I.loc;exact free _ o (fun z=>(bu _ z).2.1 rfl) ho I.free
 ·obtain⟨v,o,ho,hd⟩:=I.cell x c e;exact free c o (fun z=>(bu c z).2.2.1 x c e rfl) ho<|I.ir x c e
 ·obtain⟨e,n,ne,nf,d⟩:=I.pin p hp;have iu:p.1∉ch:=fun z=>(bu p.1 z).2.2.2 p hp rfl;exact⟨keep p.1 p.2 ne nf iu e n,free p.1 p.2 iu e n,ne,nf,d⟩
theorem Inv.un{t':Nat}(I:Inv X pins σ H s)(u:Un X.fs [] H H' s.heap h')(aE:bR X.prog X.w H' h'):Inv X pins σ H' {s with heap:=h',toks:=t'}:=by
 obtain⟨m,⟨o,es,ep,ho,r⟩,_⟩:=id I.loc;obtain⟨sl,hL⟩:=u.any ho I.free (by simp)
 exact I.step (g':=s.gens) (d':=s.drawn) (ch:=[]) (fun _ z=>nomatch z) (fun b o _ hb _ e n=>u.keep b o e n hb (by simp)) (fun b o _ hb _ e n=>u.slot b o e n hb (by simp)) (fun b o _ e n=>u.free b o e n (by simp)) (fun b o _ e=>u.there b o e (by simp)) u.dP u.fO u.gB (fun m' hm=>by
  obtain⟨o',yj,yk,dA,r'⟩:=hm;rw[ho] at dA;cases dA;exact⟨_,yj,yk,hL,r'⟩) aE I.bare
theorem Inv.call{g':Array GenState}{t':Nat}{d':Drawn}{ch:List Addr}(I:Inv X pins σ H s)(u:Un (bx X.stack) ch H H' s.heap h')(aE:bR X.prog X.w H' h')(hg:AllBare g')
  (bu:∀b∈ch,(b∈X.ex\/X.s₀.heap.objs.size<=b)/\b≠X.env.locals/\(∀x c,X.env.cells.lookup x=some c->c≠b)/\∀p∈X.pn++pins,p.1≠b):
  Inv X pins σ H' {s with heap:=h',gens:=g',drawn:=d',toks:=t'}:=by
 obtain⟨m,⟨o,es,ep,ho,r⟩,_⟩:=id I.loc;obtain⟨sl,hL⟩:=u.any ho I.free fun z=>(bu _ z).2.1 rfl;exact I.step (ch:=ch) bu (fun b o hL hb hc e n=>u.keep b o e n (fun z=>(zaa.mp (I.uY b z)).elim hL hb) hc) (fun b o _ _ hc e n=>u.any e n hc) (fun b o hc e n=>u.free b o e n hc) (fun b o hc e=>u.there b o e hc) u.dP u.fO u.gB (fun m' hm=>by
  obtain⟨o',yj,yk,dA,r'⟩:=hm;rw[ho] at dA;cases dA;exact⟨_,yj,yk,hL,r'⟩) aE hg
theorem Inv.turned{t':Nat}{it:Addr}(I:Inv X pins σ H s)(k:∀b o,b≠it->s.heap.get? b=some o->h'.get? b=some o)(hn:H it=none)(hL:it≠X.env.locals)
  (h1:it∈X.ex\/X.s₀.heap.objs.size<=it) (h2:∀x c,X.env.cells.lookup x=some c->c≠it) (h3:∀p∈X.pn++pins,p.1≠it):Inv X pins σ H {s with heap:=h',toks:=t'}:=by
 have DD:∀b u,H b=some u->b≠it:=fun b u e z=>by rw[z,hn] at e;cases e
 refine I.step (g':=s.gens) (d':=s.drawn) (ch:=[it]) (fun b hb=>?_) (fun b o _ _ hc e _=>k b o (fun z=>hc (by simp[z])) e) (fun b o _ _ hc e _=>⟨o.slots,k b o (fun z=>hc (by simp[z])) e⟩) (fun _ _ _ _ n=>n)
  (fun b o hc e=>⟨o,k b o (fun z=>hc (by simp[z])) e⟩) (fun _ _ e=>e) (fun _ _ _ e=>e) (fun b ps e=>⟨#[],by rw[e];simp⟩) (fun m hm=>?_) (fun b u e=>?_) I.bare
 ·have e:b=it:=by simpa using hb
  subst e;exact⟨h1,hL,h2,h3⟩
 ·obtain⟨o,es,ep,ho,r⟩:=hm;exact⟨o,es,ep,k _ o (Ne.symm hL) ho,r⟩
 ·refine(I.aE b u e).jP (fun c v hc q=>k c v ?_ q) (fun _ q=>q) fun _ _ q=>q;rcases hc with z|z
  ·rw[z];exact DD b u e
  ·exact DD c _ z
theorem Inv.tok(I:Inv X pins σ H s)(t:Nat):Inv X pins σ H {s with toks:=t}:=I.un (h':=s.heap) (t':=t) Un.refl I.aE
theorem Inv.kept{t':Nat}(I:Inv X pins σ H s)(k:∀b u,s.heap.get? b=some u->h'.get? b=some u):Inv X pins σ H {s with heap:=h',toks:=t'}:=I.un (Un.kept k) (I.aE.kept k)
theorem Inv.laid{a:Addr}{o:HO}{t':Nat}(I:Inv X pins σ H s)(k:∀b u,s.heap.get? b=some u->h'.get? b=some u)(hp:s.heap.objs.size<=a)(new:cB X.prog X.w (upd H a o) h' a o):
  Inv X pins σ (upd H a o) {s with heap:=h',toks:=t'}:=I.un (Un.laid k hp<|I.aE.fresh hp) (I.aE.laid k hp new)
theorem Inv.write{x e:Addr}{o:HO}{t':Nat}(I:Inv X pins σ H s)(mu:rA (H x))(he:e=x\/H e=some (.own x))(k:∀b u,b≠e->s.heap.get? b=some u->h'.get? b=some u)(pK:∃u,h'.get? e=some u)
  (new:cB X.prog X.w (upd H x o) h' x o):Inv X pins σ (upd H x o) {s with heap:=h',toks:=t'}:=I.un (Un.write mu he k pK) (I.aE.write mu he k pK new)
theorem Inv.pM{iU:List (Addr×Obj)}(I:Inv X pins σ H s)(h:∀p∈iU,s.heap.get? p.1=some p.2/\H p.1=none/\p.1≠X.env.locals/\p.1∉X.fs/\∀v,p.2.data≠ .cell v):Inv X iU σ H s:=
 ⟨I.ok,I.os,I.bare,I.base,I.loc,I.cell,I.free,I.ir,fun p hp=>(zaf.mp hp).elim (fun z=>I.pin p<|zaK _ z)<|h p,I.aE,I.len⟩
theorem DE{N:List Str}(hN:N.Nodup){i j:Nat}{x:Str}(a:N[i]?=some x)(b:N[j]?=some x):i=j:=by
 obtain⟨h1,e1⟩:=zap.mp a;obtain⟨h2,e2⟩:=zap.mp b;exact(List.getElem_inj hN).mp<|e1.trans e2.symm
theorem DF{M:Model}{A:Around}{E:Value->Shared->Prop}{i:Nat}{x:Str}{v:V}{u:Value}{Q:Unit->Shared->Prop}(I:Inv X pins σ H s)(hN:X.N.Nodup)(hi:X.N[i]?=some x)(hx:Loc X.env.scope x)(r:RelV v u)
  (h:∀s',Inv X pins (σ.set i<|some v) H s'->(∃a,Heap.SameBut a s.heap s'.heap/\(a=X.env.locals\/X.env.cells.lookup x=some a))->Q () s') (hf:X.fn x=true\/X.env.scope.names.lookup x=some .local:=by first|exact .inl rfl|exact .inr rfl|assumption):wpAny M A (storeName X.env x u) Q E s:=by
 obtain⟨m,hn,hl⟩:=id I.loc;have NF:(X.env.scope.kind==.class ||(X.env.scope.kind==.module && X.env.locals !=X.env.globals))=false:=by rw[I.ok.kind];rfl
 have DG:i<σ.length:=by rw[I.len];exact(zap.mp hi).1
 have nF:=I.nF;have tracked:∀{a:Addr}{h':Heap},(∃o,s.heap.get? a=some o/\H a=none)->Heap.SameBut a s.heap h'->bR X.prog X.w H h':=fun {a h'} ha hs b ob e=>by
  obtain⟨_,_,yl⟩:=ha;refine(I.aE b ob e).jP (fun c w' hc q=>(hs.2 c ?_).trans q) (fun _ q=>q) fun _ _ q=>q;rintro rfl;rcases hc with rfl|hc
  ·rw[yl] at e;cases e
  ·rw[yl] at hc;cases hc
 rcases hx with hk|hk
 ·refine wpAny_storeName_local hk hn (fun h' NG hs=>?_) NF;obtain⟨oL,_,_,NH,_⟩:=id hn;refine h _ ⟨I.ok,I.os,I.bare,⟨fun b o e n hb hx=>?_,fun b o e n hb hx=>?_,I.base.free,fun b o e hx=>?_,I.base.dP,I.base.fO,I.base.gB⟩,⟨_,NG,fun j y v' e1 e2 e3=>?_⟩,fun y c e=>?_,I.free,I.ir,fun p hp=>?_,tracked ⟨oL,NH,I.free⟩ hs,by simpa using I.len⟩ ⟨_,hs,.inl rfl⟩
  ·exact(hs.2 b<|zal<|zat (Heap.lt_size e) I.ok.above).trans (I.base.keep b o e n hb hx)
  ·obtain⟨sl,e1⟩:=I.base.slot b o e n hb hx;exact⟨sl,(hs.2 b<|zal<|zat (Heap.lt_size e) I.ok.above).trans e1⟩
  ·obtain⟨o',e1⟩:=I.base.there b o e hx;exact⟨o',(hs.2 b<|zal<|zat (Heap.lt_size e) I.ok.above).trans e1⟩
  ·by_cases hj:j=i
   ·subst hj;rw[hi] at e1;cases e1;rw[List.getElem?_set_self DG] at e2;cases e2;exact⟨u,r,.inl ⟨hk,by simp⟩⟩
   ·rw[List.getElem?_set_ne<|Ne.symm hj] at e2;obtain⟨u',r',q⟩:=hl j y v' e1 e2 e3;refine⟨u',r',?_⟩;rcases q with⟨k,e⟩|⟨k,c,e,z⟩
    ·refine .inl ⟨k,?_⟩;have:y≠x:=fun e=>hj (DE hN e1<|e ▸ hi)
     simp[this,e]
    ·exact .inr ⟨k,c,e,z.sameBut hs<|nF y c e⟩
  ·obtain⟨w',z⟩:=I.cell y c e;exact⟨w',z.sameBut hs<|nF y c e⟩
  ·obtain⟨e,n,ne,nf,d⟩:=I.pin p hp;exact⟨(hs.2 p.1 ne).trans e,n,ne,nf,d⟩
 ·have ym:X.fn x=true:=by
   rcases hf with z|z
   ·exact z
   ·rw[z] at hk;cases hk
  obtain⟨c,hc⟩:=I.ok.has x (.inl hk);obtain⟨w',z⟩:=I.cell x c hc;refine wpAny_storeName_cell I.ok.kind hk hc z<|fun h' hG hs=>?_;obtain⟨oc,DH,NI⟩:=id z;refine h {s with heap:=h'} ⟨I.ok,I.os,I.bare,⟨fun b o e n hb hx=>?_,fun b o e n hb hx=>?_,I.base.free,fun b o e hx=>?_,I.base.dP,I.base.fO,I.base.gB⟩,⟨m,hn.sameBut hs<|Ne.symm<|nF x c hc,fun j y v' e1 e2 e3=>?_⟩,fun y c' e=>?_,I.free,I.ir,fun p hp=>?_,tracked ⟨oc,DH,I.ir x c hc⟩ hs,by simpa using I.len⟩ ⟨c,hs,.inr hc⟩
  ·exact(hs.2 b<|zal<|zat (Heap.lt_size e)<|I.ok.uV x c ym hc).trans (I.base.keep b o e n hb hx)
  ·obtain⟨sl,e1⟩:=I.base.slot b o e n hb hx;exact⟨sl,(hs.2 b<|zal<|zat (Heap.lt_size e)<|I.ok.uV x c ym hc).trans e1⟩
  ·obtain⟨o',e1⟩:=I.base.there b o e hx;exact⟨o',(hs.2 b<|zal<|zat (Heap.lt_size e)<|I.ok.uV x c ym hc).trans e1⟩
  ·by_cases hj:j=i
   ·subst hj;rw[hi] at e1;cases e1;rw[List.getElem?_set_self DG] at e2;cases e2;exact⟨u,r,.inr ⟨.inl hk,c,hc,hG⟩⟩
   ·rw[List.getElem?_set_ne<|Ne.symm hj] at e2;obtain⟨u',r',q⟩:=hl j y v' e1 e2 e3;refine⟨u',r',?_⟩;rcases q with q|⟨k,c',e,z'⟩
    ·exact .inl q
    ·refine .inr ⟨k,c',e,z'.sameBut hs ?_⟩;rintro rfl;exact hj<|DE hN e1<|I.ok.inj _ _ _ e hc ▸ hi
  ·by_cases DI:c'=c
   ·subst DI;exact⟨_,hG⟩
   ·obtain⟨w2,z2⟩:=I.cell y c' e;exact⟨w2,z2.sameBut hs DI⟩
  ·obtain⟨e,n,ne,nf,d⟩:=I.pin p hp;refine⟨(hs.2 p.1 ?_).trans e,n,ne,nf,d⟩;intro q;rw[q,DH] at e;have q':oc=p.2:=zam e;exact d w' (by rw[<-q'];exact NI)
theorem DJ{M:Model}{A:Around}{E:Value->Shared->Prop}{i:Nat}{x:Str}{v:V}{u:Value}{Q:Unit->Shared->Prop}(I:Inv X pins σ H s)(hN:X.N.Nodup)(hi:X.N[i]?=some x)(hx:Loc X.env.scope x)(r:RelV v u)
  (h:∀s',Inv X pins (σ.set i<|some v) H s'->Q () s') (hf:X.fn x=true\/X.env.scope.names.lookup x=some .local:=by first|exact .inl rfl|exact .inr rfl|assumption):wpAny M A (storeName X.env x u) Q E s:=
 DF I hN hi hx r (fun s' I' _=>h s' I') hf
theorem Inv.yn{s':Shared}{ch:List Addr}(I:Inv X pins σ H s)(ho:s'.os=s.os)(u:Un (bx X.stack) ch H H' s.heap s'.heap)(aE:bR X.prog X.w H' s'.heap)(hg:AllBare s'.gens)
  (bu:∀b∈ch,(b∈X.ex\/X.s₀.heap.objs.size<=b)/\b≠X.env.locals/\(∀x c,X.env.cells.lookup x=some c->c≠b)/\∀p∈X.pn++pins,p.1≠b):Inv X pins σ H' s':=by
 obtain⟨h',g',d',t',o'⟩:=s';have e:o'=s.os:=ho;subst e;exact I.call (g':=g') (t':=t') (d':=d') u aE hg bu
end
abbrev XK:=Value->Option Addr->Hp->Prop
abbrev St:=List (Option V)
abbrev VK:=V->Hp->Prop
abbrev TE:=St->Hp->VK->Prop
abbrev TT:=St->Hp->(Bool->Hp->Prop)->Prop
abbrev TA:=St->Hp->(List V->Hp->Prop)->Prop
structure Ends where
 nx:St->Hp->Prop
 rt:VK
 bk:St->Hp->Prop:=fun _ _=>False
 ct:St->Hp->Prop:=fun _ _=>False
abbrev TS:=Ends->St->Hp->Prop
def EP(X:Cx)(pins:List (Addr×Obj))(σ:St)(Q:VK)(u:Value)(s':Shared):Prop:= ∃v H',Inv X pins σ H' s'/\RelV v u/\Q v H'
def TP(X:Cx)(pins:List (Addr×Obj))(σ:St)(Q:Bool->Hp->Prop)(b:Bool)(s':Shared):Prop:= ∃H',Inv X pins σ H' s'/\Q b H'
def AP(X:Cx)(pins:List (Addr×Obj))(σ:St)(Q:List V->Hp->Prop)(us:List Value)(s':Shared):Prop:= ∃vs H',Inv X pins σ H' s'/\Vals vs us/\Q vs H'
def SP(X:Cx)(pins:List (Addr×Obj))(D:Ends)(f:Flow)(s':Shared):Prop:=
 match f with
 |.next=>∃σ' H',Inv X pins σ' H' s'/\D.nx σ' H'
 |.brk=>∃σ' H',Inv X pins σ' H' s'/\D.bk σ' H'
 |.cont=>∃σ' H',Inv X pins σ' H' s'/\D.ct σ' H'
 |.ret u=>∃v σ' H',Inv X pins σ' H' s'/\RelV v u/\D.rt v H'
def PE(X:Cx)(e:Expr)(t:TE):Prop:=
 ∀(pins:List (Addr×Obj)) (s:Shared) (σ:St) (H:Hp) (Q:VK),Inv X pins σ H s->t σ H Q->wpAny (model X.prog X.w) X.A (eval e X.env) (EP X pins σ Q) X.xe s
def PT(X:Cx)(e:Expr)(t:TT):Prop:=
 ∀(pins:List (Addr×Obj)) (s:Shared) (σ:St) (H:Hp) (Q:Bool->Hp->Prop),Inv X pins σ H s->t σ H Q->wpAny (model X.prog X.w) X.A (isTrue e X.env<|eval e X.env) (TP X pins σ Q) X.xe s
def PW(X:Cx)(e:Expr)(t:TT):Prop:=
 ∀(whole:Sem Value) (pins:List (Addr×Obj)) (s:Shared) (σ:St) (H:Hp) (Q:Bool->Hp->Prop),Inv X pins σ H s->t σ H Q->wpAny (model X.prog X.w) X.A (isTrue e X.env whole) (TP X pins σ Q) X.xe s
theorem PW.pt{X:Cx}{e:Expr}{t:TT}(h:PW X e t):PT X e t:=h _
def PA(X:Cx)(es:List Expr)(t:TA):Prop:=
 ∀(pos:Pos) (pins:List (Addr×Obj)) (s:Shared) (σ:St) (H:Hp) (Q:List V->Hp->Prop),Inv X pins σ H s->t σ H Q->wpAny (model X.prog X.w) X.A (spliced<|backTo pos<|starEach es X.env) (AP X pins σ Q) X.xe s
def PS(X:Cx)(st:Stmt)(t:TS):Prop:=
 ∀(pins:List (Addr×Obj)) (s:Shared) (σ:St) (H:Hp) (D:Ends),Inv X pins σ H s->t D σ H->wpAny (model X.prog X.w) X.A (exec st X.env) (SP X pins D) X.xe s
def dB(X:Cx)(st:List Stmt)(t:TS):Prop:=
 ∀(pins:List (Addr×Obj)) (s:Shared) (σ:St) (H:Hp) (D:Ends),Inv X pins σ H s->t D σ H->wpAny (model X.prog X.w) X.A (execs st X.env) (SP X pins D) X.xe s
theorem aL{α:Type}{t:Sem α}{Q Q':α->Shared->Prop}{M:Model}{A:Around}{E:Value->Shared->Prop}{s:Shared}(h:wpAny M A t Q E s)(hQ:∀a s,Q a s->Q' a s):wpAny M A t Q' E s:=wpAny_mono h hQ fun _ _ x=>x
section
variable {X:Cx}
def yo(i:Nat):TE:=fun σ H Q=>∃v,σ[i]?=some (some v)/\Q v H
def tC(v:V):TE:=fun _ H Q=>Q v H
theorem NJ{i:Nat}{x:Str}{pos:Pos}(hN:X.N[i]?=some x)(hv:uU X.env.scope x)(hd:(x==("__debug__":Str))=false:=by decide)(jR:(x==("__classdict__":Str))=false:=by decide):PE X (.Name x pos) (yo i):=by
 intro pins s σ H Q I h;obtain⟨v,e,h⟩:=h;obtain⟨m,hn,hl⟩:=I.loc;obtain⟨u,r,l⟩:=hl i x v hN e hv;have fin:EP X pins σ Q u s:=⟨v,H,I,r,h⟩;rcases l with⟨hk,hm⟩|⟨hk,c,hc,DK⟩
 ·exact wpAny_Name (wpAny_loadName_local I.ok.kind hk hn hm fin) hd
 ·rcases hk with hk|hk
  ·exact wpAny_Name (wpAny_loadName_cell I.ok.kind hk hc DK fin) hd
  ·exact wpAny_Name (wpAny_loadName_free I.ok.kind hk hc DK fin jR) hd
theorem NK{i j pos}:PE X (.Constant (.int i) j pos) (tC<|.int i):=fun _ _ _ H _ I h=>wpAny_Constant_int ⟨.int i,H,I.tok _,⟨_,rfl⟩,h⟩
theorem NL{b j pos}:PE X (.Constant (.bool b) j pos) (tC<|.bl b):=fun _ _ _ H _ I h=>Constant_bool ⟨.bl b,H,I,rfl,h⟩
theorem NM{j pos}:PE X (.Constant .none j pos) (tC .aF):=fun _ _ _ H _ I h=>Constant_none ⟨.aF,H,I,rfl,h⟩
theorem NN{x j pos}:PE X (.Constant (.str x) j pos) (tC<|.str x):=fun _ _ _ H _ I h=>Calls.Constant_str ⟨.str x,H,I.tok _,⟨_,rfl⟩,h⟩
def Gl(X:Cx)(x:Str):Prop:=X.env.kindOf x=some .globalImplicit
theorem va{E:Value->Shared->Prop}{pins:List (Addr×Obj)}{s:Shared}{σ:St}{H:Hp}{x:Str}{u:Value}{pos:Pos}{Q:Value->Shared->Prop}(I:Inv X pins σ H s)(hg:Gl X x)(hm:X.mg x=some u)(h:Q u s)
  (hd:(x==("__debug__":Str))=false:=by decide):wpAny (model X.prog X.w) X.A (eval (.Name x pos) X.env) Q E s:=
 Calls.Name_function_global I.ok.kind hg (Calls.loadGlobal_global (by rw[I.ok.glob];exact I.mod.glob.keeps I.bk) hm h) hd
theorem pN{E:Value->Shared->Prop}{pins:List (Addr×Obj)}{s:Shared}{σ:St}{H:Hp}{x:Str}{u:Value}{pos:Pos}{Q:Value->Shared->Prop}(I:Inv X pins σ H s)(hg:Gl X x)(hm:X.mg x=none)(hv:bootBuiltins x=some u)(h:Q u s)
  (hn:x≠"__name__":=by decide) (hd:(x==("__debug__":Str))=false:=by decide):wpAny (model X.prog X.w) X.A (eval (.Name x pos) X.env) Q E s:=by
 obtain⟨mb,h1,h2⟩:=I.mod.blt;exact Calls.Name_function_global I.ok.kind hg (Calls.loadGlobal_builtin (by rw[I.ok.glob];exact I.mod.glob.keeps I.bk) hm (by rw[I.ok.blt];exact h1.keeps I.bk) ((h2 x hn).trans hv) h) hd
theorem DL{x:Str}{v:V}{u:Value}{pos:Pos}(hg:Gl X x)(hm:X.mg x=some u)(r:RelV v u)(hd:(x==("__debug__":Str))=false:=by decide):PE X (.Name x pos) (tC v):=
 fun _ _ _ H _ I h=>va I hg hm ⟨v,H,I,r,h⟩ hd
theorem NO{x:Str}{v:V}{u:Value}{pos:Pos}(hg:Gl X x)(hm:X.mg x=none)(hv:bootBuiltins x=some u)(r:RelV v u)(hn:x≠"__name__":=by decide)(hd:(x==("__debug__":Str))=false:=by decide):PE X (.Name x pos) (tC v):=
 fun _ _ _ H _ I h=>pN I hg hm hv ⟨v,H,I,r,h⟩ hn hd
variable {a b:Expr}{ta tb:TE}{pos:Pos}
def tB(t:TE):TT:=fun σ H Q=>t σ H fun x H1=>∃c,x=.bl c/\Q c H1
variable {tA vb:TT}{rest:List Expr}
def DM(t u:TT):TT:=fun σ H Q=>t σ H fun c H1=>if c=true then u σ H1 Q else Q false H1
def DN(t u:TT):TT:=fun σ H Q=>t σ H fun c H1=>if c=true then Q true H1 else u σ H1 Q
def DO(t:TT):TT:=fun σ H Q=>t σ H fun c H1=>Q (!c) H1
theorem pw_and1(ha:PT X a tA):PW X (.BoolOp .And [a] pos) tA:=by
 intro wh pins s σ H Q I h;refine isTrue_and<|aL (ha pins s σ H Q I h) fun c s1 e=>?_;cases c with
 |true=>exact isTrue_and_nil e
 |false=>exact e
theorem pw_or1(ha:PT X a tA):PW X (.BoolOp .Or [a] pos) tA:=by
 intro wh pins s σ H Q I h;refine isTrue_or<|aL (ha pins s σ H Q I h) fun c s1 e=>?_;cases c with
 |false=>exact isTrue_or_nil e
 |true=>exact e
theorem pw_and(ha:PT X a tA)(hb:PW X (.BoolOp .And (b::rest) pos) vb):PW X (.BoolOp .And (a::b::rest) pos) (DM tA vb):=by
 intro wh pins s σ H Q I h;refine isTrue_and<|aL (ha pins s σ H _ I h) fun c s1 ⟨H1,I1,q1⟩=>?_;cases c with
 |true=>exact hb wh pins s1 σ H1 Q I1 q1
 |false=>exact⟨H1,I1,q1⟩
theorem pw_or(ha:PT X a tA)(hb:PW X (.BoolOp .Or (b::rest) pos) vb):PW X (.BoolOp .Or (a::b::rest) pos) (DN tA vb):=by
 intro wh pins s σ H Q I h;refine isTrue_or<|aL (ha pins s σ H _ I h) fun c s1 ⟨H1,I1,q1⟩=>?_;cases c with
 |true=>exact⟨H1,I1,q1⟩
 |false=>exact hb wh pins s1 σ H1 Q I1 q1
theorem NP(ha:PT X a tA):PT X (.UnaryOp .Not a pos) (DO tA):=by
 intro pins s σ H Q I h;exact isTrue_not<|ha pins s σ H (fun c H1=>Q (!c) H1) I h
def DP(ta tb:TE):TE:=fun σ H Q=>ta σ H fun x H1=>∃c,x=.bl c/\if c=true then tb σ H1 Q else Q (.bl false) H1
def NQ(ta tb:TE):TE:=fun σ H Q=>ta σ H fun x H1=>∃c,x=.bl c/\if c=true then Q (.bl true) H1 else tb σ H1 Q
theorem NR{op}{t:TE}(h:PE X a t):PE X (.BoolOp op [a] pos) t:=fun pins s σ H Q I hw=>BoolOp_one (h pins s σ H Q I hw)
theorem NT(ha:PE X a ta)(hb:PE X (.BoolOp .And (b::rest) pos) tb):PE X (.BoolOp .And (a::b::rest) pos) (DP ta tb):=by
 intro pins s σ H Q I h;refine BoolOp_and<|aL (ha pins s σ H _ I h) fun v s1 ⟨x,H1,I1,r1,q1⟩=>?_;obtain⟨c,rfl,q1⟩:=q1;cases r1;refine wpAny_truthy_bool ?_;cases c with
 |true=>exact hb pins s1 σ H1 Q I1 q1
 |false=>exact⟨.bl false,H1,I1,rfl,q1⟩
def DQ(t:TT)(ta tb:TE):TE:=fun σ H Q=>t σ H fun c H1=>if c=true then ta σ H1 Q else tb σ H1 Q
theorem NU{c:Expr}(hc:PT X c tA)(ha:PE X a ta)(hb:PE X b tb):PE X (.IfExp c a b pos) (DQ tA ta tb):=by
 intro pins s σ H Q I h;refine wpAny_IfExp<|aL (hc pins s σ H _ I h) fun d s1 ⟨H1,I1,q1⟩=>?_;cases d with
 |true=>exact ha pins s1 σ H1 Q I1 q1
 |false=>exact hb pins s1 σ H1 Q I1 q1
end
def au(K:Frag)(H:Hp)(a:Addr)(xs:List V):Prop:=
 Rd H a (.lst xs)\/
  ∃(o:Obj) (ah:Array Value) (n:Nat),K.lookup a=some o/\o.cls=.type "list"/\o.dict=none/\o.data=.seq ah n/\ah.size<=sizeLine/\Vals xs ah.toList
def aD(K:Frag)(H:Hp)(a:Addr)(xs:List V):Prop:=
 Rd H a (.tup xs)\/
  ∃(o:Obj) (ah:Array Value) (n:Nat),K.lookup a=some o/\o.cls=.type "tuple"/\o.data=.seq ah n/\ah.size<=sizeLine/\Vals xs ah.toList
def NV:Value->Option V
 |.none=>some .aF
 |.bool b=>some (.bl b)
 |.int i _=>some (.int i)
 |.str x _=>some (.str x)
 |.bytes b _=>some (.fg b)
 |.float b _=>some (.iS b)
 |.ref a=>some (.ref a)
 |.type n=>some (.ty n)
 |_=>none
theorem RelV.abs{x:V}{u:Value}(r:RelV x u):NV u=some x:=by
 cases x with
 |aF=>cases r;rfl
 |bl _=>cases r;rfl
 |int _=>obtain⟨t,rfl⟩:=r;rfl
 |str _=>obtain⟨t,rfl⟩:=r;rfl
 |fg _=>obtain⟨t,rfl⟩:=r;rfl
 |iS _=>obtain⟨t,rfl⟩:=r;rfl
 |ref _=>cases r;rfl
 |ty _=>cases r;rfl
theorem RelV.inj{x y:V}{u:Value}(r:RelV x u)(q:RelV y u):x=y:=zam (r.abs.symm.trans q.abs)
theorem Vals.inj:∀{xs ys:List V}{us:List Value},Vals xs us->Vals ys us->xs=ys
 |_,_,_,.nil,.nil=>rfl
 |_,_,_,.cons r t,.cons r' t'=>by rw[r.inj r',Vals.inj t t']
section
variable {X:Cx}{pins:List (Addr×Obj)}{σ:St}{H:Hp}{s:Shared}{a:Addr}{xs ys:List V}
theorem au.of{K:Frag}(h:H a=some (.lst xs)):au K H a xs:=.inl (.inl h)
theorem aD.of{K:Frag}(h:H a=some (.tup xs)):aD K H a xs:=.inl (.inl h)
theorem Inv.list(I:Inv X pins σ H s)(h:au X.K H a xs):∃ah:List Value,Vals xs ah/\PlainL s.heap a ah.toArray/\xs.length<=sizeLine:=by
 rcases h with h|⟨o,ah,n,hk,hc,hd,hs,hz,r⟩
 ·obtain⟨z,ah,n,r,e⟩:=h.ok I.aE;exact⟨ah,r,⟨_,n,e,rfl,rfl,rfl⟩,z⟩
 ·refine⟨ah.toList,r,⟨o,n,I.c5 a o hk,hc,hd,by simpa using hs⟩,?_⟩
  have e:=r.length
  simp only[zaU] at e
  omega
theorem Inv.tuple(I:Inv X pins σ H s)(h:aD X.K H a xs):∃ah:List Value,Vals xs ah/\IsTup s.heap a ah.toArray/\xs.length<=sizeLine:=by
 rcases h with h|⟨o,ah,n,hk,hc,hs,hz,r⟩
 ·obtain⟨z,ah,r,p⟩:=h.ok I.aE;exact⟨ah,r,p,z⟩
 ·refine⟨ah.toList,r,⟨o,I.c5 a o hk,hc,n,by simpa using hs⟩,?_⟩
  have e:=r.length
  simp only[zaU] at e
  omega
theorem Inv.yp(I:Inv X pins σ H s)(h:au X.K H a xs)(h':au X.K H a ys):xs=ys:=by
 obtain⟨ah,r,⟨o,n,e,_,_,d⟩,_⟩:=I.list h;obtain⟨fQ,r',⟨o',n',e',_,_,d'⟩,_⟩:=I.list h';rw[e] at e';cases e';rw[d] at d'
 injection d' with d1 _
 have:ah=fQ:=by simpa using congrArg Array.toList d1
 subst this;exact r.inj r'
theorem Inv.NW(I:Inv X pins σ H s)(h:aD X.K H a xs)(h':aD X.K H a ys):xs=ys:=by
 obtain⟨ah,r,⟨o,e,_,n,d⟩,_⟩:=I.tuple h;obtain⟨fQ,r',⟨o',e',_,n',d'⟩,_⟩:=I.tuple h';rw[e] at e';cases e';rw[d] at d'
 injection d' with d1 _
 have:ah=fQ:=by simpa using congrArg Array.toList d1
 subst this;exact r.inj r'
end
section
variable {X:Cx}{st:Stmt}{rest:List Stmt}{t u:TS}{e:Expr}{te:TE}{pos:Pos}
def yq:TS:=fun D σ H=>D.nx σ H
def DR(t u:TS):TS:=fun D σ H=>t {D with nx:=u D} σ H
theorem DS:dB X [] yq:=fun _ _ σ H _ I h=>wpAny_execs_nil ⟨σ,H,I,h⟩
theorem NX(h1:PS X st t)(h2:dB X rest u):dB X (st::rest) (DR t u):=by
 intro pins s σ H D I h;refine wpAny_execs_cons<|aL (h1 pins s σ H {D with nx:=u D} I h) fun f s1 q=>?_
 cases f with
 |next=>
  obtain⟨σ',H',I',q⟩:=q;exact h2 pins s1 σ' H' D I' q
 |ret v=>exact q
 |brk=>exact q
 |cont=>exact q
def NY:TS:=fun D σ H=>D.bk σ H
def NZ:TS:=fun D σ H=>D.ct σ H
theorem Inv.quiet{pins:List (Addr×Obj)}{σ:St}{H:Hp}{s:Shared}(I:Inv X pins σ H s):interactive X.env=false:=by simp[interactive,I.ok.kind]
def DT(te:TE):TS:=fun D σ H=>te σ H fun _ H1=>D.nx σ H1
theorem N1(he:PE X e te)(hs:swapsWith e none pos.line X.env=pure false:=by rfl):PS X (.Expr e pos) (DT te):=by
 intro pins s σ H D I h;exact wpAny_Expr_any (aL (he pins s σ H _ I h) fun v s1 ⟨x,H1,I1,r1,q1⟩=>⟨σ,H1,I1,q1⟩) I.quiet hs
def DU(te:TE):TS:=fun D σ H=>te σ H D.rt
theorem N2(he:PE X e te):PS X (.Return (some e) pos) (DU te):=by
 intro pins s σ H D I h;exact wpAny_Return_some<|aL (he pins s σ H _ I h) fun v s1 ⟨x,H1,I1,r1,q1⟩=>⟨x,σ,H1,I1,r1,q1⟩
def N3:TS:=fun D _ H=>D.rt .aF H
def DV(c:TT)(t u:TS):TS:=fun D σ H=>c σ H fun b H1=>if b=true then t D σ H1 else u D σ H1
theorem N4{c:Expr}{a b:List Stmt}{tc:TT}(hc:PT X c tc)(ha:dB X a t)(hb:dB X b u):PS X (.If c a b pos) (DV tc t u):=by
 intro pins s σ H D I h;refine wpAny_If<|aL (hc pins s σ H _ I h) fun d s1 ⟨H1,I1,q1⟩=>?_;cases d with
 |true=>exact ha pins s1 σ H1 D I1 q1
 |false=>exact hb pins s1 σ H1 D I1 q1
def N5:TS:=fun _ _ _=>False
end
abbrev TG:=V->St->Hp->(St->Hp->Prop)->Prop
abbrev jS:=List V->St->Hp->(St->Hp->Prop)->Prop
def PG(X:Cx)(target:Expr)(t:TG):Prop:=
 ∀(pins:List (Addr×Obj)) (s:Shared) (σ:St) (H:Hp) (v:V) (u:Value) (Q:St->Hp->Prop),Inv X pins σ H s->RelV v u->t v σ H Q->
  wpAny (model X.prog X.w) X.A (assign target X.env u) (fun _ s'=>∃σ' H',Inv X pins σ' H' s'/\Q σ' H') X.xe s
def pO(X:Cx)(ts:List Expr)(t:jS):Prop:=
 ∀(pins:List (Addr×Obj)) (s:Shared) (σ:St) (H:Hp) (vs:List V) (us:List Value) (Q:St->Hp->Prop),Inv X pins σ H s->Vals vs us->t vs σ H Q->
  wpAny (model X.prog X.w) X.A (assignInOrder ((assignEach ts X.env).map (·.2)) us) (fun _ s'=>∃σ' H',Inv X pins σ' H' s'/\Q σ' H') X.xe s
abbrev yr:=V->V->V->Hp->(Hp->Prop)->Prop
def DW(X:Cx)(t:yr):Prop:=
 ∀(pins:List (Addr×Obj)) (s:Shared) (σ:St) (H:Hp) (o i v:V) (ov iv u:Value) (Q:Hp->Prop),Inv X pins σ H s->RelV o ov->RelV i iv->RelV v u->t o i v H Q->
  wpAny (model X.prog X.w) X.A (setItem ov iv u) (fun _ s'=>∃H',Inv X pins σ H' s'/\Q H') X.xe s
section
variable {X:Cx}{pos:Pos}
def eP(i:Nat):TG:=fun v σ H Q=>Q (σ.set i<|some v) H
theorem vc{i:Nat}{x:Str}(hN:X.N.Nodup)(hi:X.N[i]?=some x)(hx:Loc X.env.scope x)(hf:X.fn x=true\/X.env.scope.names.lookup x=some .local:=by first|exact .inl rfl|exact .inr rfl|assumption):PG X (.Name x pos) (eP i):=by
 intro pins s σ H v u Q I r h;exact wpAny_assign_Name<|DJ I hN hi hx r (fun s' I'=>⟨_,H,I',h⟩) hf
def yt:jS:=fun vs σ H Q=>vs=[]/\Q σ H
def vd(t:TG)(u:jS):jS:=fun vs σ H Q=>∃v r,vs=v::r/\t v σ H fun σ' H'=>u r σ' H' Q
theorem DX:pO X [] yt:=by
 intro pins s σ H vs us Q I r h;obtain⟨e,h⟩:=h;subst e;cases r;exact assignInOrder_nil ⟨σ,H,I,h⟩
theorem yu{e:Expr}{es:List Expr}{t:TG}{u:jS}(h1:PG X e t)(h2:pO X es u)
  (hs:(assignEach (e::es) X.env).map (·.2)=assign e X.env::(assignEach es X.env).map (·.2):=by rfl):pO X (e::es) (vd t u):=by
 intro pins s σ H vs us Q I r h;obtain⟨v,vr,e1,h⟩:=h;subst e1;cases r with
 |cons r rr=>
  rw[hs];refine assignInOrder_cons<|aL (h1 pins s σ H _ _ _ I r h) fun _ s1 ⟨σ1,H1,I1,q1⟩=>?_;exact h2 pins s1 σ1 H1 _ _ Q I1 rr q1
def DY(K:Frag)(n:Nat)(t:jS):TG:=fun v σ H Q=>∃a xs,v=.ref a/\aD K H a xs/\xs.length=n/\t xs σ H Q
theorem DZ{es:List Expr}{k:Nat}{t:jS}{n:Nat}(hc:X.calm=true)(h:pO X es t)
  (hn:(assignEach es X.env).length=n:=by rfl) (lU:(assignEach es X.env).findIdx? (·.1)=none:=by rfl):PG X (.Tuple es k pos) (DY X.K n t):=by
 intro pins s σ H v u Q I r hw;obtain⟨a,xs,e1,hq,hl,hw⟩:=hw;subst e1;cases r;obtain⟨ah,rv,ht,hz⟩:=I.tuple hq;refine assign_Tuple_tuple (I.ok.hd hc) ht (by simp[hn,<-hl,rv.length]) lU fun h' hx=>?_
 have I1:Inv X pins σ H {s with heap:=h'}:=I.kept (t':=s.toks) fun b o e=>hx b o (zal<|Heap.lt_size e) e
 exact h pins _ σ H xs _ Q I1 (by simpa using rv) hw
def D2(to ti:TE)(t:yr):TG:=fun v σ H Q=>to σ H fun o H1=>ti σ H1 fun i H2=>t o i v H2 fun H3=>Q σ H3
theorem N6{o i:Expr}{to ti:TE}{t:yr}(ho:PE X o to)(hi:PE X i ti)(hs:DW X t)
  (ha:∀v,assign (.Subscript o i pos) X.env v=(do
   let ov <-holding [v] (eval o X.env)
   let iv <-holding [v,ov] (eval i X.env)
   standAt pos
   holding [v,ov,iv] (setItem ov iv v)
   release [v,ov,iv] []):=by intro _;rfl):PG X (.Subscript o i pos) (D2 to ti t):=by
 intro pins s σ H v u Q I r h;rw[ha];refine wpAny_bind<|wpAny_holding<|aL (ho pins s σ H _ I h) fun ov s1 ⟨x,H1,I1,r1,q1⟩=>?_;refine wpAny_bind<|wpAny_holding<|aL (hi pins s1 σ H1 _ I1 q1) fun iv s2 ⟨y,H2,I2,r2,q2⟩=>?_;refine wpAny_bind<|wpAny_standAt<|wpAny_bind<|wpAny_holding<|aL (hs pins s2 σ H2 x y v ov iv u _ I2 r1 r2 r q2) fun _ s3 ⟨H3,I3,q3⟩=>?_;exact wpAny_release ⟨σ,H3,I3,q3⟩
def jl(te:TE)(g:TG):TS:=fun D σ H=>te σ H fun x H1=>g x σ H1 D.nx
theorem D3{tg e:Expr}{te:TE}{g:TG}(he:PE X e te)(hg:PG X tg g)(hs:swapsWithSole [tg] e pos.line X.env=pure false:=by rfl)(hw:swappedStores [tg] e X.env=pure none:=by rfl)
  (h1:(assignEach [tg] X.env).map (·.2)=[assign tg X.env]:=by rfl):PS X (.Assign [tg] e pos) (jl te g):=by
 intro pins s σ H D I h;refine wpAny_Assign_stores (aL (he pins s σ H _ I h) fun v s1 ⟨x,H1,I1,r1,q1⟩=>?_) hs hw;rw[h1];exact aL (hg pins s1 σ H1 x v _ I1 r1 q1) fun _ s2 q=>q
theorem N7{i:Nat}{x:Str}{e:Expr}{te:TE}{pos':Pos}(hN:X.N.Nodup)(hi:X.N[i]?=some x)(hx:Loc X.env.scope x)(he:PE X e te)(hs:swapsWith e (some<|.Name x pos') pos.line X.env=pure false:=by rfl)(hf:X.fn x=true\/X.env.scope.names.lookup x=some .local:=by first|exact .inl rfl|exact .inr rfl|assumption):
  PS X (.Assign [.Name x pos'] e pos) (jl te<|eP i):=by
 intro pins s σ H D I h;refine wpAny_Assign_Name (aL (he pins s σ H _ I h) fun v s1 ⟨y,H1,I1,r1,q1⟩=>?_) hs;exact DJ I1 hN hi hx r1 (fun s2 I2=>⟨_,H1,I2,q1⟩) hf
end
section
variable {X:Cx}{pos:Pos}
def D4(c:TT)(tb:TS):TS:=fun D σ H=>∃W:Nat->St->Hp->Prop,(∃m,W m σ H)/\∀m σ H,W m σ H->
 c σ H fun b H1=>if b=true then ∃N:St->Hp->Prop,(∀σ' H',N σ' H'->∃m',m'<m/\W m' σ' H')/\tb {D with nx:=N,ct:=N,bk:=D.nx} σ H1 else D.nx σ H1
theorem N8{c:Expr}{body:List Stmt}{tc:TT}{tb:TS}(hp:PassesOwn (model X.prog X.w) X.A X.env X.xe)(hc:PT X c tc)(hb:dB X body tb):PS X (.While c body [] pos) (D4 tc tb):=by
 intro pins s σ H D I h;obtain⟨W,⟨m0,w0⟩,turn⟩:=h;refine wpAny_While<|codeAny_whileLoop (fun n s'=>∃σ' H',Inv X pins σ' H' s'/\W n σ' H') ?_ m0 ⟨σ,H,I,w0⟩;rintro n s1 ⟨σ1,H1,I1,w1⟩;refine wpAny_passesOwn hp<|aL (hc pins s1 σ1 H1 _ I1<|turn n σ1 H1 w1) fun b s2 ⟨H2,I2,q2⟩=>?_;cases b with
 |true=>
  obtain⟨N,hN,q2⟩:=q2;rw[if_pos rfl];refine wpAny_passesOwn hp<|aL (hb pins s2 σ1 H2 _ I2 q2) fun f s3 q3=>?_;cases f with
  |next=>
   obtain⟨σ3,H3,I3,n3⟩:=q3;obtain⟨m',hm,w3⟩:=hN σ3 H3 n3;exact⟨m',hm,σ3,H3,I3,w3⟩
  |cont=>
   obtain⟨σ3,H3,I3,n3⟩:=q3;obtain⟨m',hm,w3⟩:=hN σ3 H3 n3;exact⟨m',hm,σ3,H3,I3,w3⟩
  |brk=>exact q3
  |ret v=>exact q3
 |false=>
  rw[if_neg zan];exact wpAny_execs_nil ⟨σ1,H2,I2,q2⟩
end
structure It where
 go:Nat->Hp->Prop
 eQ:Nat->Hp->V->Hp->Prop
 stop:Nat->Hp->Prop
def iV(X:Cx)(pins:List (Addr×Obj))(H:Hp)(b:Addr):Prop:=
 H b=none/\b≠X.env.locals/\b∉X.fs/\(b∈X.ex\/X.s₀.heap.objs.size<=b)/\(∀x c,X.env.cells.lookup x=some c->c≠b)/\∀p∈X.pn++pins,p.1≠b
theorem Inv.ve{X:Cx}{pins:List (Addr×Obj)}{σ:St}{H H':Hp}{s:Shared}{b:Addr}(I:Inv X pins σ H s)(hb:s.heap.objs.size<=b)(hn:H' b=none):iV X pins H' b:=by
 refine⟨hn,Nat.ne_of_gt<|zat I.lt hb,I.DB hb,.inr<|zas I.sz hb,fun x c e z=>?_,fun p hp z=>?_⟩
 ·obtain⟨v,q⟩:=I.cell x c e;exact absurd (zat q.lt (by rw[z];exact hb))<|zaD _
 ·exact absurd (zat (Heap.lt_size (I.pin p hp).1) (by rw[z];exact hb)) (zaD _)
structure Turn (P:Program) (w:World) (K:Frag) (tg:Expr) (J:It) (fp:List Addr) (it:Addr) (tn:Nat->Heap->Prop):Prop where
 mem:it∈fp
 obj:∀i h,tn i h->∀b∈fp,∃o,h.get? b=some o/\∀v,o.data≠ .cell v
 keep:∀i h h',tn i h->(∀b∈fp,∀o,h.get? b=some o->h'.get? b=some o)->tn i h'
 item:∀(X:Cx),X.prog=P->X.w=w->X.K=K->X.calm=true->∀(i:Nat) (pins:List (Addr×Obj)) (s:Shared) (σ:St) (H:Hp) (E:Value->Shared->Prop),Inv X pins σ H s->(∀b∈fp,iV X pins H b)->tn i s.heap->J.go i H->
  wpAny (model P w) X.A (pyNext (.ref it)) (fun r s1=>∃u,r=some u/\
   wpAny (model P w) X.A (letOwnedTupleGo tg (.ref it) u) (fun _ s2=>∃x H',Inv X pins σ H' s2/\RelV x u/\J.eQ i H x H'/\tn (i+1) s2.heap/\∀b∈fp,H' b=none) E s1) E s
 done:∀(X:Cx),X.prog=P->X.w=w->X.K=K->X.calm=true->∀(i:Nat) (pins:List (Addr×Obj)) (s:Shared) (σ:St) (H:Hp) (E:Value->Shared->Prop),Inv X pins σ H s->(∀b∈fp,iV X pins H b)->tn i s.heap->J.stop i H->
  wpAny (model P w) X.A (pyNext<|.ref it) (fun r s1=>r=none/\Inv X pins σ H s1) E s
 self:∀(A:Around) (i:Nat) (s:Shared) (Q:Value->Shared->Prop) (E:Value->Shared->Prop),tn i s.heap->Q (.ref it) s->wpAny (model P w) A (pyIter<|.ref it) Q E s
abbrev TI:=St->Hp->(It->Hp->Prop)->Prop
def D5(X:Cx)(pins:List (Addr×Obj))(σ:St)(tg:Expr)(R:It->Hp->Prop)(nH:Value)(s2:Shared):Prop:=
 ∃(it:Addr) (fp:List Addr) (tn:Nat->Heap->Prop) (J:It) (H':Hp),nH=.ref it/\Inv X pins σ H' s2/\Turn X.prog X.w X.K tg J fp it tn/\tn 0 s2.heap/\(∀b∈fp,iV X pins H' b)/\R J H'
def PI(X:Cx)(tg iter:Expr)(wi:TI):Prop:=
 ∀(pins:List (Addr×Obj)) (s:Shared) (σ:St) (H:Hp) (R:It->Hp->Prop),Inv X pins σ H s->wi σ H R->
  wpAny (model X.prog X.w) X.A (eval iter X.env) (fun v s1=>wpAny (model X.prog X.w) X.A (pyIter v) (D5 X pins σ tg R) X.xe s1) X.xe s
theorem yv{M:Model}{A:Around}{E:Value->Shared->Prop}{s:Shared}{tg:Expr}{it:Addr}{u:Value}{o:Obj}{n:String}{vs:Array Value}{Q:Unit->Shared->Prop}(ho:s.heap.get? it=some o)(hc:o.cls=.type n)(hd:o.data=.fields vs)
    (hn:["enumerate","zip","dict_itemiterator","dict_reverseitemiterator","odict_iterator","itertools.zip_longest","itertools.pairwise"].contains n=false) (hQ:Q () s):wpAny M A (letOwnedTupleGo tg (.ref it) u) Q E s:=by
  unfold letOwnedTupleGo;cases tg<;>first
    |exact wpAny_pure hQ
    | (cases u<;>first
        |exact wpAny_pure hQ
        | (refine wpAny_bind (wpAny_load ho ?_)
           rw[hc,hd];show wpAny M A (if (["enumerate","zip","dict_itemiterator","dict_reverseitemiterator","odict_iterator","itertools.zip_longest","itertools.pairwise"].contains n && vs[0]?==some (rawInt _))=true then _ else _) Q E s
           rw[if_neg (by intro h;rw[hn,Bool.false_and] at h;cases h)]
           exact wpAny_pure hQ))
def hJ(K:Frag)(a:Addr):It:=
 ⟨fun i H=>∃xs x,au K H a xs/\xs[i]?=some x,fun i H x H'=>H'=H/\∀xs,au K H a xs->xs[i]?=some x,fun i H=>∃xs,au K H a xs/\xs.length<=i⟩
def D6(K:Frag)(a:Addr):It:=
 ⟨fun i H=>∃xs x,aD K H a xs/\xs[i]?=some x,fun i H x H'=>H'=H/\∀xs,aD K H a xs->xs[i]?=some x,fun i H=>∃xs,aD K H a xs/\xs.length<=i⟩
def cU(lo:Int)(n:Nat):It:=⟨fun i _=>i<n,fun i H x H'=>H'=H/\x=.int (lo+i),fun i _=>n<=i⟩
theorem N9{P:Program}{w:World}{K:Frag}{tg:Expr}(a it:Addr):Turn P w K tg (hJ K a) [it] it (fun i h=>h.IsListIter it a i) where
 mem:=by simp
 obj:=fun i h st b hb=>by
  have e:b=it:=by simpa using hb
  subst e;obtain⟨o,e,c,d⟩:=st;exact⟨o,e,fun v z=>by rw[d] at z;cases z⟩
 keep:=fun i h h' st k=>st.at fun o e=>k it (by simp) o e
 item:=by
  intro X hP hw hK hc i pins s σ H E I hf st hg;subst hP hw hK;obtain⟨xs,x,hq,hx⟩:=hg;obtain⟨ah,rv,p,hz⟩:=I.list hq;obtain⟨u,hu,ru⟩:=rv.get hx;obtain⟨f0,f1,f2,f3,f4,f5⟩:=hf it (by simp)
  refine wpAny_pyNext_list_item st p.isList (x:=u) (by simpa using hu) fun h' jm sb=>?_
  have I1:Inv X pins σ H {s with heap:=h'}:=I.turned (t':=s.toks) (fun b o hb e=>(sb.2 b hb).trans e) f0 f1 f3 f4 f5
  obtain⟨o,e,c,d⟩:=id jm;exact⟨u,rfl,yv (s:={s with heap:=h'}) e c d (by decide) ⟨x,H,I1,ru,⟨rfl,fun ys hy=>by rw[I.yp hy hq];exact hx⟩,jm,fun b hb=>(hf b hb).1⟩⟩
 done:=by
  intro X hP hw hK hc i pins s σ H E I hf st hg;subst hP hw hK;obtain⟨xs,hq,hx⟩:=hg;obtain⟨ah,rv,p,hz⟩:=I.list hq;obtain⟨f0,f1,f2,f3,f4,f5⟩:=hf it (by simp)
  have hl:=rv.length;exact wpAny_pyNext_list_end (I.ok.hd hc) st p.isList (by simp;omega) fun h' eb=>⟨rfl,I.turned (t':=s.toks) (fun b o hb e=>eb b o hb e) f0 f1 f3 f4 f5⟩
 self:=fun _ _ _ _ _ st h=>wpAny_pyIter_listiter st h
theorem N_{P:Program}{w:World}{K:Frag}{tg:Expr}(a it:Addr):Turn P w K tg (D6 K a) [it] it (fun i h=>h.IsTupleIter it a i) where
 mem:=by simp
 obj:=fun i h st b hb=>by
  have e:b=it:=by simpa using hb
  subst e;obtain⟨o,e,c,d⟩:=st;exact⟨o,e,fun v z=>by rw[d] at z;cases z⟩
 keep:=fun i h h' st k=>st.at fun o e=>k it (by simp) o e
 item:=by
  intro X hP hw hK hc i pins s σ H E I hf st hg;subst hP hw hK;obtain⟨xs,x,hq,hx⟩:=hg;obtain⟨ah,rv,p,hz⟩:=I.tuple hq;obtain⟨u,hu,ru⟩:=rv.get hx;obtain⟨f0,f1,f2,f3,f4,f5⟩:=hf it (by simp)
  refine wpAny_pyNext_tuple_item st (show s.heap.IsTuple a ah.toArray from p) (x:=u) (by simpa using hu) fun h' jm sb=>?_
  have I1:Inv X pins σ H {s with heap:=h'}:=I.turned (t':=s.toks) (fun b o hb e=>(sb.2 b hb).trans e) f0 f1 f3 f4 f5
  obtain⟨o,e,c,d⟩:=id jm;exact⟨u,rfl,yv (s:={s with heap:=h'}) e c d (by decide) ⟨x,H,I1,ru,⟨rfl,fun ys hy=>by rw[I.NW hy hq];exact hx⟩,jm,fun b hb=>(hf b hb).1⟩⟩
 done:=by
  intro X hP hw hK hc i pins s σ H E I hf st hg;subst hP hw hK;obtain⟨xs,hq,hx⟩:=hg;obtain⟨ah,rv,p,hz⟩:=I.tuple hq;obtain⟨f0,f1,f2,f3,f4,f5⟩:=hf it (by simp)
  have hl:=rv.length;exact wpAny_pyNext_tuple_end (I.ok.hd hc) st (show s.heap.IsTuple a ah.toArray from p) (by simp;omega) fun h' eb=>⟨rfl,I.turned (t':=s.toks) (fun b o hb e=>eb b o hb e) f0 f1 f3 f4 f5⟩
 self:=fun _ _ _ _ _ st h=>wpAny_pyIter_tupleiter st h
theorem Oa{P:Program}{w:World}{K:Frag}{tg:Expr}(it:Addr)(lo:Int)(n:Nat):Turn P w K tg (cU lo n) [it] it (fun i h=>IsRangeIter h it (lo+(i:Nat)*1) ((n:Int) - (i:Nat)) 1) where
 mem:=by simp
 obj:=fun i h st b hb=>by
  have e:b=it:=by simpa using hb
  subst e;exact⟨_,st,fun v z=>by
   have z':Data.fields _=Data.cell v:=z;cases z'⟩
 keep:=fun i h h' st k=>k it (by simp) _ st
 item:=by
  intro X hP hw hK hc i pins s σ H E I hf st hg;subst hP hw hK;obtain⟨f0,f1,f2,f3,f4,f5⟩:=hf it (by simp)
  have W:=Walks.range (prog:=X.prog) (w:=X.w) (I.ok.hd hc) it lo 1 n;refine W.item i s _ _ hg st fun v h' tk hv jm kk=>?_;obtain⟨t,rfl⟩:=hv;have I1:Inv X pins σ H {s with heap:=h',toks:=tk}:=I.turned (fun b o hb e=>kk b o (by simpa using hb) e) f0 f1 f3 f4 f5
  refine⟨_,rfl,yv (s:={s with heap:=h',toks:=tk}) (n:="range_iterator") jm rfl rfl (by decide) ⟨.int<|lo+i,H,I1,⟨t,?_⟩,⟨rfl,rfl⟩,jm,fun b hb=>(hf b hb).1⟩⟩
  rw[Int.mul_one]
 done:=by
  intro X hP hw hK hc i pins s σ H E I hf st hg;subst hP hw hK;obtain⟨f0,f1,f2,f3,f4,f5⟩:=hf it (by simp)
  exact wpAny_pyNext_range_end (I.ok.hd hc) st (by have:n<=i:=hg;omega) fun h' eb=>⟨rfl,I.turned (t':=s.toks) (fun b o hb e=>eb b o hb e) f0 f1 f3 f4 f5⟩
 self:=fun _ _ _ _ _ st h=>wpAny_pyIter_rangeiter st h
section
variable {X:Cx}{tg:Expr}
def yw(K:Frag)(tl:TE):TI:=fun σ H R=>tl σ H fun x H1=>∃a,x=.ref a/\(∃xs,au K H1 a xs)/\R (hJ K a) H1
def yx(K:Frag)(tl:TE):TI:=fun σ H R=>tl σ H fun x H1=>∃a,x=.ref a/\(∃xs,aD K H1 a xs)/\R (D6 K a) H1
theorem Ob{l:Expr}{tl:TE}(hl:PE X l tl):PI X tg l (yw X.K tl):=by
 intro pins s σ H R I h;refine aL (hl pins s σ H _ I h) fun v s1 ⟨x,H1,I1,r1,q1⟩=>?_;obtain⟨a,e,⟨xs,hq⟩,q⟩:=q1;subst e;cases r1;obtain⟨ah,rv,p,hz⟩:=I1.list hq;refine wpAny_pyIter_list p.isList ?_;refine⟨s1.heap.objs.size,[s1.heap.objs.size],_,_,H1,rfl,I1.kept (t':=s1.toks) fun b o e=>Heap.get?_push_of_some _ e,N9 a _,⟨_,Heap.get?_push_size _ rfl,rfl,rfl⟩,fun b hb=>?_,q⟩;have e:b=s1.heap.objs.size:=by simpa using hb
 subst e;exact I1.ve (zqR _)<|I1.aE.fresh<|zqR _
theorem Oc{l:Expr}{tl:TE}(hl:PE X l tl):PI X tg l (yx X.K tl):=by
 intro pins s σ H R I h;refine aL (hl pins s σ H _ I h) fun v s1 ⟨x,H1,I1,r1,q1⟩=>?_;obtain⟨a,e,⟨xs,hq⟩,q⟩:=q1;subst e;cases r1;obtain⟨ah,rv,p,hz⟩:=I1.tuple hq;refine wpAny_pyIter_tuple (show s1.heap.IsTuple a ah.toArray from p) ?_
 refine⟨s1.heap.objs.size,[s1.heap.objs.size],_,_,H1,rfl,I1.kept (t':=s1.toks) fun b o e=>Heap.get?_push_of_some _ e,N_ a _,⟨_,Heap.get?_push_size _ rfl,rfl,rfl⟩,fun b hb=>?_,q⟩;have e:b=s1.heap.objs.size:=by simpa using hb
 subst e;exact I1.ve (zqR _)<|I1.aE.fresh<|zqR _
theorem D7{pins:List (Addr×Obj)}{σ:St}{H:Hp}{s:Shared}{R:It->Hp->Prop}{E:Value->Shared->Prop}{lo hi:Int}{t u v:Tok}{tk:Nat}(I:Inv X pins σ H s)(h1: -(2 ^ 62)<=lo)(h2:lo<2 ^ 62)(h3: -(2 ^ 62)<=hi)(h4:hi<2 ^ 62)
  (q:R (cU lo (hi - lo).toNat) H):wpAny (model X.prog X.w) X.A (pyIter<|.ref s.heap.objs.size) (D5 X pins σ tg R) E {s with heap:=s.heap.push {cls:=.type "range",data:=.fields #[.int lo t,.int hi u,.int 1 v]},toks:=tk}:=by
 refine wpAny_pyIter_range (IsRange.new ..) (small_one h1 h2 h3 h4) ?_;have I1:Inv X pins σ H {s with heap:=s.heap.push {cls:=.type "range",data:=.fields #[.int lo t,.int hi u,.int 1 v]},toks:=tk}:=I.kept fun b o e=>Heap.get?_push_of_some _ e
 refine⟨(s.heap.push {cls:=.type "range",data:=.fields #[.int lo t,.int hi u,.int 1 v]}).objs.size,[(s.heap.push {cls:=.type "range",data:=.fields #[.int lo t,.int hi u,.int 1 v]}).objs.size],_,_,H,rfl,
  I1.kept (t':=tk) fun b o e=>Heap.get?_push_of_some _ e,Oa _ lo (hi - lo).toNat,?_,fun b hb=>?_,q⟩
 ·have e1:lo+((0:Nat):Int)*1=lo:=by simp
  have e2:(((hi - lo).toNat:Nat):Int) - ((0:Nat):Int)=Builtin.Range.rangeSize lo hi 1:=by rw[rangeSize_one];split<;>omega
  show IsRangeIter _ _ (lo+((0:Nat):Int)*1) ((((hi - lo).toNat:Nat):Int) - ((0:Nat):Int)) 1;rw[e1,e2];exact Heap.get?_push_size _ rfl
 ·have e:b=(s.heap.push {cls:=.type "range",data:=.fields #[.int lo t,.int hi u,.int 1 v]}).objs.size:=by simpa using hb
  subst e;exact I1.ve (zqR _)<|I1.aE.fresh<|zqR _
def D8(ta:TA):TI:=fun σ H R=>ta σ H fun vs H1=>∃j:Int,vs=[.int j]/\ -(2 ^ 62)<=j/\j<2 ^ 62/\R (cU 0 j.toNat) H1
def D9(ta:TA):TI:=fun σ H R=>ta σ H fun vs H1=>∃i j:Int,vs=[.int i,.int j]/\(-(2 ^ 62)<=i/\i<2 ^ 62/\ -(2 ^ 62)<=j/\j<2 ^ 62)/\R (cU i (j - i).toNat) H1
theorem Od{a:Expr}{ta:TA}{p pos:Pos}(hg:Gl X "range")(hm:X.mg "range"=none)(ha:PA X [a] ta)(hs:starEach [a] X.env=[(false,eval a X.env)]:=by rfl):PI X tg (.Call (.Name "range" p) [a] [] pos) (D8 ta):=by
 intro pins s σ H R I h;refine Call_<|pN I hg hm boot_range<|PyProof.Rows.callWith_type1 (aL (ha pos pins s σ H _ I h) fun us s1 ⟨vs,H1,I1,r1,q1⟩=>?_) hs rfl;obtain⟨j,e,q1,q2,q⟩:=q1;subst e;cases r1 with
 |cons r rr=>
  cases rr;obtain⟨t,rfl⟩:=r;exact call_range_1<|D7 I1 (by omega) (by omega) q1 q2 (by simpa using q)
theorem Oe{a b:Expr}{ta:TA}{p pos:Pos}(hg:Gl X "range")(hm:X.mg "range"=none)(ha:PA X [a,b] ta)(hs:starEach [a,b] X.env=[(false,eval a X.env),(false,eval b X.env)]:=by rfl)(cf:starEach [b] X.env=[(false,eval b X.env)]:=by rfl):
  PI X tg (.Call (.Name "range" p) [a,b] [] pos) (D9 ta):=by
 intro pins s σ H R I h;refine Call_<|pN I hg hm boot_range<|PyProof.Rows.callWith_type1 (aL (ha pos pins s σ H _ I h) fun us s1 ⟨vs,H1,I1,r1,q1⟩=>?_) (by rw[hs,cf]) (by rw[cf];rfl)
 obtain⟨i,j,e,⟨q1,q2,q3,q4⟩,q⟩:=q1;subst e;cases r1 with
 |cons r rr=>
  cases rr with
  |cons r' rr=>
   cases rr;obtain⟨t,rfl⟩:=r;obtain⟨t',rfl⟩:=r';exact call_range_2<|D7 I1 q1 q2 q3 q4 q
def vf(wi:TI)(g:TG)(tb:TS):TS:=fun D σ H=>wi σ H fun J H1=>∃W:Nat->Nat->St->Hp->Prop,(∃m,W 0 m σ H1)/\∀i m σ H,W i m σ H->
 (J.stop i H/\D.nx σ H)\/(J.go i H/\∃N:St->Hp->Prop,(∀σ' H',N σ' H'->∃m',m'<m/\W (i+1) m' σ' H')/\∀x H',J.eQ i H x H'->g x σ H' fun σ2 H2=>tb {D with nx:=N,ct:=N,bk:=D.nx} σ2 H2)
def pP(fp:List Addr)(h:Heap):List (Addr×Obj):=fp.filterMap fun b=>(h.get? b).map fun o=>(b,o)
theorem vg{fp:List Addr}{h:Heap}{b:Addr}{o:Obj}(hb:b∈fp)(e:h.get? b=some o):(b,o)∈pP fp h:=zbF.mpr ⟨b,hb,by rw[e];rfl⟩
theorem Of{fp:List Addr}{h:Heap}{p:Addr×Obj}(hp:p∈pP fp h):p.1∈fp/\h.get? p.1=some p.2:=by
 obtain⟨b,hb,e⟩:=zbF.mp hp;cases q:h.get? b with
 |none=>rw[q] at e;cases e
 |some o=>
  rw[q] at e;have e':(b,o)=p:=zam e;subst e';exact⟨hb,q⟩
theorem Inv.pinned{pins:List (Addr×Obj)}{σ:St}{H:Hp}{s:Shared}{fp:List Addr}(I:Inv X pins σ H s)(hf:∀b∈fp,iV X pins H b)(ho:∀b∈fp,∃o,s.heap.get? b=some o/\∀v,o.data≠ .cell v):Inv X (pins++pP fp s.heap) σ H s:=
 I.pM fun p hp=>(zaf.mp hp).elim (fun z=>I.pin p<|zaq _ z) fun z=>by
  obtain⟨hb,e⟩:=Of z;obtain⟨f0,f1,f2,_⟩:=hf p.1 hb;obtain⟨o,e',d⟩:=ho p.1 hb;rw[e] at e';cases e';exact⟨e,f0,f1,f2,d⟩
theorem Inv.yy{pins pl:List (Addr×Obj)}{σ:St}{H:Hp}{s:Shared}(I:Inv X (pins++pl) σ H s):Inv X pins σ H s:=I.pM fun p hp=>I.pin p (zaq _<|zaK _ hp)
theorem D_{iter:Expr}{body:List Stmt}{wi:TI}{g:TG}{tb:TS}{pos:Pos}(hp:PassesOwn (model X.prog X.w) X.A X.env X.xe)(hc:X.calm=true)(hi:PI X tg iter wi)(hg:PG X tg g)(hb:dB X body tb)
  (hs:∀x,foldedSetIterable iter X.env x=pure x:=by intro _;rfl):PS X (.For tg iter body [] pos) (vf wi g tb):=by
 intro pins s σ H D I h;refine wpAny_For (aL (hi pins s σ H _ I h) fun v s1 h1=>aL h1 fun nH s2 h2=>?_) hs;obtain⟨it,fp,tn,J,H2,e,I2,T,rD,f2,W,⟨m0,w0⟩,turn⟩:=h2;subst e;have nI:∀{H':Hp},(∀b∈fp,H' b=none)->∀b∈fp,iV X pins H' b:=fun hn b hb=>⟨hn b hb,(f2 b hb).2⟩;refine codeAny_forLoop_any (fun n s'=>∃i σ' H',Inv X pins σ' H' s'/\tn i s'.heap/\(∀b∈fp,H' b=none)/\W i n σ' H') ?_ m0 ⟨0,σ,H2,I2,rD,fun b hb=>(f2 b hb).1,w0⟩;rintro n s3 ⟨i,σ3,H3,I3,Ea,Eb,w3⟩;rcases turn i n σ3 H3 w3 with⟨stop,qn⟩|⟨go,N,hN,step⟩
 ·refine wpAny_passesOwn hp (aL (T.done X rfl rfl rfl hc i pins s3 σ3 H3 X.xe I3 (nI Eb) Ea stop) fun r s4 ⟨hr,I4⟩=>?_);subst hr;exact wpAny_execs_nil ⟨σ3,H3,I4,qn⟩
 ·refine wpAny_passesOwn hp (aL (T.item X rfl rfl rfl hc i pins s3 σ3 H3 X.xe I3 (nI Eb) Ea go) fun r s4 ⟨u,hr,h4⟩=>?_);subst hr;refine wpAny_passesOwn hp<|aL h4 fun _ s5 ⟨x,H5,I5,r5,y5,nJ,yz⟩=>?_;have rE:=I5.pinned (nI yz) (T.obj _ _ nJ);refine wpAny_passesOwn hp<|aL (hg _ s5 σ3 H5 x u _ rE r5<|step x H5 y5) fun _ s6 ⟨σ6,H6,I6,q6⟩=>?_;refine wpAny_passesOwn hp<|aL (hb _ s6 σ6 H6 _ I6 q6) fun f s7 q7=>?_;have again:∀{σ7:St}{H7:Hp},Inv X (pins++pP fp s5.heap) σ7 H7 s7->N σ7 H7->∃m,m<n/\∃i σ' H',Inv X pins σ' H' s7/\tn i s7.heap/\(∀b∈fp,H' b=none)/\W i m σ' H':=fun {σ7 H7} I7 n7=>by
   obtain⟨m',hm,w7⟩:=hN σ7 H7 n7;refine⟨m',hm,i+1,σ7,H7,I7.yy,T.keep _ _ _ nJ fun b hb o e=>(I7.pin (b,o)<|zaq _<|zaq _<|vg hb e).1,fun b hb=>?_,w7⟩;obtain⟨o,e,d⟩:=T.obj _ _ nJ b hb;exact(I7.pin (b,o)<|zaq _<|zaq _<|vg hb e).2.1
  cases f with
  |next=>obtain⟨σ7,H7,I7,n7⟩:=q7;exact again I7 n7
  |cont=>obtain⟨σ7,H7,I7,n7⟩:=q7;exact again I7 n7
  |brk=>obtain⟨σ7,H7,I7,q7⟩:=q7;exact⟨σ7,H7,I7.yy,q7⟩
  |ret v=>obtain⟨x7,σ7,H7,I7,r7,q7⟩:=q7;exact⟨x7,σ7,H7,I7.yy,r7,q7⟩
end
theorem jT{K:Frag}{a:Addr}{xs:List V}{g:TG}{tb:TS}{D:Ends}{σ:St}{H:Hp}(Pv:Nat->St->Hp->Prop)(h0:Pv 0 σ H)(hl:∀i σ H,i<=xs.length->Pv i σ H->au K H a xs)
  (hs:∀i x σ H,xs[i]?=some x->Pv i σ H->g x σ H fun σ2 H2=>tb {D with nx:=Pv (i+1),ct:=Pv (i+1),bk:=D.nx} σ2 H2) (hd:∀σ H,Pv xs.length σ H->D.nx σ H):
  ∃W:Nat->Nat->St->Hp->Prop,(∃m,W 0 m σ H)/\∀i m σ H,W i m σ H->
   ((hJ K a).stop i H/\D.nx σ H)\/((hJ K a).go i H/\∃N:St->Hp->Prop,(∀σ' H',N σ' H'->∃m',m'<m/\W (i+1) m' σ' H')/\∀x H',(hJ K a).eQ i H x H'->g x σ H' fun σ2 H2=>tb {D with nx:=N,ct:=N,bk:=D.nx} σ2 H2):=by
 refine⟨fun i m σ H=>m=xs.length - i/\i<=xs.length/\Pv i σ H,⟨xs.length,by simp,zqZ _,h0⟩,?_⟩
 rintro i m σ H ⟨rfl,hi,p⟩;have q:=hl i σ H hi p;by_cases a_:i<xs.length
 ·refine .inr ⟨⟨xs,xs[i],q,by simp[a_]⟩,Pv<|i+1,fun σ' H' p'=>⟨xs.length - (i+1),by omega,rfl,a_,p'⟩,fun x H' y=>?_⟩
  obtain⟨e,y⟩:=y;subst e;exact hs i x σ _ (y xs q) p
 ·have e:i=xs.length:=by omega
  subst e;exact .inl ⟨⟨xs,q,zqR _⟩,hd σ H p⟩
theorem vh{lo:Int}{n:Nat}{g:TG}{tb:TS}{D:Ends}{σ:St}{H:Hp}(Pv:Nat->St->Hp->Prop)(h0:Pv 0 σ H)
  (hs:∀i σ H,i<n->Pv i σ H->g (.int<|lo+i) σ H fun σ2 H2=>tb {D with nx:=Pv (i+1),ct:=Pv (i+1),bk:=D.nx} σ2 H2) (hd:∀σ H,Pv n σ H->D.nx σ H):
  ∃W:Nat->Nat->St->Hp->Prop,(∃m,W 0 m σ H)/\∀i m σ H,W i m σ H->
   ((cU lo n).stop i H/\D.nx σ H)\/((cU lo n).go i H/\∃N:St->Hp->Prop,(∀σ' H',N σ' H'->∃m',m'<m/\W (i+1) m' σ' H')/\∀x H',(cU lo n).eQ i H x H'->g x σ H' fun σ2 H2=>tb {D with nx:=N,ct:=N,bk:=D.nx} σ2 H2):=by
 refine⟨fun i m σ H=>m=n - i/\i<=n/\Pv i σ H,⟨n,by simp,zqZ _,h0⟩,?_⟩
 rintro i m σ H ⟨rfl,hi,p⟩;by_cases a_:i<n
 ·refine .inr ⟨a_,Pv<|i+1,fun σ' H' p'=>⟨n - (i+1),by omega,rfl,a_,p'⟩,fun x H' y=>?_⟩
  obtain⟨e,y⟩:=y;subst e y;exact hs i σ _ a_ p
 ·have e:i=n:=by omega
  subst e;exact .inl ⟨zqR _,hd σ H p⟩
abbrev R2:=V->V->Hp->VK->Prop
def bq(X:Cx)(f:Value->Value->Sem Value)(r:R2):Prop:=
 ∀(pins:List (Addr×Obj)) (s:Shared) (σ:St) (H:Hp) (x y:V) (v u:Value) (Q:VK),Inv X pins σ H s->RelV x v->RelV y u->r x y H Q->
  wpAny (model X.prog X.w) X.A (f v u) (EP X pins σ Q) X.xe s
def vi(X:Cx)(f:Value->Sem Value)(r:V->Hp->VK->Prop):Prop:=
 ∀(pins:List (Addr×Obj)) (s:Shared) (σ:St) (H:Hp) (x:V) (v:Value) (Q:VK),Inv X pins σ H s->RelV x v->r x H Q->
  wpAny (model X.prog X.w) X.A (f v) (EP X pins σ Q) X.xe s
def cW(X:Cx)(f:Value)(r:List V->Hp->VK->Prop):Prop:=
 ∀(pins:List (Addr×Obj)) (s:Shared) (σ:St) (H:Hp) (xs:List V) (us:List Value) (Q:VK),Inv X pins σ H s->Vals xs us->r xs H Q->
  wpAny (model X.prog X.w) X.A (call f us) (EP X pins σ Q) X.xe s
def Og(X:Cx)(r:V->Hp->(Bool->Hp->Prop)->Prop):Prop:=
 ∀(pins:List (Addr×Obj)) (s:Shared) (σ:St) (H:Hp) (x:V) (v:Value) (Q:Bool->Hp->Prop),Inv X pins σ H s->RelV x v->r x H Q->
  wpAny (model X.prog X.w) X.A (truthy v) (TP X pins σ Q) X.xe s
def eJ(r:R2)(ta tb:TE):TE:=fun σ H Q=>ta σ H fun x H1=>tb σ H1 fun y H2=>r x y H2 Q
def Ec(r:V->Hp->VK->Prop)(ta:TE):TE:=fun σ H Q=>ta σ H fun x H1=>r x H1 Q
def rI(C:Int->Int->Prop)(g:Int->Int->V):R2:=fun x y H Q=>∃i j,x=.int i/\y=.int j/\C i j/\Q (g i j) H
def kH(g:Int->Int->V):R2:=fun x y H Q=>∃i j,x=.int i/\y=.int j/\Q (g i j) H
def rU(g:Int->V):V->Hp->VK->Prop:=fun x H Q=>∃i,x=.int i/\Q (g i) H
section
variable {X:Cx}{a b c:Expr}{ta tb tc:TE}{pos:Pos}
theorem yA(ha:PE X a ta)(hb:PE X b tb){pins:List (Addr×Obj)}{s:Shared}{σ:St}{H:Hp}{R:V->V->Hp->Prop}(I:Inv X pins σ H s)
  (h:ta σ H fun x H1=>tb σ H1 fun y H2=>R x y H2) {Q:Value->Shared->Prop}{f:Value->Value->Sem Value}
  (hf:∀v u s2 x y H2,Inv X pins σ H2 s2->RelV x v->RelV y u->R x y H2->wpAny (model X.prog X.w) X.A (f v u) Q X.xe s2):
  wpAny (model X.prog X.w) X.A (eval a X.env) (fun v s₁=>wpAny (model X.prog X.w) X.A (eval b X.env) (fun u s₂=>wpAny (model X.prog X.w) X.A (f v u) Q X.xe s₂) X.xe s₁) X.xe s:=by
 refine aL (ha pins s σ H _ I h) fun v s1 ⟨x,H1,I1,r1,q1⟩=>?_;refine aL (hb pins s1 σ H1 _ I1 q1) fun u s2 ⟨y,H2,I2,r2,q2⟩=>?_;exact hf v u s2 x y H2 I2 r1 r2 q2
theorem Oh{op:Operator}{r:R2}(ho:bq X (binaryOp op) r)(ha:PE X a ta)(hb:PE X b tb):PE X (.BinOp a op b pos) (eJ r ta tb):=by
 intro pins s σ H Q I h;exact wpAny_BinOp<|yA ha hb I h fun v u s2 x y H2 I2 rx ry q=>ho pins s2 σ H2 x y v u Q I2 rx ry q
theorem Oi{op:UnaryOp}{r:V->Hp->VK->Prop}(ho:vi X (unaryOp op) r)(ha:PE X a ta):PE X (.UnaryOp op a pos) (Ec r ta):=by
 intro pins s σ H Q I h;exact UnaryOp_<|aL (ha pins s σ H _ I h) fun v s1 ⟨x,H1,I1,r1,q1⟩=>ho pins s1 σ H1 x v Q I1 r1 q1
theorem vj{f:Value->Value->Sem Value}{C:Int->Int->Prop}{g:Int->Int->Int}
  (rule:∀(i j:Int) (t u:Tok) (s:Shared) (Q:Value->Shared->Prop) (E:Value->Shared->Prop),C i j->Q (.int (g i j) s.toks) {s with toks:=s.toks+1}->wpAny (model X.prog X.w) X.A (f (.int i t)<|.int j u) Q E s):
  bq X f (rI C fun i j=>.int (g i j)):=by
 intro pins s σ H x y v u Q I rx ry h;obtain⟨i,j,rfl,rfl,hc,q⟩:=h;obtain⟨t,rfl⟩:=rx;obtain⟨t',rfl⟩:=ry;exact rule i j t t' s _ _ hc ⟨.int<|g i j,H,I.tok _,⟨_,rfl⟩,q⟩
theorem Ed{f:Value->Value->Sem Value}{g:Int->Int->Int}
  (rule:∀(i j:Int) (t u:Tok) (s:Shared) (Q:Value->Shared->Prop) (E:Value->Shared->Prop),Q (.int (g i j) s.toks) {s with toks:=s.toks+1}->wpAny (model X.prog X.w) X.A (f (.int i t)<|.int j u) Q E s):
  bq X f (kH fun i j=>.int (g i j)):=by
 intro pins s σ H x y v u Q I rx ry h;obtain⟨i,j,rfl,rfl,q⟩:=h;obtain⟨t,rfl⟩:=rx;obtain⟨t',rfl⟩:=ry;exact rule i j t t' s _ _ ⟨.int<|g i j,H,I.tok _,⟨_,rfl⟩,q⟩
theorem vk{f:Value->Value->Sem Value}{g:Int->Int->Bool}
  (rule:∀(i j:Int) (t u:Tok) (s:Shared) (Q:Value->Shared->Prop) (E:Value->Shared->Prop),Q (.bool<|g i j) s->wpAny (model X.prog X.w) X.A (f (.int i t)<|.int j u) Q E s):
  bq X f (kH fun i j=>.bl (g i j)):=by
 intro pins s σ H x y v u Q I rx ry h;obtain⟨i,j,rfl,rfl,q⟩:=h;obtain⟨t,rfl⟩:=rx;obtain⟨t',rfl⟩:=ry;exact rule i j t t' s _ _ ⟨.bl<|g i j,H,I,rfl,q⟩
def yB(i j:Int):Prop:=0<j/\j<1073741824
def Ee(i j:Int):Prop:=0<=j/\j<=1000000/\i.natAbs<2 ^ 64
def rF(i j:Int):Prop:=(-(2 ^ 64) <i/\i<2 ^ 64)\/(-(2 ^ 64) <j/\j<2 ^ 64)
theorem rF.ok{i j:Int}(h:rF i j):IntMulOk i j:=by
 rcases h with⟨h1,h2⟩|⟨h1,h2⟩
 ·exact .of_left (intBits_le_64 h1 h2)
 ·exact .of_right (intBits_le_64 h1 h2)
theorem Oj:bq X (binaryOp .Add) (kH fun i j=>.int (i+j)):=Ed fun _ _ _ _ _ _ _ q=>add_int q
theorem Ol:bq X (binaryOp .Sub) (kH fun i j=>.int (i - j)):=Ed fun _ _ _ _ _ _ _ q=>sub_int q
theorem Om:bq X (binaryOp .Mult) (rI rF fun i j=>.int (i*j)):=vj fun _ _ _ _ _ _ _ hc q=>mul_int q hc.ok
theorem Oo:bq X (binaryOp .FloorDiv) (rI yB fun i j=>.int (i / j)):=vj fun i j _ _ _ _ _ hc q=>by
 have h1:(0:Int) <j:=hc.1;have h2:j<1073741824:=hc.2;exact floordiv_int (by omega) (by rw[Int.fdiv_eq_ediv_of_nonneg i (by omega)];exact q)<|.inl<|PyProof.noPylong_small (by omega)
theorem Oq:bq X (binaryOp .Mod) (rI (fun _ j=>0<j) fun i j=>.int (i % j)):=vj fun i j _ _ _ _ _ hc q=>by
 have h1:(0:Int) <j:=hc;exact mod_int' (by omega) (by rw[Int.fmod_eq_emod_of_nonneg i (by omega)];exact q)
theorem Ot:bq X (binaryOp .Pow) (rI Ee fun i j=>.int (i ^ j.toNat)):=vj fun _ _ _ _ _ _ _ hc q=>pow_int_small hc.1 hc.2.1 hc.2.2 q
theorem Ou{f:Value->Sem Value}{g:Int->Int}
  (rule:∀(i:Int) (t:Tok) (s:Shared) (Q:Value->Shared->Prop) (E:Value->Shared->Prop),Q (.int (g i) s.toks) {s with toks:=s.toks+1}->wpAny (model X.prog X.w) X.A (f<|.int i t) Q E s):
  vi X f (rU fun i=>.int (g i)):=by
 intro pins s σ H x v Q I rx h;obtain⟨i,rfl,q⟩:=h;obtain⟨t,rfl⟩:=rx;exact rule i t s _ _ ⟨.int<|g i,H,I.tok _,⟨_,rfl⟩,q⟩
theorem Ov:vi X (unaryOp .USub) (rU fun i=>.int (-i)):=Ou fun _ _ _ _ _ q=>neg_int q
end
def jU:V->V->Bool
 |.aF,.aF=>true|.aF,.int _=>true|.int _,.aF=>true|.aF,.bl _=>true|.bl _,.aF=>true|.aF,.str _=>true|.str _,.aF=>true
 |.int _,.int _=>true|.bl _,.bl _=>true|.str _,.str _=>true|.fg _,.fg _=>true
 |.int _,.str _=>true|.str _,.int _=>true|.bl _,.str _=>true|.str _,.bl _=>true
 |_,_=>false
def Ow:R2:=fun x y H Q=>jU x y=true/\Q (.bl<|decide<|x=y) H
def Ox:R2:=fun x y H Q=>jU x y=true/\Q (.bl<|!decide (x=y)) H
theorem Ef{i j:Int}:decide (V.int i=V.int j)=(i==j):=by
 rw[zbh]
 simp
theorem Eg{i j:Bool}:decide (V.bl i=V.bl j)=(i==j):=by
 rw[zbh]
 simp
theorem fU{i j:Str}:decide (V.str i=V.str j)=(i==j):=by
 rw[zbh]
 simp
theorem Eh{i j:Array UInt8}:decide (V.fg i=V.fg j)=(i.toList==j.toList):=by
 rw[zbh];cases i;cases j
 simp
section
variable {X:Cx}{a b c:Expr}{ta tb tc:TE}{pos:Pos}
theorem bW{pins:List (Addr×Obj)}{σ:St}{H:Hp}{s:Shared}{Q:VK}{k k':Bool}(I:Inv X pins σ H s)(q:Q (.bl k) H)(e:k=k'):EP X pins σ Q (.bool k') s:=by
 subst e;exact⟨.bl k,H,I,rfl,q⟩
theorem Oy:bq X (compareOp .Eq) Ow:=by
 intro pins s σ H x y v u Q I rx ry h;obtain⟨hs,q⟩:=h;cases x with
 |aF=>
  cases rx;cases y with
  |aF=>cases ry;exact PySem.EqNone.eq_none_none (bW I q (by simp))
  |bl j=>cases ry;exact PySem.EqNone.eq_none_bool (bW I q (by simp))
  |int j=>obtain⟨t',rfl⟩:=ry;exact PySem.EqNone.eq_none_int (bW I q (by simp))
  |str j=>obtain⟨t',rfl⟩:=ry;exact PySem.EqNone.eq_none_str (bW I q (by simp))
  |_=>exact absurd (show false=true from hs) zan
 |bl i=>
  cases rx;cases y with
  |aF=>cases ry;exact PySem.EqNone.eq_bool_none (bW I q (by simp))
  |bl j=>cases ry;exact eq_bool (bW I q Eg)
  |str j=>obtain⟨t',rfl⟩:=ry;exact PySem.EqMixed.eq_bool_str (bW I q (by simp))
  |_=>exact absurd (show false=true from hs) zan
 |int i=>
  obtain⟨t,rfl⟩:=rx;cases y with
  |aF=>cases ry;exact PySem.EqNone.eq_int_none (bW I q (by simp))
  |int j=>obtain⟨t',rfl⟩:=ry;exact eq_int (bW I q Ef)
  |str j=>obtain⟨t',rfl⟩:=ry;exact PySem.EqMixed.eq_int_str (bW I q (by simp))
  |_=>exact absurd (show false=true from hs) zan
 |str i=>
  obtain⟨t,rfl⟩:=rx;cases y with
  |aF=>cases ry;exact PySem.EqNone.eq_str_none (bW I q (by simp))
  |bl j=>cases ry;exact PySem.EqMixed.eq_str_bool (bW I q (by simp))
  |int j=>obtain⟨t',rfl⟩:=ry;exact PySem.EqMixed.eq_str_int (bW I q (by simp))
  |str j=>obtain⟨t',rfl⟩:=ry;exact eq_str (bW I q fU)
  |_=>exact absurd (show false=true from hs) zan
 |fg i=>
  obtain⟨t,rfl⟩:=rx;cases y with
  |fg j=>obtain⟨t',rfl⟩:=ry;exact PySem.W.eq_bytes (bW I q Eh)
  |_=>exact absurd (show false=true from hs) zan
 |_=>cases y<;>exact absurd (show false=true from hs) zan
theorem Oz:bq X (compareOp .NotEq) Ox:=by
 intro pins s σ H x y v u Q I rx ry h;obtain⟨hs,q⟩:=h;cases x with
 |aF=>
  cases rx;cases y with
  |aF=>cases ry;exact PySem.EqNone.ne_none_none (bW I q (by simp))
  |bl j=>cases ry;exact PySem.EqNone.ne_none_bool (bW I q (by simp))
  |int j=>obtain⟨t',rfl⟩:=ry;exact PySem.EqNone.ne_none_int (bW I q (by simp))
  |str j=>obtain⟨t',rfl⟩:=ry;exact PySem.EqNone.ne_none_str (bW I q (by simp))
  |_=>exact absurd (show false=true from hs) zan
 |bl i=>
  cases rx;cases y with
  |aF=>cases ry;exact PySem.EqNone.ne_bool_none (bW I q (by simp))
  |bl j=>cases ry;exact ne_bool (bW I q<|congrArg not Eg)
  |str j=>obtain⟨t',rfl⟩:=ry;exact PySem.EqMixed.ne_bool_str (bW I q (by simp))
  |_=>exact absurd (show false=true from hs) zan
 |int i=>
  obtain⟨t,rfl⟩:=rx;cases y with
  |aF=>cases ry;exact PySem.EqNone.ne_int_none (bW I q (by simp))
  |int j=>obtain⟨t',rfl⟩:=ry;exact ne_int (bW I q<|congrArg not Ef)
  |str j=>obtain⟨t',rfl⟩:=ry;exact PySem.EqMixed.ne_int_str (bW I q (by simp))
  |_=>exact absurd (show false=true from hs) zan
 |str i=>
  obtain⟨t,rfl⟩:=rx;cases y with
  |aF=>cases ry;exact PySem.EqNone.ne_str_none (bW I q (by simp))
  |bl j=>cases ry;exact PySem.EqMixed.ne_str_bool (bW I q (by simp))
  |int j=>obtain⟨t',rfl⟩:=ry;exact PySem.EqMixed.ne_str_int (bW I q (by simp))
  |str j=>obtain⟨t',rfl⟩:=ry;exact ne_str (bW I q<|congrArg not fU)
  |_=>exact absurd (show false=true from hs) zan
 |fg i=>
  obtain⟨t,rfl⟩:=rx;cases y with
  |fg j=>obtain⟨t',rfl⟩:=ry;exact PySem.W.ne_bytes (bW I q<|congrArg not Eh)
  |_=>exact absurd (show false=true from hs) zan
 |_=>cases y<;>exact absurd (show false=true from hs) zan
theorem OA:bq X (compareOp .Lt) (kH fun i j=>.bl (decide<|i<j)):=vk fun _ _ _ _ _ _ _ q=>lt_int q
theorem OB:bq X (compareOp .LtE) (kH fun i j=>.bl (decide<|i<=j)):=vk fun _ _ _ _ _ _ _ q=>le_int q
theorem OC:bq X (compareOp .Gt) (kH fun i j=>.bl (decide<|j<i)):=vk fun _ _ _ _ _ _ _ q=>gt_int q
theorem OD:bq X (compareOp .GtE) (kH fun i j=>.bl (decide<|j<=i)):=vk fun _ _ _ _ _ _ _ q=>ge_int q
theorem OE:bq X (compareOp .In) (fun x y H Q=>∃i j,x=.str i/\y=.str j/\Q (.bl<|!(Builtin.Str.occurrences j i 0 j.length 1).isEmpty) H):=by
 intro pins s σ H x y v u Q I rx ry h;obtain⟨i,j,rfl,rfl,q⟩:=h;obtain⟨t,rfl⟩:=rx;obtain⟨t',rfl⟩:=ry;exact in_str<|bW I q rfl
theorem OF:bq X (compareOp .Is) (fun x y H Q=>y=.aF/\Q (.bl<|decide<|x=.aF) H):=by
 intro pins s σ H x y v u Q I rx ry h;obtain⟨rfl,q⟩:=h;cases ry;refine is_none_gen<|bW I q ?_;cases x<;>first
  | (cases rx;rfl)
  | (obtain⟨t,rfl⟩:=rx;rfl)
theorem OG:bq X (compareOp .IsNot) (fun x y H Q=>y=.aF/\Q (.bl<|!decide (x=.aF)) H):=by
 intro pins s σ H x y v u Q I rx ry h;obtain⟨rfl,q⟩:=h;cases ry;refine isnot_none_gen<|bW I q ?_;cases x<;>first
  | (cases rx;rfl)
  | (obtain⟨t,rfl⟩:=rx;rfl)
theorem OH:bq X (compareOp .NotIn) (fun x y H Q=>∃i j,x=.str i/\y=.str j/\Q (.bl<|!(!(Builtin.Str.occurrences j i 0 j.length 1).isEmpty)) H):=by
 intro pins s σ H x y v u Q I rx ry h;obtain⟨i,j,rfl,rfl,q⟩:=h;obtain⟨t,rfl⟩:=rx;obtain⟨t',rfl⟩:=ry;exact notIn_str<|bW I q rfl
theorem bq.or{f:Value->Value->Sem Value}{r r':R2}(h:bq X f r)(h':bq X f r'):bq X f (fun x y H Q=>r x y H Q\/r' x y H Q):=by
 intro pins s σ H x y v u Q I rx ry q;rcases q with q|q
 ·exact h pins s σ H x y v u Q I rx ry q
 ·exact h' pins s σ H x y v u Q I rx ry q
theorem OI{op:CmpOp}{r:R2}(ho:bq X (compareOp op) r)(ha:PE X a ta)(hb:PE X b tb)(hm:behindInMarks op b=false):PE X (.Compare a [op] [b] pos) (eJ r ta tb):=by
 intro pins s σ H Q I h;exact wpAny_Compare1 (yA ha hb I h fun v u s2 x y H2 I2 rx ry q=>ho pins s2 σ H2 x y v u Q I2 rx ry q) hm
def pQ(t:TE):TT:=fun σ H Q=>t σ H fun x H'=>∃k,x=.bl k/\Q k H'
theorem OJ{op:CmpOp}{r:R2}(ho:bq X (compareOp op) r)(ha:PE X a ta)(hb:PE X b tb)(hm:behindInMarks op b=false):PT X (.Compare a [op] [b] pos) (pQ<|eJ r ta tb):=by
 intro pins s σ H Q I h;refine wpAny_isTrue_Compare1 (aL (ha pins s σ H _ I h) fun v s1 ⟨x,H1,I1,r1,q1⟩=>aL (hb pins s1 σ H1 _ I1 q1) fun u s2 ⟨y,H2,I2,r2,q2⟩=>
  aL (ho pins s2 σ H2 x y v u _ I2 r1 r2 q2) fun c s3 ⟨z,H3,I3,r3,k,e,q3⟩=>?_) hm
 subst e;cases r3;exact wpAny_truthy_bool ⟨H3,I3,q3⟩
def vm(r r':R2)(ta tb tc:TE):TE:=fun σ H Q=>ta σ H fun x H1=>tb σ H1 fun y H2=>r x y H2 fun z H3=>∃k,z=.bl k/\
 (if k=true then tc σ H3 fun w' H4=>r' y w' H4 Q else Q (.bl false) H3)
theorem OK{op fi:CmpOp}{r r':R2}(ho:bq X (compareOp op) r)(dA:bq X (compareOp fi) r')(ha:PE X a ta)(hb:PE X b tb)(hc:PE X c tc)
  (hm:lastMarks [op,fi] [b,c]=false:=by with_unfolding_all rfl):PE X (.Compare a [op,fi] [b,c] pos) (vm r r' ta tb tc):=by
 intro pins s σ H Q I h;refine Compare_chain (aL (ha pins s σ H _ I h) fun v s1 ⟨x,H1,I1,r1,q1⟩=>chain_link (aL (hb pins s1 σ H1 _ I1 q1) fun u s2 ⟨y,H2,I2,r2,q2⟩=>
  aL (ho pins s2 σ H2 x y v u _ I2 r1 r2 q2) fun d s3 ⟨z,H3,I3,r3,k,e,q3⟩=>?_)) hm
 subst e;cases r3;refine wpAny_truthy_bool ?_;cases k with
 |false=>exact ite_ff ⟨.bl false,H3,I3,rfl,q3⟩
 |true=>exact ite_tt (chain_last<|aL (hc pins s3 σ H3 _ I3 q3) fun w' s4 ⟨z',H4,I4,r4,q4⟩=>dA pins s4 σ H4 y z' u w' Q I4 r2 r4 q4)
def Ei(K:Frag)(x:V)(H:Hp)(k:Bool):Prop:=
 match x with
 |.aF=>k=false
 |.bl b=>k=b
 |.int i=>k=(i !=0)
 |.str y=>y.length<=sizeLine/\k=((y.length:Int) !=0)
 |.fg y=>y.size<=sizeLine/\k=((y.size:Int) !=0)
 |.ref p=>(∃xs,au K H p xs/\k= !xs.isEmpty)\/(∃xs,aD K H p xs/\k= !xs.isEmpty)\/∃kvs,H p=some (.dK kvs)/\k= !kvs.isEmpty
 |_=>False
theorem OL{κ:Type}{kvs:List (κ×V)}{vs:List (κ×Value)}(r:KV kvs vs):(!vs.isEmpty)= !kvs.isEmpty:=by
 cases r<;>rfl
theorem Ej{xs:List V}{ah:List Value}(r:Vals xs ah):(!ah.toArray.isEmpty)= !xs.isEmpty:=by
 cases r<;>simp
theorem nK:(sizeLine:Nat) <2 ^ 63:=by rw[sizeLine_eq];decide
theorem Ek:Og X (fun x H Q=>∃k,Ei X.K x H k/\Q k H):=by
 intro pins s σ H x v Q I rx h;obtain⟨k,e,q⟩:=h;have hl:=nK;have hs:sizeLine=16777216:=sizeLine_eq;cases x with
 |aF=>
  cases rx;have e':k=false:=e;subst e';exact truthy_none ⟨H,I,q⟩
 |bl b=>
  cases rx;have e':k=b:=e;subst e';exact wpAny_truthy_bool ⟨H,I,q⟩
 |int i=>
  obtain⟨t,rfl⟩:=rx;have e':k=(i !=0):=e;subst e';exact PySem.P.truthy_int ⟨H,I,q⟩
 |str y=>
  obtain⟨t,rfl⟩:=rx;obtain⟨hy,e'⟩:y.length<=sizeLine/\k=((y.length:Int) !=0):=e;subst e';exact PySem.P.truthy_str (by omega) ⟨H,I.tok _,q⟩
 |fg y=>
  obtain⟨t,rfl⟩:=rx;obtain⟨hy,e'⟩:y.size<=sizeLine/\k=((y.size:Int) !=0):=e;subst e';exact PySem.W.truthy_bytes (by omega) ⟨H,I.tok _,q⟩
 |ref p=>
  cases rx;have e':(∃xs,au X.K H p xs/\k= !xs.isEmpty)\/(∃xs,aD X.K H p xs/\k= !xs.isEmpty)\/∃kvs,H p=some (.dK kvs)/\k= !kvs.isEmpty:=e;rcases e' with⟨xs,hx,e'⟩|⟨xs,hx,e'⟩|⟨kvs,hx,e'⟩
  ·subst e';obtain⟨ah,r,pl,hz⟩:=I.list hx;have hlen:=r.length;exact wpAny_truthy_list pl.isList (by simp only[zah];omega) ⟨H,I.tok _,by rw[Ej r];exact q⟩
  ·subst e';obtain⟨ah,r,pl,hz⟩:=I.tuple hx;have hlen:=r.length;exact truthy_tuple pl (by simp only[zah];omega) ⟨H,I.tok _,by rw[Ej r];exact q⟩
  ·subst e';obtain⟨hz,hS,vs,r,m⟩:kvs.length<=sizeLine/\(p==sysModules)=false/\∃vs,KV kvs vs/\s.heap.DictOf (eg X.prog X.w) p vs:=I.aE p _ hx;have hlen:kvs.length=vs.length:=Paired.length r;exact wpAny_truthy_dict hS m (by omega) ⟨H,I.tok _,by rw[OL r];exact q⟩
 |_=>exact(show False from e).elim
theorem OM:bq X (binaryOp .Add) (fun x y H Q=>∃i j,x=.str i/\y=.str j/\i.length+j.length<=sizeLine/\Q (.str<|i++j) H):=by
 intro pins s σ H x y v u Q I rx ry h;obtain⟨i,j,rfl,rfl,hz,q⟩:=h;obtain⟨t,rfl⟩:=rx;obtain⟨t',rfl⟩:=ry;exact add_str (fun t' tk=>⟨.str<|i++j,H,I.tok _,⟨_,rfl⟩,q⟩) hz
theorem vals1{x:V}{us:List Value}(r:Vals [x] us):∃u,us=[u]/\RelV x u:=by
 cases r with
 |cons r1 r2=>cases r2;exact⟨_,rfl,r1⟩
theorem vals2{x y:V}{us:List Value}(r:Vals [x,y] us):∃u w',us=[u,w']/\RelV x u/\RelV y w':=by
 cases r with
 |cons r1 r2=>
  cases r2 with
  |cons r3 r4=>cases r4;exact⟨_,_,rfl,r1,r3⟩
theorem ON(hc:X.calm=true):cW X (.builtin "max") (fun xs H Q=>∃i j,xs=[.int i,.int j]/\Q (.int (if j>i then j else i)) H):=by
 intro pins s σ H xs us Q I r h;obtain⟨i,j,rfl,q⟩:=h;obtain⟨u,w',rfl,⟨t,rfl⟩,⟨t',rfl⟩⟩:=vals2 r;refine max_two_ints (I.ok.hd hc) fun h' tk k=>⟨_,H,I.kept k,?_,q⟩;by_cases hj:j>i
 ·rw[if_pos hj,if_pos hj];exact⟨_,rfl⟩
 ·rw[if_neg hj,if_neg hj];exact⟨_,rfl⟩
theorem OO(hc:X.calm=true):cW X (.builtin "min") (fun xs H Q=>∃i j,xs=[.int i,.int j]/\Q (.int (if j<i then j else i)) H):=by
 intro pins s σ H xs us Q I r h;obtain⟨i,j,rfl,q⟩:=h;obtain⟨u,w',rfl,⟨t,rfl⟩,⟨t',rfl⟩⟩:=vals2 r;refine min_two_ints (I.ok.hd hc) fun h' tk k=>⟨_,H,I.kept k,?_,q⟩;by_cases hj:j<i
 ·rw[if_pos hj,if_pos hj];exact⟨_,rfl⟩
 ·rw[if_neg hj,if_neg hj];exact⟨_,rfl⟩
theorem OP:cW X (.type "int") (fun xs H Q=>(∃i,xs=[.int i]/\Q (.int i) H)\/∃k,xs=[.bl k]/\Q (.int (if k then 1 else 0)) H):=by
 intro pins s σ H xs us Q I r h;rcases h with⟨i,rfl,q⟩|⟨k,rfl,q⟩
 ·obtain⟨u,rfl,t,rfl⟩:=vals1 r;exact call_int_int ⟨.int i,H,I,⟨_,rfl⟩,q⟩
 ·obtain⟨u,rfl,r1⟩:=vals1 r;cases r1;exact call_int_bool ⟨.int (if k then 1 else 0),H,I.tok _,⟨_,rfl⟩,q⟩
def El(K:Frag)(x:V)(H:Hp)(n:Nat):Prop:=
 match x with
 |.str y=>y.length<=sizeLine/\n=y.length
 |.fg y=>y.size<=sizeLine/\n=y.size
 |.ref p=>(∃xs,au K H p xs/\n=xs.length)\/∃xs,aD K H p xs/\n=xs.length
 |_=>False
theorem OQ:cW X (.builtin "len") (fun xs H Q=>∃x n,xs=[x]/\El X.K x H n/\Q (.int n) H):=by
 intro pins s σ H xs us Q I r h;obtain⟨x,n,rfl,e,q⟩:=h;obtain⟨u,rfl,rx⟩:=vals1 r;have hl:=nK;have hs:sizeLine=16777216:=sizeLine_eq;cases x with
 |str y=>
  obtain⟨t,rfl⟩:=rx;obtain⟨hy,e'⟩:y.length<=sizeLine/\n=y.length:=e;subst e';exact len_str (by omega) ⟨.int _,H,I.tok _,⟨_,rfl⟩,q⟩
 |fg y=>
  obtain⟨t,rfl⟩:=rx;obtain⟨hy,e'⟩:y.size<=sizeLine/\n=y.size:=e;subst e';exact PySem.W.len_bytes (by omega) ⟨.int _,H,I.tok _,⟨_,rfl⟩,q⟩
 |ref p=>
  cases rx;have e':(∃xs,au X.K H p xs/\n=xs.length)\/∃xs,aD X.K H p xs/\n=xs.length:=e;rcases e' with⟨xs,hx,e'⟩|⟨xs,hx,e'⟩
  ·subst e';obtain⟨ah,r',pl,hz⟩:=I.list hx;have hlen:=r'.length;exact Calls.call_len_list pl.isList (by simp only[zah];omega) ⟨.int xs.length,H,I.tok _,⟨_,by simp only[zah];rw[hlen]⟩,q⟩
  ·subst e';obtain⟨ah,r',pl,hz⟩:=I.tuple hx;have hlen:=r'.length;exact len_tuple pl (by simp only[zah];omega) ⟨.int xs.length,H,I.tok _,⟨_,by simp only[zah];rw[hlen]⟩,q⟩
 |_=>exact(show False from e).elim
end
structure nM (h:Heap) (x dx C:Addr) (mA:Str->Option Value):Prop where
 obj:h.get? x=some (instObj C dx)
 ns:h.Ns1 dx mA
 ne:dx≠x
theorem OR{h:Heap}{dx:Addr}{mA:Str->Option Value}(n:h.Ns1 dx mA):∃od,h.get? dx=some od/\∀name,lookIn name od=some (mA name):=by
 obtain⟨o,es,ep,ho,hd,hk,_,hm⟩:=n;refine⟨o,ho,fun name=>?_⟩;have e:=hm name;unfold nsFind findBy at e;rw[<-Array.find?_toList] at e;unfold lookIn;rw[hd]
 dsimp only
 split
 ·rename_i y q
  rw[q] at e;exact congrArg some e
 ·rename_i q
  rw[q] at e;have a:es.toList.any (·.refKey)=false:=by
   rw[List.any_eq_false];intro y hy;obtain⟨z,t,OS⟩:=hk y (Array.mem_toList_iff.mp hy)
   simp[DictEntry.refKey,OS]
  have a':¬es.toList.any (·.refKey)=true:=by rw[a];exact zan
  rw[if_neg a'];exact congrArg some e
theorem nM.look{h:Heap}{x dx C:Addr}{mA:Str->Option Value}(I:nM h x dx C mA):∃od,PySem.W.InstAt h x (instObj C dx) C (some od)/\∀name,lookIn name od=some (mA name):=
 let ⟨od,ho,hl⟩:=OR I.ns
 ⟨od,⟨I.obj,rfl,rfl,ho⟩,hl⟩
section
variable {prog:Program}{w:World}{A:Around}{E:Value->Shared->Prop}{s:Shared}{K:Frag}{x dx C f:Addr}{mA:Str->Option Value}{name:Str}{v:Value}
theorem get_map{expr:Bool}{Q:Value->Shared->Prop}(X:K.In s.heap)(I:nM s.heap x dx C mA)(hg:plainGet K C name=true)(hh:hasDictIn K C=true)
  (ha:PySem.W.findIn K (.ref C) name=some none) (hv:mA name=some v) (yC:handedIn v=true) (h:Q v {s with toks:=s.toks+1}):
  wpAny (model prog w) A (getAttr (.ref x) name expr) Q E s:=by
 obtain⟨od,J,hl⟩:=I.look;exact PySem.W.get_value X J (plainGet_of hg).1 (PySem.W.findObj_own hh ha rfl (by rw[hl,hv])) yC h
theorem OT{pl:Sem Bool}{Q:Value×List Value->Shared->Prop}(X:K.In s.heap)(I:nM s.heap x dx C mA)(hg:plainGet K C name=true)
  (hf:PySem.W.findIn K (.ref C) name=some (some<|.ref f)) (ht:PySem.W.isFn K (.ref f)=true) (hv:mA name=none) (h:Q (.ref f,[.ref x]) s):
  wpAny (model prog w) A (getMethod (.ref x) name pl) Q E s:=by
 obtain⟨od,J,hl⟩:=I.look;exact PySem.W.method_fn X J (plainGet_of hg).1 (plainGet_of hg).2 hf (beq_iff_eq.mp ht) (by show(lookIn name od).map (·.isSome)=some false;rw[hl,hv];rfl) h
theorem OU{ns:List Str}{Q:Unit->Shared->Prop}(X:K.In s.heap)(I:nM s.heap x dx C mA)
  (hs:PySem.W.findIn K (.ref C) "__setattr__"=some (some<|.builtin "object.__setattr__")) (hp:plainOver K C=true) (ht:takerIn K C name=some none) (hh:hasDictIn K C=true)
  (hw:PySem.Within mA ns) (nN:ns.length<=sizeLine)
  (h:∀h',nM h' x dx C (fun y=>if y=name then some v else mA y)->Heap.SameBut dx s.heap h'->Q () {s with heap:=h',toks:=s.toks+2}):
  wpAny (model prog w) A (setAttr (.ref x) name v) Q E s:=by
 obtain⟨od,J,hl⟩:=I.look;refine PySem.W.set_plain X J hs<|PySem.W.osa_open (s:={s with toks:=s.toks+1}) (r:=none) X J hp ht fun b=>?_
 obtain⟨cd,hc,nG⟩:=PySem.W.any_some hh;have hx:s.heap.get? x=some ⟨.ref C,some dx,.plain,#[]⟩:=I.obj;refine wpAny_bind<|wpAny_pure<|wpAny_bind<|wpAny_bind<|wpAny_loadPart hx<|wpAny_bind<|PySem.W.Looks.here (s:={s with toks:=s.toks+1}) (PySem.W.looks_clsIn X hc) ?_
 rw[nG];refine wpAny_pure (a:=some dx)<|wpAny_bind<|wpAny_pure<|wpAny_bind ?_;refine wpAny_nsSet1 (s:={s with toks:=s.toks+1}) I.ns fun h' rG cf=>?_
 obtain⟨oD,esD,epD,OV,OW,OX⟩:=rG.count (PySem.Within.cons name v hw);refine wpAny_bind<|wpAny_lookBehind OV (by rw[OW];exact pastItsLine_dict (zas OX (by rw[zay];omega))) ?_
 exact wpAny_pure<|h _ ⟨(cf.2 _<|Ne.symm I.ne).trans I.obj,rG,I.ne⟩ cf
theorem OY{R:Result->Shared->Prop}{vs:List Value}{kw:List (Str×Value)}(X:K.In s.heap)(hm:makesIn K C=true)
  (hi:PySem.W.findIn K (.ref C) "__init__"=some (some<|.ref f)) (hf:PySem.W.typeIn K (.ref f)=some (.type "function"))
  (h:codeAny (model prog w) (A.under (.builtin "type.__call__" ⟨.ref C::vs,kw⟩)) (.call (.ref f) ⟨.ref (s.heap.objs.size+1)::vs,kw⟩) (PySem.W.InitBack (s.heap.objs.size+1) R)
   {s with heap:=(s.heap.push emptyDict).push (instObj C s.heap.objs.size)}):
  codeAny (model prog w) A (.call (.ref C) ⟨vs,kw⟩) R s:=by
 obtain⟨hh,g,d,t,os⟩:=s;exact PySem.W.make_core (PySem.W.makes_of X hm) (PySem.W.looks_findIn X hi) (fun self=>PySem.W.bind_fn X self hf) (.inl rfl) h
end
def aU(f:Str)(v:V):List (Str×V)->List (Str×V)
 |[]=>[(f,v)]
 |(g,x)::r=>if g=f then (g,v)::r else (g,x)::aU f v r
theorem Em(f g:Str)(v:V):∀fs:List (Str×V),(aU f v fs).lookup g=if g=f then some v else fs.lookup g
 |[]=>by
  show List.lookup g [(f,v)]=_;by_cases h:g=f
  ·have hb:(g==f)=true:=beq_iff_eq.mpr h
   simp only[List.lookup,hb,if_pos h]
  ·have hb:(g==f)=false:=beq_eq_false_iff_ne.mpr h
   simp only[List.lookup,hb,if_neg h]
 |(k,x)::r=>by
  have ih:=Em f g v r;rw[show aU f v ((k,x)::r)=(if k=f then (k,v)::r else (k,x)::aU f v r) from rfl]
  by_cases hk:k=f
  ·rw[if_pos hk];by_cases h:g=k
   ·have hb:(g==k)=true:=beq_iff_eq.mpr h
    simp only[List.lookup,hb,if_pos<|h.trans hk]
   ·have hb:(g==k)=false:=beq_eq_false_iff_ne.mpr h
    simp only[List.lookup,hb,if_neg (fun e:g=f=>h (e.trans hk.symm))]
  ·rw[if_neg hk];by_cases h:g=k
   ·have hb:(g==k)=true:=beq_iff_eq.mpr h
    simp only[List.lookup,hb,if_neg (fun e:g=f=>hk (h.symm.trans e))]
   ·have hb:(g==k)=false:=beq_eq_false_iff_ne.mpr h
    simp only[List.lookup,hb]
    exact ih
theorem yD(f:Str)(v:V):∀fs:List (Str×V),f∈ (aU f v fs).map (·.1)/\∀g,g∈fs.map (·.1)->g∈ (aU f v fs).map (·.1)
 |[]=>⟨by simp[aU],fun g h=>by simp at h⟩
 |(k,x)::r=>by
  obtain⟨i1,i2⟩:=yD f v r;rw[show aU f v ((k,x)::r)=(if k=f then (k,v)::r else (k,x)::aU f v r) from rfl]
  by_cases hk:k=f
  ·rw[if_pos hk];subst hk;exact⟨by simp,fun g h=>by simpa using h⟩
  ·rw[if_neg hk];refine⟨?_,fun g h=>?_⟩
   ·rw[zaw];exact zav _ i1
   ·rw[zaw] at h⊢;rcases zaa.mp h with e|e
    ·exact zaa.mpr (.inl e)
    ·exact zav _ (i2 g e)
theorem En(f:Str)(v:V):∀fs:List (Str×V),(aU f v fs).length<=fs.length+1
 |[]=>by simp[aU]
 |(k,x)::r=>by
  have ih:=En f v r;rw[show aU f v ((k,x)::r)=(if k=f then (k,v)::r else (k,x)::aU f v r) from rfl]
  by_cases hk:k=f
  ·rw[if_pos hk,zay,zay];omega
  ·rw[if_neg hk,zay,zay];omega
theorem g_.some_of{v:V}{o:Option Value}(r:g_ (some v) o):∃u,o=some u/\RelV v u:=by
 cases o with
 |none=>exact(show False from r).elim
 |some u=>exact⟨u,rfl,r⟩
theorem g_.none_of{o:Option Value}(r:g_ none o):o=none:=by
 cases o with
 |none=>rfl
 |some u=>exact(show False from r).elim
theorem OZ{v:V}{u:Value}(r:RelV v u):handedIn u=true:=by
 cases v with
 |aF=>cases (show u=Value.none from r);rfl
 |bl b=>cases (show u=Value.bool b from r);rfl
 |int i=>obtain⟨t,e⟩:=(show ∃t,u=Value.int i t from r);cases e;rfl
 |str x=>obtain⟨t,e⟩:=(show ∃t,u=Value.str x t from r);cases e;rfl
 |fg b=>obtain⟨t,e⟩:=(show ∃t,u=Value.bytes b t from r);cases e;rfl
 |iS b=>obtain⟨t,e⟩:=(show ∃t,u=Value.float b t from r);cases e;rfl
 |ref a=>cases (show u=Value.ref a from r);rfl
 |ty n=>cases (show u=Value.type n from r);rfl
section
variable {P:Program}{w:World}{H H':Hp}{h h':Heap}{a C dx:Addr}{fs rB:List (Str×V)}
theorem vn(aE:bR P w H h)(e:H a=some (.ins C dx fs)):∃mA,nM h a dx C mA/\(∀f,g_ (fs.lookup f)<|mA f)/\PySem.Within mA (fs.map (·.1))/\fs.length<=1000/\H dx=some (.own a):=by
 obtain⟨d,z,ne,ob,mA,n,r,q⟩:=(show cB P w H h a (.ins C dx fs) from aE a _ e)
 exact⟨mA,⟨ob,n,ne⟩,r,q,z,d⟩
end
structure fj (K:Frag) (C:Addr):Prop where
 pg:plainGet K C Str.empty=true
 hd:hasDictIn K C=true
 po:plainOver K C=true
 sa:PySem.W.findIn K (.ref C) "__setattr__"=some (some<|.builtin "object.__setattr__")
theorem fj.get{K:Frag}{C:Addr}(c:fj K C)(f:Str):plainGet K C f=true:=c.pg
def fV(K:Frag)(C:Addr)(f:Str):Prop:=PySem.W.findIn K (.ref C) f=some none
theorem fV.O0{K:Frag}{C:Addr}{f:Str}(n:fV K C f):takerIn K C f=some none:=by
 unfold takerIn;rw[show PySem.W.findIn K (.ref C) f=some none from n]
 rfl
structure Meth (K:Frag) (C:Addr) (m:Str) (f:Addr):Prop where
 at_:PySem.W.findIn K (.ref C) m=some (some<|.ref f)
 fn:PySem.W.isFn K (.ref f)=true
 kp:PySem.W.keepIn K (.ref f)=true
section
variable {X:Cx}{pins:List (Addr×Obj)}{σ:St}{H:Hp}{s:Shared}{a C dx:Addr}{fs:List (Str×V)}{f:Str}{v:V}{A:Around}{E:Value->Shared->Prop}
theorem O1{b:Bool}{Q:Value->Shared->Prop}(I:Inv X pins σ H s)(e:H a=some (.ins C dx fs))(c:fj X.K C)(n:fV X.K C f)(l:fs.lookup f=some v)
  (h:∀u s',Inv X pins σ H s'->RelV v u->Q u s'):wpAny (model X.prog X.w) A (getAttr (.ref a) f b) Q E s:=by
 obtain⟨mA,O,r,_,_,_⟩:=vn I.aE e;obtain⟨u,hu,ru⟩:=g_.some_of (v:=v) (o:=mA f) (by rw[<-l];exact r f)
 exact get_map I.c5 O (c.get f) c.hd n hu (OZ ru)<|h u _ (I.tok _) ru
theorem Eo{m:Str}{g:Addr}{pl:Sem Bool}{Q:Value×List Value->Shared->Prop}(I:Inv X pins σ H s)(e:H a=some (.ins C dx fs))(c:fj X.K C)(k:Meth X.K C m g)(l:fs.lookup m=none)
  (h:Q (.ref g,[.ref a]) s):wpAny (model X.prog X.w) A (getMethod (.ref a) m pl) Q E s:=by
 obtain⟨mA,O,r,_,_,_⟩:=vn I.aE e;have hn:mA m=none:=g_.none_of (by rw[<-l];exact r m)
 exact OT I.c5 O (c.get m) k.at_ k.fn hn h
theorem O2{y:V}{u:Value}{Q:Unit->Shared->Prop}(I:Inv X pins σ H s)(e:H a=some (.ins C dx fs))(c:fj X.K C)(n:fV X.K C f)(hl:fs.length<1000)(ry:RelV y u)
  (h:∀s',Inv X pins σ (upd H a<|.ins C dx<|aU f y fs) s'->Q () s'):wpAny (model X.prog X.w) A (setAttr (.ref a) f u) Q E s:=by
 obtain⟨mA,O,r,wi,_,ho⟩:=vn I.aE e;have hz:(fs.map (·.1)).length<=sizeLine:=by rw[zac,sizeLine_eq];omega
 refine OU I.c5 O c.sa c.po n.O0 c.hd wi hz fun h' O' sb=>h _ ?_;have hd:∃o,h'.get? dx=some o:=let ⟨o,_,_,e',_⟩:=O'.ns;⟨o,e'⟩;refine I.write (x:=a) (e:=dx) (by rw[e];exact True.intro) (.inr ho) (fun b q hb z=>(sb.2 b hb).trans z) hd ?_
 refine⟨by rw[aC O.ne];exact ho,?_,O.ne,O'.obj,_,O'.ns,fun g=>?_,fun g hg=>?_⟩
 ·have:=En f y fs;omega
 ·show g_ ((aU f y fs).lookup g) (if g=f then some u else mA g)
  rw[Em];by_cases q:g=f
  ·rw[if_pos q,if_pos q];exact ry
  ·rw[if_neg q,if_neg q];exact r g
 ·by_cases q:g=f
  ·rw[q];exact(yD f y fs).1
  ·refine(yD f y fs).2 g (wi g fun z=>hg ?_);show(if g=f then some u else mA g)=none
   rw[if_neg q];exact z
theorem Inv.made(I:Inv X pins σ H s):Inv X pins σ (upd (upd H s.heap.objs.size<|.own<|s.heap.objs.size+1) (s.heap.objs.size+1)<|.ins C s.heap.objs.size [])
  {s with heap:=(s.heap.push emptyDict).push (instObj C s.heap.objs.size)}:=by
 have e1:(s.heap.push emptyDict).get? s.heap.objs.size=some emptyDict:=Heap.get?_push_size s.heap rfl;have e2:((s.heap.push emptyDict).push<|instObj C s.heap.objs.size).get? (s.heap.objs.size+1)=some (instObj C s.heap.objs.size):=by
  have:=Heap.get?_push_size (s.heap.push emptyDict) (o:=instObj C s.heap.objs.size) rfl
  rwa [Heap.size_push] at this
 have e3:(s.heap.push emptyDict).Ns s.heap.objs.size (fun _=>none):=⟨emptyDict,#[],_,e1,rfl,(fun e he=>absurd he (by simp)),fun _=>rfl⟩
 have I1:=I.laid (a:=s.heap.objs.size) (o:=.own (s.heap.objs.size+1)) (h':=s.heap.push emptyDict) (t':=s.toks) (fun b u q=>Heap.get?_push_of_some _ q) (zqR _) ⟨_,e1⟩;refine I1.laid (a:=s.heap.objs.size+1) (o:=.ins C s.heap.objs.size []) (t':=s.toks) (fun b u q=>Heap.get?_push_of_some _ q) (zbi<|Heap.size_push _ _) ?_;have ne:s.heap.objs.size≠s.heap.objs.size+1:=zal (Nat.lt_succ_self _);refine⟨by rw[aC ne,aw],zqZ _,ne,e2,fun _=>none,(Heap.Ns1.of_empty e3).at fun o q=>Heap.get?_push_of_some _ q,fun _=>True.intro,fun y hy=>absurd rfl hy⟩
theorem O3{prog:Program}{w:World}{env:Env}{e:Expr}{f:Str}{pos:Pos}{s:Shared}{Q:Value->Shared->Prop}(hb:attributeBase e f env (eval e env)=eval e env)
  (h:wpAny (model prog w) A (eval e env) (fun o s₁=>wpAny (model prog w) A (getAttr o f true) Q E s₁) E s):wpAny (model prog w) A (eval (.Attribute e f pos) env) Q E s:=
 Attribute_any_ h (by rw[arm_eval_Attribute,hb])
end
def vo(K:Frag)(ta:TE)(f:Str):TE:=fun σ H Q=>ta σ H fun x H1=>∃a C dx fs v,x=.ref a/\H1 a=some (.ins C dx fs)/\fj K C/\fV K C f/\fs.lookup f=some v/\Q v H1
def vp(K:Frag)(ta tv:TE)(f:Str):TS:=fun D σ H=>tv σ H fun y H1=>ta σ H1 fun x H2=>∃a C dx fs,x=.ref a/\H2 a=some (.ins C dx fs)/\fj K C/\fV K C f/\fs.length<1000/\
 D.nx σ (upd H2 a<|.ins C dx<|aU f y fs)
section
variable {X:Cx}{o e value:Expr}{f:Str}{pos pos' yE:Pos}{ta tv:TE}
theorem O4(he:PE X e ta)(hb:attributeBase e f X.env (eval e X.env)=eval e X.env):PE X (.Attribute e f pos) (vo X.K ta f):=by
 intro pins s σ H Q I h;refine O3 hb<|aL (he pins s σ H _ I h) fun u s1 ⟨x,H1,I1,rx,a,C,dx,fs,v,ex,ea,c,n,l,q⟩=>?_;subst ex;obtain rfl:u=Value.ref a:=rx;exact O1 I1 ea c n l fun u' s2 I2 ru=>⟨v,H1,I2,ru,q⟩
theorem Ep(ha:PE X o ta)(hv:PE X value tv)(hs:swapsWith value (some<|.Attribute o f pos') pos.line X.env=pure false):PS X (.Assign [.Attribute o f pos'] value pos) (vp X.K ta tv f):=by
 intro pins s σ H D I h;refine plainObj_wpAny_Assign_Attribute (aL (hv pins s σ H _ I h) fun u s1 ⟨y,H1,I1,ry,q⟩=>aL (ha pins s1 σ H1 _ I1 q) fun ov s2 ⟨x,H2,I2,rx,a,C,dx,fs,ex,ea,c,n,l,q2⟩=>?_) hs;subst ex;obtain rfl:ov=Value.ref a:=rx;exact O2 I2 ea c n l ry fun s3 I3=>⟨σ,_,I3,q2⟩
end
section
variable {X:Cx}{pins:List (Addr×Obj)}{σ:St}{H:Hp}{s:Shared}{A:Around}{E:Value->Shared->Prop}{Q:Value->Shared->Prop}{c:Value}{b:Bool}
inductive iW (K:Frag) (H:Hp):V->Value->Prop where
 |aF:iW K H .aF (.type "NoneType")
 |bl (x:Bool):iW K H (.bl x) (.type "bool")
 |int (i:Int):iW K H (.int i) (.type "int")
 |str (x:Str):iW K H (.str x) (.type "str")
 |iS (x:UInt64):iW K H (.iS x) (.type "float")
 |lst {a:Addr}{xs:List V} (e:H a=some (.lst xs)):iW K H (.ref a) (.type "list")
 |bO {a:Addr}{o:Obj}{xs:List V} (e:H a=some (.bO o<|.lst xs)):iW K H (.ref a) (.type "list")
 |tup {a:Addr}{xs:List V} (e:H a=some (.tup xs)):iW K H (.ref a) (.type "tuple")
 |dK {a:Addr}{kvs:List (Key×V)} (e:H a=some (.dK kvs)):iW K H (.ref a) (.type "dict")
 |dT {a:Addr}{kvs:List (List Key×V)} (e:H a=some (.dT kvs)):iW K H (.ref a) (.type "dict")
 |ins {a C dx:Addr}{fs:List (Str×V)} (e:H a=some (.ins C dx fs)) (cl:fj K C) (ha:PySem.W.findIn K (.ref C) "__class__"=some (some<|.builtin "object.__class__"))
   (hn:specialIn K (.builtin "object.__class__") "__get__"=some (some<|.builtin "getset_descriptor.__get__")) (gC:takesIn K (.builtin "object.__class__")=some true)
   (hm:mroIn K C (.type "object")=some true):iW K H (.ref a) (.ref C)
theorem kI{x:V}{u t:Value}(I:Inv X pins σ H s)(rx:RelV x u)(ty:iW X.K H x t)(e:kitOne X.K t c=some b)(h:∀tk,Q (.bool b) {s with toks:=tk}):
  wpAny (model X.prog X.w) A (call (.builtin "isinstance") [u,c]) Q E s:=by
 cases ty with
 |aF=>cases (show u=Value.none from rx);exact kia_one PySem.W.kitx_none I.c5 True.intro e (fun z=>nomatch z) h
 |bl y=>cases (show u=Value.bool y from rx);exact kia_one PySem.W.kitx_bool I.c5 True.intro e (fun z=>nomatch z) h
 |int i=>obtain⟨t,q⟩:=(show ∃t,u=Value.int i t from rx);cases q;exact kia_one PySem.W.kitx_int I.c5 True.intro e (fun z=>nomatch z) h
 |str y=>obtain⟨t,q⟩:=(show ∃t,u=Value.str y t from rx);cases q;exact kia_one PySem.W.kitx_str I.c5 True.intro e (fun z=>nomatch z) h
 |iS y=>obtain⟨t,q⟩:=(show ∃t,u=Value.float y t from rx);cases q;exact kia_one PySem.W.kitx_float I.c5 True.intro e (fun z=>nomatch z) h
 | @lst a xs ea=>
  cases (show u=Value.ref a from rx)
  obtain⟨_,_,n,_,h1⟩:=(show cB X.prog X.w H s.heap a (.lst xs) from I.aE a _ ea)
  exact kia_one kitx_list I.c5 ⟨_,h1,rfl⟩ e (fun z=>nomatch z) h
 | @bO a ob xs ea=>
  cases (show u=Value.ref a from rx)
  obtain⟨_,_,_,n,_,h1⟩:=(show cB X.prog X.w H s.heap a (.bO ob<|.lst xs) from I.aE a _ ea)
  exact kia_one kitx_list I.c5 ⟨_,h1,rfl⟩ e (fun z=>nomatch z) h
 | @tup a xs ea=>
  cases (show u=Value.ref a from rx)
  obtain⟨_,_,_,p⟩:=(show cB X.prog X.w H s.heap a (.tup xs) from I.aE a _ ea)
  obtain⟨o,h1,h2,_⟩:=p;exact kia_one PySem.W.kitx_tuple I.c5 ⟨o,h1,h2⟩ e (fun z=>nomatch z) h
 | @dK a kvs ea=>
  cases (show u=Value.ref a from rx)
  obtain⟨_,_,vs,_,p⟩:=(show cB X.prog X.w H s.heap a (.dK kvs) from I.aE a _ ea)
  obtain⟨o,es,ep,h1,h2,_⟩:=p;exact kia_one kitx_dict I.c5 ⟨o,h1,h2.1⟩ e (fun z=>nomatch z) h
 | @dT a kvs ea=>
  cases (show u=Value.ref a from rx)
  obtain⟨_,_,xs,_,o,es,ep,h1,h2,_⟩:=(show cB X.prog X.w H s.heap a (.dT kvs) from I.aE a _ ea)
  exact kia_one kitx_dict I.c5 ⟨o,h1,h2.1⟩ e (fun z=>nomatch z) h
 | @ins a C dx fs ea cl ha hn gC hm=>
  cases (show u=Value.ref a from rx)
  obtain⟨mA,O,_⟩:=vn I.aE ea;obtain⟨od,J,_⟩:=O.look;exact kia_one (PySem.W.kitx_own (cl.get _) cl.hd ha hn gC hm) I.c5 J e (fun z=>nomatch z) h
end
structure c7 (k:Nat) (A:Around):Prop where
 hd:A.handled=none
 dp:A.depth+3*k+5<recursionLimit
 un:A.units+16*k+200<cLine
 gd:A.guards=some []:=by rfl
theorem c7.mono{j k:Nat}{A:Around}(r:c7 k A)(h:j<=k):c7 j A:=⟨r.hd,by have:=r.dp;omega,by have:=r.un;omega,r.gd⟩
theorem c7.deeper{k:Nat}{A:Around}(r:c7 (k+1) A)(env:Env):c7 k (A.deeper env):=
 ⟨r.hd,by have:=r.dp;show A.depth+1+3*k+5<_;omega,by have:=r.un;show A.units+3+16*k+200<_;omega,r.gd⟩
theorem O5{A:Around}{C:Addr}{us:List Value}{kw:List (Str×Value)}:(A.under<|.builtin "type.__call__" ⟨.ref C::us,kw⟩).depth=A.depth+1:=by
 first|rfl|simp[Around.under,Code.weight,Code.isCreation,Code.isGuard,Code.isCaller,Code.frames,Code.isFrame,guardIds]
theorem O6{A:Around}{C:Addr}{us:List Value}{kw:List (Str×Value)}:(A.under<|.builtin "type.__call__" ⟨.ref C::us,kw⟩).units=A.units+1:=by
 first|rfl|simp[Around.under,Code.cUnits,Code.frames,Code.isFrame]
theorem c7.make{k:Nat}{A:Around}(r:c7 (k+1) A)(C:Addr)(us:List Value)(kw:List (Str×Value)):c7 k (A.under<|.builtin "type.__call__" ⟨.ref C::us,kw⟩):=
 ⟨r.hd,by have:=r.dp;rw[O5];omega,by have:=r.un;rw[O6];omega,by first|exact r.gd|simp[Around.under,Code.guards,Code.isGuard,guardIds,pushGuards,r.gd]⟩
theorem c7.depth{k:Nat}{A:Around}(r:c7 k A):A.depth<recursionLimit:=by have:=r.dp;omega
theorem c7.units{k:Nat}{A:Around}(r:c7 k A):A.units+64<cLine:=by have:=r.un;omega
def iX:TA:=fun _ H Q=>Q [] H
def dQ(ta:TE)(tr:TA):TA:=fun σ H Q=>ta σ H fun x H1=>tr σ H1 fun xs H2=>Q (x::xs) H2
section
variable {X:Cx}{e:Expr}{es:List Expr}{te:TE}{t:TA}{pos:Pos}
theorem rH:PA X [] iX:=fun _ _ _ _ H Q I h=>Calls.spliced_nil ⟨[],H,I,.nil,h⟩
theorem lV(ha:PE X e te)(hr:PA X es t)(hs:starEach (e::es) X.env=(false,eval e X.env)::starEach es X.env:=by rfl):PA X (e::es) (dQ te t):=by
 intro pos pins s σ H Q I h;rw[hs];show wpAny _ _ (spliced ((false,eval e X.env)::backTo pos (starEach es X.env))) _ _ s;refine Calls.spliced_cons<|aL (ha pins s σ H _ I h) fun u s1 ⟨x,H1,I1,r1,q1⟩=>?_;exact aL (hr pos pins s1 σ H1 _ I1 q1) fun us s2 ⟨xs,H2,I2,r2,q2⟩=>⟨x::xs,H2,I2,.cons r1 r2,q2⟩
def Er(t:TA):TE:=fun σ H Q=>t σ H fun xs H1=>xs.length<=sizeLine/\∀p,H1 p=none->Q (.ref p) (upd H1 p<|.tup xs)
def Es(t:TA):TE:=fun σ H Q=>t σ H fun xs H1=>xs.length<=sizeLine/\∀p,H1 p=none->Q (.ref p) (upd H1 p<|.lst xs)
theorem O7{x1}(h:PA X es t):PE X (.Tuple es x1 pos) (Er t):=by
 intro pins s σ H Q I hq;refine wpAny_Tuple_spliced<|aL (h pos pins s σ H _ I hq) fun us s1 ⟨xs,H1,I1,r,z,q⟩=>⟨by rw[<-r.length];exact z,?_⟩
 have hf:H1 s1.heap.objs.size=none:=I1.aE.fresh (zqR _);refine⟨.ref s1.heap.objs.size,upd H1 s1.heap.objs.size<|.tup xs,I1.laid (t':=s1.toks) (fun b u e=>Heap.get?_push_of_some _ e) (zqR _) ?_,rfl,q _ hf⟩;exact⟨z,us,r,⟨_,Heap.get?_push_size _ rfl,rfl,_,rfl⟩⟩
theorem O8(h:PA X es t):PE X (.List es pos) (Es t):=by
 intro pins s σ H Q I hq;refine wpAny_List_spliced<|aL (h pos pins s σ H _ I hq) fun us s1 ⟨xs,H1,I1,r,z,q⟩=>⟨by rw[<-r.length];exact z,?_⟩
 have hf:H1 s1.heap.objs.size=none:=I1.aE.fresh (zqR _);refine⟨.ref s1.heap.objs.size,upd H1 s1.heap.objs.size<|.lst xs,I1.laid (t':=s1.toks) (fun b u e=>Heap.get?_push_of_some _ e) (zqR _) ?_,rfl,q _ hf⟩;exact⟨z,us,0,r,Heap.get?_push_size _ rfl⟩
end
abbrev Sp:=List V->Hp->VK->XK->Prop
abbrev cI:=List Env->Hp->Shared->XK->Value->Shared->Prop
structure lW (P:Program) (w:World) (K:Frag) (mg:Str->Option Value) (base:Heap) (A:Around) (outer:List Env) (s:Shared) (H:Hp):Prop where
 frames:A.frames=some outer
 mod:Mod K mg base
 bs:∀b o,base.get? b=some o->s.heap.get? b=some o/\H b=none
 nE:base.objs.size<=s.heap.objs.size
 jk:s.heap.FunFrames base outer
 pL:∀b∈bx outer,H b=none
 aE:bR P w H s.heap
 bare:AllBare s.gens
def CE(outer:List Env)(P:Program)(w:World)(H:Hp)(s:Shared)(Q:VK)(u:Value)(s':Shared):Prop:=
 ∃v H',s'.os=s.os/\AllBare s'.gens/\Un (bx outer) [] H H' s.heap s'.heap/\bR P w H' s'.heap/\RelV v u/\Q v H'
def CR(CX:cI)(outer:List Env)(P:Program)(w:World)(H:Hp)(s:Shared)(Q:VK)(E:XK)(r:Result)(s':Shared):Prop:=
 match r with
 |.ok (.ret u)=>CE outer P w H s Q u s'
 |.ok _=>False
 |.error e=>CX outer H s E e s'
structure cX (P:Program) (w:World) (K:Frag) (mg:Str->Option Value) (base:Heap) (CX:cI) (k:Nat) (f:Addr) (fd:FuncData) (ps:List Str) (sp:Sp):Prop where
 len:∀vs H Q E,sp vs H Q E->vs.length=ps.length
 run:∀(A:Around) (outer:List Env) (s:Shared) (H:Hp) (args:Args) (us:List Value) (vs:List V) (Q:VK) (E:XK),c7 k A->lW P w K mg base A outer s H->BindsTo s fd args (ps.zip us)->Vals vs us->sp vs H Q E->
  codeAny (model P w) A (.call (.ref f) args) (CR CX outer P w H s Q E) s
theorem cX.mono{P:Program}{w:World}{K:Frag}{mg:Str->Option Value}{base:Heap}{CX:cI}{j k:Nat}{f:Addr}{fd:FuncData}{ps:List Str}{sp:Sp}(F:cX P w K mg base CX j f fd ps sp)(h:j<=k):
  cX P w K mg base CX k f fd ps sp:=⟨F.len,fun A outer s H args us vs Q E hr=>F.run A outer s H args us vs Q E<|hr.mono h⟩
theorem lW.make{P:Program}{w:World}{K:Frag}{mg:Str->Option Value}{base:Heap}{A:Around}{outer:List Env}{s:Shared}{H:Hp}(e:lW P w K mg base A outer s H)(C:Addr)(us:List Value)(kw:List (Str×Value)):
  lW P w K mg base (A.under<|.builtin "type.__call__" ⟨.ref C::us,kw⟩) outer s H:=⟨by first|exact e.frames| (simpa[Around.under,Code.envs,Code.isFrame,pushEnvs] using e.frames),e.mod,e.bs,e.nE,e.jk,e.pL,e.aE,e.bare⟩
section
variable {X:Cx}{pins:List (Addr×Obj)}{σ:St}{H:Hp}{s s':Shared}
theorem Inv.Et(I:Inv X pins σ H s):lW X.prog X.w X.K X.mg X.base X.A X.stack s H:=
 ⟨I.ok.frames,I.ok.mod,I.bs,zas I.ok.nE I.sz,I.stack,I.uZ,I.aE,I.bare⟩
theorem Inv.after{Q:VK}{u:Value}(I:Inv X pins σ H s)(h:CE X.stack X.prog X.w H s Q u s'):EP X pins σ Q u s':=by
 obtain⟨v,H',os,bare,un,aE,r,q⟩:=h;obtain⟨hh,g,d,t,vq⟩:=s';obtain rfl:vq=s.os:=os;exact⟨v,H',I.call (h':=hh) (g':=g) (d':=d) (t':=t) (ch:=[]) un aE bare<|fun b z=>absurd z (by simp),r,q⟩
end
def yF(sp:Sp)(fk:List V)(E:XK)(t:TA):TE:=fun σ H Q=>t σ H fun vs H1=>sp (vs++fk) H1 Q E
def lX(C:Addr)(m:Str)(sp:Sp)(fk:List V)(E:XK)(ta:TE)(t:TA):TE:=fun σ H Q=>ta σ H fun x H1=>∃a dx fs,x=.ref a/\H1 a=some (.ins C dx fs)/\fs.lookup m=none/\
 t σ H1 fun vs H2=>sp (x::(vs++fk)) H2 Q E
def vt(C:Addr)(sp:Sp)(fk:List V)(E:XK)(t:TA):TE:=fun σ H Q=>t σ H fun vs H1=>∀x dx,H1 x=none->H1 dx=none->dx≠x->
 sp (.ref x::(vs++fk)) (upd (upd H1 dx<|.own x) x<|.ins C dx []) (fun v H2=>v=.aF/\Q (.ref x) H2) E
def Binds(K:Frag)(fd:FuncData)(ps:List Str)(ds:List Value):Prop:=
 ∀(s:Shared) (us:List Value),K.In s.heap->(us++ds).length=ps.length->BindsTo s fd ⟨us,[]⟩ (ps.zip<|us++ds)
theorem Binds.all{K:Frag}{fd:FuncData}{ps:List Str}(h:∀us:List Value,us.length=ps.length->bindArgs fd ⟨us,[]⟩=pure (ps.zip us)):Binds K fd ps []:=fun s us _ hl=>by
 rw[zad] at hl⊢;exact .of_eq<|h us hl
def Passes(CX:cI)(X:Cx)(E:XK):Prop:= ∀(pins:List (Addr×Obj)) (σ:St) (H:Hp) (s:Shared) (e:Value) (s':Shared),Inv X pins σ H s->CX X.stack H s E e s'->X.xe e s'
section
variable {X:Cx}{CX:cI}{k:Nat}{f C:Addr}{fd:FuncData}{ps:List Str}{sp:Sp}{fk:List V}{ds:List Value}{E:XK}{x m:Str}{p pos apos:Pos}{e o:Expr}{es:List Expr}{ta:TE}{t:TA}
theorem yG{pins:List (Addr×Obj)}{σ:St}{H:Hp}{s:Shared}{Q:VK}{us:List Value}{vs:List V}(F:cX X.prog X.w X.K X.mg X.base CX k f fd ps sp)(hr:c7 k X.A)(hb:Binds X.K fd ps ds)(hd:Vals fk ds)(hx:Passes CX X E)
  (I:Inv X pins σ H s) (r:Vals vs us) (h:sp (vs++fk) H Q E):wpAny (model X.prog X.w) X.A (call (.ref f) us) (EP X pins σ Q) X.xe s:=by
 have r2:Vals (vs++fk) (us++ds):=r.append hd;have hl:(us++ds).length=ps.length:=by rw[<-r2.length];exact F.len _ _ _ _ h
 refine wpAny_call<|codeAny_mono (F.run X.A X.stack s H ⟨us,[]⟩ (us++ds) (vs++fk) Q E hr I.Et (hb s us I.c5 hl) r2 h) fun r s' hq=>?_;cases r with
 |error e=>exact hx pins σ H s e s' I hq
 |ok fl=>
  cases fl with
  |ret u=>exact I.after hq
  |next=>exact False.elim hq
  |brk=>exact False.elim hq
  |cont=>exact False.elim hq
theorem O9(F:cX X.prog X.w X.K X.mg X.base CX k f fd ps sp)(hr:c7 k X.A)(hg:Gl X x)(hm:X.mg x=some (.ref f))(hk:PySem.W.keepIn X.K (.ref f)=true)(hb:Binds X.K fd ps ds)(hd:Vals fk ds)(hx:Passes CX X E)
  (ha:PA X (e::es) t) (nO:(x==("__debug__":Str))=false:=by decide) (he:starEach (e::es) X.env=(false,eval e X.env)::starEach es X.env:=by rfl) (jV:(backTo pos<|starEach es X.env).any (·.1)=false:=by rfl):
  PE X (.Call (.Name x p) (e::es) [] pos) (yF sp fk E t):=by
 intro pins s σ H Q I h;refine wpAny_Call_Name_kw<|va I hg hm ?_ nO;refine callWith_K (h₀:=X.base) I.ok.mod.rC hk (aL (ha pos pins s σ H _ I h) fun us s1 ⟨vs,H1,I1,r,q⟩=>⟨I1.c5,?_⟩) he jV;exact yG F hr hb hd hx I1 r q
structure Mk (K:Frag) (C f:Addr):Prop where
 makes:makesIn K C=true
 init:PySem.W.findIn K (.ref C) "__init__"=some (some<|.ref f)
 fn:PySem.W.isFn K (.ref f)=true
 kp:PySem.W.keepIn K (.ref C)=true
theorem O_{pins:List (Addr×Obj)}{σ:St}{H:Hp}{s:Shared}{Q:VK}{us:List Value}{vs:List V}(M:Mk X.K C f)(F:cX X.prog X.w X.K X.mg X.base CX k f fd ps sp)(hr:c7 (k+1) X.A)(hb:Binds X.K fd ps ds)(hd:Vals fk ds)
  (hx:Passes CX X E) (I:Inv X pins σ H s) (r:Vals vs us)
  (h:∀x dx,H x=none->H dx=none->dx≠x->sp (.ref x::(vs++fk)) (upd (upd H dx<|.own x) x<|.ins C dx []) (fun v H2=>v=.aF/\Q (.ref x) H2) E):
  wpAny (model X.prog X.w) X.A (call (.ref C) us) (EP X pins σ Q) X.xe s:=by
 have hq:=h (s.heap.objs.size+1) s.heap.objs.size (I.aE.fresh<|Nat.le_succ _) (I.aE.fresh<|zqR _) (zal<|Nat.lt_succ_self _);have I2:=Inv.made (C:=C) I;have r2:Vals (V.ref (s.heap.objs.size+1)::(vs++fk)) (Value.ref (s.heap.objs.size+1)::(us++ds)):=.cons rfl (r.append hd);have hl:(Value.ref (s.heap.objs.size+1)::us++ds).length=ps.length:=by
  have e:=r2.length;rw[F.len _ _ _ _ hq] at e;exact e.symm
 refine wpAny_call (OY (f:=f) I.c5 M.makes M.init (beq_iff_eq.mp M.fn) (codeAny_mono (F.run _ X.stack _ _ ⟨Value.ref (s.heap.objs.size+1)::us,[]⟩ (Value.ref (s.heap.objs.size+1)::(us++ds)) _ _ E (hr.make C us [])
  (I2.Et.make C us []) (hb _ (Value.ref (s.heap.objs.size+1)::us) I2.c5 hl) r2 hq) fun r s' jn=>?_))
 cases r with
 |error e=>exact hx pins σ _ _ e s' I2 jn
 |ok fl=>
  cases fl with
  |ret u=>
   obtain⟨v,H',I3,rv,ev,q3⟩:=I2.after jn;subst ev;exact⟨rv,⟨V.ref<|s.heap.objs.size+1,H',I3,rfl,q3⟩⟩
  |next=>exact False.elim jn
  |brk=>exact False.elim jn
  |cont=>exact False.elim jn
theorem Pa(M:Mk X.K C f)(F:cX X.prog X.w X.K X.mg X.base CX k f fd ps sp)(hr:c7 (k+1) X.A)(hg:Gl X x)(hm:X.mg x=some (.ref C))(hb:Binds X.K fd ps ds)(hd:Vals fk ds)(hx:Passes CX X E)
  (ha:PA X (e::es) t) (nO:(x==("__debug__":Str))=false:=by decide) (he:starEach (e::es) X.env=(false,eval e X.env)::starEach es X.env:=by rfl) (jV:(backTo pos<|starEach es X.env).any (·.1)=false:=by rfl):
  PE X (.Call (.Name x p) (e::es) [] pos) (vt C sp fk E t):=by
 intro pins s σ H Q I h;refine wpAny_Call_Name_kw<|va I hg hm ?_ nO;refine callWith_K (h₀:=X.base) I.ok.mod.rC M.kp (aL (ha pos pins s σ H _ I h) fun us s1 ⟨vs,H1,I1,r,q⟩=>⟨I1.c5,?_⟩) he jV;exact O_ M F hr hb hd hx I1 r q
end
structure rJ (N P:List Str) (sc:Scope):Prop where
 kind:sc.kind=.function
 co:sc.isCoroutine=false
 gen:sc.isGenerator=false
 nd:N.Nodup
 pre:N.take P.length=P
 par:∀x∈P,sc.names.lookup x=some .local\/sc.names.lookup x=some .cell
 Pb:∀y∈sc.names,y.2≠ .free
theorem Eu{kindOf:Str->Option NameKind}{x:Str}:∀{binds:List (Str×Value)}{m:Str->Option Value},(∀v,(x,v)∉binds)->bindL kindOf binds m x=m x
 |[],_,_=>rfl
 |(n,v)::r,m,h=>by
  unfold bindL;rw[Eu fun w hw=>h w (zav _ hw)]
  split
  ·have:x≠n:=by rintro rfl;exact h v zau
   simp[this]
  ·rfl
theorem Ew{kindOf:Str->Option NameKind}{x:Str}:∀{binds:List (Str×Value)}{m:Str->Option Value},(∀v,(x,v)∉binds)->bindC kindOf binds m x=m x
 |[],_,_=>rfl
 |(n,v)::r,m,h=>by
  unfold bindC;rw[Ew fun w hw=>h w (zav _ hw)]
  split
  ·rfl
  ·have:x≠n:=by rintro rfl;exact h v zau
   simp[this]
theorem Ex{kindOf:Str->Option NameKind}{x:Str}{v:Value}:∀{P:List Str}{vs:List Value}{i:Nat}{m:Str->Option Value},P.Nodup->P[i]?=some x->vs[i]?=some v->kindOf x=some .local->
  bindL kindOf (P.zip vs) m x=some v
 |[],_,_,_,_,h,_,_=>by simp at h
 |_::_,[],_,_,_,_,h,_=>by simp at h
 |p::P,w::vs,0,m,nd,h1,h2,hk=>by
  simp at h1 h2;subst h1;subst h2
  show bindL kindOf ((p,w)::P.zip vs) m p=_;unfold bindL;rw[Eu fun v hv=>(zaE.mp nd).1 (List.of_mem_zip hv).1,if_pos hk]
  simp
 |p::P,w::vs,i+1,m,nd,h1,h2,hk=>by
  show bindL kindOf ((p,w)::P.zip vs) m x=_;unfold bindL;exact Ex (i:=i) (zaE.mp nd).2 (by simpa using h1) (by simpa using h2) hk
theorem Ey{kindOf:Str->Option NameKind}{x:Str}{v:Value}:∀{P:List Str}{vs:List Value}{i:Nat}{m:Str->Option Value},P.Nodup->P[i]?=some x->vs[i]?=some v->kindOf x≠some .local->
  bindC kindOf (P.zip vs) m x=some v
 |[],_,_,_,_,h,_,_=>by simp at h
 |_::_,[],_,_,_,_,h,_=>by simp at h
 |p::P,w::vs,0,m,nd,h1,h2,hk=>by
  simp at h1 h2;subst h1;subst h2
  show bindC kindOf ((p,w)::P.zip vs) m p=_;unfold bindC;rw[Ew fun v hv=>(zaE.mp nd).1 (List.of_mem_zip hv).1,if_neg hk]
  simp
 |p::P,w::vs,i+1,m,nd,h1,h2,hk=>by
  show bindC kindOf ((p,w)::P.zip vs) m x=_;unfold bindC;exact Ey (i:=i) (zaE.mp nd).2 (by simpa using h1) (by simpa using h2) hk
def start(N:List Str)(vs:List V):St:=vs.map some++List.replicate (N.length - vs.length) none
def nP(CX:cI)(P:Program)(w:World)(K:Frag)(mg:Str->Option Value)(base:Heap)(N:List Str)(qual:Str)(scope:Scope)(f:Addr)(cd:Value)(A:Around)(outer:List Env)(s:Shared)(H:Hp)(E:XK):Cx where
 prog:=P
 w:=w
 K:=K
 mg:=mg
 base:=base
 A:=A.deeper (envOfC qual scope s.heap.objs.size f cd)
 N:=N
 s₀:=s
 H₀:=H
 env:=envOfC qual scope s.heap.objs.size f cd
 outer:=outer
 stack:=envOfC qual scope s.heap.objs.size f cd::outer
 ex:=[]
 calm:=true
 fn:=fun _=>true
 pn:=[]
 xe:=fun e s'=>wpAny (model P w) (A.deeper<|envOfC qual scope s.heap.objs.size f cd) (leaving (envOfC qual scope s.heap.objs.size f cd) e) (fun _ gE=>CX outer H s E e gE) (fun e' gE=>CX outer H s E e' gE) s'
theorem Ez{sc:Scope}{n:Nat}{x:Str}(h:sc.names.lookup x=some .cell):∃c,(cellsFrom n sc.names []).lookup x=some c:=by
 have q:=cellsFrom_some sc.names n [] (.inl h);exact Option.isSome_iff_exists.mp q
theorem Pc{CX:cI}{P:Program}{w:World}{K:Frag}{mg:Str->Option Value}{base:Heap}{N ps:List Str}{qual:Str}{scope:Scope}{f:Addr}{cd:Value}{A:Around}{outer:List Env}{s s1:Shared}{H:Hp}{E:XK}{us:List Value}{vs:List V}
  (S:rJ N ps scope) (hd:A.handled=none) (e0:lW P w K mg base A outer s H) (hl:vs.length=ps.length) (r:Vals vs us)
  (x:InCallC s s.heap.objs.size (bindL (envOfC qual scope s.heap.objs.size f cd).kindOf (ps.zip us) fun _=>none) (cellsFrom (s.heap.objs.size+1) scope.names []) (bindC (envOfC qual scope s.heap.objs.size f cd).kindOf (ps.zip us) fun _=>none) s1):
  Inv (nP CX P w K mg base N qual scope f cd A outer s H E) [] (start N vs) H s1:=by
 have jV:ps.length<=N.length:=by have:=congrArg List.length S.pre;rw[zaF] at this;omega
 obtain⟨h1,tk,rfl,hk⟩:=x.done;have rL:∀b:Addr,b∉ (nP CX P w K mg base N qual scope f cd A outer s H E).ex:=fun b z=>absurd (show b∈ ([]:List Addr) from z) (by simp)
 refine⟨⟨e0.mod,S.kind,rfl,rfl,zqR _,fun y z c h1 h2=>?_,fun y hy=>?_,fun y c _ h=>?_,fun _=>hd,Around.frames_deeper e0.frames,.inr ⟨rfl,rfl⟩,fun b z=>absurd z (rL b),e0.bs,e0.nE,fun b _ _=>rL b,fun b z=>absurd z (rL b),e0.jk,e0.pL⟩,
  rfl,e0.bare,Un.kept hk,⟨_,x.toInCall.ns,fun i y v h1 h2 h3=>?_⟩,fun y c h=>⟨_,x.cell y c h⟩,e0.aE.fresh (zqR _),fun y c h=>?_,fun p hp=>absurd (show p∈ ([]:List (Addr×Obj)) from hp) (by simp),e0.aE.kept hk,?_⟩
 ·exact name_of_addr x.apart (PySem.mem_of_lookup h1) (PySem.mem_of_lookup h2)
 ·have hy:scope.names.lookup y=some .cell\/scope.names.lookup y=some .free:=hy;rcases hy with hy|hy
  ·exact Ez hy
  ·exact absurd rfl (S.Pb _<|PySem.mem_of_lookup hy)
 ·exact Nat.le_of_lt (x.above y c<|PySem.mem_of_lookup h)
 ·have hi:i<vs.length:=by
   unfold start at h2;by_cases hi:i<vs.length
   ·exact hi
   ·rw[zaS (by simpa using hi)] at h2
    rw[List.getElem?_replicate] at h2
    split at h2<;>cases h2
  have ha:vs[i]?=some v:=by
   unfold start at h2;rw[zba (by simpa using hi),zaj] at h2
   cases e:vs[i]? with
   |none=>rw[e] at h2;cases h2
   |some a=>rw[e] at h2;cases h2;rfl
  obtain⟨u,hu,rv⟩:=r.get ha;have hp:ps[i]?=some y:=by
   rw[<-S.pre,List.getElem?_take_of_lt (by omega)];exact h1
  have EA:ps.Nodup:=by rw[<-S.pre];exact S.nd.sublist (List.take_sublist _ _)
  refine⟨u,rv,?_⟩;rcases S.par y (zar hp) with k|k
  ·exact .inl ⟨k,Ex EA hp hu k⟩
  ·obtain⟨c,e⟩:=Ez (n:=s.heap.objs.size+1) k;refine .inr ⟨.inl k,c,e,?_⟩;have q:=x.cell y c e;rw[Ey EA hp hu (by show scope.names.lookup y≠_;rw[k];decide)] at q
   exact q
 ·exact e0.aE.fresh (Nat.le_of_lt<|x.above y c<|PySem.mem_of_lookup h)
 ·unfold start;show _=N.length;rw[zqA,zac,zbj];omega
theorem Pd{CX:cI}{P:Program}{w:World}{K:Frag}{mg:Str->Option Value}{base:Heap}{k:Nat}{f:Addr}{name qual:Str}{params:Arguments}{body:List Stmt}{scope:Scope}{dV kV doc pm bC ct oc:Value}{an od:Option Addr}
  {iy:Array (Option Value)}{N ps:List Str}{sp:Sp} (lk:K.lookup f=some ⟨oc,od,.func<|PySem.W.fnOf name qual params body scope dV kV doc pm an bC ct,iy⟩) (jR:PySem.W.codeIn K bC qual=true) (S:rJ N ps scope)
  (len:∀vs H Q E,sp vs H Q E->vs.length=ps.length)
  (Pe:∀(A:Around) (outer:List Env) (s:Shared) (H:Hp) (vs:List V) (Q:VK) (E:XK),c7 k (A.deeper (envOfC qual scope s.heap.objs.size f bC))->sp vs H Q E->
   ∃t,dB (nP CX P w K mg base N qual scope f bC A outer s H E) body t/\t {nx:=fun _ H'=>Q .aF H',rt:=Q} (start N vs) H):
  cX P w K mg base CX (k+1) f (PySem.W.fnOf name qual params body scope dV kV doc pm an bC ct) ps sp:=by
 refine⟨len,fun A outer s H args us vs Q E hr e0 hb r lY=>?_⟩;have hl:=len _ _ _ _ lY;have KX:K.In s.heap:=e0.mod.rC.keeps fun b o e=>(e0.bs b o e).1;have lim:s.heap.NoLimit:=e0.mod.nolimit.keeps fun b o e=>(e0.bs b o e).1;have Pf:∀y∈ps.zip us,scope.names.lookup y.1=some .local\/(scope.names.lookup y.1=some .cell/\((cellsFrom (s.heap.objs.size+1) scope.names []).lookup y.1).isSome=true):=fun⟨n,v⟩ hy=>by
  rcases S.par n (List.of_mem_zip hy).1 with q|q
  ·exact .inl q
  ·exact .inr ⟨q,cellsFrom_some _ _ _<|.inl q⟩
 refine codeAny_call_function hr.depth (KX _ _ lk) rfl S.co S.gen rfl (PySem.W.codeRec_of KX jR)<|hb _ _ _ _ ?_;refine wpAny_newFunctionEnv_cells S.kind Pf fun env he s1 x=>?_;subst he;refine⟨lim.keeps x.toInCall.keep,codeAny_func ?_⟩;obtain⟨t,ht,hq⟩:=Pe A outer s H vs Q E (hr.deeper _) lY;have I:Inv (nP CX P w K mg base N qual scope f bC A outer s H E) [] (start N vs) H s1:=Pc S hr.hd e0 hl r x;refine wpAny_mono (ht [] s1 (start N vs) H _ I hq) (fun fl s' hs=>?_) fun e s' hs=>hs;have fin:∀{σ':St}{H':Hp}{v:V}{u:Value},Inv (nP CX P w K mg base N qual scope f bC A outer s H E) [] σ' H' s'->RelV v u->Q v H'->CE outer P w H s Q u s':=
  fun {σ' H' v u} J rv q=>⟨v,H',J.os,J.bare,J.base,J.aE,rv,q⟩
 cases fl with
 |ret u=>
  obtain⟨v,σ',H',J,rv,q⟩:=hs;exact fin J rv q
 |next=>
  obtain⟨σ',H',J,q⟩:=hs;exact fin (v:=V.aF) (u:=Value.none) J rfl q
 |brk=>
  obtain⟨_,_,_,q⟩:=hs;exact False.elim q
 |cont=>
  obtain⟨_,_,_,q⟩:=hs;exact False.elim q
section
variable {X:Cx}{x:Str}{p pos:Pos}{e:Expr}{es:List Expr}{t:TA}{id T:String}{r:List V->Hp->VK->Prop}
def iY(r:List V->Hp->VK->Prop)(t:TA):TE:=fun σ H Q=>t σ H fun vs H1=>r vs H1 Q
theorem yH(hc:cW X (.builtin id) r)(hg:Gl X x)(hm:X.mg x=none)(hv:bootBuiltins x=some (.builtin id))(ha:PA X (e::es) t)(hn:x≠"__name__":=by decide)(nO:(x==("__debug__":Str))=false:=by decide)
  (he:starEach (e::es) X.env=(false,eval e X.env)::starEach es X.env:=by rfl) (jV:(backTo pos<|starEach es X.env).any (·.1)=false:=by rfl):PE X (.Call (.Name x p) (e::es) [] pos) (iY r t):=by
 intro pins s σ H Q I h;refine wpAny_Call_Name_kw<|pN I hg hm hv ?_ hn nO;exact PyProof.Rows.callWith_builtin1 (aL (ha pos pins s σ H _ I h) fun us s1 ⟨vs,H1,I1,r1,q1⟩=>hc pins s1 σ H1 vs us Q I1 r1 q1) he jV
theorem Pg(hc:cW X (.type T) r)(hg:Gl X x)(hm:X.mg x=none)(hv:bootBuiltins x=some (.type T))(ha:PA X (e::es) t)(hn:x≠"__name__":=by decide)(nO:(x==("__debug__":Str))=false:=by decide)
  (he:starEach (e::es) X.env=(false,eval e X.env)::starEach es X.env:=by rfl) (jV:(backTo pos<|starEach es X.env).any (·.1)=false:=by rfl):PE X (.Call (.Name x p) (e::es) [] pos) (iY r t):=by
 intro pins s σ H Q I h;refine wpAny_Call_Name_kw<|pN I hg hm hv ?_ hn nO;exact PyProof.Rows.callWith_type1 (aL (ha pos pins s σ H _ I h) fun us s1 ⟨vs,H1,I1,r1,q1⟩=>hc pins s1 σ H1 vs us Q I1 r1 q1) he jV
end
end L2
namespace HT
open PySem PyProof.Rows
section
variable {prog:Program}{w:World}{A:Around}{E:Value->Shared->Prop}{s:Shared}
theorem Ph{t b:Addr}{vs ws:List Value}{Q:Value->Shared->Prop}(ht:IsTup s.heap t vs.toArray)(hb:IsTup s.heap b ws.toArray)(hv:vs≠ [])
  (h1:ws=[]->Q (.ref t) s) (h2:ws≠ []->Q (.ref s.heap.objs.size) {s with heap:=s.heap.push {cls:=.type "tuple",data:=.seq (vs++ws).toArray}})
  (nN:vs.length+ws.length<=sizeLine):wpAny (model prog w) A (binaryOp .Add (.ref t)<|.ref b) Q E s:=by
 obtain⟨⟨cls,dd,data,sl⟩,ho,hc,n,hd⟩:=id ht;obtain⟨⟨adA,EB,data2,rM⟩,fX,lZ,n2,hd2⟩:=id hb
 simp only at hc hd lZ hd2
 subst hc hd lZ hd2;have e:vs.toArray++ws.toArray=(vs++ws).toArray:=by simp
 by_cases hw:ws=[]
 ·exact concat_meets ⟨_,ho,rfl⟩ ⟨_,fX,rfl⟩ noFill_tuple_add seq_tuple_add PySem.F.slot_tuple_add PySem.F.entry_tuple_add (PySem.F.args_tuple_add_2 _ _)
   (tuple_addW1 t b vs.toArray ws.toArray n n2 dd EB sl rM (by simpa using hv) (by simp[hw])) ⟨ho,fX,h1 hw⟩
 ·refine concat_meets ⟨_,ho,rfl⟩ ⟨_,fX,rfl⟩ noFill_tuple_add seq_tuple_add PySem.F.slot_tuple_add PySem.F.entry_tuple_add (PySem.F.args_tuple_add_2 _ _)
   (tuple_addW2 t b vs.toArray ws.toArray n n2 dd EB sl rM (by simpa using hv) (by simpa using hw) (by rw[zah,zah];exact nN)) ⟨ho,fX,?_⟩
  rw[e];exact h2 hw
def aQ(n d:Nat):Option Int->Nat
 |none=>d
 |some v=>if v<0 then (v+(n:Int)).toNat else min v.toNat n
theorem Pj(n d:Nat):aQ n d none=d:=rfl
theorem nQ(n d k:Nat):aQ n d (some (k:Int))=min k n:=by
 show(if (k:Int) <0 then ((k:Int)+(n:Int)).toNat else min (k:Int).toNat n)=min k n
 rw[if_neg (by omega),zax]
theorem yI(n d:Nat)(hd:d<=n)(o:Option Int):aQ n d o<=n:=by
 cases o with
 |none=>exact hd
 |some v=>
  show(if v<0 then (v+(n:Int)).toNat else min v.toNat n)<=n
  by_cases hv:v<0
  ·rw[if_pos hv];omega
  ·rw[if_neg hv];exact Nat.min_le_right _ _
theorem EC(v:Int)(n d:Nat):(if v<0 then max (v+(n:Int)) 0 else min v (n:Int))=((aQ n d (some v):Nat):Int):=by
 show(if v<0 then max (v+(n:Int)) 0 else min v (n:Int))=(((if v<0 then (v+(n:Int)).toNat else min v.toNat n):Nat):Int)
 by_cases hv:v<0
 ·simp only[if_pos hv];omega
 ·simp only[if_neg hv];omega
theorem Pk(lo hi:Option Int)(n:Nat):Builtin.Slice.sliceAdjust lo hi 1 (n:Int)=(((aQ n 0 lo:Nat):Int),((aQ n n hi:Nat):Int)):=by
 have h1:¬((1:Int) <0):=by omega
 unfold Builtin.Slice.sliceAdjust
 simp only[h1,if_false]
 refine Prod.ext ?_ ?_
 ·cases lo with
  |none=>rfl
  |some v=>exact EC v n 0
 ·cases hi with
  |none=>rfl
  |some v=>exact EC v n n
theorem Pl(i j:Nat):Builtin.Slice.slicePlaces (i:Int) (j:Int) 1=j - i:=by
 unfold Builtin.Slice.slicePlaces;have h1:(1:Int) >0:=by omega
 simp only[h1,if_true,Int.ediv_one]
 split<;>omega
theorem ED{v:Value}{o:Option Int}{Q:Option Int->Shared->Prop}(p:IsPart v o)(h:Q o s):wpAny (model prog w) A (Builtin.Slice.slicePartIndex v) Q E s:=by
 cases p with
 |none=>exact slicePart_none h
 |int i t=>exact slicePart_int h
theorem Pm{sl:Addr}{vl vu:Value}{lo hi:Option Int}{n:Nat}{Q:Int×Int×Nat->Shared->Prop}(hs:s.heap.IsSliceOf sl vl vu .none)(pl:IsPart vl lo)(pu:IsPart vu hi)
  (h:Q (((aQ n 0 lo:Nat):Int),1,aQ n n hi - aQ n 0 lo) s):wpAny (model prog w) A (Builtin.Slice.sliceApplied (.ref sl)<|pure (n:Int)) Q E s:=by
 obtain⟨os,rN,EE,vv⟩:=id hs;unfold Builtin.Slice.sliceApplied Builtin.Slice.sliceFields;refine wpAny_bind<|wpAny_bind<|wpAny_field rN vv (x:=vl) rfl<|wpAny_bind<|wpAny_field rN vv (x:=vu) rfl<|wpAny_bind<|wpAny_field rN vv (x:=.none) rfl<|wpAny_pure ?_;refine wpAny_bind<|slicePart_none ?_;show wpAny _ _ (if ((1:Int)==0)=true then _ else _) _ _ s
 rw[if_neg (by decide)]
 refine wpAny_bind<|ED pl<|wpAny_bind<|ED pu<|wpAny_bind<|wpAny_pure ?_;show wpAny _ _ (match Builtin.Slice.sliceAdjust lo hi 1 (n:Int) with|(lo,hi)=>pure (lo,(1:Int),Builtin.Slice.slicePlaces lo hi 1)) _ _ s
 rw[Pk lo hi n];show wpAny _ _ (pure (((aQ n 0 lo:Nat):Int),(1:Int),Builtin.Slice.slicePlaces ((aQ n 0 lo:Nat):Int) ((aQ n n hi:Nat):Int) 1)) _ _ s;rw[Pl];exact wpAny_pure h
theorem Pn(xs:Array Value)(i k:Nat):((List.range k).filterMap fun(m:Nat)=>xs[((i:Int)+(m:Int)*1).toNat]?).toArray=((xs.toList.drop i).take k).toArray:=by
 have e:(fun(m:Nat)=>xs[((i:Int)+(m:Int)*1).toNat]?)=fun m=>xs[i+m]?:=by
  funext m
  have:((i:Int)+(m:Int)*1).toNat=i+m:=by omega
  rw[this]
 rw[e];have:=pick_run xs i k;rw[List.filterMap_map] at this;have e2:((fun x=>xs[x]?)∘fun x=>i+x)=fun m=>xs[i+m]?:=rfl;rw[e2] at this;rw[this]
theorem Po{t sl:Addr}{items:Array Value}{vl vu:Value}{lo hi:Option Int}{Q:Value->Shared->Prop}(ht:IsTup s.heap t items)(hs:s.heap.IsSliceOf sl vl vu .none)(pl:IsPart vl lo)(pu:IsPart vu hi)
  (hw:¬(aQ items.size 0 lo=0/\aQ items.size items.size hi=items.size))
  (h:Q (.ref s.heap.objs.size) {s with heap:=s.heap.push {cls:=.type "tuple",data:=.seq ((items.toList.drop<|aQ items.size 0 lo).take<|aQ items.size items.size hi - aQ items.size 0 lo).toArray}})
  (nN:items.size<=sizeLine):wpAny (model prog w) A (getItem (.ref t)<|.ref sl) Q E s:=by
 have vw:sizeOk (.seq ((items.toList.drop<|aQ items.size 0 lo).take<|aQ items.size items.size hi - aQ items.size 0 lo).toArray):=by
  show((items.toList.drop<|aQ items.size 0 lo).take<|aQ items.size items.size hi - aQ items.size 0 lo).toArray.size<=sizeLine;rw[zah,zaF,zaz,zaU];omega
 have hj:aQ items.size items.size hi<=items.size:=yI _ _ (zqR _) hi;obtain⟨os,rN,EE,vv⟩:=id hs;have Pp:s.TypeIs (.ref sl) "slice":=⟨os,rN,EE⟩;unfold getItem
 try with_reducible refine wpAny_holding ?_
 first|refine wpAny_bind (wpAny_pure ?_)|skip
 refine wpAny_bind<|wpAny_sequenceKey ht.typeIs (by decide) ?_
 refine wpAny_bind (wpAny_callSpecial?_slot (name:=Str.ofString "__getitem__") ht.typeIs PyProof.Rows.slot_tuple_getitem
  (wpAny_call_entry PyProof.Rows.slot_tuple_getitem ht.typeIs entry_tuple_getitem ?_ (args_tuple_getitem _ _)))
 show wpAny _ _ (Builtin.Tuple.tupleItemsOf (.ref t) >>=_) _ _ s;refine wpAny_bind<|tupleItemsOf_ ht ?_;refine wpAny_bind<|wpAny_typeOf Pp ?_;rw[if_pos (by decide)]
 refine wpAny_bind<|Pm hs pl pu ?_;have Pq:¬((((aQ items.size 0 lo:Nat):Int)==0 && (1:Int)==1 && (aQ items.size items.size hi - aQ items.size 0 lo)==items.size)=true):=by
  intro q;rw[zae,zae] at q;have q1:((aQ items.size 0 lo:Nat):Int)=0:=eq_of_beq q.1.1;have q2:aQ items.size items.size hi - aQ items.size 0 lo=items.size:=eq_of_beq q.2;exact hw ⟨by omega,by omega⟩
 show wpAny _ _ (if (((aQ items.size 0 lo:Nat):Int)==0 && (1:Int)==1 && (aQ items.size items.size hi - aQ items.size 0 lo)==items.size)=true then _ else _) _ _ s
 rw[if_neg Pq,Pn]
 first
  |exact wpAny_bind (m:=Builtin.Tuple.tupleExact _) (wpAny_newObj_type (wpAny_pure ⟨_,rfl,wpAny_pure h⟩) vw)
  |exact wpAny_bind (m:=Builtin.Tuple.tupleExact _) (wpAny_newObj_type (wpAny_bind<|wpAny_pure<|wpAny_pure ⟨_,rfl,wpAny_pure h⟩) vw)
  |exact wpAny_bind (wpAny_bind (m:=Builtin.Tuple.tupleExact _)<|wpAny_newObj_type (wpAny_pure<|wpAny_pure ⟨_,rfl,wpAny_pure h⟩) vw)
  |exact wpAny_bind (wpAny_bind (m:=Builtin.Tuple.tupleExact _)<|wpAny_newObj_type (wpAny_pure ⟨_,rfl,wpAny_pure h⟩) vw)
end
end HT
namespace L2
open PySem PySem.Spec PyProof.Rows
abbrev TO:=St->Hp->(Option Int->Hp->Prop)->Prop
def PO(X:Cx)(e:Option Expr)(t:TO):Prop:=
 ∀(pins:List (Addr×Obj)) (s:Shared) (σ:St) (H:Hp) (Q:Option Int->Hp->Prop),Inv X pins σ H s->t σ H Q->
  wpAny (model X.prog X.w) X.A (evalPart e X.env) (fun u s'=>∃o H',Inv X pins σ H' s'/\IsPart u o/\Q o H') X.xe s
def EF:TO:=fun _ H Q=>Q none H
def vx(t:TE):TO:=fun σ H Q=>t σ H fun x H1=>∃i,x=.int i/\Q (some i) H1
theorem intsAre_of{ns:List Int}:∀{us:List Value},Vals (ns.map V.int) us->IntsAre us ns:=by
 induction ns with
 |nil=>intro us r;rw[zaV] at r;cases r;exact .nil
 |cons n ns ih=>
  intro us r;rw[zaw] at r;cases r with
  |cons r1 r2=>
   obtain⟨t,e⟩:=r1;subst e;exact .cons n t<|ih r2
section
variable {X:Cx}{e:Expr}{te:TE}{lo hi:Option Expr}{tl th:TO}{pos p2:Pos}
theorem Pr:PO X none EF:=by
 intro pins s σ H Q I h;rw[evalPart_none];exact wpAny_pure ⟨none,H,I,.none,h⟩
theorem Pw(h:PE X e te):PO X (some e) (vx te):=by
 intro pins s σ H Q I hw;rw[evalPart_some];refine aL (h pins s σ H _ I hw) fun u s1 ⟨x,H1,I1,r1,q1⟩=>?_;obtain⟨i,rfl,q⟩:=q1;obtain⟨t,rfl⟩:=r1;exact⟨some i,H1,I1,.int i t,q⟩
def vy(X:Cx)(r:V->Option Int->Option Int->Hp->VK->Prop):Prop:=
 ∀(pins:List (Addr×Obj)) (s:Shared) (σ:St) (H:Hp) (x:V) (v vl vu:Value) (lo hi:Option Int) (sl:Addr) (Q:VK),Inv X pins σ H s->RelV x v->s.heap.IsSliceOf sl vl vu .none->IsPart vl lo->IsPart vu hi->r x lo hi H Q->
  ∃T id,typeLookup (.type T) "__getitem__"=pure (some<|.builtin id)/\s.TypeIs v T/\wpAny (model X.prog X.w) X.A (getItem v<|.ref sl) (EP X pins σ Q) X.xe s
def yJ(r:V->Option Int->Option Int->Hp->VK->Prop)(te:TE)(tl th:TO):TE:=fun σ H Q=>te σ H fun x H1=>tl σ H1 fun l H2=>th σ H2 fun u H3=>r x l u H3 Q
theorem Px{r:V->Option Int->Option Int->Hp->VK->Prop}(hr:vy X r)(he:PE X e te)(hl:PO X lo tl)(hu:PO X hi th):PE X (.Subscript e (.Slice lo hi none p2) pos) (yJ r te tl th):=by
 intro pins s σ H Q I h;refine Subscript_<|aL (he pins s σ H _ I h) fun v s1 ⟨x,H1,I1,r1,q1⟩=>?_;refine wpAny_Slice<|aL (hl pins s1 σ H1 _ I1 q1) fun vl s2 ⟨l,H2,I2,pl,q2⟩=>aL (hu pins s2 σ H2 _ I2 q2) fun vu s3 ⟨u,H3,I3,pu,q3⟩=>?_;rw[evalPart_none];refine wpAny_pure ?_;have I4:Inv X pins σ H3 {s3 with heap:=s3.heap.push {cls:=.type "slice",data:=.fields #[vl,vu,.none]}}:=I3.kept (t':=s3.toks) fun b ob q=>Heap.get?_push_of_some _ q
 obtain⟨T,id,hT,ht,hg⟩:=hr pins {s3 with heap:=s3.heap.push {cls:=.type "slice",data:=.fields #[vl,vu,.none]}} σ H3 x v vl vu l u s3.heap.objs.size Q I4 r1 (Heap.IsSliceOf.new ..) pl pu q3
 show wpAny (model X.prog X.w) X.A (subscriptTail e (.Slice lo hi none p2) v<|.ref s3.heap.objs.size) (EP X pins σ Q) X.xe {s3 with heap:=s3.heap.push {cls:=.type "slice",data:=.fields #[vl,vu,.none]}}
 exact tail_any (ops:=[.ref s3.heap.objs.size,v]) ht hT hg (by with_unfolding_all rfl)
def dR(xs:List V)(lo hi:Option Int):List V:=(xs.drop<|HT.aQ xs.length 0 lo).take (HT.aQ xs.length xs.length hi - HT.aQ xs.length 0 lo)
theorem EG(xs:List V)(lo hi:Option Int):(dR xs lo hi).length<=xs.length:=by
 unfold dR;rw[zaF,zaz];omega
def Py(K:Frag):V->Option Int->Option Int->Hp->VK->Prop:=fun x lo hi H Q=>∃a xs,x=.ref a/\aD K H a xs/\
 ¬(HT.aQ xs.length 0 lo=0/\HT.aQ xs.length xs.length hi=xs.length)/\∀p,H p=none->Q (.ref p) (upd H p<|.tup<|dR xs lo hi)
theorem Pz:vy X (Py X.K):=by
 intro pins s σ H x v vl vu lo hi sl Q I rx hs pl pu h;obtain⟨a,xs,rfl,hx,hw,q⟩:=h;cases rx;obtain⟨ah,r,ht,hz⟩:=I.tuple hx;have hlen:ah.toArray.size=xs.length:=by rw[zah];exact r.length.symm
 refine⟨"tuple",_,PyProof.Rows.slot_tuple_getitem.lookup,ht.typeIs,?_⟩;refine HT.Po ht hs pl pu (by rw[hlen];exact hw) ?_ (by rw[hlen];exact hz)
 rw[hlen];refine⟨.ref s.heap.objs.size,_,I.laid (t':=s.toks) (o:=.tup (dR xs lo hi)) (fun b ob q=>Heap.get?_push_of_some _ q) (zqR _) ?_,rfl,q _<|I.aE.fresh<|zqR _⟩;exact⟨zas (EG xs lo hi) hz,_,(r.drop<|HT.aQ xs.length 0 lo).take<|HT.aQ xs.length xs.length hi - HT.aQ xs.length 0 lo,IsTup.new _ _⟩
def EH(K:Frag):R2:=fun x y H Q=>∃a b xs ys,x=.ref a/\y=.ref b/\aD K H a xs/\aD K H b ys/\xs≠ []/\xs.length+ys.length<=sizeLine/\
 (ys=[]->Q (.ref a) H)/\(ys≠ []->∀p,H p=none->Q (.ref p) (upd H p<|.tup<|xs++ys))
theorem Vals.yK{xs:List V}{us:List Value}(r:Vals xs us):us=[]↔xs=[]:=by
 cases r with
 |nil=>simp
 |cons _ _=>simp
theorem PB:bq X (binaryOp .Add) (EH X.K):=by
 intro pins s σ H x y v u Q I rx ry h;obtain⟨a,b,xs,ys,rfl,rfl,ha,hb,hx,hz,q1,q2⟩:=h;cases rx;cases ry;obtain⟨ah,r1,p1,_⟩:=I.tuple ha;obtain⟨fY,r2,p2,_⟩:=I.tuple hb;refine HT.Ph p1 p2 (fun z=>hx<|r1.yK.mp z) (fun z=>⟨.ref a,H,I,rfl,q1<|r2.yK.mp z⟩) (fun z=>?_) (by rw[<-r1.length,<-r2.length];exact hz)
 refine⟨.ref s.heap.objs.size,_,I.laid (t':=s.toks) (o:=.tup (xs++ys)) (fun b ob q=>Heap.get?_push_of_some _ q) (zqR _) ?_,rfl,q2 (fun w=>z<|r2.yK.mpr w) _<|I.aE.fresh<|zqR _⟩;exact⟨by rw[zqA];exact hz,_,r1.append r2,IsTup.new _ _⟩
end
def gF(n:Nat)(i:Int):Option Nat:=if 0<=i then (if i<n then some i.toNat else none) else if -(n:Int)<=i then some (i+n).toNat else none
def fZ{α:Type}(xs:List α)(i:Int):Option α:=(gF xs.length i).bind fun j=>xs[j]?
theorem EI{n:Nat}{i:Int}{j:Nat}(h:gF n i=some j):seqIndex? i n=some j/\j<n/\ -(n:Int)<=i/\i<n:=by
 unfold gF at h;by_cases h0:0<=i
 ·rw[if_pos h0] at h;by_cases h1:i<n
  ·rw[if_pos h1] at h;have e:i.toNat=j:=zam h;exact⟨by rw[seqIndex_of h0 h1,e],by omega,by omega,h1⟩
  ·rw[if_neg h1] at h;cases h
 ·rw[if_neg h0] at h;by_cases h1: -(n:Int)<=i
  ·rw[if_pos h1] at h;have e:(i+n).toNat=j:=zam h;exact⟨by rw[seqIndex_neg (by omega) h1,e],by omega,h1,by omega⟩
  ·rw[if_neg h1] at h;cases h
theorem yL{α:Type}{xs:List α}{i:Int}{v:α}(h:fZ xs i=some v):∃j,seqIndex? i xs.length=some j/\xs[j]?=some v/\j<xs.length/\ -(xs.length:Int)<=i/\i<xs.length:=by
 unfold fZ at h;cases e:gF xs.length i with
 |none=>rw[e] at h;cases h
 |some j=>
  rw[e] at h;obtain⟨h1,h2,h3,h4⟩:=EI e;exact⟨j,h1,h,h2,h3,h4⟩
theorem de{α:Type}{xs:List α}{j:Nat}{v:α}(h:xs[j]?=some v):fZ xs (j:Int)=some v:=by
 have hj:j<xs.length:=(zap.mp h).1;have e:gF xs.length (j:Int)=some j:=by
  unfold gF;rw[if_pos (by omega),if_pos (by omega)];simp
 unfold fZ;rw[e];exact h
theorem pR{α:Type}(xs:List α)(v:α):fZ (xs++[v]) (-1)=some v:=by
 have hl:(xs++[v]).length=xs.length+1:=by simp
 have e:gF (xs++[v]).length (-1)=some xs.length:=by
  unfold gF;rw[hl,if_neg (by decide),if_pos (by omega)]
  congr 1
  omega
 unfold fZ;rw[e];show(xs++[v])[xs.length]?=some v
 simp
def EJ(b:Expr):Prop:= ∀o i,subscripted b false o i=operate [o,i] (getItem o i)
def jW(X:Cx)(r:R2):Prop:=
 ∀(value slice:Expr) (pins:List (Addr×Obj)) (s:Shared) (σ:St) (H:Hp) (x y:V) (v u:Value) (Q:VK),Inv X pins σ H s->RelV x v->RelV y u->r x y H Q->
  subscripted slice false v u=operate [v,u] (getItem v u)->wpAny (model X.prog X.w) X.A (subscriptTail value slice v u) (EP X pins σ Q) X.xe s
def nR(X:Cx)(id:String)(r:V->List V->Hp->VK->Prop):Prop:=
 ∀(pins:List (Addr×Obj)) (s:Shared) (σ:St) (H:Hp) (x:V) (xs:List V) (v:Value) (us:List Value) (Q:VK),Inv X pins σ H s->RelV x v->Vals xs us->r x xs H Q->
  wpAny (model X.prog X.w) X.A (call (.builtin id) (v::us)) (EP X pins σ Q) X.xe s
section
variable {X:Cx}{a b:Expr}{ta tb:TE}{pos:Pos}
theorem jW.or{r r':R2}(h:jW X r)(h':jW X r'):jW X (fun x y H Q=>r x y H Q\/r' x y H Q):=by
 intro value slice pins s σ H x y v u Q I rx ry q hs;rcases q with q|q
 ·exact h value slice pins s σ H x y v u Q I rx ry q hs
 ·exact h' value slice pins s σ H x y v u Q I rx ry q hs
theorem PC{r:R2}(hr:jW X r)(ha:PE X a ta)(hb:PE X b tb)(hs:EJ b):PE X (.Subscript a b pos) (eJ r ta tb):=by
 intro pins s σ H Q I h;exact Subscript_<|yA ha hb I h fun v u s2 x y H2 I2 rx ry q=>hr a b pins s2 σ H2 x y v u Q I2 rx ry q (hs _ _)
def EK(K:Frag):R2:=fun x y H Q=>∃p xs i v,x=.ref p/\y=.int i/\au K H p xs/\fZ xs i=some v/\Q v H
def EL(K:Frag):R2:=fun x y H Q=>∃p xs i v,x=.ref p/\y=.int i/\aD K H p xs/\fZ xs i=some v/\Q v H
def EM:R2:=fun x y H Q=>∃z i c,x=.str z/\y=.int i/\z.length<=sizeLine/\fZ z.cps.toList i=some c/\Q (.str ⟨#[c]⟩) H
theorem PD:jW X (EK X.K):=by
 intro value slice pins s σ H x y v u Q I rx ry h hs;obtain⟨p,xs,i,z,rfl,rfl,hq,he,q⟩:=h;cases rx;obtain⟨t,rfl⟩:=ry;obtain⟨ah,r,pl,hz⟩:=I.list hq;obtain⟨j,h1,h2,h3,h4,h5⟩:=yL he;obtain⟨w,ew,iz⟩:=r.get h2;have hl:=r.length;have hn:=nK;have fin:EP X pins σ Q w s:=⟨z,H,I,iz,q⟩;by_cases h0:0<=i
 ·have hj:i.toNat=j:=by
   rw[seqIndex_of h0 h5] at h1;exact zam h1
  exact item_listR pl.isList h0 (by omega) (by rw[hj];simpa using ew) fin hs
 ·have hj:(i+(ah.toArray.size:Int)).toNat=j:=by
   rw[seqIndex_neg (by omega) h4] at h1
   rw[zah,<-hl];exact zam h1
  exact subscriptTail_builtinR (x:=w) pl.isList.typeIs slot_list_getitem.lookup
   (wpAny_getItem_list_neg (Q:=fun r s'=>r=w/\EP X pins σ Q r s') pl.isList (by omega) (by rw[zah] <;>omega) (by omega) (by rw[hj];simpa using ew) ⟨rfl,fin⟩) hs
theorem PF:jW X (EL X.K):=by
 intro value slice pins s σ H x y v u Q I rx ry h hs;obtain⟨p,xs,i,z,rfl,rfl,hq,he,q⟩:=h;cases rx;obtain⟨t,rfl⟩:=ry;obtain⟨ah,r,pl,hz⟩:=I.tuple hq;obtain⟨j,h1,h2,h3,h4,h5⟩:=yL he;obtain⟨w,ew,iz⟩:=r.get h2;have hl:=r.length;have hn:=nK;have fin:EP X pins σ Q w s:=⟨z,H,I,iz,q⟩;exact subscriptTail_builtinR (x:=w) pl.typeIs slot_tuple_getitem.lookup
  (getItem_tuple (j:=j) (Q:=fun r s'=>r=w/\EP X pins σ Q r s') pl (by omega) (by omega) (by rw[zah,<-hl];exact h1) (by simpa using ew) ⟨rfl,fin⟩) hs
theorem PH:jW X EM:=by
 intro value slice pins s σ H x y v u Q I rx ry h hs;obtain⟨z,i,c,rfl,rfl,hz,he,q⟩:=h;obtain⟨t,rfl⟩:=rx;obtain⟨t',rfl⟩:=ry;obtain⟨j,h1,h2,h3,h4,h5⟩:=yL he;have hl:z.cps.toList.length=z.length:=by simp[Str.length]
 rw[hl] at h1 h4 h5;have hn:=nK;exact tail_any (typeIs_str s z t) slot_str_getitem.lookup (getItem_str (c:=c) (by
  have e1:decide (i< -(2 ^ 63:Int))=false:=zqF (by omega)
  have e2:decide (i≥2 ^ 63)=false:=zqF (by omega)
  rw[e1,e2,zbs]) (by rw[h1];simpa using h2) ⟨.str ⟨#[c]⟩,H,I.tok _,⟨_,rfl⟩,q⟩) hs
theorem PJ(ah:List Value)(n j:Nat)(u:Value):Obj.mapSeq (·.setIfInBounds j u) {cls:=.type "list",data:=.seq ah.toArray n}={cls:=.type "list",data:=.seq (ah.set j u).toArray n}:=by
 simp[Obj.mapSeq]
theorem Inv.lst{pins:List (Addr×Obj)}{σ:St}{H:Hp}{s:Shared}{p:Addr}{xs:List V}(I:Inv X pins σ H s)(h:H p=some (.lst xs)):
  ∃(ah:List Value) (n:Nat),Vals xs ah/\s.heap.get? p=some {cls:=.type "list",data:=.seq ah.toArray n}/\xs.length<=sizeLine:=by
 obtain⟨z,ah,n,r,e⟩:=I.aE p _ h;exact⟨ah,n,r,e,z⟩
theorem Inv.PK{pins:List (Addr×Obj)}{σ:St}{H:Hp}{s:Shared}{p:Addr}{xs ys:List V}{ah fQ:List Value}{n n':Nat}{f:Obj->Obj}(I:Inv X pins σ H s)(h:H p=some (.lst xs))
  (ho:s.heap.get? p=some {cls:=.type "list",data:=.seq ah.toArray n}) (hf:f {cls:=.type "list",data:=.seq ah.toArray n}={cls:=.type "list",data:=.seq fQ.toArray n'}) (r:Vals ys fQ) (hz:ys.length<=sizeLine) (t:Nat):
  Inv X pins σ (upd H p<|.lst ys) {s with heap:=s.heap.update p f,toks:=t}:=by
 have e:(s.heap.update p f).get? p=some {cls:=.type "list",data:=.seq fQ.toArray n'}:=by
  rw[Heap.get?_update_self f ho (by rw[hf] <;>rfl),hf]
 refine I.write (x:=p) (e:=p) (by rw[h];trivial) (.inl rfl) (fun b u hb q=>(Heap.get?_update_other _ _<|Ne.symm hb).trans q) ⟨_,e⟩ ?_
 exact⟨hz,fQ,n',r,e⟩
def vz:V->V->V->Hp->(Hp->Prop)->Prop:=fun o i v H Q=>∃p xs k j,o=.ref p/\i=.int k/\H p=some (.lst xs)/\gF xs.length k=some j/\Q (upd H p<|.lst<|xs.set j v)
theorem set_list:DW X vz:=by
 intro pins s σ H o i v ov iv u Q I ro ri rv h;obtain⟨p,xs,k,j,rfl,rfl,hp,hj,q⟩:=h;cases ro;obtain⟨t,rfl⟩:=ri;obtain⟨ah,n,r,ho,hz⟩:=I.lst hp;obtain⟨h1,h2,h3,h4⟩:=EI hj;have hl:=r.length;have hn:=nK;have I':Inv X pins σ (upd H p<|.lst<|xs.set j v) {s with heap:=s.heap.update p (Obj.mapSeq (·.setIfInBounds j u))}:=
  I.PK hp ho (PJ ah n j u) (r.set rv j) (by rw[zbk];exact hz) s.toks
 by_cases h0:0<=k
 ·have hk:k.toNat=j:=by
   rw[seqIndex_of h0 h4] at h1;exact zam h1
  exact PySem.W.ki_setAt ho h0 (by omega) (by rw[zah,<-hl];exact h4) (by rw[hk];exact⟨_,I',q⟩)
 ·have hk:(k+(ah.toArray.size:Int)).toNat=j:=by
   rw[seqIndex_neg (by omega) h3] at h1
   rw[zah,<-hl];exact zam h1
  exact PySem.W.ki_setBack ho (by omega) (by rw[zah,<-hl];exact h3) (by omega) (by rw[hk];exact⟨_,I',q⟩)
theorem yM(lo hi:Option Int)(n:Nat):(sliceBounds lo hi none n).1=((HT.aQ n 0 lo:Nat):Int)/\(sliceBounds lo hi none n).2.1=((HT.aQ n n hi:Nat):Int)/\(sliceBounds lo hi none n).2.2=1:=by
 refine⟨?_,?_,rfl⟩
 ·cases lo with
  |none=>simp[sliceBounds,HT.aQ]
  |some i=>
   simp only[sliceBounds,HT.aQ,Option.getD_none,show(1:Int) >0 by decide,if_true]
   by_cases h:i<0
   ·simp only[h,if_true] <;>omega
   ·simp only[h,if_false] <;>omega
 ·cases hi with
  |none=>simp[sliceBounds,HT.aQ]
  |some i=>
   simp only[sliceBounds,HT.aQ,Option.getD_none,show(1:Int) >0 by decide,if_true]
   by_cases h:i<0
   ·simp only[h,if_true] <;>omega
   ·simp only[h,if_false] <;>omega
theorem PL(ah:List Value)(lo hi:Option Int):slicePick ah.toArray lo hi none=((ah.drop<|HT.aQ ah.length 0 lo).take<|HT.aQ ah.length ah.length hi - HT.aQ ah.length 0 lo).toArray:=by
 obtain⟨h1,h2,h3⟩:=yM lo hi ah.toArray.size;unfold slicePick;rw[h1,h2,h3]
 simp only[sliceRange_one,pick_run,zah] <;>rfl
def PM(K:Frag):V->Option Int->Option Int->Hp->VK->Prop:=fun x lo hi H Q=>∃a xs,x=.ref a/\au K H a xs/\∀p,H p=none->Q (.ref p) (upd H p<|.lst<|dR xs lo hi)
theorem PN:vy X (PM X.K):=by
 intro pins s σ H x v vl vu lo hi sl Q I rx hs pl pu h;obtain⟨a,xs,rfl,hx,q⟩:=h;cases rx;obtain⟨ah,r,ht,hz⟩:=I.list hx;have hlen:=r.length;refine⟨"list",_,slot_list_getitem.lookup,ht.isList.typeIs,?_⟩;refine wpAny_getItem_list_slice ht.isList hs pl pu .none (by simp) ?_ (by rw[zah] <;>omega)
 rw[PL,<-hlen];refine⟨.ref s.heap.objs.size,_,I.laid (t':=s.toks) (o:=.lst (dR xs lo hi)) (fun b ob q=>Heap.get?_push_of_some _ q) (zqR _) ?_,rfl,q _<|I.aE.fresh<|zqR _⟩;exact⟨zas (EG xs lo hi) hz,_,0,(r.drop<|HT.aQ xs.length 0 lo).take<|HT.aQ xs.length xs.length hi - HT.aQ xs.length 0 lo,Heap.get?_push_size _ rfl⟩
def hU:V->Bool
 |.aF=>true
 |.bl _=>true
 |.int _=>true
 |.str _=>true
 |_=>false
def gG:V->V->Bool
 |.aF,.aF=>true
 |.bl a,.bl b=>a==b
 |.bl a,.int b=>(if a then 1 else 0)==b
 |.int a,.bl b=>a==(if b then 1 else 0)
 |.int a,.int b=>a==b
 |.str a,.str b=>a==b
 |_,_=>false
theorem PQ{A:Around}{s:Shared}{y x:V}{u v:Value}(ry:RelV y u)(rx:RelV x v)(fy:hU y=true)(fx:hU x=true):SeqAt.EqAt A s u v (gG y x):=by
 cases y with
 |aF=>
  cases ry;cases x with
  |aF=>cases rx;exact SeqAt.EqAt.same _
  |bl b=>cases rx;exact SeqAt.EqAt.none_bool b
  |int b=>obtain⟨t,rfl⟩:=rx;exact SeqAt.EqAt.none_int b t
  |str b=>obtain⟨t,rfl⟩:=rx;exact SeqAt.EqAt.none_str b t
  |_=>exact absurd (show false=true from fx) zan
 |bl a=>
  cases ry;cases x with
  |aF=>cases rx;exact SeqAt.EqAt.bool_none a
  |bl b=>cases rx;exact SeqAt.EqAt.bool_bool a b
  |int b=>obtain⟨t,rfl⟩:=rx;exact SeqAt.EqAt.bool_int a b t
  |str b=>obtain⟨t,rfl⟩:=rx;exact SeqAt.EqAt.bool_str a b t
  |_=>exact absurd (show false=true from fx) zan
 |int a=>
  obtain⟨t',rfl⟩:=ry;cases x with
  |aF=>cases rx;exact SeqAt.EqAt.int_none a t'
  |bl b=>cases rx;exact SeqAt.EqAt.int_bool a t' b
  |int b=>obtain⟨t,rfl⟩:=rx;exact SeqAt.EqAt.int_int a t' b t
  |str b=>obtain⟨t,rfl⟩:=rx;exact SeqAt.EqAt.int_str a t' b t
  |_=>exact absurd (show false=true from fx) zan
 |str a=>
  obtain⟨t',rfl⟩:=ry;cases x with
  |aF=>cases rx;exact SeqAt.EqAt.str_none a t'
  |bl b=>cases rx;exact SeqAt.EqAt.str_bool a t' b
  |int b=>obtain⟨t,rfl⟩:=rx;exact SeqAt.EqAt.str_int a t' b t
  |str b=>obtain⟨t,rfl⟩:=rx;exact SeqAt.EqAt.str_str a t' b t
  |_=>exact absurd (show false=true from fx) zan
 |_=>exact absurd (show false=true from fy) zan
def eK(x:V)(u:Value):Bool:=match u with
 |.none=>gG .aF x
 |.bool b=>gG (.bl b) x
 |.int i _=>gG (.int i) x
 |.str z _=>gG (.str z) x
 |_=>false
theorem yN{x y:V}{u:Value}(r:RelV y u)(f:hU y=true):eK x u=gG y x:=by
 cases y with
 |aF=>cases r;rfl
 |bl b=>cases r;rfl
 |int i=>obtain⟨t,rfl⟩:=r;rfl
 |str z=>obtain⟨t,rfl⟩:=r;rfl
 |_=>exact absurd (show false=true from f) zan
theorem rO{x:V}:∀{xs:List V}{us:List Value},Vals xs us->xs.all hU=true->us.any (eK x)=xs.any fun y=>gG y x
 |_,_,.nil,_=>rfl
 |y::xs,u::us,.cons r t,f=>by
  rw[zbb,zae] at f;rw[zbl,zbl,yN r f.1,rO t f.2]
theorem pS{A:Around}{s:Shared}{x:V}{v:Value}(rx:RelV x v)(fx:hU x=true):∀{xs:List V}{us:List Value},Vals xs us->xs.all hU=true->∀u∈us,SeqAt.EqAt A s u v (eK x u)
 |_,_,.nil,_=>fun u hu=>by cases hu
 |y::xs,u::us,.cons r t,f=>fun u' hu=>by
  rw[zbb,zae] at f;rcases zaa.mp hu with rfl|hu
  ·rw[yN r f.1];exact PQ r rx f.1 fx
  ·exact pS rx fx t f.2 u' hu
def f_(x:V)(xs:List V):Bool:=xs.any fun y=>gG y x
def yO(K:Frag)(neg:Bool):R2:=fun x y H Q=>∃p xs,y=.ref p/\(au K H p xs\/aD K H p xs)/\hU x=true/\xs.all hU=true/\Q (.bl (if neg then !f_ x xs else f_ x xs)) H
theorem PR:bq X (compareOp .In) (yO X.K false):=by
 intro pins s σ H x y v u Q I rx ry h;obtain⟨p,xs,rfl,hq,fx,fs,q⟩:=h;cases ry;rcases hq with hq|hq
 ·obtain⟨ah,r,pl,hz⟩:=I.list hq;refine SeqAt.in_listAt (eK x) pl.isList (fun w hw=>pS rx fx r fs w (by simpa using hw)) ⟨.bl _,H,I,rfl,?_⟩
  rw[show ah.toArray.any (eK x)=ah.any (eK x) by simp,rO r fs]
  exact q
 ·obtain⟨ah,r,pl,hz⟩:=I.tuple hq;refine SeqAt.in_tupleAt (eK x) pl (fun w hw=>pS rx fx r fs w (by simpa using hw)) ⟨.bl _,H,I,rfl,?_⟩
  rw[show ah.toArray.any (eK x)=ah.any (eK x) by simp,rO r fs]
  exact q
theorem PU:bq X (compareOp .NotIn) (yO X.K true):=by
 intro pins s σ H x y v u Q I rx ry h;obtain⟨p,xs,rfl,hq,fx,fs,q⟩:=h;cases ry;rcases hq with hq|hq
 ·obtain⟨ah,r,pl,hz⟩:=I.list hq;refine SeqAt.notIn_listAt (eK x) pl.isList (fun w hw=>pS rx fx r fs w (by simpa using hw)) ⟨.bl _,H,I,rfl,?_⟩
  rw[show ah.toArray.any (eK x)=ah.any (eK x) by simp,rO r fs]
  exact q
 ·obtain⟨ah,r,pl,hz⟩:=I.tuple hq;refine SeqAt.notIn_tupleAt (eK x) pl (fun w hw=>pS rx fx r fs w (by simpa using hw)) ⟨.bl _,H,I,rfl,?_⟩
  rw[show ah.toArray.any (eK x)=ah.any (eK x) by simp,rO r fs]
  exact q
theorem cW.or{f:Value}{r r':List V->Hp->VK->Prop}(h:cW X f r)(h':cW X f r'):cW X f (fun xs H Q=>r xs H Q\/r' xs H Q):=by
 intro pins s σ H xs us Q I rs q;rcases q with q|q
 ·exact h pins s σ H xs us Q I rs q
 ·exact h' pins s σ H xs us Q I rs q
theorem PV:cW X (.type "list") (fun xs H Q=>∃p ys,xs=[.ref p]/\(au X.K H p ys\/aD X.K H p ys)/\∀l,H l=none->Q (.ref l) (upd H l<|.lst ys)):=by
 intro pins s σ H xs us Q I r h;obtain⟨p,ys,rfl,hq,q⟩:=h;obtain⟨u,rfl,rx⟩:=vals1 r;cases rx;have fin:∀(ah:List Value),Vals ys ah->ys.length<=sizeLine->∀(h':Heap) (c':Nat),(∀b o',s.heap.get? b=some o'->h'.get? b=some o')->
   h'.get? s.heap.objs.size=some {cls:=.type "list",dict:=none,data:=.seq ah.toArray c',slots:= #[]}->EP X pins σ Q (.ref s.heap.objs.size) {s with heap:=h'}:=fun ah r' hz h' c' kp e=>
  ⟨.ref s.heap.objs.size,_,I.laid (t':=s.toks) kp (zqR _) (show cB X.prog X.w _ h' _ (.lst ys) from⟨hz,ah,c',r',e⟩),rfl,q _<|I.aE.fresh<|zqR _⟩
 rcases hq with hq|hq
 ·obtain⟨ah,r',pl,hz⟩:=I.list hq;have hlen:=r'.length;obtain⟨o,ho,hc,n,hd⟩:=pl.isList;exact call_list_seq p (.inl rfl) ho hc hd (fun h' c' kp e=>fin ah r' hz h' c' kp e) (by simp only[zah] <;>omega)
 ·obtain⟨ah,r',pl,hz⟩:=I.tuple hq;have hlen:=r'.length;obtain⟨o,ho,hc,n,hd⟩:=pl;exact call_list_seq p (.inr rfl) ho hc hd (fun h' c' kp e=>fin ah r' hz h' c' kp e) (by simp only[zah] <;>omega)
def nS(K:Frag)(T:String)(x:V)(H:Hp):Prop:=match x with
 |.str _=>T="str"
 |.int _=>T="int"
 |.ref p=>(T="list"/\∃xs,au K H p xs)\/(T="tuple"/\∃o,K.lookup p=some o/\o.cls=.type "tuple"/\o.dict=none)\/
   (T="dict"/\((∃kvs,H p=some (.dK kvs))\/∃kvs,H p=some (.dT kvs)))\/(T="set"/\∃S n,H p=some (.set S n))
 |_=>False
theorem EN{pins:List (Addr×Obj)}{σ:St}{H:Hp}{s:Shared}{T:String}{x:V}{v:Value}(I:Inv X pins σ H s)(r:RelV x v)(ty:nS X.K T x H):
  s.TypeIs v T/\∀a,v=.ref a->∃ob,s.heap.get? a=some ob/\ob.dict=none:=by
 cases x with
 |str z=>
  obtain⟨t,rfl⟩:=r;cases (show T="str" from ty)
  exact⟨typeIs_str s z t,fun _ e=>nomatch e⟩
 |int i=>
  obtain⟨t,rfl⟩:=r;cases (show T="int" from ty)
  exact⟨typeIs_int s i t,fun _ e=>nomatch e⟩
 |ref p=>
  cases r;rcases ty with⟨rfl,xs,hq⟩|⟨rfl,o,hk,hc,hd⟩|⟨rfl,hk⟩|⟨rfl,S,n,hk⟩
  ·obtain⟨ah,_,pl,_⟩:=I.list hq;refine⟨pl.isList.typeIs,fun a e=>?_⟩;cases e;obtain⟨o,n,e,c,hd,_⟩:=pl;exact⟨o,e,hd⟩
  ·refine⟨⟨o,I.c5 p o hk,hc⟩,fun a e=>?_⟩;cases e;exact⟨o,I.c5 _ o hk,hd⟩
  ·have z:∃o,s.heap.get? p=some o/\o.ExactDict:=by
    rcases hk with⟨kvs,hk⟩|⟨kvs,hk⟩
    ·obtain⟨_,_,_,_,o,_,_,e,ex,_⟩:=I.aE p _ hk;exact⟨o,e,ex⟩
    ·obtain⟨_,_,_,_,o,_,_,e,ex,_⟩:=I.aE p _ hk;exact⟨o,e,ex⟩
   obtain⟨o,e,ex⟩:=z;refine⟨⟨o,e,ex.1⟩,fun a e2=>?_⟩;cases e2;exact⟨o,e,ex.2.1⟩
  ·obtain⟨o,_,_,_,e,ex,_⟩:=I.aE p _ hk;refine⟨⟨o,e,ex.1⟩,fun a e2=>?_⟩;cases e2;exact⟨o,e,ex.2.1⟩
 |_=>exact False.elim ty
def PX(K:Frag)(T:String)(r:V->List V->Hp->VK->Prop)(to:TE):TE:=fun σ H Q=>to σ H fun x H1=>nS K T x H1/\r x [] H1 Q
def PY(K:Frag)(T:String)(r:V->List V->Hp->VK->Prop)(to:TE)(t:TA):TE:=fun σ H Q=>to σ H fun x H1=>nS K T x H1/\t σ H1 fun xs H2=>r x xs H2 Q
variable {o e:Expr}{es:List Expr}{to:TE}{t:TA}{name:Str}{apos du:Pos}{T id:String}{r:V->List V->Hp->VK->Prop}
theorem PZ(pa:PlainAttrs T)(slot:Slot T name id)(yP:typeOf (.builtin id)=pure (.type "method_descriptor"))(hm:nR X id r)(ho:PE X o to)
  (yQ:attributeBase o name X.env (eval o X.env)=eval o X.env:=by rfl) (yR:(apos.endLine==du.line)=true:=by rfl):PE X (.Call (.Attribute o name apos) [] [] du) (PX X.K T r to):=by
 intro pins s σ H Q I h;refine wpAny_Call_method0_late yQ yR<|aL (ho pins s σ H _ I h) fun v s1 ⟨x,H1,I1,r1,ty,q1⟩=>?_;obtain⟨h1,h2⟩:=EN I1 r1 ty;exact⟨T,id,pa,slot,yP,h1,h2,Calls.callWith_builtin rfl<|PySem.evalArgs_none<|hm pins s1 σ H1 x [] v [] Q I1 r1 .nil q1⟩
theorem P0(pa:PlainAttrs T)(slot:Slot T name id)(yP:typeOf (.builtin id)=pure (.type "method_descriptor"))(hm:nR X id r)(ho:PE X o to)(ha:PA X (e::es) t)
  (yQ:attributeBase o name X.env (eval o X.env)=eval o X.env:=by rfl)
  (P2:((backTo du (starEach (e::es) X.env)).all (fun x=> !x.1) && (backToKw du (keywordEach [] X.env)).all (fun x=>x.1.isSome)
   && decide ((e::es).length+([]:List Keyword).length+(if ([]:List Keyword).isEmpty then 0 else 1) <30))=true:=by rfl)
  (yR:(apos.endLine==du.line)=true:=by rfl) (hs:starEach (e::es) X.env=(false,eval e X.env)::starEach es X.env:=by rfl) (P4:(backTo du<|starEach es X.env).any (·.1)=false:=by rfl):
  PE X (.Call (.Attribute o name apos) (e::es) [] du) (PY X.K T r to t):=by
 intro pins s σ H Q I h;refine wpAny_Call_method_late yQ P2 yR rfl<|aL (ho pins s σ H _ I h) fun v s1 ⟨x,H1,I1,r1,ty,q1⟩=>?_;obtain⟨h1,h2⟩:=EN I1 r1 ty;refine⟨T,id,pa,slot,yP,h1,h2,?_⟩;have hA:=ha du pins s1 σ H1 _ I1 q1;rw[hs] at hA⊢;refine Calls.callWith_builtin (by show(false ||(backTo du<|starEach es X.env).any (·.1))=false;rw[P4] <;>rfl)<|Calls.evalArgs_plain ?_
 exact aL hA fun us s2 ⟨vs,H2,I2,r2,q2⟩=>hm pins s2 σ H2 x vs v us Q I2 r1 r2 q2
end
def vA(X:Cx)(id:String)(r:V->List V->Hp->VK->Prop):Prop:=
 ∀(pins:List (Addr×Obj)) (s:Shared) (σ:St) (H:Hp) (x:V) (xs:List V) (v:Value) (us:List Value) (Q:VK),Inv X pins σ H s->RelV x v->Vals xs us->r x xs H Q->
  wpAny (model X.prog X.w) X.A (call (.builtin id) (v::us)) (EP X pins σ Q) X.xe s
theorem Vals.one:∀{x:V}{us:List Value},Vals [x] us->∃u,us=[u]/\RelV x u
 |_,_,.cons r .nil=>⟨_,rfl,r⟩
theorem Vals.zero:∀{us:List Value},Vals [] us->us=[]
 |_,.nil=>rfl
theorem Vals.dropLast{xs:List V}{us:List Value}(h:Vals xs us):Vals xs.dropLast us.dropLast:=by
 induction h with
 |nil=>exact .nil
 |cons r t ih=>
  cases t with
  |nil=>exact .nil
  |cons q t'=>exact .cons r ih
theorem Vals.rep{xs:List V}{us:List Value}(h:Vals xs us):∀k:Nat,Vals (List.replicate k xs).flatten (List.replicate k us).flatten
 | 0=>.nil
 |k+1=>by
  rw[zaI,zaI,zbc,zbc];exact Vals.append h<|Vals.rep h k
theorem P5{α:Type}(l:List α):l.eraseIdx (l.length - 1)=l.dropLast:=by
 induction l with
 |nil=>rfl
 |cons a r ih=>
  cases r with
  |nil=>rfl
  |cons b r=>
   have e:(a::b::r).length - 1=((b::r).length - 1)+1:=by
    have h1:(a::b::r).length=r.length+2:=rfl;have h2:(b::r).length=r.length+1:=rfl;omega
   rw[e,List.eraseIdx_cons_succ,ih]
   all_goals rfl
theorem foldl_rep(ah:List Value):∀(k:Nat) (acc:List Value),
  List.foldl (fun x1 x2=>x1++x2) acc.toArray (List.replicate k ah.toArray)=(acc++(List.replicate k ah).flatten).toArray
 | 0,acc=>by simp
 |k+1,acc=>by
  have e:acc.toArray++ah.toArray=(acc++ah).toArray:=by simp
  have e2:(acc++ah)++(List.replicate k ah).flatten=acc++(List.replicate (k+1) ah).flatten:=by
   rw[zaI,zbc,zao]
  rw[<-e2,<-foldl_rep ah k (acc++ah),<-e,zaI,List.foldl_cons]
section
variable {X:Cx}{pins:List (Addr×Obj)}{σ:St}{H:Hp}{s:Shared}{l b:Addr}{xs ys zs:List V}
theorem Inv.pT{ah fQ:List Value}{n:Nat}{f:Array Value->Array Value}{t':Nat}(I:Inv X pins σ H s)(hH:H l=some (.lst xs))
  (e:s.heap.get? l=some {cls:=.type "list",data:=.seq ah.toArray n}) (hf:f ah.toArray=fQ.toArray) (hv:Vals ys fQ) (hz:ys.length<=sizeLine):
  Inv X pins σ (upd H l<|.lst ys) {s with heap:=s.heap.update l (Obj.mapSeq f),toks:=t'}:=by
 have q:=PySem.IsL.update e f;rw[hf] at q;refine I.write (x:=l) (e:=l) (by rw[hH];exact trivial) (.inl rfl) (fun b' u hb hu=>(Heap.get?_update_other s.heap (Obj.mapSeq f)<|Ne.symm hb).trans hu) ⟨_,q⟩ ?_
 exact⟨hz,fQ,_,hv,q⟩
theorem Inv.EO{ah:List Value}{t':Nat}(I:Inv X pins σ H s)(hv:Vals ys ah)(hz:ys.length<=sizeLine):
  Inv X pins σ (upd H s.heap.objs.size<|.lst ys) {s with heap:=s.heap.push {cls:=.type "list",data:=.seq ah.toArray},toks:=t'}:=
 I.laid (fun _ _ q=>Heap.get?_push_of_some _ q) (zqR _) ⟨hz,ah,0,hv,Heap.get?_push_size _ rfl⟩
theorem Inv.fresh(I:Inv X pins σ H s):H s.heap.objs.size=none:=I.aE.fresh (zqR _)
theorem Inv.l6(I:Inv X pins σ H s)(hH:H l=some (.lst xs)):xs.length<=sizeLine/\∃(ah:List Value) (n:Nat),Vals xs ah/\xs.length=ah.length/\s.heap.get? l=some {cls:=.type "list",data:=.seq ah.toArray n}:=by
 obtain⟨z,ah,n,r,e⟩:=I.aE l _ hH;exact⟨z,ah,n,r,r.length,e⟩
theorem ER{n:Nat}(h:n<=sizeLine):Builtin.List.listTooLong n=false:=by
 unfold Builtin.List.listTooLong;exact zqF (by omega)
end
section
variable {X:Cx}
def P6:V->List V->Hp->VK->Prop:=fun x vs H Q=>∃l xs y,x=.ref l/\vs=[y]/\H l=some (.lst xs)/\xs.length<sizeLine/\Q .aF (upd H l<|.lst<|xs++[y])
theorem P7:vA X "list.append" P6:=by
 intro pins s σ H x vs v us Q I rx rv h;obtain⟨l,xs,y,rfl,rfl,hH,hz,q⟩:=h;cases rx;obtain⟨u,rfl,ru⟩:=rv.one;obtain⟨z,ah,n,r,hl,e⟩:=I.l6 hH;refine call_meets F.slot_list_append ⟨_,e,rfl⟩ F.entry_list_append (F.args_list_append_2 _ _) (PySem.list_append l ah.toArray n u (by rw[zah];omega)) ⟨e,?_⟩
 refine⟨.aF,_,I.pT (fQ:=ah++[u]) hH e (by simp) (r.append<|.cons ru .nil) ?_,rfl,q⟩
 rw[zqA,zbm];omega
def P8:V->List V->Hp->VK->Prop:=fun x vs H Q=>∃l b xs zs,x=.ref l/\vs=[.ref b]/\H l=some (.lst xs)/\H b=some (.lst zs)/\xs.length+zs.length<=sizeLine/\Q .aF (upd H l<|.lst<|xs++zs)
theorem P9:vA X "list.extend" P8:=by
 intro pins s σ H x vs v us Q I rx rv h;obtain⟨l,b,xs,zs,rfl,rfl,hH,hB,hz,q⟩:=h;cases rx;obtain⟨u,rfl,ru⟩:=rv.one;cases ru;obtain⟨z,ah,n,r,hl,e⟩:=I.l6 hH;obtain⟨z2,fY,n2,r2,rP,e2⟩:=I.l6 hB;have nN:ah.toArray.size+fY.toArray.size<=sizeLine:=by rw[zah,zah];omega
 have yS:¬(!ah.toArray.isEmpty && Builtin.List.listTooLong (ah.toArray.size+fY.toArray.size))=true:=by
  rw[ER nN,Bool.and_false];exact zan
 refine call_meets F.slot_list_extend ⟨_,e,rfl⟩ F.entry_list_extend (F.args_list_extend_2 _ _)
  (AutoSeq1.list_extend_list_list_0 l ah.toArray n b fY.toArray n2 yS (by rw[zah];omega) (by omega)) ⟨e,e2,?_⟩
 refine⟨.aF,_,I.pT (fQ:=ah++fY) hH e (by simp) (r.append r2) ?_,rfl,q⟩
 rw[zqA];omega
def P_:V->List V->Hp->VK->Prop:=fun x vs H Q=>∃l xs y,x=.ref l/\vs=[]/\H l=some (.lst xs)/\xs[xs.length - 1]?=some y/\Q y (upd H l<|.lst xs.dropLast)
theorem Qa:vA X "list.pop" P_:=by
 intro pins s σ H x vs v us Q I rx rv h;obtain⟨l,xs,y,rfl,rfl,hH,hy,q⟩:=h;cases rx;have yT:=rv.zero;subst yT;obtain⟨z,ah,n,r,hl,e⟩:=I.l6 hH;obtain⟨u,hu,ru⟩:=r.get hy;have yU:ah.toArray[ah.toArray.size - 1]?=some u:=by
  show ah.toArray[ah.length - 1]?=some u;rw[<-Array.getElem?_toList,<-hl];exact hu
 refine call_meets F.slot_list_pop ⟨_,e,rfl⟩ F.entry_list_pop (F.args_list_pop_1 _) (MeetsSeq.list_pop_last l ah.toArray n u yU (by rw[zah];omega)) ⟨e,?_⟩
 refine⟨y,_,I.pT (fQ:=ah.dropLast) hH e ?_ r.dropLast ?_,ru,q⟩
 ·show ah.toArray.eraseIdxIfInBounds (ah.toArray.size - 1)=ah.dropLast.toArray;rw[zah,List.eraseIdxIfInBounds_toArray,P5]
 ·rw[zbG];omega
def Qc:V->List V->Hp->VK->Prop:=fun x vs H Q=>∃l xs,x=.ref l/\vs=[]/\H l=some (.lst xs)/\Q .aF (upd H l<|.lst [])
theorem Qd:vA X "list.clear" Qc:=by
 intro pins s σ H x vs v us Q I rx rv h;obtain⟨l,xs,rfl,rfl,hH,q⟩:=h;cases rx;have yT:=rv.zero;subst yT;obtain⟨z,ah,n,r,hl,e⟩:=I.l6 hH;refine call_meets F.slot_list_clear ⟨_,e,rfl⟩ F.entry_list_clear (F.args_list_clear_1 _) (AutoSeq1.list_clear_list_0 l ah.toArray n (by rw[zah];omega)) ⟨e,?_⟩
 exact⟨.aF,_,I.pT (fQ:=[]) (ys:=[]) hH e rfl .nil<|zqZ _,rfl,q⟩
def ES:R2:=fun x y H Q=>∃l b xs zs,x=.ref l/\y=.ref b/\H l=some (.lst xs)/\H b=some (.lst zs)/\xs.length+zs.length<=sizeLine/\∀p,H p=none->Q (.ref p) (upd H p<|.lst<|xs++zs)
theorem Qe:bq X (binaryOp .Add) ES:=by
 intro pins s σ H x y v u Q I rx ry h;obtain⟨l,b,xs,zs,rfl,rfl,hH,hB,hz,q⟩:=h;cases rx;cases ry;obtain⟨z,ah,n,r,hl,e⟩:=I.l6 hH;obtain⟨z2,fY,n2,r2,rP,e2⟩:=I.l6 hB;refine PySem.P.add_list e e2 ?_ (by rw[zah,zah];omega)
 have ea:ah.toArray++fY.toArray=(ah++fY).toArray:=by simp
 rw[ea];exact⟨.ref _,_,I.EO (t':=s.toks) (r.append r2) (by rw[zqA];omega),rfl,q _ I.fresh⟩
def ET:R2:=fun x y H Q=>∃l k xs,x=.ref l/\y=.int k/\H l=some (.lst xs)/\ -(2 ^ 63)<=k/\k<2 ^ 63/\xs.length*k.toNat<=sizeLine/\
 ∀p,H p=none->Q (.ref p) (upd H p<|.lst (List.replicate k.toNat xs).flatten)
theorem len_rep{α:Type}(xs:List α)(k:Nat):(List.replicate k xs).flatten.length=k*xs.length:=by
 induction k with
 |zero=>simp
 |succ k ih=>rw[zaI,zbc,zqA,ih,Nat.succ_mul,Nat.add_comm]
theorem Qf:bq X (binaryOp .Mult) ET:=by
 intro pins s σ H x y v u Q I rx ry h;obtain⟨l,k,xs,rfl,rfl,hH,h1,h2,hz,q⟩:=h;cases rx;obtain⟨t,rfl⟩:=ry;obtain⟨z,ah,n,r,hl,e⟩:=I.l6 hH;have hlen:ah.toArray.size*k.toNat<=sizeLine:=by rw[zah,<-hl];exact hz
 have Qg:¬ah.toArray.size*k.toNat>(2 ^ 63 - 1) / 8:=by
  have:(sizeLine:Nat)<= (2 ^ 63 - 1) / 8:=by decide
  omega
 have Qh:¬(!Builtin.List.listFitsIndex k)=true:=by
  rw[fitsIndex_both h1 h2];exact zan
 have yS:¬Builtin.List.listTooLong (ah.toArray.size*k.toNat)=true:=by
  rw[ER hlen];exact zan
 have Qi:List.foldl (fun x1 x2=>x1++x2) #[] (List.replicate (if ah.toArray.isEmpty=true then 0 else k.toNat) ah.toArray)=(List.replicate k.toNat ah).flatten.toArray:=by
  have f0:∀m:Nat,List.foldl (fun x1 x2=>x1++x2) #[] (List.replicate m ah.toArray)=(List.replicate m ah).flatten.toArray:=fun m=>by
   have:=foldl_rep ah m [];rw[List.nil_append] at this;exact this
  rw[f0];cases ah with
  |nil=>simp
  |cons a r'=>rw[if_neg (by simp)]
 refine wpAny_binaryOp_repeat_ref (T:="list") (U:="int") (by decide) ⟨_,e,rfl⟩ (fun s'=>typeIs_int s' k t) noFill_list_mul F.fills_int_mul F.slot_int_rmul repeat_list F.slot_int_index.lookup
  (call_meets F.slot_int_rmul (typeIs_int s k t) F.entry_int_rmul (F.args_int_rmul_2 _ _) (int___rmul___int_list k t l ah.toArray n)
   ⟨e,rfl,⟨_,e,rfl⟩,call_meets F.slot_list_mul ⟨_,e,rfl⟩ F.entry_list_mul (F.args_list_mul_2 _ _) (AutoListH.list___mul___list_int_3 l ah.toArray n k t Qh Qg yS) ⟨e,?_⟩⟩)
 rw[Qi];exact⟨.ref _,_,I.EO (t':=s.toks) (r.rep k.toNat) (by rw[len_rep,Nat.mul_comm];exact hz),rfl,q _ I.fresh⟩
end
end L2
namespace EU
open PySem PySem.W PySem.Calls PyProof.Rows
theorem Qj{P:Params}{h:Heap}:∀(ns:List Int) (vs:List Value),WellAll P h vs (ns.map WData.int)->IntsAre vs ns:=by
 intro ns
 induction ns with
 |nil=>
  intro vs w;rw[zaV] at w;cases w;exact .nil
 |cons n ns ih=>
  intro vs w;rw[zaw] at w;cases w with
  |cons a b=>
   cases a;exact .cons _ _<|ih _ b
theorem Qk{l:OpenLaw}{n:Nat}(hn:l.most=some n){P:Params}{h:Heap}{args:List WData}{vals:List Value}
  (kJ:l.row.toRowW.claim.pre args=true) (vB:WellAll P h vals args):
  ∃a vs ns,vals=[Value.ref a]/\args=[WData.list<|ns.map WData.int]/\h.get? a=some {cls:=.type "list",data:=.seq vs.toArray}/\IntsAre vs ns/\ns.length<=n:=by
 have Ql:WShape.hasAll [] args [.list .int]=true:=(pre_splitW kJ).1;have hc:l.pre.holds [] {args:=args}=true:=(pre_splitW kJ).2;obtain⟨d,r,rfl,h1,h2⟩:=hasAllW_cons Ql;obtain rfl:=hasAllW_nil h2;obtain⟨xs,rfl,h3⟩:=hasW_list h1;obtain⟨ns,rfl⟩:=items_int h3;have hlen:ns.length<=n:=by
  unfold OpenLaw.pre at hc;have h4:(WTm.not<|.lt (.lit<|.int (n:Int))<|.len<|.arg 0).holds [] {args:=[.list<|ns.map .int]}=true:=by
   have h4:=(holds_andW hc).1;rw[hn] at h4;exact h4
  have h5:=condW_of h4 (w_not<|w_lt w_lit<|w_len_list<|w_arg rfl);rw[zac] at h5;refine Nat.le_of_not_lt fun q=>?_;have q':(n:Int) < ((ns.length:Nat):Int):=by omega
  first
   | (rw[zqT q'] at h5;exact absurd h5 (by decide))
   | (simp at h5;omega)
 cases vB with
 |cons w1 w2=>
  cases w2;cases w1 with
  |list ho rQ=>exact⟨_,_,ns,rfl,rfl,ho,Qj ns _ rQ,hlen⟩
theorem Qm(l:OpenLaw)(args:List WData):l.row.toRowW.claim.post args (.bool true) args=true:=
 postW_of (r:=l.row.toRowW) (X:=(true==true))
  (show WShape.has [] (.bool true) .bool=true by first|rfl|decide|simp[WShape.has,WShape.arms,WShape.armsAll])
  (show(WTm.eq .res<|.lit<|.bool true).value [] {args:=args,res:=some (.bool true),after:=args}=some (.bool<|true==true) from w_eq_bool (w_res rfl) w_lit) rfl
theorem Qn{l:OpenLaw}{n:Nat}{q:Program}{loose:List Str}{XP:(Str->Option Value)->Heap->Prop}{YP:World->Heap->Prop}{d:DefRec}
  (hn:l.most=some n) (rR:d.params.defaults=[])
  (call:∀(w:World) (s₀ s₁:Shared) (mg mb:Str->Option Value) (fa:Addr) (o:Obj) (pm cd doc:Value) (a:Addr) (vs:List Value) (ns:List Int),
   Ground q loose [] XP w s₀ mg mb s₁.heap->YP w s₁.heap->
   s₁.heap.get? fa=some o->o.data=.func (docDef d.name d.params d.body d.scope pm cd doc)->s₁.heap.CodeRec cd d.name->mg d.name=some (.ref fa)->
   s₁.heap.get? a=some {cls:=.type "list",data:=.seq vs.toArray}->IntsAre vs ns->ns.length<=n->s₁.gens= #[]->
   codeAny (model l.prog w) callerA (.call (.ref fa) ⟨[.ref a],[]⟩) (fun r s'=>r=.ok (.ret (.bool true))/\OldK s₁.heap s'.heap/\s'.os=s₁.os/\AllBare s'.gens) s₁):
  WalkO q loose XP YP l.row.toRowW d [] (fun f vs=>PySem.call f vs):=by
 intro w s₀ s₁ mg mb G Y fa o pm cd doc dV kV ho hd jR hD nT hg args vals as kJ adB hrd vB hlo;obtain rfl:dV=.none:=Dflts.none hD rR;obtain rfl:kV=.none:=Dflts.noKw hD;obtain⟨a,vs,ns,rfl,rfl,yV,hints,hlen⟩:=Qk hn kJ vB;refine enter_call<|codeAny_mono (call w s₀ s₁ mg mb fa o pm cd doc a vs ns G Y ho (fd_plain hd) jR nT yV hints hlen hg) fun r s' hq=>?_;obtain⟨rfl,h2,h3,h4⟩:=hq;exact⟨.inl ⟨.bool true,.bool true,[],rfl,fun _=>rfl,.bool true,Qm l _,fun _=>⟨List.Pairwise.nil,fun _ hm=>(nomatch hm)⟩⟩,h2,h3,h4⟩
section
variable {prog:Program}{w:World}{A:Around}{E:Value->Shared->Prop}{s:Shared}{K:Frag}
end
end EU
namespace L2
open PySem PySem.Spec PyProof.Rows
theorem EV:∀{vs:List Value}{ns:List Int},IntsAre vs ns->Vals (ns.map V.int) vs
 |_,_,.nil=>.nil
 |_,_,.cons n t h=>.cons ⟨t,rfl⟩ (EV h)
def yW(H:Hp):Prop:= ∀b,H b=none\/∃o xs,H b=some (.bO o<|.lst xs)
theorem Qo{P:Program}{w:World}{K:Frag}{mg mb:Str->Option Value}{CX:cI}{k:Nat}{fa a:Addr}{fd:FuncData}{x:Str}{sp:Sp}{s₁:Shared}{vs:List Value}{ns:List Int}
  (KX:K.In s₁.heap) (vC:s₁.heap.Ns mainGlobals mg) (hb:s₁.heap.Ns builtinsNs mb) (pU:∀x:Str,x≠"__name__"->mb x=bootBuiltins x) (Qp:s₁.heap.NoLimit) (hg:s₁.gens= #[])
  (ha:s₁.heap.get? a=some {cls:=.type "list",data:=.seq vs.toArray}) (hi:IntsAre vs ns) (hl:ns.length<=sizeLine) (hr:c7 k callerA)
  (F:∀base:Heap,K.In base->base.Ns mainGlobals mg->cX P w K mg base CX k fa fd [x] sp) (Qq:∀(s:Shared) (u:Value),BindsTo s fd ⟨[u],[]⟩ [(x,u)])
  (lY:∀H:Hp,yW H->au K H a (ns.map V.int)->sp [.ref a] H (fun v _=>v=.bl true) fun _ _ _=>False)
  (yX:∀H e s',CX [] H s₁ (fun _ _ _=>False) e s'->False):
  codeAny (model P w) callerA (.call (.ref fa) ⟨[.ref a],[]⟩) (fun r s'=>r=.ok (.ret<|.bool true)/\OldK s₁.heap s'.heap/\s'.os=s₁.os/\AllBare s'.gens) s₁:=by
 have rv:=EV hi;have pV:=hi.length;have core:∀H:Hp,yW H->au K H a (ns.map V.int)->bR P w H s₁.heap->(∀b,H b≠none->b=a)->(H a≠none->K.lookup a=none)->
   codeAny (model P w) callerA (.call (.ref fa) ⟨[.ref a],[]⟩) (fun r s'=>r=.ok (.ret<|.bool true)/\OldK s₁.heap s'.heap/\s'.os=s₁.os/\AllBare s'.gens) s₁:=by
  intro H hO hS aE hA hK;have nU:∀{b:Addr}{o:Obj},s₁.heap.get? b=some o->H b=none->(kE s₁.heap H).get? b=some o:=fun e n=>Nz e n;have rL:∀{b:Addr}{o:Obj}{es:Array DictEntry}{ep:Nat},s₁.heap.get? b=some o->o.data=.dict es ep->H b=none:=fun {b o es ep} e d=>by
   cases q:H b with
   |none=>rfl
   |some u=>
    have e':b=a:=hA b (by rw[q];simp)
    subst e';rw[ha] at e;cases e;have d':Data.seq vs.toArray _=Data.dict es ep:=d;cases d'
  have vD:∀{b:Addr}{m:Str->Option Value},s₁.heap.Ns b m->(kE s₁.heap H).Ns b m:=fun {b m} ⟨o,es,ep,e,d,r⟩=>⟨o,es,ep,nU e<|rL e d,d,r⟩;have EW:K.In (kE s₁.heap H):=fun b o e=>nU (KX b o e) (by
   cases q:H b with
   |none=>rfl
   |some u=>
    have e':b=a:=hA b (by rw[q];simp)
    subst e';rw[hK (by rw[q];simp)] at e;cases e)
  have hM:Mod K mg (kE s₁.heap H):=⟨EW,vD vC,⟨mb,vD hb,pU⟩,let ⟨mc,h1,h2⟩:=Qp;⟨mc,vD h1,h2⟩⟩;have e0:lW P w K mg (kE s₁.heap H) callerA [] s₁ H:=⟨rfl,hM,fun b o e=>NA e,zbi<|Ny _ _,trivial,fun b hb=>absurd (show b∈ ([]:List Addr) from hb) (by simp),aE,.of_eq hg⟩
  refine codeAny_mono ((F _ EW<|vD vC).run callerA [] s₁ H ⟨[.ref a],[]⟩ [.ref a] [.ref a] _ _ hr e0 (Qq s₁<|.ref a) (.cons rfl .nil)<|lY H hO hS) fun r s' h=>?_;cases r with
  |error e=>exact(yX H e s' h).elim
  |ok fl=>
   cases fl with
   |next=>exact False.elim h
   |brk=>exact False.elim h
   |cont=>exact False.elim h
   |ret u=>
    obtain⟨v,H',os,bare,un,Qr,r',q⟩:=h;have q':v=.bl true:=q;subst q';obtain rfl:u=Value.bool true:=r';refine⟨rfl,OldK.of_keep fun b o e=>?_,os,bare⟩;cases q:H b with
    |none=>exact un.keep b o e q (by intro z;exact absurd (show b∈ ([]:List Addr) from z) (by simp)) (by simp)
    |some u=>
     rcases hO b with z|⟨ob,xs,z⟩
     ·rw[q] at z;cases z
     ·have z2:=un.fO b ob _ z;obtain⟨e1,_⟩:=aE b _ z;obtain⟨e2,_⟩:=Qr b _ z2;rw[e] at e1;cases e1;exact e2
 cases hk:K.lookup a with
 |some o=>
  have e:=KX a o hk;rw[ha] at e;cases e;refine core (fun _=>none) (fun _=>.inl rfl) (.inr ⟨_,vs.toArray,_,hk,rfl,rfl,rfl,by rw[zah,pV];exact hl,by simpa using rv⟩) (fun b u z=>by have z':(none:Option HO)=some u:=z;cases z') (fun b z=>absurd rfl z) fun z=>absurd rfl z
 |none=>
  refine core (fun b=>if b=a then some (.bO {cls:=.type "list",data:=.seq vs.toArray}<|.lst<|ns.map V.int) else none) (fun b=>?_) (.inl<|.inr ⟨{cls:=.type "list",data:=.seq vs.toArray},if_pos rfl⟩) (fun b u z=>?_) (fun b z=>?_) fun _=>hk
  ·by_cases hb:b=a
   ·exact .inr ⟨_,_,if_pos hb⟩
   ·exact .inl (if_neg hb)
  ·by_cases hb:b=a
   ·have z':=(if_pos hb).symm.trans z;cases z';subst hb;exact⟨ha,by rw[zac];exact hl,vs,_,rv,ha⟩
   ·have z':=(if_neg hb).symm.trans z;cases z'
  ·by_cases hb:b=a
   ·exact hb
   ·exact absurd (if_neg hb) z
theorem Qs{l:PySem.W.OpenLaw}{n k:Nat}{q:Program}{loose:List Str}{XP:(Str->Option Value)->Heap->Prop}{YP:World->Heap->Prop}{d:DefRec}{K:Params->Frag}{CX:World->cI}{sp:World->Sp}{x:Str}
  (hn:l.most=some n) (rG:n<=sizeLine) (rR:d.params.defaults=[]) (hr:c7 k callerA)
  (hY:∀(w:World) (h:Heap),YP w h->(K w.params).In h)
  (F:∀(w:World) (mg:Str->Option Value) (fa:Addr) (h:Heap),(K w.params).In h->h.Ns mainGlobals mg->mg d.name=some (.ref fa)->
   ∃fd:FuncData,(∀(s:Shared) (u:Value),BindsTo s fd ⟨[u],[]⟩ [(x,u)])/\
    ∀base:Heap,(K w.params).In base->base.Ns mainGlobals mg->cX l.prog w (K w.params) mg base (CX w) k fa fd [x] (sp w))
  (lY:∀(w:World) (H:Hp) (a:Addr) (ns:List Int),ns.length<=n->yW H->au (K w.params) H a (ns.map V.int)->sp w [.ref a] H (fun v _=>v=.bl true) fun _ _ _=>False)
  (yX:∀(w:World) (H:Hp) (s:Shared) (e:Value) (s':Shared),CX w [] H s (fun _ _ _=>False) e s'->False):
  PySem.W.WalkO q loose XP YP l.row.toRowW d [] (fun f vs=>PySem.call f vs):=by
 refine EU.Qn hn rR fun w s₀ s₁ mg mb fa o pm cd doc a vs ns G Y ho hd jR nT yV hints hlen hg=>?_;have KX:=hY w _ Y;obtain⟨fd,hb,hF⟩:=F w mg fa _ KX G.T.g nT;exact Qo KX G.T.g G.T.b G.T.builtins G.T.nolimit hg yV hints (zas hlen rG) hr hF hb (fun H hO hS=>lY w H a ns hlen hO hS) fun H e s'=>yX w H s₁ e s'
end L2
namespace L2
open PySem PySem.Spec PyProof.Rows
def inClass(s:Stmt)(j:Nat):Stmt:=match s with
 |.ClassDef _ _ _ body _ _ _ _ _ _ _=>body.getD j (.Pass ⟨0,0,0,0⟩)
 |_=>.Pass ⟨0,0,0,0⟩
def iA(s:Stmt):Arguments:=match s with
 |.FunctionDef _ a _ _ _ _ _ _ _ _=>a
 |_=> {posonlyargs:=[],args:=[],vararg:=none,kwonlyargs:=[],kw_defaults:=[],kwarg:=none,defaults:=[]}
def eR(s:Stmt):List Stmt:=match s with
 |.FunctionDef _ _ b _ _ _ _ _ _ _=>b
 |_=>[]
def eS(s:Stmt):Scope:=match s with
 |.FunctionDef _ _ _ _ _ _ sc _ _ _=>sc
 |_=> {kind:=.function,names:=[],isGenerator:=false,isCoroutine:=false}
abbrev rS:cI:=fun _ _ _ _ _ _=>False
abbrev E0:XK:=fun _ _ _=>False
structure nW (K:Frag) (x qual:Str) (st:Stmt) (f:Addr) (fd:FuncData):Prop where
 ex:∃(oc:Value) (od:Option Addr) (kV doc pm:Value) (an:Option Addr) (bC ct:Value) (iy:Array (Option Value)),
  fd=PySem.W.fnOf x qual (iA st) (eR st) (eS st) .none kV doc pm an bC ct/\K.lookup f=some ⟨oc,od,.func fd,iy⟩/\PySem.W.codeIn K bC qual=true
 kp:PySem.W.keepIn K (.ref f)=true
section
variable {P:Program}{w:World}{K:Frag}{mg:Str->Option Value}{base:Heap}
theorem nW.binds{x qual:Str}{st:Stmt}{f:Addr}{fd:FuncData}{ps:List Str}(F:nW K x qual st f fd)
  (h:∀(kV doc pm:Value) (an:Option Addr) (bC ct:Value) (us:List Value),us.length=ps.length->bindArgs (PySem.W.fnOf x qual (iA st) (eR st) (eS st) .none kV doc pm an bC ct) ⟨us,[]⟩=pure (ps.zip us)):Binds K fd ps []:=by
 obtain⟨oc,od,kV,doc,pm,an,bC,ct,iy,rfl,lk,jR⟩:=F.ex;exact .all<|h kV doc pm an bC ct
theorem EX{x qual:Str}{st:Stmt}{f:Addr}{oc:Value}{od an:Option Addr}{iy:Array (Option Value)}{kV doc pm bC ct:Value}(l:K.lookup f=some ⟨oc,od,.func<|PySem.W.fnOf x qual (iA st) (eR st) (eS st) .none kV doc pm an bC ct,iy⟩)
  (c:PySem.W.codeIn K bC qual=true) (k:PySem.W.keepIn K (.ref f)=true):nW K x qual st f (PySem.W.fnOf x qual (iA st) (eR st) (eS st) .none kV doc pm an bC ct):=⟨⟨oc,od,kV,doc,pm,an,bC,ct,iy,rfl,l,c⟩,k⟩
end
theorem iZ{A B:Prop}(h:B):if false=true then A else B:=by
 rw[if_neg zan];exact h
theorem fm{A B:Prop}(h:A):if true=true then A else B:=by
 rw[if_pos rfl];exact h
theorem dC{c A B:Prop}[Decidable c](h1:c->A)(h2:¬c->B):if c then A else B:=by
 by_cases h:c
 ·rw[if_pos h];exact h1 h
 ·rw[if_neg h];exact h2 h
def az(H H':Hp):Prop:= ∀b o,H b=some o->H' b=some o
theorem az.refl(H:Hp):az H H:=fun _ _ h=>h
theorem az.trans{H H1 H2:Hp}(a:az H H1)(b:az H1 H2):az H H2:=fun c o h=>b c o (a c o h)
theorem az.free{H H':Hp}(e:az H H'){l:Addr}(h:H' l=Option.none):H l=Option.none:=by
 cases q:H l with
 |none=>rfl
 |some o=>
  rw[e l o q] at h;cases h
theorem az.seq{K:Frag}{H H':Hp}{a:Addr}{xs:List V}(e:az H H')(h:au K H a xs):au K H' a xs:=by
 rcases h with(h|⟨o,h⟩)|h
 ·exact .inl (.inl<|e _ _ h)
 ·exact .inl (.inr ⟨o,e _ _ h⟩)
 ·exact .inr h
section
variable {κ:Type} [DecidableEq κ]
def hV(kvs:List (κ×V))(k:κ):Option V:=(kvs.find? fun kv=>decide (kv.1=k)).map (·.2)
def putK(kvs:List (κ×V))(k:κ)(v:V):List (κ×V):=
 if (kvs.any fun kv=>decide (kv.1=k))=true then kvs.map (fun kv=>if kv.1=k then (kv.1,v) else kv) else kvs++[(k,v)]
theorem nX{p:κ×V}{r:List (κ×V)}{k:κ}(e:p.1=k):hV (p::r) k=some p.2:=by simp[hV,zaJ,e]
theorem jX{p:κ×V}{r:List (κ×V)}{k:κ}(e:¬p.1=k):hV (p::r) k=hV r k:=by simp[hV,zaJ,e]
theorem EY(k:κ):∀kvs:List (κ×V),(kvs.any fun kv=>decide (kv.1=k))=(hV kvs k).isSome
 |[]=>rfl
 |p::r=>by
  rw[zbl];by_cases e:p.1=k
  ·simp only[nX e,zqT e,Bool.true_or,Option.isSome_some]
  ·rw[jX e,zqF e,Bool.false_or];exact EY k r
theorem Qt(kvs:List (κ×V))(k:κ)(v:V):(putK kvs k v).length<=kvs.length+1:=by
 unfold putK
 split
 ·rw[zac];omega
 ·rw[zqA,zay,zbn];omega
theorem vE{kvs:List (κ×V)}{k:κ}(v:V)(h:hV kvs k=none):putK kvs k v=kvs++[(k,v)]:=by
 unfold putK;rw[EY,h];exact if_neg (by decide)
theorem KV.val{kvs:List (κ×V)}{vs:List (κ×Value)}(r:KV kvs vs)(k:κ):g_ (hV kvs k) (valueAt vs k):=by
 unfold KV at r
 induction r with
 |nil=>exact True.intro
 | @cons p q ps qs h t ih=>
  obtain⟨h1,h2⟩:=h;by_cases e:p.1=k
  ·have e':q.1=k:=h1.symm.trans e;have b:valueAt (q::qs) k=some q.2:=by simp[valueAt,zaJ,e']
   rw[nX e,b];exact h2
  ·have e':¬q.1=k:=fun z=>e (h1.trans z);have b:valueAt (q::qs) k=valueAt qs k:=by simp[valueAt,zaJ,e']
   rw[jX e,b];exact ih
theorem KV.any{kvs:List (κ×V)}{vs:List (κ×Value)}(r:KV kvs vs)(k:κ):(kvs.any fun kv=>decide (kv.1=k))=vs.any fun kv=>decide (kv.1=k):=by
 unfold KV at r
 induction r with
 |nil=>rfl
 |cons h t ih=>rw[zbl,zbl,ih,h.1]
theorem KV.Qu{kvs:List (κ×V)}{vs:List (κ×Value)}(r:KV kvs vs)(k:κ){y:V}{u:Value}(ry:RelV y u):
  KV (kvs.map fun kv=>if kv.1=k then (kv.1,y) else kv) (vs.map fun kv=>if kv.1=k then (kv.1,u) else kv):=by
 unfold KV at r⊢
 induction r with
 |nil=>exact .nil
 | @cons p q ps qs h t ih=>
  rw[zaw,zaw];refine .cons ?_ ih;obtain⟨h1,h2⟩:=h;by_cases e:p.1=k
  ·rw[if_pos e,if_pos<|h1.symm.trans e];exact⟨h1,ry⟩
  ·rw[if_neg e,if_neg<|fun z=>e<|h1.trans z];exact⟨h1,h2⟩
theorem KV.put{kvs:List (κ×V)}{vs:List (κ×Value)}(r:KV kvs vs)(k:κ){y:V}{u:Value}(ry:RelV y u):KV (putK kvs k y) (stored vs k u):=by
 unfold putK stored;rw[r.any k];by_cases e:(vs.any fun kv=>decide (kv.1=k))=true
 ·rw[if_pos e,if_pos e];exact r.Qu k ry
 ·rw[if_neg e,if_neg e];exact Paired.snoc r ⟨rfl,ry⟩
end
theorem yY{P:Program}{w:World}{k:Key}{u:Value}(r:RelV (kV k) u):(eg P w).is k u=true:=by
 cases k with
 |inl i=>obtain⟨t,e⟩:=(show ∃t,u=Value.int i t from r);subst e;exact Dy P w i t
 |inr x=>obtain⟨t,e⟩:=(show ∃t,u=Value.str x t from r);subst e;exact Dz P w x t
theorem EZ{P:Program}{w:World}:∀{ks:List Key}{us:List Value},Vals (ks.map kV) us->ItemsAre (eg P w) ks us
 |[],_,r=>by rw[zaV] at r;cases r;exact .nil
 |k::ks,_,r=>by
  rw[zaw] at r;cases r with
  |cons h t=>exact .cons (yY h) (EZ t)
abbrev KT(H:Hp):List (List Key×V)->List (List Key×Addr×Value)->Prop:=Paired fun p q=>p.1=q.1/\H q.2.1=some (.tup<|p.1.map kV)/\RelV p.2 q.2.2
theorem KT.val{H:Hp}{kvs:List (List Key×V)}{xs:List (List Key×Addr×Value)}(r:KT H kvs xs)(k:List Key):g_ (hV kvs k) ((atKey xs k).map (·.2)):=by
 induction r with
 |nil=>exact True.intro
 | @cons p q ps qs h t ih=>
  obtain⟨h1,_,h2⟩:=h;by_cases e:p.1=k
  ·have e':q.1=k:=h1.symm.trans e;have b:atKey (q::qs) k=some q.2:=by simp[atKey,zaJ,e']
   rw[nX e,b];exact h2
  ·have e':¬q.1=k:=fun z=>e (h1.trans z);have b:atKey (q::qs) k=atKey qs k:=by simp[atKey,zaJ,e']
   rw[jX e,b];exact ih
section
variable {P:Program}{w:World}{H:Hp}{h:Heap}{a:Addr}
theorem E1{u:HO}(ok:bR P w H h)(e:Rd H a u):cB P w H h a u:=e.ok ok
theorem yZ{kvs:List (Key×V)}(ok:bR P w H h)(e:Rd H a (.dK kvs)):kvs.length<=sizeLine/\(a==sysModules)=false/\∃vs,KV kvs vs/\h.DictOf (eg P w) a vs:=
 show cB P w H h a (.dK kvs) from E1 ok e
theorem Qw{kvs:List (Key×V)}(ok:bR P w H h)(e:H a=some (.dK kvs)):kvs.length<=sizeLine/\(a==sysModules)=false/\∃vs,KV kvs vs/\h.DictOf (eg P w) a vs:=yZ ok (.inl e)
theorem E2{ks:List Key}(ok:bR P w H h)(e:H a=some (.tup<|ks.map kV)):(tupleKind<|eg P w).is h ks a:=by
 obtain⟨_,ah,r,o,h1,h2,n,h3⟩:=(show cB P w H h a (.tup<|ks.map kV) from ok a _ e)
 exact⟨o,ah.toArray,n,h1,h2,h3,by simpa using EZ r⟩
theorem E3{kvs:List (List Key×V)}(ok:bR P w H h)(e:Rd H a (.dT kvs)):kvs.length<=sizeLine/\(a==sysModules)=false/\
  ∃xs,KT H kvs xs/\h.DictOfH (tupleKind<|eg P w) a xs:=by
 obtain⟨z,y,xs,r,o,es,ep,h1,h2,h3,h4,h5⟩:=(show cB P w H h a (.dT kvs) from E1 ok e)
 refine⟨z,y,xs,r,o,es,ep,h1,h2,h3,h4,fun x hx=>?_,h5⟩;have all:∀{l:List (List Key×V)}{m:List (List Key×Addr×Value)},KT H l m->∀x∈m,(tupleKind<|eg P w).is h x.1 x.2.1:=by
  intro l m q
  induction q with
  |nil=>intro x hx;exact nomatch hx
  | @cons p q ps qs hq t ih=>
   intro x hx;rcases zaa.mp hx with e|hx
   ·subst e;exact E2 ok (by rw[<-hq.1];exact hq.2.1)
   ·exact ih x hx
 exact all r x hx
end
def fo(H:Hp)(a:Addr)(y:V)(r:Option V):Prop:=
 (∃kvs k,Rd H a (.dK kvs)/\y=kV k/\r=hV kvs k)\/∃kvs k b,Rd H a (.dT kvs)/\y=.ref b/\H b=some (.tup<|k.map kV)/\r=hV kvs k
def Qx(H:Hp)(a:Addr)(y v:V)(H':Hp):Prop:=
 (∃kvs k,H a=some (.dK kvs)/\y=kV k/\kvs.length<sizeLine/\H'=upd H a (.dK<|putK kvs k v))\/
 ∃kvs k b,H a=some (.dT kvs)/\y=.ref b/\H b=some (.tup<|k.map kV)/\kvs.length<sizeLine/\H'=upd H a (.dT<|putK kvs k v)
theorem fo.k{H:Hp}{a:Addr}{kvs:List (Key×V)}{k:Key}(e:H a=some (.dK kvs)):fo H a (kV k) (hV kvs k):=.inl ⟨kvs,k,.inl e,rfl,rfl⟩
section
variable {X:Cx}{pins:List (Addr×Obj)}{σ:St}{H:Hp}{s:Shared}{a:Addr}{y v:V}{u r:Value}{o:Option V}{A:Around}{E:Value->Shared->Prop}
theorem Inv.big(I:Inv X pins σ H s):sysModules<s.heap.objs.size:=by
 have h:mainGlobals<s.heap.objs.size:=(I.mod.glob.keeps I.bk).lt;exact Nat.lt_trans (by decide) h
theorem Qy{Q:Value->Shared->Prop}(hu:A.units+1<cLine)(I:Inv X pins σ H s)(g:fo H a y (some v))(ry:RelV y u)(h:∀w' s',Inv X pins σ H s'->RelV v w'->Q w' s'):
  wpAny (model X.prog X.w) A (getItem (.ref a) u) Q E s:=by
 rcases g with⟨kvs,k,e,ey,l⟩|⟨kvs,k,b,e,ey,eb,l⟩
 ·subst ey;obtain⟨z,hd,vs,rel,dd⟩:=yZ I.aE e;obtain⟨w',hw,iz⟩:=g_.some_of (v:=v) (o:=valueAt vs k) (by rw[l];exact rel.val k)
  exact wpAny_getItem_of (yY ry) dd.mapOf hw<|h w' _ (I.tok _) iz
 ·subst ey;cases (show u=Value.ref b from ry)
  obtain⟨z,hd,xs,rel,dd⟩:=E3 I.aE e;obtain⟨w',hw,iz⟩:=g_.some_of (v:=v) (o:=(atKey xs k).map (·.2)) (by rw[l];exact rel.val k)
  obtain⟨p,hp,jo⟩:=Option.map_eq_some_iff.mp hw;refine wpAny_getItem_heap (tupleKind_room_in1 hu) (E2 I.aE eb) dd hp ?_;rw[jo];exact h w' _ (I.tok _) iz
theorem Qz{h':Heap}{t':Nat}{ob:HO}(I:Inv X pins σ H s)(mu:rA (H a))(hs:Heap.SameBut a s.heap h')(he:∃q,h'.get? a=some q)(new:cB X.prog X.w (upd H a ob) h' a ob):
  Inv X pins σ (upd H a ob) {s with heap:=h',toks:=t'}:=
 I.write (x:=a) (e:=a) mu (.inl rfl) (fun b q hb z=>(hs.2 b hb).trans z) he new
theorem QC{P:Program}{w:World}{H':Hp}{h':Heap}{kvs:List (Key×V)}{vs:List (Key×Value)}(z:kvs.length<=sizeLine)(hd:(a==sysModules)=false)(rel:KV kvs vs)(dd:h'.DictOf (eg P w) a vs):
  cB P w H' h' a (.dK kvs):=⟨z,hd,vs,rel,dd⟩
end
def y2(i:Expr):Prop:= ∀ov iv,subscripted i false ov iv=operate [ov,iv] (getItem ov iv)
theorem QD{prog:Program}{w:World}{A:Around}{E:Value->Shared->Prop}{s:Shared}{env:Env}{value slice:Expr}{pos:Pos}{T id:String}{Q:Value->Shared->Prop}
  (hl:typeLookup (.type T) "__getitem__"=pure (some<|.builtin id)) (hs:y2 slice)
  (h:wpAny (model prog w) A (eval value env) (fun o s₁=>wpAny (model prog w) A (eval slice env) (fun i s₂=>s₂.TypeIs o T/\wpAny (model prog w) A (getItem o i) Q E s₂) E s₁) E s):
  wpAny (model prog w) A (eval (.Subscript value slice pos) env) Q E s:=by
 refine Subscript_<|wpAny_mono h (fun o s₁ h₁=>wpAny_mono h₁ (fun i s₂ h₂=>?_) fun _ _ x=>x) fun _ _ x=>x;obtain⟨hT,h₂⟩:=h₂;unfold subscriptTail;refine wpAny_bind ?_;rw[getitemInPython_of_ne hT.not_modules];refine wpAny_bind<|wpAny_specialOf hT hl ?_;have fin:wpAny (model prog w) A (subscripted slice false o i) (fun r s₃=>wpAny (model prog w) A (letTemporaryGo value o r>>=fun _=>pure r) Q E s₃) E s₂:=by
  rw[hs o i];exact wpAny_operating<|wpAny_mono h₂ (fun r s₃ h₃=>wpAny_bind<|wpAny_letTemporaryGo<|wpAny_pure h₃) fun _ _ x=>x
 first
  |exact wpAny_pure (wpAny_bind fin)
  |exact wpAny_bind (wpAny_pure<|wpAny_bind fin)
  |exact wpAny_bind fin
theorem QE{X:Cx}{pins:List (Addr×Obj)}{σ:St}{H:Hp}{s:Shared}{a:Addr}{y:V}{o:Option V}(I:Inv X pins σ H s)(g:fo H a y o):s.TypeIs (.ref a) "dict":=by
 rcases g with⟨kvs,k,e,_,_⟩|⟨kvs,k,b,e,_,_,_⟩
 ·obtain⟨_,_,vs,_,dd⟩:=yZ I.aE e;exact dd.typeIs
 ·obtain⟨_,_,xs,_,dd⟩:=E3 I.aE e;exact dd.typeIs
def E4(td ty:TE):TE:=fun σ H Q=>td σ H fun x H1=>ty σ H1 fun y H2=>∃a v,x=.ref a/\fo H2 a y (some v)/\Q v H2
def E5(ty td:TE):TE:=fun σ H Q=>ty σ H fun y H1=>td σ H1 fun x H2=>∃a o,x=.ref a/\fo H2 a y o/\Q (.bl o.isSome) H2
def E6(ty td:TE):TE:=fun σ H Q=>ty σ H fun y H1=>td σ H1 fun x H2=>∃a o,x=.ref a/\fo H2 a y o/\Q (.bl<|!o.isSome) H2
def QF(td ty tv:TE):TS:=fun D σ H=>tv σ H fun v H1=>td σ H1 fun x H2=>ty σ H2 fun y H3=>∃a H4,x=.ref a/\Qx H3 a y v H4/\D.nx σ H4
section
variable {X:Cx}{o i e value:Expr}{pos pos' yE:Pos}{td ty tv:TE}
theorem QG(hu:X.A.units+1<cLine)(ho:PE X o td)(hi:PE X i ty)(hs:y2 i):PE X (.Subscript o i pos) (E4 td ty):=by
 intro pins s σ H Q I h;refine QD PySem.F.slot_dict_getitem.lookup hs<|aL (ho pins s σ H _ I h) fun u s1 ⟨x,H1,I1,rx,q1⟩=>aL (hi pins s1 σ H1 _ I1 q1) fun iv s2 ⟨y,H2,I2,ry,a,v,ex,g,q2⟩=>?_;subst ex;obtain rfl:u=Value.ref a:=rx;exact⟨QE I2 g,Qy hu I2 g ry fun w' s3 I3 iz=>⟨v,H2,I3,iz,q2⟩⟩
end
theorem QH{P:Program}{w:World}{H:Hp}(h:Heap)(hb:sysModules<h.objs.size):cB P w H (h.push {cls:=.type "dict",data:=.dict #[]}) h.objs.size (.dK []):=
 ⟨zqZ _,beq_eq_false_iff_ne.mpr<|Ne.symm<|zal hb,[],.nil,Heap.DictOf.new h⟩
def QI:TE:=fun _ H Q=>∀p,H p=none->Q (.ref p) (upd H p<|.dT [])
def QJ(H:Hp)(a:Addr):Prop:=(∃kvs,Rd H a<|.dK kvs)\/∃kvs,Rd H a (.dT kvs)
def QK(td ty tx:TE):TE:=fun σ H Q=>td σ H fun x H1=>∃a,x=.ref a/\QJ H1 a/\ty σ H1 fun y H2=>tx σ H2 fun z H3=>∃o,fo H3 a y o/\Q (o.getD z) H3
end L2
set_option maxHeartbeats 4000000
namespace L2
open PySem PySem.Spec PyProof.Rows
section
variable {X:Cx}{pins:List (Addr×Obj)}{σ:St}{H:Hp}{s:Shared}{a:Addr}{o:HO}
theorem Inv.E7(I:Inv X pins σ H s)(hn:H a=none)(h0:X.s₀.heap.objs.size<=a)(hL:a≠X.env.locals)(hC:∀x c,X.env.cells.lookup x=some c->c≠a)
  (hp:∀p∈X.pn++pins,p.1≠a) (new:cB X.prog X.w (upd H a o) s.heap a o):Inv X pins σ (upd H a o) s:=by
 have QL:∀b u,X.s₀.heap.get? b=some u->b≠a:=fun b u e=>zal (zat (Heap.lt_size e) h0);have rT:∀b u,H b=some u->b≠a:=fun b u e=>aK e hn;refine⟨I.ok,I.os,I.bare,⟨I.base.keep,I.base.slot,fun b u e n hx=>?_,I.base.there,fun b xs e=>?_,fun b u xs e=>?_,fun b ps e=>?_⟩,I.loc,I.cell,?_,fun x c e=>?_,fun p q=>?_,fun b u e=>?_,I.len⟩
 ·rw[aC<|QL b u e];exact I.base.free b u e n hx
 ·have z:=I.base.dP b xs e;rw[aC<|rT b _ z];exact z
 ·have z:=I.base.fO b u xs e;rw[aC<|rT b _ z];exact z
 ·obtain⟨m,z⟩:=I.base.gB b ps e;exact⟨m,by rw[aC<|rT b _ z];exact z⟩
 ·rw[aC<|Ne.symm hL];exact I.free
 ·rw[aC<|hC x c e];exact I.ir x c e
 ·obtain⟨z1,z2,z3⟩:=I.pin p q;exact⟨z1,by rw[aC<|hp p q];exact z2,z3⟩
 ·by_cases hb:b=a
  ·subst hb;rw[aw] at e;cases e;exact new
  ·rw[aC hb] at e;exact(I.aE b u e).jP (fun _ _ _ q=>q) (fun c q=>by rw[aC<|rT c _ q];exact q) fun c xs q=>by rw[aC<|rT c _ q];exact q
end
def dv(cells:List (Str×Addr)):List (Str×NameKind)->List (Str×Addr)->List (Str×Addr)
 |[],acc=>acc
 |(n,k)::r,acc=>dv cells r (if k=.free then (n,(cells.lookup n).getD 0)::acc else acc)
theorem E8(env:Env):∀(names:List (Str×NameKind)) (acc:List (Str×Addr)),(∀y∈names,y.2=.free->∃c,env.cells.lookup y.1=some c)->
  (forIn names acc (fun(x:Str×NameKind) (cs:List (Str×Addr))=>match x with
   |(name,kind)=>if (kind==NameKind.free)=true then do let a <-cellOf env name;pure (ForInStep.yield ((name,a)::cs)) else pure (ForInStep.yield cs)):Sem (List (Str×Addr)))=pure (dv env.cells names acc)
 |[],acc,_=>rfl
 |(n,k)::r,acc,h=>by
  have hr:=fun y3=>E8 env r y3 fun y hy=>h y (zav _ hy);rw[List.forIn_cons];by_cases hk:k=.free
  ·subst hk;obtain⟨c,e⟩:=h (n,.free) zau rfl;have e':cellOf env n=pure c:=by unfold cellOf;rw[e]
   have ec:dv env.cells ((n,.free)::r) acc=dv env.cells r ((n,c)::acc):=by simp[dv,e]
   rw[ec,<-hr]
   simp[e']
  ·have hb:(k==NameKind.free)=false:=by simpa using hk
   have ec:dv env.cells ((n,k)::r) acc=dv env.cells r acc:=by simp[dv,hk]
   rw[ec,<-hr]
   simp[hb]
theorem QM{scope:Scope}{env:Env}(h:∀y∈scope.names,y.2=.free->∃c,env.cells.lookup y.1=some c):closureFor scope env=pure (dv env.cells scope.names []):=by
 have:=E8 env scope.names [] h
 simp only[closureFor]
 rw[<-this]
 simp
theorem E9{cells:List (Str×Addr)}:∀(names:List (Str×NameKind)) (acc:List (Str×Addr)) (x:Str) (c:Addr),(dv cells names acc).lookup x=some c->(acc.lookup x=some c)\/((x,.free)∈names/\(cells.lookup x).getD 0=c)
 |[],acc,x,c,h=>.inl h
 |(n,k)::r,acc,x,c,h=>by
  simp only[dv] at h
  rcases E9 r _ x c h with z|⟨z1,z2⟩
  ·by_cases hk:k=.free
   ·subst hk
    simp only[if_true] at z
    rw[zaW] at z;by_cases hx:x==n
    ·simp only[hx] at z
     have QN:x=n:=eq_of_beq hx;subst QN;exact .inr ⟨zau,zam z⟩
    ·have kN:(x==n)=false:=by simpa using hx
     simp only[kN] at z
     exact .inl z
   ·simp only[if_neg hk] at z
    exact .inl z
  ·exact .inr ⟨zav _ z1,z2⟩
theorem y4{cells:List (Str×Addr)}:∀(names:List (Str×NameKind)) (acc:List (Str×Addr)) (x:Str),((x,NameKind.free)∈names\/∃c,acc.lookup x=some c)->∃c,(dv cells names acc).lookup x=some c
 |[],acc,x,h=>by
  rcases h with h|h
  ·cases h
  ·exact h
 |(n,k)::r,acc,x,h=>by
  simp only[dv]
  refine y4 r _ x ?_;rcases h with h|⟨c,h⟩
  ·rcases zaa.mp h with e|h
   ·cases e;refine .inr ?_
    simp[zaW]
   ·exact .inl h
  ·refine .inr ?_;by_cases hk:k=.free
   ·simp only[if_pos hk,zaW]
    cases hx:x==n
    ·exact⟨c,h⟩
    ·exact⟨_,rfl⟩
   ·simp only[if_neg hk];exact⟨c,h⟩
theorem E_{env:Env}:∀(names:List (Str×NameKind)) (x:Str),
  (names.map fun(n,k)=>if (k==NameKind.free && env.scope.kind==.function && env.kindOf n==some .cell) then (n,NameKind.cell) else (n,k)).lookup x=
   (names.lookup x).map fun k=>if (k==NameKind.free && env.scope.kind==.function && env.kindOf x==some .cell) then NameKind.cell else k
 |[],_=>rfl
 |(n,k)::r,x=>by
  have ih:=E_ (env:=env) r x;show List.lookup x ((if (k==NameKind.free && env.scope.kind==.function && env.kindOf n==some .cell)=true then (n,NameKind.cell) else (n,k))::_)=_
  cases hx:x==n with
  |true=>
   have e:x=n:=eq_of_beq hx;subst e;by_cases hc:(k==NameKind.free && env.scope.kind==.function && env.kindOf x==some .cell)=true
   ·rw[if_pos hc];simp only[zaW,beq_self_eq_true,zbt];rw[if_pos hc]
   ·rw[if_neg hc];simp only[zaW,beq_self_eq_true,zbt];rw[if_neg hc]
  |false=>
   by_cases hc:(k==NameKind.free && env.scope.kind==.function && env.kindOf n==some .cell)=true
   ·rw[if_pos hc];simp only[zaW,hx];exact ih
   ·rw[if_neg hc];simp only[zaW,hx];exact ih
section
variable {prog:Program}{w:World}{A:Around}{R:Result->Shared->Prop}{s:Shared}
theorem QO{elt target iter:Expr}{ifs:List Expr}{scope:Scope}{pos:Pos}{it acc:Value}{env:Env}(I:Nat->Shared->Prop)
  (turn:∀n s,I n s->wpAny (model prog w) A (pyNext it) (fun r s₁=>match r with
   |none=>R (.ok .next) s₁
   |some v=>wpAny (model prog w) A (letOwnedTupleGo target it v) (fun _ Fb=>wpAny (model prog w) A (assign target env v) (fun _ s₂=>
     wpAny (model prog w) A (forIn ifs true fun c r=>if r=true then do let ok <-isTrue c env (eval c env);pure (ForInStep.yield ok) else pure (ForInStep.yield r)) (fun ok s₃=>
      if ok=true then wpAny (model prog w) A (eval elt env) (fun x s₄=>
       wpAny (model prog w) A (call (.builtin "list.append") [acc,x]) (fun _ s₅=>∃m,m<n/\I m s₅) (fun _ _=>False) s₄) (fun _ _=>False) s₃
      else ∃m,m<n/\I m s₃) (fun _ _=>False) s₂) (fun _ _=>False) Fb) (fun _ _=>False) s₁) (fun _ _=>False) s)
  (n:Nat) (h:I n s):codeAny (model prog w) A (.compLoop (.ListComp elt [⟨target,iter,ifs,0⟩] scope pos) 0 it acc env) R s:=by
 refine codeAny_loop rfl I (fun n s hI=>?_) n h;show wpAny _ A ((compTurn (.ListComp elt [⟨target,iter,ifs,0⟩] scope pos) 0 it acc env).onRaise (fun x=>do noteFrame x env;theTreesLotGoes x)) _ _ s
 refine wpAny_noted ?_;rw[compTurn_list];refine wpAny_bind<|wpAny_standAt<|wpAny_bind<|wpAny_mono (turn n s hI) (fun r s₁ h₁=>?_) fun _ _ h'=>h'.elim;cases r with
 |none=>exact wpAny_pure h₁
 |some v=>
  refine wpAny_bind<|wpAny_mono h₁ (fun _ Fb QP=>?_) fun _ _ h'=>h'.elim;refine wpAny_bind<|wpAny_mono QP (fun _ s₂ h₂=>wpAny_bind<|wpAny_mono h₂ (fun ok s₃ h₃=>?_) fun _ _ h'=>h'.elim) fun _ _ h'=>h'.elim;cases ok with
  |false=>exact wpAny_pure ⟨rfl,h₃⟩
  |true=>
   exact wpAny_bind<|wpAny_bind<|wpAny_mono h₃ (fun x s₄ h₄=>wpAny_bind<|wpAny_mono h₄ (fun _ s₅ h₅=>wpAny_pure<|wpAny_pure ⟨rfl,h₅⟩) fun _ _ h'=>h'.elim) fun _ _ h'=>h'.elim
end
def gH(X:Cx)(scope:Scope)(N:List Str)(ex:List Addr)(C:Addr)(s:Shared)(H:Hp):Cx where
 prog:=X.prog
 w:=X.w
 K:=X.K
 mg:=X.mg
 base:=X.base
 A:=X.A
 N:=N
 s₀:=s
 H₀:=H
 env:=compEnvC scope (dv X.env.cells scope.names []) C X.env
 outer:=X.stack
 stack:=X.stack
 ex:=ex
 fn:=fun _=>false
 calm:=X.calm
 pn:=[]
 xe:=fun _ _=>False
structure jq (X:Cx) (scope:Scope) (ln:List Str) (fv:List (Str×Nat)):Prop where
 kind:scope.kind=.function
 Fc:∀y∈scope.names,y.2≠ .cell
 locals:∀y∈scope.names,y.2=.local->scope.names.lookup y.1=some .local
 free:∀y∈scope.names,y.2=.free->(X.env.kindOf y.1=some .cell\/X.env.kindOf y.1=some .free)
 QR:∀p∈fv,X.N[p.2]?=some p.1/\scope.names.lookup p.1=some .free
def bX(σ:St)(fv:List (Str×Nat)):St:=fv.map fun p=>(σ[p.2]?).join
def iB(K:Frag):Option Nat->V->Hp->(List V->Prop)->Prop
 |none,x,_,Q=>Q [x]
 |some n,x,H,Q=>if n=102 then ∃a xs,x=.ref a/\au K H a xs/\xs.length=2/\Q xs else ∃a xs,x=.ref a/\aD K H a xs/\xs.length=n/\Q xs
theorem QS{K:Frag}{n:Nat}{x:V}{H:Hp}{P Q:List V->Prop}(h:iB K (some n) x H P)(k:∀xs,P xs->Q xs):iB K (some n) x H Q:=by
 by_cases e:n=102
 ·have h:if n=102 then ∃a xs,x=.ref a/\au K H a xs/\xs.length=2/\P xs else ∃a xs,x=.ref a/\aD K H a xs/\xs.length=n/\P xs:=h
  show if n=102 then ∃a xs,x=.ref a/\au K H a xs/\xs.length=2/\Q xs else ∃a xs,x=.ref a/\aD K H a xs/\xs.length=n/\Q xs
  rw[if_pos e] at h⊢;obtain⟨a,xs,e1,e2,e3,q⟩:=h;exact⟨a,xs,e1,e2,e3,k _ q⟩
 ·have h:if n=102 then ∃a xs,x=.ref a/\au K H a xs/\xs.length=2/\P xs else ∃a xs,x=.ref a/\aD K H a xs/\xs.length=n/\P xs:=h
  show if n=102 then ∃a xs,x=.ref a/\au K H a xs/\xs.length=2/\Q xs else ∃a xs,x=.ref a/\aD K H a xs/\xs.length=n/\Q xs
  rw[if_neg e] at h⊢;obtain⟨a,xs,e1,e2,e3,q⟩:=h;exact⟨a,xs,e1,e2,e3,k _ q⟩
def jr:Option TT->TT
 |none=>fun _ H k=>k true H
 |some t=>t
def nY(K:Frag)(wi:TI)(tk:Option Nat)(fv:List (Str×Nat))(tc:Option TT)(te:TE):TE:=fun σ H Q=>
 wi σ H fun J H1=>∃W:Nat->Nat->List V->Hp->Prop,(∃m,W 0 m [] H1)/\∀i m ys H2,W i m ys H2->
  (J.stop i H2/\∀p,H2 p=none->Q (.ref p) (upd H2 p<|.lst ys))\/
  (J.go i H2/\∀x H3,J.eQ i H2 x H3->iB K tk x H3 fun xs=>
   jr tc (xs.map some++bX σ fv) H3 fun b H5=>
    if b=true then te (xs.map some++bX σ fv) H5 fun y H6=>ys.length<sizeLine/\∃m',m'<m/\W (i+1) m' (ys++[y]) H6
    else ∃m',m'<m/\W (i+1) m' ys H5)
section
variable {X:Cx}{pins:List (Addr×Obj)}{σ:St}{H:Hp}{s₂ s₃:Shared}{scope:Scope}{ln:List Str}{fv:List (Str×Nat)}{fp:List Addr}{h₁:Heap}{D C:Addr}{m:Str->Option Value}{t:Nat}
theorem jq.cells(S:jq X scope ln fv)(I:Inv X pins σ H s₂){x:Str}{c:Addr}(h:(dv X.env.cells scope.names []).lookup x=some c):X.env.cells.lookup x=some c/\(x,NameKind.free)∈scope.names:=by
 rcases E9 _ _ _ _ h with z|⟨z1,z2⟩
 ·cases z
 ·obtain⟨c',e⟩:=I.ok.has x (S.free _ z1 rfl);rw[e] at z2;have z3:c'=c:=z2;subst z3;exact⟨e,z1⟩
theorem jq.Fd(S:jq X scope ln fv)(I:Inv X pins σ H s₂):closureFor scope X.env=pure (dv X.env.cells scope.names []):=
 QM fun y hy hk=>I.ok.has y.1 (S.free y hy hk)
theorem QU(S:jq X scope ln fv)(I:Inv X pins σ H s₂)(f2:∀b∈fp,iV X pins H b)(rV:∀b∈fp,∃o,s₂.heap.get? b=some o)
  (os:s₃.os=s₂.os) (gens:s₃.gens=s₂.gens) (k3:∀b o,s₂.heap.get? b=some o->s₃.heap.get? b=some o) (hD:D=s₂.heap.objs.size) (h3:s₃.heap.objs.size=s₂.heap.objs.size+1) (hC:C=s₃.heap.objs.size)
  (k4:∀b o,s₃.heap.get? b=some o->h₁.get? b=some o) (vC:h₁.Ns C m):
  Inv (gH X scope (ln++fv.map (·.1)) (D::fp) C s₃ H) [] (ln.map (fun _=>none)++bX σ fv) H {s₃ with heap:=h₁,toks:=t}:=by
 have cl:∀{x c},(dv X.env.cells scope.names []).lookup x=some c->X.env.cells.lookup x=some c:=fun h=>(S.cells I h).1;have QV:∀{x c},(dv X.env.cells scope.names []).lookup x=some c->c<s₂.heap.objs.size:=fun h=>by
  obtain⟨v,q⟩:=I.cell _ _ (cl h);exact q.lt
 have QW:∀b∈fp,b<s₂.heap.objs.size:=fun b hb=>by obtain⟨o,e⟩:=rV b hb;exact Heap.lt_size e
 have QX:∀b∈D::fp,b<=s₂.heap.objs.size:=fun b hb=>by
  rcases zaa.mp hb with e|hb
  ·rw[e,hD];exact zqR _
  ·exact Nat.le_of_lt (QW b hb)
 have Fe:∀x,(relabel scope X.env).names.lookup x=(scope.names.lookup x).map fun k=>if (k==NameKind.free && X.env.scope.kind==.function && X.env.kindOf x==some .cell) then NameKind.cell else k:=fun x=>E_ scope.names x
 have QY:∀x,scope.names.lookup x=some .free->((relabel scope X.env).names.lookup x=some .cell\/(relabel scope X.env).names.lookup x=some .free):=fun x e=>by
  rw[Fe,e]
  simp only[zbt]
  split
  ·exact .inl rfl
  ·exact .inr rfl
 have QZ:∀x,((relabel scope X.env).names.lookup x=some .cell\/(relabel scope X.env).names.lookup x=some .free)->(x,NameKind.free)∈scope.names:=fun x e=>by
  rw[Fe] at e;cases q:scope.names.lookup x with
  |none=>rw[q] at e;rcases e with e|e<;>cases e
  |some k=>
   rw[q] at e;have hm:(x,k)∈scope.names:=PySem.mem_of_lookup q
   simp only[zbt] at e
   by_cases hk:k=.free
   ·rw[hk] at hm;exact hm
   ·have hb:(k==NameKind.free)=false:=by simpa using hk
    simp only[hb,Bool.false_and,zbu,if_false] at e
    rcases e with e|e
    ·exact absurd (zam e) (S.Fc _ hm)
    ·exact absurd (zam e) hk
 refine⟨⟨I.ok.mod,S.kind,I.ok.glob,I.ok.blt,zbi hC.symm,fun x y c h1 h2=>I.ok.inj x y c (cl h1) (cl h2),fun x hx=>y4 _ _ x (.inl (QZ x hx)),fun x c h _=>(by cases h),I.ok.hd,I.ok.frames,.inl rfl,fun b hb=>⟨?_,fun x c e=>?_⟩,fun b o e=>⟨k3 b o (I.bs b o e).1,(I.bs b o e).2⟩,?_,fun b o e hb=>?_,fun b hb hf=>?_,?_,I.uZ⟩,
  rfl,?_,Un.kept fun b u e=>k4 b u e,⟨m,vC,fun i x v e1 e2 e3=>?_⟩,fun x c e=>?_,I.aE.fresh ?_,fun x c e=>I.ir x c (cl e),fun p hp=>absurd (show p∈ ([]:List (Addr×Obj)) from hp) (by simp),I.aE.kept fun b u e=>k4 b u (k3 b u e),?_⟩
 ·show b≠C;have:=QX b hb;rw[hC,h3];exact zal (Nat.lt_succ_of_le this)
 ·have q1:=QV e;rcases zaa.mp hb with z|z
  ·rw[z,hD];exact zal q1
  ·exact(f2 b z).2.2.2.2.1 x c (cl e)
 ·show X.base.objs.size<=s₃.heap.objs.size;have:=zas I.ok.nE I.sz;lia
 ·have e2:=(I.bs b o e).1;have iC:b∈D::fp:=hb;rcases zaa.mp iC with z|z
  ·have:=Heap.lt_size e2;rw[z,hD] at this;exact zaD _ this
  ·rcases (f2 b z).2.2.2.1 with q|q
   ·exact I.ok.uW b o e q
   ·exact absurd (zat (Heap.lt_size (I.ok.bs b o e).1) q) (zaD _)
 ·have Ff:b∈bx X.stack:=hf;have iC:b∈D::fp:=hb;rcases zaa.mp iC with z|z
  ·rcases zaa.mp (I.uY b Ff) with q|q
   ·have:=I.lt;rw[<-q,z,hD] at this;exact zaD _ this
   ·exact I.DB (by rw[z,hD];exact zqR _) q
  ·rcases zaa.mp (I.uY b Ff) with q|q
   ·exact(f2 b z).2.1 q
   ·exact(f2 b z).2.2.1 q
 ·exact PySem.Heap.FunFrames.of_keeps (fun b o e _=>⟨o,k3 b o e,rfl⟩) I.stack
 ·show AllBare s₃.gens;rw[gens];exact I.bare
 ·have hi:ln.length<=i:=by
   by_cases hi:i<ln.length
   ·exfalso
    rw[zba (by simpa using hi),zaj] at e2
    cases q:ln[i]? with
    |none=>rw[q] at e2;cases e2
    |some y=>rw[q] at e2;cases e2
   ·lia
  have nZ:(ln++fv.map (·.1))[i]?=some x:=e1;rw[zaS hi,zaj] at nZ;rw[zaS (by simpa using hi),zac] at e2
  unfold bX at e2;rw[zaj] at e2;cases q:fv[i - ln.length]? with
  |none=>rw[q] at nZ;cases nZ
  |some p=>
   rw[q] at nZ e2;have ex:p.1=x:=zam nZ;have ev:(σ[p.2]?).join=some v:=zam e2;obtain⟨g1,g2⟩:=S.QR p (zar q);rw[ex] at g1 g2;have Q0:σ[p.2]?=some (some v):=by
    cases z:σ[p.2]? with
    |none=>rw[z] at ev;cases ev
    |some o=>rw[z] at ev;rw[show o=some v from ev]
   have hk:=S.free _ (PySem.mem_of_lookup g2) rfl;obtain⟨m2,rG,hl⟩:=I.loc;obtain⟨u,r,l⟩:=hl p.2 x v g1 Q0 (by rcases hk with k|k;exact .inr (.inl k);exact .inr (.inr k))
   refine⟨u,r,.inr ?_⟩;rcases l with⟨k,_⟩|⟨_,c,ec,z⟩
   ·rcases hk with k'|k'<;>(rw[k] at k';cases k')
   ·refine⟨QY x g2,c,?_,?_⟩
    ·obtain⟨c',e'⟩:=y4 (cells:=X.env.cells) scope.names [] x (.inl<|PySem.mem_of_lookup g2);have:=cl e';rw[ec] at this;cases this;exact e'
    ·obtain⟨o,ho,hd⟩:=z;exact⟨o,k4 c o<|k3 c o ho,hd⟩
 ·obtain⟨v,o,ho,hd⟩:=I.cell x c (cl e);exact⟨v,o,k4 c o<|k3 c o ho,hd⟩
 ·show s₂.heap.objs.size<=C;rw[hC,h3];exact Nat.le_succ _
 ·show(ln.map (fun _=>none)++bX σ fv).length=(ln++fv.map (·.1)).length
  simp[bX]
end
structure Fg (Φ:Cx->Prop) (P:Program) (w:World) (K:Frag) (tg:Expr) (J:It) (fp:List Addr) (it:Addr) (tn:Nat->Heap->Prop):Prop where
 mem:it∈fp
 obj:∀i h,tn i h->∀b∈fp,∃o,h.get? b=some o/\∀v,o.data≠ .cell v
 keep:∀i h h',tn i h->(∀b∈fp,∀o,h.get? b=some o->h'.get? b=some o)->tn i h'
 item:∀(X:Cx),X.prog=P->X.w=w->X.K=K->Φ X->∀(i:Nat) (pins:List (Addr×Obj)) (s:Shared) (σ:St) (H:Hp) (E:Value->Shared->Prop),Inv X pins σ H s->(∀b∈fp,iV X pins H b)->tn i s.heap->J.go i H->
  wpAny (model P w) X.A (pyNext (.ref it)) (fun r s1=>∃u,r=some u/\
   wpAny (model P w) X.A (letOwnedTupleGo tg (.ref it) u) (fun _ s2=>∃x H',Inv X pins σ H' s2/\RelV x u/\J.eQ i H x H'/\tn (i+1) s2.heap/\∀b∈fp,H' b=none) E s1) E s
 done:∀(X:Cx),X.prog=P->X.w=w->X.K=K->Φ X->∀(i:Nat) (pins:List (Addr×Obj)) (s:Shared) (σ:St) (H:Hp) (E:Value->Shared->Prop),Inv X pins σ H s->(∀b∈fp,iV X pins H b)->tn i s.heap->J.stop i H->
  wpAny (model P w) X.A (pyNext<|.ref it) (fun r s1=>r=none/\Inv X pins σ H s1) E s
 self:∀(A:Around) (i:Nat) (s:Shared) (Q:Value->Shared->Prop) (E:Value->Shared->Prop),tn i s.heap->Q (.ref it) s->wpAny (model P w) A (pyIter<|.ref it) Q E s
def y6(Φ:Cx->Prop)(X:Cx)(tg iter:Expr)(wi:TI):Prop:=
 ∀(pins:List (Addr×Obj)) (s:Shared) (σ:St) (H:Hp) (R:It->Hp->Prop),Inv X pins σ H s->wi σ H R->
  wpAny (model X.prog X.w) X.A (eval iter X.env) (fun v s1=>wpAny (model X.prog X.w) X.A (pyIter v) (fun nH s2=>
   ∃(it:Addr) (fp:List Addr) (tn:Nat->Heap->Prop) (J:It) (H':Hp),nH=.ref it/\Inv X pins σ H' s2/\Fg Φ X.prog X.w X.K tg J fp it tn/\tn 0 s2.heap/\(∀b∈fp,iV X pins H' b)/\R J H') X.xe s1) X.xe s
abbrev Calm(X:Cx):Prop:=X.calm=true
theorem PI.p{X:Cx}{tg iter:Expr}{wi:TI}(h:PI X tg iter wi):y6 Calm X tg iter wi:=fun pins s σ H R I q=>
 aL (h pins s σ H R I q) fun v s1 h1=>aL h1 fun nH s2 ⟨it,fp,tn,J,H',e,I',T,st,f,r⟩=>⟨it,fp,tn,J,H',e,I',⟨T.mem,T.obj,T.keep,T.item,T.done,T.self⟩,st,f,r⟩
section
variable {X:Cx}{pins:List (Addr×Obj)}{σ:St}{H:Hp}{s₂:Shared}{scope:Scope}{ln:List Str}{fv:List (Str×Nat)}{elt tg iter:Expr}{ifs:List Expr}{pos:Pos}
 {J:It}{fp:List Addr}{it:Addr}{tn:Nat->Heap->Prop}{tk:Option Nat}{tc:Option TT}{te:TE}{Qv:VK}{RR:Value->Addr->Result->Shared->Prop}{E:Value->Shared->Prop}
def y7(Ψ:Hp->Prop)(X:Cx)(scope:Scope)(ln:List Str)(fv:List (Str×Nat))(tg:Expr)(tk:Option Nat):Prop:=
 ∀(ex:List Addr) (C:Addr) (s:Shared) (H:Hp),Ψ H->∃g,PG (gH X scope (ln++fv.map (·.1)) ex C s H) tg g/\
  ∀(x:V) (pre φ:St) (H':Hp) (Q:St->Hp->Prop),pre.length=ln.length->iB X.K tk x H' (fun xs=>xs.length=ln.length->Q (xs.map some++φ) H')->g x (pre++φ) H' Q
def rW(X:Cx)(scope:Scope)(ln:List Str)(fv:List (Str×Nat))(tg:Expr)(tk:Option Nat):Prop:=
 ∀(ex:List Addr) (C:Addr) (s:Shared) (H:Hp),∃g,PG (gH X scope (ln++fv.map (·.1)) ex C s H) tg g/\
  ∀(x:V) (pre φ:St) (H':Hp) (Q:St->Hp->Prop),pre.length=ln.length->iB X.K tk x H' (fun xs=>xs.length=ln.length->Q (xs.map some++φ) H')->g x (pre++φ) H' Q
def rX(X:Cx)(scope:Scope)(N:List Str)(ifs:List Expr)(tc:Option TT):Prop:=
 match tc with
 |none=>ifs=[]
 |some t=>∃c,ifs=[c]/\∀(ex:List Addr) (C:Addr) (s:Shared) (H:Hp),PT (gH X scope N ex C s H) c t
theorem Fh{Φ:Cx->Prop}{Ψ:Hp->Prop}(S:jq X scope ln fv)(hc:∀Xc:Cx,Xc.A=X.A->Xc.calm=X.calm->Xc.H₀=H->Φ Xc)(hΨ:Ψ H)(hg:y7 Ψ X scope ln fv tg tk)(ht:rX X scope (ln++fv.map (·.1)) ifs tc)
  (he:∀(ex:List Addr) (C:Addr) (s:Shared) (H:Hp),PE (gH X scope (ln++fv.map (·.1)) ex C s H) elt te)
  (I:Inv X pins σ H s₂) (T:Fg Φ X.prog X.w X.K tg J fp it tn) (st:tn 0 s₂.heap) (f2:∀b∈fp,iV X pins H b)
  (h:∃W:Nat->Nat->List V->Hp->Prop,(∃m,W 0 m [] H)/\∀i m ys H2,W i m ys H2->
   (J.stop i H2/\∀p,H2 p=none->Qv (.ref p) (upd H2 p<|.lst ys))\/
   (J.go i H2/\∀x H3,J.eQ i H2 x H3->iB X.K tk x H3 fun xs=>
    jr tc (xs.map some++bX σ fv) H3 fun b H5=>
     if b=true then te (xs.map some++bX σ fv) H5 fun y H6=>ys.length<sizeLine/\∃m',m'<m/\W (i+1) m' (ys++[y]) H6
     else ∃m',m'<m/\W (i+1) m' ys H5))
  (Q2:∀D C H' s' m,Inv X pins σ H' s'->s'.heap.Ns C m->H' C=none->C≠X.env.locals->X.s₀.heap.objs.size<=C->(∀x c,X.env.cells.lookup x=some c->c≠C)->(∀p∈X.pn++pins,p.1≠C)->Qv (.ref D) H'->RR (.ref D) C (.ok .next) s'):
  wpAny (model X.prog X.w) X.A (newList []) (fun acc s₃=>wpAny (model X.prog X.w) X.A (newFunctionEnv scope X.env.globals (dv X.env.cells scope.names []) [] X.env.qual none .none (some X.env)) (fun Fi s₄=>
   codeAny (model X.prog X.w) X.A (.compStart (.ListComp elt [⟨tg,iter,ifs,0⟩] scope pos) 0 (.ref it) acc {Fi with scope:=relabel scope X.env}) (RR acc Fi.locals) s₄) E s₃) E s₂:=by
 obtain⟨W,⟨m0,w0⟩,turn⟩:=h;refine wpAny_newObj_type<|wpAny_newFunctionEnv S.Fc (by intro y hy;simp at hy) (fun h₁ vF vG=>?_) S.kind
 dsimp only at vF vG⊢
 generalize vH:({s₂ with heap:=s₂.heap.push {cls:=.type "list",dict:=none,data:=.seq ([]:List Value).toArray}}:Shared)=s₃
 have rY:s₂.heap.push {cls:=.type "list",dict:=none,data:=.seq ([]:List Value).toArray}=s₃.heap:=by rw[<-vH]
 rw[rY] at vF vG⊢;have Fj:s₃.os=s₂.os:=by rw[<-vH]
 have Q3:s₃.gens=s₂.gens:=by rw[<-vH]
 have n_:s₃.heap.objs.size=s₂.heap.objs.size+1:=by rw[<-rY,Heap.size_push]
 have k3:∀b o,s₂.heap.get? b=some o->s₃.heap.get? b=some o:=fun b o e=>by rw[<-rY];exact Heap.get?_push_of_some _ e
 have k4:∀b o,s₃.heap.get? b=some o->h₁.get? b=some o:=fun b o e=>vG.extBut b o (zal<|Heap.lt_size e) (Heap.get?_push_of_some _ e);have gD:s₃.heap.get? s₂.heap.objs.size=some {cls:=.type "list",dict:=none,data:=.seq ([]:List Value).toArray}:=by rw[<-rY];exact Heap.get?_push_size _ rfl
 generalize eD:s₂.heap.objs.size=D at gD;generalize eC:s₃.heap.objs.size=C at vF vG⊢;have vI:D≠C:=by rw[<-eD,<-eC,n_];exact zal (Nat.lt_succ_self _)
 have rV:∀b∈fp,∃o,s₂.heap.get? b=some o:=fun b hb=>by obtain⟨o,e,_⟩:=T.obj 0 _ st b hb;exact⟨o,e⟩
 have Fl:∀b∈fp,b≠D:=fun b hb=>by obtain⟨o,e⟩:=rV b hb;rw[<-eD];exact zal (Heap.lt_size e)
 have Q4:∀b∈fp,b≠C:=fun b hb=>by
  obtain⟨o,e⟩:=rV b hb;have:=Heap.lt_size e;rw[<-eC,n_];exact zal (zbv this)
 generalize eX:gH X scope (ln++fv.map (·.1)) (D::fp) C s₃ H=Xc;have I4:∀t,Inv Xc [] (ln.map (fun _=>none)++bX σ fv) H {s₃ with heap:=h₁,toks:=t}:=fun t=>by
  rw[<-eX];exact QU S I f2 rV Fj Q3 k3 eD.symm n_ eC.symm k4 vF
 have xL:Xc.env.locals=C:=by rw[<-eX];rfl
 have vJ:Xc.ex=D::fp:=by rw[<-eX];rfl
 have Q5:Xc.fs=bx X.stack:=by rw[<-eX];rfl
 have xP:Xc.prog=X.prog:=by rw[<-eX];rfl
 have xw:Xc.w=X.w:=by rw[<-eX];rfl
 have xK:Xc.K=X.K:=by rw[<-eX];rfl
 have xA:Xc.A=X.A:=by rw[<-eX];rfl
 have xc:Φ Xc:=hc Xc xA (by rw[<-eX];rfl) (by rw[<-eX];rfl)
 have Fm:Xc.pn=[]:=by rw[<-eX];rfl
 have y8:Xc.xe=fun _ _=>False:=by rw[<-eX];rfl
 have Fn:Xc.env.cells=dv X.env.cells scope.names []:=by rw[<-eX];rfl
 have y9:Xc.env=compEnvC scope (dv X.env.cells scope.names []) C X.env:=by rw[<-eX];rfl
 have cD:∀x c,Xc.env.cells.lookup x=some c->c≠D:=fun x c e=>by
  rw[Fn] at e;obtain⟨v,q⟩:=I.cell x c (S.cells I e).1;rw[<-eD];exact zal q.lt
 have cF:∀x c,Xc.env.cells.lookup x=some c->∀b∈fp,c≠b:=fun x c e b hb=>by
  rw[Fn] at e;exact(f2 b hb).2.2.2.2.1 x c (S.cells I e).1
 have sF:∀b∈D::fp,b∉Xc.fs:=fun b hb hf=>by
  have:=(I4 0).ok.uX b (by rw[vJ];exact hb)
  exact this hf
 have nI:∀{H':Hp}{oD:Obj},(∀b∈fp,H' b=none)->∀b∈fp,iV Xc [(D,oD)] H' b:=fun hn b hb=>
  ⟨hn b hb,by rw[xL];exact Q4 b hb,sF b (zav _ hb),.inl (by rw[vJ];exact zav _ hb),fun x c e=>cF x c e b hb,fun p hp=>by
   rw[Fm] at hp;rcases zag.mp (show p∈ [(D,_)] from hp) with rfl
   exact(Fl b hb).symm⟩
 have loop:∀s₄:Shared,s₄={s₃ with heap:=h₁,toks:=s₃.toks+([]:List (Str×Value)).length}->
   codeAny (model X.prog X.w) X.A (.compLoop (.ListComp elt [⟨tg,iter,ifs,0⟩] scope pos) 0 (.ref it) (.ref D)<|compEnvC scope (dv X.env.cells scope.names []) C X.env) (RR (.ref D) C) s₄:=by
  rintro s₄ rfl;refine QO (fun n s'=>∃i pre ys ah nn H',Inv Xc [(D,{cls:=.type "list",data:=.seq (List.toArray ah) nn})] (pre++bX σ fv) H' s'/\pre.length=ln.length/\tn i s'.heap/\(∀b∈fp,H' b=none)/\Vals ys ah/\ys.length<=sizeLine/\W i n ys H') ?_ m0
   ⟨0,ln.map<|fun _=>none,[],[],0,H,(I4 _).pM<|fun p hp=>?_,by simp,T.keep 0 _ _ st<|fun b _ o e=>k4 b o<|k3 b o e,fun b hb=>(f2 b hb).1,.nil,zqZ _,w0⟩
  rotate_left
  ·have pW:=zag.mp hp;subst pW;refine⟨k4 _ _ gD,I.aE.fresh<|zbi eD,by rw[xL];exact vI,sF D zau,fun v z=>by cases z⟩
  rintro n s' ⟨i,pre,ys,ah,nn,H',I',kJ,jm,Fo,hv,hz,w'⟩;have adE:=I'.pin (D,_) (zaq _ zau);rcases turn i n ys H' w' with⟨stop,qn⟩|⟨go,step⟩
  ·have td:=T.done Xc xP xw xK xc i _ s' _ H' (fun _ _=>False) I' (nI Fo) jm stop;rw[xA] at td;refine aL td fun r s1 ⟨hr,I1⟩=>?_;subst hr;have y_:=I1.pin (D,_) (zaq _ zau);have b1:=I1.base;rw[Q5,vJ] at b1;have Fp:Xc.s₀=s₃:=by rw[<-eX];rfl
   have Q6:Xc.H₀=H:=by rw[<-eX];rfl
   rw[Fp,Q6] at b1;have nD:∀b o,s₂.heap.get? b=some o->b∉fp->b∉D::fp:=fun b o e hb hm=>by
    rcases zaa.mp hm with z|z
    ·have:=Heap.lt_size e;rw[z,eD] at this;exact zaD _ this
    ·exact hb z
   have un:Un (bx X.stack) fp H H' s₂.heap s1.heap:=⟨fun b o e nb hb hx=>b1.keep b o (k3 b o e) nb hb (nD b o e hx),fun b o e nb hb hx=>b1.slot b o (k3 b o e) nb hb (nD b o e hx),fun b o e nb hx=>b1.free b o (k3 b o e) nb (nD b o e hx),
    fun b o e hx=>b1.there b o (k3 b o e) (nD b o e hx),b1.dP,b1.fO,b1.gB⟩
   have Q7:s1.os=s₂.os:=by rw[I1.os,Fp,Fj]
   have Fq:=I1.aE;rw[xP,xw] at Fq;have J1:Inv X pins σ H' s1:=I.yn Q7 un Fq I1.bare fun b hb=>⟨(f2 b hb).2.2.2.1,(f2 b hb).2.1,(f2 b hb).2.2.2.2.1,(f2 b hb).2.2.2.2.2⟩;have Q8:∀x c,X.env.cells.lookup x=some c->c≠D:=fun x c e=>by
    obtain⟨v,q⟩:=I.cell x c e;rw[<-eD];exact zal q.lt
   have Q9:∀x c,X.env.cells.lookup x=some c->c≠C:=fun x c e=>by
    obtain⟨v,q⟩:=I.cell x c e;rw[<-eC,n_];exact zal (zbv q.lt)
   have pD:∀p∈X.pn++pins,p.1≠D:=fun p hp=>by rw[<-eD];exact zal (Heap.lt_size (I.pin p hp).1)
   have pC:∀p∈X.pn++pins,p.1≠C:=fun p hp=>by
    rw[<-eC,n_];exact zal (zbv<|Heap.lt_size (I.pin p hp).1)
   have lD:D≠X.env.locals:=by rw[<-eD];exact Nat.ne_of_gt I.lt
   have lC:C≠X.env.locals:=by
    rw[<-eC,n_];exact Nat.ne_of_gt (zbv I.lt)
   have J2:Inv X pins σ (upd H' D<|.lst ys) s1:=Inv.E7 J1 y_.2.1 (by rw[<-eD];exact I.sz) lD Q8 pD ⟨hz,ah,nn,hv,y_.1⟩
   obtain⟨mC,Fs,_⟩:=I1.loc;rw[xL] at Fs;have fC:H' C=none:=by have:=I1.free;rw[xL] at this;exact this
   exact Q2 D C _ s1 mC J2 Fs (by rw[aC<|Ne.symm vI];exact fC) lC (by rw[<-eC,n_];exact Nat.le_succ_of_le I.sz) Q9 pC<|qn D y_.2.1
  ·have ti:=T.item Xc xP xw xK xc i _ s' _ H' (fun _ _=>False) I' (nI Fo) jm go;rw[xA] at ti;refine aL ti fun r s4 ⟨u,hr,h4⟩=>?_;subst hr;refine aL h4 fun _ s5 ⟨x,H5,I5,r5,y5,nJ,yz⟩=>?_;have rE:=I5.pinned (nI yz) (T.obj _ _ nJ);obtain⟨g,pg,gq⟩:=hg (D::fp) C s₃ H hΨ;rw[eX] at pg;have rd:=step x H5 y5;have Ft:=pg _ s5 _ H5 x u (fun σ6 H6=>∃xs:List V,σ6=xs.map some++bX σ fv/\xs.length=ln.length/\H6=H5/\
     jr tc (xs.map some++bX σ fv) H5 fun b H5=>
     if b=true then te (xs.map some++bX σ fv) H5 fun y H6=>ys.length<sizeLine/\∃m',m'<n/\W (i+1) m' (ys++[y]) H6
     else ∃m',m'<n/\W (i+1) m' ys H5) rE r5 (gq x pre (bX σ fv) H5 _ kJ (by
      cases tk with
      |none=>exact fun hl=>⟨_,rfl,hl,rfl,rd⟩
      |some k=>exact QS rd fun xs rd hl=>⟨xs,rfl,hl,rfl,rd⟩))
   rw[xA,xP,xw,y8,y9] at Ft;refine aL Ft fun _ s6 ⟨σ6,H6,I6,xs,e6,kO,eH,Fu⟩=>?_;subst e6 eH;have Fv:∀{H7:Hp}{σ7:St}{s7:Shared},Inv Xc ([(D,{cls:=.type "list",data:=.seq (List.toArray ah) nn})]++pP fp s5.heap) σ7 H7 s7->tn (i+1) s7.heap/\(∀b∈fp,H7 b=none)/\s7.heap.get? D=some {cls:=.type "list",data:=.seq (List.toArray ah) nn}/\H7 D=none:=fun {H7 σ7 s7} I7=>by
    refine⟨T.keep _ _ _ nJ fun b hb o e=>(I7.pin (b,o)<|zaq _<|zaq _<|vg hb e).1,fun b hb=>?_,?_,?_⟩
    ·obtain⟨o,e,d⟩:=T.obj _ _ nJ b hb;exact(I7.pin (b,o)<|zaq _<|zaq _<|vg hb e).2.1
    ·exact(I7.pin (D,_)<|zaq _<|zaK _ zau).1
    ·exact(I7.pin (D,_)<|zaq _<|zaK _ zau).2.1
   have tests:wpAny (model X.prog X.w) X.A (forIn ifs true fun c r=>if r=true then do let ok <-isTrue c (compEnvC scope (dv X.env.cells scope.names []) C X.env) (eval c<|compEnvC scope (dv X.env.cells scope.names []) C X.env);pure (ForInStep.yield ok) else pure (ForInStep.yield r))
     (fun ok s7=>∃H7,Inv Xc ([(D,{cls:=.type "list",data:=.seq (List.toArray ah) nn})]++pP fp s5.heap) (xs.map some++bX σ fv) H7 s7/\
      if ok=true then te (xs.map some++bX σ fv) H7 fun y H6=>ys.length<sizeLine/\∃m',m'<n/\W (i+1) m' (ys++[y]) H6
      else ∃m',m'<n/\W (i+1) m' ys H7) (fun _ _=>False) s6:=by
    cases tc with
    |none=>
     have za:ifs=[]:=ht;subst za;exact wpAny_tests_nil ⟨_,I6,Fu⟩
    |some t=>
     obtain⟨c,za,pt⟩:=(show ∃c,ifs=[c]/\∀(ex:List Addr) (C:Addr) (s:Shared) (H:Hp),PT (gH X scope (ln++fv.map (·.1)) ex C s H) c t from ht)
     subst za;have Fw:=pt (D::fp) C s₃ H;rw[eX] at Fw;have q:=Fw _ s6 _ _ _ I6 Fu;rw[xA,xP,xw,y8,y9] at q;exact wpAny_tests_one<|aL q fun b s7 ⟨H7,I7,q7⟩=>⟨H7,I7,q7⟩
   refine aL tests fun ok s7 ⟨H7,I7,q7⟩=>?_;cases ok with
   |false=>
    simp only[zbu,if_false] at q7⊢
    obtain⟨m',hm,w7⟩:=q7;obtain⟨t7,f7,d7,n7⟩:=Fv I7;refine⟨m',hm,i+1,xs.map some,ys,ah,nn,H7,I7.pM<|fun p hp=>?_,by simpa using kO,t7,f7,hv,hz,w7⟩
    exact I7.pin p<|zaq _<|zaK _ hp
   |true=>
    simp only[if_true] at q7⊢
    have q:=he (D::fp) C s₃ H;rw[eX] at q;have q:=q _ s7 _ H7 _ I7 q7;rw[xA,xP,xw,y8,y9] at q;refine aL q fun uy s8 ⟨y,H8,I8,r8,a_,m',hm,w8⟩=>?_;obtain⟨t8,f8,d8,n8⟩:=Fv I8;have hl:=hv.length;refine call_meets F.slot_list_append ⟨_,d8,rfl⟩ F.entry_list_append (F.args_list_append_2 _ _) (PySem.list_append D ah.toArray nn uy (by rw[zah];lia)) ⟨d8,?_⟩
    have I9:∀t,Inv Xc [] (xs.map some++bX σ fv) H8 {s8 with heap:=s8.heap.update D (Obj.mapSeq (·.push uy)),toks:=t}:=fun t=>
     (I8.pM (iU:=[])<|fun p hp=>absurd hp (by simp)).turned (it:=D) (t':=t) (fun b o hb e=>(Heap.get?_update_other s8.heap (Obj.mapSeq (·.push uy))<|Ne.symm hb).trans e) n8 (by rw[xL];exact vI) (.inl (by rw[vJ];exact zau)) cD
      (fun p hp=>by rw[Fm] at hp;exact absurd hp (by simp))
    have g9:=PySem.IsL.update d8 (·.push uy);obtain⟨n9,Q_⟩:∃n9,(s8.heap.update D (Obj.mapSeq (·.push uy))).get? D=some {cls:=.type "list",data:=.seq (ah++[uy]).toArray n9}:=
     ⟨_,by rw[show(ah++[uy]).toArray=ah.toArray.push uy by simp];exact g9⟩
    refine⟨m',hm,i+1,xs.map some,ys++[y],ah++[uy],n9,H8,(I9 _).pM<|fun p hp=>?_,by simpa using kO,?_,f8,hv.append<|.cons r8 .nil,?_,w8⟩
    ·have pW:=zag.mp hp;subst pW;exact⟨Q_,n8,by rw[xL];exact vI,sF D zau,fun v z=>by cases z⟩
    ·exact T.keep _ _ _ t8 fun b hb o e=>(Heap.get?_update_other s8.heap (Obj.mapSeq (·.push uy))<|Ne.symm<|Fl b hb).trans e
    ·rw[zqA,zbm];lia
 have Ra:tn 0 h₁:=T.keep 0 _ _ st fun b _ o e=>k4 b o (k3 b o e);have e4:({s₂ with heap:=h₁,toks:=s₂.toks+([]:List (Str×Value)).length}:Shared)={s₃ with heap:=h₁,toks:=s₃.toks+([]:List (Str×Value)).length}:=by rw[<-vH]
 exact codeAny_compStart_list (loop _ e4)<|T.self X.A 0 _ _ _ Ra<|loop _ e4
end
section
variable {X:Cx}{scope:Scope}{ln:List Str}{fv:List (Str×Nat)}{elt tg iter:Expr}{ifs:List Expr}{pos:Pos}{wi:TI}{tk:Option Nat}{tc:Option TT}{te:TE}
theorem Rb{Φ:Cx->Prop}{Ψ:Hp->Prop}(S:jq X scope ln fv)(hc:∀H,Ψ H->∀Xc:Cx,Xc.A=X.A->Xc.calm=X.calm->Xc.H₀=H->Φ Xc)(hΨ:∀pins σ H s,Inv X pins σ H s->Ψ H)(hi:y6 Φ X tg iter wi)(hg:y7 Ψ X scope ln fv tg tk)(ht:rX X scope (ln++fv.map (·.1)) ifs tc)
  (he:∀(ex:List Addr) (C:Addr) (s:Shared) (H:Hp),PE (gH X scope (ln++fv.map (·.1)) ex C s H) elt te) (hs:∀x,foldedSetIterable iter X.env x=pure x:=by intro _;rfl):
  PE X (.ListComp elt [⟨tg,iter,ifs,0⟩] scope pos) (nY X.K wi tk fv tc te):=by
 intro pins s σ H Q I h;rw[eval_ListComp];refine wpAny_comprehension_free (use:=none) rfl hs (S.Fd I) S.kind S.locals<|aL (hi pins s σ H _ I h) fun v s1 h1=>aL h1 fun nH s2 h2=>?_;obtain⟨it,fp,tn,J,H2,e,I2,T,rD,f2,hW⟩:=h2;subst e;refine Fh (RR:=fun acc C=>compPost (model X.prog X.w) X.A X.xe none (EP X pins σ Q) acc C) S (hc H2<|hΨ _ _ _ _ I2) (hΨ _ _ _ _ I2) hg ht he I2 T rD f2 hW ?_;intro D C H' s' m I' ns hn hL h0 vK hp q;refine⟨m,ns,fun h' sb=>⟨.ref D,H',?_,rfl,q⟩⟩;exact I'.turned (it:=C) (t':=s'.toks) (fun b o hb e=>sb.extBut b o hb e) hn hL (.inr h0) vK hp
theorem Rc{Φ:Cx->Prop}{Ψ:Hp->Prop}{i:Nat}{y:Str}{py rZ:Pos}(hN:X.N.Nodup)(eT:X.N[i]?=some y)(hy:Loc X.env.scope y)(zb:swapsWith (.ListComp elt [⟨tg,iter,ifs,0⟩] scope pos) (some<|.Name y py) rZ.line X.env=pure true)
  (S:jq X scope ln fv) (hc:∀H,Ψ H->∀Xc:Cx,Xc.A=X.A->Xc.calm=X.calm->Xc.H₀=H->Φ Xc) (hΨ:∀pins σ H s,Inv X pins σ H s->Ψ H) (hi:y6 Φ X tg iter wi) (hg:y7 Ψ X scope ln fv tg tk) (ht:rX X scope (ln++fv.map (·.1)) ifs tc)
  (he:∀(ex:List Addr) (C:Addr) (s:Shared) (H:Hp),PE (gH X scope (ln++fv.map (·.1)) ex C s H) elt te) (hs:∀x,foldedSetIterable iter X.env x=pure x:=by intro _;rfl)
  (hf:X.fn y=true\/X.env.scope.names.lookup y=some .local:=by first|exact .inl rfl|exact .inr rfl|assumption):
  PS X (.Assign [.Name y py] (.ListComp elt [⟨tg,iter,ifs,0⟩] scope pos) rZ) (jl (nY X.K wi tk fv tc te)<|eP i):=by
 intro pins s σ H D I h;rw[exec_Assign_Name_used _ _ _ _ zb];refine wpAny_bind<|wpAny_standAt<|wpAny_bind ?_;show wpAny _ X.A (do let _ <-comprehension (.ListComp elt [⟨tg,iter,ifs,0⟩] scope pos) scope X.env _ (newList []) false (eval iter X.env) (some<|assign (.Name y py) X.env)) _ _ s
 refine wpAny_bind (wpAny_mono (wpAny_comprehension_free (use:=some (assign (.Name y py) X.env)) (Q:=fun _ s'=>SP X pins D .next s') rfl hs (S.Fd I) S.kind S.locals
  (aL (hi pins s σ H _ I h) fun v s1 h1=>aL h1 fun nH s2 h2=>?_)) (fun _ s' hq=>wpAny_pure (wpAny_pure hq)) fun _ _ e=>e)
 obtain⟨it,fp,tn,J,H2,e,I2,T,rD,f2,hW⟩:=h2;subst e;refine Fh (Qv:=fun x H1=>eP i x σ H1 D.nx) (RR:=fun acc C=>compPost (model X.prog X.w) X.A X.xe (some<|assign (.Name y py) X.env) (fun _ s'=>SP X pins D .next s') acc C) S (hc H2<|hΨ _ _ _ _ I2) (hΨ _ _ _ _ I2) hg ht he I2 T rD f2 hW ?_;intro Da C H' s' m I' ns hn hL h0 vK hp q;show wpAny _ X.A (assign (.Name y py) X.env<|.ref Da) _ _ _;refine wpAny_assign_Name<|DF I' hN eT hy (v:=.ref Da) rfl (fun s4 I4 ⟨a,sb,ha⟩=>?_) hf;have Rf:C≠a:=by
  rcases ha with z|z
  ·rw[z];exact hL
  ·exact Ne.symm (vK _ _ z)
 refine⟨m,ns.sameBut sb Rf,fun h' Rg=>⟨_,H',?_,q⟩⟩;exact I4.turned (it:=C) (t':=s4.toks) (fun b o hb e=>Rg.extBut b o hb e) hn hL (.inr h0) vK hp
theorem Rh(S:jq X scope ln fv)(hc:X.calm=true)(hi:PI X tg iter wi)(hg:rW X scope ln fv tg tk)(ht:rX X scope (ln++fv.map (·.1)) ifs tc)
  (he:∀(ex:List Addr) (C:Addr) (s:Shared) (H:Hp),PE (gH X scope (ln++fv.map (·.1)) ex C s H) elt te) (hs:∀x,foldedSetIterable iter X.env x=pure x:=by intro _;rfl):
  PE X (.ListComp elt [⟨tg,iter,ifs,0⟩] scope pos) (nY X.K wi tk fv tc te):=
 Rb (Φ:=Calm) (Ψ:=fun _=>True) S (fun _ _ Xc _ e _=>e.trans hc) (fun _ _ _ _ _=>trivial) hi.p (fun ex C s H _=>hg ex C s H) ht he hs
theorem Ri{i:Nat}{y:Str}{py rZ:Pos}(hN:X.N.Nodup)(eT:X.N[i]?=some y)(hy:Loc X.env.scope y)(zb:swapsWith (.ListComp elt [⟨tg,iter,ifs,0⟩] scope pos) (some<|.Name y py) rZ.line X.env=pure true)
  (S:jq X scope ln fv) (hc:X.calm=true) (hi:PI X tg iter wi) (hg:rW X scope ln fv tg tk) (ht:rX X scope (ln++fv.map (·.1)) ifs tc)
  (he:∀(ex:List Addr) (C:Addr) (s:Shared) (H:Hp),PE (gH X scope (ln++fv.map (·.1)) ex C s H) elt te) (hs:∀x,foldedSetIterable iter X.env x=pure x:=by intro _;rfl)
  (hf:X.fn y=true\/X.env.scope.names.lookup y=some .local:=by first|exact .inl rfl|exact .inr rfl|assumption):
  PS X (.Assign [.Name y py] (.ListComp elt [⟨tg,iter,ifs,0⟩] scope pos) rZ) (jl (nY X.K wi tk fv tc te)<|eP i):=
 Rc (Φ:=Calm) (Ψ:=fun _=>True) hN eT hy zb S (fun _ _ Xc _ e _=>e.trans hc) (fun _ _ _ _ _=>trivial) hi.p (fun ex C s H _=>hg ex C s H) ht he hs hf
end
section
variable {X:Cx}{scope:Scope}{fv:List (Str×Nat)}
theorem Rj{x:Str}{px:Pos}(hl:scope.names.lookup x=some .local)(vL:(x::fv.map (·.1)).Nodup):rW X scope [x] fv (.Name x px) none:=by
 intro ex C s H;have Rk:Loc (gH X scope ([x]++fv.map (·.1)) ex C s H).env.scope x:=.inl (lookup_relabel_local hl);refine⟨eP 0,vc (X:=gH X scope ([x]++fv.map (·.1)) ex C s H) vL rfl Rk<|.inr<|lookup_relabel_local hl,fun v pre φ H' Q hp h=>?_⟩;obtain⟨a,rfl⟩:∃a,pre=[a]:=by
  match pre,hp with
  |[a],_=>exact⟨a,rfl⟩
 exact h rfl
theorem Rl{x y:Str}{px py pos:Pos}{k:Nat}(hc:X.calm=true)(hx:scope.names.lookup x=some .local)(hy:scope.names.lookup y=some .local)(vL:(x::y::fv.map (·.1)).Nodup):rW X scope [x,y] fv (.Tuple [.Name x px,.Name y py] k pos) (some 2):=by
 intro ex C s H;generalize eX:gH X scope ([x,y]++fv.map (·.1)) ex C s H=Xc;have xN:Xc.N=x::y::fv.map (·.1):=by rw[<-eX];rfl
 have xc:Xc.calm=true:=by rw[<-eX];exact hc
 have lx:Xc.env.scope.names.lookup x=some .local:=by rw[<-eX];exact lookup_relabel_local hx
 have ly:Xc.env.scope.names.lookup y=some .local:=by rw[<-eX];exact lookup_relabel_local hy
 have p1:PG Xc (.Name x px) (eP 0):=vc (by rw[xN];exact vL) (by rw[xN];rfl) (.inl lx) (.inr lx)
 have p2:PG Xc (.Name y py) (eP 1):=vc (by rw[xN];exact vL) (by rw[xN];rfl) (.inl ly) (.inr ly)
 have xK:Xc.K=X.K:=by rw[<-eX];rfl
 refine⟨DY Xc.K 2<|vd (eP 0)<|vd (eP 1) yt,DZ xc<|yu p1<|yu p2 DX,fun v pre φ H' Q hp h=>?_⟩;obtain⟨a,b,rfl⟩:∃a b,pre=[a,b]:=by
  match pre,hp with
  |[a,b],_=>exact⟨a,b,rfl⟩
 obtain⟨a',xs,rfl,e2,e3,q⟩:=h;obtain⟨v1,v2,rfl⟩:∃v1 v2,xs=[v1,v2]:=by
  match xs,e3 with
  |[v1,v2],_=>exact⟨v1,v2,rfl⟩
 exact⟨a',_,rfl,by rw[xK];exact e2,rfl,v1,_,rfl,v2,_,rfl,rfl,q rfl⟩
end
section
variable {X:Cx}
theorem bq.imp{f:Value->Value->Sem Value}{r r':R2}(h:bq X f r)(i:∀x y H Q,r' x y H Q->r x y H Q):bq X f r':=fun pins s σ H x y v u Q I rx ry q=>h pins s σ H x y v u Q I rx ry (i _ _ _ _ q)
theorem cW.imp{f:Value}{r r':List V->Hp->VK->Prop}(h:cW X f r)(i:∀xs H Q,r' xs H Q->r xs H Q):cW X f r':=fun pins s σ H xs us Q I rv q=>h pins s σ H xs us Q I rv (i _ _ _ q)
def Fx(K:Frag):R2:=fun x y H Q=>match x,y with
 |.int i,.int j=>Q (.int<|i+j) H
 |.str i,.str j=>i.length+j.length<=sizeLine/\Q (.str<|i++j) H
 |.ref l,.ref b=>ES (.ref l) (.ref b) H Q\/EH K (.ref l) (.ref b) H Q
 |_,_=>False
theorem Rm:bq X (binaryOp .Add) (Fx X.K):=by
 refine bq.imp ((Oj.or OM).or<|Qe.or PB) fun x y H Q h=>?_;cases x<;>cases y<;>first
  |exact False.elim h
  |exact .inl (.inl ⟨_,_,rfl,rfl,h⟩)
  |exact .inl (.inr ⟨_,_,rfl,rfl,h⟩)
  |exact .inr h
def jY(C:Int->Int->Prop)(g:Int->Int->V):R2:=fun x y H Q=>match x,y with
 |.int i,.int j=>C i j/\Q (g i j) H
 |_,_=>False
theorem zc{C:Int->Int->Prop}{g:Int->Int->V}(x y:V)(H:Hp)(Q:VK)(h:jY C g x y H Q):rI C g x y H Q:=by
 cases x<;>cases y<;>first
  |exact False.elim h
  |exact⟨_,_,rfl,rfl,h⟩
theorem r6{g:Int->Int->V}(x y:V)(H:Hp)(Q:VK)(h:jY (fun _ _=>True) g x y H Q):kH g x y H Q:=by
 cases x<;>cases y<;>first
  |exact False.elim h
  |exact⟨_,_,rfl,rfl,h.2⟩
def Fy:R2:=fun x y H Q=>match x,y with
 |.int i,.int j=>rF i j/\Q (.int<|i*j) H
 |.ref l,.int k=>ET (.ref l) (.int k) H Q
 |_,_=>False
theorem Rn:bq X (binaryOp .Mult) Fy:=by
 refine bq.imp (Om.or Qf) fun x y H Q h=>?_;cases x<;>cases y<;>first
  |exact False.elim h
  |exact .inl ⟨_,_,rfl,rfl,h⟩
  |exact .inr h
def iD(K:Frag):Operator->R2
 |.Add=>Fx K
 |.Sub=>jY (fun _ _=>True) fun i j=>.int (i - j)
 |.Mult=>Fy
 |.FloorDiv=>jY yB fun i j=>.int (i / j)
 |.Mod=>jY (fun _ j=>0<j) fun i j=>.int (i % j)
 |.Pow=>jY Ee fun i j=>.int (i ^ j.toNat)
 |_=>fun _ _ _ _=>False
theorem Ro(op:Operator):bq X (binaryOp op) (iD X.K op):=by
 cases op<;>first
  |exact Rm
  |exact bq.imp Ol r6
  |exact Rn
  |exact bq.imp Oo zc
  |exact bq.imp Oq zc
  |exact bq.imp Ot zc
  |exact fun _ _ _ _ _ _ _ _ _ _ _ _ h=>False.elim h
mutual
def Is(H:Hp):PyData->V->Prop
 |.none,v=>v=.aF
 |.bool b,v=>v=.bl b
 |.int i,v=>v=.int i
 |.str x,v=>v=.str x
 |.list xs,v=>∃a vs,v=.ref a/\H a=some (.lst vs)/\IsL H xs vs
 |.tuple xs,v=>∃a vs,v=.ref a/\H a=some (.tup vs)/\IsL H xs vs
 |.dict _,_=>False
def IsL(H:Hp):List PyData->List V->Prop
 |[],vs=>vs=[]
 |d::ds,vs=>∃v r,vs=v::r/\Is H d v/\IsL H ds r
end
mutual
theorem Is.reads{pins:List (Addr×Obj)}{σ:St}{H:Hp}{s:Shared}(I:Inv X pins σ H s):∀(d:PyData) (v:V) (u:Value),Is H d v->RelV v u->∃as,Reads s.heap u d as
 |.none,v,u,h,r=>by rw[show v=.aF from h] at r;rw[show u=.none from r];exact⟨_,.none⟩
 |.bool b,v,u,h,r=>by rw[show v=.bl b from h] at r;rw[show u=.bool b from r];exact⟨_,.bool b⟩
 |.int i,v,u,h,r=>by rw[show v=.int i from h] at r;obtain⟨t,e⟩:=r;rw[e];exact⟨_,.int i t⟩
 |.str x,v,u,h,r=>by rw[show v=.str x from h] at r;obtain⟨t,e⟩:=r;rw[e];exact⟨_,.str x t⟩
 |.list xs,v,u,h,r=>by
  obtain⟨a,vs,e,hH,hl⟩:=(show ∃a vs,v=.ref a/\H a=some (.lst vs)/\IsL H xs vs by simpa only[Is] using h)
  rw[e] at r;rw[show u=.ref a from r]
  obtain⟨_,ah,n,hv,hg⟩:=I.aE a _ hH;obtain⟨as,q⟩:=IsL.reads I xs vs ah hl hv;exact⟨_,.list hg rfl rfl (by simpa using q)⟩
 |.tuple xs,v,u,h,r=>by
  obtain⟨a,vs,e,hH,hl⟩:=(show ∃a vs,v=.ref a/\H a=some (.tup vs)/\IsL H xs vs by simpa only[Is] using h)
  rw[e] at r;rw[show u=.ref a from r]
  obtain⟨_,ah,hv,o,hg,hc,n,hd⟩:=I.aE a _ hH;obtain⟨as,q⟩:=IsL.reads I xs vs ah hl hv;exact⟨_,.tuple hg hc hd (by simpa using q)⟩
 |.dict _,v,u,h,r=>by simp only[Is] at h
theorem IsL.reads{pins:List (Addr×Obj)}{σ:St}{H:Hp}{s:Shared}(I:Inv X pins σ H s):∀(ds:List PyData) (vs:List V) (us:List Value),IsL H ds vs->Vals vs us->∃as,ReadsAll s.heap us ds as
 |[],vs,us,h,r=>by
  rw[show vs=[] from h] at r
  cases r;exact⟨_,.nil⟩
 |d::ds,vs,us,h,r=>by
  obtain⟨v,q,e,h1,h2⟩:=(show ∃v r,vs=v::r/\Is H d v/\IsL H ds r by simpa only[IsL] using h)
  rw[e] at r;cases r with
  |cons r1 r2=>
   obtain⟨as,q1⟩:=Is.reads I d v _ h1 r1;obtain⟨bs,q2⟩:=IsL.reads I ds q _ h2 r2;exact⟨_,.cons q1 q2⟩
end
def Rp:V->Bool
 |.iS _=>false
 |.fg _=>false
 |_=>true
def Rq:R2:=fun x y H Q=>∃a b xs,x=.ref a/\y=.ref b/\H a=some (.lst xs)/\H b=some (.lst xs)/\xs.all Rp=true/\Q (.bl true) H
def kP(neg:Bool):R2:=fun x y H Q=>match jU x y with
 |true=>Q (.bl<|neg ^^ decide (x=y)) H
 |false=>∃d e,Is H d x/\Is H e y/\SeqAt.shaped d=true/\SeqAt.shaped e=true/\Q (.bl<|neg ^^ PyData.eqv d e) H
def Rr:R2:=fun x y H Q=>kP false x y H Q\/Rq x y H Q
theorem Rt(hu:X.A.units+64<cLine):bq X (compareOp .Eq) (kP false):=by
 intro pins s σ H x y v u Q I rx ry h;unfold kP at h;by_cases hs:jU x y=true
 ·rw[hs] at h
  simp only[zaC] at h
  exact Oy pins s σ H x y v u Q I rx ry ⟨hs,h⟩
 ·rw[show jU x y=false by simpa using hs] at h
  obtain⟨d,e,h1,h2,h3,h4,q⟩:=h;rw[zaC] at q;obtain⟨as,r1⟩:=Is.reads I d x v h1 rx;obtain⟨bs,r2⟩:=Is.reads I e y u h2 ry;exact eq_dataH r1 r2 h3 h4 hu ⟨.bl _,H,I,rfl,q⟩
theorem Ru(hu:X.A.units+64<cLine):bq X (compareOp .NotEq) (kP true):=by
 intro pins s σ H x y v u Q I rx ry h;unfold kP at h;by_cases hs:jU x y=true
 ·rw[hs] at h
  simp only[zaG] at h
  exact Oz pins s σ H x y v u Q I rx ry ⟨hs,h⟩
 ·rw[show jU x y=false by simpa using hs] at h
  obtain⟨d,e,h1,h2,h3,h4,q⟩:=h;rw[zaG] at q;obtain⟨as,r1⟩:=Is.reads I d x v h1 rx;obtain⟨bs,r2⟩:=Is.reads I e y u h2 ry;exact ne_dataH r1 r2 h3 h4 hu ⟨.bl _,H,I,rfl,q⟩
def adF(K:Frag)(H:Hp)(a:Addr):Prop:=(∃xs,au K H a xs)\/(∃xs,aD K H a xs)\/∃kvs,H a=some (.dK kvs)
def vM(K:Frag)(neg:Bool):R2:=fun x y H Q=>match y with
 |.str j=>∃i,x=.str i/\Q (.bl (if neg then !(!(Builtin.Str.occurrences j i 0 j.length 1).isEmpty) else !(Builtin.Str.occurrences j i 0 j.length 1).isEmpty)) H
 |.ref p=>match x with
  |.ref _=>False
  |x=>yO K neg x (.ref p) H Q
 |_=>False
theorem Rv(hu:X.A.units+64<cLine):bq X (compareOp .In) (vM X.K false):=by
 intro pins s σ H x y v u Q I rx ry h;cases y with
 |str j=>
  obtain⟨i,e,q⟩:=h;exact OE pins s σ H x _ v u Q I rx ry ⟨i,j,e,rfl,q⟩
 |ref p=>
  cases x with
  |ref a=>exact False.elim h
  |_=>exact PR pins s σ H _ _ v u Q I rx ry h
 |_=>exact False.elim h
theorem Rw(hu:X.A.units+64<cLine):bq X (compareOp .NotIn) (vM X.K true):=by
 intro pins s σ H x y v u Q I rx ry h;cases y with
 |str j=>
  obtain⟨i,e,q⟩:=h;exact OH pins s σ H x _ v u Q I rx ry ⟨i,j,e,rfl,q⟩
 |ref p=>
  cases x with
  |ref a=>exact False.elim h
  |_=>exact PU pins s σ H _ _ v u Q I rx ry h
 |_=>exact False.elim h
theorem Rx{M:Model}{A:Around}{E:Value->Shared->Prop}{s:Shared}{Q:Value->Shared->Prop}{v:Value}{d:Bool}(hv:∀id,v≠ .builtin id)(h:Q (.bool<|v==.bool d) s):wpAny M A (compareOp .Is v<|.bool d) Q E s:=by
 cases v<;>first|exact wpAny_pure h|exact absurd rfl (hv _)
theorem Ry{M:Model}{A:Around}{E:Value->Shared->Prop}{s:Shared}{Q:Value->Shared->Prop}{v:Value}{d:Bool}(hv:∀id,v≠ .builtin id)(h:Q (.bool<|!(v==.bool d)) s):wpAny M A (compareOp .IsNot v<|.bool d) Q E s:=by
 cases v<;>first|exact wpAny_pure h|exact absurd rfl (hv _)
def Fz:R2:=fun x y H Q=>match y with
 |.bl b=>Q (.bl<|decide<|x=.bl b) H
 |_=>y=.aF/\Q (.bl<|decide<|x=.aF) H
def FA:R2:=fun x y H Q=>match y with
 |.bl b=>Q (.bl<|!decide (x=.bl b)) H
 |_=>y=.aF/\Q (.bl<|!decide (x=.aF)) H
theorem Rz:bq X (compareOp .Is) Fz:=by
 intro pins s σ H x y v u Q I rx ry h;cases y with
 |bl b=>
  cases ry;have nb:∀id,v≠ .builtin id:=fun id z=>by
   subst z;cases x<;>first
    | (obtain⟨t,e⟩:=rx;cases e;done)
    | (cases rx;done)
  refine Rx nb<|bW I (show Q (.bl<|decide<|x=.bl b) H from h) ?_
  cases x<;>first
   | (cases rx;rfl)
   | (obtain⟨t,rfl⟩:=rx;rfl)
   | (cases rx;rename_i a;cases a<;>cases b<;>rfl)
 |_=>exact OF pins s σ H x _ v u Q I rx ry h
theorem RA:bq X (compareOp .IsNot) FA:=by
 intro pins s σ H x y v u Q I rx ry h;cases y with
 |bl b=>
  cases ry;have nb:∀id,v≠ .builtin id:=fun id z=>by
   subst z;cases x<;>first
    | (obtain⟨t,e⟩:=rx;cases e;done)
    | (cases rx;done)
  refine Ry nb<|bW I (show Q (.bl<|!decide (x=.bl b)) H from h) ?_
  cases x<;>first
   | (cases rx;rfl)
   | (obtain⟨t,rfl⟩:=rx;rfl)
   | (cases rx;rename_i a;cases a<;>cases b<;>rfl)
 |_=>exact OG pins s σ H x _ v u Q I rx ry h
def cO(K:Frag):CmpOp->R2
 |.Eq=>kP false
 |.NotEq=>kP true
 |.Lt=>jY (fun _ _=>True) fun i j=>.bl (decide<|i<j)
 |.LtE=>jY (fun _ _=>True) fun i j=>.bl (decide<|i<=j)
 |.Gt=>jY (fun _ _=>True) fun i j=>.bl (decide<|j<i)
 |.GtE=>jY (fun _ _=>True) fun i j=>.bl (decide<|j<=i)
 |.In=>vM K false
 |.NotIn=>vM K true
 |.Is=>Fz
 |.IsNot=>FA
theorem vN(hu:X.A.units+64<cLine)(op:CmpOp):bq X (compareOp op) (cO X.K op):=by
 cases op with
 |Eq=>exact Rt hu
 |NotEq=>exact Ru hu
 |Lt=>exact bq.imp OA r6
 |LtE=>exact bq.imp OB r6
 |Gt=>exact bq.imp OC r6
 |GtE=>exact bq.imp OD r6
 |In=>exact Rv hu
 |NotIn=>exact Rw hu
 |Is=>exact Rz
 |IsNot=>exact RA
inductive Ty where|int|str|bool|list|tuple|dict
 deriving DecidableEq
def Ty.nm:Ty->String
 |.int=> "int" |.str=> "str" |.bool=> "bool" |.list=> "list" |.tuple=> "tuple" |.dict=> "dict"
def bJ(T:Ty)(x:V)(H:Hp)(Q:Bool->Prop):Prop:=match x with
 |.aF=>Q false
 |.bl _=>Q (T==.bool ||T==.int)
 |.int _=>Q (T==.int)
 |.str _=>Q (T==.str)
 |.ref a=>match H a with
  |some (.lst _)=>Q (T==.list)
  |some (.bO _<|.lst _)=>Q (T==.list)
  |some (.tup _)=>Q (T==.tuple)
  |some (.dK _)=>Q (T==.dict)
  |some (.dT _)=>Q (T==.dict)
  |_=>False
 |_=>False
theorem l7(K:Frag)(S T:Ty):kitOne K (.type S.nm) (.type T.nm)=some (S==T ||(S==.bool && T==.int)):=by
 cases S<;>cases T<;>rfl
theorem RB(K:Frag)(T:Ty):kitOne K (.type "NoneType") (.type T.nm)=some false:=by
 cases T<;>rfl
theorem RC(hc:X.calm=true):cW X (.builtin "sum") (fun xs H Q=>∃(p:Addr) (ns:List Int),xs=[.ref p]/\au X.K H p (ns.map V.int)/\Q (.int ns.sum) H):=by
 intro pins s σ H xs us Q I r h;obtain⟨p,ns,rfl,hq,q⟩:=h;obtain⟨u,rfl,ru⟩:=vals1 r;cases ru;obtain⟨ah,rv,pl,hz⟩:=I.list hq;have hi:=intsAre_of rv;obtain⟨xs,hx⟩:=hi.allInts.items;have dS:s.heap.IsList p (intItems xs):=hx ▸ pl.isList;refine sum_intListG (I.ok.hd hc) dS fun h' tk t' hk=>?_;have e1:ns=xs.toList.map (·.1):=by
  rw[<-nums_intItems,<-hx];exact(show numsOf ah.toArray.toList=ns from hi.numsOf).symm
 have e2:preSum (numAt xs) xs.size=ns.sum:=by
  rw[preSum_eq,zaL (by simp),e1]
 rw[e2];exact⟨.int ns.sum,H,I.kept (t':=tk) hk,⟨t',rfl⟩,q⟩
theorem FC:∀{ts:List Str}{us:List Value},Vals (ts.map V.str) us->∃l:List (Str×Tok),us=strValues l/\l.map (·.1)=ts
 |[],_,.nil=>⟨[],rfl,rfl⟩
 |x::ts,_,.cons ⟨t,e⟩ r=>by
  obtain⟨l,e1,e2⟩:=FC r;subst e e1;exact⟨(x,t)::l,rfl,by simp[e2]⟩
def rJoin(K:Frag):V->List V->Hp->VK->Prop:=fun x vs H Q=>∃(sep:Str) (p:Addr) (ts:List Str),x=.str sep/\vs=[.ref p]/\au K H p (ts.map V.str)/\JoinOk sep ts=true/\Q (.str<|Txt.join sep ts) H
theorem RD:nR X "str.join" (rJoin X.K):=by
 intro pins s σ H x vs v us Q I rx rv h;obtain⟨sep,p,ts,rfl,rfl,hq,hj,q⟩:=h;obtain⟨t,rfl⟩:=rx;obtain⟨u,rfl,ru⟩:=vals1 rv;cases ru;obtain⟨ah,rv,pl,hz⟩:=I.list hq;obtain⟨l,rfl,e2⟩:=FC rv;exact SC.join pl.isList e2 hj fun t' k=>⟨.str _,H,I.tok k,⟨t',rfl⟩,q⟩
def RF:V->List V->Hp->VK->Prop:=fun x vs H Q=>∃z y,x=.str z/\vs=[.str y]/\z.length<=sizeLine/\Q (.str<|Txt.lstripChars z y) H
theorem RG:nR X "str.lstrip" RF:=by
 intro pins s σ H x vs v us Q I rx rv h;obtain⟨z,y,rfl,rfl,hz,q⟩:=h;obtain⟨t,rfl⟩:=rx;obtain⟨u,rfl,⟨t2,rfl⟩⟩:=vals1 rv;refine call_gives F.slot_str_lstrip (typeIs_str _ _ _) F.entry_str_lstrip (F.args_str_lstrip_2 _ _) (gives_str_lstrip_chars z y t t2)<|post_val_or_made (fun _=>fits_stripped _ _ _ hz) fun t' k=>?_;exact⟨.str _,H,I.tok k,⟨t',rfl⟩,q⟩
def RH:V->List V->Hp->VK->Prop:=fun x vs H Q=>∃z y i,x=.str z/\vs=[.str y,.int i]/\Q (.bl<|decide (fromIndex z.length i+y.length<=z.length) && Builtin.Str.subAt z y (fromIndex z.length i)) H
theorem RJ:nR X "str.startswith" RH:=by
 intro pins s σ H x vs v us Q I rx rv h;obtain⟨z,y,i,rfl,rfl,q⟩:=h;obtain⟨t,rfl⟩:=rx;obtain⟨u,w,rfl,⟨t2,rfl⟩,⟨t3,rfl⟩⟩:=vals2 rv;exact call_gives F.slot_str_startswith (typeIs_str _ _ _) F.entry_str_startswith (F.args_str_startswith_3 _ _ _) (gives_str_startswith_from z y i t t2 t3) ⟨.bl _,H,I,rfl,q⟩
def kQ{α:Type}(xs:List α)(lo hi:Option Int):List α:=(xs.drop<|HT.aQ xs.length 0 lo).take (HT.aQ xs.length xs.length hi - HT.aQ xs.length 0 lo)
def kR(z:Str)(lo hi:Option Int):Str:=⟨(kQ z.cps.toList lo hi).toArray⟩
theorem RK(z:Str)(lo hi:Option Int):((Builtin.Str.strSliceIndices lo hi 1 z.length).filterMap (z.cps[·]?))=kQ z.cps.toList lo hi:=by
 obtain⟨h1,h2,h3⟩:=yM lo hi z.length;have e0:Builtin.Str.strSliceIndices lo hi 1 z.length=sliceRange (sliceBounds lo hi none z.length).1 (sliceBounds lo hi none z.length).2.1 (sliceBounds lo hi none z.length).2.2:=rfl;have hz:z.cps.toList.length=z.length:=by simp[Str.length]
 rw[e0,h1,h2,h3,sliceRange_one,pick_run];unfold kQ;rw[hz]
end
section
variable {X:Cx}
def vO(K:Frag)(neg:Bool):R2:=fun x y H Q=>∃p xs d es,y=.ref p/\au K H p xs/\Is H d x/\IsL H es xs/\SeqAt.shaped d=true/\d.depth<=60/\(∀e∈es,SeqAt.shaped e=true)/\Q (.bl<|neg ^^ es.any fun e=>PyData.eqv e d) H
open Classical in
end
def og:HO:=.ext fun _=>True
structure vP (ob:Obj) (cls:Value) (vs:Array Value):Prop where
 cls:ob.cls=cls
 data:ob.data=.fields vs
 adG:vs[2]?=some .none
 dict:ob.dict=none
def ExcAt(H:Hp)(ea D:Addr):Prop:= ∃ob vs,H ea=some (.bO ob og)/\vP ob (.ref D) vs
structure RL (K:Frag) (D:Addr):Prop where
 hga:PySem.W.findIn K (.ref D) "__getattribute__"=some (some<|.builtin "BaseException.__getattribute__")
 hgn:PySem.W.findIn K (.ref D) "__getattr__"=some none
 hk:(PySem.W.clsIn K D).isSome=true
 ha:PySem.W.findIn K (.ref D) "__class__"=some (some<|.builtin "object.__class__")
 hn:specialIn K (.builtin "object.__class__") "__get__"=some (some<|.builtin "getset_descriptor.__get__")
 gC:takesIn K (.builtin "object.__class__")=some true
 hm:mroIn K D (.type "object")=some true
 hb:mroIn K D (.type "BaseException")=some true
def cV:V->Value
 |.ref a=>.ref a
 |.ty n=>.type n
 |_=>.none
def FD(K:Frag):List V->Hp->VK->Prop
 |[.ref ea,c],H,Q=>∃D b,ExcAt H ea D/\RL K D/\((∃C,c=.ref C)\/∃n,c=.ty n)/\kitOne K (.ref D) (cV c)=some b/\Q (.bl b) H
 |_,_,_=>False
def RM(sp:Sp)(hv:Option Addr)(t:TA):TE:=fun σ H Q=>t σ H fun vs H1=>(∃ea D,hv=some ea/\ExcAt H1 ea D)/\sp vs H1 Q E0
def zd(C:Addr)(E:XK)(t:TA):TS:=fun _ σ H=>t σ H fun vs H1=>vs.length<=sizeLine/\E (.ref C) none H1
def FE(K:Frag)(C:Addr)(i n:Nat)(th:Addr->TS)(D:Ends):XK:=fun cls _ H'=>exmOne K cls (.ref C)=some true/\
 ∀(ea:Addr) (ob:Obj) (vs:Array Value) (σ':St),H' ea=none->σ'.length=n->vP ob cls vs->th ea {nx:=fun _ _=>False,rt:=D.rt} (σ'.set i<|some<|.ref ea) (upd H' ea<|.bO ob og)
def vQ(K:Frag)(C:Addr)(i n:Nat)(tb:XK->TS)(th:Addr->TS):TS:=fun D σ H=>tb (FE K C i n th D) {nx:=D.nx,rt:=D.rt} σ H
def RN(K:Frag)(C:Addr)(i:Nat)(th:Addr->TS)(D:Ends)(σ:St):XK:=fun cls _ H'=>exmOne K cls (.ref C)=some true/\
 ∀(ea:Addr) (ob:Obj) (vs:Array Value),H' ea=none->vP ob cls vs->th ea {nx:=fun _ _=>False,rt:=D.rt} (σ.set i<|some<|.ref ea) (upd H' ea<|.bO ob og)
def RO(K:Frag)(C:Addr)(i k:Nat)(sp:Sp)(ta:TA)(th:Addr->TS):TS:=fun D σ H=>ta σ H fun vs H1=>sp vs H1 (fun v H2=>D.nx (σ.set k<|some v) H2) (RN K C i th D σ)
inductive kS where|len|min|max|sum|int|list|tuple|abs
 deriving DecidableEq
inductive hX where|append|pop|extend|join|lstrip|starts|reverse|clear|index|find|count|FF|ze
 deriving DecidableEq
inductive IK where|list|tup|dz|r9|zip|RP|txt|RQ|RT
 deriving DecidableEq
inductive RE where
 |v (i:Nat)|c (x:V)|g (j:Nat)
 |bin (op:Operator) (a b:RE)|neg (a:RE)
 |cmp (op:CmpOp) (a b:RE)|r_ (op fi:CmpOp) (a b d:RE)|FG (op fi FH:CmpOp) (a b d f:RE)
 |and (as:List RE)|or (as:List RE)|not (a:RE)|l9 (t a b:RE)
 |call (j:Nat) (as:List RE)|blt (b:kS) (as:List RE)|df (T:Ty) (a:RE)
 |bz (m:hX) (o:RE) (as:List RE)
 |ix (a b:RE)|sl (a:RE) (lo hi:Option RE)
 |tup (as:List RE)|lst (as:List RE)
 |comp (tk:Option Nat) (fv:List (Str×Nat)) (k:IK) (ah:List RE) (cond:Option RE) (elt:RE)
 |FI (a c:RE)|RU (j:Nat) (a:RE)|RV|same (a b:RE)
 |RW|bQ (a b:RE)|FJ (a b:RE)|FK (a b:RE)|RX (o a b:RE)|inD (a b:RE)|FL (a b:RE)
 |xt (T:Frag->TA->TE) (as:List RE)|xm (T:Frag->TE->TA->TE) (o:RE) (as:List RE)
 |fld (o:RE) (f:Str)|bj (j:Nat) (m:Str) (o:RE) (as:List RE)|make (j:Nat) (as:List RE)
structure bo where
 K:Frag
 fs:Nat->Sp
 gv:Nat->V
 E:XK
 sd:Addr->List (Key×V)->Prop
 ms:Nat->Addr×Sp
 kt:Nat->Addr×Sp
 ex:Nat->Addr
 hs:Nat->Sp
 hv:Option Addr
abbrev bo.calm(Γ:bo):bo:={Γ with E:=E0}
inductive RS where
 |asg (i:Nat) (e:RE)|pX (i:Nat) (e:RE)|set (o ix e:RE)
 |drop (e:RE)|ret (e:RE)|RY
 |ite (c:RE) (t e:List RS)
 |js (i:Nat) (k:IK) (ah:List RE) (body:List RS)
 |i0 (is:List Nat) (k:IK) (ah:List RE) (body:List RS)
 |vR (c:RE) (body:List RS)
 |pass|brk|cont|never
 |RZ (o lo hi e:RE)|gI (o:RE) (f:Str) (e:RE)
 |sf (is:List Nat) (e:RE)|dput (o i e:RE)|hZ (j:Nat) (as:List RE)|zf (n i j:Nat) (body su:List RS)|R0 (k i j f:Nat) (as:List RE) (su:List RS)
 |xs (T:bo->TS)
def jt(K:Frag)(x:V)(H:Hp)(Q:Bool->Prop):Prop:=match x with
 |.aF=>Q false
 |.bl b=>Q b
 |.int i=>Q (i !=0)
 |.str y=>y.length<=sizeLine/\Q ((y.length:Int) !=0)
 |.ref p=>(∃xs,au K H p xs/\Q (!xs.isEmpty))\/(∃xs,aD K H p xs/\Q (!xs.isEmpty))\/∃kvs,H p=some (.dK kvs)/\Q (!kvs.isEmpty)
 |_=>False
theorem FN{K:Frag}{x:V}{H:Hp}{Q:Bool->Prop}(h:jt K x H Q):∃k,Ei K x H k/\Q k:=by
 cases x with
 |aF=>exact⟨_,rfl,h⟩
 |bl b=>exact⟨_,rfl,h⟩
 |int i=>exact⟨_,rfl,h⟩
 |str y=>exact⟨_,⟨h.1,rfl⟩,h.2⟩
 |ref p=>
  rcases h with⟨xs,h1,h2⟩|⟨xs,h1,h2⟩|⟨xs,h1,h2⟩
  ·exact⟨_,.inl ⟨xs,h1,rfl⟩,h2⟩
  ·exact⟨_,.inr<|.inl ⟨xs,h1,rfl⟩,h2⟩
  ·exact⟨_,.inr<|.inr ⟨xs,h1,rfl⟩,h2⟩
 |_=>exact False.elim h
def eU(K:Frag)(t:TE):TT:=fun σ H Q=>t σ H fun x H1=>jt K x H1 fun b=>Q b H1
def zg(K:Frag)(t:TE):TE:=fun σ H Q=>t σ H fun x H1=>jt K x H1 fun b=>Q (.bl<|!b) H1
def FO:V->Hp->VK->Prop:=fun x H Q=>match x with|.int i=>Q (.int<|-i) H|_=>False
def pV(K:Frag)(x:V)(H:Hp)(Q:Nat->Prop):Prop:=match x with
 |.str y=>y.length<=sizeLine/\Q y.length
 |.ref p=>(∃xs,au K H p xs/\Q xs.length)\/∃xs,aD K H p xs/\Q xs.length
 |_=>False
def signs(x:Str):List V:=x.cps.toList.map fun c=>V.str ⟨#[c]⟩
def R1:TE:=fun _ H Q=>∀p,H p=none->Q (.ref p) (upd H p<|.dK [])
def i4(K:Frag):kS->List V->Hp->VK->Prop
 |.len,[x],H,Q=>pV K x H fun n=>Q (.int n) H
 |.min,[.int i,.int j],H,Q=>Q (.int (if j<i then j else i)) H
 |.max,[.int i,.int j],H,Q=>Q (.int (if j>i then j else i)) H
 |.min,[.ref p],H,Q=>∃ns:List Int,au K H p (ns.map V.int)/\ns≠ []/\∀m:Int,m∈ns->(∀n∈ns,m<=n)->Q (.int m) H
 |.max,[.ref p],H,Q=>∃ns:List Int,au K H p (ns.map V.int)/\ns≠ []/\∀m:Int,m∈ns->(∀n∈ns,n<=m)->Q (.int m) H
 |.sum,[.ref p],H,Q=>∃ns:List Int,au K H p (ns.map V.int)/\Q (.int ns.sum) H
 |.int,[.int i],H,Q=>Q (.int i) H
 |.int,[.bl k],H,Q=>Q (.int (if k then 1 else 0)) H
 |.list,[.ref p],H,Q=>∃ys,(au K H p ys\/aD K H p ys)/\∀l,H l=none->Q (.ref l) (upd H l<|.lst ys)
 |.list,[.str x],H,Q=>x.length<=sizeLine/\∀l,H l=none->Q (.ref l) (upd H l<|.lst<|signs x)
 |_,_,_,_=>False
def l_(T:Ty):List V->Hp->VK->Prop
 |[x,.ty n],H,Q=>n=T.nm/\bJ T x H fun b=>Q (.bl b) H
 |_,_,_=>False
def pY(K:Frag):hX->V->List V->Hp->VK->Prop
 |.append,.ref l,[y],H,Q=>∃xs,H l=some (.lst xs)/\xs.length<sizeLine/\Q .aF (upd H l<|.lst<|xs++[y])
 |.pop,.ref l,[],H,Q=>∃xs y,H l=some (.lst xs)/\xs[xs.length - 1]?=some y/\Q y (upd H l<|.lst xs.dropLast)
 |.extend,.ref l,[.ref b],H,Q=>∃xs zs,H l=some (.lst xs)/\H b=some (.lst zs)/\xs.length+zs.length<=sizeLine/\Q .aF (upd H l<|.lst<|xs++zs)
 |.join,.str sep,[.ref p],H,Q=>∃ts:List Str,au K H p (ts.map V.str)/\JoinOk sep ts=true/\Q (.str<|Txt.join sep ts) H
 |.lstrip,.str z,[.str y],H,Q=>z.length<=sizeLine/\Q (.str<|Txt.lstripChars z y) H
 |.starts,.str z,[.str y,.int i],H,Q=>Q (.bl<|decide (fromIndex z.length i+y.length<=z.length) && Builtin.Str.subAt z y (fromIndex z.length i)) H
 |.clear,.ref l,[],H,Q=>∃xs,H l=some (.lst xs)/\Q .aF (upd H l<|.lst [])
 |.ze,.ref l,[y],H,Q=>∃xs,au K H l xs/\hU y=true/\xs.all hU=true/\f_ y xs=true/\Q (.int (xs.findIdx (fun z=>gG z y):Nat)) H
 |_,_,_,_,_=>False
def vS:hX->String
 |.join|.lstrip|.starts|.find|.count=> "str"
 |_=> "list"
def pZ(K:Frag)(m:hX)(to:TE)(t:TA):TE:=fun σ H Q=>to σ H fun x H1=>nS K (vS m) x H1/\t σ H1 fun xs H2=>pY K m x xs H2 Q
def oh(K:Frag):V->Option Int->Option Int->Hp->VK->Prop:=fun x lo hi H Q=>match x with
 |.str z=>z.length<=sizeLine/\Q (.str<|kR z lo hi) H
 |.ref a=>(∃xs,au K H a xs/\∀p,H p=none->Q (.ref p) (upd H p<|.lst<|dR xs lo hi))\/
  (∃xs,aD K H a xs/\ ¬(HT.aQ xs.length 0 lo=0/\HT.aQ xs.length xs.length hi=xs.length)/\∀p,H p=none->Q (.ref p) (upd H p<|.tup<|dR xs lo hi))
 |_=>False
def oi(kvs:List (Key×V))(k:Key):Option V:=(kvs.find? fun kv=>decide (kv.1=k)).map (·.2)
def FP(sd:Addr->List (Key×V)->Prop):R2:=fun x y H Q=>∃p kvs k v,x=.ref p/\y=kV k/\sd p kvs/\oi kvs k=some v/\Q v H
def ma(K:Frag)(sd:Addr->List (Key×V)->Prop):R2:=fun x y H Q=>EK K x y H Q\/EL K x y H Q\/EM x y H Q\/FP sd x y H Q
def R3(r r' r2:R2)(ta tb tc td:TE):TT:=fun σ H Q=>ta σ H fun x H1=>tb σ H1 fun y H2=>r x y H2 fun z H3=>∃k,z=.bl k/\
 (if k=true then tc σ H3 fun w H4=>r' y w H4 fun z2 H5=>∃k2,z2=.bl k2/\(if k2=true then td σ H5 fun u H6=>r2 w u H6 fun z3 H7=>∃k3,z3=.bl k3/\Q k3 H7 else Q false H5) else Q false H3)
def si(K:Frag)(a b:Addr):It:=
  ⟨fun i H=>∃xs ys,au K H a xs/\au K H b ys/\i<xs.length/\i<ys.length,
   fun i H x H'=>∃T,H T=none/\x=.ref T/\∀xs ys u v,au K H a xs->au K H b ys->xs[i]?=some u->ys[i]?=some v->H'=upd H T (.tup [u,v]),
   fun i H=>∃xs ys,au K H a xs/\au K H b ys/\i=min xs.length ys.length⟩
def R4(K:Frag)(a:Addr):It:=
  ⟨fun i H=>∃xs,au K H a xs/\i<xs.length,
   fun i H x H'=>∃T,H T=none/\x=.ref T/\∀xs u,au K H a xs->xs[i]?=some u->H'=upd H T (.tup [.int (i:Nat),u]),
   fun i H=>∃xs,au K H a xs/\i=xs.length⟩
def R5(K:Frag)(ta:TA):TI:=fun σ H R=>ta σ H fun vs H1=>∃a,vs=[.ref a]/\(∃xs,au K H1 a xs)/\R (R4 K a) H1
def zh(K:Frag)(ta:TA):TI:=fun σ H R=>ta σ H fun vs H1=>∃a b,vs=[.ref a,.ref b]/\(∃xs,au K H1 a xs)/\(∃ys,au K H1 b ys)/\R (si K a b) H1
def R6(K:Frag)(a b:Addr):It:=
  ⟨fun i H=>∃xs ys,aD K H a xs/\aD K H b ys/\i<xs.length/\i<ys.length,
   fun i H x H'=>∃T,H T=none/\x=.ref T/\∀xs ys u v,aD K H a xs->aD K H b ys->xs[i]?=some u->ys[i]?=some v->H'=upd H T (.tup [u,v]),
   fun i H=>∃xs ys,aD K H a xs/\aD K H b ys/\i=min xs.length ys.length⟩
def R7(K:Frag)(ta:TA):TI:=fun σ H R=>ta σ H fun vs H1=>∃a b,vs=[.ref a,.ref b]/\(∃xs,aD K H1 a xs)/\(∃ys,aD K H1 b ys)/\R (R6 K a b) H1
def R8(z:Str):It:=⟨fun i _=>i<z.length,fun i H x H'=>H'=H/\∃c,z.cps[i]?=some c/\x=.str ⟨#[c]⟩,fun i _=>i=z.length⟩
def R9(ta:TE):TI:=fun σ H R=>ta σ H fun x H1=>∃z,x=.str z/\R (R8 z) H1
def R_(lo c:Int)(n:Nat):It:=⟨fun i _=>i<n,fun i H x H'=>H'=H/\x=.int (lo+i*c),fun i _=>n<=i⟩
def Sa(ta:TA):TI:=fun σ H R=>ta σ H fun vs H1=>∃(i j c:Int) (n:Nat),vs=[.int i,.int j,.int c]/\c≠0/\Builtin.Range.small i j c=true/\Builtin.divisionGoesByPylong (j - i) c=false/\Builtin.Range.rangeSize i j c=n/\R (R_ i c n) H1
mutual
def ae(Γ:bo):RE->TE
 |.v i=>yo i
 |.c x=>tC x
 |.g j=>tC (Γ.gv j)
 |.bin op a b=>eJ (iD Γ.K op) (ae Γ a) (ae Γ b)
 |.neg a=>Ec FO (ae Γ a)
 |.cmp op a b=>eJ (cO Γ.K op) (ae Γ a) (ae Γ b)
 |.r_ op fi a b d=>vm (cO Γ.K op) (cO Γ.K fi) (ae Γ a) (ae Γ b) (ae Γ d)
 |.FG _ _ _ _ _ _ _=>fun _ _ _=>False
 |.and as=>FQ Γ as
 |.or as=>FR Γ as
 |.not a=>zg Γ.K (ae Γ a)
 |.l9 t a b=>DQ (bg Γ t) (ae Γ a) (ae Γ b)
 |.call j as=>yF (Γ.fs j) [] Γ.E (ba Γ as)
 |.blt b as=>iY (i4 Γ.K b) (ba Γ as)
 |.df T a=>iY (l_ T) (dQ (ae Γ a)<|dQ (tC<|.ty T.nm) iX)
 |.bz m o as=>pZ Γ.K m (ae Γ o) (ba Γ as)
 |.ix a b=>eJ (ma Γ.K Γ.sd) (ae Γ a) (ae Γ b)
 |.sl a lo hi=>yJ (oh Γ.K) (ae Γ a) (me Γ lo) (me Γ hi)
 |.tup as=>Er (ba Γ as)
 |.lst as=>Es (ba Γ as)
 |.comp tk fv k ah cond elt=>nY Γ.K (gJ Γ k ah) tk fv (vT Γ.calm cond) (ae Γ.calm elt)
 |.FI a c=>iY (FD Γ.K) (dQ (ae Γ a)<|dQ (ae Γ c) iX)
 |.RV=>R1
 |.same a b=>eJ Rr (ae Γ a) (ae Γ b)
 |.inD a b=>eJ (vO Γ.K false) (ae Γ a) (ae Γ b)
 |.FL a b=>eJ (vO Γ.K true) (ae Γ a) (ae Γ b)
 |.RW=>QI
 |.bQ a b=>E4 (ae Γ a) (ae Γ b)
 |.FJ a b=>E5 (ae Γ a) (ae Γ b)
 |.FK a b=>E6 (ae Γ a) (ae Γ b)
 |.RX o a b=>QK (ae Γ o) (ae Γ a) (ae Γ b)
 |.xt T as=>T Γ.K (ba Γ as)
 |.xm T o as=>T Γ.K (ae Γ o) (ba Γ as)
 |.RU j a=>RM (Γ.hs j) Γ.hv (dQ (ae Γ a) iX)
 |.fld o f=>vo Γ.K (ae Γ o) f
 |.bj j m o as=>lX (Γ.ms j).1 m (Γ.ms j).2 [] Γ.E (ae Γ o) (ba Γ as)
 |.make j as=>vt (Γ.kt j).1 (Γ.kt j).2 [] Γ.E (ba Γ as)
def bg(Γ:bo):RE->TT
 |.not a=>DO (bg Γ a)
 |.inD a b=>pQ (eJ (vO Γ.K false) (ae Γ a)<|ae Γ b)
 |.FL a b=>pQ (eJ (vO Γ.K true) (ae Γ a)<|ae Γ b)
 |.FJ a b=>tB (E5 (ae Γ a)<|ae Γ b)
 |.FK a b=>tB (E6 (ae Γ a)<|ae Γ b)
 |.and as=>FT Γ as
 |.or as=>FU Γ as
 |.cmp op a b=>pQ (eJ (cO Γ.K op) (ae Γ a)<|ae Γ b)
 |.r_ op fi a b d=>pQ (vm (cO Γ.K op) (cO Γ.K fi) (ae Γ a) (ae Γ b)<|ae Γ d)
 |.FG op fi FH a b d f=>R3 (cO Γ.K op) (cO Γ.K fi) (cO Γ.K FH) (ae Γ a) (ae Γ b) (ae Γ d) (ae Γ f)
 |.v i=>eU Γ.K (yo i)
 |.call j as=>eU Γ.K (yF (Γ.fs j) [] Γ.E<|ba Γ as)
 |.df T a=>eU Γ.K (iY (l_ T)<|dQ (ae Γ a)<|dQ (tC<|.ty T.nm) iX)
 |.FI a c=>eU Γ.K (iY (FD Γ.K)<|dQ (ae Γ a)<|dQ (ae Γ c) iX)
 |.bz m o as=>eU Γ.K (pZ Γ.K m (ae Γ o)<|ba Γ as)
 |.ix a b=>eU Γ.K (eJ (ma Γ.K Γ.sd) (ae Γ a)<|ae Γ b)
 |.bin op a b=>eU Γ.K (eJ (iD Γ.K op) (ae Γ a)<|ae Γ b)
 |.fld o f=>eU Γ.K (vo Γ.K (ae Γ o) f)
 |.xt T as=>eU Γ.K (T Γ.K<|ba Γ as)
 |.xm T o as=>eU Γ.K (T Γ.K (ae Γ o)<|ba Γ as)
 |.bj j m o as=>eU Γ.K (lX (Γ.ms j).1 m (Γ.ms j).2 [] Γ.E (ae Γ o)<|ba Γ as)
 |_=>fun _ _ _=>False
def ba(Γ:bo):List RE->TA
 |[]=>iX
 |a::r=>dQ (ae Γ a) (ba Γ r)
def FQ(Γ:bo):List RE->TE
 |[]=>fun _ _ _=>False
 |[a]=>ae Γ a
 |a::r=>DP (ae Γ a) (FQ Γ r)
def FR(Γ:bo):List RE->TE
 |[]=>fun _ _ _=>False
 |[a]=>ae Γ a
 |a::r=>NQ (ae Γ a) (FR Γ r)
def FT(Γ:bo):List RE->TT
 |[]=>fun _ _ _=>False
 |[a]=>bg Γ a
 |a::r=>DM (bg Γ a) (FT Γ r)
def FU(Γ:bo):List RE->TT
 |[]=>fun _ _ _=>False
 |[a]=>bg Γ a
 |a::r=>DN (bg Γ a) (FU Γ r)
def me(Γ:bo):Option RE->TO
 |none=>EF
 |some a=>vx (ae Γ a)
def vT(Γ:bo):Option RE->Option TT
 |none=>none
 |some a=>some (bg Γ a)
def gJ(Γ:bo)(k:IK):List RE->TI
 |[]=>fun _ _ _=>False
 |a::r=>match k with
  |.list=>yw Γ.K (ae Γ a)
  |.tup=>yx Γ.K (ae Γ a)
  |.dz=>D8 (dQ (ae Γ a)<|ba Γ r)
  |.r9=>D9 (dQ (ae Γ a)<|ba Γ r)
  |.zip=>zh Γ.K (dQ (ae Γ a)<|ba Γ r)
  |.RP=>R5 Γ.K (dQ (ae Γ a)<|ba Γ r)
  |.txt=>R9 (ae Γ a)
  |.RQ=>R7 Γ.K (dQ (ae Γ a)<|ba Γ r)
  |.RT=>Sa (dQ (ae Γ a)<|ba Γ r)
end
structure cP where
 N:List Str
 sc:Scope
 fn:List Str
 gn:List Str
 bl:List Str
 mn:List Str
 kn:List Str
 en:List Str
 hn:List Str
 md:Nat
def zi(sc:Scope)(x:Str):Bool:=match sc.names.lookup x with
 |some .local=>true|some .cell=>true|some .free=>true|_=>false
def loc(sc:Scope)(x:Str):Bool:=match sc.names.lookup x with
 |some .local=>true|some .cell=>true|_=>false
def mf(sc:Scope)(x:Str):Bool:=match sc.names.lookup x with
 |some .globalImplicit=>true|_=>false
theorem Sb{sc:Scope}{x:Str}(h:zi sc x=true):uU sc x:=by
 unfold zi at h;unfold uU;cases e:sc.names.lookup x with
 |none=>rw[e] at h;cases h
 |some k=>rw[e] at h;cases k<;>first|exact .inl rfl|exact .inr (.inl rfl)|exact .inr (.inr rfl)|cases h
theorem zj{sc:Scope}{x:Str}(h:loc sc x=true):Loc sc x:=by
 unfold loc at h;unfold Loc;cases e:sc.names.lookup x with
 |none=>rw[e] at h;cases h
 |some k=>rw[e] at h;cases k<;>first|exact .inl rfl|exact .inr rfl|cases h
theorem Se{sc:Scope}{x:Str}(h:mf sc x=true):sc.names.lookup x=some .globalImplicit:=by
 unfold mf at h;cases e:sc.names.lookup x with
 |none=>rw[e] at h;cases h
 |some k=>rw[e] at h;cases k<;>first|rfl|cases h
structure sj where
 elt:Expr
 tg:Expr
 iter:Expr
 ifs:List Expr
 sc:Scope
def kS.nm:kS->Str
 |.len=> "len" |.min=> "min" |.max=> "max" |.sum=> "sum" |.int=> "int" |.list=> "list" |.tuple=> "tuple" |.abs=> "abs"
def hX.nm:hX->Str
 |.append=> "append" |.pop=> "pop" |.extend=> "extend" |.join=> "join" |.lstrip=> "lstrip" |.starts=> "startswith" |.reverse=> "reverse" |.clear=> "clear" |.index=> "index" |.find=> "find" |.count=> "count" |.FF=> "count" |.ze=> "index"
def mh:Expr->Bool
 |.Call (.Name _ _) [] [] _=>false
 |_=>true
def noStar:Expr->Bool
 |.Starred ..=>false
 |_=>true
def sk:Expr->Bool
 |.Set ..=>false
 |_=>true
def zk(FV sc:Scope):Scope:=
 {FV with names:=FV.names.map fun(n,k)=>if (k==.free && sc.kind==.function && sc.names.lookup n==some .cell) then (n,.cell) else (n,k)}
def zl(tk:Option Nat)(tg:Expr):Option (List Str):=match tk,tg with
 |none,.Name x _=>some [x]
 |some 2,.Tuple [.Name x _,.Name y _] _ _=>some [x,y]
 |_,_=>none
def FW(S:cP)(c:sj)(ln:List Str)(fv:List (Str×Nat)):cP:={S with N:=ln++fv.map (·.1),sc:=zk c.sc S.sc,en:=[],md:=if S.md=0 then 0 else 2}
def zm(S:cP)(c:sj)(ln:List Str)(fv:List (Str×Nat)):Bool:=
 decide (c.sc.kind=.function) && c.sc.names.all (fun y=>decide<|y.2≠ .cell) && c.sc.names.all (fun y=>decide (y.2≠ .local)||decide (c.sc.names.lookup y.1=some .local))
 && c.sc.names.all (fun y=>decide (y.2≠ .free)||decide (S.sc.names.lookup y.1=some .cell)||decide (S.sc.names.lookup y.1=some .free))
 && fv.all (fun p=>decide (S.N[p.2]?=some p.1) && decide (c.sc.names.lookup p.1=some .free))
 && ln.all (fun x=>decide<|c.sc.names.lookup x=some .local) && decide ((ln++fv.map (·.1)).Nodup) && sk c.iter
theorem Sf{P:Program}{w:World}{K:Frag}{elts:List Expr}{k:Nat}{pos:Pos}{z TI TO i1 i2 l1 l2:Addr}(D:ZipApart z TI TO i1 i2 l1 l2)(dl:l1≠TI/\l2≠TI):
  Turn P w K (.Tuple elts k pos) (si K l1 l2) [z,TI,TO,i1,i2] z
   (fun i h=>IsZip h z TI TO .none/\IsPair h TI (.ref i1) (.ref i2)/\(∃a b,IsPair h TO a b)/\h.IsListIter i1 l1 i/\h.IsListIter i2 l2 i) where
 mem:=by simp
 obj:=fun i h st b hb=>by
  obtain⟨hz,kT,⟨a,b',kU⟩,⟨o1,e1,c1,d1⟩,⟨o2,e2,c2,d2⟩⟩:=st
  simp only[zaa,zab,or_false] at hb
  rcases hb with rfl|rfl|rfl|rfl|rfl
  ·exact⟨_,hz,fun v q=>by cases q⟩
  ·exact⟨_,kT,fun v q=>by cases q⟩
  ·exact⟨_,kU,fun v q=>by cases q⟩
  ·exact⟨_,e1,fun v q=>by rw[d1] at q;cases q⟩
  ·exact⟨_,e2,fun v q=>by rw[d2] at q;cases q⟩
 keep:=fun i h h' st hk=>by
  obtain⟨hz,kT,⟨a,b',kU⟩,h1,h2⟩:=st;exact⟨hk z (by simp) _ hz,hk TI (by simp) _ kT,⟨a,b',hk TO (by simp) _ kU⟩,h1.at fun o e=>hk i1 (by simp) o e,h2.at fun o e=>hk i2 (by simp) o e⟩
 item:=by
  intro X hP hw hK hc i pins s σ H E I hf st hg;subst hP hw hK;obtain⟨xs,ys,hx,hy,hi1,zo⟩:=hg;obtain⟨oj,r1,p1,z1⟩:=I.list hx;obtain⟨fY,r2,p2,z2⟩:=I.list hy;have dD:=r1.length;have rP:=r2.length;have W:=WalksT.zip2 (prog:=X.prog) (w:=X.w) (A:=X.A) (I.ok.hd hc) z TI TO i1 i2 l1 l2 D oj.toArray fY.toArray;obtain⟨hz,kT,kU,h1,h2⟩:=id st;have hn:i<min oj.toArray.size fY.toArray.size:=by simp only[zah];lia
  refine W.item i s _ _ hn ⟨hz,kT,kU,h1,h2,p1.isList,p2.isList⟩ fun T vals h' tk hv hT Sg mid hk=>?_;refine⟨.ref T,rfl,?_⟩;refine W.go elts k pos i T _ _ _ mid fun vU Sh FX=>?_;obtain⟨u,v,eu,ev,rfl⟩:=hv;have fz:∀b∈ [z,TO,i1,i2],b∈ [z,TI,TO,i1,i2]:=fun b hb=>by
   simp only[zaa,zab,or_false] at hb⊢
   rcases hb with rfl|rfl|rfl|rfl<;>simp
  have kk:∀b o,b∉ [z,TO,i1,i2]->s.heap.get? b=some o->vU.get? b=some o:=fun b o hb e=>FX b o hb (hk b o hb e);have I1:Inv X pins σ H {s with heap:=vU,toks:=tk}:=by
   refine I.step (g':=s.gens) (d':=s.drawn) (ch:=[z,TO,i1,i2]) (fun b hb=>?_) (fun b o _ _ hc e _=>kk b o hc e) (fun b o _ _ hc e _=>⟨o.slots,kk b o hc e⟩) (fun _ _ _ _ n=>n)
    (fun b o hc e=>⟨o,kk b o hc e⟩) (fun _ _ e=>e) (fun _ _ _ e=>e) (fun b ps e=>⟨#[],by rw[e];simp⟩) (fun m hm=>?_) (fun b o e=>?_) I.bare
   ·obtain⟨f0,f1,f2,f3,f4,f5⟩:=hf b (fz b hb);exact⟨f3,f1,f4,f5⟩
   ·obtain⟨o,es,ep,ho,r⟩:=hm;exact⟨o,es,ep,kk _ o (fun hb=>(hf _<|fz _ hb).2.1 rfl) ho,r⟩
   ·have nb:∀c o',H c=some o'->c∉ [z,TO,i1,i2]:=fun c o' e hb=>by
     rw[(hf c<|fz c hb).1] at e;cases e
    refine(I.aE b o e).jP (fun c q hG e'=>kk c q ?_ e') (fun _ q=>q) fun _ _ q=>q;rcases hG with rfl|hG
    ·exact nb _ _ e
    ·exact nb _ _ hG
  have p3:s.heap.objs.size<=T:=hT;have fT:H T=none:=I.aE.fresh p3;have aT:T∉ [z,TO,i1,i2]:=W.apart i T h' mid;have tT:vU.IsTuple T #[u,v]:=by
   obtain⟨o,ho,q⟩:=Sg;exact⟨o,FX T o aT ho,q⟩
  obtain⟨a,so,ra⟩:∃a,xs[i]?=some a/\RelV a u:=by
   have e:oj[i]?=some u:=by simpa using eu
   have:i<xs.length:=by lia
   obtain⟨u',e',r'⟩:=r1.get (i:=i) (x:=xs[i]) (by simp[this])
   rw[e] at e';cases e';exact⟨xs[i],by simp[this],r'⟩
  obtain⟨b,Si,rb⟩:∃b,ys[i]?=some b/\RelV b v:=by
   have e:fY[i]?=some v:=by simpa using ev
   have:i<ys.length:=by lia
   obtain⟨u',e',r'⟩:=r2.get (i:=i) (x:=ys[i]) (by simp[this])
   rw[e] at e';cases e';exact⟨ys[i],by simp[this],r'⟩
  have sz0:=I.sz;have I2:Inv X pins σ (upd H T<|.tup [a,b]) {s with heap:=vU,toks:=tk}:=by
   refine Inv.E7 I1 fT (zas I.sz p3) (Nat.ne_of_gt<|zat I.lt p3) (fun x c e q=>?_) (fun p hp q=>?_) ⟨by show 2<=sizeLine;decide,[u,v],.cons ra<|.cons rb .nil,tT⟩
   ·obtain⟨v',q'⟩:=I.cell x c e;have:=q'.lt;rw[q] at this;exact absurd (zat this p3)<|zaD _
   ·have:=Heap.lt_size (I.pin p hp).1;rw[q] at this;exact absurd (zat this p3)<|zaD _
  refine⟨.ref T,_,I2,rfl,⟨T,fT,rfl,fun fA cq a' b' kN yU ea eb=>?_⟩,?_,fun c hG=>?_⟩
  ·rw[I.yp kN hx,so] at ea;rw[I.yp yU hy,Si] at eb;cases ea;cases eb;rfl
  ·obtain⟨q1,q2,q3,q4,q5,_⟩:=Sh;exact⟨q1,q2,q3,q4,q5⟩
  ·have n0:=(hf c hG).1;have:c≠T:=fun q=>by
    obtain⟨o,e,_⟩:∃o,s.heap.get? c=some o/\True:=by
     obtain⟨hz,kT,⟨a',b',kU⟩,⟨o1,e1,_⟩,⟨o2,e2,_⟩⟩:=st
     simp only[zaa,zab,or_false] at hG
     rcases hG with rfl|rfl|rfl|rfl|rfl
     ·exact⟨_,hz,trivial⟩
     ·exact⟨_,kT,trivial⟩
     ·exact⟨_,kU,trivial⟩
     ·exact⟨_,e1,trivial⟩
     ·exact⟨_,e2,trivial⟩
    have:=Heap.lt_size e;rw[q] at this;exact absurd (zat this p3)<|zaD _
   rw[aC this];exact n0
 done:=by
  intro X hP hw hK hc i pins s σ H E I hf st hg;subst hP hw hK;obtain⟨xs,ys,hx,hy,hi⟩:=hg;obtain⟨oj,r1,p1,z1⟩:=I.list hx;obtain⟨fY,r2,p2,z2⟩:=I.list hy;have dD:=r1.length;have rP:=r2.length;have W:=WalksT.zip2 (prog:=X.prog) (w:=X.w) (A:=X.A) (I.ok.hd hc) z TI TO i1 i2 l1 l2 D oj.toArray fY.toArray;obtain⟨hz,kT,kU,h1,h2⟩:=id st;have hn:i=min oj.toArray.size fY.toArray.size:=by simp only[zah];lia
  subst hn;refine W.done s _ _ ⟨hz,kT,kU,h1,h2,p1.isList,p2.isList⟩ fun h' tk hk=>⟨rfl,?_⟩;have fz:∀b∈ [z,TO,i1,i2],b∈ [z,TI,TO,i1,i2]:=fun b hb=>by
   simp only[zaa,zab,or_false] at hb⊢
   rcases hb with rfl|rfl|rfl|rfl<;>simp
  refine I.step (g':=s.gens) (d':=s.drawn) (ch:=[z,TO,i1,i2]) (fun b hb=>?_) (fun b o _ _ hc e _=>hk b o hc e) (fun b o _ _ hc e _=>⟨o.slots,hk b o hc e⟩) (fun _ _ _ _ n=>n)
   (fun b o hc e=>⟨o,hk b o hc e⟩) (fun _ _ e=>e) (fun _ _ _ e=>e) (fun b ps e=>⟨#[],by rw[e];simp⟩) (fun m hm=>?_) (fun b o e=>?_) I.bare
  ·obtain⟨f0,f1,f2,f3,f4,f5⟩:=hf b (fz b hb);exact⟨f3,f1,f4,f5⟩
  ·obtain⟨o,es,ep,ho,r⟩:=hm;exact⟨o,es,ep,hk _ o (fun hb=>(hf _<|fz _ hb).2.1 rfl) ho,r⟩
  ·have nb:∀c o',H c=some o'->c∉ [z,TO,i1,i2]:=fun c o' e hb=>by
    rw[(hf c<|fz c hb).1] at e;cases e
   refine(I.aE b o e).jP (fun c q hG e'=>hk c q ?_ e') (fun _ q=>q) fun _ _ q=>q;rcases hG with rfl|hG
   ·exact nb _ _ e
   ·exact nb _ _ hG
 self:=fun A i s Q E st hQ=>wpAny_pyIter_zip st.1 hQ
theorem boot_zip:bootBuiltins "zip"=some (.type "zip"):=by decide+kernel
theorem Sj{X:Cx}{elts:List Expr}{k:Nat}{yE:Pos}{a b:Expr}{ta:TA}{p pos:Pos}(hg:Gl X "zip")(hm:X.mg "zip"=none)(ha:PA X [a,b] ta)
  (hs:starEach [a,b] X.env=(false,eval a X.env)::starEach [b] X.env) (jV:(backTo pos<|starEach [b] X.env).any (·.1)=false):
  PI X (.Tuple elts k yE) (.Call (.Name "zip" p) [a,b] [] pos) (zh X.K ta):=by
 intro pins s σ H R I h;refine Call_<|pN I hg hm boot_zip<|PyProof.Rows.callWith_type1 (aL (ha pos pins s σ H _ I h) fun us s1 ⟨vs,H1,I1,r1,q1⟩=>?_) hs jV;obtain⟨l1,l2,e,⟨xs,hx⟩,⟨ys,hy⟩,q⟩:=q1;subst e;obtain⟨u,v,rfl,ru,rv⟩:=vals2 r1;cases ru;cases rv;obtain⟨oj,rr1,p1,z1⟩:=I1.list hx;obtain⟨fY,rr2,p2,z2⟩:=I1.list hy;refine call_zip_2 p1.isList p2.isList fun h' a1 a2 a3 a4 a5 a6 hk=>?_;refine wpAny_pyIter_zip a1 ?_;have FY: @LT.lt Nat _ l1 s1.heap.objs.size:=by obtain⟨_,e,_⟩:=p1.isList;exact Heap.lt_size e
 have FZ: @LT.lt Nat _ l2 s1.heap.objs.size:=by obtain⟨_,e,_⟩:=p2.isList;exact Heap.lt_size e
 have D:ZipApart (s1.heap.objs.size+4) (s1.heap.objs.size+2) (s1.heap.objs.size+3) s1.heap.objs.size (s1.heap.objs.size+1) l1 l2:=by
  constructor<;>(show @Ne Nat _ _;lia)
 have I2:Inv X pins σ H1 {s1 with heap:=h'}:=I1.kept (t':=s1.toks) hk
 refine⟨_,_,_,_,H1,rfl,I2,Sf D ⟨by show @Ne Nat _ _;lia,by show @Ne Nat _ _;lia⟩,⟨a1,a2,⟨_,_,a3⟩,a4,a5⟩,fun b' hb=>?_,q⟩
 have hle:s1.heap.objs.size<=b':=by
  simp only[zaa,zab,or_false] at hb
  rcases hb with rfl|rfl|rfl|rfl|rfl
  ·exact zbo _ _
  ·exact zbo _ _
  ·exact zbo _ _
  ·exact zqR _
  ·exact zbo _ _
 have:=I1.ve (b:=b') (H':=H1) hle (I1.aE.fresh hle);exact this
end L2
set_option maxHeartbeats 400000
namespace L2
open PySem PySem.Spec PyProof.Rows
end L2
set_option maxHeartbeats 1000000
set_option maxHeartbeats 400000
namespace L2
open PySem PySem.Spec PyProof.Rows
inductive bI (J:Shared->Prop) {α:Type}:Sem α->Prop
 |pure (a:α):bI J (.pure a)
 |raise (e:Value):bI J (.raise e)
 |unsupported (w:String):bI J (.unsupported w)
 |rule {t:String}{k:Unit->Sem α}:bI J (k ())->bI J (.rule t k)
 |load {a:Addr}{p:Option Value}{k:Obj->Sem α}:(∀o,bI J<|k o)->bI J (.load a p k)
 |update {a:Addr}{p:Option Value}{f:Obj->Obj}{k:Unit->Sem α}:(∀s,J s->J {s with heap:=s.heap.update a f})->bI J (k ())->bI J (.update a p f k)
 |alloc {o:Obj}{k:Addr->Sem α}:(∀s,J s->J {s with heap:=s.heap.push o})->(∀a,bI J<|k a)->bI J (.alloc o k)
 |stack {k:List (Code×Pos)->Sem α}:(∀t,bI J<|k t)->bI J (.stack k)
theorem Sk{M:Model}{Γ:PySem.Ctx}{J:Shared->Prop}{α:Type}{t:Sem α}(kt:bI J t):∀{Q:α->Pos->Shared->Prop}{E:Value->Pos->Shared->Prop}{p:Pos}{s:Shared},J s->Sem.wp M Γ t Q E p s->
  Sem.wp M Γ t (fun a p s=>Q a p s/\J s) (fun e p s=>E e p s/\J s) p s:=by
 induction kt with
 |pure a=>intro Q E p s j h;rw[Sem.wp] at h⊢;exact⟨h,j⟩
 |raise e=>intro Q E p s j h;rw[Sem.wp] at h⊢;exact⟨h,j⟩
 |unsupported w=>intro Q E p s j h;rw[Sem.wp] at h;exact h.elim
 |rule _ ih=>intro Q E p s j h;rw[Sem.wp] at h⊢;exact ih j h
 |load _ ih=>intro Q E p s j h;rw[Sem.wp] at h⊢;obtain⟨o,e,h⟩:=h;exact⟨o,e,ih o j h⟩
 |update f _ ih=>intro Q E p s j h;rw[Sem.wp] at h⊢;exact⟨h.1,ih (f _ j) h.2⟩
 |alloc f _ ih=>intro Q E p s j h;rw[Sem.wp] at h⊢;exact ih _ (f _ j) h
 |stack _ ih=>intro Q E p s j h;rw[Sem.wp] at h⊢;exact ih _ j h
theorem sq{M:Model}{A:Around}{J:Shared->Prop}{α:Type}{t:Sem α}{Q:α->Shared->Prop}{E:Value->Shared->Prop}{s:Shared}(k:bI J t)(j:J s)(h:wpAny M A t Q E s):
  wpAny M A t (fun a s=>Q a s/\J s) (fun e s=>E e s/\J s) s:=fun Γ p hΓ=>Sk k j (h Γ p hΓ)
def dU(e:Addr)(s:Shared):Prop:= ∃o vs,s.heap.get? e=some o/\o.data=.fields vs/\vs[2]?=some .none/\o.dict=none
theorem Sl(f:Array Value->Array Value)(o:Obj):(Obj.mapFields f o).dict=o.dict:=by
 unfold Obj.mapFields
 split<;>rfl
theorem Sm{e a:Addr}{i:Nat}{v:Value}(hi:i≠2)(s:Shared)(j:dU e s):dU e {s with heap:=s.heap.update a (Obj.mapFields (·.setIfInBounds i v))}:=by
 obtain⟨o,vs,h1,h2,h3,h4⟩:=j;by_cases z:a=e
 ·subst z;have d:=Obj.data_mapFields h2 (·.setIfInBounds i v);exact⟨_,_,Heap.get?_update_self _ h1<|Obj.isFreed_of_fields d,d,by rw[Array.getElem?_setIfInBounds_ne hi];exact h3,(Sl _ _).trans h4⟩
 ·exact⟨o,vs,(Heap.get?_update_other _ _ z).trans h1,h2,h3,h4⟩
theorem Sn{e a:Addr}{f:Obj->Obj}(hf:∀o,(f o).data=o.data/\(f o).dict=o.dict)(s:Shared)(j:dU e s):dU e {s with heap:=s.heap.update a f}:=by
 obtain⟨o,vs,h1,h2,h3,h4⟩:=j;by_cases z:a=e
 ·subst z;exact⟨_,vs,Heap.get?_update_self _ h1<|Obj.isFreed_of_fields<|(hf o).1.trans h2,(hf o).1.trans h2,h3,(hf o).2.trans h4⟩
 ·exact⟨o,vs,(Heap.get?_update_other _ _ z).trans h1,h2,h3,h4⟩
theorem So{e:Addr}{ob:Obj}(s:Shared)(j:dU e s):dU e {s with heap:=s.heap.push ob}:=by
 obtain⟨o,vs,h1,h2,h3,h4⟩:=j;exact⟨o,vs,Heap.get?_push_of_some _ h1,h2,h3,h4⟩
theorem bI.bind{J:Shared->Prop}{α β:Type}{t:Sem α}{f:α->Sem β}(kt:bI J t)(h:∀a,bI J<|f a):bI J (t>>=f):=by
 show bI J (t.bind f)
 induction kt with
 |pure a=>exact h a
 |raise e=>exact .raise e
 |unsupported w=>exact .unsupported w
 |rule _ ih=>exact .rule ih
 |load _ ih=>exact .load ih
 |update g _ ih=>exact .update g ih
 |alloc g _ ih=>exact .alloc g ih
 |stack _ ih=>exact .stack ih
section
variable {e:Addr}
theorem zq{a:Addr}:bI (dU e) (load a):=.load fun o=>.pure o
theorem zt{v x:Value}{i:Nat}(hi:i≠2):bI (dU e) (setField v i x):=by
 unfold setField
 split
 ·rename_i a
  unfold updateField;refine zq.bind fun o=>?_
  split
  ·split
   ·exact .update (fun s j=>Sm hi s j) (.pure ())
   ·exact .unsupported _
  ·exact .unsupported _
 ·exact .unsupported _
theorem Sq{v:Value}:bI (dU e) (fieldsOf v):=by
 unfold fieldsOf
 split
 ·refine zq.bind fun o=>?_
  split
  ·exact .pure _
  ·exact .unsupported _
 ·exact .unsupported _
theorem vV{v:Value}{i:Nat}:bI (dU e) (field v i):=by
 unfold field;refine Sq.bind fun vs=>?_
 split
 ·exact .pure _
 ·exact .unsupported _
theorem zu{v:Value}{f:Option Addr}:bI (dU e) (setFlight v f):=by
 unfold setFlight;refine vV.bind fun tb=>?_
 split
 ·exact zt (by decide)
 ·exact .pure _
theorem zv:bI (dU e) stack:=.stack fun t=>.pure t
theorem Sr{ty:String}{vs:List Value}:bI (dU e) (newFields ty vs):=by
 unfold newFields newObj newObjAsIs;show bI (dU e) (if vs.toArray.size>sizeLine+2 then (unsupported "record:memory" >>=_) else _)
 split
 ·exact .unsupported _
 ·exact bI.bind (.alloc (fun s j=>So s j) fun a=>.pure a) fun a=>.pure _
theorem Ss{f:Addr}{b:Bool}:bI (dU e) (entryPlaceOf f b):=by
 unfold entryPlaceOf;refine zv.bind fun adN=>?_
 split
 ·exact .pure _
 ·exact .pure _
theorem F0:∀l:List Env,bI (dU e) (readyFrames l)
 |[]=>.pure _
 |env::outer=>by
  unfold readyFrames
  split
  ·refine zq.bind fun o=>?_
   split
   ·exact .pure _
   ·refine bI.bind ?_ fun im=>bI.bind ?_ fun bk=>bI.bind (.update (fun s j=>Sn (by intro o;exact⟨rfl,rfl⟩) s j)<|.pure ()) fun _=>F0 outer
    ·unfold behindIsImport
     split
     ·exact .pure _
     ·split
      ·exact .pure _
      ·exact vV.bind fun _=>.pure _
    ·unfold keptBack
     split
     ·split
      ·exact .pure _
      ·unfold underTheClaimsCaller;exact bI.bind (zv.bind fun _=>.pure _) fun _=>.pure _
     ·exact .pure _
  ·exact .unsupported _
theorem Su{env:Env}:bI (dU e) (PySem.frameOf env):=by
 unfold PySem.frameOf frameEnvs;refine bI.bind (zv.bind fun _=>.pure _) fun l=>?_;refine bI.bind ?_ fun r=>?_
 ·unfold frameObject
  split
  ·exact .pure _
  ·exact(F0 _).bind fun _=>.pure _
 ·split
  ·exact .pure _
  ·exact .unsupported _
theorem F1{v:Value}{env:Env}:bI (dU e) (noteFrame v env):=by
 unfold noteFrame
 split
 ·rename_i x d hq
  refine vV.bind fun hd=>?_;have tail:bI (dU e) (do let a <-PySem.frameOf env;let pl <-entryPlaceOf d (hd !=.none);let b <-EntryCells.newEntry hd a .none (rawInt d) .none pl;setField v 1 b):=
   Su.bind fun a=>Ss.bind fun pl=>bI.bind Sr fun b=>zt (by decide)
  dsimp only
  split
  ·refine vV.bind fun x=>?_
   split
   ·exact .pure _
   ·exact(zt (by decide)).bind fun _=>tail
  ·exact tail
 ·exact .unsupported _
theorem F2{v:Value}{env:Env}:bI (dU e) (leaving env v):=by
 unfold leaving;exact F1.bind fun _=>zu
end
end L2
set_option maxHeartbeats 4000000
namespace L2
open PySem PySem.Spec PyProof.Rows
theorem cB.vW{P:Program}{w:World}{H:Hp}{h:Heap}{a:Addr}{o:HO}(x:cB P w H h a o):∃ob,h.get? a=some ob:=by
 cases o with
 |lst xs=>obtain⟨_,_,_,_,e⟩:=x;exact⟨_,e⟩
 |tup xs=>obtain⟨_,_,_,ob,e,_⟩:=x;exact⟨_,e⟩
 |dK kvs=>obtain⟨_,_,_,_,o,_,_,e,_⟩:=x;exact⟨_,e⟩
 |dT kvs=>obtain⟨_,_,_,_,o,_,_,e,_⟩:=x;exact⟨_,e⟩
 |set S n=>obtain⟨o,_,_,_,e,_⟩:=x;exact⟨_,e⟩
 |ins C dx fs=>obtain⟨_,_,_,e,_⟩:=x;exact⟨_,e⟩
 |own y=>obtain⟨_,e⟩:=x;exact⟨_,e⟩
 |xd fs=>obtain⟨_,⟨_,_,_,e,_⟩,_⟩:=x;exact⟨_,e⟩
 |dz lo hi=>obtain⟨_,_,_,e⟩:=x;exact⟨_,e⟩
 |bO ob u=>obtain⟨e,_⟩:=x;exact⟨_,e⟩
 |jO ps=>exact⟨_,(show h.get? a=some _ from x)⟩
 |met f y=>exact⟨_,(show h.get? a=some _ from x)⟩
 |ext φ=>obtain⟨_,⟨_,e⟩,_⟩:=x;exact⟨_,e⟩
theorem bR.zw{P:Program}{w:World}{H:Hp}{h h':Heap}(ok:bR P w H h)(k:∀b u,H b≠none->h.get? b=some u->h'.get? b=some u):bR P w H h':=fun a o e=>
 (ok a o e).jP (fun b u hb hu=>k b u (by
  rcases hb with rfl|hb
  ·rw[e];exact Option.some_ne_none _
  ·rw[hb];exact Option.some_ne_none _) hu) (fun _ z=>z) (fun _ _ z=>z)
def eV(P:Program)(w:World):cI:=fun outer H s E e s'=>∃(ea:Addr) (cls:Value) (t:Addr) (B:Heap) (H':Hp),
 e=.ref ea/\s'.os=s.os/\AllBare s'.gens/\Un (bx outer) [] H H' s.heap s'.heap/\bR P w H' s'.heap/\Heap.FlyingW B outer ea cls (.ref t) s'.heap/\dU ea s'/\H' ea=none/\
 (∀b,H' b≠none->∀o,s'.heap.get? b=some o->B.get? b=some o)/\(∀b o,s.heap.get? b=some o->b∉bx outer->∀o',s'.heap.get? b=some o'->B.get? b=some o')/\E cls none H'
theorem F3{P:Program}{w:World}{outer:List Env}{H:Hp}{s:Shared}{e:Value}{s':Shared}(h:eV P w outer H s E0 e s'):False:=by
 obtain⟨_,_,_,_,_,_,_,_,_,_,_,_,_,_,_,h⟩:=h;exact h
section
variable {P:Program}{w:World}{K:Frag}{mg:Str->Option Value}{base:Heap}{N:List Str}{qual:Str}{scope:Scope}{f:Addr}{cd:Value}{A:Around}{outer:List Env}{s₀:Shared}{H₀:Hp}{E:XK}
theorem Sv:Passes (eV P w) (nP (eV P w) P w K mg base N qual scope f cd A outer s₀ H₀ E) E:=by
 intro pins σ H s e s' I hx;obtain⟨ea,cls,t,B,H',rfl,os,bare,u,aE,fl,sr,om,c1,c2,hE⟩:=hx;have sx:=I.ok.frames;have hL:s₀.heap.objs.size<= (envOfC qual scope s₀.heap.objs.size f cd).locals:=I.ok.above;have nL:∀b o,s₀.heap.get? b=some o->b∉bx outer->b∉bx (envOfC qual scope s₀.heap.objs.size f cd::outer):=fun b o hb hn hm=>by
  have zx:b∈ (envOfC qual scope s₀.heap.objs.size f cd).locals::bx outer:=hm;rcases zaa.mp zx with rfl|z
  ·exact absurd (Heap.lt_size hb) (Nat.not_lt.mpr hL)
  ·exact hn z
 have jj:∀b∈bx (envOfC qual scope s₀.heap.objs.size f cd::outer),H' b=none:=fun b hb=>by
  obtain⟨o,ho,_⟩:=(I.stack.mem hb).2;exact u.free b o ho (I.uZ b hb) zab
 refine wpAny_mono (sq F2 sr<|wpAny_leaves_onW (Q:=fun _ gE=>∃h',gE={s' with heap:=h'}/\Heap.FlyingW B outer ea cls (.ref t) h'/\s'.heap.UpToSlots h') (E:=fun _ _=>False) sx rfl fl fun h' i5 up=>⟨h',rfl,i5,up⟩)
  (fun _ gE hq=>?_) (fun _ _ z=>z.1.elim)
 obtain⟨⟨h',rfl,i5,up⟩,zy⟩:=hq;have into:∀b o,s.heap.get? b=some o->b∉bx (envOfC qual scope s₀.heap.objs.size f cd::outer)->∀o',s'.heap.get? b=some o'->h'.get? b=some o':=fun b o hb hn o' dA=>i5.1 b o' (c2 b o hb hn o' dA);have jQ:∀b o,H' b≠none->s'.heap.get? b=some o->h'.get? b=some o:=fun b o hb ho=>i5.1 b o (c1 b hb o ho);have gK:∀b∈bx (envOfC qual scope s₀.heap.objs.size f cd::outer),∀o,s'.heap.get? b=some o->∃sl,h'.get? b=some {o with slots:=sl}:=fun b hb o ho=>by
  obtain⟨o1,ju,hd⟩:=(fl.2.2.1.mem hb).2;rw[ho] at ju;cases ju;exact up b o ho hd
 refine⟨ea,cls,t,B,H',rfl,os.trans I.os,bare,⟨fun b o q n hn _=>?_,fun b o q n hn _=>?_,fun b o q n _=>?_,fun b o q _=>?_,fun b xs q=>u.dP b xs (I.base.dP b xs q),fun b o v q=>u.fO b o v (I.base.fO b o v q),fun b ps q=>?_⟩,
  aE.zw (fun b o hb ho=>jQ b o hb ho),i5,zy,om,fun b hb o ho=>?_,fun b o q hn o' dA=>?_,hE⟩
 ·have q1:=I.base.keep b o q n hn zab;have n1:=I.base.free b o q n zab;have gb:=nL b o q hn;exact into b o q1 gb o<|u.keep b o q1 n1 gb zab
 ·obtain⟨sl,q1⟩:=I.base.slot b o q n hn zab;have n1:=I.base.free b o q n zab;have gb:b∈bx (envOfC qual scope s₀.heap.objs.size f cd::outer):=zav _ hn;obtain⟨rM,q2⟩:=u.slot b _ q1 n1 gb zab;obtain⟨zz,q3⟩:=gK b gb _ q2;exact⟨zz,q3⟩
 ·obtain⟨o1,q1⟩:=I.base.there b o q zab;exact u.free b o1 q1 (I.base.free b o q n zab) zab
 ·obtain⟨o1,q1⟩:=I.base.there b o q zab;obtain⟨o2,q2⟩:=u.there b o1 q1 zab;by_cases hm:b∈bx (envOfC qual scope s₀.heap.objs.size f cd::outer)
  ·obtain⟨sl,q3⟩:=gK b hm o2 q2;exact⟨_,q3⟩
  ·exact⟨o2,into b o1 q1 hm o2 q2⟩
 ·obtain⟨m1,e1⟩:=I.base.gB b ps q;obtain⟨m2,e2⟩:=u.gB b _ e1;exact⟨m1++m2,by rw[e2,Array.append_assoc]⟩
 ·obtain⟨fX,hH⟩:=zbH.mp hb;obtain⟨o2,q2⟩:=(aE b fX hH).vW;have q3:=jQ b o2 hb q2;have jv:h'.get? b=some o:=ho;rw[q3] at jv;cases jv;exact c1 b hb _ q2
 ·obtain⟨o1,q1⟩:=I.base.there b o q zab;obtain⟨o2,q2⟩:=u.there b o1 q1 zab;have gb:=nL b o q hn;have q3:=into b o1 q1 gb o2 q2;have jv:h'.get? b=some o':=dA;rw[q3] at jv;cases jv;exact c2 b o1 q1 gb _ q2
def Raises(X:Cx)(E:XK):Prop:= ∀(pins:List (Addr×Obj)) (σ:St) (H:Hp) (s:Shared) (h':Heap) (e:Addr) (cls:Value) (vs:List Value),Inv X pins σ H s->Heap.MadeExcOf s.heap h' e cls vs->E cls none H->X.xe (.ref e) {s with heap:=h'}
theorem Sx:Raises (nP (eV P w) P w K mg base N qual scope f cd A outer s₀ H₀ E) E:=by
 intro pins σ H s h1 e cls vs I hx hE;have sx:=I.ok.frames;have hL:s₀.heap.objs.size<= (envOfC qual scope s₀.heap.objs.size f cd).locals:=I.ok.above;have nL:∀b o,s₀.heap.get? b=some o->b∉bx outer->b∉bx (envOfC qual scope s₀.heap.objs.size f cd::outer):=fun b o hb hn hm=>by
  have zx:b∈ (envOfC qual scope s₀.heap.objs.size f cd).locals::bx outer:=hm;rcases zaa.mp zx with rfl|z
  ·exact absurd (Heap.lt_size hb) (Nat.not_lt.mpr hL)
  ·exact hn z
 have zA:∀env∈ (envOfC qual scope s₀.heap.objs.size f cd::outer),∀b,env.frame=some b->b∈bx (envOfC qual scope s₀.heap.objs.size f cd::outer):=fun env he b hb=>zbF.mpr ⟨env,he,hb⟩;have sr:dU e {s with heap:=h1}:=by
  obtain⟨t,ht,_,_⟩:=hx.there;exact⟨_,_,ht,rfl,rfl,rfl⟩
 refine wpAny_mono (sq F2 sr (wpAny_leaves_madeW (Q:=fun _ gE=>∃h' t,gE={s with heap:=h'}/\Heap.FlyingW (hideAll s.heap (bx (envOfC qual scope s₀.heap.objs.size f cd::outer))) outer e cls (.ref t) h'/\h1.UpToSlots h') (E:=fun _ _=>False)
  sx rfl (fun b o q=>of_hideAll _ q) (PySem.W.funFrames_hide I.stack zA) hx fun h' t i5 _ _ up=>⟨h',t,rfl,i5,up⟩)) (fun _ gE hq=>?_) (fun _ _ z=>z.1.elim)
 obtain⟨⟨h',t,rfl,i5,up⟩,zy⟩:=hq;have into:∀b o,s.heap.get? b=some o->b∉bx (envOfC qual scope s₀.heap.objs.size f cd::outer)->h'.get? b=some o:=fun b o hb hn=>i5.1 b o (hideAll_get _ hb hn);have zB:∀b,H b≠none->b∉bx (envOfC qual scope s₀.heap.objs.size f cd::outer):=fun b hb hm=>hb (I.uZ b hm);have gK:∀b∈bx (envOfC qual scope s₀.heap.objs.size f cd::outer),∀o,s.heap.get? b=some o->∃sl,h'.get? b=some {o with slots:=sl}:=fun b hb o ho=>by
  obtain⟨o1,ju,hd⟩:=(I.stack.mem hb).2;rw[ho] at ju;cases ju;exact up b o (hx.keeps b o ho) hd
 refine⟨e,cls,t,_,H,rfl,I.os,I.bare,⟨fun b o q n hn _=>?_,fun b o q n hn _=>?_,fun b o q n _=>I.base.free b o q n zab,fun b o q _=>?_,I.base.dP,I.base.fO,I.base.gB⟩,
  I.aE.zw (fun b o hb ho=>into b o ho (zB b hb)),i5,zy,?_,fun b hb o ho=>?_,fun b o q hn o' dA=>?_,hE⟩
 ·exact into b o (I.base.keep b o q n hn zab) (nL b o q hn)
 ·obtain⟨sl,q1⟩:=I.base.slot b o q n hn zab;obtain⟨zz,q3⟩:=gK b (zav _ hn) _ q1;exact⟨zz,q3⟩
 ·obtain⟨o1,q1⟩:=I.base.there b o q zab;by_cases hm:b∈bx (envOfC qual scope s₀.heap.objs.size f cd::outer)
  ·obtain⟨sl,q3⟩:=gK b hm o1 q1;exact⟨_,q3⟩
  ·exact⟨o1,into b o1 q1 hm⟩
 ·cases q:H e with
  |none=>rfl
  |some ho=>
   obtain⟨o2,q2⟩:=(I.aE e ho q).vW;rw[hx.new] at q2;cases q2
 ·obtain⟨fX,hH⟩:=zbH.mp hb;obtain⟨o2,q2⟩:=(I.aE b fX hH).vW;have q3:=into b o2 q2 (zB b hb);have jv:h'.get? b=some o:=ho;rw[q3] at jv;cases jv;exact hideAll_get _ q2<|zB b hb
 ·obtain⟨o1,q1⟩:=I.base.there b o q zab;have gb:=nL b o q hn;have q3:=into b o1 q1 gb;have jv:h'.get? b=some o':=dA;rw[q3] at jv;cases jv;exact hideAll_get _ q1 gb
end
section
variable {X:Cx}
theorem Sy{x:Str}{C:Addr}{bm:List Value}{B newId p9:String}{e:Expr}{es:List Expr}{t:TA}{np du pos:Pos}{E:XK}(hc:X.calm=true)(O:OwnCls x C bm newId X.mg X.base)(FB:ExcBaseFacts B newId p9 bm)(zC:Gl X x)
  (hd:(x==("__debug__":Str))=false) (ha:PA X (e::es) t) (hs:starEach (e::es) X.env=(false,eval e X.env)::starEach es X.env) (h1:(backTo du<|starEach es X.env).any (·.1)=false) (hR:Raises X E):
  PS X (.Raise (some<|.Call (.Name x np) (e::es) [] du) none pos) (zd C E t):=by
 intro pins s σ H D I h;obtain⟨tl,N,nm,q,bs,hdct,sn,sub,ab,col,dd,k0,k1,k2,k3,k5,mN,hC,hN,vX,T⟩:=O.obj;have hg:PE X (.Name x np) (tC<|.ref C):=DL zC O.bound rfl hd;refine wpAny_Raise_call_subT (C:=C) (nm:=nm) (q:=q) (N:=N) (bs:=bs) (bm:=tl) (hdct:=hdct) (sn:=sn) (sub:=sub) (ab:=ab) (col:=col) (dd:=dd) (k0:=k0) (k1:=k1) (k2:=k2) (k3:=k3) (k5:=k5)
  FB (mN:=mN) (T.hasType FB.hasBase) (I.ok.hd hc) (by rw[hs];show(false ||(backTo du<|starEach es X.env).any (·.1))=false;rw[h1];rfl) vX
  (aL (hg pins s σ H (fun v H1=>v=.ref C/\zd C E t D σ H1) I ⟨rfl,h⟩) fun f s1 ⟨v,H1,I1,r1,ev,q1⟩=>?_)
 subst ev;obtain rfl:f=Value.ref C:=r1;refine⟨rfl,?_⟩;have hA:=ha du pins s1 σ H1 _ I1 q1;rw[hs] at hA⊢;refine Calls.evalArgs_plain<|aL hA fun us s2 ⟨vs,H2,I2,r2,hl,q2⟩=>⟨rfl,?_,I2.bk _ _ hC,hN.keeps I2.bk,T.keeps I2.bk,fun h' e' hm=>hR pins σ H2 s2 h' e' _ _ I2 hm q2⟩;have:=r2.length;show us.length<=sizeLine;lia
end
theorem F4{P:Program}{w:World}{l:List Env}{H H':Hp}{h h1 h' B:Heap}(u:Un (bx l) [] H H' h h1)(aE:bR P w H' h1)(fr:h1.FunFrames B l)
  (c1:∀b,H' b≠none->∀o,h1.get? b=some o->B.get? b=some o) (c2:∀b o,h.get? b=some o->b∉bx l->∀o',h1.get? b=some o'->B.get? b=some o') (st:B.StaysIn h') (up:h1.UpToSlots h'):
  Un (bx l) [] H H' h h'/\bR P w H' h'/\(∀b,H' b≠none->∀o,h'.get? b=some o->B.get? b=some o)/\(∀b o,h.get? b=some o->b∉bx l->∀o',h'.get? b=some o'->B.get? b=some o'):=by
 have jQ:∀b o,H' b≠none->h1.get? b=some o->h'.get? b=some o:=fun b o hb ho=>st b o (c1 b hb o ho);have into:∀b o,h.get? b=some o->b∉bx l->∀o',h1.get? b=some o'->h'.get? b=some o':=fun b o hb hn o' dA=>st b o' (c2 b o hb hn o' dA);have gK:∀b∈bx l,∀o,h1.get? b=some o->∃sl,h'.get? b=some {o with slots:=sl}:=fun b hb o ho=>by
  obtain⟨o1,ju,hd⟩:=(fr.mem hb).2;rw[ho] at ju;cases ju;exact up b o ho hd
 refine⟨⟨fun b o q n hn _=>into b o q hn o<|u.keep b o q n hn zab,fun b o q n hn _=>?_,u.free,fun b o q _=>?_,u.dP,u.fO,u.gB⟩,aE.zw<|fun b o hb ho=>jQ b o hb ho,fun b hb o ho=>?_,fun b o q hn o' dA=>?_⟩
 ·obtain⟨sl,q1⟩:=u.slot b o q n hn zab;obtain⟨rM,q2⟩:=gK b hn _ q1;exact⟨rM,q2⟩
 ·obtain⟨o1,q1⟩:=u.there b o q zab;by_cases hm:b∈bx l
  ·obtain⟨sl,q3⟩:=gK b hm o1 q1;exact⟨_,q3⟩
  ·exact⟨o1,into b o q hm o1 q1⟩
 ·obtain⟨fX,hH⟩:=zbH.mp hb;obtain⟨o2,q2⟩:=(aE b fX hH).vW;have q3:=jQ b o2 hb q2;rw[q3] at ho;cases ho;exact c1 b hb _ q2
 ·obtain⟨o2,q2⟩:=u.there b o q zab;have q3:=into b o q hn o2 q2;rw[q3] at dA;cases dA;exact c2 b o q hn _ q2
def Cx.alt(X:Cx)(A:Around)(calm:Bool)(pn:List (Addr×Obj))(xe:Value->Shared->Prop):Cx:={X with A:=A,calm:=calm,pn:=pn,xe:=xe}
theorem Inv.alt{X:Cx}{pins iU oo:List (Addr×Obj)}{σ:St}{H:Hp}{s:Shared}{A':Around}{p_:Bool}{zD:Value->Shared->Prop}(I:Inv X pins σ H s)(hf:A'.frames=X.A.frames)(hc:p_=true->A'.handled=none)(hp:∀p∈oo++iU,p∈X.pn++pins):
  Inv (X.alt A' p_ oo zD) iU σ H s where
 ok:=⟨I.ok.mod,I.ok.kind,I.ok.glob,I.ok.blt,I.ok.above,I.ok.inj,I.ok.has,I.ok.uV,hc,hf.trans I.ok.frames,I.ok.jj,I.ok.NB,I.ok.bs,I.ok.nE,I.ok.uW,I.ok.uX,I.ok.jk,I.ok.pL⟩
 os:=I.os
 bare:=I.bare
 base:=I.base
 loc:=I.loc
 cell:=I.cell
 free:=I.free
 ir:=I.ir
 pin:=fun p h=>I.pin p (hp p h)
 aE:=I.aE
 len:=I.len
theorem Inv.zE{X:Cx}{pins iU oo:List (Addr×Obj)}{σ:St}{H:Hp}{s:Shared}{A':Around}{p_:Bool}{zD:Value->Shared->Prop}(ok:X.Ok)(I:Inv (X.alt A' p_ oo zD) iU σ H s)(hp:∀p∈X.pn++pins,p∈oo++iU):
  Inv X pins σ H s where
 ok:=ok
 os:=I.os
 bare:=I.bare
 base:=I.base
 loc:=I.loc
 cell:=I.cell
 free:=I.free
 ir:=I.ir
 pin:=fun p h=>I.pin p (hp p h)
 aE:=I.aE
 len:=I.len
theorem Sz{P:Program}{w:World}{H:Hp}{h:Heap}{ea:Addr}{ob:Obj}(h1:h.get? ea=some ob):cB P w H h ea (.bO ob og):=
 ⟨h1,trivial,⟨ob,h1⟩,fun _ _ _ _=>trivial⟩
theorem bR.more{P:Program}{w:World}{H:Hp}{h:Heap}{a:Addr}{o:HO}(ok:bR P w H h)(ha:H a=none)(x:cB P w (upd H a o) h a o):bR P w (upd H a o) h:=fun b u e=>by
 by_cases z:b=a
 ·subst z;rw[aw] at e;cases e;exact x
 ·rw[aC z] at e;exact(ok b u e).jP (fun _ _ _ q=>q) (fun c q=>by rw[aC<|aK q ha];exact q) (fun c xs q=>by rw[aC<|aK q ha];exact q)
def F5(A:Around)(H:Hp):Prop:= ∃e D,A.handled=some (.ref e)/\ExcAt H e D
def Hd(X:Cx):Prop:=F5 X.A X.H₀
structure qd (k:Nat) (A:Around):Prop where
 dp:A.depth+3*k+5<recursionLimit
 un:A.units+16*k+200<cLine
 gd:A.guards=some []:=by rfl
theorem c7.h{k:Nat}{A:Around}(r:c7 k A):qd k A:=⟨r.dp,r.un,r.gd⟩
theorem qd.mark{k:Nat}{A:Around}(r:qd k A)(v:Option Value):qd k (A.mark v):=⟨r.dp,r.un,r.gd⟩
def SA(outer:List Env)(P:Program)(w:World)(H:Hp)(s:Shared)(Q:VK)(r:Result)(s':Shared):Prop:=
 match r with
 |.ok (.ret u)=>CE outer P w H s Q u s'
 |_=>False
structure F6 (P:Program) (w:World) (K:Frag) (mg:Str->Option Value) (base:Heap) (k:Nat) (f:Addr) (fd:FuncData) (ps:List Str) (sp:Sp):Prop where
 len:∀vs H Q E,sp vs H Q E->vs.length=ps.length
 run:∀(A:Around) (outer:List Env) (s:Shared) (H:Hp) (args:Args) (us:List Value) (vs:List V) (Q:VK),qd k A->F5 A H->lW P w K mg base A outer s H->BindsTo s fd args (ps.zip us)->Vals vs us->sp vs H Q E0->
  codeAny (model P w) A (.call (.ref f) args) (SA outer P w H s Q) s
def F7(CX:cI)(X:Cx)(x:Str)(sp:Sp):Prop:=
 ∃k f fd ps,cX X.prog X.w X.K X.mg X.base CX k f fd ps sp/\c7 k X.A/\X.mg x=some (.ref f)/\PySem.W.keepIn X.K (.ref f)=true/\Binds X.K fd ps []
def vY(CX:cI)(X:Cx)(C:Addr)(m:Str)(sp:Sp):Prop:=
 fj X.K C/\∃k f fd ps,Meth X.K C m f/\cX X.prog X.w X.K X.mg X.base CX k f fd ps sp/\c7 k X.A/\Binds X.K fd ps []
def F8(CX:cI)(X:Cx)(x:Str)(C:Addr)(sp:Sp):Prop:=
 ∃k f fd ps,Mk X.K C f/\cX X.prog X.w X.K X.mg X.base CX k f fd ps sp/\c7 (k+1) X.A/\X.mg x=some (.ref C)/\Binds X.K fd ps []
def F9(X:Cx)(x:Str)(sp:Sp):Prop:=
 ∃k f fd ps,F6 X.prog X.w X.K X.mg X.base k f fd ps sp/\qd k X.A/\X.mg x=some (.ref f)/\PySem.W.keepIn X.K (.ref f)=true/\Binds X.K fd ps []
def F_(X:Cx)(x:Str)(C:Addr):Prop:= ∃bm B newId p9,OwnCls x C bm newId X.mg X.base/\ExcBaseFacts B newId p9 bm
structure Good (CX:cI) (S:cP) (Γ:bo) (X:Cx):Prop where
 N:X.N=S.N
 sc:X.env.scope=S.sc
 K:X.K=Γ.K
 calm:S.md=0->X.calm=true
 units:X.A.units+64<cLine
 gd:X.A.guards=some []
 fns:S.md=0->∀j x,S.fn[j]?=some x->F7 CX X x (Γ.fs j)
 kW:∀j x,S.gn[j]?=some x->∃u,X.mg x=some u/\RelV (Γ.gv j) u
 gL:∀x,S.bl.contains x=true->X.mg x=none
 pass:Passes CX X Γ.E
 kY:∀outer H s e s',CX outer H s E0 e s'->False
 mj:∀p kvs,Γ.sd p kvs->∀h:Heap,X.K.In h->∃vs,KV kvs vs/\h.DictOf (eg X.prog X.w) p vs
 mr:S.md=0->∀j m,S.mn[j]?=some m->vY CX X (Γ.ms j).1 m (Γ.ms j).2
 oq:S.md=0->∀j x,S.kn[j]?=some x->F8 CX X x (Γ.kt j).1 (Γ.kt j).2
 sy:∀j x,S.en[j]?=some x->F_ X x (Γ.ex j)
 ot:∀j x,S.hn[j]?=some x->F9 X x (Γ.hs j)
 qe:∀e,Γ.hv=some e->X.A.handled=some (.ref e)
 sA:S.md=1->Hd X
theorem vZ{S:cP}(h:(if S.md=0 then 0 else 2)=0):S.md=0:=by
 split at h
 ·assumption
 ·cases h
section
variable {CX:cI}{S:cP}{Γ:bo}{X:Cx}
theorem Good.inner(G:Good CX S Γ X)(c:sj)(ln:List Str)(fv:List (Str×Nat))(ex:List Addr)(C:Addr)(s:Shared)(H:Hp):
  Good CX (FW S c ln fv) Γ.calm (gH X c.sc (ln++fv.map (·.1)) ex C s H) where
 N:=rfl
 sc:=by
  show relabel c.sc X.env=zk c.sc S.sc;rw[<-G.sc];rfl
 K:=G.K
 calm:=fun h=>G.calm (vZ h)
 units:=G.units
 gd:=G.gd
 fns:=fun m j x h=>G.fns (vZ m) j x h
 kW:=G.kW
 gL:=G.gL
 pass:=fun _ _ _ _ _ _ _ h=>(G.kY _ _ _ _ _ h).elim
 kY:=G.kY
 mj:=G.mj
 mr:=fun z j m h=>G.mr (vZ z) j m h
 oq:=fun z j x h=>G.oq (vZ z) j x h
 sy:=fun j x h=>by simp[FW] at h
 ot:=fun j x h=>G.ot j x h
 qe:=fun e h=>G.qe e h
 sA:=fun h=>by
  have h':(if S.md=0 then 0 else 2)=1:=h
  split at h'<;>cases h'
theorem Good.gl(G:Good CX S Γ X){x:Str}(h:mf S.sc x=true):Gl X x:=by
 show X.env.scope.names.lookup x=_;rw[G.sc];exact Se h
theorem dE{e:Expr}{es:List Expr}{env:Env}(h:noStar e=true):starEach (e::es) env=(false,eval e env)::starEach es env:=by
 cases e<;>first|rfl|cases h
theorem nU{o:Expr}{x:Str}{env:Env}(h:mh o=true):attributeBase o x env (eval o env)=eval o env:=by
 unfold attributeBase
 split
 ·cases h
 ·rfl
theorem v5{e:Expr}{env:Env}(h:sk e=true):∀x,foldedSetIterable e env x=pure x:=by
 intro x;cases e<;>first|rfl|cases h
def gM(es:List Expr):Bool:=es.all noStar
theorem jZ(env:Env)(pos:Pos):∀(es:List Expr),gM es=true->(backTo pos<|starEach es env).any (·.1)=false
 |[],h=>rfl
 |e::es,h=>by
  simp only[gM,zbb,zae] at h
  rw[dE h.1];have ih:=jZ env pos es h.2;show(false ||(backTo pos<|starEach es env).any (·.1))=false;rw[ih];rfl
theorem zF(env:Env)(pos:Pos):∀(es:List Expr),gM es=true->(backTo pos<|starEach es env).all (fun x=> !x.1)=true
 |[],h=>rfl
 |e::es,h=>by
  simp only[gM,zbb,zae] at h
  rw[dE h.1];have ih:=zF env pos es h.2;show(!false && (backTo pos<|starEach es env).all (fun x=> !x.1))=true;rw[ih];rfl
theorem dY{e:Expr}{es:List Expr}(h:gM (e::es)=true):noStar e=true/\gM es=true:=by
 simp only[gM,zbb,zae] at h
 exact h
theorem Ga(G:Good CX S Γ X){c:sj}{ln:List Str}{fv:List (Str×Nat)}(h:zm S c ln fv=true):
  jq X c.sc ln fv/\(∀x∈ln,c.sc.names.lookup x=some .local)/\(ln++fv.map (·.1)).Nodup/\sk c.iter=true:=by
 simp only[zm,zae,decide_eq_true_eq,zbp,Bool.or_eq_true] at h
 obtain⟨⟨⟨⟨⟨⟨⟨h1,h2⟩,h3⟩,h4⟩,h5⟩,h6⟩,h7⟩,h8⟩:=h;refine⟨⟨h1,fun y hy=>h2 y hy,fun y hy hl=>?_,fun y hy hf=>?_,fun p hp=>?_⟩,h6,h7,h8⟩
 ·rcases h3 y hy with z|z
  ·exact absurd hl z
  ·exact z
 ·show X.env.scope.names.lookup y.1=_\/X.env.scope.names.lookup y.1=_;rw[G.sc];rcases h4 y hy with(z|z)|z
  ·exact absurd hf z
  ·exact .inl z
  ·exact .inr z
 ·rw[G.N];exact h5 p hp
theorem Gb(hc:X.calm=true){c:sj}{tk:Option Nat}{ln:List Str}{fv:List (Str×Nat)}(h:zl tk c.tg=some ln)(hl:∀x∈ln,c.sc.names.lookup x=some .local)(hn:(ln++fv.map (·.1)).Nodup):
  rW X c.sc ln fv c.tg tk:=by
 unfold zl at h
 split at h
 ·rename_i x p he
  cases h;rw[he];exact Rj (hl x (by simp)) hn
 ·rename_i x p y q k pos he
  cases h;rw[he];exact Rl hc (hl x (by simp)) (hl y (by simp)) hn
 ·cases h
theorem SD{xs:List V}{H:Hp}{Q:VK}{K:Frag}(h:i4 K .int xs H Q):(∃i,xs=[.int i]/\Q (.int i) H)\/∃k,xs=[.bl k]/\Q (.int (if k then 1 else 0)) H:=by
 match xs,h with
 |[.int i],h=>exact .inl ⟨i,rfl,h⟩
 |[.bl k],h=>exact .inr ⟨k,rfl,h⟩
theorem SE{K:Frag}{x:V}{H:Hp}{Q:Nat->Prop}(h:pV K x H Q):∃n,El K x H n/\Q n:=by
 match x,h with
 |.str y,h=>exact⟨_,⟨h.1,rfl⟩,h.2⟩
 |.ref p,.inl ⟨xs,a,b⟩=>exact⟨_,.inl ⟨xs,a,rfl⟩,b⟩
 |.ref p,.inr ⟨xs,a,b⟩=>exact⟨_,.inr ⟨xs,a,rfl⟩,b⟩
inductive SF (X:Cx) (b:kS):Prop where
 |fn (id:String) (hv:bootBuiltins b.nm=some (.builtin id)) (hc:cW X (.builtin id) (i4 X.K b))
 |ty (T:String) (hv:bootBuiltins b.nm=some (.type T)) (hc:cW X (.type T) (i4 X.K b))
theorem boot_min:bootBuiltins "min"=some (.builtin "min"):=by decide+kernel
theorem boot_max:bootBuiltins "max"=some (.builtin "max"):=by decide+kernel
theorem boot_abs:bootBuiltins "abs"=some (.builtin "abs"):=by decide+kernel
theorem boot_sum:bootBuiltins "sum"=some (.builtin "sum"):=by decide+kernel
theorem SH:bootBuiltins "isinstance"=some (.builtin "isinstance"):=by decide+kernel
theorem SI:bootBuiltins "int"=some (.type "int"):=by decide+kernel
theorem SJ:bootBuiltins "list"=some (.type "list"):=by decide+kernel
theorem SK:bootBuiltins "tuple"=some (.type "tuple"):=by decide+kernel
theorem zG(f:Nat->Int)(lt:Nat->Nat->Bool)(h:∀i j,lt i j=decide (f i<f j)):∀n,argBest lt n<=n/\∀i,i<=n->f (argBest lt n)<=f i
 | 0=>⟨zqR _,fun i hi=>by
   obtain rfl:i=0:=by lia
   exact zaM _⟩
 |n+1=>by
  obtain⟨a,b⟩:=zG f lt h n;have e:argBest lt (n+1)=if lt (n+1) (argBest lt n)=true then n+1 else argBest lt n:=rfl
  rw[e,h]
  split
  ·rename_i q
   have q:=of_decide_eq_true q;refine⟨zqR _,fun i hi=>?_⟩;by_cases z:i=n+1
   ·rw[z];exact zaM _
   ·have:=b i (by lia);lia
  ·rename_i q
   have q:¬f (n+1) <f (argBest lt n):=fun z=>q (zqT z);refine⟨by lia,fun i hi=>?_⟩
   by_cases z:i=n+1
   ·rw[z];lia
   ·exact b i (by lia)
theorem Gd{xs:Array (Int×Tok)}{i:Nat}(h:i<xs.size):numAt xs i=xs[i].1:=by
 unfold numAt;rw[Array.getElem?_eq_getElem h];rfl
theorem Ge{xs:Array (Int×Tok)}{i:Nat}(h:i<xs.size):numAt xs i∈xs.toList.map (·.1):=by
 rw[Gd h];exact zaN.mpr ⟨xs[i],by simp,rfl⟩
theorem Gf{xs:Array (Int×Tok)}{n:Int}(h:n∈xs.toList.map (·.1)):∃i,i<xs.size/\n=numAt xs i:=by
 obtain⟨y,hy,rfl⟩:=zaN.mp h;obtain⟨i,hi,rfl⟩:=List.getElem_of_mem hy;have eT:i<xs.size:=by simpa using hi
 exact⟨i,eT,by rw[Gd eT];simp⟩
theorem Gg{pins:List (Addr×Obj)}{σ:St}{H:Hp}{s:Shared}{p:Addr}{ns:List Int}(I:Inv X pins σ H s)(hq:au X.K H p (ns.map V.int)):∃xs:Array (Int×Tok),s.heap.IsList p (intItems xs)/\ns=xs.toList.map (·.1):=by
 obtain⟨ah,rv,pl,hz⟩:=I.list hq;have hi:=intsAre_of rv;obtain⟨xs,hx⟩:=hi.allInts.items;refine⟨xs,hx ▸ pl.isList,?_⟩;rw[<-nums_intItems,<-hx];exact(show numsOf ah.toArray.toList=ns from hi.numsOf).symm
theorem SM(hc:X.calm=true):cW X (.builtin "min") (fun xs H Q=>∃(p:Addr) (ns:List Int),xs=[.ref p]/\au X.K H p (ns.map V.int)/\ns≠ []/\∀m:Int,m∈ns->(∀n∈ns,m<=n)->Q (.int m) H):=by
 intro pins s σ H xs us Q I r h;obtain⟨p,ns,rfl,hq,jw,q⟩:=h;obtain⟨u,rfl,ru⟩:=vals1 r;cases ru;obtain⟨xs,hl,rfl⟩:=Gg I hq;have sz:0<xs.size:=Nat.pos_of_ne_zero fun z=>jw (by rw[zbI z];rfl)
 refine min_intList (I.ok.hd hc) hl sz fun v h' tk hv hk=>?_;obtain⟨t,rfl⟩:=intItems_at hv;obtain⟨b1,b2⟩:=zG (numAt xs) (fun i j=>decide<|numAt xs i<numAt xs j) (fun _ _=>rfl) (xs.size - 1);refine⟨.int _,H,I.kept (t':=tk) hk,⟨t,rfl⟩,q _ (Ge (by lia)) fun n hn=>?_⟩
 obtain⟨i,hi,rfl⟩:=Gf hn;exact b2 i (by lia)
theorem SN(hc:X.calm=true):cW X (.builtin "max") (fun xs H Q=>∃(p:Addr) (ns:List Int),xs=[.ref p]/\au X.K H p (ns.map V.int)/\ns≠ []/\∀m:Int,m∈ns->(∀n∈ns,n<=m)->Q (.int m) H):=by
 intro pins s σ H xs us Q I r h;obtain⟨p,ns,rfl,hq,jw,q⟩:=h;obtain⟨u,rfl,ru⟩:=vals1 r;cases ru;obtain⟨xs,hl,rfl⟩:=Gg I hq;have sz:0<xs.size:=Nat.pos_of_ne_zero fun z=>jw (by rw[zbI z];rfl)
 refine max_intList (I.ok.hd hc) hl sz fun v h' tk hv hk=>?_;obtain⟨t,rfl⟩:=intItems_at hv;obtain⟨b1,b2⟩:=zG (fun i=> - numAt xs i) (fun i j=>decide<|numAt xs i>numAt xs j) (fun i j=>decide_eq_decide.mpr (by lia)) (xs.size - 1)
 refine⟨.int _,H,I.kept (t':=tk) hk,⟨t,rfl⟩,q _ (Ge (by lia)) fun n hn=>?_⟩
 obtain⟨i,hi,rfl⟩:=Gf hn;have:=b2 i (by lia)
 lia
theorem SO{x:Str}{acc:Array Value}(h:ItemsOf (SignAt x) acc x.cps.size):Vals (signs x) acc.toList:=by
 have go:∀(l:List Nat) (us:List Value),us.length=l.length->(∀(j:Nat) (v:Value),us[j]?=some v->∃(c:Nat) (t:Tok),l[j]?=some c/\v=Value.str ⟨#[c]⟩ t)->Vals (l.map fun c=>V.str ⟨#[c]⟩) us:=by
  intro l
  induction l with
  |nil=>
   intro us hl _;rw[zaH.mp hl];exact .nil
  |cons c l ih=>
   intro us hl hv;cases us with
   |nil=>cases hl
   |cons u us=>
    obtain⟨c',t,e1,e2⟩:=hv 0 u rfl;have nZ:c=c':=by simpa using e1
    subst nZ;exact .cons ⟨t,e2⟩ (ih us (by simpa using hl) fun j v hj=>by
     obtain⟨c2,t2,g1,g2⟩:=hv (j+1) v (by simpa using hj)
     exact⟨c2,t2,by simpa using g1,g2⟩)
 refine go x.cps.toList acc.toList ?_ fun j v hj=>?_
 ·have:=h.1;simpa using this
 ·obtain⟨c,t,e1,e2⟩:=h.2 j v (by simpa using hj)
  exact⟨c,t,by simpa using e1,e2⟩
theorem SQ(x:Str):(signs x).length=x.length:=by simp[signs,Str.length]
theorem SR(hc:X.calm=true):cW X (.type "list") (fun xs H Q=>∃x,xs=[.str x]/\x.length<=sizeLine/\∀l,H l=none->Q (.ref l) (upd H l<|.lst<|signs x)):=by
 intro pins s σ H xs us Q I r h;obtain⟨x,rfl,hx,q⟩:=h;obtain⟨u,rfl,t,rfl⟩:=vals1 r;refine call_list_str (I.ok.hd hc) x t (fun h' tk y3 c' hk e SS=>?_) hx;have rv:=SO SS;exact⟨.ref s.heap.objs.size,_,I.laid (t':=tk) hk (zqR _) (show cB X.prog X.w _ h' _ (.lst<|signs x) from⟨by rw[SQ];exact hx,y3.toList,c',rv,by simpa using e⟩),rfl,q _<|I.aE.fresh<|zqR _⟩
theorem SU(hc:X.calm=true)(b:kS):SF X b:=by
 cases b with
 |len=>exact .fn "len" boot_len (cW.imp OQ fun xs H Q h=>by
   rcases xs with _|⟨x,_|⟨_,_⟩⟩ <;>(try exact False.elim h)
   obtain⟨n,h1,h2⟩:=SE (Q:=fun n=>Q (.int n) H) h;exact⟨x,n,rfl,h1,h2⟩)
 |min=>exact .fn "min" boot_min (cW.imp ((OO hc).or (SM hc)) fun xs H Q h=>by
   match xs,h with
   |[.int i,.int j],h=>exact .inl ⟨i,j,rfl,h⟩
   |[.ref p],⟨ns,h1,h2,h3⟩=>exact .inr ⟨p,ns,rfl,h1,h2,h3⟩)
 |max=>exact .fn "max" boot_max (cW.imp ((ON hc).or (SN hc)) fun xs H Q h=>by
   match xs,h with
   |[.int i,.int j],h=>exact .inl ⟨i,j,rfl,h⟩
   |[.ref p],⟨ns,h1,h2,h3⟩=>exact .inr ⟨p,ns,rfl,h1,h2,h3⟩)
 |sum=>exact .fn "sum" boot_sum (cW.imp (RC hc) fun xs H Q h=>by
   rcases xs with _|⟨x,_|⟨_,_⟩⟩ <;>(try exact False.elim h) <;>cases x<;>(try exact False.elim h)
   obtain⟨ns,h1,h2⟩:=h;exact⟨_,ns,rfl,h1,h2⟩)
 |abs=>exact .fn "abs" boot_abs fun _ _ _ _ xs _ _ _ _ h=>by rcases xs with _|⟨y0,_|⟨y1,_⟩⟩ <;>first|exact False.elim h| (cases y0<;>exact False.elim h)
 |int=>exact .ty "int" SI (cW.imp OP fun xs H Q h=>SD h)
 |list=>exact .ty "list" SJ (cW.imp (PV.or (SR hc)) fun xs H Q h=>by
   rcases xs with _|⟨x,_|⟨_,_⟩⟩ <;>(try exact False.elim h) <;>cases x<;>(try exact False.elim h)
   ·exact .inr ⟨_,rfl,h.1,h.2⟩
   ·obtain⟨ys,h1,h2⟩:=h;exact .inl ⟨_,ys,rfl,h1,h2⟩)
 |tuple=>exact .ty "tuple" SK fun _ _ _ _ xs _ _ _ _ h=>by rcases xs with _|⟨y0,_|⟨y1,_⟩⟩ <;>first|exact False.elim h| (cases y0<;>exact False.elim h)
structure SV (X:Cx) (m:hX) (id:String):Prop where
 pa:PlainAttrs (vS m)
 slot:Slot (vS m) m.nm id
 ty:typeOf (.builtin id)=pure (.type "method_descriptor")
 mt:nR X id (pY X.K m)
theorem SW{P:Program}{w:World}{k:Key}{u:Value}(r:RelV (kV k) u):(eg P w).is k u=true:=by
 cases k with
 |inl i=>obtain⟨t,e⟩:=(show ∃t,u=Value.int i t from r);subst e;exact Dy P w i t
 |inr x=>obtain⟨t,e⟩:=(show ∃t,u=Value.str x t from r);subst e;exact Dz P w x t
theorem SX{kvs:List (Key×V)}{vs:List (Key×Value)}(r:KV kvs vs)(k:Key){v:V}(h:oi kvs k=some v):∃u,valueAt vs k=some u/\RelV v u:=by
 unfold KV at r
 induction r with
 |nil=>cases h
 | @cons p q ps qs hh t ih=>
  obtain⟨h1,h2⟩:=hh;by_cases e:p.1=k
  ·have e':q.1=k:=h1.symm.trans e;have b:valueAt (q::qs) k=some q.2:=by simp[valueAt,zaJ,e']
   have a:oi (p::ps) k=some p.2:=by simp[oi,zaJ,e]
   rw[a] at h;cases h;exact⟨_,b,h2⟩
  ·have e':¬q.1=k:=fun z=>e (h1.trans z);have b:valueAt (q::qs) k=valueAt qs k:=by simp[valueAt,zaJ,e']
   have a:oi (p::ps) k=oi ps k:=by simp[oi,zaJ,e]
   rw[a] at h;rw[b];exact ih h
theorem SY{sd:Addr->List (Key×V)->Prop}(zH:∀p kvs,sd p kvs->∀h:Heap,X.K.In h->∃vs,KV kvs vs/\h.DictOf (eg X.prog X.w) p vs):jW X (FP sd):=by
 intro value slice pins s σ H x y v u Q I rx ry h hs;obtain⟨p,kvs,k,z,rfl,rfl,hq,he,q⟩:=h;cases rx;obtain⟨vs,r,dd⟩:=zH p kvs hq s.heap I.c5;obtain⟨w,ew,iz⟩:=SX r k he;exact subscriptTail_builtinR (x:=w) dd.mapOf.typeIs PySem.F.slot_dict_getitem.lookup
  (wpAny_getItem_of (Q:=fun r s'=>r=w/\EP X pins σ Q r s') (SW ry) dd.mapOf ew ⟨rfl,z,H,I.tok _,iz,q⟩) hs
theorem S7{sd:Addr->List (Key×V)->Prop}(zH:∀p kvs,sd p kvs->∀h:Heap,X.K.In h->∃vs,KV kvs vs/\h.DictOf (eg X.prog X.w) p vs):jW X (ma X.K sd):=PD.or (PF.or<|PH.or<|SY zH)
theorem S_:nR X "list.index" (fun x vs H Q=>∃(l:Addr) (y:V) (xs:List V),x=.ref l/\vs=[y]/\au X.K H l xs/\hU y=true/\xs.all hU=true/\f_ y xs=true/\Q (.int (xs.findIdx (fun z=>gG z y):Nat)) H):=by
 intro pins s σ H x vs v us Q I rx rv h;obtain⟨l,y,xs,rfl,rfl,hq,fy,fs,zA,q⟩:=h;cases rx;obtain⟨u,rfl,ru⟩:=vals1 rv;obtain⟨ah,r,⟨⟨cls,dd,data,sl⟩,n,ho,hc,hd0,hd⟩,hz⟩:=I.list hq
 simp only at hc hd
 subst hc hd;have hlen:=r.length;have e:∀j (h1:j<ah.length) (h2:j<xs.length),eK y ah[j]=gG xs[j] y:=fun j h1 h2=>by
  obtain⟨w,e1,r1⟩:=r.get (i:=j) (x:=xs[j]) (by simp[h2])
  have e2:=zai h1;rw[e1] at e2;rw[<-zam e2];exact yN r1<|zbp.mp fs _<|List.getElem_mem h2
 have hj:xs.findIdx (fun z=>gG z y) <xs.length:=List.findIdx_lt_length.mpr (List.any_eq_true.mp zA);have hn:=nK;refine call_meets PySem.F.slot_list_index ⟨_,ho,rfl⟩ PySem.F.entry_list_index (PySem.F.args_list_index_2 _ _)
  (PySem.SeqAt.list_indexAt l ah.toArray n dd sl u (eK y) (xs.findIdx fun z=>gG z y) (by simp;lia) (by lia) ?_ ?_) ⟨ho,fun z j2=>pS ru fy r fs z (by simpa using j2),⟨.int _,H,I.tok _,⟨_,rfl⟩,q⟩⟩
 ·show eK y ah[xs.findIdx fun z=>gG z y]=true;rw[e _ (by lia) hj]
  exact List.findIdx_getElem (w:=hj)
 ·intro j Ta a_;show eK y ah[j]=false;rw[e j (by simpa using Ta) (by lia)]
  simpa using List.not_of_lt_findIdx a_
theorem Gh(m:hX):∃id,SV X m id:=by
 cases m with
 |append=>exact⟨_,F.plainAttrs_list,F.slot_list_append,F.type_list_append,fun pins s σ H x xs v us Q I rx rv h=>by
   cases x<;>(try exact False.elim h) <;>rcases xs with _|⟨y0,_|⟨_,_⟩⟩ <;>(try exact False.elim h)
   obtain⟨zs,h1,h2,h3⟩:=h;exact P7 pins s σ H _ _ v us Q I rx rv ⟨_,zs,_,rfl,rfl,h1,h2,h3⟩⟩
 |pop=>exact⟨_,F.plainAttrs_list,F.slot_list_pop,F.type_list_pop,fun pins s σ H x xs v us Q I rx rv h=>by
   cases x<;>(try exact False.elim h) <;>rcases xs with _|⟨_,_⟩ <;>(try exact False.elim h)
   obtain⟨zs,y,h1,h2,h3⟩:=h;exact Qa pins s σ H _ _ v us Q I rx rv ⟨_,zs,y,rfl,rfl,h1,h2,h3⟩⟩
 |extend=>exact⟨_,F.plainAttrs_list,F.slot_list_extend,F.type_list_extend,fun pins s σ H x xs v us Q I rx rv h=>by
   cases x<;>(try exact False.elim h) <;>rcases xs with _|⟨y0,_|⟨_,_⟩⟩ <;>(try exact False.elim h) <;>cases y0<;>(try exact False.elim h)
   obtain⟨ys,zs,h1,h2,h3,h4⟩:=h;exact P9 pins s σ H _ _ v us Q I rx rv ⟨_,_,ys,zs,rfl,rfl,h1,h2,h3,h4⟩⟩
 |join=>exact⟨_,F.plainAttrs_str,F.slot_str_join,F.type_str_join,fun pins s σ H x xs v us Q I rx rv h=>by
   cases x<;>(try exact False.elim h) <;>rcases xs with _|⟨y0,_|⟨_,_⟩⟩ <;>(try exact False.elim h) <;>cases y0<;>(try exact False.elim h)
   obtain⟨ts,h1,h2,h3⟩:=h;exact RD pins s σ H _ _ v us Q I rx rv ⟨_,_,ts,rfl,rfl,h1,h2,h3⟩⟩
 |lstrip=>exact⟨_,F.plainAttrs_str,F.slot_str_lstrip,F.type_str_lstrip,fun pins s σ H x xs v us Q I rx rv h=>by
   cases x<;>(try exact False.elim h) <;>rcases xs with _|⟨y0,_|⟨_,_⟩⟩ <;>(try exact False.elim h) <;>cases y0<;>(try exact False.elim h)
   obtain⟨h1,h2⟩:=h;exact RG pins s σ H _ _ v us Q I rx rv ⟨_,_,rfl,rfl,h1,h2⟩⟩
 |starts=>exact⟨_,F.plainAttrs_str,F.slot_str_startswith,F.type_str_startswith,fun pins s σ H x xs v us Q I rx rv h=>by
   cases x<;>(try exact False.elim h) <;>rcases xs with _|⟨y0,_|⟨y1,_|⟨_,_⟩⟩⟩ <;>(try exact False.elim h) <;>cases y0<;>(try exact False.elim h) <;>cases y1<;>(try exact False.elim h)
   exact RJ pins s σ H _ _ v us Q I rx rv ⟨_,_,_,rfl,rfl,h⟩⟩
 |find=>exact⟨_,F.plainAttrs_str,F.slot_str_find,F.type_str_find,fun _ _ _ _ x xs _ _ _ _ _ _ h=>by cases x<;>rcases xs with _|⟨y0,_|⟨y1,_⟩⟩ <;>first|exact False.elim h| (cases y0<;>exact False.elim h)⟩
 |count=>exact⟨_,F.plainAttrs_str,F.slot_str_count,F.type_str_count,fun _ _ _ _ x xs _ _ _ _ _ _ h=>by cases x<;>rcases xs with _|⟨y0,_|⟨y1,_⟩⟩ <;>first|exact False.elim h| (cases y0<;>exact False.elim h)⟩
 |reverse=>exact⟨_,F.plainAttrs_list,F.slot_list_reverse,F.type_list_reverse,fun _ _ _ _ x xs _ _ _ _ _ _ h=>by cases x<;>rcases xs with _|⟨y0,_|⟨y1,_⟩⟩ <;>first|exact False.elim h| (cases y0<;>exact False.elim h)⟩
 |index=>exact⟨_,F.plainAttrs_list,F.slot_list_index,F.type_list_index,fun _ _ _ _ x xs _ _ _ _ _ _ h=>by cases x<;>rcases xs with _|⟨y0,_|⟨y1,_⟩⟩ <;>first|exact False.elim h| (cases y0<;>exact False.elim h)⟩
 |FF=>exact⟨_,F.plainAttrs_list,F.slot_list_count,F.type_list_count,fun _ _ _ _ x xs _ _ _ _ _ _ h=>by cases x<;>rcases xs with _|⟨y0,_|⟨y1,_⟩⟩ <;>first|exact False.elim h| (cases y0<;>exact False.elim h)⟩
 |ze=>exact⟨_,F.plainAttrs_list,F.slot_list_index,F.type_list_index,fun pins s σ H x xs v us Q I rx rv h=>by
   cases x<;>(try exact False.elim h) <;>rcases xs with _|⟨y0,_|⟨_,_⟩⟩ <;>(try exact False.elim h)
   obtain⟨zs,h1,h2,h3,h4,h5⟩:=h;exact S_ pins s σ H _ _ v us Q I rx rv ⟨_,_,zs,rfl,rfl,h1,h2,h3,h4,h5⟩⟩
 |clear=>exact⟨_,F.plainAttrs_list,F.slot_list_clear,F.type_list_clear,fun pins s σ H x xs v us Q I rx rv h=>by
   cases x<;>(try exact False.elim h) <;>rcases xs with _|⟨_,_⟩ <;>(try exact False.elim h)
   obtain⟨zs,h1,h2⟩:=h;exact Qd pins s σ H _ _ v us Q I rx rv ⟨_,zs,rfl,rfl,h1,h2⟩⟩
theorem Tb{pins:List (Addr×Obj)}{σ:St}{H:Hp}{s:Shared}{T:Ty}{x:V}{u:Value}{Qb:Bool->Prop}{Q:Value->Shared->Prop}{E:Value->Shared->Prop}(I:Inv X pins σ H s)(rx:RelV x u)(h:bJ T x H Qb)
  (hq:∀b tk,Qb b->Q (.bool b) {s with toks:=tk}):wpAny (model X.prog X.w) X.A (call (.builtin "isinstance") [u,.type T.nm]) Q E s:=by
 match x,rx,h with
 |.aF,rx,h=>exact kI I rx (.aF) (RB _ T) fun tk=>hq _ _ h
 |.bl b,rx,h=>exact kI I rx (.bl b) (l7 X.K .bool T) fun tk=>hq _ _ (by cases T<;>exact h)
 |.int i,rx,h=>exact kI I rx (.int i) (l7 X.K .int T) fun tk=>hq _ _ (by cases T<;>exact h)
 |.str i,rx,h=>exact kI I rx (.str i) (l7 X.K .str T) fun tk=>hq _ _ (by cases T<;>exact h)
 |.ref a,rx,h=>
  cases e:H a with
  |none=>simp only[bJ,e] at h
  |some o=>
   match o,e with
   |.lst xs,e=>simp only[bJ,e] at h;exact kI I rx (.lst e) (l7 X.K .list T) fun tk=>hq _ _ (by cases T<;>exact h)
   |.bO ob (.lst xs),e=>simp only[bJ,e] at h;exact kI I rx (.bO e) (l7 X.K .list T) fun tk=>hq _ _ (by cases T<;>exact h)
   |.tup xs,e=>simp only[bJ,e] at h;exact kI I rx (.tup e) (l7 X.K .tuple T) fun tk=>hq _ _ (by cases T<;>exact h)
   |.dK xs,e=>simp only[bJ,e] at h;exact kI I rx (.dK e) (l7 X.K .dict T) fun tk=>hq _ _ (by cases T<;>exact h)
   |.dT xs,e=>simp only[bJ,e] at h;exact kI I rx (.dT e) (l7 X.K .dict T) fun tk=>hq _ _ (by cases T<;>exact h)
   |.set _ _,e=>simp only[bJ,e] at h
   |.ins _ _ _,e=>simp only[bJ,e] at h
   |.own _,e=>simp only[bJ,e] at h
   |.xd _,e=>simp only[bJ,e] at h
   |.met _ _,e=>simp only[bJ,e] at h
   |.dz _ _,e=>simp only[bJ,e] at h
   |.jO _,e=>simp only[bJ,e] at h
   |.ext _,e=>simp only[bJ,e] at h
   |.bO ob (.tup xs),e=>simp only[bJ,e] at h
   |.bO ob (.dK xs),e=>simp only[bJ,e] at h
   |.bO ob (.dT xs),e=>simp only[bJ,e] at h
   |.bO ob (.set _ _),e=>simp only[bJ,e] at h
   |.bO ob (.ins _ _ _),e=>simp only[bJ,e] at h
   |.bO ob (.own _),e=>simp only[bJ,e] at h
   |.bO ob (.xd _),e=>simp only[bJ,e] at h
   |.bO ob (.met _ _),e=>simp only[bJ,e] at h
   |.bO ob (.dz _ _),e=>simp only[bJ,e] at h
   |.bO ob (.jO _),e=>simp only[bJ,e] at h
   |.bO ob (.ext _),e=>simp only[bJ,e] at h
   |.bO ob (.bO _ _),e=>simp only[bJ,e] at h
theorem Tc(T:Ty):bootBuiltins (Str.ofString T.nm)=some (.type T.nm):=by cases T<;>decide+kernel
theorem Td(T:Ty):cW X (.builtin "isinstance") (l_ T):=by
 intro pins s σ H xs us Q I r h
 match xs,r,h with
 |[x,.ty n],r,⟨e,h⟩=>
  subst e;obtain⟨u,w',rfl,ru,iz⟩:=vals2 r;cases iz;exact Tb I ru h fun b tk hb=>⟨.bl b,H,I.tok tk,rfl,hb⟩
theorem Te{T:Ty}{a:Expr}{ta:TE}{p q pos:Pos}(ha:PE X a ta)(hs:noStar a=true)(hg:Gl X "isinstance")(hm:X.mg "isinstance"=none)(Tf:Gl X (Str.ofString T.nm))(Tg:X.mg (Str.ofString T.nm)=none):
  PE X (.Call (.Name "isinstance" p) [a,.Name (Str.ofString T.nm) q] [] pos) (iY (l_ T)<|dQ ta<|dQ (tC<|.ty T.nm) iX):=by
 have hT:PE X (.Name (Str.ofString T.nm) q) (tC<|.ty T.nm):=NO Tf Tg (Tc T) rfl (by cases T<;>decide) (by cases T<;>decide)
 exact yH (Td T) hg hm SH (lV ha (lV hT rH rfl)<|dE hs) (by decide) (by decide) (dE hs) rfl
end
section
variable {X:Cx}
theorem Th:vy X (oh X.K):=by
 intro pins s σ H x v vl vu lo hi sl Q I rx hs pl pu h
 match x,rx,h with
 |.ref a,rx,.inl ⟨xs,h1,h2⟩=>exact PN pins s σ H _ v vl vu lo hi sl Q I rx hs pl pu ⟨a,xs,rfl,h1,h2⟩
 |.ref a,rx,.inr ⟨xs,h1,h2,h3⟩=>exact Pz pins s σ H _ v vl vu lo hi sl Q I rx hs pl pu ⟨a,xs,rfl,h1,h2,h3⟩
 |.str z,rx,⟨h1,h2⟩=>
  obtain⟨t,rfl⟩:=rx;obtain⟨l,el,ml⟩:∃l:Option (Int×Tok),vl=partValue l/\l.map (·.1)=lo:=by
   cases pl with
   |none=>exact⟨none,rfl,rfl⟩
   |int i t=>exact⟨some (i,t),rfl,rfl⟩
  obtain⟨u,eu,mu⟩:∃u:Option (Int×Tok),vu=partValue u/\u.map (·.1)=hi:=by
   cases pu with
   |none=>exact⟨none,rfl,rfl⟩
   |int i t=>exact⟨some (i,t),rfl,rfl⟩
  subst el eu;refine⟨"str",_,F.slot_str_getitem.lookup,typeIs_str _ _ _,?_⟩;refine wpAny_getItem_str_slice (l:=l) (u:=u) (st:=none) hs rfl ?_;obtain⟨b1,b2,b3⟩:=yM lo hi z.length;have hp:slicePicked z l u none=(List.range<|HT.aQ z.length z.length hi - HT.aQ z.length 0 lo).map (HT.aQ z.length 0 lo+ ·):=by
   show Builtin.Str.strSliceIndices (l.map (·.1)) (u.map (·.1)) 1 z.length=_;rw[ml,mu];have e0:Builtin.Str.strSliceIndices lo hi 1 z.length=sliceRange (sliceBounds lo hi none z.length).1 (sliceBounds lo hi none z.length).2.1 (sliceBounds lo hi none z.length).2.2:=rfl;rw[e0,b1,b2,b3,sliceRange_one]
  have hc:((slicePicked z l u none).filterMap (z.cps[·]?))=kQ z.cps.toList lo hi:=by
   show(Builtin.Str.strSliceIndices (l.map (·.1)) (u.map (·.1)) 1 z.length).filterMap (z.cps[·]?)=_;rw[ml,mu,RK]
  have hz:z.cps.toList.length=z.length:=by simp[Str.length]
  have hA:=HT.yI z.length 0 (zqZ _) lo;have hB:=HT.yI z.length z.length (zqR _) hi;unfold sliceMade;refine post_val_or_made (fun _=>?_) fun t' k=>?_
  ·show(List.toArray ((slicePicked z l u none).filterMap (z.cps[·]?))).size<=sizeLine;rw[hc,zah];have:(kQ z.cps.toList lo hi).length<=z.cps.toList.length:=by unfold kQ;simp only[zaF,zaz];lia
   lia
  ·have e:(if (((none:Option (Int×Tok)).map (·.1)).getD 1==1 && (slicePicked z l u none).length==z.length)=true then z else ⟨((slicePicked z l u none).filterMap (z.cps[·]?)).toArray⟩)=kR z lo hi:=by
    split
    ·rename_i hq
     simp only[zae,beq_iff_eq] at hq
     have Ti:=hq.2;rw[hp,zac,zaO] at Ti;have a0:HT.aQ z.length 0 lo=0:=by lia
     have b0:HT.aQ z.length z.length hi=z.length:=by lia
     unfold kR kQ;rw[hz,a0,b0,<-hz,Nat.sub_zero,zbw,zbd]
    ·rw[hc];rfl
   rw[e];exact⟨.str _,H,I.tok k,⟨t',rfl⟩,h2⟩
theorem Tj:vi X (unaryOp .USub) FO:=by
 intro pins s σ H x v Q I rx h
 match x,rx,h with
 |.int i,rx,h=>exact Ov pins s σ H _ v Q I rx ⟨i,rfl,h⟩
theorem Tn{a:Expr}{ta:TE}{pos:Pos}(ha:PE X a ta):PE X (.UnaryOp .Not a pos) (zg X.K ta):=by
 intro pins s σ H Q I h;refine UnaryOp_<|aL (ha pins s σ H _ I h) fun v s1 ⟨x,H1,I1,r1,q1⟩=>not_of ?_;exact aL (Ek pins s1 σ H1 x v (fun b H2=>Q (.bl<|!b) H2) I1 r1<|FN q1) fun b s2 ⟨H2,I2,q2⟩=>⟨.bl<|!b,H2,I2,rfl,q2⟩
theorem sC{a:Expr}{ta:TE}(ha:PE X a ta)(he:∀whole,isTrue a X.env whole=(do let v <-whole;standAt a.pos;holding [v] (truthy v))):PT X a (eU X.K ta):=by
 intro pins s σ H Q I h;exact isTrue_plain (aL (ha pins s σ H _ I h) fun v s1 ⟨x,H1,I1,r1,q1⟩=>Ek pins s1 σ H1 x v Q I1 r1 (FN q1))<|he _
theorem To{m:hX}{o e:Expr}{es:List Expr}{to:TE}{t:TA}{apos du:Pos}(ho:PE X o to)(ha:PA X (e::es) t)(hb:mh o=true)(hl:(apos.endLine==du.line)=true)(hn:(e::es).length<29)
  (hs:starEach (e::es) X.env=(false,eval e X.env)::starEach es X.env) (h1:(backTo du<|starEach es X.env).any (·.1)=false) (h2:(backTo du<|starEach (e::es) X.env).all (fun x=> !x.1)=true):
  PE X (.Call (.Attribute o m.nm apos) (e::es) [] du) (pZ X.K m to t):=by
 obtain⟨id,M⟩:=Gh (X:=X) m;exact P0 M.pa M.slot M.ty M.mt ho ha (nU hb) (by
  rw[h2];show(true && true && decide ((e::es).length+0+0<30))=true;rw[zqT (by lia)];rfl) hl hs h1
theorem Tp{m:hX}{o:Expr}{to:TE}{apos du:Pos}(ho:PE X o to)(hb:mh o=true)(hl:(apos.endLine==du.line)=true):
  PE X (.Call (.Attribute o m.nm apos) [] [] du) (pZ X.K m to iX):=by
 obtain⟨id,M⟩:=Gh (X:=X) m;exact PZ M.pa M.slot M.ty M.mt ho (nU hb) hl
end
section
variable {X:Cx}{CX:cI}
theorem Gi{o:Expr}{m:Str}{apos pos:Pos}{args:List Expr}{Q:Value->Shared->Prop}{E:Value->Shared->Prop}{A:Around}{s:Shared}{env:Env}{prog:Program}{w:World}
  (hb:mh o=true) (hl:(apos.endLine==pos.line)=true) (hn:args.length<29) (hf:(backTo pos<|starEach args env).all (fun x=> !x.1)=true)
  (h:wpAny (model prog w) A (eval o env) (fun ov s1=>∀pl,wpAny (model prog w) A (getMethod ov m pl) (fun fx s2=>wpAny (model prog w) A (callWith pos fx.1 fx.2 (backTo pos<|starEach args env)<|backToKw pos<|keywordEach [] env) Q E s2) E s1) E s):
  wpAny (model prog w) A (eval (.Call (.Attribute o m apos) args [] pos) env) Q E s:=by
 have Tq:methodCallForm (args.length+0) (backTo pos<|starEach args env) (backToKw pos<|keywordEach [] env)=true:=by
  show((backTo pos<|starEach args env).all (fun x=> !x.1) && true && decide (args.length+0+0<30))=true;rw[hf,zqT (by lia)];rfl
 have line:methodCallPos true o env apos pos=pure pos:=by unfold methodCallPos;simp[hl]
 rw[arm_eval_Call,nU hb];refine wpAny_bind<|wpAny_mono h (fun ov s1 h1=>wpAny_bind<|wpAny_standAt ?_) fun _ _ e=>e;unfold methodCall;rw[show([]:List Keyword).length=0 from rfl,Tq]
 refine wpAny_bind<|wpAny_holding<|wpAny_mono (h1 _) (fun fx s2 h2=>?_) fun _ _ e=>e;exact wpAny_bind<|wpAny_of_eq line h2
theorem Tr{o e:Expr}{es:List Expr}{to:TE}{t:TA}{apos pos:Pos}{C:Addr}{m:Str}{sp:Sp}{E:XK}(M:vY CX X C m sp)(hx:Passes CX X E)(ho:PE X o to)(ha:PA X (e::es) t)(hb:mh o=true)(hl:(apos.endLine==pos.line)=true)(hn:(e::es).length<29)
  (hs:starEach (e::es) X.env=(false,eval e X.env)::starEach es X.env) (h1:(backTo pos<|starEach es X.env).any (·.1)=false) (h2:(backTo pos<|starEach (e::es) X.env).all (fun x=> !x.1)=true):
  PE X (.Call (.Attribute o m apos) (e::es) [] pos) (lX C m sp [] E to t):=by
 obtain⟨c,k,f,fd,ps,hm,F,hr,sD⟩:=M;intro pins s σ H Q I h;refine Gi hb hl hn h2<|aL (ho pins s σ H _ I h) fun u s1 ⟨x,H1,I1,rx,a,dx,fs,ex,ea,l,q⟩=>fun pl=>?_;subst ex;obtain rfl:u=Value.ref a:=rx;refine Eo I1 ea c hm l ?_;refine callWith_K (first:=[.ref a]) (h₀:=X.base) I.ok.mod.rC hm.kp (aL (ha pos pins s1 σ H1 _ I1 q) fun us s2 ⟨vs,H2,I2,r,q2⟩=>⟨I2.c5,?_⟩) hs h1
 exact yG (us:=.ref a::us) (vs:=.ref a::vs) F hr sD .nil hx I2 (.cons rfl r) q2
theorem Ts{o:Expr}{to:TE}{apos pos:Pos}{C:Addr}{m:Str}{sp:Sp}{E:XK}(M:vY CX X C m sp)(hx:Passes CX X E)(ho:PE X o to)(hb:mh o=true)(hl:(apos.endLine==pos.line)=true):
  PE X (.Call (.Attribute o m apos) [] [] pos) (lX C m sp [] E to iX):=by
 obtain⟨c,k,f,fd,ps,hm,F,hr,sD⟩:=M;intro pins s σ H Q I h;refine Gi hb hl (by decide) rfl<|aL (ho pins s σ H _ I h) fun u s1 ⟨x,H1,I1,rx,a,dx,fs,ex,ea,l,q⟩=>fun pl=>?_
 subst ex;obtain rfl:u=Value.ref a:=rx;refine Eo I1 ea c hm l ?_;exact PySem.W.callWith_K0 (first:=[.ref a]) I1.c5 hm.kp<|yG (us:=[.ref a]) (vs:=[.ref a]) F hr sD .nil hx I1 (.cons rfl .nil) q
end
section
variable {prog:Program}{w:World}{A:Around}{E:Value->Shared->Prop}{s:Shared}
theorem Gj{it l:Addr}{items:Array Value}(jw:l≠it):∀(n i:Nat) (s:Shared) (Q:List Value->Shared->Prop),s.heap.IsListIter it l i->s.heap.IsList l items->i+n<=items.size->
  (∀h',h'.IsListIter it l (i+n)->Heap.SameBut it s.heap h'->Q ((items.toList.drop i).take n) {s with heap:=h'})->wpAny (model prog w) A (draw (.ref it) n) Q E s
 | 0,i,s,Q,hit,_,_,hQ=>by
  show wpAny _ _ (pure []) Q E s;exact wpAny_pure (by simpa using hQ s.heap hit (Heap.SameBut.refl ..))
 |n+1,i,s,Q,hit,ht,hle,hQ=>by
  have a_:i<items.size:=by lia
  show wpAny _ _ (pyNext (.ref it) >>=_) Q E s;refine wpAny_bind<|wpAny_pyNext_list_item hit ht (x:=items[i]) (by simp[a_]) fun h₁ zI sE=>?_
  refine wpAny_bind<|wpAny_holding<|Gj jw n (i+1) _ _ zI (ht.extBut sE.extBut jw) (by lia) fun h₂ Tt Tu=>wpAny_pure ?_
  have hd:items.toList.drop i=items[i]::items.toList.drop (i+1):=by simp[zbx,a_]
  have:=hQ h₂ (by rw[show i+(n+1)=i+1+n by lia];exact Tt) (sE.trans Tu)
  rw[hd,List.take_succ_cons] at this;exact this
theorem Tv{t:Addr}{items:Array Value}{Q:List Value->Shared->Prop}(hh:A.handled=none)(ht:s.heap.IsList t items)
  (hQ:∀h',Heap.ExtBut s.heap.objs.size s.heap h'->Q items.toList {s with heap:=h'}):wpAny (model prog w) A (unpackItems (.ref t) items.size none) Q E s:=by
 have a_:t≠s.heap.objs.size:=by obtain⟨o,ho,_⟩:=ht;exact zal (Heap.lt_size ho)
 unfold unpackItems;refine wpAny_bind ?_
 ·unfold notIterableAtAll;refine wpAny_bind<|wpAny_specialOf ht.typeIs slot_list_iter.lookup ?_;refine wpAny_pure ?_
  simp only[zbu,if_false]
  refine wpAny_bind<|wpAny_holding<|wpAny_pyIter_list ht ?_;refine wpAny_bind<|wpAny_holding<|Gj a_ items.size 0 _ _ ⟨_,Heap.get?_push_size _ rfl,rfl,rfl⟩ (ht.push _) (by lia) fun h₁ zI sE=>?_
  have rQ:List.take items.size (List.drop 0 items.toList)=items.toList:=by
   rw[zbw];exact zaL (by simp)
  rw[rQ];rw[if_neg (by simp)]
  have Tw:h₁.IsList t items:=(ht.push _).extBut sE.extBut a_;refine wpAny_bind<|wpAny_holding<|wpAny_pyNext_list_end hh zI Tw (by simp) fun h₂ Tx=>?_
  simp only[Option.isSome_none,zbu,if_false]
  refine wpAny_pure<|hQ h₂ fun b o hb e=>Tx b o hb (sE.extBut b o hb<|Heap.get?_push_of_some _ e)
theorem Tz{env:Env}{elts:List Expr}{x1}{pos:Pos}{t:Addr}{items:Array Value}{Q:Unit->Shared->Prop}(hh:A.handled=none)(ht:s.heap.IsList t items)
  (hn:(assignEach elts env).length=items.size) (TB:(assignEach elts env).findIdx? (·.1)=none)
  (h:∀h',Heap.ExtBut s.heap.objs.size s.heap h'->wpAny (model prog w) A (assignInOrder ((assignEach elts env).map (·.2)) items.toList) Q E {s with heap:=h'}):
  wpAny (model prog w) A (assign (.Tuple elts x1 pos) env<|.ref t) Q E s:=by
 rw[assign_Tuple];refine wpAny_bind<|wpAny_standAt ?_;unfold unpack;rw[hn,TB];exact wpAny_bind<|wpAny_holding<|Tv hh ht h
end
def mv(K:Frag)(n:Nat)(t:jS):TG:=fun v σ H Q=>∃a xs,v=.ref a/\(aD K H a xs\/au K H a xs)/\xs.length=n/\t xs σ H Q
theorem Gk{X:Cx}{es:List Expr}{k:Nat}{t:jS}{n:Nat}{pos:Pos}(hc:X.calm=true)(h:pO X es t)
  (hn:(assignEach es X.env).length=n) (lU:(assignEach es X.env).findIdx? (·.1)=none):PG X (.Tuple es k pos) (mv X.K n t):=by
 intro pins s σ H v u Q I r hw;obtain⟨a,xs,e1,hq,hl,hw⟩:=hw;rcases hq with hq|hq
 ·exact DZ hc h hn lU pins s σ H v u Q I r ⟨a,xs,e1,hq,hl,hw⟩
 ·subst e1;cases r;obtain⟨ah,rv,ht,hz⟩:=I.list hq;refine Tz (I.ok.hd hc) ht.isList (by simp[hn,<-hl,rv.length]) lU fun h' hx=>?_
  have I1:Inv X pins σ H {s with heap:=h'}:=I.kept (t':=s.toks) fun b o e=>hx b o (zal<|Heap.lt_size e) e
  exact h pins _ σ H xs _ Q I1 (by simpa using rv) hw
def kZ:List Nat->jS
 |[]=>yt
 |i::r=>vd (eP i) (kZ r)
def TC(to:TE)(tl th:TO):TG:=fun v σ H Q=>to σ H fun o H1=>tl σ H1 fun i H2=>th σ H2 fun j H3=>∃l b xs ys a c,o=.ref l/\v=.ref b/\i=some a/\j=some c/\H3 l=some (.lst xs)/\H3 b=some (.lst ys)/\l≠b/\
 0<=a/\a<=c/\c<=xs.length/\xs.length+ys.length<=sizeLine/\Q σ (upd H3 l<|.lst<|xs.take a.toNat++ys++xs.drop c.toNat)
mutual
def cw(Γ:bo):RS->TS
 |.asg i e=>jl (ae Γ e) (eP i)
 |.pX i e=>jl (ae Γ e) (eP i)
 |.set o ix e=>jl (ae Γ e) (D2 (ae Γ o) (ae Γ ix) vz)
 |.dput o i e=>QF (ae Γ o) (ae Γ i) (ae Γ e)
 |.drop e=>DT (ae Γ e)
 |.ret e=>DU (ae Γ e)
 |.RY=>N3
 |.ite c t e=>DV (bg Γ c) (aB Γ t) (aB Γ e)
 |.js i k ah body=>vf (gJ Γ k ah) (eP i) (aB Γ body)
 |.i0 is k ah body=>vf (gJ Γ k ah) (mv Γ.K is.length<|kZ is) (aB Γ body)
 |.vR c body=>D4 (bg Γ c) (aB Γ body)
 |.pass=>yq
 |.brk=>NY
 |.cont=>NZ
 |.never=>N5
 |.RZ o lo hi e=>jl (ae Γ e) (TC (ae Γ o) (vx<|ae Γ lo)<|vx<|ae Γ hi)
 |.gI o f e=>vp Γ.K (ae Γ o) (ae Γ e) f
 |.sf is e=>jl (ae Γ e) (mv Γ.K is.length<|kZ is)
 |.hZ j as=>zd (Γ.ex j) Γ.E (ba Γ as)
 |.zf n i j body su=>fun D σ H=>∃C,Γ.gv j=.ref C/\vQ Γ.K C i n (fun E=>aB {Γ with E:=E} body) (fun ea=>aB {Γ with E:=E0,hv:=some ea} su) D σ H
 |.R0 k i j f as su=>fun D σ H=>∃C,Γ.gv j=.ref C/\RO Γ.K C i k (Γ.fs f) (ba {Γ with E:=E0} as) (fun ea=>aB {Γ with E:=E0,hv:=some ea} su) D σ H
 |.xs T=>T Γ
def aB(Γ:bo):List RS->TS
 |[]=>yq
 |s::r=>DR (cw Γ s) (aB Γ r)
end
def sG:Expr->Bool
 |.Slice ..=>false|_=>true
def sH:Expr->Bool
 |.ListComp ..=>false|.SetComp ..=>false|.DictComp ..=>false|_=>true
def Gm(sc:Scope)(x:Str)(line:Nat)(s:Scope)(p:Pos):Bool:=
 decide (sc.kind=.function) && decide (sc.names.lookup x=some .local) && (line==p.line) && !(s.names.any fun(n,k)=>n==x && (k==.local ||k==.cell))
def ou(N:List Str)(sc:Scope):List Nat->List Str->Bool
 |[],xs=>xs.isEmpty
 |i::r,xs=>match xs with
  |[]=>false
  |x::t=>decide (N[i]?=some x) && loc sc x && ou N sc r t
structure dg (CX:cI) (S:cP) (Γ:bo) (X:Cx):Prop extends Good CX S Γ X where
 nd:S.N.Nodup
 mw:∀x,X.fn x=true
 own:PassesOwn (model X.prog X.w) X.A X.env X.xe
 qf:X.env.scope.kind=.function
 rs:∀(j:Nat) (x:Str),S.en[j]?=some x->Raises X Γ.E
 jj:X.stack=X.env::X.outer
 gK:X.env.frame=some X.env.locals
 qg:X.ex=[]
 qh:CX=eV X.prog X.w
def qV(S:cP)(i:Nat)(x:Str):Bool:=decide (S.N[i]?=some x) && zi S.sc x && !(x==("__debug__":Str)) && !(x==("__classdict__":Str))
def kG(S:cP)(j:Nat)(x:Str):Bool:=decide (S.gn[j]?=some x) && mf S.sc x && !(x==("__debug__":Str))
def kF(S:cP)(j:Nat)(x:Str):Bool:=decide (S.fn[j]?=some x) && mf S.sc x && !(x==("__debug__":Str))
def kK(S:cP)(j:Nat)(x:Str):Bool:=decide (S.kn[j]?=some x) && mf S.sc x && !(x==("__debug__":Str))
def kB(S:cP)(x y:Str):Bool:=decide (x=y) && mf S.sc x && S.bl.contains x
def kM(o:Expr)(m:Str)(x:Str)(n:Nat)(a c:Pos):Bool:=decide (x=m) && mh o && (a.endLine==c.line) && decide (n<29)
def kL(S:cP)(i:Nat)(x:Str):Bool:=decide (S.N[i]?=some x) && loc S.sc x
section
variable {CX:cI}{S:cP}{Γ:bo}{X:Cx}{e e2 a b c d:Expr}{es:List Expr}{x:Str}{p q pos:Pos}{r ra rb rc:RE}{rs:List RE}{i j:Nat}
theorem aa(G:Good CX S Γ X)(h:qV S i x=true:=by kernel_rfl):PE X (.Name x p) (ae Γ<|.v i):=by
 simp only[qV,zae,decide_eq_true_eq,zaT] at h
 exact NJ (by rw[G.N];exact h.1.1.1) (by rw[G.sc];exact Sb h.1.1.2) h.1.2 h.2
theorem aq{v:Int}{k:Nat}:PE X (.Constant (.int v) k p) (ae Γ<|.c<|.int v):=NK
theorem aG{v:Str}{k:Nat}:PE X (.Constant (.str v) k p) (ae Γ<|.c<|.str v):=NN
theorem dh{v:Bool}{k:Nat}:PE X (.Constant (.bool v) k p) (ae Γ<|.c<|.bl v):=NL
theorem zJ{k:Nat}:PE X (.Constant .none k p) (ae Γ<|.c .aF):=NM
theorem Gn(G:Good CX S Γ X)(h:kG S j x=true:=by kernel_rfl):PE X (.Name x p) (ae Γ<|.g j):=by
 simp only[kG,zae,decide_eq_true_eq,zaT] at h
 obtain⟨u,hm,r⟩:=G.kW j x h.1.1;exact DL (G.gl h.1.2) hm r h.2
theorem aH{op:Operator}(G:Good CX S Γ X)(ha:PE X a (ae Γ ra))(hb:PE X b (ae Γ rb)):PE X (.BinOp a op b p) (ae Γ<|.bin op ra rb):=by
 show PE X _ (eJ (iD Γ.K op) (ae Γ ra)<|ae Γ rb);rw[<-G.K];exact Oh (Ro op) ha hb
theorem i6(ha:PE X a (ae Γ ra)):PE X (.UnaryOp .USub a p) (ae Γ<|.neg ra):=Oi Tj ha
theorem gN{op:CmpOp}(G:Good CX S Γ X)(ha:PE X a (ae Γ ra))(hb:PE X b (ae Γ rb))(hm:behindInMarks op b=false:=by kernel_rfl):PE X (.Compare a [op] [b] p) (ae Γ<|.cmp op ra rb):=by
 show PE X _ (eJ (cO Γ.K op) (ae Γ ra)<|ae Γ rb);rw[<-G.K];exact OI (vN G.units op) ha hb hm
theorem TF{op fi:CmpOp}(G:Good CX S Γ X)(ha:PE X a (ae Γ ra))(hb:PE X b (ae Γ rb))(hc:PE X c (ae Γ rc))(hm:lastMarks [op,fi] [b,c]=false:=by kernel_rfl):PE X (.Compare a [op,fi] [b,c] p) (ae Γ<|.r_ op fi ra rb rc):=by
 show PE X _ (vm (cO Γ.K op) (cO Γ.K fi) (ae Γ ra) (ae Γ rb)<|ae Γ rc);rw[<-G.K];exact OK (vN G.units op) (vN G.units fi) ha hb hc hm
theorem i7(h:PE X e (ae Γ r)):PE X (.BoolOp .And [e] p) (ae Γ<|.and [r]):=NR h
theorem gO{r2:RE}(h:PE X e (ae Γ r))(t:PE X (.BoolOp .And (e2::es) p) (ae Γ<|.and (r2::rs))):PE X (.BoolOp .And (e::e2::es) p) (ae Γ<|.and (r::r2::rs)):=NT h t
theorem zK(G:Good CX S Γ X)(ha:PE X a (ae Γ ra)):PE X (.UnaryOp .Not a p) (ae Γ<|.not ra):=by
 show PE X _ (zg Γ.K<|ae Γ ra);rw[<-G.K];exact Tn ha
theorem sI(hc:PT X c (bg Γ rc))(ha:PE X a (ae Γ ra))(hb:PE X b (ae Γ rb)):PE X (.IfExp c a b p) (ae Γ<|.l9 rc ra rb):=NU hc ha hb
theorem ao:PA X [] (ba Γ []):=rH
theorem af(h:PE X e (ae Γ r))(t:PA X es (ba Γ rs))(hs:noStar e=true:=by kernel_rfl):PA X (e::es) (ba Γ (r::rs)):=lV h t (dE hs)
theorem aS(G:Good CX S Γ X)(hA:PA X (e::es) (ba Γ (r::rs)))(h:kF S j x=true:=by kernel_rfl)(hn:gM (e::es)=true:=by kernel_rfl)(hq:S.md=0:=by rfl):PE X (.Call (.Name x p) (e::es) [] pos) (ae Γ<|.call j (r::rs)):=by
 simp only[kF,zae,decide_eq_true_eq,zaT] at h
 obtain⟨k,f,fd,ps,F,hr,hm,hk,hb⟩:=G.fns hq j x h.1.1;exact O9 F hr (G.gl h.1.2) hm hk hb .nil G.pass hA h.2 (dE (dY hn).1)<|jZ _ _ es (dY hn).2
theorem zM(G:Good CX S Γ X)(hA:PA X (e::es) (ba Γ (r::rs)))(h:kK S j x=true:=by kernel_rfl)(hn:gM (e::es)=true:=by kernel_rfl)(hq:S.md=0:=by rfl):PE X (.Call (.Name x p) (e::es) [] pos) (ae Γ<|.make j (r::rs)):=by
 simp only[kK,zae,decide_eq_true_eq,zaT] at h
 obtain⟨k,f,fd,ps,M,F,hr,hm,hb⟩:=G.oq hq j x h.1.1;exact Pa M F hr (G.gl h.1.2) hm hb .nil G.pass hA h.2 (dE (dY hn).1)<|jZ _ _ es (dY hn).2
theorem bw{t:kS}(G:Good CX S Γ X)(hA:PA X (e::es) (ba Γ (r::rs)))(h:kB S x t.nm=true:=by kernel_rfl)(hn:gM (e::es)=true:=by kernel_rfl)(hq:S.md=0:=by rfl):PE X (.Call (.Name x p) (e::es) [] pos) (ae Γ<|.blt t (r::rs)):=by
 simp only[kB,zae,decide_eq_true_eq] at h
 obtain⟨⟨rfl,h2⟩,h3⟩:=h;have n1:t.nm≠"__name__":=by cases t<;>decide
 have n2:(t.nm==("__debug__":Str))=false:=by cases t<;>decide
 show PE X _ (iY (i4 Γ.K t)<|ba Γ (r::rs));rw[<-G.K];cases SU (X:=X) (G.calm hq) t with
 |fn id hv hc=>exact yH hc (G.gl h2) (G.gL _ h3) hv hA n1 n2 (dE (dY hn).1) (jZ _ _ es (dY hn).2)
 |ty T hv hc=>exact Pg hc (G.gl h2) (G.gL _ h3) hv hA n1 n2 (dE (dY hn).1) (jZ _ _ es (dY hn).2)
theorem eW{T:Ty}{y:Str}(G:Good CX S Γ X)(ha:PE X a (ae Γ ra))(h:kB S x "isinstance"=true:=by kernel_rfl)(h2:kB S y (Str.ofString T.nm)=true:=by kernel_rfl)(hs:noStar a=true:=by kernel_rfl):PE X (.Call (.Name x p) [a,.Name y q] [] pos) (ae Γ<|.df T ra):=by
 simp only[kB,zae,decide_eq_true_eq] at h h2
 obtain⟨⟨rfl,g2⟩,g3⟩:=h;obtain⟨⟨rfl,k2⟩,k3⟩:=h2;exact Te ha hs (G.gl g2) (G.gL _ g3) (G.gl k2)<|G.gL _ k3
theorem qi{m:hX}{o:Expr}{ro:RE}{ap:Pos}(G:Good CX S Γ X)(ho:PE X o (ae Γ ro))(h:kM o m.nm x 0 ap pos=true:=by kernel_rfl):PE X (.Call (.Attribute o x ap) [] [] pos) (ae Γ<|.bz m ro []):=by
 simp only[kM,zae,decide_eq_true_eq] at h
 obtain⟨⟨⟨rfl,h2⟩,h3⟩, -⟩:=h;show PE X _ (pZ Γ.K m (ae Γ ro) iX);rw[<-G.K];exact Tp ho h2 h3
theorem cQ{m:hX}{o:Expr}{ro:RE}{ap:Pos}(G:Good CX S Γ X)(ho:PE X o (ae Γ ro))(hA:PA X (e::es) (ba Γ (r::rs)))(h:kM o m.nm x (es.length+1) ap pos=true:=by kernel_rfl)(hn:gM (e::es)=true:=by kernel_rfl):PE X (.Call (.Attribute o x ap) (e::es) [] pos) (ae Γ<|.bz m ro (r::rs)):=by
 simp only[kM,zae,decide_eq_true_eq] at h
 obtain⟨⟨⟨rfl,h2⟩,h3⟩,h4⟩:=h;show PE X _ (pZ Γ.K m (ae Γ ro)<|ba Γ (r::rs));rw[<-G.K];exact To ho hA h2 h3 h4 (dE (dY hn).1) (jZ _ _ es (dY hn).2)<|zF _ _ (e::es) hn
theorem dw{f:Str}{ro:RE}(G:Good CX S Γ X)(ho:PE X a (ae Γ ro))(h:mh a=true:=by kernel_rfl):PE X (.Attribute a f p) (ae Γ<|.fld ro f):=by
 show PE X _ (vo Γ.K (ae Γ ro) f);rw[<-G.K];exact O4 ho<|nU h
theorem gP{m:Str}{o:Expr}{ro:RE}{ap:Pos}(G:Good CX S Γ X)(ho:PE X o (ae Γ ro))(h:(kM o m m 0 ap pos && decide (S.mn[j]?=some m))=true:=by kernel_rfl)(hq:S.md=0:=by rfl):PE X (.Call (.Attribute o m ap) [] [] pos) (ae Γ<|.bj j m ro []):=by
 simp only[kM,zae,decide_eq_true_eq] at h
 obtain⟨⟨⟨⟨-,h2⟩,h3⟩, -⟩,h5⟩:=h;exact Ts (G.mr hq j _ h5) G.pass ho h2 h3
theorem h_{m:Str}{o:Expr}{ro:RE}{ap:Pos}(G:Good CX S Γ X)(ho:PE X o (ae Γ ro))(hA:PA X (e::es) (ba Γ (r::rs)))(h:(kM o m m (es.length+1) ap pos && decide (S.mn[j]?=some m))=true:=by kernel_rfl)(hn:gM (e::es)=true:=by kernel_rfl)(hq:S.md=0:=by rfl):PE X (.Call (.Attribute o m ap) (e::es) [] pos) (ae Γ<|.bj j m ro (r::rs)):=by
 simp only[kM,zae,decide_eq_true_eq] at h
 obtain⟨⟨⟨⟨-,h2⟩,h3⟩,h4⟩,h5⟩:=h;exact Tr (G.mr hq j _ h5) G.pass ho hA h2 h3 h4 (dE (dY hn).1) (jZ _ _ es (dY hn).2)<|zF _ _ (e::es) hn
theorem TH(h:sG b=true):EJ b:=fun o i=>by cases b<;>first|rfl|cases h
theorem aI(G:Good CX S Γ X)(ha:PE X a (ae Γ ra))(hb:PE X b (ae Γ rb))(h:sG b=true:=by kernel_rfl):PE X (.Subscript a b p) (ae Γ<|.ix ra rb):=by
 show PE X _ (eJ (ma Γ.K Γ.sd) (ae Γ ra)<|ae Γ rb);rw[<-G.K];exact PC (S7 G.mj) ha hb<|TH h
theorem TJ(h:sG b=true):y2 b:=fun ov iv=>by cases b<;>first|rfl|cases h
theorem di(G:Good CX S Γ X)(ha:PE X a (ae Γ ra))(hb:PE X b (ae Γ rb))(h:sG b=true:=by kernel_rfl):PE X (.Subscript a b p) (ae Γ<|.bQ ra rb):=
 QG (by have:=G.units;lia) ha hb (TJ h)
theorem j3{lo hi:Option Expr}{rl rh:Option RE}(G:Good CX S Γ X)(ha:PE X a (ae Γ ra))(hl:PO X lo (me Γ rl))(hh:PO X hi (me Γ rh)):PE X (.Subscript a (.Slice lo hi none q) p) (ae Γ<|.sl ra rl rh):=by
 show PE X _ (yJ (oh Γ.K) (ae Γ ra) (me Γ rl)<|me Γ rh);rw[<-G.K];exact Px Th ha hl hh
theorem v7:PO X none (me Γ none):=Pr
theorem gc(ha:PE X a (ae Γ ra)):PO X (some a) (me Γ<|some ra):=Pw ha
theorem cJ{k}(hA:PA X es (ba Γ rs)):PE X (.Tuple es k p) (ae Γ<|.tup rs):=O7 hA
theorem cC(hA:PA X es (ba Γ rs)):PE X (.List es p) (ae Γ<|.lst rs):=O8 hA
def v8(CX:cI)(S:cP)(Γ:bo)(cond:Option RE)(ifs:List Expr):Prop:=match cond with
 |none=>ifs=[]
 |some r=>∃e0,ifs=[e0]/\∀X,Good CX S Γ X->PT X e0 (bg Γ r)
theorem qj:v8 CX S Γ none []:=rfl
theorem qk(h:∀X,Good CX S Γ X->PT X e (bg Γ r)):v8 CX S Γ (some r) [e]:=⟨e,rfl,h⟩
def kC(S:cP)(tk:Option Nat)(tg iter:Expr)(sc:Scope)(k:IK)(ln:List Str)(fv:List (Str×Nat)):Bool:=decide (zl tk tg=some ln) && (decide (k≠ .zip)||tk.isSome) && zm S ⟨.Constant .none 0 ⟨0,0,0,0⟩,tg,iter,[],sc⟩ ln fv
abbrev cS(S:cP)(sc:Scope)(ln:List Str)(fv:List (Str×Nat)):cP:={S with N:=ln++fv.map (·.1),sc:=zk sc S.sc,en:=[],md:=if S.md=0 then 0 else 2}
theorem j4{tk:Option Nat}{fv:List (Str×Nat)}{k:IK}{ah:List RE}{cond:Option RE}{elt:RE}{el tg iter:Expr}{ifs:List Expr}{sc:Scope}{ln:List Str}(G:Good CX S Γ X)(h:kC S tk tg iter sc k ln fv=true)(hi:PI X tg iter (gJ Γ k ah))
  (hc:v8 CX (cS S sc ln fv) Γ.calm cond ifs) (he:∀X,Good CX (cS S sc ln fv) Γ.calm X->PE X el (ae Γ.calm elt)) (hq:S.md=0:=by rfl):PE X (.ListComp el [⟨tg,iter,ifs,0⟩] sc p) (ae Γ<|.comp tk fv k ah cond elt):=by
 simp only[kC,zae,decide_eq_true_eq] at h
 obtain⟨⟨h1,h2⟩,h3⟩:=h;obtain⟨o1,o2,o3,o4⟩:=Ga (c:=⟨.Constant .none 0 ⟨0,0,0,0⟩,tg,iter,[],sc⟩) G h3;show PE X _ (nY Γ.K (gJ Γ k ah) tk fv (vT Γ.calm cond)<|ae Γ.calm elt);rw[<-G.K];refine Rh o1 (G.calm hq) hi (Gb (c:=⟨.Constant .none 0 ⟨0,0,0,0⟩,tg,iter,[],sc⟩) (G.calm hq) h1 o2 o3) ?_ (fun ex C s H=>he _<|G.inner ⟨.Constant .none 0 ⟨0,0,0,0⟩,tg,iter,[],sc⟩ ln fv ex C s H)<|v5 o4;cases cond with
 |none=>exact hc
 |some r=>
  obtain⟨e0,q,hq⟩:=hc;exact⟨e0,q,fun ex C s H=>hq _<|G.inner ⟨.Constant .none 0 ⟨0,0,0,0⟩,tg,iter,[],sc⟩ ln fv ex C s H⟩
theorem cE(h:PT X a (bg Γ ra)):PT X (.UnaryOp .Not a p) (bg Γ<|.not ra):=NP h
theorem k7(h:PT X e (bg Γ r)):PW X (.BoolOp .And [e] p) (bg Γ<|.and [r]):=pw_and1 h
theorem k_{r2:RE}(h:PT X e (bg Γ r))(t:PW X (.BoolOp .And (e2::es) p) (bg Γ<|.and (r2::rs))):PW X (.BoolOp .And (e::e2::es) p) (bg Γ<|.and (r::r2::rs)):=pw_and h t
theorem jx(h:PT X e (bg Γ r)):PW X (.BoolOp .Or [e] p) (bg Γ<|.or [r]):=pw_or1 h
theorem gf{r2:RE}(h:PT X e (bg Γ r))(t:PW X (.BoolOp .Or (e2::es) p) (bg Γ<|.or (r2::rs))):PW X (.BoolOp .Or (e::e2::es) p) (bg Γ<|.or (r::r2::rs)):=pw_or h t
theorem aW{op:CmpOp}(G:Good CX S Γ X)(ha:PE X a (ae Γ ra))(hb:PE X b (ae Γ rb))(hm:behindInMarks op b=false:=by kernel_rfl):PT X (.Compare a [op] [b] p) (bg Γ<|.cmp op ra rb):=by
 show PT X _ (pQ<|eJ (cO Γ.K op) (ae Γ ra)<|ae Γ rb);rw[<-G.K];exact OJ (vN G.units op) ha hb hm
theorem zN(G:Good CX S Γ X)(h:PE X (.Name x p) (ae Γ<|.v i)):PT X (.Name x p) (bg Γ<|.v i):=by
 show PT X _ (eU Γ.K<|ae Γ<|.v i);rw[<-G.K];exact sC h fun _=>rfl
theorem eY(G:Good CX S Γ X)(h:PE X (.Call a es [] p) (ae Γ<|.call j rs)):PT X (.Call a es [] p) (bg Γ<|.call j rs):=by
 show PT X _ (eU Γ.K<|ae Γ<|.call j rs);rw[<-G.K];exact sC h fun _=>rfl
theorem j5{T:Ty}(G:Good CX S Γ X)(h:PE X (.Call a es [] p) (ae Γ<|.df T ra)):PT X (.Call a es [] p) (bg Γ<|.df T ra):=by
 show PT X _ (eU Γ.K<|ae Γ<|.df T ra);rw[<-G.K];exact sC h fun _=>rfl
theorem TK{m:hX}{ro:RE}(G:Good CX S Γ X)(h:PE X (.Call a es [] p) (ae Γ<|.bz m ro rs)):PT X (.Call a es [] p) (bg Γ<|.bz m ro rs):=by
 show PT X _ (eU Γ.K<|ae Γ<|.bz m ro rs);rw[<-G.K];exact sC h fun _=>rfl
theorem zO{m:Str}{ro:RE}(G:Good CX S Γ X)(h:PE X (.Call a es [] p) (ae Γ<|.bj j m ro rs)):PT X (.Call a es [] p) (bg Γ<|.bj j m ro rs):=by
 show PT X _ (eU Γ.K<|ae Γ<|.bj j m ro rs);rw[<-G.K];exact sC h fun _=>rfl
theorem ia{tg:Expr}(G:Good CX S Γ X)(ha:PE X a (ae Γ ra)):PI X tg a (gJ Γ .list [ra]):=by
 show PI X tg a (yw Γ.K<|ae Γ ra);rw[<-G.K];exact Ob ha
theorem TL{tg:Expr}(G:Good CX S Γ X)(ha:PE X a (ae Γ ra)):PI X tg a (gJ Γ .tup [ra]):=by
 show PI X tg a (yx Γ.K<|ae Γ ra);rw[<-G.K];exact Oc ha
theorem lj{tg:Expr}(G:Good CX S Γ X)(ha:PE X a (ae Γ ra))(h:kB S x "range"=true:=by kernel_rfl)(hs:noStar a=true:=by kernel_rfl):PI X tg (.Call (.Name x p) [a] [] pos) (gJ Γ .dz [ra]):=by
 simp only[kB,zae,decide_eq_true_eq] at h
 obtain⟨⟨rfl,h2⟩,h3⟩:=h;exact Od (G.gl h2) (G.gL _ h3) (lV ha rH<|dE hs)<|dE hs
theorem Gp{tg:Expr}(G:Good CX S Γ X)(ha:PE X a (ae Γ ra))(hb:PE X b (ae Γ rb))(h:kB S x "range"=true:=by kernel_rfl)(hs:noStar a=true:=by kernel_rfl)(cf:noStar b=true:=by kernel_rfl):PI X tg (.Call (.Name x p) [a,b] [] pos) (gJ Γ .r9 [ra,rb]):=by
 simp only[kB,zae,decide_eq_true_eq] at h
 obtain⟨⟨rfl,h2⟩,h3⟩:=h;exact Oe (G.gl h2) (G.gL _ h3) (lV ha (lV hb rH<|dE cf)<|dE hs) (by rw[dE hs,dE cf];rfl)<|dE cf
theorem TM{ts:List Expr}{k}{tp:Pos}(G:Good CX S Γ X)(ha:PE X a (ae Γ ra))(hb:PE X b (ae Γ rb))(h:kB S x "zip"=true:=by kernel_rfl)(hn:gM [a,b]=true:=by kernel_rfl):PI X (.Tuple ts k tp) (.Call (.Name x p) [a,b] [] pos) (gJ Γ .zip [ra,rb]):=by
 simp only[kB,zae,decide_eq_true_eq] at h
 obtain⟨⟨rfl,h2⟩,h3⟩:=h;show PI X _ _ (zh Γ.K<|dQ (ae Γ ra)<|ba Γ [rb]);rw[<-G.K];exact Sj (G.gl h2) (G.gL _ h3) (lV ha (lV hb rH<|dE (dY (dY hn).2).1)<|dE (dY hn).1) (dE (dY hn).1)<|jZ _ _ _ (dY hn).2
end
section
variable {CX:cI}{S:cP}{Γ:bo}{X:Cx}{e a b c v:Expr}{es:List Expr}{x:Str}{p q pos:Pos}{r ra rb rc:RE}{i j:Nat}{st:Stmt}{Gq:List Stmt}{s:RS}{ss t u:List RS}
theorem v9{v:Expr}{t:Option Expr}{l:Nat}{env:Env}(h:sH v=true):swapsWith v t l env=pure false:=by
 cases v<;>first|rfl|cases h
theorem TN{v:Expr}{x:Str}{p:Pos}{l:Nat}{env:Env}(h:env.kindOf x=some .cell):swapsWith v (some<|.Name x p) l env=pure false:=by
 cases v<;>first
  |rfl
  |(unfold swapsWith;simp only[h];have q:(some NameKind.cell==some NameKind.local)=false:=rfl;simp only[q,Bool.and_false,Bool.false_and])
theorem TQ{v o i:Expr}{p:Pos}{l:Nat}{env:Env}:swapsWith v (some<|.Subscript o i p) l env=pure false:=by
 cases v<;>rfl
theorem TR{v o i:Expr}{p:Pos}{env:Env}:swappedStores [.Subscript o i p] v env=pure none:=by
 cases v<;>rfl
theorem dg.name(G:dg CX S Γ X)(h:kL S i x=true):PG X (.Name x p) (eP i):=by
 simp only[kL,zae,decide_eq_true_eq] at h
 exact vc (by rw[G.N];exact G.nd) (by rw[G.N];exact h.1) (by rw[G.sc];exact zj h.2)<|.inl<|G.mw x
theorem ar:dB X [] (aB Γ []):=DS
theorem ai(h:PS X st (cw Γ s))(t:dB X Gq (aB Γ ss)):dB X (st::Gq) (aB Γ (s::ss)):=NX h t
theorem aO(G:dg CX S Γ X)(he:PE X v (ae Γ r))(h:kL S i x=true:=by kernel_rfl)(hc:(sH v ||decide (S.sc.names.lookup x=some .cell))=true:=by kernel_rfl):PS X (.Assign [.Name x p] v q) (cw Γ<|.asg i r):=by
 simp only[kL,zae,decide_eq_true_eq,Bool.or_eq_true] at h hc
 refine N7 (by rw[G.N];exact G.nd) (by rw[G.N];exact h.1) (by rw[G.sc];exact zj h.2) he ?_<|.inl<|G.mw x
 rcases hc with h4|h4
 ·exact v9 h4
 ·exact TN (by show X.env.scope.names.lookup x=_;rw[G.sc];exact h4)
theorem Gr{tk:Option Nat}{fv:List (Str×Nat)}{k:IK}{ah:List RE}{cond:Option RE}{elt:RE}{el tg iter:Expr}{ifs:List Expr}{sc:Scope}{ln:List Str}{pc:Pos}(G:dg CX S Γ X)(h0:kL S i x=true)(hs:Gm S.sc x p.line sc pc=true)(h:kC S tk tg iter sc k ln fv=true)(hi:PI X tg iter (gJ Γ k ah))
  (hc:v8 CX (cS S sc ln fv) Γ.calm cond ifs) (he:∀X,Good CX (cS S sc ln fv) Γ.calm X->PE X el (ae Γ.calm elt)) (hq:S.md=0:=by rfl):PS X (.Assign [.Name x p] (.ListComp el [⟨tg,iter,ifs,0⟩] sc pc) q) (cw Γ<|.pX i<|.comp tk fv k ah cond elt):=by
 simp only[kC,kL,Gm,zae,decide_eq_true_eq,beq_iff_eq,zaT] at h h0 hs
 obtain⟨⟨h1,h2⟩,h3⟩:=h;obtain⟨o1,o2,o3,o4⟩:=Ga (c:=⟨.Constant .none 0 ⟨0,0,0,0⟩,tg,iter,[],sc⟩) G.toGood h3;show PS X _ (jl (nY Γ.K (gJ Γ k ah) tk fv (vT Γ.calm cond)<|ae Γ.calm elt)<|eP i);rw[<-G.K];refine Ri (by rw[G.N];exact G.nd) (by rw[G.N];exact h0.1) (by rw[G.sc];exact zj h0.2) ?_ o1 (G.calm hq) hi (Gb (c:=⟨.Constant .none 0 ⟨0,0,0,0⟩,tg,iter,[],sc⟩) (G.calm hq) h1 o2 o3) ?_ (fun ex C s H=>he _<|G.toGood.inner ⟨.Constant .none 0 ⟨0,0,0,0⟩,tg,iter,[],sc⟩ ln fv ex C s H) (v5 o4)<|.inl<|G.mw x
 ·have e1:X.env.kindOf x=some .local:=by show X.env.scope.names.lookup x=_;rw[G.sc];exact hs.1.1.2
  have e2:X.env.blockKind=.function:=by unfold Env.blockKind;rw[G.qf];rfl
  unfold swapsWith
  simp only[e1,e2,hs.1.2,hs.2]
  show pure (true && true && (pc.line==pc.line) && !false)=pure true;rw[beq_self_eq_true];rfl
 ·cases cond with
  |none=>exact hc
  |some r=>
   obtain⟨e0,q,hq⟩:=hc;exact⟨e0,q,fun ex C s H=>hq _<|G.toGood.inner ⟨.Constant .none 0 ⟨0,0,0,0⟩,tg,iter,[],sc⟩ ln fv ex C s H⟩
theorem sJ(he:PE X v (ae Γ r))(ha:PE X a (ae Γ ra))(hb:PE X b (ae Γ rb))(h:sG b=true:=by kernel_rfl):PS X (.Assign [.Subscript a b p] v q) (cw Γ<|.set ra rb r):=
 D3 he (N6 ha hb set_list (by intro w;cases b<;>first|rfl|cases h)) (by exact TQ (o:=a) (i:=b) (p:=p) (l:=q.line) (env:=X.env)) TR rfl
theorem j6{f:Str}(G:dg CX S Γ X)(ho:PE X a (ae Γ ra))(he:PE X v (ae Γ r))(h:sH v=true:=by kernel_rfl):PS X (.Assign [.Attribute a f p] v q) (cw Γ<|.gI ra f r):=by
 show PS X _ (vp Γ.K (ae Γ ra) (ae Γ r) f);rw[<-G.K];exact Ep ho he<|v9 h
theorem bU(he:PE X v (ae Γ r))(h:sH v=true:=by kernel_rfl):PS X (.Expr v p) (cw Γ<|.drop r):=N1 he (v9 h)
theorem aV(he:PE X v (ae Γ r)):PS X (.Return (some v) p) (cw Γ<|.ret r):=N2 he
theorem aX{as bs:List Stmt}(hc:PT X c (bg Γ rc))(ha:dB X as (aB Γ t))(hb:dB X bs (aB Γ u)):PS X (.If c as bs p) (cw Γ<|.ite rc t u):=N4 hc ha hb
theorem TU{as:List Stmt}(G:dg CX S Γ X)(hc:PT X c (bg Γ rc))(ha:dB X as (aB Γ t)):PS X (.While c as [] p) (cw Γ<|.vR rc t):=N8 G.own hc ha
theorem ox{k:IK}{ah:List RE}{iter:Expr}{as:List Stmt}(G:dg CX S Γ X)(hi:PI X (.Name x p) iter (gJ Γ k ah))(ha:dB X as (aB Γ t))(h:kL S i x=true:=by kernel_rfl)(hs:sk iter=true:=by kernel_rfl)(hq:S.md=0:=by rfl):PS X (.For (.Name x p) iter as [] q) (cw Γ<|.js i k ah t):=
 D_ G.own (G.calm hq) hi (G.name h) ha (v5 hs)
theorem zP(G:dg CX S Γ X):∀(is:List Nat) (xs:List (Str×Pos)),ou S.N S.sc is (xs.map (·.1))=true->
  pO X (xs.map fun y=>.Name y.1 y.2) (kZ is)/\(assignEach (xs.map fun y=>Expr.Name y.1 y.2) X.env).length=is.length/\(assignEach (xs.map fun y=>Expr.Name y.1 y.2) X.env).findIdx? (·.1)=none
 |[],xs,h=>by
  simp only[ou,List.isEmpty_iff,List.map_eq_nil_iff] at h
  subst h;exact⟨DX,rfl,rfl⟩
 |i::r,[],h=>by simp only[zaV,ou] at h;cases h
 |i::r,y::t,h=>by
  simp only[zaw,ou,zae] at h
  obtain⟨i1,i2,i3⟩:=zP G r t h.2;refine⟨yu (G.name (by simp only[kL,zae];exact h.1)) i1 rfl,?_,?_⟩
  ·show(assignEach _ X.env).length+1=r.length+1;rw[i2]
  ·show List.findIdx? (·.1) ((false,assign (.Name y.1 y.2) X.env)::assignEach _ X.env)=none;rw[List.findIdx?_cons,i3];rfl
theorem mx{is:List Nat}{k:IK}{ah:List RE}{iter:Expr}{as:List Stmt}{kt}{tp:Pos}(xs:List (Str×Pos))(G:dg CX S Γ X)(hi:PI X (.Tuple (xs.map fun y=>.Name y.1 y.2) kt tp) iter (gJ Γ k ah))(ha:dB X as (aB Γ t))(h:ou S.N S.sc is (xs.map (·.1))=true:=by kernel_rfl)(hs:sk iter=true:=by kernel_rfl)(hq:S.md=0:=by rfl):
  PS X (.For (.Tuple (xs.map fun y=>.Name y.1 y.2) kt tp) iter as [] q) (cw Γ<|.i0 is k ah t):=by
 obtain⟨i1,i2,i3⟩:=zP G is xs h;show PS X _ (vf (gJ Γ k ah) (mv Γ.K is.length<|kZ is)<|aB Γ t);rw[<-G.K];exact D_ G.own (G.calm hq) hi (Gk (G.calm hq) i1 i2 i3) ha<|v5 hs
def TV:Expr->Bool
 |.Tuple ..=>false|_=>true
theorem Gs{is:List Nat}{kt}{tp:Pos}(xs:List (Str×Pos))(G:dg CX S Γ X)(he:PE X v (ae Γ r))(h:ou S.N S.sc is (xs.map (·.1))=true:=by kernel_rfl)(hc:(sH v && TV v)=true:=by kernel_rfl)(hq:S.md=0:=by rfl):
  PS X (.Assign [.Tuple (xs.map fun y=>.Name y.1 y.2) kt tp] v q) (cw Γ<|.sf is r):=by
 simp only[zae] at hc
 obtain⟨i1,i2,i3⟩:=zP G is xs h;show PS X _ (jl (ae Γ r)<|mv Γ.K is.length<|kZ is);rw[<-G.K];refine D3 he (Gk (G.calm hq) i1 i2 i3) (by show swapsWith v (some<|.Tuple (xs.map fun y=>Expr.Name y.1 y.2) kt tp) q.line X.env=pure false;exact v9 hc.1) ?_ rfl
 have h2:=hc.2;cases v<;>first|rfl|cases h2
def kX(S:cP)(j:Nat)(x:Str):Bool:=decide (S.en[j]?=some x) && mf S.sc x && !(x==("__debug__":Str))
theorem i8{rs:List RE}{np du:Pos}(G:dg CX S Γ X)(hA:PA X (e::es) (ba Γ (r::rs)))(h:kX S j x=true:=by kernel_rfl)(hn:gM (e::es)=true:=by kernel_rfl)(hq:S.md=0:=by rfl):PS X (.Raise (some<|.Call (.Name x np) (e::es) [] du) none pos) (cw Γ<|.hZ j (r::rs)):=by
 simp only[kX,zae,decide_eq_true_eq,zaT] at h
 obtain⟨bm,B,newId,p9,O,FB⟩:=G.sy j x h.1.1;exact Sy (G.calm hq) O FB (G.gl h.1.2) h.2 hA (dE (dY hn).1) (jZ _ _ es (dY hn).2)<|G.rs j x h.1.1
abbrev tS(S:cP):cP:={S with en:=[]}
abbrev hS(S:cP):cP:={S with en:=[],md:=2}
theorem dg.TX(G:dg CX S Γ X)(pn:List (Addr×Obj))(xe:Value->Shared->Prop)(E:XK)(ho:PassesOwn (model X.prog X.w) X.A X.env xe)(hp:Passes (eV X.prog X.w) (X.alt X.A X.calm pn xe) E):
  dg CX (tS S) {Γ with E:=E} (X.alt X.A X.calm pn xe):=
 {N:=G.N,sc:=G.sc,K:=G.K,calm:=G.calm,units:=G.units,gd:=G.gd,fns:=G.fns,kW:=G.kW,gL:=G.gL,pass:=by rw[G.qh];exact hp,kY:=G.kY,mj:=G.mj,mr:=G.mr,oq:=G.oq,
  sy:=fun _ _ h=>(by simp at h),ot:=G.ot,qe:=G.qe,sA:=G.sA,nd:=G.nd,mw:=G.mw,own:=ho,qf:=G.qf,rs:=fun _ _ h=>(by simp at h),jj:=G.jj,gK:=G.gK,qg:=G.qg,qh:=G.qh}
theorem dg.held(G:dg CX S Γ X)(ea:Addr)(pn:List (Addr×Obj)):
  dg CX (hS S) {Γ with E:=E0,hv:=some ea} (X.alt (X.A.mark<|some<|.ref ea) false pn fun _ _=>False):=
 {N:=G.N,sc:=G.sc,K:=G.K,calm:=fun h=>(nomatch h),units:=G.units,gd:=G.gd,fns:=fun h=>(nomatch h),kW:=G.kW,gL:=G.gL,pass:=fun _ _ _ _ _ _ _ h=>(G.kY _ _ _ _ _ h).elim,kY:=G.kY,mj:=G.mj,mr:=fun h=>(nomatch h),oq:=fun h=>(nomatch h),
  sy:=fun _ _ h=>(by simp at h),ot:=fun j x h=>(by
   obtain⟨k,f,fd,ps,F,r,m⟩:=G.ot j x h;exact⟨k,f,fd,ps,F,r.mark _,m⟩),
  qe:=fun e h=>(by cases h;rfl),sA:=fun h=>(nomatch h),nd:=G.nd,mw:=G.mw,own:=PassesOwn.never,qf:=G.qf,rs:=fun _ _ h=>(by simp at h),jj:=G.jj,gK:=G.gK,qg:=G.qg,qh:=G.qh}
end
section
variable {P:Program}{w:World}{K:Frag}{mg:Str->Option Value}{base:Heap}
def j7(P:Program)(w:World)(K:Frag)(mg:Str->Option Value)(base:Heap)(k:Nat)(x:Str)(sp:Sp):Prop:=
 ∃f fd ps,cX P w K mg base (eV P w) k f fd ps sp/\mg x=some (.ref f)/\PySem.W.keepIn K (.ref f)=true/\Binds K fd ps []
theorem j7.mono{j k:Nat}{x:Str}{sp:Sp}(h:j7 P w K mg base j x sp)(hk:j<=k):j7 P w K mg base k x sp:=by
 obtain⟨f,fd,ps,F,r⟩:=h;exact⟨f,fd,ps,F.mono hk,r⟩
def my(tab:List (Str×Sp))(j:Nat):Sp:=match tab[j]? with
 |some p=>p.2
 |none=>fun _ _ _ _=>False
def v_(tab:List (Str×V))(j:Nat):V:=match tab[j]? with
 |some p=>p.2
 |none=>.aF
structure zQ (mg:Str->Option Value) (p:Str×V):Prop where
 ex:∃u,mg p.1=some u/\RelV p.2 u
def j8(tab:List (Str×Addr×Sp))(j:Nat):Addr×Sp:=match tab[j]? with
 |some p=>p.2
 |none=>(0,fun _ _ _ _=>False)
def wa(tab:List (Str×Addr))(j:Nat):Addr:=match tab[j]? with
 |some p=>p.2
 |none=>0
abbrev aM(K:Frag)(tab:List (Str×Sp))(gt:List (Str×V))(dk:List (Addr×List (Key×V)):=[])(mt kt:List (Str×Addr×Sp):=[])(et:List (Str×Addr):=[])(ht:List (Str×Sp):=[])(E:XK:=E0):bo:=
 {K:=K,fs:=my tab,gv:=v_ gt,E:=E,sd:=fun p kvs=>(p,kvs)∈dk,ms:=j8 mt,kt:=j8 kt,ex:=wa et,hs:=my ht,hv:=none}
def j9(P:Program)(w:World)(K:Frag)(mg:Str->Option Value)(base:Heap)(k:Nat)(p:Str×Addr×Sp):Prop:=
 fj K p.2.1/\∃f fd ps,Meth K p.2.1 p.1 f/\cX P w K mg base (eV P w) k f fd ps p.2.2/\Binds K fd ps []
def oy(P:Program)(w:World)(K:Frag)(mg:Str->Option Value)(base:Heap)(k:Nat)(p:Str×Addr×Sp):Prop:=
 ∃j f fd ps,j+1<=k/\Mk K p.2.1 f/\cX P w K mg base (eV P w) j f fd ps p.2.2/\mg p.1=some (.ref p.2.1)/\Binds K fd ps []
theorem j9.mono{j k:Nat}{p:Str×Addr×Sp}(h:j9 P w K mg base j p)(hk:j<=k):j9 P w K mg base k p:=by
 obtain⟨c,f,fd,ps,m,F,b⟩:=h;exact⟨c,f,fd,ps,m,F.mono hk,b⟩
theorem oy.mono{j k:Nat}{p:Str×Addr×Sp}(h:oy P w K mg base j p)(hk:j<=k):oy P w K mg base k p:=by
 obtain⟨i,f,fd,ps,m,r⟩:=h;exact⟨i,f,fd,ps,zas m hk,r⟩
def Gu(P:Program)(w:World)(K:Frag)(q:Addr×List (Key×V)):Prop:= ∀h:Heap,K.In h->∃vs,KV q.2 vs/\h.DictOf (eg P w) q.1 vs
abbrev wb(N:List Str)(sc:Scope)(tab:List Str)(gt:List Str)(bl:List Str)(mn kn:List Str:=[])(en hn:List Str:=[])(md:Nat:=0):cP:={N:=N,sc:=sc,fn:=tab,gn:=gt,bl:=bl,mn:=mn,kn:=kn,en:=en,hn:=hn,md:=md}
def wc(mg:Str->Option Value)(base:Heap)(p:Str×Addr):Prop:= ∃bm B newId p9,OwnCls p.1 p.2 bm newId mg base/\ExcBaseFacts B newId p9 bm
def zR(P:Program)(w:World)(K:Frag)(mg:Str->Option Value)(base:Heap)(k:Nat)(x:Str)(sp:Sp):Prop:=
 ∃f fd ps,F6 P w K mg base k f fd ps sp/\mg x=some (.ref f)/\PySem.W.keepIn K (.ref f)=true/\Binds K fd ps []
theorem TY{x qual:Str}{st:Stmt}{f:Addr}{fd:FuncData}{N ps:List Str}{k:Nat}{sp:Sp}(F:nW K x qual st f fd)(S:rJ N ps (eS st))
  (tab:List (Str×Sp)) (gt:List (Str×V)) (bl:List Str) (mt kt:List (Str×Addr×Sp)) (et:List (Str×Addr)) (ht:List (Str×Sp)) (body:List RS)
  (hm:∀{CX:cI}{Γ:bo}{X:Cx},dg CX (wb N (eS st) (tab.map (·.1)) (gt.map (·.1)) bl (mt.map (·.1)) (kt.map (·.1)) (et.map (·.1)) (ht.map (·.1))) Γ X->dB X (eR st) (aB Γ body))
  (zS:∀p∈tab,j7 P w K mg base k p.1 p.2) (zT:∀p∈gt,zQ mg p) (zU:∀y∈bl,mg y=none) (dk:List (Addr×List (Key×V))) (zV:∀q∈dk,Gu P w K q)
  (zW:∀p∈mt,j9 P w K mg base k p) (zX:∀p∈kt,oy P w K mg base k p) (het:∀p∈et,wc mg base p) (zY:∀p∈ht,zR P w K mg base k p.1 p.2)
  (len:∀vs H Q E,sp vs H Q E->vs.length=ps.length)
  (zZ:∀vs H Q E,sp vs H Q E->aB (aM K tab gt dk mt kt et ht E) body {nx:=fun _ H'=>Q .aF H',rt:=Q} (start N vs) H):cX P w K mg base (eV P w) (k+1) f fd ps sp:=by
 obtain⟨oc,od,kV,doc,pm,an,bC,ct,iy,rfl,lk,jR⟩:=F.ex;refine Pd lk jR S len fun A outer s H vs Q E hr lY=>⟨_,hm (CX:=eV P w) (Γ:=aM K tab gt dk mt kt et ht E) ?_,zZ vs H Q E lY⟩;refine {N:=rfl,sc:=rfl,K:=rfl,calm:=fun _=>rfl,units:=hr.units,gd:=hr.gd,fns:=fun _ j y hj=>?_,kW:=fun j y hj=>?_,gL:=fun y hy=>?_,pass:=Sv,kY:=fun _ _ _ _ _ h=>F3 h,mj:=fun p kvs h=>zV _ h,mr:=fun _ j y hj=>?_,oq:=fun _ j y hj=>?_,sy:=fun j y hj=>?_,ot:=fun j y hj=>?_,qe:=fun _ h=>(nomatch h),sA:=fun h=>(nomatch h),nd:=S.nd,mw:=fun _=>rfl,own:=PassesOwn.leaving,qf:=S.kind,rs:=fun _ _ _=>Sx,jj:=rfl,gK:=rfl,qg:=rfl,qh:=rfl}
 ·have cj:(tab.map (·.1))[j]?=some y:=hj;rw[zaj] at cj;cases q:tab[j]? with
  |none=>rw[q] at cj;cases cj
  |some p=>
   rw[q] at cj;have e:p.1=y:=zam cj;obtain⟨f',oz,ib,F',m',k',b'⟩:=zS p (zar q);have es:my tab j=p.2:=by unfold my;rw[q]
   show F7 (eV P w) _ y (my tab j);rw[es,<-e];exact⟨k,f',oz,ib,F',hr,m',k',b'⟩
 ·have cj:(gt.map (·.1))[j]?=some y:=hj;rw[zaj] at cj;cases q:gt[j]? with
  |none=>rw[q] at cj;cases cj
  |some p=>
   rw[q] at cj;have e:p.1=y:=zam cj;obtain⟨u,h1,h2⟩:=(zT p<|zar q).ex;have es:v_ gt j=p.2:=by unfold v_;rw[q]
   show ∃u,mg y=some u/\RelV (v_ gt j) u;rw[es,<-e];exact⟨u,h1,h2⟩
 ·exact zU y (by simpa using hy)
 ·have cj:(mt.map (·.1))[j]?=some y:=hj;rw[zaj] at cj;cases q:mt[j]? with
  |none=>rw[q] at cj;cases cj
  |some p=>
   rw[q] at cj;have e:p.1=y:=zam cj;obtain⟨c,f',oz,ib,m',F',b'⟩:=zW p (zar q);have es:j8 mt j=p.2:=by unfold j8;rw[q]
   show vY (eV P w) _ (j8 mt j).1 y (j8 mt j).2;rw[es,<-e];exact⟨c,k,f',oz,ib,m',F',hr,b'⟩
 ·have cj:(kt.map (·.1))[j]?=some y:=hj;rw[zaj] at cj;cases q:kt[j]? with
  |none=>rw[q] at cj;cases cj
  |some p=>
   rw[q] at cj;have e:p.1=y:=zam cj;obtain⟨i,f',oz,ib,hi,m',F',g',b'⟩:=zX p (zar q);have es:j8 kt j=p.2:=by unfold j8;rw[q]
   show F8 (eV P w) _ y (j8 kt j).1 (j8 kt j).2;rw[es,<-e];exact⟨i,f',oz,ib,m',F',hr.mono hi,g',b'⟩
 ·have cj:(et.map (·.1))[j]?=some y:=hj;rw[zaj] at cj;cases q:et[j]? with
  |none=>rw[q] at cj;cases cj
  |some p=>
   rw[q] at cj;have e:p.1=y:=zam cj;have es:wa et j=p.2:=by unfold wa;rw[q]
   show F_ _ y (wa et j);rw[es,<-e];exact het p<|zar q
 ·have cj:(ht.map (·.1))[j]?=some y:=hj;rw[zaj] at cj;cases q:ht[j]? with
  |none=>rw[q] at cj;cases cj
  |some p=>
   rw[q] at cj;have e:p.1=y:=zam cj;obtain⟨f',oz,ib,F',m',k',b'⟩:=zY p (zar q);have es:my ht j=p.2:=by unfold my;rw[q]
   show F9 _ y (my ht j);rw[es,<-e];exact⟨k,f',oz,ib,F',hr.h,m',k',b'⟩
end
section
variable {P:Program}{w:World}{K:Frag}{mg:Str->Option Value}{base:Heap}{x qual:Str}{st:Stmt}{f:Addr}{fd:FuncData}{N ps:List Str}{k:Nat}{sp:Sp}
theorem cX.top{k:Nat}(F:cX P w K mg base (eV P w) k f fd ps sp):cX P w K mg base rS k f fd ps (fun vs H Q _=>sp vs H Q E0):=
 ⟨fun vs H Q E h=>F.len vs H Q E0 h,fun A outer s H args us vs Q E hr e0 hb hv hs=>codeAny_mono (F.run A outer s H args us vs Q E0 hr e0 hb hv hs) fun r s' h=>by
  cases r with
  |error e=>exact(F3 h).elim
  |ok fl=>cases fl<;>exact h⟩
end
section
variable {Γ:bo}{D:Ends}{σ:St}{H:Hp}{r:List RS}{Q:VK}
theorem Gv{i:Nat}{e:RE}(h:ae Γ e σ H fun x H1=>aB Γ r D (σ.set i<|some x) H1):aB Γ (.asg i e::r) D σ H:=h
theorem Gw{b:kS}{as:List RE}(h:ba Γ as σ H fun vs H1=>i4 Γ.K b vs H1 Q):ae Γ (.blt b as) σ H Q:=h
theorem Gx{a:RE}{Q:List V->Hp->Prop}(h:ae Γ a σ H fun x H1=>Q [x] H1):ba Γ [a] σ H Q:=h
end
end L2
variable {H H' H2:L2.Hp}{σ:L2.St}{Γ:L2.bo}{Q:L2.VK}{a o:L2.RE}{v:L2.V}{l r:List Nat}{j n i at':Nat}{C L mk:PySem.Addr}{xs vs ys:List L2.V}{as:List L2.RE}{Bs:List PySem.Addr}{fv:List (PySem.Str×Nat)}{body:List L2.RS}{y:PySem.Str}{D:L2.Ends}
namespace L2.B
open PySem PySem.Spec PyProof.Rows
def iE:List Str:=["thing"]
noncomputable def Gy:List RS:=
 [.ret<|.and [(.df .int<|.v 0),(.not<|.df .bool<|.v 0)]]
def ag:List Str:=[]
def Gz:List Str:=["isinstance","int","bool"]
def z5:List Str:=["thing","words"]
noncomputable def z6:List RS:=
 [.ret<|.and [(.df .str<|.v 0),(.cmp .In (.v 0)<|.v 1)]]
def GA:List Str:=["isinstance","str"]
noncomputable def z7:List RS:=
 [.ret<|.and [(.df .str<|.v 0),(.cmp .Eq (.bz .lstrip (.v 0) [.g 0])<|.c<|.str "")]]
def TZ:List Str:=["SIGNS"]
noncomputable def GB:List RS:=
 [.ite (.not<|.call 0 [.v 0]) [.hZ 0 [(.c<|.str "a text is a str of signs from the blank to the tilde, and line feeds")]] []]
def T_:List Str:=["is_text"]
def Ua:List Str:=["BadText"]
noncomputable def wd:List RS:=
 [.ite (.or [(.not (.df .tuple (.v 0))),(.cmp .NotEq (.blt .len [.v 0]) (.c (.int 2)))]) [.ret (.c (.bl false))] [],
 .ite (.call 0 [(.ix (.v 0)<|.c<|.int 0),(.tup [(.c<|.str "keep")])]) [.ret<|.and [(.call 1 [(.ix (.v 0)<|.c<|.int 1)]),(.cmp .GtE (.ix (.v 0)<|.c<|.int 1)<|.c<|.int 1)]] [],
 .ret (.and [(.call 0 [(.ix (.v 0) (.c (.int 0))),(.tup [(.c (.str "cut")),(.c (.str "put"))])]),(.call 2 [(.ix (.v 0) (.c (.int 1)))]),(.cmp .NotEq (.ix (.v 0) (.c (.int 1))) (.c (.str "")))])]
def Ub:List Str:=["is_word","is_whole","is_text"]
def Uc:List Str:=["isinstance","tuple","len"]
def GC:List Str:=["word","ahead"]
noncomputable def GD:List RS:=
 [.ret<|.and [(.cmp .NotEq (.v 0)<|.v 1),(.not<|.and [(.cmp .Eq (.v 1)<|.c<|.str "cut"),(.cmp .Eq (.v 0)<|.c<|.str "put")])]]
def GF:List Str:=["change","ahead","part"]
noncomputable def GG:List RS:=
 [.ite (.not (.df .list (.v 0))) [.hZ 0 [(.c (.str "a change is a list"))]] [],
 .asg 1 (.c<|.str ""),
 .js 2 .list [.v 0] [.ite (.not (.call 0 [.v 2])) [.hZ 0 [(.c (.str "a part is a keep of 1 sign or more, or a cut or put of a text that is not empty"))]] [],
  .ite (.not<|.call 1 [(.ix (.v 2)<|.c<|.int 0),.v 1]) [.hZ 0 [(.c<|.str "neighbours have two words, and no put stands right behind a cut")]] [],
  .asg 1 (.ix (.v 2) (.c (.int 0)))]]
def Ud:List Str:=["is_part","may_follow"]
def Ue:List Str:=["isinstance","list"]
def GH:List Str:=["BadChange"]
def GI:List Str:=["part"]
noncomputable def GJ:List RS:=
 [.ret<|.l9 (.cmp .Eq (.ix (.v 0)<|.c<|.int 0)<|.c<|.str "keep") (.ix (.v 0)<|.c<|.int 1)<|.blt .len [(.ix (.v 0)<|.c<|.int 1)]]
def j_:List Str:=["len"]
def GK:List Str:=["change","over","gives"]
noncomputable def GL:List RS:=
 [.drop (.call 0 [.v 0]),
 .asg 1 (.blt .sum [(.comp none [] .list [.v 0] (some<|.cmp .NotEq (.ix (.v 0)<|.c<|.int 0)<|.c<|.str "put")<|.call 1 [.v 0])]),
 .asg 2 (.blt .sum [(.comp none [] .list [.v 0] (some<|.cmp .NotEq (.ix (.v 0)<|.c<|.int 0)<|.c<|.str "cut")<|.call 1 [.v 0])]),
 .ret (.tup [.v 1,.v 2])]
def Ug:List Str:=["need_change","part_size"]
def Uh:List Str:=["sum"]
def GN:List Str:=["change","size"]
noncomputable def GO:List RS:=
 [.ite (.and [(.cmp .Gt (.blt .len [.v 0]) (.c (.int 0))),(.cmp .Eq (.ix (.ix (.v 0) (.neg (.c (.int 1)))) (.c (.int 0))) (.c (.str "keep")))]) [.asg 1 (.bin .Add (.v 1) (.ix (.bz .pop (.v 0) []) (.c (.int 1))))] [],
 .drop (.bz .append (.v 0) [(.tup [(.c (.str "keep")),.v 1])])]
def GP:List Str:=["change","puts","cuts","put","cut"]
noncomputable def GQ:List RS:=
 [.asg 3 (.bz .join (.c (.str "")) [.v 1]),
 .asg 4 (.bz .join (.c<|.str "") [.v 2]),
 .ite (.cmp .NotEq (.v 3)<|.c<|.str "") [.drop<|.bz .append (.v 0) [(.tup [(.c<|.str "put"),.v 3])]] [],
 .ite (.cmp .NotEq (.v 4) (.c (.str ""))) [.drop (.bz .append (.v 0) [(.tup [(.c (.str "cut")),.v 4])])] []]
def GR:List Str:=["parts","change","puts","cuts","word","what"]
noncomputable def GS:List RS:=
 [.asg 1 (.lst []),
 .asg 2 (.lst []),
 .asg 3 (.lst []),
 .i0 [4,5] .list [.v 0] [.ite (.cmp .Eq (.v 4) (.c (.str "put"))) [.drop (.bz .append (.v 2) [.v 5])] [.ite (.cmp .Eq (.v 4) (.c (.str "cut"))) [.drop (.bz .append (.v 3) [.v 5])] [.ite (.cmp .Gt (.v 5) (.c (.int 0))) [.drop (.call 0 [.v 1,.v 2,.v 3]),
     .asg 2 (.lst []),
     .asg 3 (.lst []),
     .drop (.call 1 [.v 1,.v 5])] []]]],
 .drop (.call 0 [.v 1,.v 2,.v 3]),
 .ret (.v 1)]
def Ui:List Str:=["add_texts","add_keep"]
def GU:List Str:=["text","change","place","pieces","word","what"]
noncomputable def GV:List RS:=
 [.drop (.call 0 [.v 0]),
 .ite (.cmp .NotEq (.ix (.call 1 [.v 1])<|.c<|.int 0)<|.blt .len [.v 0]) [.hZ 0 [(.c<|.str "the change is over a text of another number of signs")]] [],
 .asg 2 (.c<|.int 0),
 .asg 3 (.lst []),
 .i0 [4,5] .list [.v 1] [.ite (.cmp .Eq (.v 4) (.c (.str "put"))) [.drop (.bz .append (.v 3) [.v 5])] [.ite (.cmp .Eq (.v 4) (.c (.str "keep"))) [.drop (.bz .append (.v 3) [(.sl (.v 0) (some (.v 2)) (some (.bin .Add (.v 2) (.v 5))))]),
    .asg 2 (.bin .Add (.v 2) (.v 5))] [.ite (.not (.bz .starts (.v 0) [.v 5,.v 2])) [.hZ 0 [(.c (.str "what is cut is not what stands there"))]] [.asg 2 (.bin .Add (.v 2) (.blt .len [.v 5]))]]]],
 .ret (.bz .join (.c (.str "")) [.v 3])]
def Uj:List Str:=["need_text","sizes"]
def z8:List Str:=["BadFit"]
def GW:List Str:=["_law_script","_law_k"]
noncomputable def GX:List RS:=
 [.ite (.cmp .Lt (.v 1) (.blt .len [.v 0])) [.ret (.ix (.v 0) (.v 1))] [],
 .ret (.c (.int 0))]
def GY:List Str:=["_law_cell","_law_k","_law_number"]
noncomputable def GZ:List RS:=
 [.asg 2 (.bin .Mod (.bin .Add (.bin .Add (.bin .Mult (.v 0) (.c (.int 48271))) (.bin .Mult (.c (.int 7919)) (.v 1))) (.c (.int 11))) (.c (.int 1000003))),
 .ret (.bin .Mod (.bin .Mult (.bin .Mod (.bin .Mult (.v 2) (.v 2)) (.c (.int 1000003))) (.v 2)) (.c (.int 1000003)))]
def G0:List Str:=["_law_cell","_law_size_here","_law_some"]
noncomputable def G1:List RS:=
 [.asg 2 (.c (.str " !\"#$&'()*+,-./0123456789:;<=>?@ABCDEFGHIJKLMNOPQRSTUVWXYZ[\\]^_`")),
 .asg 2 (.bin .Add (.v 2)<|.c<|.str "abcdefghijklmnopqrstuvwxyz{|}~\n"),
 .ite (.cmp .Eq (.bin .Mod (.v 0)<|.c<|.int 3)<|.c<|.int 0) [.asg 2<|.c<|.str "ab\n"] [],
 .ret (.bz .join (.c (.str "")) [(.comp none [("_law_some",2),("_law_cell",0)] .dz [.v 1] none (.ix (.v 1) (.bin .Mod (.bin .FloorDiv (.call 0 [.v 2,.v 0]) (.c (.int 7))) (.blt .len [.v 1]))))])]
def Uk:List Str:=["_law_mixed"]
def z9:List Str:=["range","len"]
def G3:List Str:=["_law_cell"]
noncomputable def G4:List RS:=
 [.ite (.cmp .Eq (.bin .Mod (.v 0) (.c (.int 8))) (.c (.int 1))) [.ret (.bin .Mod (.bin .FloorDiv (.v 0) (.c (.int 8))) (.c (.int 401)))] [],
 .ret (.bin .Mod (.bin .FloorDiv (.v 0) (.c (.int 8))) (.c (.int 25)))]
def G5:List Str:=["_law_cell","_law_text_here","_law_many","_law_parts_here","_law_at","_law_k","_law_number","_law_size_here","_law_left"]
noncomputable def G6:List RS:=
 [.asg 3 (.lst []),
 .asg 4 (.c<|.int 0),
 .js 5 .dz [.v 2] [.asg 6 (.call 0 [.v 0,(.bin .Add (.c (.int 50)) (.v 5))]),
  .asg 7 (.ix (.lst [(.c<|.int 1),(.c<|.int 2),(.c<|.int 0),(.c<|.int 3),(.c<|.int 5),(.c<|.int 40)])<|.bin .Mod (.bin .FloorDiv (.v 6)<|.c<|.int 4)<|.c<|.int 6),
  .asg 8 (.blt .min [.v 7,(.bin .Sub (.blt .len [.v 1])<|.v 4)]),
  .ite (.cmp .Eq (.bin .Mod (.v 6)<|.c<|.int 4)<|.c<|.int 3) [.drop<|.bz .append (.v 3) [(.tup [(.c<|.str "put"),(.call 1 [.v 6,.v 7])])]] [.ite (.cmp .Eq (.bin .Mod (.v 6)<|.c<|.int 4)<|.c<|.int 2) [.drop<|.bz .append (.v 3) [(.tup [(.c<|.str "cut"),(.sl (.v 1) (some<|.v 4)<|some<|.bin .Add (.v 4)<|.v 8)])]] [.drop<|.bz .append (.v 3) [(.tup [(.c<|.str "keep"),.v 8])]]],
  .ite (.cmp .Lt (.bin .Mod (.v 6) (.c (.int 4))) (.c (.int 3))) [.asg 4 (.bin .Add (.v 4) (.v 8))] []],
 .ret (.bin .Add (.v 3) (.lst [(.tup [(.c (.str "keep")),(.bin .Sub (.blt .len [.v 1]) (.v 4))])]))]
def Ul:List Str:=["_law_mixed","_law_text"]
def Um:List Str:=["range","min","len"]
def G7:List Str:=["_law_parts_here","_law_rows","_law_word","_law_thing","_law_found","_law_put","_law_cut","_law_keep","_law_some"]
noncomputable def G8:List RS:=
 [.asg 1 (.lst [(.lst [(.c (.str "")),(.c (.str "")),(.c (.int 0))])]),
 .i0 [2,3] .list [.v 0] [.ite (.cmp .Eq (.v 2) (.c (.str "keep"))) [.set (.ix (.v 1) (.neg (.c (.int 1)))) (.c (.int 2)) (.bin .Add (.ix (.ix (.v 1) (.neg (.c (.int 1)))) (.c (.int 2))) (.v 3))] [.ite (.cmp .NotEq (.v 3) (.c (.str ""))) [.ite (.cmp .Gt (.ix (.ix (.v 1) (.neg (.c (.int 1)))) (.c (.int 2))) (.c (.int 0))) [.drop (.bz .append (.v 1) [(.lst [(.c (.str "")),(.c (.str "")),(.c (.int 0))])])] [],
    .set (.ix (.v 1) (.neg (.c (.int 1)))) (.blt .int [(.cmp .Eq (.v 2) (.c (.str "cut")))]) (.bin .Add (.ix (.ix (.v 1) (.neg (.c (.int 1)))) (.blt .int [(.cmp .Eq (.v 2) (.c (.str "cut")))])) (.v 3))] []]],
 .asg 4 (.lst []),
 .i0 [5,6,7] .list [.v 1] [.asg 8 (.lst [(.tup [(.c (.str "put")),.v 5]),(.tup [(.c (.str "cut")),.v 6]),(.tup [(.c (.str "keep")),.v 7])]),
  .asg 4 (.bin .Add (.v 4) (.comp none [] .list [.v 8] (some (.and [(.cmp .NotEq (.ix (.v 0) (.c (.int 1))) (.c (.str ""))),(.cmp .NotEq (.ix (.v 0) (.c (.int 1))) (.c (.int 0)))])) (.v 0)))],
 .ret (.v 4)]
def Uo:List Str:=["int"]
def G9:List Str:=["_law_cell","_law_text_here","_law_many"]
noncomputable def G_:List RS:=
 [.ret<|.call 0 [(.call 1 [.v 0,.v 1,.v 2])]]
def Up:List Str:=["_law_neat","_law_parts"]
def Ha:List Str:=["_law_found","_law_due","_law_part","_law_other"]
noncomputable def Hb:List RS:=
 [.ite (.or [(.not (.df .list (.v 0))),(.cmp .NotEq (.blt .len [.v 0]) (.blt .len [.v 1]))]) [.ret (.c (.bl false))] [],
 .i0 [2,3] .zip [.v 0,.v 1] [.ite (.or [(.not (.df .tuple (.v 2))),(.cmp .NotEq (.blt .len [.v 2]) (.c (.int 2))),(.not (.df .str (.ix (.v 2) (.c (.int 0))))),(.cmp .NotEq (.ix (.v 2) (.c (.int 0))) (.ix (.v 3) (.c (.int 0))))]) [.ret (.c (.bl false))] [],
  .ite (.or [(.cmp .NotEq (.df .str<|.ix (.v 3)<|.c<|.int 1)<|.df .str<|.ix (.v 2)<|.c<|.int 1),(.cmp .NotEq (.ix (.v 2)<|.c<|.int 1)<|.ix (.v 3)<|.c<|.int 1)]) [.ret<|.c<|.bl false] [],
  .ite (.and [(.not (.df .str (.ix (.v 3) (.c (.int 1))))),(.not (.call 0 [(.ix (.v 2) (.c (.int 1)))]))]) [.ret (.c (.bl false))] []],
 .ret (.c (.bl true))]
def Uq:List Str:=["_law_whole"]
def Ur:List Str:=["isinstance","list","len","zip","tuple","str"]
def z_:List Str:=["_law_text_here","_law_change_here","_law_found_here","_law_at","_law_word_here","_law_thing"]
noncomputable def Hc:List RS:=
 [.asg 2 (.c (.str "")),
 .asg 3 (.c<|.int 0),
 .i0 [4,5] .list [.v 1] [.ite (.cmp .Eq (.v 4) (.c (.str "put"))) [.asg 2 (.bin .Add (.v 2) (.v 5))] [.ite (.cmp .Eq (.v 4) (.c (.str "cut"))) [.asg 3 (.bin .Add (.v 3) (.blt .len [.v 5]))] [.asg 2 (.bin .Add (.v 2) (.sl (.v 0) (some (.v 3)) (some (.bin .Add (.v 3) (.v 5))))),
    .asg 3 (.bin .Add (.v 3) (.v 5))]]],
 .ret (.v 2)]
def He:List Str:=["thing","least","most"]
noncomputable def Hf:List RS:=
 [.ret<|.and [(.call 0 [.v 0]),(.r_ .LtE .LtE (.v 1) (.v 0)<|.v 2)]]
def Us:List Str:=["is_whole"]
def Aa:List Str:=["_law_found_here"]
noncomputable def Hg:List RS:=
 [.ret<|.and [(.df .int<|.v 0),(.not<|.df .bool<|.v 0)]]
def Hh:List Str:=["self","change"]
noncomputable def Hi:List RS:=
 [.gI (.v 0) "parts" (.blt .list [.v 1]),
 .gI (.v 0) "passed_by" (.c<|.int 0),
 .gI (.v 0) "offset" (.c (.int 0))]
def Hj:List Str:=["list"]
def mz:List Str:=["self"]
noncomputable def Hk:List RS:=
 [.ret<|.l9 (.cmp .Lt (.fld (.v 0) "passed_by")<|.blt .len [(.fld (.v 0) "parts")]) (.ix (.ix (.fld (.v 0) "parts")<|.fld (.v 0) "passed_by")<|.c<|.int 0)<|.c<|.str ""]
noncomputable def Hl:List RS:=
 [.ret<|.bin .Sub (.call 0 [(.ix (.fld (.v 0) "parts")<|.fld (.v 0) "passed_by")])<|.fld (.v 0) "offset"]
def Hn:List Str:=["part_size"]
def Ho:List Str:=["self","size","part","begin","end"]
noncomputable def Ab:List RS:=
 [.asg 2 (.ix (.fld (.v 0) "parts") (.fld (.v 0) "passed_by")),
 .asg 3 (.fld (.v 0) "offset"),
 .asg 4 (.bin .Add (.v 3)<|.v 1),
 .gI (.v 0) "offset" (.v 4),
 .ite (.cmp .Eq (.bj 0 "left" (.v 0) []) (.c (.int 0))) [.gI (.v 0) "passed_by" (.bin .Add (.fld (.v 0) "passed_by") (.c (.int 1))),
  .gI (.v 0) "offset" (.c (.int 0))] [],
 .ret (.tup [(.ix (.v 2) (.c (.int 0))),(.l9 (.cmp .Eq (.ix (.v 2) (.c (.int 0))) (.c (.str "keep"))) (.v 1) (.sl (.ix (.v 2) (.c (.int 1))) (some (.v 3)) (some (.v 4))))])]
def Ut:List Str:=["left"]
def Hq:List Str:=["walk","putting","keeping","part"]
noncomputable def Hr:List RS:=
 [.asg 3 (.bj 0 "take" (.v 0) [(.bj 1 "left" (.v 0) [])]),
 .drop (.bz .append (.v 1) [.v 3]),
 .drop (.bz .append (.v 2) [(.tup [(.c (.str "keep")),(.call 0 [.v 3])])])]
def Uu:List Str:=["take","left"]
def Hs:List Str:=["first","second","ones","others"]
noncomputable def Ht:List RS:=
 [.ite (.and [(.cmp .Eq (.ix (.v 0) (.c (.int 0))) (.c (.str "cut"))),(.cmp .Eq (.ix (.v 1) (.c (.int 0))) (.c (.str "cut")))]) [.ite (.cmp .NotEq (.ix (.v 0) (.c (.int 1))) (.ix (.v 1) (.c (.int 1)))) [.hZ 0 [(.c (.str "both changes cut a sign, and tell it otherwise"))]] []] [.ite (.cmp .Eq (.ix (.v 1) (.c (.int 0))) (.c (.str "keep"))) [.drop (.bz .append (.v 2) [.v 0]),
   .ite (.cmp .Eq (.ix (.v 0) (.c (.int 0))) (.c (.str "keep"))) [.drop (.bz .append (.v 3) [.v 1])] []] [.drop (.bz .append (.v 3) [.v 1])]]]
def Hu:List Str:=["one","other","first","second","ones","others","size"]
noncomputable def Hv:List RS:=
 [.ite (.cmp .NotEq (.ix (.call 0 [.v 0]) (.c (.int 0))) (.ix (.call 0 [.v 1]) (.c (.int 0)))) [.hZ 0 [(.c (.str "the changes are over unlike numbers of signs"))]] [],
 .asg 2 (.make 0 [.v 0]),
 .asg 3 (.make 0 [.v 1]),
 .asg 4 (.lst []),
 .asg 5 (.lst []),
 .vR (.or [(.cmp .NotEq (.bj 0 "word" (.v 2) []) (.c (.str ""))),(.cmp .NotEq (.bj 0 "word" (.v 3) []) (.c (.str "")))]) [.ite (.cmp .Eq (.bj 0 "word" (.v 2) []) (.c (.str "put"))) [.drop (.call 1 [.v 2,.v 4,.v 5])] [.ite (.cmp .Eq (.bj 0 "word" (.v 3) []) (.c (.str "put"))) [.drop (.call 1 [.v 3,.v 5,.v 4])] [.asg 6 (.blt .min [(.bj 1 "left" (.v 2) []),(.bj 1 "left" (.v 3) [])]),
    .drop (.call 2 [(.bj 2 "take" (.v 2) [.v 6]),(.bj 2 "take" (.v 3) [.v 6]),.v 4,.v 5])]]],
 .ret (.tup [(.call 3 [.v 4]),(.call 3 [.v 5])])]
def Uv:List Str:=["sizes","put_first","share","neat"]
def Uw:List Str:=["min"]
def Ux:List Str:=["word","left","take"]
def Uy:List Str:=["Walk"]
structure oA (K:Frag) (C:Addr):Prop where
 cl:fj K C
 sL:fV K C "parts"
 oB:fV K C "passed_by"
 sM:fV K C "offset"
end L2.B
namespace L2
open PySem PySem.Spec PyProof.Rows
section
variable {X:Cx}
end
section
variable {X:Cx}
end
section
variable {X:Cx}
end
def sN:List (TE×TE)->St->Hp->(List (V×V)->Hp->Prop)->Prop
 |[],_,H,Q=>Q [] H
 |(tk,tv)::r,σ,H,Q=>tk σ H fun x H1=>tv σ H1 fun y H2=>sN r σ H2 fun ps H3=>Q ((x,y)::ps) H3
abbrev VV:List (V×V)->List (Value×Value)->Prop:=Paired fun p q=>RelV p.1 q.1/\RelV p.2 q.2
def mB(X:Cx)(pos:Pos)(keys:List (Option Expr))(values:List Expr)(lp:List (TE×TE)):Prop:=
 ∀(pins:List (Addr×Obj)) (s:Shared) (σ:St) (H:Hp) (Q:List (V×V)->Hp->Prop),Inv X pins σ H s->sN lp σ H Q->
  wpAny (model X.prog X.w) X.A (evalPairs<|pairTrees keys values X.env pos) (fun vs s'=>∃ps H',Inv X pins σ H' s'/\VV ps vs/\Q ps H') X.xe s
theorem Uz{X:Cx}{pos:Pos}:mB X pos [] [] []:=fun pins s σ H Q I h=>pairTrees_nil_walk ⟨[],H,I,.nil,h⟩
theorem UA{X:Cx}{pos:Pos}{k v:Expr}{ks:List (Option Expr)}{vs:List Expr}{tk tv:TE}{lp:List (TE×TE)}(hk:PE X k tk)(hv:PE X v tv)(hr:mB X pos ks vs lp):
  mB X pos (some k::ks) (v::vs) ((tk,tv)::lp):=fun pins s σ H Q I h=>
 pairTrees_cons_walk (aL (hk pins s σ H _ I h) fun u s1 ⟨x,H1,I1,rx,q1⟩=>aL (hv pins s1 σ H1 _ I1 q1) fun w2 s2 ⟨y,H2,I2,ry,q2⟩=>
  aL (hr pins s2 σ H2 _ I2 q2) fun ws s3 ⟨ps,H3,I3,rel,q3⟩=>⟨(x,y)::ps,H3,I3,.cons ⟨rx,ry⟩ rel,q3⟩)
def i9(kvs more:List (Key×V)):List (Key×V):=more.foldl (fun acc kv=>putK acc kv.1 kv.2) kvs
theorem KV.merge:∀{more:List (Key×V)}{rs:List (Key×Value)}{kvs:List (Key×V)}{vs:List (Key×Value)},KV more rs->KV kvs vs->KV (i9 kvs more) (merged vs rs):=by
 intro more rs kvs vs r;unfold KV at r
 induction r generalizing kvs vs with
 |nil=>intro q;exact q
 | @cons p q ps qs h t ih=>
  intro r0;have e:KV (putK kvs p.1 p.2) (stored vs q.1 q.2):=by
   have:=r0.put p.1 h.2;rw[<-h.1];exact this
  exact ih e
theorem Hw:∀(more kvs:List (Key×V)),(i9 kvs more).length<=kvs.length+more.length
 |[],kvs=>by show kvs.length<=kvs.length+0;omega
 |p::r,kvs=>by
  have h1:=Hw r (putK kvs p.1 p.2);have h2:=Qt kvs p.1 p.2;show(i9 (putK kvs p.1 p.2) r).length<=_;rw[zay];omega
theorem Hx{P:Program}{w:World}:∀{kvs:List (Key×V)}{ws:List (Value×Value)},VV (kvs.map fun kv=>(kV kv.1,kv.2)) ws->∃rs,Carries (eg P w) ws rs/\KV kvs rs
 |[],_,r=>by rw[zaV] at r;cases r;exact⟨[],True.intro,.nil⟩
 |p::kvs,_,r=>by
  rw[zaw] at r;cases r with
  | @cons a b as bs h t=>
   obtain⟨rs,c,q⟩:=Hx (P:=P) (w:=w) t;obtain⟨b1,b2⟩:=b;exact⟨(p.1,b2)::rs,⟨yY h.1,rfl,c⟩,.cons ⟨rfl,h.2⟩ q⟩
def Ac(lp:List (TE×TE)):TE:=fun σ H Q=>∀p,H p=none->sN lp σ (upd H p<|.dK []) fun ps H2=>H2 p=some (.dK [])/\∃kvs:List (Key×V),ps=kvs.map (fun kv=>(kV kv.1,kv.2))/\kvs.length<=15/\Q (.ref p) (upd H2 p<|.dK<|i9 [] kvs)
theorem UB{X:Cx}{pos:Pos}{keys:List (Option Expr)}{values:List Expr}{lp:List (TE×TE)}(h:mB X pos keys values lp)(rQ:keys.all (·.isSome)=true)(hl:keys.length=values.length)(h0:keys≠ [])
  (UC:keys.length<=15):PE X (.Dict keys values pos) (Ac lp):=by
 intro pins s σ H Q I q;have hn:=I.aE.fresh (zqR s.heap.objs.size);have I1:=I.laid (a:=s.heap.objs.size) (o:=.dK []) (h':=s.heap.push {cls:=.type "dict",data:=.dict #[]}) (t':=s.toks) (fun _ _ q=>Heap.get?_push_of_some _ q) (zqR _) (QH s.heap I.big);refine wpAny_Dict_walk (knd:=eg X.prog X.w) rQ hl h0 UC<|aL (h pins _ σ _ _ I1<|q _ hn) fun ws s2 ⟨ps,H2,I2,rel,e,kvs,ep,lk,q2⟩=>?_;subst ep;obtain⟨rs,c,rk⟩:=Hx (P:=X.prog) (w:=X.w) rel;obtain⟨z,hd,vs0,r0,dd⟩:=Qw I2.aE e;cases r0;refine⟨rs,c,dd,fun h' Hy hs=>⟨.ref s.heap.objs.size,_,?_,rfl,q2⟩⟩;have hz:(i9 [] kvs).length<=sizeLine:=by
  have h1:=Hw kvs [];rw[zbn] at h1;rw[sizeLine_eq];omega
 have he:∃q,h'.get? s.heap.objs.size=some q:=let ⟨q,_,_,hq,_⟩:=Hy;⟨q,hq⟩;exact Qz I2 (by rw[e];exact True.intro) hs he<|QC hz hd (rk.merge .nil) Hy
def oC:List (Key×V)->List V
 |[]=>[]
 |kv::r=>kV kv.1::kv.2::oC r
def oE:List (V×V)->List V
 |[]=>[]
 |p::r=>p.1::p.2::oE r
def ql:Frag->TA->TE:=fun _ t σ H Q=>∀p,H p=none->t σ (upd H p<|.dK []) fun vs H2=>H2 p=some (.dK [])/\∃kvs:List (Key×V),vs=oC kvs/\kvs.length<=15/\Q (.ref p) (upd H2 p<|.dK<|i9 [] kvs)
def mD(Γ:bo):List RE->List (TE×TE)
 |a::b::r=>(ae Γ a,ae Γ b)::mD Γ r
 |_=>[]
theorem Ae{Γ:bo}{σ:St}:∀(rs:List RE) (H:Hp) (Q:List V->Hp->Prop),rs.length % 2=0->ba Γ rs σ H Q=sN (mD Γ rs) σ H fun ps H2=>Q (oE ps) H2
 |[],H,Q,_=>rfl
 |[a],H,Q,e=>absurd e (by show ¬(1 % 2=0);decide)
 |a::b::r,H,Q,e=>by
  have e':r.length % 2=0:=by
   have:(r.length+1+1) % 2=0:=e;lia
  show(ae Γ a σ H fun x H1=>ae Γ b σ H1 fun y H2=>ba Γ r σ H2 fun vs H3=>Q (x::y::vs) H3)=ae Γ a σ H fun x H1=>ae Γ b σ H1 fun y H2=>sN (mD Γ r) σ H2 fun ps H3=>Q (x::y::oE ps) H3
  congr 1
  funext x H1
  congr 1
  funext y H2
  exact Ae r H2 (fun vs H3=>Q (x::y::vs) H3) e'
theorem we:∀(ps:List (V×V)) (kvs:List (Key×V)),oE ps=oC kvs↔ps=kvs.map fun kv=>(kV kv.1,kv.2)
 |[],[]=>⟨fun _=>rfl,fun _=>rfl⟩
 |[],kv::r=>⟨(fun h=>by cases h),(fun h=>by cases h)⟩
 |p::ps,[]=>⟨(fun h=>by cases h),(fun h=>by cases h)⟩
 |p::ps,kv::r=>by
  constructor
  ·intro h;have h1:p.1=kV kv.1:=(zbe h).1;have h2:p.2=kv.2:=(zbe (zbe h).2).1;have h3:=(we ps r).mp (zbe (zbe h).2).2;rw[h3,zaw,<-h1,<-h2]
  ·intro h;rw[zaw] at h;obtain⟨h1,h2⟩:=zbe h;show p.1::p.2::oE ps=kV kv.1::kv.2::oC r;rw[(we ps r).mpr h2,h1]
theorem UD{K:Frag}(rs:List RE)(e:rs.length % 2=0):ql K (ba Γ rs)=Ac (mD Γ rs):=by
 funext σ H Q
 unfold ql Ac
 apply propext
 constructor
 ·intro h p hp;have:=h p hp;rw[Ae rs _ _ e] at this;have e2:(fun(ps:List (V×V)) (H2:Hp)=>H2 p=some (.dK [])/\∃kvs:List (Key×V),oE ps=oC kvs/\kvs.length<=15/\Q (.ref p) (upd H2 p<|.dK<|i9 [] kvs))=fun ps H2=>H2 p=some (.dK [])/\∃kvs:List (Key×V),ps=kvs.map (fun kv=>(kV kv.1,kv.2))/\kvs.length<=15/\Q (.ref p) (upd H2 p<|.dK<|i9 [] kvs):=by
   funext ps H2
   simp only[we]
  rw[e2] at this;exact this
 ·intro h p hp;have:=h p hp;rw[Ae rs _ _ e];have e2:(fun(ps:List (V×V)) (H2:Hp)=>H2 p=some (.dK [])/\∃kvs:List (Key×V),oE ps=oC kvs/\kvs.length<=15/\Q (.ref p) (upd H2 p<|.dK<|i9 [] kvs))=fun ps H2=>H2 p=some (.dK [])/\∃kvs:List (Key×V),ps=kvs.map (fun kv=>(kV kv.1,kv.2))/\kvs.length<=15/\Q (.ref p) (upd H2 p<|.dK<|i9 [] kvs):=by
   funext ps H2
   simp only[we]
  rw[e2];exact this
section
variable {CX:cI}{S:cP}{Γ:bo}{X:Cx}{pos:Pos}{k v:Expr}{ks:List (Option Expr)}{vs:List Expr}{rk rv:RE}{rs:List RE}
theorem UE:mB X pos [] [] (mD Γ []):=Uz
theorem wg(hk:PE X k (ae Γ rk))(hv:PE X v (ae Γ rv))(h:mB X pos ks vs (mD Γ rs)):mB X pos (some k::ks) (v::vs) (mD Γ (rk::rv::rs)):=UA hk hv h
def Hz(keys:List (Option Expr))(values:List Expr)(rs:List RE):Bool:=keys.all (·.isSome) && decide (keys.length=values.length) && decide (keys.length≠0) && decide (keys.length<=15) && decide (rs.length % 2=0)
theorem UG(hp:mB X pos ks vs (mD Γ rs))(h:Hz ks vs rs=true:=by kernel_rfl):PE X (.Dict ks vs pos) (ae Γ<|.xt ql rs):=by
 simp only[Hz,zae,decide_eq_true_eq] at h
 obtain⟨⟨⟨⟨h1,h2⟩,h3⟩,h4⟩,h5⟩:=h;show PE X _ (ql Γ.K<|ba Γ rs);rw[UD rs h5];exact UB hp h1 h2 (fun z=>h3 (by rw[z];rfl)) h4
end
section
variable {CX:cI}{S:cP}{Γ:bo}{X:Cx}{a v:Expr}{p q:Pos}{ra r:RE}
theorem UH{v o:Expr}{f:Str}{p:Pos}{l:Nat}{env:Env}:swapsWith v (some<|.Attribute o f p) l env=pure false:=by
 cases v<;>rfl
theorem UI{f:Str}(G:dg CX S Γ X)(ho:PE X a (ae Γ ra))(he:PE X v (ae Γ r)):PS X (.Assign [.Attribute a f p] v q) (cw Γ<|.gI ra f r):=by
 show PS X _ (vp Γ.K (ae Γ ra) (ae Γ r) f);rw[<-G.K];exact Ep ho he (by exact UH (v:=v) (o:=a) (f:=f) (p:=p) (l:=q.line) (env:=X.env))
end
end L2
namespace L2
open PySem PySem.Spec PyProof.Rows PySem.W
mutual
theorem HA{H:Hp}:∀(d:PyData) (v:V),Is H d v->d.hasDict=false
 |.none,_,_=>rfl
 |.bool _,_,_=>rfl
 |.int _,_,_=>rfl
 |.str _,_,_=>rfl
 |.list xs,v,h=>by
  obtain⟨a,vs,e,hH,hl⟩:=(show ∃a vs,v=.ref a/\H a=some (.lst vs)/\IsL H xs vs by simpa only[Is] using h)
  exact Af xs vs hl
 |.tuple xs,v,h=>by
  obtain⟨a,vs,e,hH,hl⟩:=(show ∃a vs,v=.ref a/\H a=some (.tup vs)/\IsL H xs vs by simpa only[Is] using h)
  exact Af xs vs hl
 |.dict _,_,h=>False.elim (by simpa only[Is] using h)
theorem Af{H:Hp}:∀(ds:List PyData) (vs:List V),IsL H ds vs->PyData.hasDictAll ds=false
 |[],_,_=>rfl
 |d::ds,vs,h=>by
  obtain⟨v,r,e,h1,h2⟩:=(show ∃v r,vs=v::r/\Is H d v/\IsL H ds r by simpa only[IsL] using h)
  show(d.hasDict ||PyData.hasDictAll ds)=false;rw[HA d v h1,Af ds r h2];rfl
end
def wj(K:Frag):List V->Hp->VK->Prop:=fun xs H Q=>∃(a:Addr) (d:PyData),xs=[.ref a]/\Is H d (.ref a)/\d.showable=true/\d.depth<=30/\d.shown.length<=1000000/\Q (.str d.shown) H
section
variable {X:Cx}
theorem UJ(hg:X.A.guards=some [])(hu:X.A.units+64<cLine):cW X (.builtin "repr") (wj X.K):=by
 intro pins s σ H xs us Q I r h;obtain⟨a,d,rfl,hd,hs,hp,hl,q⟩:=h;obtain⟨u,rfl,ru⟩:=vals1 r;obtain⟨as,rd⟩:=Is.reads I d _ _ hd ru;cases ru;have UK:d.shown.length<=sizeLine:=by rw[sizeLine_eq];omega
 refine repr_of_reads' rd hs (fun z=>by rw[HA d _ hd] at z;cases z) hg (by omega) (fun _ _ e=>e) (fun h' u tk hk=>?_) UK
 exact⟨.str d.shown,H,I.kept (t':=tk) hk,⟨u,rfl⟩,q⟩
end
theorem UL:bootBuiltins "repr"=some (.builtin "repr"):=by decide+kernel
def qm:Frag->TA->TE:=fun K t=>iY (wj K) t
section
variable {CX:cI}{S:cP}{Γ:bo}{X:Cx}{e:PySem.Expr}{es:List PySem.Expr}{x:Str}{p pos:Pos}{r:RE}{rs:List RE}
theorem Ag(G:Good CX S Γ X)(hA:PA X (e::es) (ba Γ (r::rs)))(h:kB S x "repr"=true:=by kernel_rfl)(hn:gM (e::es)=true:=by kernel_rfl):PE X (.Call (.Name x p) (e::es) [] pos) (ae Γ<|.xt qm (r::rs)):=by
 simp only[kB,zae,decide_eq_true_eq] at h
 obtain⟨⟨rfl,h2⟩,h3⟩:=h;show PE X _ (iY (wj Γ.K)<|ba Γ (r::rs));rw[<-G.K];exact yH (UJ G.gd G.units) (G.gl h2) (G.gL _ h3) UL hA (by decide) (by decide) (dE (dY hn).1)<|jZ _ _ es (dY hn).2
end
end L2
namespace L2
open PySem PySem.Spec PyProof.Rows
section
variable {X:Cx}
theorem UM{x:Str}{body:List Stmt}{b₀:Stmt}{Ah:List Stmt}{tb:XK->TS}{th:Addr->TS}{np wk pos:Pos}(lU:X.stack=X.env::X.outer)(sx:X.env.frame=some X.env.locals)(hex:X.ex=[])
  (zC:Gl X x) (hd:(x==("__debug__":Str))=false) (nT:X.mg x=some (.ref C))
  (hb:∀(pn:List (Addr×Obj)) (xe:Value->Shared->Prop) (E:XK),PassesOwn (model X.prog X.w) X.A X.env xe->Passes (eV X.prog X.w) (X.alt X.A X.calm pn xe) E->dB (X.alt X.A X.calm pn xe) body (tb E))
  (hh:∀(ea:Addr) (pn:List (Addr×Obj)),dB (X.alt (X.A.mark<|some<|.ref ea) false pn fun _ _=>False) (b₀::Ah)<|th ea):
  PS X (.Try body [.ExceptHandler (some<|.Name x np) none (b₀::Ah) wk] [] [] pos) (vQ X.K C X.N.length X.N.length tb th):=by
 intro pins s σ H D I h;refine wpAny_Try_except ?_;have P1:Passes (eV X.prog X.w) (X.alt X.A X.calm (X.pn++pins) fun e s₁=>wpAny (model X.prog X.w) X.A (noteFrame e X.env) (fun _ s₂=>wpAny (model X.prog X.w) X.A (setFlight e none) (fun _ s₃=>wpAny (model X.prog X.w) X.A (handleBy e X.env [.ExceptHandler (some<|.Name x np) none (b₀::Ah) wk]) (SP X pins D) X.xe s₃) X.xe s₂) X.xe s₁) (FE X.K C X.N.length X.N.length th D):=by
  intro iU σ' H1 s1 e' s' I1 hx;obtain⟨ea,cls,t,B,H',rfl,os,bare,u,aE,fl,sr,om,c1,c2,hm,UN⟩:=hx;have UO:X.A.frames=some (X.env::X.outer):=by rw[I.ok.frames,lU]
  have i5:Heap.FlyingW B (X.env::X.outer) ea cls (.ref t) s'.heap:=by rw[<-lU];exact fl
  refine wpAny_mono (sq F1 sr<|wpAny_looks_onW (Q:=fun _ gE=>∃h',gE={s' with heap:=h'}/\Heap.HeldW B (X.env::X.outer) ea cls (.ref t) X.env.locals h'/\s'.heap.UpToSlots h') (E:=fun _ _=>False) UO sx i5 fun h4 Ai Aj=>⟨h4,rfl,Ai,Aj⟩)
   (fun _ s4 hq=>?_) (fun _ _ z=>z.1.elim)
  obtain⟨⟨h4,rfl,Ai,Aj⟩,UP⟩:=hq;refine wpAny_mono (sq zu UP<|wpAny_landsW (s:={s' with heap:=h4}) (Q:=fun _ gE=>∃h',gE={s' with heap:=h'}/\Heap.FlyingW B (X.env::X.outer) ea cls (.ref t) h'/\h4.UpToSlots h') (E:=fun _ _=>False) Ai fun h5 qo Ak=>⟨h5,rfl,qo,Ak⟩)
   (fun _ s5 hq=>?_) (fun _ _ z=>z.1.elim)
  obtain⟨⟨h5,rfl,UQ,Ak⟩,UR⟩:=hq;have qo:Heap.FlyingW B X.stack ea cls (.ref t) h5:=by rw[lU];exact UQ
  obtain⟨u5,HB,US,UT⟩:=F4 (l:=X.stack) u aE fl.2.2.1 c1 c2 qo.1 (Aj.trans Ak);obtain⟨oe,ws,UU,UW,adQ,adR⟩:=qo.first
  have I5:=I1.yn (s':={s' with heap:=h5}) (ch:=[]) os u5 HB bare (fun b z=>absurd z zab)
  refine wpAny_handleBy_cons (codeAny_handlers_test ?_) (by intro q;cases q)
  have rE:Inv (X.alt (X.A.mark<|some<|.ref ea) false (X.pn++pins) fun _ _=>False) [] σ' H' {s' with heap:=h5}:=I5.alt (A':=X.A.mark (some<|.ref ea)) (p_:=false) (oo:=X.pn++pins) (iU:=[]) rfl (fun z=>nomatch z) (fun p hp=>zaf.mpr<|.inl (by rw[zad] at hp;exact hp))
  refine va rE zC nT ?_ hd;have LT:PySem.W.Looks (model X.prog X.w) h5 (typeOf<|.ref ea) cls:=by
   subst UW;exact(PySem.W.Looks.ld UU).andThen .now
  refine(PySem.W.exm_one I5.c5 LT hm).here ?_;refine codeAny_handlers_suite ?_;refine wpAny_mono (sq zu UR<|lands_againW (s:={s' with heap:=h5}) (Q:=fun _ gE=>∃h',gE={s' with heap:=h'}/\Heap.FlyingW B X.stack ea cls (.ref t) h'/\h5.UpToSlots h') (E:=fun _ _=>False) qo fun h6 qp Al=>⟨h6,rfl,qp,Al⟩)
   (fun _ s6 hq=>?_) (fun _ _ z=>z.1.elim)
  obtain⟨⟨h6,rfl,qp,Al⟩,UX⟩:=hq;obtain⟨u6,UY,c16,UZ⟩:=F4 (l:=X.stack) u5 HB qo.2.2.1 US UT qp.1 Al;obtain⟨qq,HC,wm,U0,Am,_⟩:=qp.first
  have U1:vP qq cls HC:=by
   obtain⟨o',vs',q1,q2,q3,q4⟩:=UX;have ka:h6.get? ea=some o':=q1;rw[wm] at ka;cases ka;rw[Am] at q2;cases q2;exact⟨U0,Am,q3,q4⟩
  have ne1:s1.heap.get? ea=none:=by
   cases q:s1.heap.get? ea with
   |none=>rfl
   |some o1=>
    by_cases wo:ea∈bx X.stack
    ·obtain⟨o2,fX,hd2⟩:=(qp.2.2.1.mem wo).2;rw[wm] at fX;cases fX;exact(hd2 _ Am).elim
    ·have:=UZ ea o1 q wo qq wm;rw[qp.2.1] at this;cases this
  have u7:Un (bx X.stack) [] H1 (upd H' ea (.bO qq og)) s1.heap h6:=⟨u6.keep,u6.slot,fun b o q n hx=>by
    rw[aC (fun z=>by rw[z,ne1] at q;cases q)];exact u6.free b o q n hx,u6.there,fun b xs q=>by
    have q':=u6.dP b xs q;rw[aC<|aK q' om];exact q',fun b o v q=>by
    have q':=u6.fO b o v q;rw[aC<|aK q' om];exact q',fun b ps q=>by
    obtain⟨more,q'⟩:=u6.gB b ps q;exact⟨more,by rw[aC (aK q' om)];exact q'⟩⟩
  have U2:bR X.prog X.w (upd H' ea<|.bO qq og) h6:=UY.more om (Sz wm);have I7:=I1.yn (s':={s' with heap:=h6}) (ch:=[]) os u7 U2 bare (fun b z=>absurd z zab)
  have I8:Inv (X.alt (X.A.mark<|some<|.ref ea) false (X.pn++pins) fun _ _=>False) [] σ' (upd H' ea<|.bO qq og) {s' with heap:=h6}:=I7.alt (A':=X.A.mark (some<|.ref ea)) (p_:=false) (oo:=X.pn++pins) (iU:=[]) rfl (fun z=>nomatch z) (fun p hp=>zaf.mpr<|.inl (by rw[zad] at hp;exact hp))
  refine wpAny_mono (hh ea (X.pn++pins) [] _ _ _ {nx:=fun _ _=>False,rt:=D.rt} I8 (by have z:=UN ea qq HC σ' om I1.len U1;rw[List.set_eq_of_length_le (show σ'.length<=X.N.length from zbi I1.len)] at z;exact z)) (fun f dZ hs=>?_) fun _ _ z=>z.elim
  cases f with
  |next=>obtain⟨_,_,_,z⟩:=hs;exact z.elim
  |brk=>obtain⟨_,_,_,z⟩:=hs;exact z.elim
  |cont=>obtain⟨_,_,_,z⟩:=hs;exact z.elim
  |ret v=>
   obtain⟨v',U3,d0,U4,r,q⟩:=hs;have U5:Inv X pins U3 d0 dZ:=U4.zE I.ok (fun p hp=>by simpa using hp)
   exact⟨v',_,d0,U5,r,q⟩
 refine wpAny_mono (hb _ _ _ PassesOwn.looking P1 [] s σ H {nx:=D.nx,rt:=D.rt} (I.alt rfl I.ok.hd (fun p hp=>by simpa using hp)) h) (fun f s1 hs=>?_) fun e' s' hx=>hx
 cases f with
 |next=>
  obtain⟨σ',H',I',q⟩:=hs;exact DS pins s1 σ' H' D (I'.zE I.ok (fun p hp=>by simpa using hp)) q
 |brk=>obtain⟨_,_,_,z⟩:=hs;exact z.elim
 |cont=>obtain⟨_,_,_,z⟩:=hs;exact z.elim
 |ret v=>
  obtain⟨v',σ',H',I',r,q⟩:=hs;exact⟨v',σ',H',I'.zE I.ok (fun p hp=>by simpa using hp),r,q⟩
end
section
variable {CX:cI}{S:cP}{Γ:bo}{X:Cx}{e:Expr}{es:List Expr}{x:Str}{p q pos:Pos}{r:RE}{rs:List RE}{i j:Nat}
theorem U6{np wk:Pos}{body su:List Stmt}{b₀:Stmt}{rb sO:List RS}(G:dg CX S Γ X)(h:kG S j x=true)(hn:decide (S.N.length=n)=true)
  (hb:∀{Γ:bo}{X:Cx},dg CX (tS S) Γ X->dB X body (aB Γ rb)) (hs:∀{Γ:bo}{X:Cx},dg CX (hS S) Γ X->dB X (b₀::su) (aB Γ sO)):
  PS X (.Try body [.ExceptHandler (some<|.Name x np) none (b₀::su) wk] [] [] pos) (cw Γ<|.zf n n j rb sO):=by
 simp only[kG,zae,decide_eq_true_eq,zaT] at h hn
 obtain⟨u,hm,hu⟩:=G.kW j x h.1.1;intro pins s σ H D I q;obtain⟨C,e,q⟩:=(show ∃C,Γ.gv j=.ref C/\vQ Γ.K C n n (fun E=>aB {Γ with E:=E} rb) (fun ea=>aB {Γ with E:=E0,hv:=some ea} sO) D σ H from q)
 rw[e] at hu;have U7:u=.ref C:=hu;subst U7;have hl:X.N.length=n:=by rw[G.N];exact hn
 have q':vQ X.K C X.N.length X.N.length (fun E=>aB {Γ with E:=E} rb) (fun ea=>aB {Γ with E:=E0,hv:=some ea} sO) D σ H:=by rw[G.K,hl];exact q
 exact UM (tb:=fun E=>aB {Γ with E:=E} rb) (th:=fun ea=>aB {Γ with E:=E0,hv:=some ea} sO) G.jj G.gK G.qg (G.gl h.1.2) h.2 hm
  (fun pn xe E ho hp=>hb<|G.TX pn xe E ho hp) (fun ea pn=>hs<|G.held ea pn) pins s σ H D I q'
end
end L2
namespace L2.kb
open PySem PySem.Spec PyProof.Rows L2.B
def bB(i:Nat):Stmt:=(PySem.Challenge.pw_inkloom_k35_the_server.main.body).getD i (.Pass ⟨0,0,0,0⟩)
structure kd (K:Frag) (C:Addr):Prop where
 cl:fj K C
 wq:fV K C "signs"
 qr:fV K C "serials"
 sP:fV K C "changes"
 An:fV K C "makers"
def HD:Stmt:=bB 10
abbrev d4(s:Stmt)(k:Nat):Stmt:=(eR s).getD k (.Pass ⟨0,0,0,0⟩)
abbrev d5(b:List RS)(k:Nat):RS:=b.getD k (.ret<|.c .aF)
abbrev MX(N:List Str)(s:Stmt)(f g l mn kn en hn:List Str)(b:List RS)(md:Nat):Prop:= ∀{CX:cI}{Γ:bo}{X:Cx},dg CX (wb N (eS s) f g l mn kn en hn md) Γ X->dB X (eR s) (aB Γ b)
abbrev MY(N:List Str)(s:Stmt)(f g l mn kn en hn:List Str)(b:List RS)(md k:Nat):Prop:= ∀{CX:cI}{Γ:bo}{X:Cx},dg CX (wb N (eS s) f g l mn kn en hn md) Γ X->PS X (d4 s k) (cw Γ<|d5 b k)
theorem U8:MX iE HD ag ag Gz ag ag ag ag Gy 0:=fun G=>have g:=G.toGood;(ai (aV<|gO (eW g<|aa g)<|i7<|zK g<|eW g<|aa g) ar)
def HE:Stmt:=bB 11
theorem U9:MX He HE Us ag ag ag ag ag ag Hf 0:=fun G=>have g:=G.toGood;(ai (aV<|gO (aS g<|af (aa g) ao)<|i7<|TF g (aa g) (aa g)<|aa g) ar)
def HF:Stmt:=bB 12
theorem U_:MX z5 HF ag ag GA ag ag ag ag z6 0:=fun G=>have g:=G.toGood;(ai (aV<|gO (eW g<|aa g)<|i7<|gN g (aa g)<|aa g) ar)
def HG:Stmt:=bB 13
theorem Va:MX iE HG ag TZ GA ag ag ag ag z7 0:=fun G=>have g:=G.toGood;(ai (aV<|gO (eW g<|aa g)<|i7<|gN g (cQ g (aa g)<|af (Gn g) ao) aG) ar)
def HH:Stmt:=bB 14
theorem Vb:MX iE HH T_ ag ag ag ag Ua ag GB 0:=fun G=>have g:=G.toGood;(ai (aX (cE<|eY g<|aS g<|af (aa g) ao) (ai (i8 G<|af aG ao) ar) ar) ar)
def HI:Stmt:=bB 16
theorem Vc:MX iE HI Ub ag Uc ag ag ag ag wd 0:=fun G=>have g:=G.toGood;(ai (aX (PW.pt<|gf (cE<|j5 g<|eW g<|aa g)<|jx<|aW g (bw g<|af (aa g) ao) aq) (ai (aV dh) ar) ar)<|ai (aX (eY g<|aS g<|af (aI g (aa g) aq)<|af (cJ<|af aG ao) ao) (ai (aV<|gO (aS g<|af (aI g (aa g) aq) ao)<|i7<|gN g (aI g (aa g) aq) aq) ar) ar)<|ai (aV<|gO (aS g<|af (aI g (aa g) aq)<|af (cJ<|af aG<|af aG ao) ao)<|gO (aS g<|af (aI g (aa g) aq) ao)<|i7<|gN g (aI g (aa g) aq) aG) ar)
def HJ:Stmt:=bB 17
theorem Vd:MX GC HJ ag ag ag ag ag ag ag GD 0:=fun G=>have g:=G.toGood;(ai (aV<|gO (gN g (aa g)<|aa g)<|i7<|zK g<|gO (gN g (aa g) aG)<|i7<|gN g (aa g) aG) ar)
def HK:Stmt:=bB 18
theorem Ve:MX GF HK Ud ag Ue ag ag GH ag GG 0:=fun G=>have g:=G.toGood;(ai (aX (cE<|j5 g<|eW g<|aa g) (ai (i8 G<|af aG ao) ar) ar)<|ai (aO G aG)<|ai (ox G (ia g<|aa g)<|ai (aX (cE<|eY g<|aS g<|af (aa g) ao) (ai (i8 G<|af aG ao) ar) ar)<|ai (aX (cE<|eY g<|aS g<|af (aI g (aa g) aq)<|af (aa g) ao) (ai (i8 G<|af aG ao) ar) ar)<|ai (aO G<|aI g (aa g) aq) ar) ar)
noncomputable def HL:List RS:=
 [.zf 1 1 0 [.drop (.call 0 [.v 0])] [.ret (.c (.bl false))],
 .ret (.c (.bl true))]
def Vf:List Str:=["need_change"]
def HM:Stmt:=bB 19
theorem Vg:MX iE HM Vf GH ag ag ag ag ag HL 0:=fun G=>have g:=G.toGood;(ai (U6 G (by kernel_rfl) (by kernel_rfl) (fun G=>(fun g=>(ai (bU<|aS g<|af (aa g) ao) ar)) G.toGood)<|fun G=>(fun g=>(ai (aV dh) ar)) G.toGood)<|ai (aV dh) ar)
def HN:Stmt:=bB 20
theorem Vh:MX GI HN ag ag j_ ag ag ag ag GJ 0:=fun G=>have g:=G.toGood;(ai (aV<|sI (aW g (aI g (aa g) aq) aG) (aI g (aa g) aq)<|bw g<|af (aI g (aa g) aq) ao) ar)
def HP:Stmt:=bB 21
theorem Vi:MX GK HP Ug ag Uh ag ag ag ag GL 0:=fun G=>have g:=G.toGood;(ai (bU<|aS g<|af (aa g) ao)<|ai (aO G<|bw g<|af (j4 (ln:=["part"]) g (by kernel_rfl) (ia g<|aa g) (qk fun _ g=>(aW g (aI g (aa g) aq) aG))<|fun _ g=>(aS g<|af (aa g) ao)) ao)<|ai (aO G<|bw g<|af (j4 (ln:=["part"]) g (by kernel_rfl) (ia g<|aa g) (qk fun _ g=>(aW g (aI g (aa g) aq) aG))<|fun _ g=>(aS g<|af (aa g) ao)) ao)<|ai (aV<|cJ<|af (aa g)<|af (aa g) ao) ar)
def HQ:Stmt:=inClass (bB 22) 0
theorem Vj:MX Hh HQ ag ag Hj ag ag ag ag Hi 0:=fun G=>have g:=G.toGood;(ai (j6 G (aa g)<|bw g<|af (aa g) ao)<|ai (j6 G (aa g) aq)<|ai (j6 G (aa g) aq) ar)
def HR:Stmt:=inClass (bB 22) 1
theorem Vk:MX mz HR ag ag j_ ag ag ag ag Hk 0:=fun G=>have g:=G.toGood;(ai (aV<|sI (aW g (dw g<|aa g)<|bw g<|af (dw g<|aa g) ao) (aI g (aI g (dw g<|aa g)<|dw g<|aa g) aq) aG) ar)
def HS:Stmt:=inClass (bB 22) 2
theorem Vl:MX mz HS Hn ag ag ag ag ag ag Hl 0:=fun G=>have g:=G.toGood;(ai (aV<|aH g (aS g<|af (aI g (dw g<|aa g)<|dw g<|aa g) ao)<|dw g<|aa g) ar)
def HU:Stmt:=inClass (bB 22) 3
theorem Vm:MX Ho HU ag ag ag Ut ag ag ag Ab 0:=fun G=>have g:=G.toGood;(ai (aO G<|aI g (dw g<|aa g)<|dw g<|aa g)<|ai (aO G<|dw g<|aa g)<|ai (aO G<|aH g (aa g)<|aa g)<|ai (j6 G (aa g)<|aa g)<|ai (aX (aW g (gP g<|aa g) aq) (ai (j6 G (aa g)<|aH g (dw g<|aa g) aq)<|ai (j6 G (aa g) aq) ar) ar)<|ai (aV<|cJ<|af (aI g (aa g) aq)<|af (sI (aW g (aI g (aa g) aq) aG) (aa g)<|j3 g (aI g (aa g) aq) (gc<|aa g)<|gc<|aa g) ao) ar)
def HV:Stmt:=bB 23
theorem Vn:MX GN HV ag ag j_ ag ag ag ag GO 0:=fun G=>have g:=G.toGood;(ai (aX (PW.pt<|k_ (aW g (bw g<|af (aa g) ao) aq)<|k7<|aW g (aI g (aI g (aa g)<|i6 aq) aq) aG) (ai (aO G<|aH g (aa g)<|aI g (qi g<|aa g) aq) ar) ar)<|ai (bU<|cQ g (aa g)<|af (cJ<|af aG<|af (aa g) ao) ao) ar)
def HW:Stmt:=bB 24
theorem Vo:MX GP HW ag ag ag ag ag ag ag GQ 0:=fun G=>have g:=G.toGood;(ai (aO G<|cQ g aG<|af (aa g) ao)<|ai (aO G<|cQ g aG<|af (aa g) ao)<|ai (aX (aW g (aa g) aG) (ai (bU<|cQ g (aa g)<|af (cJ<|af aG<|af (aa g) ao) ao) ar) ar)<|ai (aX (aW g (aa g) aG) (ai (bU<|cQ g (aa g)<|af (cJ<|af aG<|af (aa g) ao) ao) ar) ar) ar)
def HX:Stmt:=bB 25
theorem Vp:MX GR HX Ui ag ag ag ag ag ag GS 0:=fun G=>have g:=G.toGood;(ai (aO G<|cC ao)<|ai (aO G<|cC ao)<|ai (aO G<|cC ao)<|ai (mx [(_,_),(_,_)] G (ia g<|aa g)<|ai (aX (aW g (aa g) aG) (ai (bU<|cQ g (aa g)<|af (aa g) ao) ar)<|ai (aX (aW g (aa g) aG) (ai (bU<|cQ g (aa g)<|af (aa g) ao) ar)<|ai (aX (aW g (aa g) aq) (ai (bU<|aS g<|af (aa g)<|af (aa g)<|af (aa g) ao)<|ai (aO G<|cC ao)<|ai (aO G<|cC ao)<|ai (bU<|aS g<|af (aa g)<|af (aa g) ao) ar) ar) ar) ar) ar)<|ai (bU<|aS g<|af (aa g)<|af (aa g)<|af (aa g) ao)<|ai (aV<|aa g) ar)
def HY:Stmt:=bB 26
theorem Vq:MX GU HY Uj ag j_ ag ag z8 ag GV 0:=fun G=>have g:=G.toGood;(ai (bU<|aS g<|af (aa g) ao)<|ai (aX (aW g (aI g (aS g<|af (aa g) ao) aq)<|bw g<|af (aa g) ao) (ai (i8 G<|af aG ao) ar) ar)<|ai (aO G aq)<|ai (aO G<|cC ao)<|ai (mx [(_,_),(_,_)] G (ia g<|aa g)<|ai (aX (aW g (aa g) aG) (ai (bU<|cQ g (aa g)<|af (aa g) ao) ar)<|ai (aX (aW g (aa g) aG) (ai (bU<|cQ g (aa g)<|af (j3 g (aa g) (gc<|aa g)<|gc<|aH g (aa g)<|aa g) ao)<|ai (aO G<|aH g (aa g)<|aa g) ar)<|ai (aX (cE<|TK g<|cQ g (aa g)<|af (aa g)<|af (aa g) ao) (ai (i8 G<|af aG ao) ar)<|ai (aO G<|aH g (aa g)<|bw g<|af (aa g) ao) ar) ar) ar) ar)<|ai (aV<|cQ g aG<|af (aa g) ao) ar)
def HZ:Stmt:=bB 28
theorem Vr:MX Hq HZ Hn ag ag Uu ag ag ag Hr 0:=fun G=>have g:=G.toGood;(ai (aO G<|h_ g (aa g)<|af (gP g<|aa g) ao)<|ai (bU<|cQ g (aa g)<|af (aa g) ao)<|ai (bU<|cQ g (aa g)<|af (cJ<|af aG<|af (aS g<|af (aa g) ao) ao) ao) ar)
def H_:Stmt:=bB 29
theorem Vs:MX Hs H_ ag ag ag ag ag z8 ag Ht 0:=fun G=>have g:=G.toGood;(ai (aX (PW.pt<|k_ (aW g (aI g (aa g) aq) aG)<|k7<|aW g (aI g (aa g) aq) aG) (ai (aX (aW g (aI g (aa g) aq)<|aI g (aa g) aq) (ai (i8 G<|af aG ao) ar) ar) ar)<|ai (aX (aW g (aI g (aa g) aq) aG) (ai (bU<|cQ g (aa g)<|af (aa g) ao)<|ai (aX (aW g (aI g (aa g) aq) aG) (ai (bU<|cQ g (aa g)<|af (aa g) ao) ar) ar) ar)<|ai (bU<|cQ g (aa g)<|af (aa g) ao) ar) ar) ar)
def Ia:Stmt:=bB 30
theorem Vt:MX Hu Ia Uv ag Uw Ux Uy z8 ag Hv 0:=fun G=>have g:=G.toGood;(ai (aX (aW g (aI g (aS g<|af (aa g) ao) aq)<|aI g (aS g<|af (aa g) ao) aq) (ai (i8 G<|af aG ao) ar) ar)<|ai (aO G<|zM g<|af (aa g) ao)<|ai (aO G<|zM g<|af (aa g) ao)<|ai (aO G<|cC ao)<|ai (aO G<|cC ao)<|ai (TU G (PW.pt<|gf (aW g (gP g<|aa g) aG)<|jx<|aW g (gP g<|aa g) aG)<|ai (aX (aW g (gP g<|aa g) aG) (ai (bU<|aS g<|af (aa g)<|af (aa g)<|af (aa g) ao) ar)<|ai (aX (aW g (gP g<|aa g) aG) (ai (bU<|aS g<|af (aa g)<|af (aa g)<|af (aa g) ao) ar)<|ai (aO G<|bw g<|af (gP g<|aa g)<|af (gP g<|aa g) ao)<|ai (bU<|aS g<|af (h_ g (aa g)<|af (aa g) ao)<|af (h_ g (aa g)<|af (aa g) ao)<|af (aa g)<|af (aa g) ao) ar) ar) ar)<|ai (aV<|cJ<|af (aS g<|af (aa g) ao)<|af (aS g<|af (aa g) ao) ao) ar)
def Ib:List Str:=["self","text","hands"]
noncomputable def Ic:List RS:=
 [.drop (.call 0 [.v 1]),
 .ite (.not<|.call 1 [.v 2,(.c<|.int 1),.g 0]) [.hZ 0 [(.c<|.str "there are 1 to 8 hands")]] [],
 .gI (.v 0) "signs" (.v 1),
 .gI (.v 0) "serials" (.comp none [] .dz [.v 2] none<|.c<|.int 0),
 .gI (.v 0) "changes" (.lst []),
 .gI (.v 0) "makers" (.lst [])]
def Vu:List Str:=["need_text","is_between"]
def Vv:List Str:=["MOST_HANDS"]
def Vw:List Str:=["range"]
def Vx:List Str:=["NoHand"]
def Ie:Stmt:=inClass (bB 33) 0
theorem Vy:MX Ib Ie Vu Vv Vw ag ag Vx ag Ic 0:=fun G=>have g:=G.toGood;(ai (bU<|aS g<|af (aa g) ao)<|ai (aX (cE<|eY g<|aS g<|af (aa g)<|af aq<|af (Gn g) ao) (ai (i8 G<|af aG ao) ar) ar)<|ai (j6 G (aa g)<|aa g)<|ai (UI G (aa g)<|j4 (ln:=["hand"]) g (by kernel_rfl) (lj g<|aa g) qj<|fun _ g=>aq)<|ai (j6 G (aa g)<|cC ao)<|ai (j6 G (aa g)<|cC ao) ar)
noncomputable def Ig:List RS:=
 [.ret<|.fld (.v 0) "signs"]
def Ih:Stmt:=inClass (bB 33) 1
theorem Vz:MX mz Ih ag ag ag ag ag ag ag Ig 0:=fun G=>have g:=G.toGood;(ai (aV<|dw g<|aa g) ar)
noncomputable def Ii:List RS:=
 [.ret<|.blt .len [(.fld (.v 0) "changes")]]
def Ij:Stmt:=inClass (bB 33) 2
theorem VA:MX mz Ij ag ag j_ ag ag ag ag Ii 0:=fun G=>have g:=G.toGood;(ai (aV<|bw g<|af (dw g<|aa g) ao) ar)
def Ik:List Str:=["self","number"]
noncomputable def Il:List RS:=
 [.ite (.not (.call 0 [.v 1,(.c (.int 1)),(.bj 0 "many" (.v 0) [])])) [.hZ 0 [(.c (.str "no change of that number was taken"))]] [],
 .ret (.blt .list [(.ix (.fld (.v 0) "changes") (.bin .Sub (.v 1) (.c (.int 1))))])]
def Im:List Str:=["is_between"]
def Io:List Str:=["many"]
def VB:List Str:=["NoLetter"]
def Ip:Stmt:=inClass (bB 33) 3
theorem VC:MX Ik Ip Im ag Hj Io ag VB ag Il 0:=fun G=>have g:=G.toGood;(ai (aX (cE<|eY g<|aS g<|af (aa g)<|af aq<|af (gP g<|aa g) ao) (ai (i8 G<|af aG ao) ar) ar)<|ai (aV<|bw g<|af (aI g (dw g<|aa g)<|aH g (aa g) aq) ao) ar)
def wt:List Str:=["self","hand","number"]
noncomputable def Iq:List RS:=
 [.ret<|.tup [(.c<|.str "took"),.v 1,.v 2,(.ix (.fld (.v 0) "makers")<|.bin .Sub (.v 2)<|.c<|.int 1),(.bj 0 "change" (.v 0) [.v 2])]]
def Ir:List Str:=["change"]
def Iu:Stmt:=inClass (bB 33) 4
theorem VD:MX wt Iu ag ag ag Ir ag ag ag Iq 0:=fun G=>have g:=G.toGood;(ai (aV<|cJ<|af aG<|af (aa g)<|af (aa g)<|af (aI g (dw g<|aa g)<|aH g (aa g) aq)<|af (h_ g (aa g)<|af (aa g) ao) ao) ar)
def qt:List Str:=["self","letter"]
noncomputable def Iv:List RS:=
 [.ite (.or [(.cmp .NotEq (.blt .len [.v 1]) (.c (.int 5))),(.not (.call 0 [(.ix (.v 1) (.c (.int 0))),(.tup [(.c (.str "ask"))])])),(.not (.bj 0 "is_known" (.v 0) [(.ix (.v 1) (.c (.int 1))),(.ix (.v 1) (.c (.int 3)))]))]) [.ret (.c (.bl false))] [],
 .ret (.and [(.call 1 [(.ix (.v 1) (.c (.int 2)))]),(.cmp .GtE (.ix (.v 1) (.c (.int 2))) (.c (.int 1))),(.call 2 [(.ix (.v 1) (.c (.int 4)))])])]
def VE:List Str:=["is_word","is_whole","is_change"]
def Iw:List Str:=["is_known"]
def Iy:Stmt:=inClass (bB 33) 5
theorem VF:MX qt Iy VE ag j_ Iw ag ag ag Iv 0:=fun G=>have g:=G.toGood;(ai (aX (PW.pt<|gf (aW g (bw g<|af (aa g) ao) aq)<|gf (cE<|eY g<|aS g<|af (aI g (aa g) aq)<|af (cJ<|af aG ao) ao)<|jx<|cE<|zO g<|h_ g (aa g)<|af (aI g (aa g) aq)<|af (aI g (aa g) aq) ao) (ai (aV dh) ar) ar)<|ai (aV<|gO (aS g<|af (aI g (aa g) aq) ao)<|gO (gN g (aI g (aa g) aq) aq)<|i7<|aS g<|af (aI g (aa g) aq) ao) ar)
noncomputable def Iz:List RS:=
 [.ret<|.and [(.cmp .Eq (.blt .len [.v 1])<|.c<|.int 3),(.call 0 [(.ix (.v 1)<|.c<|.int 0),(.tup [(.c<|.str "again")])]),(.bj 0 "is_known" (.v 0) [(.ix (.v 1)<|.c<|.int 1),(.ix (.v 1)<|.c<|.int 2)])]]
def VG:List Str:=["is_word"]
def IA:Stmt:=inClass (bB 33) 6
theorem VH:MX qt IA VG ag j_ Iw ag ag ag Iz 0:=fun G=>have g:=G.toGood;(ai (aV<|gO (gN g (bw g<|af (aa g) ao) aq)<|gO (aS g<|af (aI g (aa g) aq)<|af (cJ<|af aG ao) ao)<|i7<|h_ g (aa g)<|af (aI g (aa g) aq)<|af (aI g (aa g) aq) ao) ar)
noncomputable def IB:List RS:=
 [.ret<|.and [(.call 0 [.v 1,(.c<|.int 0),(.bin .Sub (.blt .len [(.fld (.v 0) "serials")])<|.c<|.int 1)]),(.call 0 [.v 2,(.c<|.int 0),(.bj 0 "many" (.v 0) [])])]]
def IC:Stmt:=inClass (bB 33) 7
theorem VI:MX wt IC Im ag j_ Io ag ag ag IB 0:=fun G=>have g:=G.toGood;(ai (aV<|gO (aS g<|af (aa g)<|af aq<|af (aH g (bw g<|af (dw g<|aa g) ao) aq) ao)<|i7<|aS g<|af (aa g)<|af aq<|af (gP g<|aa g) ao) ar)
noncomputable def ID:List RS:=
 [.ite (.not (.df .tuple (.v 1))) [.hZ 0 [(.c (.str "a letter is a tuple"))]] [],
 .ite (.bj 0 "is_again" (.v 0) [.v 1]) [.ret<|.comp none [("self",0),("letter",1)] .r9 [(.bin .Add (.ix (.v 1)<|.c<|.int 2)<|.c<|.int 1),(.bin .Add (.bj 1 "many" (.v 0) [])<|.c<|.int 1)] none<|.bj 2 "took" (.v 1) [(.ix (.v 2)<|.c<|.int 1),.v 0]] [],
 .ite (.not<|.bj 3 "is_ask" (.v 0) [.v 1]) [.hZ 0 [(.c<|.str "this is no letter to the server of these hands")]] [],
 .ite (.cmp .NotEq (.ix (.v 1)<|.c<|.int 2)<|.bin .Add (.ix (.fld (.v 0) "serials")<|.ix (.v 1)<|.c<|.int 1)<|.c<|.int 1) [.ret<|.lst []] [],
 .ret (.bj 4 "take_in" (.v 0) [(.ix (.v 1) (.c (.int 1))),(.ix (.v 1) (.c (.int 3))),(.ix (.v 1) (.c (.int 4)))])]
def VJ:List Str:=["isinstance","tuple","range"]
def VL:List Str:=["is_again","many","took","is_ask","take_in"]
def VM:List Str:=["BadLetter"]
def IE:Stmt:=inClass (bB 33) 8
theorem VN:MX qt IE ag ag VJ VL ag VM ag ID 0:=fun G=>have g:=G.toGood;(ai (aX (cE<|j5 g<|eW g<|aa g) (ai (i8 G<|af aG ao) ar) ar)<|ai (aX (zO g<|h_ g (aa g)<|af (aa g) ao) (ai (aV<|j4 (ln:=["number"]) g (by kernel_rfl) (Gp g (aH g (aI g (aa g) aq) aq)<|aH g (gP g<|aa g) aq) qj<|fun _ g=>(h_ g (aa g)<|af (aI g (aa g) aq)<|af (aa g) ao)) ar) ar)<|ai (aX (cE<|zO g<|h_ g (aa g)<|af (aa g) ao) (ai (i8 G<|af aG ao) ar) ar)<|ai (aX (aW g (aI g (aa g) aq)<|aH g (aI g (dw g<|aa g)<|aI g (aa g) aq) aq) (ai (aV<|cC ao) ar) ar)<|ai (aV<|h_ g (aa g)<|af (aI g (aa g) aq)<|af (aI g (aa g) aq)<|af (aI g (aa g) aq) ao) ar)
def IF:List Str:=["self","hand","number","change","taken"]
noncomputable def IG:List RS:=
 [.js 4 .list [(.sl (.fld (.v 0) "changes") (some (.v 2)) none)] [.asg 3 (.ix (.call 0 [.v 4,.v 3]) (.c (.int 1)))],
 .gI (.v 0) "signs" (.call 1 [(.fld (.v 0) "signs"),.v 3]),
 .set (.fld (.v 0) "serials") (.v 1) (.bin .Add (.ix (.fld (.v 0) "serials")<|.v 1)<|.c<|.int 1),
 .drop (.bz .append (.fld (.v 0) "changes") [(.blt .list [.v 3])]),
 .drop (.bz .append (.fld (.v 0) "makers") [.v 1]),
 .ret (.comp none [("self",0)] .dz [(.blt .len [(.fld (.v 0) "serials")])] none (.bj 0 "took" (.v 1) [.v 0,(.bj 1 "many" (.v 1) [])]))]
def VO:List Str:=["passed","done"]
def VP:List Str:=["list","range","len"]
def VQ:List Str:=["took","many"]
def IH:Stmt:=inClass (bB 33) 9
theorem VR:MX IF IH VO ag VP VQ ag ag ag IG 0:=fun G=>have g:=G.toGood;(ai (ox G (ia g<|j3 g (dw g<|aa g) (gc<|aa g) v7)<|ai (aO G<|aI g (aS g<|af (aa g)<|af (aa g) ao) aq) ar)<|ai (j6 G (aa g)<|aS g<|af (dw g<|aa g)<|af (aa g) ao)<|ai (sJ (aH g (aI g (dw g<|aa g)<|aa g) aq) (dw g<|aa g)<|aa g)<|ai (bU<|cQ g (dw g<|aa g)<|af (bw g<|af (aa g) ao) ao)<|ai (bU<|cQ g (dw g<|aa g)<|af (aa g) ao)<|ai (aV<|j4 (ln:=["other"]) g (by kernel_rfl) (lj g<|bw g<|af (dw g<|aa g) ao) qj<|fun _ g=>(h_ g (aa g)<|af (aa g)<|af (gP g<|aa g) ao)) ar)
def II:Stmt:=bB 35
theorem VS:MX GW II ag ag j_ ag ag ag ag GX 0:=fun G=>have g:=G.toGood;(ai (aX (aW g (aa g)<|bw g<|af (aa g) ao) (ai (aV<|aI g (aa g)<|aa g) ar) ar)<|ai (aV aq) ar)
def Aa:List Str:=["_law_found"]
def IJ:Stmt:=bB 36
theorem VT:MX Aa IJ ag ag Gz ag ag ag ag Hg 0:=fun G=>have g:=G.toGood;(ai (aV<|gO (eW g<|aa g)<|i7<|zK g<|eW g<|aa g) ar)
def IL:Stmt:=bB 37
theorem VU:MX GY IL ag ag ag ag ag ag ag GZ 0:=fun G=>have g:=G.toGood;(ai (aO G<|aH g (aH g (aH g (aH g (aa g) aq)<|aH g aq<|aa g) aq) aq)<|ai (aV<|aH g (aH g (aH g (aH g (aa g)<|aa g) aq)<|aa g) aq) ar)
def IM:Stmt:=bB 38
theorem VW:MX G0 IM Uk ag z9 ag ag ag ag G1 0:=fun G=>have g:=G.toGood;(ai (aO G aG)<|ai (aO G<|aH g (aa g) aG)<|ai (aX (aW g (aH g (aa g) aq) aq) (ai (aO G aG) ar) ar)<|ai (aV<|cQ g aG<|af (j4 (ln:=["_law_k"]) g (by kernel_rfl) (lj g<|aa g) qj<|fun _ g=>(aI g (aa g)<|aH g (aH g (aS g<|af (aa g)<|af (aa g) ao) aq)<|bw g<|af (aa g) ao)) ao) ar)
def IP:Stmt:=bB 39
theorem VX:MX G3 IP ag ag ag ag ag ag ag G4 0:=fun G=>have g:=G.toGood;(ai (aX (aW g (aH g (aa g) aq) aq) (ai (aV<|aH g (aH g (aa g) aq) aq) ar) ar)<|ai (aV<|aH g (aH g (aa g) aq) aq) ar)
def IQ:Stmt:=bB 40
theorem VY:MX G5 IQ Ul ag Um ag ag ag ag G6 0:=fun G=>have g:=G.toGood;(ai (aO G<|cC ao)<|ai (aO G aq)<|ai (ox G (lj g<|aa g)<|ai (aO G<|aS g<|af (aa g)<|af (aH g aq<|aa g) ao)<|ai (aO G<|aI g (cC<|af aq<|af aq<|af aq<|af aq<|af aq<|af aq ao)<|aH g (aH g (aa g) aq) aq)<|ai (aO G<|bw g<|af (aa g)<|af (aH g (bw g<|af (aa g) ao)<|aa g) ao)<|ai (aX (aW g (aH g (aa g) aq) aq) (ai (bU<|cQ g (aa g)<|af (cJ<|af aG<|af (aS g<|af (aa g)<|af (aa g) ao) ao) ao) ar)<|ai (aX (aW g (aH g (aa g) aq) aq) (ai (bU<|cQ g (aa g)<|af (cJ<|af aG<|af (j3 g (aa g) (gc<|aa g)<|gc<|aH g (aa g)<|aa g) ao) ao) ar)<|ai (bU<|cQ g (aa g)<|af (cJ<|af aG<|af (aa g) ao) ao) ar) ar)<|ai (aX (aW g (aH g (aa g) aq) aq) (ai (aO G<|aH g (aa g)<|aa g) ar) ar) ar)<|ai (aV<|aH g (aa g)<|cC<|af (cJ<|af aG<|af (aH g (bw g<|af (aa g) ao)<|aa g) ao) ao) ar)
def IS:Stmt:=bB 41
theorem VZ:MX G7 IS ag ag Uo ag ag ag ag G8 0:=fun G=>have g:=G.toGood;(ai (aO G<|cC<|af (cC<|af aG<|af aG<|af aq ao) ao)<|ai (mx [(_,_),(_,_)] G (ia g<|aa g)<|ai (aX (aW g (aa g) aG) (ai (sJ (aH g (aI g (aI g (aa g)<|i6 aq) aq)<|aa g) (aI g (aa g)<|i6 aq) aq) ar)<|ai (aX (aW g (aa g) aG) (ai (aX (aW g (aI g (aI g (aa g)<|i6 aq) aq) aq) (ai (bU<|cQ g (aa g)<|af (cC<|af aG<|af aG<|af aq ao) ao) ar) ar)<|ai (sJ (aH g (aI g (aI g (aa g)<|i6 aq)<|bw g<|af (gN g (aa g) aG) ao)<|aa g) (aI g (aa g)<|i6 aq)<|bw g<|af (gN g (aa g) aG) ao) ar) ar) ar) ar)<|ai (aO G<|cC ao)<|ai (mx [(_,_),(_,_),(_,_)] G (ia g<|aa g)<|ai (aO G<|cC<|af (cJ<|af aG<|af (aa g) ao)<|af (cJ<|af aG<|af (aa g) ao)<|af (cJ<|af aG<|af (aa g) ao) ao)<|ai (aO G<|aH g (aa g)<|j4 (ln:=["_law_part"]) g (by kernel_rfl) (ia g<|aa g) (qk fun _ g=>(PW.pt<|k_ (aW g (aI g (aa g) aq) aG)<|k7<|aW g (aI g (aa g) aq) aq))<|fun _ g=>(aa g)) ar)<|ai (aV<|aa g) ar)
def IT:Stmt:=bB 42
theorem V0:MX G9 IT Up ag ag ag ag ag ag G_ 0:=fun G=>have g:=G.toGood;(ai (aV<|aS g<|af (aS g<|af (aa g)<|af (aa g)<|af (aa g) ao) ao) ar)
def z_:List Str:=["_law_text_here","_law_change_here","_law_found","_law_at","_law_word","_law_thing"]
def IU:Stmt:=bB 43
theorem V1:MX z_ IU ag ag j_ ag ag ag ag Hc 0:=fun G=>have g:=G.toGood;(ai (aO G aG)<|ai (aO G aq)<|ai (mx [(_,_),(_,_)] G (ia g<|aa g)<|ai (aX (aW g (aa g) aG) (ai (aO G<|aH g (aa g)<|aa g) ar)<|ai (aX (aW g (aa g) aG) (ai (aO G<|aH g (aa g)<|bw g<|af (aa g) ao) ar)<|ai (aO G<|aH g (aa g)<|j3 g (aa g) (gc<|aa g)<|gc<|aH g (aa g)<|aa g)<|ai (aO G<|aH g (aa g)<|aa g) ar) ar) ar)<|ai (aV<|aa g) ar)
def IV:Stmt:=bB 44
theorem V2:MX Ha IV Uq ag Ur ag ag ag ag Hb 0:=fun G=>have g:=G.toGood;(ai (aX (PW.pt<|gf (cE<|j5 g<|eW g<|aa g)<|jx<|aW g (bw g<|af (aa g) ao)<|bw g<|af (aa g) ao) (ai (aV dh) ar) ar)<|ai (mx [(_,_),(_,_)] G (TM g (aa g)<|aa g)<|ai (aX (PW.pt<|gf (cE<|j5 g<|eW g<|aa g)<|gf (aW g (bw g<|af (aa g) ao) aq)<|gf (cE<|j5 g<|eW g<|aI g (aa g) aq)<|jx<|aW g (aI g (aa g) aq)<|aI g (aa g) aq) (ai (aV dh) ar) ar)<|ai (aX (PW.pt<|gf (aW g (eW g<|aI g (aa g) aq)<|eW g<|aI g (aa g) aq)<|jx<|aW g (aI g (aa g) aq)<|aI g (aa g) aq) (ai (aV dh) ar) ar)<|ai (aX (PW.pt<|k_ (cE<|j5 g<|eW g<|aI g (aa g) aq)<|k7<|cE<|eY g<|aS g<|af (aI g (aa g) aq) ao) (ai (aV dh) ar) ar) ar)<|ai (aV dh) ar)
def IW:List Str:=["_law_change_here","_law_puts","_law_signs","_law_word","_law_thing","_law_some"]
noncomputable def IX:List RS:=
 [.asg 1 (.lst [(.c (.str ""))]),
 .asg 2 (.lst []),
 .i0 [3,4] .list [.v 0] [.ite (.cmp .Eq (.v 3) (.c (.str "put"))) [.set (.v 1) (.neg (.c (.int 1))) (.bin .Add (.ix (.v 1) (.neg (.c (.int 1)))) (.v 4))] [.asg 5 (.l9 (.cmp .Eq (.v 3) (.c (.str "cut"))) (.blt .list [.v 4]) (.bin .Mult (.lst [.c .aF]) (.v 4))),
   .asg 2 (.bin .Add (.v 2)<|.v 5),
   .asg 1 (.bin .Add (.v 1) (.bin .Mult (.lst [(.c (.str ""))]) (.blt .len [.v 5])))]],
 .ret (.tup [.v 1,.v 2])]
def V3:List Str:=["list","len"]
def IY:Stmt:=bB 45
theorem V4:MX IW IY ag ag V3 ag ag ag ag IX 0:=fun G=>have g:=G.toGood;(ai (aO G<|cC<|af aG ao)<|ai (aO G<|cC ao)<|ai (mx [(_,_),(_,_)] G (ia g<|aa g)<|ai (aX (aW g (aa g) aG) (ai (sJ (aH g (aI g (aa g)<|i6 aq)<|aa g) (aa g)<|i6 aq) ar)<|ai (aO G<|sI (aW g (aa g) aG) (bw g<|af (aa g) ao)<|aH g (cC<|af zJ ao)<|aa g)<|ai (aO G<|aH g (aa g)<|aa g)<|ai (aO G<|aH g (aa g)<|aH g (cC<|af aG ao)<|bw g<|af (aa g) ao) ar) ar)<|ai (aV<|cJ<|af (aa g)<|af (aa g) ao) ar)
def IZ:List Str:=["_law_one","_law_other","_law_mine","_law_cuts","_law_puts","_law_lost","_law_parts_here","_law_k"]
noncomputable def I_:List RS:=
 [.sf [2,3] (.call 0 [.v 0]),
 .sf [4,5] (.call 0 [.v 1]),
 .asg 6 (.lst []),
 .js 7 .dz [(.blt .len [.v 2])] [.asg 6 (.bin .Add (.v 6) (.lst [(.tup [(.c (.str "keep")),(.blt .len [(.ix (.v 2) (.v 7))])]),(.tup [(.c (.str "put")),(.ix (.v 4) (.v 7))])])),
  .ite (.and [(.cmp .Lt (.v 7) (.blt .len [.v 3])),(.cmp .Is (.ix (.v 3) (.v 7)) (.c .aF))]) [.drop (.bz .append (.v 6) [(.l9 (.cmp .Is (.ix (.v 5) (.v 7)) (.c .aF)) (.tup [(.c (.str "keep")),(.c (.int 1))]) (.tup [(.c (.str "cut")),(.ix (.v 5) (.v 7))]))])] []],
 .ret (.call 1 [.v 6])]
def V_:List Str:=["_law_gaps","_law_neat"]
def Ja:Stmt:=bB 46
theorem Wa:MX IZ Ja V_ ag z9 ag ag ag ag I_ 0:=fun G=>have g:=G.toGood;(ai (Gs [(_,_),(_,_)] G<|aS g<|af (aa g) ao)<|ai (Gs [(_,_),(_,_)] G<|aS g<|af (aa g) ao)<|ai (aO G<|cC ao)<|ai (ox G (lj g<|bw g<|af (aa g) ao)<|ai (aO G<|aH g (aa g)<|cC<|af (cJ<|af aG<|af (bw g<|af (aI g (aa g)<|aa g) ao) ao)<|af (cJ<|af aG<|af (aI g (aa g)<|aa g) ao) ao)<|ai (aX (PW.pt<|k_ (aW g (aa g)<|bw g<|af (aa g) ao)<|k7<|aW g (aI g (aa g)<|aa g) zJ) (ai (bU<|cQ g (aa g)<|af (sI (aW g (aI g (aa g)<|aa g) zJ) (cJ<|af aG<|af aq ao)<|cJ<|af aG<|af (aI g (aa g)<|aa g) ao) ao) ar) ar) ar)<|ai (aV<|aS g<|af (aa g) ao) ar)
def wu:List Str:=["_law_found","_law_due"]
noncomputable def Jb:List RS:=
 [.ite (.or [(.not (.df .tuple (.v 0))),(.cmp .NotEq (.blt .len [.v 0]) (.c (.int 5))),(.not (.df .str (.ix (.v 0) (.c (.int 0))))),(.cmp .NotEq (.sl (.v 0) none (some (.c (.int 4)))) (.sl (.v 1) none (some (.c (.int 4)))))]) [.ret (.c (.bl false))] [],
 .ite (.cmp .Gt (.blt .len [(.comp none [] .tup [(.sl (.v 0) (some<|.c<|.int 1)<|some<|.c<|.int 4)] (some<|.not<|.call 0 [.v 0])<|.v 0)])<|.c<|.int 0) [.ret<|.c<|.bl false] [],
 .ret (.call 1 [(.ix (.v 0) (.c (.int 4))),(.ix (.v 1) (.c (.int 4)))])]
def Wb:List Str:=["_law_whole","_law_same"]
def Wc:List Str:=["isinstance","tuple","len","str"]
def Jc:Stmt:=bB 47
theorem Wd:MX wu Jc Wb ag Wc ag ag ag ag Jb 0:=fun G=>have g:=G.toGood;(ai (aX (PW.pt<|gf (cE<|j5 g<|eW g<|aa g)<|gf (aW g (bw g<|af (aa g) ao) aq)<|gf (cE<|j5 g<|eW g<|aI g (aa g) aq)<|jx<|aW g (j3 g (aa g) v7<|gc aq)<|j3 g (aa g) v7<|gc aq) (ai (aV dh) ar) ar)<|ai (aX (aW g (bw g<|af (j4 (ln:=["_law_part"]) g (by kernel_rfl) (TL g<|j3 g (aa g) (gc aq)<|gc aq) (qk fun _ g=>(cE<|eY g<|aS g<|af (aa g) ao))<|fun _ g=>(aa g)) ao) aq) (ai (aV dh) ar) ar)<|ai (aV<|aS g<|af (aI g (aa g) aq)<|af (aI g (aa g) aq) ao) ar)
noncomputable def Jd:List RS:=
 [.ite (.or [(.not (.df .list (.v 0))),(.cmp .NotEq (.blt .len [.v 0]) (.blt .len [.v 1]))]) [.ret (.c (.bl false))] [],
 .ret (.cmp .Eq (.blt .len [(.comp none [("_law_found",0),("_law_due",1)] .dz [(.blt .len [.v 1])] (some (.not (.call 0 [(.ix (.v 1) (.v 0)),(.ix (.v 2) (.v 0))]))) (.v 0))]) (.c (.int 0)))]
def We:List Str:=["_law_letter_same"]
def Wf:List Str:=["isinstance","list","len","range"]
def Je:Stmt:=bB 48
theorem Wg:MX wu Je We ag Wf ag ag ag ag Jd 0:=fun G=>have g:=G.toGood;(ai (aX (PW.pt<|gf (cE<|j5 g<|eW g<|aa g)<|jx<|aW g (bw g<|af (aa g) ao)<|bw g<|af (aa g) ao) (ai (aV dh) ar) ar)<|ai (aV<|gN g (bw g<|af (j4 (ln:=["_law_k"]) g (by kernel_rfl) (lj g<|bw g<|af (aa g) ao) (qk fun _ g=>(cE<|eY g<|aS g<|af (aI g (aa g)<|aa g)<|af (aI g (aa g)<|aa g) ao))<|fun _ g=>(aa g)) ao) aq) ar)
def Jf:List Str:=["_law_server","_law_rows","_law_cell","_law_many","_law_k","_law_number","_law_found"]
noncomputable def Jg:List RS:=
 [.asg 3 (.blt .len [(.bQ (.v 1) (.c (.str "taken")))]),
 .js 4 .dz [(.blt .min [.v 3,(.c (.int 4))])] [.asg 5 (.bin .Add (.c (.int 1)) (.bin .Mod (.bin .Add (.v 2) (.bin .Mult (.v 4) (.bin .Sub (.v 3) (.c (.int 1))))) (.v 3))),
  .asg 6 (.bj 0 "change" (.v 0) [.v 5]),
  .ite (.not<|.call 0 [.v 6,(.ix (.ix (.bQ (.v 1)<|.c<|.str "taken")<|.bin .Sub (.v 5)<|.c<|.int 1)<|.c<|.int 1)]) [.ret<|.c<|.bl false] [],
  .drop (.bz .append (.bQ (.v 1)<|.c<|.str "held") [(.tup [.v 6,(.xt qm [.v 6])])]),
  .ite (.cmp .Eq (.bin .Mod (.v 5) (.c (.int 2))) (.c (.int 0))) [.drop (.bz .pop (.bQ (.v 1) (.c (.str "held"))) []),
   .drop (.bz .clear (.v 6) [])] []],
 .ret (.c (.bl true))]
def Jh:List Str:=["_law_same"]
def Wh:List Str:=["len","range","min","repr"]
def Ji:Stmt:=bB 49
theorem Wi:MX Jf Ji Jh ag Wh Ir ag ag ag Jg 0:=fun G=>have g:=G.toGood;(ai (aO G<|bw g<|af (di g (aa g) aG) ao)<|ai (ox G (lj g<|bw g<|af (aa g)<|af aq ao)<|ai (aO G<|aH g aq<|aH g (aH g (aa g)<|aH g (aa g)<|aH g (aa g) aq)<|aa g)<|ai (aO G<|h_ g (aa g)<|af (aa g) ao)<|ai (aX (cE<|eY g<|aS g<|af (aa g)<|af (aI g (aI g (di g (aa g) aG)<|aH g (aa g) aq) aq) ao) (ai (aV dh) ar) ar)<|ai (bU<|cQ g (di g (aa g) aG)<|af (cJ<|af (aa g)<|af (Ag g<|af (aa g) ao) ao) ao)<|ai (aX (aW g (aH g (aa g) aq) aq) (ai (bU<|qi g<|di g (aa g) aG)<|ai (bU<|qi g<|aa g) ar) ar) ar)<|ai (aV dh) ar)
def Jj:List Str:=["_law_server","_law_rows","_law_cell","_law_k","_law_turn"]
noncomputable def Jk:List RS:=
 [.js 3 .dz [(.c (.int 3))] [.asg 4 (.bin .Mod (.bin .Add (.v 2) (.bin .Mult (.v 3) (.bin .Add (.c (.int 1)) (.bin .Mod (.bin .FloorDiv (.v 2) (.c (.int 3))) (.c (.int 2)))))) (.c (.int 3))),
  .ite (.and [(.cmp .Eq (.v 4)<|.c<|.int 0),(.or [(.not<|.call 0 [(.bj 0 "many" (.v 0) [])]),(.cmp .NotEq (.bj 0 "many" (.v 0) [])<|.blt .len [(.bQ (.v 1)<|.c<|.str "taken")])])]) [.ret<|.c<|.bl false] [],
  .ite (.and [(.cmp .Eq (.v 4)<|.c<|.int 1),(.cmp .NotEq (.bj 1 "text" (.v 0) [])<|.ix (.bQ (.v 1)<|.c<|.str "texts")<|.neg<|.c<|.int 1)]) [.ret<|.c<|.bl false] [],
  .ite (.and [(.cmp .Eq (.v 4) (.c (.int 2))),(.not (.call 1 [.v 0,.v 1,(.bin .FloorDiv (.v 2) (.c (.int 6)))]))]) [.ret (.c (.bl false))] []],
 .ret (.c (.bl true))]
def Wj:List Str:=["_law_whole","_law_changes_right"]
def Wk:List Str:=["many","text"]
def Jl:Stmt:=bB 50
theorem Wl:MX Jj Jl Wj ag z9 Wk ag ag ag Jk 0:=fun G=>have g:=G.toGood;(ai (ox G (lj g aq)<|ai (aO G<|aH g (aH g (aa g)<|aH g (aa g)<|aH g aq<|aH g (aH g (aa g) aq) aq) aq)<|ai (aX (PW.pt<|k_ (aW g (aa g) aq)<|k7<|PW.pt<|gf (cE<|eY g<|aS g<|af (gP g<|aa g) ao)<|jx<|aW g (gP g<|aa g)<|bw g<|af (di g (aa g) aG) ao) (ai (aV dh) ar) ar)<|ai (aX (PW.pt<|k_ (aW g (aa g) aq)<|k7<|aW g (gP g<|aa g)<|aI g (di g (aa g) aG)<|i6 aq) (ai (aV dh) ar) ar)<|ai (aX (PW.pt<|k_ (aW g (aa g) aq)<|k7<|cE<|eY g<|aS g<|af (aa g)<|af (aa g)<|af (aH g (aa g) aq) ao) (ai (aV dh) ar) ar) ar)<|ai (aV dh) ar)
def Ao:List Str:=["_law_rows","_law_found","_law_due","_law_cell"]
noncomputable def Jm:List RS:=
 [.ite (.cmp .Eq (.bin .Mod (.v 3) (.c (.int 2))) (.c (.int 0))) [.drop (.bz .append (.bQ (.v 0) (.c (.str "held"))) [(.tup [.v 1,(.xt qm [.v 1])])]),
  .ret (.c (.bl true))] [],
 .ite (.cmp .Gt (.blt .len [.v 2]) (.c (.int 0))) [.drop (.bz .clear (.ix (.ix (.v 1) (.c (.int 0))) (.c (.int 4))) []),
  .ite (.and [(.cmp .Gt (.blt .len [.v 2]) (.c (.int 1))),(.not (.call 0 [(.ix (.ix (.v 1) (.neg (.c (.int 1)))) (.c (.int 4))),(.ix (.ix (.v 2) (.neg (.c (.int 1)))) (.c (.int 4)))]))]) [.ret (.c (.bl false))] []] [],
 .drop (.bz .clear (.v 1) []),
 .ret (.c (.bl true))]
def Wm:List Str:=["repr","len"]
def Jn:Stmt:=bB 51
theorem Wn:MX Ao Jn Jh ag Wm ag ag ag ag Jm 0:=fun G=>have g:=G.toGood;(ai (aX (aW g (aH g (aa g) aq) aq) (ai (bU<|cQ g (di g (aa g) aG)<|af (cJ<|af (aa g)<|af (Ag g<|af (aa g) ao) ao) ao)<|ai (aV dh) ar) ar)<|ai (aX (aW g (bw g<|af (aa g) ao) aq) (ai (bU<|qi g<|aI g (aI g (aa g) aq) aq)<|ai (aX (PW.pt<|k_ (aW g (bw g<|af (aa g) ao) aq)<|k7<|cE<|eY g<|aS g<|af (aI g (aI g (aa g)<|i6 aq) aq)<|af (aI g (aI g (aa g)<|i6 aq) aq) ao) (ai (aV dh) ar) ar) ar) ar)<|ai (bU<|qi g<|aa g)<|ai (aV dh) ar)
def gQ:List Str:=["_law_server","_law_rows","_law_cell","_law_hand","_law_serial","_law_good","_law_at","_law_change_here","_law_due","_law_passing","_law_who","_law_other","_law_many","_law_handed","_law_found"]
noncomputable def cR:List RS:=
 [.asg 3 (.bin .Mod (.v 2) (.blt .len [(.bQ (.v 1) (.c (.str "serials")))])),
 .asg 4 (.bin .Add (.ix (.bQ (.v 1)<|.c<|.str "serials")<|.v 3)<|.c<|.int 1),
 .asg 5 (.cmp .Gt (.bin .Mod (.bin .FloorDiv (.v 2)<|.c<|.int 8)<|.c<|.int 4)<|.c<|.int 0),
 .ite (.not (.v 5)) [.asg 4 (.ix (.lst [(.bin .Add (.v 4) (.c (.int 1))),(.blt .max [(.c (.int 1)),(.bin .Sub (.v 4) (.c (.int 1)))]),(.bin .Add (.v 4) (.c (.int 5)))]) (.bin .Mod (.bin .FloorDiv (.v 2) (.c (.int 32))) (.c (.int 3)))),
  .asg 5 (.cmp .Eq (.v 4) (.bin .Add (.ix (.bQ (.v 1) (.c (.str "serials"))) (.v 3)) (.c (.int 1))))] [],
 .asg 6 (.bin .Sub (.blt .len [(.bQ (.v 1)<|.c<|.str "taken")])<|.blt .min [(.blt .len [(.bQ (.v 1)<|.c<|.str "taken")]),(.bin .Mod (.bin .FloorDiv (.v 2)<|.c<|.int 96)<|.c<|.int 5)]),
 .asg 7 (.call 0 [(.bin .FloorDiv (.v 2)<|.c<|.int 480),(.ix (.bQ (.v 1)<|.c<|.str "texts")<|.v 6),(.bin .Mod (.bin .FloorDiv (.v 2)<|.c<|.int 480)<|.c<|.int 9)]),
 .asg 8 (.lst []),
 .ite (.v 5) [.asg 9 (.v 7),
  .i0 [10,11] .list [(.sl (.bQ (.v 1)<|.c<|.str "taken") (some<|.v 6) none)] [.asg 9<|.call 1 [.v 11,.v 9]],
  .set (.bQ (.v 1)<|.c<|.str "serials") (.v 3) (.v 4),
  .drop (.bz .append (.bQ (.v 1)<|.c<|.str "taken") [(.tup [.v 3,.v 9])]),
  .drop (.bz .append (.bQ (.v 1)<|.c<|.str "texts") [(.call 2 [(.ix (.bQ (.v 1)<|.c<|.str "texts")<|.neg<|.c<|.int 1),.v 9])]),
  .asg 12 (.blt .len [(.bQ (.v 1)<|.c<|.str "taken")]),
  .pX 8 (.comp none [("_law_many",12),("_law_hand",3),("_law_passing",9)] .dz [(.blt .len [(.bQ (.v 1) (.c (.str "serials")))])] none (.tup [(.c (.str "took")),.v 0,.v 1,.v 2,.v 3]))] [],
 .asg 13 (.blt .list [.v 7]),
 .asg 14 (.bj 0 "came" (.v 0) [(.tup [(.c<|.str "ask"),.v 3,.v 4,.v 6,.v 13])]),
 .ite (.or [(.cmp .NotEq (.v 13)<|.v 7),(.not<|.call 3 [.v 14,.v 8])]) [.ret<|.c<|.bl false] [],
 .drop (.bz .clear (.v 13) []),
 .ret (.call 4 [.v 1,.v 14,.v 8,.v 2])]
def ic:List Str:=["_law_change","_law_passed_on","_law_done","_law_letters_same","_law_emptied"]
def ie:List Str:=["len","max","min","range","list"]
def gR:List Str:=["came"]
def cT:Stmt:=bB 52
theorem Wo:MY gQ cT ic ag ie gR ag ag ag cR 0 0:=by
 intro CX Γ X G;have g:=G.toGood;show PS X (.Assign [.Name "_law_hand" _] _ _) (cw Γ<|.asg 3 _)
 with_reducible exact(aO G<|aH g (aa g)<|bw g<|af (di g (aa g) aG) ao)
theorem Wq:MY gQ cT ic ag ie gR ag ag ag cR 0 1:=by
 intro CX Γ X G;have g:=G.toGood;show PS X (.Assign [.Name "_law_serial" _] _ _) (cw Γ<|.asg 4 _)
 with_reducible exact(aO G<|aH g (aI g (di g (aa g) aG)<|aa g) aq)
theorem Wr:MY gQ cT ic ag ie gR ag ag ag cR 0 2:=by
 intro CX Γ X G;have g:=G.toGood;show PS X (.Assign [.Name "_law_good" _] _ _) (cw Γ<|.asg 5 _)
 with_reducible exact(aO G<|gN g (aH g (aH g (aa g) aq) aq) aq)
theorem Ws:MY gQ cT ic ag ie gR ag ag ag cR 0 3:=fun G=>have g:=G.toGood;(aX (cE<|zN g<|aa g) (ai (aO G<|aI g (cC<|af (aH g (aa g) aq)<|af (bw g<|af aq<|af (aH g (aa g) aq) ao)<|af (aH g (aa g) aq) ao)<|aH g (aH g (aa g) aq) aq)<|ai (aO G<|gN g (aa g)<|aH g (aI g (di g (aa g) aG)<|aa g) aq) ar) ar)
theorem Wt:MY gQ cT ic ag ie gR ag ag ag cR 0 4:=by
 intro CX Γ X G;have g:=G.toGood;show PS X (.Assign [.Name "_law_at" _] _ _) (cw Γ<|.asg 6 _)
 with_reducible exact(aO G<|aH g (bw g<|af (di g (aa g) aG) ao)<|bw g<|af (bw g<|af (di g (aa g) aG) ao)<|af (aH g (aH g (aa g) aq) aq) ao)
theorem Wu:MY gQ cT ic ag ie gR ag ag ag cR 0 5:=by
 intro CX Γ X G;have g:=G.toGood;show PS X (.Assign [.Name "_law_change_here" _] _ _) (cw Γ<|.asg 7 _)
 with_reducible exact(aO G<|aS g<|af (aH g (aa g) aq)<|af (aI g (di g (aa g) aG)<|aa g)<|af (aH g (aH g (aa g) aq) aq) ao)
theorem Wv:MY gQ cT ic ag ie gR ag ag ag cR 0 6:=by
 intro CX Γ X G;have g:=G.toGood;show PS X (.Assign [.Name "_law_due" _] _ _) (cw Γ<|.asg 8 _)
 with_reducible exact(aO G<|cC ao)
theorem Ww:MY gQ cT ic ag ie gR ag ag ag cR 0 7:=fun G=>have g:=G.toGood;(aX (zN g<|aa g) (ai (aO G<|aa g)<|ai (mx [(_,_),(_,_)] G (ia g<|j3 g (di g (aa g) aG) (gc<|aa g) v7)<|ai (aO G<|aS g<|af (aa g)<|af (aa g) ao) ar)<|ai (sJ (aa g) (di g (aa g) aG)<|aa g)<|ai (bU<|cQ g (di g (aa g) aG)<|af (cJ<|af (aa g)<|af (aa g) ao) ao)<|ai (bU<|cQ g (di g (aa g) aG)<|af (aS g<|af (aI g (di g (aa g) aG)<|i6 aq)<|af (aa g) ao) ao)<|ai (aO G<|bw g<|af (di g (aa g) aG) ao)<|ai (Gr (ln:=["_law_k"]) G (by kernel_rfl) (by kernel_rfl) (by kernel_rfl) (lj g<|bw g<|af (di g (aa g) aG) ao) qj<|fun _ g=>(cJ<|af aG<|af (aa g)<|af (aa g)<|af (aa g)<|af (aa g) ao)) ar) ar)
theorem Wx:MY gQ cT ic ag ie gR ag ag ag cR 0 8:=by
 intro CX Γ X G;have g:=G.toGood;show PS X (.Assign [.Name "_law_handed" _] _ _) (cw Γ<|.asg 13 _)
 with_reducible exact(aO G<|bw g<|af (aa g) ao)
theorem Wy:MY gQ cT ic ag ie gR ag ag ag cR 0 9:=by
 intro CX Γ X G;have g:=G.toGood;show PS X (.Assign [.Name "_law_found" _] _ _) (cw Γ<|.asg 14 _)
 with_reducible exact(aO G<|h_ g (aa g)<|af (cJ<|af aG<|af (aa g)<|af (aa g)<|af (aa g)<|af (aa g) ao) ao)
theorem Wz:MY gQ cT ic ag ie gR ag ag ag cR 0 10:=fun G=>have g:=G.toGood;(aX (PW.pt<|gf (aW g (aa g)<|aa g)<|jx<|cE<|eY g<|aS g<|af (aa g)<|af (aa g) ao) (ai (aV dh) ar) ar)
theorem WA:MY gQ cT ic ag ie gR ag ag ag cR 0 11:=fun G=>have g:=G.toGood;(bU<|qi g<|aa g)
theorem WB:MY gQ cT ic ag ie gR ag ag ag cR 0 12:=by
 intro CX Γ X G;have g:=G.toGood;show PS X (.Return (some _) _) (cw Γ<|.ret _)
 with_reducible exact(aV<|aS g<|af (aa g)<|af (aa g)<|af (aa g)<|af (aa g) ao)
theorem WC:MX gQ cT ic ag ie gR ag ag ag cR 0:=by
 intro CX Γ X G;have e:eR cT=[d4 cT 0,d4 cT 1,d4 cT 2,d4 cT 3,d4 cT 4,d4 cT 5,d4 cT 6,d4 cT 7,d4 cT 8,d4 cT 9,d4 cT 10,d4 cT 11,d4 cT 12]:=by kernel_rfl
 have e2:cR=[d5 cR 0,d5 cR 1,d5 cR 2,d5 cR 3,d5 cR 4,d5 cR 5,d5 cR 6,d5 cR 7,d5 cR 8,d5 cR 9,d5 cR 10,d5 cR 11,d5 cR 12]:=by kernel_rfl
 rw[e,e2]
 with_reducible exact ai (Wo G) (ai (Wq G)<|ai (Wr G)<|ai (Ws G)<|ai (Wt G)<|ai (Wu G)<|ai (Wv G)<|ai (Ww G)<|ai (Wx G)<|ai (Wy G)<|ai (Wz G)<|ai (WA G)<|ai (WB G)<|ar)
def Jo:List Str:=["_law_server","_law_rows","_law_cell","_law_hand","_law_at","_law_found","_law_due"]
noncomputable def Jp:List RS:=
 [.asg 3 (.bin .Mod (.v 2) (.blt .len [(.bQ (.v 1) (.c (.str "serials")))])),
 .asg 4 (.bin .Mod (.bin .FloorDiv (.v 2)<|.c<|.int 8)<|.bin .Add (.blt .len [(.bQ (.v 1)<|.c<|.str "taken")])<|.c<|.int 1),
 .asg 5 (.bj 0 "came" (.v 0) [(.tup [(.c<|.str "again"),.v 3,.v 4])]),
 .pX 6 (.comp none [("_law_hand",3),("_law_rows",1)] .r9 [.v 4,(.blt .len [(.bQ (.v 1)<|.c<|.str "taken")])] none<|.bin .Add (.tup [(.c<|.str "took"),.v 1,(.bin .Add (.v 0)<|.c<|.int 1)])<|.ix (.bQ (.v 2)<|.c<|.str "taken")<|.v 0),
 .ite (.not<|.call 0 [.v 5,.v 6]) [.ret<|.c<|.bl false] [],
 .ret (.call 1 [.v 1,.v 5,.v 6,.v 2])]
def WD:List Str:=["_law_letters_same","_law_emptied"]
def WE:List Str:=["len","range"]
def Jq:Stmt:=bB 53
theorem WG:MX Jo Jq WD ag WE gR ag ag ag Jp 0:=fun G=>have g:=G.toGood;(ai (aO G<|aH g (aa g)<|bw g<|af (di g (aa g) aG) ao)<|ai (aO G<|aH g (aH g (aa g) aq)<|aH g (bw g<|af (di g (aa g) aG) ao) aq)<|ai (aO G<|h_ g (aa g)<|af (cJ<|af aG<|af (aa g)<|af (aa g) ao) ao)<|ai (Gr (ln:=["_law_k"]) G (by kernel_rfl) (by kernel_rfl) (by kernel_rfl) (Gp g (aa g)<|bw g<|af (di g (aa g) aG) ao) qj<|fun _ g=>(aH g (cJ<|af aG<|af (aa g)<|af (aH g (aa g) aq) ao)<|aI g (di g (aa g) aG)<|aa g))<|ai (aX (cE<|eY g<|aS g<|af (aa g)<|af (aa g) ao) (ai (aV dh) ar) ar)<|ai (aV<|aS g<|af (aa g)<|af (aa g)<|af (aa g)<|af (aa g) ao) ar)
def lq:List Str:=["_law_script","_law_text_here","_law_hands","_law_server","_law_rows","_law_cell","_law_good"]
noncomputable def eM:List RS:=
 [.asg 1 (.call 0 [(.call 1 [.v 0,(.c (.int 1))]),(.call 2 [(.call 1 [.v 0,(.c (.int 0))])])]),
 .asg 2 (.bin .Add (.c<|.int 1)<|.bin .Mod (.call 1 [.v 0,(.c<|.int 2)])<|.c<|.int 8),
 .asg 3 (.make 0 [.v 1,.v 2]),
 .asg 4 (.xt ql [(.c<|.str "serials"),(.bin .Mult (.lst [(.c<|.int 0)])<|.v 2),(.c<|.str "taken"),(.lst []),(.c<|.str "texts"),(.lst [.v 1]),(.c<|.str "held"),(.lst [])]),
 .js 5 .list [(.sl (.v 0) (some (.c (.int 3))) (some (.c (.int 17))))] [.ite (.cmp .Eq (.bin .Mod (.v 5) (.c (.int 5))) (.c (.int 0))) [.asg 6 (.call 3 [.v 3,.v 4,(.bin .FloorDiv (.v 5) (.c (.int 5)))])] [.asg 6 (.call 4 [.v 3,.v 4,(.bin .FloorDiv (.v 5) (.c (.int 5)))])],
  .ite (.or [(.not (.v 6)),(.not (.call 5 [.v 3,.v 4,(.bin .FloorDiv (.v 5) (.c (.int 3)))]))]) [.ret (.c (.bl false))] []],
 .ite (.not<|.call 5 [.v 3,.v 4,(.call 1 [.v 0,(.c<|.int 0)])]) [.ret<|.c<|.bl false] [],
 .ret (.cmp .Eq (.comp (some 2) [] .list [(.bQ (.v 4) (.c (.str "held")))] (some (.cmp .NotEq (.xt qm [.v 0]) (.v 1))) (.v 0)) (.lst []))]
def mE:List Str:=["_law_text","_law_cell_at","_law_size","_law_again","_law_asked","_law_stands"]
def mF:List Str:=["repr"]
def mG:List Str:=["Server"]
def fE:Stmt:=bB 54
theorem WH:MY lq fE mE ag mF ag mG ag ag eM 0 0:=by
 intro CX Γ X G;have g:=G.toGood;show PS X (.Assign [.Name "_law_text_here" _] _ _) (cw Γ<|.asg 1 _)
 with_reducible exact(aO G<|aS g<|af (aS g<|af (aa g)<|af aq ao)<|af (aS g<|af (aS g<|af (aa g)<|af aq ao) ao) ao)
theorem WI:MY lq fE mE ag mF ag mG ag ag eM 0 1:=by
 intro CX Γ X G;have g:=G.toGood;show PS X (.Assign [.Name "_law_hands" _] _ _) (cw Γ<|.asg 2 _)
 with_reducible exact(aO G<|aH g aq<|aH g (aS g<|af (aa g)<|af aq ao) aq)
theorem WJ:MY lq fE mE ag mF ag mG ag ag eM 0 2:=by
 intro CX Γ X G;have g:=G.toGood;show PS X (.Assign [.Name "_law_server" _] _ _) (cw Γ<|.asg 3 _)
 with_reducible exact(aO G<|zM g<|af (aa g)<|af (aa g) ao)
theorem WK:MY lq fE mE ag mF ag mG ag ag eM 0 3:=by
 intro CX Γ X G;have g:=G.toGood;show PS X (.Assign [.Name "_law_rows" _] _ _) (cw Γ<|.asg 4 _)
 with_reducible exact(aO G<|UG<|wg aG (aH g (cC<|af aq ao)<|aa g)<|wg aG (cC ao)<|wg aG (cC<|af (aa g) ao)<|wg aG (cC ao) UE)
theorem WL:MY lq fE mE ag mF ag mG ag ag eM 0 4:=fun G=>have g:=G.toGood;(ox G (ia g<|j3 g (aa g) (gc aq)<|gc aq)<|ai (aX (aW g (aH g (aa g) aq) aq) (ai (aO G<|aS g<|af (aa g)<|af (aa g)<|af (aH g (aa g) aq) ao) ar)<|ai (aO G<|aS g<|af (aa g)<|af (aa g)<|af (aH g (aa g) aq) ao) ar)<|ai (aX (PW.pt<|gf (cE<|zN g<|aa g)<|jx<|cE<|eY g<|aS g<|af (aa g)<|af (aa g)<|af (aH g (aa g) aq) ao) (ai (aV dh) ar) ar) ar)
theorem WM:MY lq fE mE ag mF ag mG ag ag eM 0 5:=fun G=>have g:=G.toGood;(aX (cE<|eY g<|aS g<|af (aa g)<|af (aa g)<|af (aS g<|af (aa g)<|af aq ao) ao) (ai (aV dh) ar) ar)
theorem WN:MY lq fE mE ag mF ag mG ag ag eM 0 6:=by
 intro CX Γ X G;have g:=G.toGood;show PS X (.Return (some _) _) (cw Γ<|.ret _)
 with_reducible exact(aV<|gN g (j4 (ln:=["_law_told","_law_due"]) g (by kernel_rfl) (ia g<|di g (aa g) aG) (qk fun _ g=>(aW g (Ag g<|af (aa g) ao)<|aa g))<|fun _ g=>(aa g))<|cC ao)
theorem WO:MX lq fE mE ag mF ag mG ag ag eM 0:=by
 intro CX Γ X G;have e:eR fE=[d4 fE 0,d4 fE 1,d4 fE 2,d4 fE 3,d4 fE 4,d4 fE 5,d4 fE 6]:=by kernel_rfl
 have e2:eM=[d5 eM 0,d5 eM 1,d5 eM 2,d5 eM 3,d5 eM 4,d5 eM 5,d5 eM 6]:=by kernel_rfl
 rw[e,e2]
 with_reducible exact ai (WH G) (ai (WI G)<|ai (WJ G)<|ai (WK G)<|ai (WL G)<|ai (WM G)<|ai (WN G)<|ar)
end L2.kb
namespace L2.B
open PySem PySem.Spec PyProof.Rows
def eh(H H':Hp):Prop:= ∀b xs,H b=some (.tup xs)->H' b=some (.tup xs)
theorem bF(h:az H H'):eh H H':=fun b xs e=>h b _ e
theorem eh.trans{H1:Hp}(a:eh H H1)(b:eh H1 H2):eh H H2:=fun c xs e=>b c xs (a c xs e)
theorem sameNew{p:Addr}{o:HO}(h:H p=none):az H (upd H p o):=fun b u e=>by rw[aC<|aK e h];exact e
def aR(c:Addr)(H H':Hp):Prop:= ∀b o,H b=some o->b≠c->H' b=some o
theorem aR.upd{c:Addr}{o:HO}:aR c H (upd H c o):=fun b u e n=>by rw[aC n];exact e
theorem aR.trans{c:Addr}{H1:Hp}(a:aR c H H1)(b:aR c H1 H2):aR c H H2:=fun d o e n=>b d o (a d o e n) n
theorem sameBut{c:Addr}{H1:Hp}(a:az H H1)(b:aR c H1 H2):aR c H H2:=fun d o e n=>b d o (a d o e) n
theorem lr{c:Addr}{H1:Hp}(a:az H H1)(hc:H c=none)(b:aR c H1 H2):az H H2:=fun d o e=>b d o (a d o e) (aK e hc)
theorem aR.dP{c:Addr}(h:aR c H H')(hc:H c=some (.lst xs)):eh H H':=fun b ys e=>h b _ e (fun z=>by rw[z,hc] at e;cases e)
theorem iF{c:Bool}{A B:Prop}(q:B)(h:c=false:=by first|rfl|decide):if c=true then A else B:=by
 rw[h];exact iZ q
theorem iT{c:Bool}{A B:Prop}(q:A)(h:c=true:=by first|rfl|decide):if c=true then A else B:=by
 rw[h];exact fm q
inductive Pt where|keep (n:Int)|put (s:Str)|cut (s:Str)
 deriving DecidableEq
def Pt.word:Pt->Str|.keep _=> "keep" |.put _=> "put" |.cut _=> "cut"
def Pt.val:Pt->V|.keep n=>.int n|.put s=>.str s|.cut s=>.str s
def i_(H:Hp)(v:V)(p:Pt):Prop:= ∃a,v=.ref a/\H a=some (.tup [.str p.word,p.val])
abbrev aJ(H:Hp):List V->List Pt->Prop:=Paired (i_ H)
theorem i_.mono{p:Pt}(t:eh H H')(h:i_ H v p):i_ H' v p:=by
 obtain⟨a,e,h⟩:=h;exact⟨a,e,t _ _ h⟩
theorem aJ.mono{H H':Hp}(t:eh H H'):∀{vs:List V}{ps:List Pt},aJ H vs ps->aJ H' vs ps
 |_,_,.nil=>.nil
 |_,_,.cons h r=>.cons (h.mono t) (aJ.mono t r)
theorem aJ.get{H:Hp}:∀{vs:List V}{ps:List Pt}{i:Nat}{v:V},aJ H vs ps->vs[i]?=some v->∃p,ps[i]?=some p/\i_ H v p
 |_,_,i,v,.nil,e=>by simp at e
 |_,_,0,v,.cons h r,e=>by simp at e;subst e;exact⟨_,rfl,h⟩
 |_,_,i+1,v,.cons h r,e=>by
  obtain⟨p,a,b⟩:=aJ.get (i:=i) r (by simpa using e)
  exact⟨p,by simpa using a,b⟩
theorem aJ.snoc{ps:List Pt}{p:Pt}(h:aJ H vs ps)(q:i_ H v p):aJ H (vs++[v]) (ps++[p]):=Paired.snoc h q
theorem aJ.dropLast{H:Hp}:∀{vs:List V}{ps:List Pt},aJ H vs ps->aJ H vs.dropLast ps.dropLast
 |_,_,.nil=>.nil
 |_,_,.cons h .nil=>.nil
 |_,_,.cons h (.cons h2 r)=>.cons h (aJ.dropLast<|.cons h2 r)
def ja:Sp:=fun vs H Q E=>∃i,vs=[.int i]/\Q (.bl true) H
def mH(w a:Str):Bool:=w !=a && !(a=="cut" && w=="put")
def Jr:Sp:=fun vs H Q E=>∃w a,vs=[.str w,.str a]/\Q (.bl<|mH w a) H
theorem WQ{K:Frag}(vs:List V)(H:Hp)(Q:VK)(E:XK)(h:Jr vs H Q E):aB (aM K [] [] (E:=E)) GD {nx:=fun _ H'=>Q .aF H',rt:=Q} (start GC vs) H:=by
 obtain⟨w,a,rfl,q⟩:=h;refine⟨_,rfl,_,rfl,_,rfl,?_⟩;unfold mH at q;refine dC (fun h=>?_)<|fun h=>?_
 ·rw[zaG,fU] at h;have e:(w !=a)=true:=h;rw[e] at q;refine⟨_,rfl,_,rfl,?_⟩;refine dC (fun h2=>?_)<|fun h2=>?_
  ·rw[zaC,fU] at h2;rw[h2] at q;refine⟨_,rfl,?_⟩;show Q (.bl<|!(false ^^ decide (V.str w=V.str "put"))) H;rw[zaC,fU];exact q
  ·rw[zaC,fU] at h2;have e2:(a=="cut")=false:=by simpa using h2
   rw[e2] at q;exact q
 ·rw[zaG,fU] at h;have e:(w !=a)=false:=by simpa using h
  rw[e] at q;exact q
def oF:Pt->Int|.keep n=>n|.put s=>s.length|.cut s=>s.length
def Ap:Pt->Prop|.keep _=>True|.put s=>s.length<=1000000|.cut s=>s.length<=1000000
theorem cY(h:n<=1000000):n<=sizeLine:=zas h (by decide)
theorem dm(h:n<=1000000):n<sizeLine:=Nat.lt_of_le_of_lt h (by decide)
def sQ:Sp:=fun vs H Q E=>∃v p,vs=[v]/\i_ H v p/\Ap p/\Q (.int<|oF p) H
theorem WR{K:Frag}(vs:List V)(H:Hp)(Q:VK)(E:XK)(h:sQ vs H Q E):aB (aM K [] [] (E:=E)) GJ {nx:=fun _ H'=>Q .aF H',rt:=Q} (start GI vs) H:=by
 obtain⟨v,p,rfl,⟨a,rfl,ha⟩,ho,q⟩:=h;refine⟨_,rfl,.inr<|.inl ⟨_,_,_,_,rfl,rfl,aD.of ha,rfl,_,rfl,?_⟩⟩;rw[zaC,fU];cases p with
 |keep n=>exact fm ⟨_,rfl,.inr<|.inl ⟨_,_,_,_,rfl,rfl,aD.of ha,rfl,q⟩⟩
 |put s=>exact iZ ⟨_,rfl,.inr<|.inl ⟨_,_,_,_,rfl,rfl,aD.of ha,rfl,cY ho,q⟩⟩
 |cut s=>exact iZ ⟨_,rfl,.inr<|.inl ⟨_,_,_,_,rfl,rfl,aD.of ha,rfl,cY ho,q⟩⟩
def cell(ns:List Int)(k:Nat):Int:=ns.getD k 0
def qu(K:Frag):Sp:=fun vs H Q E=>∃(a:Addr) (ns:List Int) (k:Int),vs=[.ref a,.int k]/\au K H a (ns.map V.int)/\0<=k/\Q (.int<|cell ns k.toNat) H
theorem WS{K:Frag}(vs:List V)(H:Hp)(Q:VK)(E:XK)(h:qu K vs H Q E):aB (aM K [] [] (E:=E)) GX {nx:=fun _ H'=>Q .aF H',rt:=Q} (start GW vs) H:=by
 obtain⟨a,ns,k,rfl,ha,hk,q⟩:=h;refine⟨_,rfl,_,rfl,.inl ⟨_,ha,trivial,_,rfl,?_⟩⟩;rw[zac];refine dC (fun h=>?_)<|fun h=>?_
 ·have a_:k< (ns.length:Int):=of_decide_eq_true h;refine⟨_,rfl,_,rfl,.inl ⟨_,_,_,_,rfl,rfl,ha,?_,q⟩⟩;have e:=de (xs:=ns.map V.int) (j:=k.toNat) (v:=.int (cell ns k.toNat)) (by
   have:k.toNat<ns.length:=by lia
   simp[cell,this])
  rw[show((k.toNat:Nat):Int)=k by lia] at e
  exact e
 ·have hge:¬k< (ns.length:Int):=fun z=>h (zqT z);have e:cell ns k.toNat=0:=by
   have z:ns[k.toNat]?=none:=List.getElem?_eq_none_iff.mpr (by lia)
   unfold cell;rw[zaP,z];rfl
  rw[e] at q;exact q
theorem Aq:(0:Int) <1000003:=by decide
def mixed(c k:Int):Int:=let n:=(c*48271+7919*k+11) % 1000003;n*n % 1000003*n % 1000003
def Ar:Sp:=fun vs H Q E=>∃c k,vs=[.int c,.int k]/\Q (.int<|mixed c k) H
theorem WT{K:Frag}(vs:List V)(H:Hp)(Q:VK)(E:XK)(h:Ar vs H Q E):aB (aM K [] [] (E:=E)) GZ {nx:=fun _ H'=>Q .aF H',rt:=Q} (start GY vs) H:=by
 obtain⟨c,k,rfl,q⟩:=h;have h0:∀z:Int,0<=z % 1000003/\z % 1000003<1000003:=fun z=>⟨zaA _ (by decide),zaB _ (by decide)⟩
 have h1:=h0 (c*48271+7919*k+11);have h2:=h0 ((c*48271+7919*k+11) % 1000003* ((c*48271+7919*k+11) % 1000003));refine⟨_,rfl,.inr ⟨by decide,by decide⟩,_,rfl,.inl ⟨by decide,by decide⟩,Aq,?_⟩
 refine⟨_,rfl,_,rfl,.inl ⟨by lia,by lia⟩,Aq,_,rfl,.inl ⟨by lia,by lia⟩,Aq,?_⟩
 exact q
theorem WU(c k:Int):0<=mixed c k/\mixed c k<1000003:=⟨zaA _ (by decide),zaB _ (by decide)⟩
def SG:Str:=" !\"#$&'()*+,-./0123456789:;<=>?@ABCDEFGHIJKLMNOPQRSTUVWXYZ[\\]^_`abcdefghijklmnopqrstuvwxyz{|}~\n"
def good(x:Str):Prop:=x.length<=1000000/\∀c∈x.cps.toList,SG.cps.contains c=true
theorem takeWhile_all{α:Type}(p:α->Bool):∀l:List α,(∀c∈l,p c=true)->l.takeWhile p=l
 |[],_=>rfl
 |c::l,h=>by rw[List.takeWhile_cons,h c zau,takeWhile_all p l fun d hd=>h d (zav _ hd)];rfl
theorem WV(x y:Str)(h:∀c∈x.cps.toList,y.cps.contains c=true):Txt.lstripChars x y="":=by
 have e0:stripLo y.cps.contains true x=x.length:=by
  unfold stripLo;rw[if_pos rfl,takeWhile_all _ _ h]
  simp[Str.length]
 have e1:stripHi y.cps.contains false x x.length=x.length:=rfl;unfold Txt.lstripChars Txt.stripBy stripSame stripped;rw[e0,e1]
 split
 ·rename_i hq
  simp only[zae,beq_iff_eq] at hq
  have:x.cps= #[]:=zbI hq.1;obtain⟨c⟩:=x;have e:c= #[]:=this;subst e
  rfl
 ·show(⟨x.cps.extract x.length x.length⟩:Str)=_;have:x.cps.extract x.length x.length= #[]:=by simp[Str.length]
  rw[this];rfl
theorem qv{a:Addr}{T:Ty}{k:Bool->Prop}(h:H a=some (.tup xs))(q:k (T==.tuple)):bJ T (.ref a) H k:=by
 show(match H a with|some (.lst _)=>k (T==.list)|some (.bO _<|.lst _)=>k (T==.list)|some (.tup _)=>k (T==.tuple)|some (.dK _)=>k (T==.dict)|some (.dT _)=>k (T==.dict)|_=>False)
 rw[h];exact q
theorem As{a:Addr}{T:Ty}{k:Bool->Prop}(h:H a=some (.lst xs))(q:k (T==.list)):bJ T (.ref a) H k:=by
 show(match H a with|some (.lst _)=>k (T==.list)|some (.bO _<|.lst _)=>k (T==.list)|some (.tup _)=>k (T==.tuple)|some (.dK _)=>k (T==.dict)|some (.dT _)=>k (T==.dict)|_=>False)
 rw[h];exact q
abbrev gS:List (Str×V):=[("SIGNS",.str SG)]
def WW:Sp:=fun vs H Q E=>∃x,vs=[.str x]/\good x/\Q (.bl true) H
theorem WX{K:Frag}(vs:List V)(H:Hp)(Q:VK)(E:XK)(h:WW vs H Q E):aB (aM K [] gS (E:=E)) z7 {nx:=fun _ H'=>Q .aF H',rt:=Q} (start iE vs) H:=by
 obtain⟨x,rfl,hx,q⟩:=h;refine⟨_,rfl,rfl,_,rfl,fm ⟨_,rfl,rfl,cY hx.1,?_⟩⟩;show Q (.bl<|false ^^ decide (V.str (Txt.lstripChars x SG)=V.str "")) H;rw[WV x SG hx.2,zqT rfl];exact q
def aZ:Pt->Prop|.keep n=>1<=n|.put s=>good s/\s≠"" |.cut s=>good s/\s≠""
def oG(K:Frag):Sp:=fun vs H Q E=>∃w p xs,vs=[.str w,.ref p]/\aD K H p xs/\xs.all hU=true/\Q (.bl<|f_ (.str w) xs) H
theorem WY{K:Frag}(vs:List V)(H:Hp)(Q:VK)(E:XK)(h:oG K vs H Q E):aB (aM K [] [] (E:=E)) z6 {nx:=fun _ H'=>Q .aF H',rt:=Q} (start z5 vs) H:=by
 obtain⟨w,p,xs,rfl,hp,hf,q⟩:=h;exact⟨_,rfl,rfl,_,rfl,fm ⟨_,rfl,_,rfl,p,xs,rfl,.inr hp,rfl,hf,q⟩⟩
def Au:Sp:=fun vs H Q E=>∃v p,vs=[v]/\i_ H v p/\aZ p/\∀H',az H H'->Q (.bl true) H'
def chainOk:Str->List Pt->Bool
 |_,[]=>true
 |a,p::r=>mH p.word a && chainOk p.word r
def oH(a:Str)(ps:List Pt):Nat->Str
 | 0=>a
 |i+1=>match ps[i]? with|some p=>p.word|none=> ""
theorem Js:∀(ps:List Pt) (a:Str) (i:Nat) (p:Pt),chainOk a ps=true->ps[i]?=some p->mH p.word (oH a ps i)=true
 |[],_,_,_,_,h=>by simp at h
 |q::r,a,0,p,h,e=>by
  simp only[chainOk,zae] at h
  simp at e;subst e;exact h.1
 |q::r,a,i+1,p,h,e=>by
  simp only[chainOk,zae] at h
  have e':r[i]?=some p:=by simpa using e
  have ih:=Js r q.word i p h.2 e';cases i with
  |zero=>simpa[oH] using ih
  |succ i=>simpa[oH] using ih
abbrev WZ:List (Str×Sp):=[("is_part",Au),("may_follow",Jr)]
def wx:Sp:=fun vs H Q E=>∃a xs ps,vs=[.ref a]/\H a=some (.lst xs)/\aJ H xs ps/\(∀p∈ps,aZ p)/\chainOk "" ps=true/\∀H',az H H'->Q .aF H'
theorem W0{K:Frag}{et:List (Str×Addr)}(vs:List V)(H:Hp)(Q:VK)(E:XK)(h:wx vs H Q E):aB (aM K WZ [] (et:=et) (E:=E)) GG {nx:=fun _ H'=>Q .aF H',rt:=Q} (start GF vs) H:=by
 obtain⟨a,xs,ps,rfl,ha,bS,aE,bu,q⟩:=h;refine⟨_,rfl,rfl,As ha ⟨_,rfl,a,rfl,⟨_,au.of ha⟩,jT (K:=K) (a:=a) (xs:=xs) (fun i σ H2=>∃v,σ=[some (.ref a),some (.str (oH "" ps i)),v]/\az H H2) ⟨none,rfl,az.refl _⟩
  (fun i σ H2 _ ⟨_,_,s2⟩=>au.of (s2 _ _ ha)) ?_ ?_⟩⟩
 ·rintro i x σ H2 hi ⟨v,rfl,s2⟩;obtain⟨p,hp,eE⟩:=bS.get hi;obtain⟨b,rfl,hb⟩:=eE.mono (bF s2);refine⟨_,rfl,_,p,rfl,⟨b,rfl,hb⟩,aE p<|zar hp,fun H3 s3=>?_⟩;refine⟨_,rfl,.inr<|.inl ⟨_,_,_,_,rfl,rfl,aD.of<|s3 _ _ hb,rfl,_,rfl,p.word,_,rfl,?_⟩⟩;have e:=Js ps "" i p bu hp;show(fun c H1=>if (!c)=true then _ else _) (mH p.word<|oH "" ps i) H3
  rw[e];refine⟨_,rfl,.inr<|.inl ⟨_,_,_,_,rfl,rfl,aD.of<|s3 _ _ hb,rfl,some<|.ref b,?_,s2.trans s3⟩⟩;show[some<|V.ref a,some<|V.str p.word,some<|V.ref b]=_;have e2:oH "" ps (i+1)=p.word:=by simp only[oH,hp]
  rw[e2]
 ·rintro σ H2 ⟨v,rfl,s2⟩;exact q H2 s2
def overOf(ps:List Pt):List Int:=(ps.filter fun p=>decide (p.word≠ ("put":Str))).map oF
def W2(ps:List Pt):List Int:=(ps.filter fun p=>decide (p.word≠ ("cut":Str))).map oF
abbrev Jt:List (Str×Sp):=[("need_change",wx),("part_size",sQ)]
def sR:Sp:=fun vs H Q E=>∃a xs ps,vs=[.ref a]/\H a=some (.lst xs)/\aJ H xs ps/\(∀p∈ps,aZ p)/\chainOk "" ps=true/\ps.length<=1000000/\
 ∀t H',az H H'->H' t=some (.tup [.int (overOf ps).sum,.int (W2 ps).sum])->Q (.ref t) H'
theorem wy{p:Pt}(h:aZ p):Ap p:=by
 cases p with
 |keep n=>trivial
 |put s=>exact h.1.1
 |cut s=>exact h.1.1
theorem W3{α:Type}(p:α->Bool)(l:List α)(i:Nat)(v:α)(h:l[i]?=some v):(l.take<|i+1).filter p=(l.take i).filter p++(if p v then [v] else []):=by
 rw[zby,h,List.filter_append];cases hp:p v<;>simp[hp]
theorem W4{K:Frag}(vs:List V)(H:Hp)(Q:VK)(E:XK)(h:sR vs H Q E):aB (aM K Jt [] (E:=E)) GL {nx:=fun _ H'=>Q .aF H',rt:=Q} (start GK vs) H:=by
 obtain⟨a,xs,ps,rfl,ha,bS,aE,bu,hlen,q⟩:=h;refine⟨_,rfl,a,xs,ps,rfl,ha,bS,aE,bu,fun H1 s1=>?_⟩;have hl:=Paired.length bS;have comp:∀(w:Str) (H1:Hp) (Q1:VK) (σ:St),az H H1->σ[0]?=some (some<|.ref a)->
   (∀b H2,az H H2->H2 b=some (.lst<|((ps.filter fun p=>decide (p.word≠w)).map oF).map V.int)->Q1 (.ref b) H2)->
   ae (aM K Jt [] (E:=E)) (.comp none [] .list [.v 0] (some<|.cmp .NotEq (.ix (.v 0)<|.c<|.int 0)<|.c<|.str w)<|.call 1 [.v 0]) σ H1 Q1:=by
  intro w H1 Q1 σ s1 hσ hq;refine⟨_,hσ,a,rfl,⟨_,au.of<|s1 _ _ ha⟩,fun i m ys H2=>m=xs.length - i/\i<=xs.length/\az H H2/\ys=(((ps.take i).filter fun p=>decide (p.word≠w)).map oF).map V.int,⟨_,rfl,zqZ _,s1,rfl⟩,?_⟩;rintro i m ys H2 ⟨rfl,hi,s2,rfl⟩;by_cases a_:i<xs.length
  ·refine .inr ⟨⟨xs,xs[i],au.of<|s2 _ _ ha,by simp[a_]⟩,?_⟩
   rintro x H3 ⟨rfl,hx⟩;have kN:=hx xs (au.of<|s2 _ _ ha);obtain⟨p,hp,eE⟩:=bS.get kN;obtain⟨b,rfl,hb⟩:=eE.mono (bF s2);refine⟨_,rfl,.inr<|.inl ⟨_,_,_,_,rfl,rfl,aD.of hb,rfl,_,rfl,?_⟩⟩;rw[zaG,fU];have tf:=W3 (fun p=>decide<|p.word≠w) ps i p hp;have hc:((ps.take i).filter fun p=>decide (p.word≠w)).length<=1000000:=zas (List.length_filter_le _ _) (zas (List.length_take_le _ _) (by lia))
   refine dC (fun h=>?_)<|fun h=>?_
   ·have e:decide (p.word≠w)=true:=by simpa using h
    refine⟨_,rfl,_,p,rfl,⟨b,rfl,hb⟩,wy<|aE p<|zar hp,?_,xs.length - (i+1),by lia,rfl,a_,s2,?_⟩
    ·rw[zac,zac];exact dm hc
    ·rw[tf,e];simp
   ·have e:decide (p.word≠w)=false:=by simpa using h
    refine⟨xs.length - (i+1),by lia,rfl,a_,s2,?_⟩
    rw[tf,e];simp
  ·have gT:i=xs.length:=by lia
   subst gT;refine .inl ⟨⟨xs,au.of<|s2 _ _ ha,zqR _⟩,fun p hp=>?_⟩;have e:ps.take xs.length=ps:=zaL (by lia)
   rw[e];exact hq p _ (s2.trans<|sameNew hp) aw
 refine Gv<|Gw<|Gx<|comp "put" H1 _ _ s1 rfl fun b1 H2 s2 e2=>⟨_,au.of e2,?_⟩;refine Gv<|Gw<|Gx<|comp "cut" H2 _ _ s2 rfl fun b2 H3 s3 e3=>⟨_,au.of e3,?_⟩;refine⟨_,rfl,_,rfl,dc,fun t ht=>?_⟩;exact q t _ (s3.trans<|sameNew ht) aw
def cat(ts:List Str):Str:=Txt.join "" ts
def sz(ts:List Str):Nat:=(ts.map Str.length).sum
theorem ofString_empty:(Str.ofString "")=⟨#[]⟩:=rfl
theorem qw(ts:List Str):(cat ts).cps.toList=(ts.map fun t=>t.cps.toList).flatten:=by
 have e:(Str.ofString "").cps= #[]:=rfl;cases ts with
 |nil=>rfl
 |cons t r=>
  show(r.foldl (fun acc p=>acc++(Str.ofString "").cps++p.cps) t.cps).toList=_;rw[e];have go:∀(r:List Str) (acc:Array Nat),(r.foldl (fun acc p=>acc++ #[]++p.cps) acc).toList=acc.toList++(r.map fun t=>t.cps.toList).flatten:=by
   intro r
   induction r with
   |nil=>intro acc;simp
   |cons q r ih=>
    intro acc;show(r.foldl (fun acc p=>acc++ #[]++p.cps)<|acc++ #[]++q.cps).toList=_;rw[ih];simp
  rw[go];simp
theorem gU{x:Str}(h:x.cps.toList=y.cps.toList):x=y:=by
 obtain⟨x⟩:=x;obtain⟨y⟩:=y;exact congrArg Str.mk<|Array.toList_inj.mp h
theorem app_list(x y:Str):(x++y).cps.toList=x.cps.toList++y.cps.toList:=by
 show(x.cps++y.cps).toList=_
 simp
theorem Av(a b:List Str):cat (a++b)=cat a++cat b:=gU (by rw[app_list,qw,qw,qw];simp)
theorem Aw(x:Str):cat [x]=x:=gU (by rw[qw];simp)
theorem len_list(x:Str):x.length=x.cps.toList.length:=by simp[Str.length]
theorem Ax(ts:List Str):(cat ts).length=sz ts:=by
 rw[len_list,qw,List.length_flatten];unfold sz;rw[List.map_map]
 congr 1
theorem Ju(x:Str):x++(Str.ofString "")=x:=gU (by rw[app_list];simp[ofString_empty])
theorem qx(x:Str):(Str.ofString "")++x=x:=gU (by rw[app_list];simp[ofString_empty])
theorem Jv(a b:List Str):sz (a++b)=sz a+sz b:=by simp[sz]
theorem joinOk_of{ts:List Str}(h:sz ts<=1000000):JoinOk "" ts=true:=by
 have go:∀(l:List Str) (n:Nat),l.foldl (· + ·.length+(Str.ofString "").length) n=n+sz l:=by
  intro l
  induction l with
  |nil=>intro n;rfl
  |cons t r ih=>
   intro n;show r.foldl _ (n+t.length+0)=_;rw[ih];show n+t.length+0+sz r=n+(t.length+sz r);lia
 unfold JoinOk;have e:ts.toArray.foldl (· + ·.length+(Str.ofString "").length) 0=sz ts:=by
  rw[List.foldl_toArray,go,Nat.zero_add]
 rw[e];show(!decide (sz ts>sizeLine))=true;rw[zqF (by have:=cY h;lia)]
 rfl
def txt(mk:Str->Pt)(x:Str):List Pt:=if x="" then [] else [mk x]
def c8(ch:List Pt)(cx cK:List Str):List Pt:=ch++txt .put (cat cx)++txt .cut (cat cK)
def Jw:Sp:=fun vs H Q E=>∃c p q xs ps cx cK,vs=[.ref c,.ref p,.ref q]/\H c=some (.lst xs)/\aJ H xs ps/\H p=some (.lst<|cx.map .str)/\H q=some (.lst<|cK.map .str)/\
 sz cx<=1000000/\sz cK<=1000000/\ps.length<=900000/\∀H' fA,aR c H H'->H' c=some (.lst fA)->aJ H' fA (c8 ps cx cK)->Q .aF H'
theorem W_{K:Frag}(vs:List V)(H:Hp)(Q:VK)(E:XK)(h:Jw vs H Q E):aB (aM K [] [] (E:=E)) GQ {nx:=fun _ H'=>Q .aF H',rt:=Q} (start GP vs) H:=by
 obtain⟨c,p,q,xs,ps,cx,cK,rfl,hc,bS,hp,hq,sS,Ay,hl,k⟩:=h;have hlen:=Paired.length bS;refine⟨rfl,_,rfl,cx,au.of hp,joinOk_of sS,?_⟩;refine⟨rfl,_,rfl,cK,au.of hq,joinOk_of Ay,?_⟩;have Jx:∀(i:Nat) (w x:Str) (mk:Str->Pt) (H1:Hp) (iG:List V) (ke:List Pt) (σ:St) (D:Ends),(∀y,(mk y).word=w/\(mk y).val=.str y)->H1 c=some (.lst iG)->aJ H1 iG ke->ke.length<=950000->σ[0]?=some (some<|.ref c)->σ[i]?=some (some<|.str x)->
   (∀H2 wz,aR c H1 H2->H2 c=some (.lst wz)->aJ H2 wz (ke++txt mk x)->D.nx σ H2)->
   cw (aM K [] [] (E:=E)) (.ite (.cmp .NotEq (.v i)<|.c<|.str "") [.drop<|.bz .append (.v 0) [(.tup [(.c<|.str w),.v i])]] []) D σ H1:=by
  intro i w x mk H1 iG ke σ D gh dW qy dD h0 hi kk;have Xa:=Paired.length qy;refine⟨_,hi,_,rfl,?_⟩;rw[zaG,fU];refine dC (fun h=>?_)<|fun h=>?_
  ·have ne:x≠"":=by simpa using h
   refine⟨_,h0,.inl ⟨rfl,_,au.of dW⟩,_,hi,dc,fun t ht=>?_⟩;have sT:c≠t:=aK dW ht;refine⟨iG,(by rw[aC sT];exact dW),dm (by lia),kk _ (iG++[.ref t]) ((sameBut (sameNew ht) aR.upd)) aw ?_⟩
   have tt:eh H1 (upd (upd H1 t<|.tup [.str w,.str x]) c<|.lst<|iG++[.ref t]):=(sameBut (sameNew ht) aR.upd).dP dW;unfold txt;rw[if_neg ne];refine aJ.snoc (qy.mono tt) ⟨t,rfl,?_⟩;rw[aC sT.symm,aw,(gh x).1,(gh x).2]
  ·have e:x="":=by simpa using h
   refine kk H1 iG (fun b o e _=>e) dW ?_;unfold txt;rw[if_pos e,zad];exact qy
 refine Jx 3 "put" (cat cx) .put H xs ps _ _ (fun _=>⟨rfl,rfl⟩) hc bS (by lia) rfl rfl fun H2 wz b2 lZ Xb=>?_
 have l2:(ps++txt .put (cat cx)).length<=950000:=by
  rw[zqA];have:(txt .put<|cat cx).length<=1:=by unfold txt;split<;>simp
  lia
 refine Jx 4 "cut" (cat cK) .cut H2 wz _ _ _ (fun _=>⟨rfl,rfl⟩) lZ Xb l2 rfl rfl fun H3 oI b3 Xd qz=>?_;exact k H3 oI (b2.trans b3) Xd qz
def dF(ch:List Pt)(n:Int):List Pt:=match ch.getLast? with
 |some (.keep m)=>ch.dropLast++[.keep<|n+m]
 |_=>ch++[.keep n]
def Jy:Sp:=fun vs H Q E=>∃c n xs ps,vs=[.ref c,.int n]/\H c=some (.lst xs)/\aJ H xs ps/\ps.length<=900000/\
 ∀H' fA,aR c H H'->H' c=some (.lst fA)->aJ H' fA (dF ps n)->Q .aF H'
theorem aJ.last{ps:List Pt}(h:aJ H xs ps)(hn:xs.length≠0):∃v p,xs[xs.length - 1]?=some v/\fZ xs (-1)=some v/\ps.getLast?=some p/\i_ H v p:=by
 have a_:xs.length - 1<xs.length:=by lia
 obtain⟨p,hp,pv⟩:=h.get (i:=xs.length - 1) (v:=xs[xs.length - 1]) (by simp[a_])
 refine⟨xs[xs.length - 1],p,by simp[a_],?_,?_,pv⟩
 ·unfold fZ gF;have:¬(0:Int)<= -1:=by decide
  rw[if_neg this,if_pos (by lia)]
  have e:((-1:Int)+(xs.length:Int)).toNat=xs.length - 1:=by lia
  show xs[((-1:Int)+(xs.length:Int)).toNat]?=_;rw[e];simp[a_]
 ·rw[List.getLast?_eq_getElem?,<-Paired.length h];exact hp
theorem Xe{K:Frag}(vs:List V)(H:Hp)(Q:VK)(E:XK)(h:Jy vs H Q E):aB (aM K [] [] (E:=E)) GO {nx:=fun _ H'=>Q .aF H',rt:=Q} (start GN vs) H:=by
 obtain⟨c,n,xs,ps,rfl,hc,bS,hl,k⟩:=h;have hlen:=Paired.length bS;have fin:∀(m:Int) (H1:Hp) (iG:List V) (ke:List Pt),aR c H H1->H1 c=some (.lst iG)->aJ H1 iG ke->ke.length<=900000->dF ps n=ke++[.keep m]->
   aB (aM K [] [] (E:=E)) [.drop<|.bz .append (.v 0) [(.tup [(.c<|.str "keep"),.v 1])]] {nx:=fun _ H'=>Q .aF H',rt:=Q} [some<|.ref c,some<|.int m] H1:=by
  intro m H1 iG ke b1 dW qy dD e;have Xa:=Paired.length qy;refine⟨_,rfl,.inl ⟨rfl,_,au.of dW⟩,_,rfl,dc,fun t ht=>?_⟩;have sT:c≠t:=aK dW ht;refine⟨iG,(by rw[aC sT];exact dW),dm (by lia),k _ (iG++[.ref t]) (b1.trans<|sameBut (sameNew ht) aR.upd) aw ?_⟩
  rw[e];refine aJ.snoc (qy.mono<|(sameBut (sameNew ht) aR.upd).dP dW) ⟨t,rfl,?_⟩;rw[aC sT.symm,aw];rfl
 refine⟨_,rfl,.inl ⟨_,au.of hc,trivial,_,rfl,?_⟩⟩;refine dC (fun h=>?_)<|fun h=>?_
 ·have hn:xs.length≠0:=by
   have:=of_decide_eq_true h;lia
  obtain⟨v,p,e1,e2,e3,a,rfl,ha⟩:=bS.last hn;refine⟨_,rfl,.inl ⟨_,_,_,_,rfl,rfl,au.of hc,e2,.inr<|.inl ⟨_,_,_,_,rfl,rfl,aD.of ha,rfl,_,rfl,?_⟩⟩⟩;rw[zaC,fU];cases p with
  |keep m=>
   have qA:upd H c (.lst xs.dropLast) a=some (.tup [.str "keep",.int m]):=by rw[aC<|cb ha hc (by intro z;cases z)];exact ha
   refine⟨_,rfl,_,rfl,.inl ⟨rfl,_,au.of hc⟩,xs,_,hc,e1,.inr<|.inl ⟨_,_,_,_,rfl,rfl,aD.of qA,rfl,?_⟩⟩
   ·refine fin (n+m) _ xs.dropLast ps.dropLast aR.upd aw (bS.dropLast.mono<|aR.upd.dP hc) (by rw[zbG];lia) ?_
    unfold dF;rw[e3]
  |put s=>exact fin n H xs ps (fun b o e _=>e) hc bS hl (by unfold dF;rw[e3])
  |cut s=>exact fin n H xs ps (fun b o e _=>e) hc bS hl (by unfold dF;rw[e3])
 ·have e0:ps=[]:=by
   have:¬(0:Int) < (xs.length:Int):=fun z=>h (zqT z);exact zaH.mp (by lia)
  exact fin n H xs ps (fun b o e _=>e) hc bS hl (by rw[e0];rfl)
abbrev NS:=List Pt×List Str×List Str
def cZ:NS->Pt->NS
 |(ch,p,c),.put s=>(ch,p++[s],c)
 |(ch,p,c),.cut s=>(ch,p,c++[s])
 |(ch,p,c),.keep n=>if 0<n then (dF (c8 ch p c) n,[],[]) else (ch,p,c)
def jb(ps:List Pt):List Pt:=let s:=ps.foldl cZ ([],[],[]);c8 s.1 s.2.1 s.2.2
def bY:Pt->Nat|.keep _=>0|.put s=>s.length|.cut s=>s.length
def aA(ps:List Pt):Nat:=(ps.map bY).sum
theorem Az(ps:List Pt)(i:Nat):aA (ps.take i)<=aA ps:=by
 have:aA ps=aA (ps.take i)+aA (ps.drop i):=by
  unfold aA;rw[<-zbz,<-zak,zbf]
 lia
theorem Jz{ps:List Pt}{p:Pt}(h:ps[i]?=some p):aA (ps.take<|i+1)=aA (ps.take i)+bY p:=by
 rw[zby,h]
 simp[aA]
theorem JA{α β:Type}{f:β->α->β}{b:β}{l:List α}{i:Nat}{p:α}(h:l[i]?=some p):(l.take<|i+1).foldl f b=f ((l.take i).foldl f b) p:=by
 rw[zby,h,List.foldl_append]
 rfl
theorem JB(mk:Str->Pt)(x:Str):(txt mk x).length<=1:=by unfold txt;split<;>simp
theorem wA(ch:List Pt)(p c:List Str):(c8 ch p c).length<=ch.length+2:=by
 unfold c8;have:=JB .put (cat p);have:=JB .cut (cat c)
 simp only[zqA]
 lia
theorem JC(ch:List Pt)(n:Int):(dF ch n).length<=ch.length+1:=by
 unfold dF
 split
 ·simp only[zqA,zbG,zbm];lia
 ·simp
abbrev Xf:List (Str×Sp):=[("add_texts",Jw),("add_keep",Jy)]
def wB:Sp:=fun vs H Q E=>∃a xs ps,vs=[.ref a]/\H a=some (.lst xs)/\aJ H xs ps/\ps.length<=100000/\aA ps<=100000/\
 ∀b H' ys,az H H'->H b=none->H' b=some (.lst ys)->aJ H' ys (jb ps)->Q (.ref b) H'
theorem Xg{K:Frag}(vs:List V)(H:Hp)(Q:VK)(E:XK)(h:wB vs H Q E):aB (aM K Xf [] (E:=E)) GS {nx:=fun _ H'=>Q .aF H',rt:=Q} (start GR vs) H:=by
 obtain⟨a,xs,ps,rfl,ha,bS,hl,ht,k⟩:=h;have hlen:=Paired.length bS;refine⟨zqZ _,fun c hc=>⟨zqZ _,fun p0 sU=>⟨zqZ _,fun q0 qB=>?_⟩⟩⟩;have AA:c≠p0:=fun z=>by rw[<-z,aw] at sU;cases sU
 have JD:c≠q0:=fun z=>by rw[<-z,aC AA,aw] at qB;cases qB
 have JE:p0≠q0:=fun z=>by rw[<-z,aw] at qB;cases qB
 have s0:az H (upd (upd (upd H c<|.lst []) p0<|.lst []) q0<|.lst []):=(sameNew hc).trans ((sameNew sU).trans<|sameNew qB);have Xh:H p0=none:=(sameNew hc).free sU;have Xi:H q0=none:=((sameNew hc).trans<|sameNew sU).free qB;refine⟨_,rfl,a,rfl,⟨_,au.of (s0 _ _ ha)⟩,jT (K:=K) (a:=a) (xs:=xs) (fun i σ H2=>∃p q ch cx cK lu w x,σ=[some (.ref a),some (.ref c),some (.ref p),some (.ref q),w,x]/\H p=none/\H q=none/\p≠c/\q≠c/\p≠q/\az H H2/\
   H2 c=some (.lst lu)/\aJ H2 lu ch/\H2 p=some (.lst (cx.map .str))/\H2 q=some (.lst (cK.map .str))/\(ps.take i).foldl cZ ([],[],[])=(ch,cx,cK)/\ch.length<=3*i/\cx.length<=i/\cK.length<=i/\sz cx+sz cK<=aA (ps.take i))
  ⟨p0,q0,[],[],[],[],none,none,rfl,Xh,Xi,AA.symm,JD.symm,JE,s0,(by rw[aC JD,aC AA,aw]),.nil,(by rw[aC JE,aw];rfl),aw,rfl,by simp,by simp,by simp,by simp[sz]⟩
  (fun i σ H2 _ ⟨_,_,_,_,_,_,_,_,_,_,_,_,_,_,s2,_⟩=>au.of (s2 _ _ ha)) ?_ ?_⟩
 ·rintro i x σ H2 hi ⟨p,q,ch,cx,cK,lu,w,x',rfl,fp,fq,pc,qc,pq,s2,qC,bu,mI,mJ,ef,l1,l2,l3,l4⟩;obtain⟨pt,gV,eE⟩:=bS.get hi;obtain⟨b,rfl,hb⟩:=eE.mono (bF s2);have eT:i<ps.length:=(zap.mp gV).1;have mK:(ps.take<|i+1).foldl cZ ([],[],[])=cZ (ch,cx,cK) pt:=by rw[JA gV,ef]
  have et:=Jz gV;have tb:=Az ps i;refine⟨b,_,rfl,.inl<|aD.of hb,rfl,_,_,rfl,_,_,rfl,rfl,?_⟩;cases pt with
  |put s=>
   refine⟨_,rfl,_,rfl,_,rfl,.inl ⟨rfl,_,au.of mI⟩,_,rfl,_,mI,dm (by rw[zac];lia),?_⟩
   have bt:aR p H2 (upd H2 p<|.lst<|cx.map V.str++[.str s]):=aR.upd;refine⟨p,q,ch,cx++[s],cK,lu,_,_,rfl,fp,fq,pc,qc,pq,lr s2 fp bt,bt _ _ qC pc.symm,bu.mono<|bt.dP mI,(by rw[aw,zak];rfl),bt _ _ mJ pq.symm,mK,by lia,by simp;lia,by lia,?_⟩
   rw[Jv,et];show sz cx+(s.length+0)+sz cK<=aA (ps.take i)+s.length;lia
  |cut s=>
   refine⟨_,rfl,_,rfl,_,rfl,_,rfl,_,rfl,.inl ⟨rfl,_,au.of mJ⟩,_,rfl,_,mJ,dm (by rw[zac];lia),?_⟩
   have bt:aR q H2 (upd H2 q<|.lst<|cK.map V.str++[.str s]):=aR.upd;refine⟨p,q,ch,cx,cK++[s],lu,_,_,rfl,fp,fq,pc,qc,pq,lr s2 fq bt,bt _ _ qC qc.symm,bu.mono<|bt.dP mJ,bt _ _ mI pq,(by rw[aw,zak];rfl),mK,by lia,by lia,by simp;lia,?_⟩
   rw[Jv,et];show sz cx+(sz cK+(s.length+0))<=aA (ps.take i)+s.length;lia
  |keep n=>
   refine⟨_,rfl,_,rfl,_,rfl,_,rfl,_,rfl,trivial,_,rfl,?_⟩;refine dC (fun h=>?_)<|fun h=>?_
   ·have hn:0<n:=of_decide_eq_true h;have e2:cZ (ch,cx,cK) (.keep n)=(dF (c8 ch cx cK) n,[],[]):=if_pos hn;refine⟨_,rfl,_,rfl,_,rfl,c,p,q,lu,ch,cx,cK,rfl,qC,bu,mI,mJ,by lia,by lia,by lia,fun H3 oI b3 wC AB=>?_⟩
    have s3:az H H3:=lr s2 hc b3;refine⟨zqZ _,fun p1 fF=>⟨zqZ _,fun q1 sW=>?_⟩⟩;have AD:c≠p1:=aK wC fF;have JF:upd H3 p1 (.lst []) c=some (.lst oI):=by rw[aC AD];exact wC
    have AE:c≠q1:=aK JF sW;have JG:p1≠q1:=fun z=>by rw[<-z,aw] at sW;cases sW
    have Xj:upd (upd H3 p1<|.lst []) q1 (.lst []) c=some (.lst oI):=by rw[aC AE];exact JF
    have s5:az H3 (upd (upd H3 p1<|.lst []) q1<|.lst []):=(sameNew fF).trans (sameNew sW);refine⟨_,rfl,_,rfl,c,n,oI,_,rfl,Xj,AB.mono<|bF s5,?_,fun H6 Xk b6 jy wD=>?_⟩
    ·have:=wA ch cx cK;lia
    ·refine⟨p1,q1,_,[],[],Xk,_,_,rfl,s3.free fF,(s3.trans<|sameNew fF).free sW,AD.symm,AE.symm,JG,lr (s3.trans s5) hc b6,jy,wD,b6 _ _ (by rw[aC JG,aw];rfl) AD.symm,b6 _ _ (by rw[aw];rfl) AE.symm,mK.trans e2,?_,by simp,by simp,by simp[sz]⟩
     have:=wA ch cx cK;have:=JC (c8 ch cx cK) n;lia
   ·have hn:¬0<n:=fun z=>h (zqT z);have e2:cZ (ch,cx,cK) (.keep n)=(ch,cx,cK):=if_neg hn;refine⟨p,q,ch,cx,cK,lu,_,_,rfl,fp,fq,pc,qc,pq,s2,qC,bu,mI,mJ,mK.trans e2,by lia,by lia,by lia,by lia⟩
 ·rintro σ H2 ⟨p,q,ch,cx,cK,lu,w,x',rfl,fp,fq,pc,qc,pq,s2,qC,bu,mI,mJ,ef,l1,l2,l3,l4⟩;have e:ps.take xs.length=ps:=zaL (by lia)
  rw[e] at ef l4;refine⟨_,rfl,_,rfl,_,rfl,c,p,q,lu,ch,cx,cK,rfl,qC,bu,mI,mJ,by lia,by lia,by lia,fun H3 oI b3 wC AB=>?_⟩
  refine⟨_,rfl,k c H3 oI (lr s2 hc b3) hc wC ?_⟩;unfold jb;rw[ef];exact AB
def A1:Str:=" !\"#$&'()*+,-./0123456789:;<=>?@ABCDEFGHIJKLMNOPQRSTUVWXYZ[\\]^_`"
def A2:Str:="abcdefghijklmnopqrstuvwxyz{|}~\n"
def A3:Str:="ab\n"
def wF(al:Str):Prop:=0<al.length/\al.length<=1000/\∀c∈al.cps.toList,SG.cps.contains c=true
theorem JH{al:Str}(h:(decide (0<al.length) && decide (al.length<=1000) && al.cps.toList.all fun c=>SG.cps.contains c)=true):wF al:=by
 simp only[zae,decide_eq_true_eq,zbp] at h
 exact⟨h.1.1,h.1.2,h.2⟩
theorem Xl:wF (A1++A2):=JH (by decide+kernel)
theorem Xm:wF A3:=JH (by decide+kernel)
theorem Xn:A1.length+A2.length<=sizeLine:=by decide+kernel
abbrev JI:List (Str×Sp):=[("_law_mixed",Ar)]
def wG:Sp:=fun vs H Q E=>∃c n,vs=[.int c,.int n]/\0<=n/\n<=1000/\∀x H',good x->x.length=n.toNat->az H H'->Q (.str x) H'
def AF(t:Str):Prop:=t.length=1/\∀c∈t.cps.toList,SG.cps.contains c=true
theorem wH:∀(ts:List Str),(∀t∈ts,AF t)->sz ts=ts.length
 |[],_=>rfl
 |t::r,h=>by
  show t.length+sz r=r.length+1;rw[(h t zau).1,wH r fun q hq=>h q (zav _ hq)];lia
theorem Xo{ts:List Str}(h:∀t∈ts,AF t)(hl:ts.length<=1000):good (cat ts):=by
 refine⟨by rw[Ax,wH ts h];lia,fun c hc=>?_⟩
 rw[qw,zbA] at hc;obtain⟨l,hl,hc⟩:=hc;obtain⟨t,ht,rfl⟩:=zaN.mp hl;exact(h t ht).2 c hc
theorem Xp{K:Frag}(vs:List V)(H:Hp)(Q:VK)(E:XK)(h:wG vs H Q E):aB (aM K JI [] (E:=E)) G1 {nx:=fun _ H'=>Q .aF H',rt:=Q} (start G0 vs) H:=by
 obtain⟨c,n,rfl,sX,gb,k⟩:=h;have fin:∀(al:Str),wF al->aB (aM K JI [] (E:=E)) [.ret<|.bz .join (.c<|.str "") [(.comp none [("_law_some",2),("_law_cell",0)] .dz [.v 1] none<|.ix (.v 1)<|.bin .Mod (.bin .FloorDiv (.call 0 [.v 2,.v 0])<|.c<|.int 7)<|.blt .len [.v 1])]]
   {nx:=fun _ H'=>Q .aF H',rt:=Q} [some<|.int c,some<|.int n,some<|.str al] H:=by
  intro al ho;refine⟨rfl,_,rfl,n,rfl,by lia,by lia,fun i m ys H2=>m=n.toNat - i/\i<=n.toNat/\H2=H/\∃ts:List Str,ys=ts.map V.str/\ts.length=i/\∀t∈ts,AF t,⟨_,rfl,zqZ _,rfl,[],rfl,rfl,fun t ht=>by cases ht⟩,?_⟩
  rintro i m ys H2 ⟨rfl,hi,rfl,ts,rfl,hl,wI⟩;by_cases a_:i<n.toNat
  ·refine .inr ⟨a_,?_⟩;rintro x H3 ⟨rfl,rfl⟩;refine⟨_,rfl,_,rfl,_,rfl,_,_,rfl,⟨by decide,by decide⟩,_,rfl,cY (by have:=ho.2.1;lia),(by show(0:Int) < (al.length:Int);have:=ho.1;lia),?_⟩
   have hm:=WU c (0+(i:Int));have Xq:0<=mixed c (0+(i:Int)) / 7 % (al.length:Int):=zaA _ (by have:=ho.1;lia)
   have Xr:mixed c (0+(i:Int)) / 7 % (al.length:Int) < (al.length:Int):=zaB _ (by have:=ho.1;lia)
   obtain⟨j,ej⟩:∃j,j=mixed c (0+(i:Int)) / 7 % (al.length:Int):=⟨_,rfl⟩;rw[<-ej] at Xq Xr;have mL:j.toNat<al.cps.toList.length:=by rw[<-len_list];lia
   refine .inr<|.inr<|.inl ⟨al,j,al.cps.toList[j.toNat],rfl,(by rw[ej]),cY (by have:=ho.2.1;lia),?_,?_,n.toNat - (i+1),by lia,rfl,a_,rfl,ts++[⟨#[al.cps.toList[j.toNat]]⟩],(by rw[zak];rfl),by simp[hl],?_⟩
   ·have e:=de (xs:=al.cps.toList) (j:=j.toNat) (v:=al.cps.toList[j.toNat]) (by simp[mL])
    rw[show((j.toNat:Nat):Int)=j by lia] at e
    exact e
   ·rw[zac];exact dm (by lia)
   ·intro t ht;rcases zaf.mp ht with z|z
    ·exact wI t z
    ·rw[zag.mp z];refine⟨rfl,fun d hd=>?_⟩;have:d=al.cps.toList[j.toNat]:=by simpa using hd
     rw[this];exact ho.2.2 _<|List.getElem_mem mL
  ·have gT:i=n.toNat:=by lia
   refine .inl ⟨by show n.toNat<=i;lia,fun p hp=>?_⟩
   refine⟨ts,au.of aw,joinOk_of (by rw[wH ts wI];lia),?_⟩
   exact k (cat ts) _ (Xo wI (by lia)) (by rw[Ax,wH ts wI,hl,gT])<|sameNew hp
 refine⟨_,rfl,Xn,_,rfl,(by show(0:Int) <3;decide),_,rfl,?_⟩
 refine dC (fun h=>?_)<|fun h=>?_
 ·exact fin A3 Xm
 ·exact fin (A1++A2) Xl
def eF:Pt->Prop|.keep n=>0<=n|.put s=>good s/\s.length<=100000|.cut s=>good s/\s.length<=100000
abbrev Row:=Str×Str×Int
def jz(r:Row):List V:=[.str r.1,.str r.2.1,.int r.2.2]
def JJ(H:Hp)(v:V)(r:Row):Prop:= ∃b,v=.ref b/\H b=some (.lst<|jz r)
abbrev lA(H:Hp):List V->List Row->Prop:=Paired (JJ H)
theorem lA.mono{H H':Hp}:∀{vs:List V}{ps:List Row},lA H vs ps->(∀v∈vs,∀b,v=.ref b->∀o,H b=some o->H' b=some o)->lA H' vs ps
 |_,_,.nil,_=>.nil
 |_,_,.cons ⟨b,e,h⟩ r,k=>.cons ⟨b,e,k _ zau b e _ h⟩ (lA.mono r fun v hv=>k v (zav _ hv))
theorem lA.get{H:Hp}:∀{vs:List V}{ps:List Row}{i:Nat}{v:V},lA H vs ps->vs[i]?=some v->∃p,ps[i]?=some p/\JJ H v p
 |_,_,i,v,.nil,e=>by simp at e
 |_,_,0,v,.cons h r,e=>by simp at e;subst e;exact⟨_,rfl,h⟩
 |_,_,i+1,v,.cons h r,e=>by
  obtain⟨p,a,b⟩:=lA.get (i:=i) r (by simpa using e)
  exact⟨p,by simpa using a,b⟩
def bf:List Row×Row->Pt->List Row×Row
 |(pre,r),.keep n=>(pre,(r.1,r.2.1,r.2.2+n))
 |(pre,r),.put s=>if s="" then (pre,r) else if 0<r.2.2 then (pre++[r],(Str.ofString ""++s,"",0)) else (pre,(r.1++s,r.2.1,r.2.2))
 |(pre,r),.cut s=>if s="" then (pre,r) else if 0<r.2.2 then (pre++[r],("",Str.ofString ""++s,0)) else (pre,(r.1,r.2.1++s,r.2.2))
def dG(r:Row):List Pt:=txt .put r.1++txt .cut r.2.1++(if r.2.2=0 then [] else [.keep r.2.2])
def cy(rows:List Row):List Pt:=(rows.map dG).flatten
def qD(ps:List Pt):List Row:=let s:=ps.foldl bf ([],("","",0));s.1++[s.2]
def ig(ps:List Pt):List Pt:=cy (qD ps)
structure jc (H H2:Hp) (R:Addr) (rs:List V) (b:Addr) (pre:List Row) (r:Row):Prop where
 same:az H H2
 lst:H2 R=some (.lst<|rs++[.ref b])
 fr:H R=none
 rows:lA H2 rs pre
 last:H2 b=some (.lst<|jz r)
 fb:H b=none
 bx:∀v∈rs,∀x,v=.ref x->H x=none/\x≠b/\x≠R
 ne:b≠R
theorem sY(xs:List V)(v:V):fZ (xs++[v]) (-1)=some v:=pR xs v
theorem jc.set{R b:Addr}{rs:List V}{pre:List Row}{r r':Row}(S:jc H H2 R rs b pre r):jc H (upd H2 b<|.lst<|jz r') R rs b pre r' where
 same:=lr S.same S.fb aR.upd
 lst:=by rw[aC S.ne.symm];exact S.lst
 fr:=S.fr
 rows:=S.rows.mono fun v hv x e o h=>by rw[aC (S.bx v hv x e).2.1];exact h
 last:=aw
 fb:=S.fb
 bx:=S.bx
 ne:=S.ne
theorem jc.grow{R b t:Addr}{rs:List V}{pre:List Row}{r r':Row}(S:jc H H2 R rs b pre r)(ht:H2 t=none):
  jc H (upd (upd H2 t<|.lst<|jz r') R<|.lst<|rs++[.ref b]++[.ref t]) R (rs++[.ref b]) t (pre++[r]) r':=by
 have wJ:t≠R:=fun z=>by rw[z,S.lst] at ht;cases ht
 have kf:b≠t:=aK S.last ht;have kk:∀x o,H2 x=some o->x≠R->upd (upd H2 t<|.lst<|jz r') R (.lst<|rs++[.ref b]++[.ref t]) x=some o:=fun x o e n=>by rw[aC n,aC<|aK e ht];exact e
 exact {
  same:=fun x o e=>kk x o (S.same x o e) (aK e S.fr)
  lst:=aw
  fr:=S.fr
  rows:=Paired.snoc (S.rows.mono fun v hv x e o h=>kk x o h (S.bx v hv x e).2.2) ⟨b,rfl,kk b _ S.last S.ne⟩
  last:=by rw[aC wJ,aw]
  fb:=S.same.free ht
  bx:=fun v hv x e=>by
   rcases zaf.mp hv with z|z
   ·obtain⟨h1,h2,h3⟩:=S.bx v z x e;refine⟨h1,fun q=>?_,h3⟩;obtain⟨i,hi⟩:=List.getElem?_of_mem z;obtain⟨p,_,y,e',hy⟩:=S.rows.get hi;rw[e] at e';cases e';rw[q,ht] at hy;cases hy
   ·rw[zag.mp z] at e;cases e;exact⟨S.fb,kf,S.ne⟩
  ne:=wJ}
abbrev Dn(Q:VK):Ends:={nx:=fun _ H'=>Q .aF H',rt:=Q}
abbrev c9(sp:Sp)(Γ:XK->bo)(b:List RS)(N:List Str):Prop:= ∀vs H Q E,sp vs H Q E->aB (Γ E) b (Dn Q) (start N vs) H
def sZ:Sp:=fun vs H Q E=>∃a xs ps,vs=[.ref a]/\H a=some (.lst xs)/\aJ H xs ps/\ps.length<=100000/\aA ps<=100000/\
 ∀b H' ys,az H H'->H b=none->H' b=some (.lst ys)->aJ H' ys (ig ps)->Q (.ref b) H'
theorem wK{K:Frag}{R b:Addr}{rs:List V}{pre:List Row}{r r':Row}{a:Addr}{w s:Str}{x4 x5 x6 x7 x8:Option V}(S:jc H H2 R rs b pre r)(i:Nat)(hi:i<2)
  (hw:(if (w=="cut")=true then 1 else 0:Int)=(i:Int)) (o:Str) (ho:(jz r)[i]?=some (.str o)) (hr:(jz r).set i (.str<|o++s)=jz r') (hs:o.length+s.length<=sizeLine)
  (k:∀H3,jc H H3 R rs b pre r'->D.nx [some<|.ref a,some<|.ref R,some<|.str w,some<|.str s,x4,x5,x6,x7,x8] H3):
  cw (aM K [] [] (E:=E)) (.set (.ix (.v 1)<|.neg<|.c<|.int 1) (.blt .int [(.cmp .Eq (.v 2)<|.c<|.str "cut")])<|.bin .Add (.ix (.ix (.v 1)<|.neg<|.c<|.int 1)<|.blt .int [(.cmp .Eq (.v 2)<|.c<|.str "cut")])<|.v 3) D
   [some<|.ref a,some<|.ref R,some<|.str w,some<|.str s,x4,x5,x6,x7,x8] H2:=by
 have lb:au K H2 b (jz r):=au.of S.last;have ei:(if (false ^^ decide (V.str w=V.str "cut"))=true then 1 else 0:Int)=(i:Int):=by rw[zaC,fU];exact hw
 refine⟨_,rfl,.inl ⟨_,_,_,_,rfl,rfl,au.of S.lst,sY _ _,_,rfl,?_⟩⟩;show ma K (aM K [] [] (E:=E)).sd (.ref b) (.int (if (false ^^ decide (V.str w=V.str "cut"))=true then 1 else 0)) H2 _
 rw[ei];refine .inl ⟨b,_,_,_,rfl,rfl,lb,de ho,_,rfl,hs,_,rfl,.inl ⟨_,_,_,_,rfl,rfl,au.of S.lst,sY _ _,_,rfl,?_⟩⟩;show vz (.ref b) (.int (if (false ^^ decide (V.str w=V.str "cut"))=true then 1 else 0)) (.str<|o++s) H2 _
 rw[ei];refine⟨b,jz r,(i:Int),i,rfl,rfl,S.last,?_,?_⟩
 ·unfold gF;rw[if_pos (by lia),if_pos (by show(i:Int) < ((3:Nat):Int);lia)]
  simp
 ·rw[hr];exact k _ S.set
theorem Xs{rows:List Row}{r:Row}(h:rows[i]?=some r):cy (rows.take<|i+1)=cy (rows.take i)++dG r:=by
 unfold cy;rw[zby,h]
 simp
theorem JK{K:Frag}{R b:Addr}{rs:List V}{pre:List Row}{r:Row}{a:Addr}{w s:Str}{x4 x5 x6 x7 x8:Option V}(S:jc H H2 R rs b pre r)(p:Pt)(hp:(p=.put s/\w="put")\/(p=.cut s/\w="cut"))
  (hs:s.length<=100000) (h1:r.1.length<=100000) (h2:r.2.1.length<=100000) (hn:rs.length<=100000)
  (k:∀H3 qE b',jc H H3 R qE b' (bf (pre,r) p).1 (bf (pre,r) p).2->qE.length<=rs.length+1->D.nx [some<|.ref a,some<|.ref R,some<|.str w,some<|.str s,x4,x5,x6,x7,x8] H3):
  aB (aM K [] [] (E:=E)) [.ite (.cmp .NotEq (.v 3) (.c (.str ""))) [.ite (.cmp .Gt (.ix (.ix (.v 1) (.neg (.c (.int 1)))) (.c (.int 2))) (.c (.int 0))) [.drop (.bz .append (.v 1) [(.lst [(.c (.str "")),(.c (.str "")),(.c (.int 0))])])] [],
    .set (.ix (.v 1) (.neg (.c (.int 1)))) (.blt .int [(.cmp .Eq (.v 2) (.c (.str "cut")))]) (.bin .Add (.ix (.ix (.v 1) (.neg (.c (.int 1)))) (.blt .int [(.cmp .Eq (.v 2) (.c (.str "cut")))])) (.v 3))] []] D
   [some<|.ref a,some<|.ref R,some<|.str w,some<|.str s,x4,x5,x6,x7,x8] H2:=by
 refine⟨_,rfl,_,rfl,?_⟩;rw[zaG,fU];refine dC (fun h=>?_)<|fun h=>?_
 ·have ne:s≠"":=by simpa using h
  refine⟨_,rfl,.inl ⟨_,_,_,_,rfl,rfl,au.of S.lst,sY _ _,.inl ⟨_,_,_,_,rfl,rfl,au.of S.last,rfl,trivial,_,rfl,?_⟩⟩⟩;have line:∀n:Nat,n<=100000->n+s.length<=sizeLine:=fun n hn=>cY (by lia)
  have e0:(Str.ofString "").length=0:=rfl;refine dC (fun h=>?_)<|fun h=>?_
  ·have hk:0<r.2.2:=of_decide_eq_true h;refine⟨_,rfl,.inl ⟨rfl,_,au.of S.lst⟩,pI,fun t ht=>?_⟩;have wJ:R≠t:=aK S.lst ht;refine⟨_,(by rw[aC wJ];exact S.lst),dm (by rw[zqA,zbm];lia),?_⟩
   have S':=S.grow (r':=((Str.ofString "",Str.ofString "",0):Row)) ht;rcases hp with⟨rfl,rfl⟩|⟨rfl,rfl⟩
   ·have es:bf (pre,r) (.put s)=(pre++[r],((Str.ofString ""++s,Str.ofString "",0):Row)):=by show(if s="" then _ else if 0<r.2.2 then _ else _)=_;rw[if_neg ne,if_pos hk]
    rw[es] at k;exact wK S' 0 (by lia) rfl "" rfl rfl (line _ (by rw[e0];lia)) fun H3 S3=>k H3 _ t S3 (by simp)
   ·have es:bf (pre,r) (.cut s)=(pre++[r],((Str.ofString "",Str.ofString ""++s,0):Row)):=by show(if s="" then _ else if 0<r.2.2 then _ else _)=_;rw[if_neg ne,if_pos hk]
    rw[es] at k;exact wK S' 1 (by lia) rfl "" rfl rfl (line _ (by rw[e0];lia)) fun H3 S3=>k H3 _ t S3 (by simp)
  ·have hk:¬0<r.2.2:=fun z=>h (zqT z);rcases hp with⟨rfl,rfl⟩|⟨rfl,rfl⟩
   ·have es:bf (pre,r) (.put s)=(pre,(r.1++s,r.2.1,r.2.2)):=by show(if s="" then _ else if 0<r.2.2 then _ else _)=_;rw[if_neg ne,if_neg hk]
    rw[es] at k;exact wK S 0 (by lia) rfl r.1 rfl rfl (line _ h1) fun H3 S3=>k H3 _ b S3 (by lia)
   ·have es:bf (pre,r) (.cut s)=(pre,(r.1,r.2.1++s,r.2.2)):=by show(if s="" then _ else if 0<r.2.2 then _ else _)=_;rw[if_neg ne,if_neg hk]
    rw[es] at k;exact wK S 1 (by lia) rfl r.2.1 rfl rfl (line _ h2) fun H3 S3=>k H3 _ b S3 (by lia)
 ·have e:s="":=by simpa using h
  have es:bf (pre,r) p=(pre,r):=by
   rcases hp with⟨rfl,rfl⟩|⟨rfl,rfl⟩
   ·show(if s="" then _ else _)=_;rw[if_pos e]
   ·show(if s="" then _ else _)=_;rw[if_pos e]
  rw[es] at k;exact k H2 rs b S (by lia)
theorem jA(x y:Str):(x++y).length=x.length+y.length:=by rw[len_list,app_list,zqA,<-len_list,<-len_list]
theorem Xt(pre:List Row)(r:Row)(p:Pt)(n:Nat)(h1:r.1.length<=n)(h2:r.2.1.length<=n):(bf (pre,r) p).2.1.length<=n+bY p/\(bf (pre,r) p).2.2.1.length<=n+bY p:=by
 have e0:(Str.ofString "").length=0:=rfl;cases p with
 |keep m=>exact⟨by show r.1.length<=n+0;lia,by show r.2.1.length<=n+0;lia⟩
 |put s=>
  show(if s="" then (pre,r) else if 0<r.2.2 then (pre++[r],((Str.ofString ""++s,Str.ofString "",0):Row)) else (pre,(r.1++s,r.2.1,r.2.2))).2.1.length<=n+s.length/\
   (if s="" then (pre,r) else if 0<r.2.2 then (pre++[r],((Str.ofString ""++s,Str.ofString "",0):Row)) else (pre,(r.1++s,r.2.1,r.2.2))).2.2.1.length<=n+s.length
  split
  ·exact⟨by show r.1.length<=_;lia,by show r.2.1.length<=_;lia⟩
  ·split
   ·exact⟨by show(Str.ofString ""++s).length<=_;rw[jA,e0];lia,by show(Str.ofString "").length<=_;rw[e0];lia⟩
   ·exact⟨by show(r.1++s).length<=_;rw[jA];lia,by show r.2.1.length<=_;lia⟩
 |cut s=>
  show(if s="" then (pre,r) else if 0<r.2.2 then (pre++[r],((Str.ofString "",Str.ofString ""++s,0):Row)) else (pre,(r.1,r.2.1++s,r.2.2))).2.1.length<=n+s.length/\
   (if s="" then (pre,r) else if 0<r.2.2 then (pre++[r],((Str.ofString "",Str.ofString ""++s,0):Row)) else (pre,(r.1,r.2.1++s,r.2.2))).2.2.1.length<=n+s.length
  split
  ·exact⟨by show r.1.length<=_;lia,by show r.2.1.length<=_;lia⟩
  ·split
   ·exact⟨by show(Str.ofString "").length<=_;rw[e0];lia,by show(Str.ofString ""++s).length<=_;rw[jA,e0];lia⟩
   ·exact⟨by show r.1.length<=_;lia,by show(r.2.1++s).length<=_;rw[jA];lia⟩
theorem JL{op:CmpOp}{x:V}(h:cO Γ.K op x v H Q):ae Γ (.c v) σ H fun y H2=>cO Γ.K op x y H2 Q:=h
theorem JM{K:Frag}{x y:V}(hs:jU x y=true)(q:Q (.bl<|true ^^ decide (x=y)) H):cO K .NotEq x y H Q:=by
 show kP true x y H Q;unfold kP;rw[hs];exact q
theorem Xu{K:Frag}{H1:Hp}{l t1 t2 t3:Addr}{r:Row}{Q1:VK}(hl:H1 l=some (.lst [.ref t1,.ref t2,.ref t3]))(h1:H1 t1=some (.tup [.str "put",.str r.1]))(h2:H1 t2=some (.tup [.str "cut",.str r.2.1]))(h3:H1 t3=some (.tup [.str "keep",.int r.2.2]))
  (hσ:σ[8]?=some (some<|.ref l)) (k:∀p ys,H1 p=none->aJ H1 ys (dG r)->ys.length<=3->Q1 (.ref p) (upd H1 p<|.lst ys)):
  ae (aM K [] [] (E:=E)) (.comp none [] .list [.v 8] (some<|.and [(.cmp .NotEq (.ix (.v 0)<|.c<|.int 1)<|.c<|.str ""),(.cmp .NotEq (.ix (.v 0)<|.c<|.int 1)<|.c<|.int 0)])<|.v 0) σ H1 Q1:=by
 have dS:au K H1 l [.ref t1,.ref t2,.ref t3]:=au.of hl
 let oJ:Nat->List Pt:=fun i=>match i with| 0=>[]| 1=>txt .put r.1| 2=>txt .put r.1++txt .cut r.2.1|_=>dG r
 refine⟨_,hσ,l,rfl,⟨_,dS⟩,fun i m ys H2=>m=3 - i/\i<=3/\H2=H1/\aJ H1 ys (oJ i)/\ys.length<=i,⟨_,rfl,zqZ _,rfl,.nil,zqR _⟩,?_⟩;rintro i m ys H2 ⟨rfl,hi,rfl,gi,AG⟩;have small:ys.length<sizeLine:=dm (by lia)
 have go:∀(t:Addr) (p:Pt) (j:Nat),H2 t=some (.tup [.str p.word,p.val])->i=j->j<3->(oJ (j+1)=oJ j++[p]/\p.val≠ .str ""/\p.val≠ .int 0\/oJ (j+1)=oJ j/\(p.val=.str ""\/p.val=.int 0))->
   (∃s,p.val=.str s)\/(∃n,p.val=.int n)->
   jr (vT (aM K [] [] (E:=E)).calm<|some<|.and [(.cmp .NotEq (.ix (.v 0)<|.c<|.int 1)<|.c<|.str ""),(.cmp .NotEq (.ix (.v 0)<|.c<|.int 1)<|.c<|.int 0)]) ([V.ref t].map some++bX σ []) H2 fun b H5=>
    if b=true then ae (aM K [] [] (E:=E)).calm (.v 0) ([V.ref t].map some++bX σ []) H5 fun y H6=>ys.length<sizeLine/\∃m',m'<3 - i/\m'=3 - (i+1)/\i+1<=3/\H6=H2/\aJ H2 (ys++[y]) (oJ<|i+1)/\(ys++[y]).length<=i+1
    else ∃m',m'<3 - i/\m'=3 - (i+1)/\i+1<=3/\H5=H2/\aJ H2 ys (oJ<|i+1)/\ys.length<=i+1:=by
  intro t p j ht ej hj hc hv;subst ej;have Xv:jU p.val (.str "")=true:=by rcases hv with⟨s,e⟩|⟨n,e⟩ <;>rw[e] <;>rfl
  have Xw:jU p.val (.int 0)=true:=by rcases hv with⟨s,e⟩|⟨n,e⟩ <;>rw[e] <;>rfl
  refine⟨_,rfl,.inr<|.inl ⟨_,_,_,_,rfl,rfl,aD.of ht,rfl,JL<|JM Xv ⟨_,rfl,?_⟩⟩⟩;by_cases q1:p.val=.str ""
  ·rw[zqT q1];rcases hc with⟨_,z,_⟩|⟨e,_⟩
   ·exact absurd q1 z
   ·exact⟨3 - (i+1),by lia,rfl,by lia,rfl,by rw[e];exact gi,by lia⟩
  ·rw[zqF q1];refine⟨_,rfl,.inr<|.inl ⟨_,_,_,_,rfl,rfl,aD.of ht,rfl,JL<|JM Xw ⟨_,rfl,?_⟩⟩⟩;by_cases q2:p.val=.int 0
   ·rw[zqT q2];rcases hc with⟨_,_,z⟩|⟨e,_⟩
    ·exact absurd q2 z
    ·exact⟨3 - (i+1),by lia,rfl,by lia,rfl,by rw[e];exact gi,by lia⟩
   ·rw[zqF q2];rcases hc with⟨e,_,_⟩|⟨_,z⟩
    ·refine⟨_,rfl,small,3 - (i+1),by lia,rfl,by lia,rfl,?_,by simp;lia⟩
     rw[e];exact aJ.snoc gi ⟨t,rfl,ht⟩
    ·rcases z with z|z
     ·exact absurd z q1
     ·exact absurd z q2
 have tx:∀(mk:Str->Pt) (x:Str) (l:List Pt),(mk x).val=.str x->(l++txt mk x=l++[mk x]/\(mk x).val≠ .str ""/\(mk x).val≠ .int 0\/l++txt mk x=l/\((mk x).val=.str ""\/(mk x).val=.int 0)):=by
  intro mk x l hv;unfold txt;by_cases e:x=""
  ·rw[if_pos e];exact .inr ⟨by simp,.inl (by rw[hv,e])⟩
  ·rw[if_neg e];exact .inl ⟨rfl,by rw[hv];exact fun z=>e (by injection z),by rw[hv];exact fun z=>by cases z⟩
 by_cases a_:i<3
 ·refine .inr ⟨⟨_,[V.ref t1,V.ref t2,V.ref t3][i],dS,by simp[a_]⟩,?_⟩
  rintro x H3 ⟨rfl,hx⟩;have kN:=hx _ dS;have:i=0\/i=1\/i=2:=by lia
  rcases this with rfl|rfl|rfl
  ·have ex:x=.ref t1:=by simpa using kN.symm
   subst ex;exact go t1 (.put r.1) 0 h1 rfl (by lia) (tx .put r.1 [] rfl)<|.inl ⟨_,rfl⟩
  ·have ex:x=.ref t2:=by simpa using kN.symm
   subst ex;exact go t2 (.cut r.2.1) 1 h2 rfl (by lia) (tx .cut r.2.1 _ rfl)<|.inl ⟨_,rfl⟩
  ·have ex:x=.ref t3:=by simpa using kN.symm
   subst ex;refine go t3 (.keep r.2.2) 2 h3 rfl (by lia) ?_<|.inr ⟨_,rfl⟩
   by_cases e:r.2.2=0
   ·refine .inr ⟨?_,.inr (by show V.int r.2.2=_;rw[e])⟩
    show dG r=txt .put r.1++txt .cut r.2.1;unfold dG;rw[if_pos e,zad]
   ·refine .inl ⟨?_,?_,?_⟩
    ·show dG r=txt .put r.1++txt .cut r.2.1++[.keep r.2.2];unfold dG;rw[if_neg e]
    ·intro z;have z':V.int r.2.2=V.str "":=z;cases z'
    ·intro z;have z':V.int r.2.2=V.int 0:=z
     injection z' with z'
     exact e z'
 ·have gT:i=3:=by lia
  subst gT;refine .inl ⟨⟨_,dS,by simp⟩,fun p hp=>?_⟩
  exact k p ys hp gi AG
theorem Xx{K:Frag}(vs:List V)(H:Hp)(Q:VK)(E:XK)(h:sZ vs H Q E):aB (aM K [] [] (E:=E)) G8 {nx:=fun _ H'=>Q .aF H',rt:=Q} (start G7 vs) H:=by
 obtain⟨a,xs,ps,rfl,ha,bS,hl,ht,k⟩:=h;have hlen:=Paired.length bS;refine⟨pI,fun b0 AH=>⟨ji,fun R hR=>?_⟩⟩;have JN:b0≠R:=fun z=>by rw[<-z,aw] at hR;cases hR
 have fR:H R=none:=(sameNew AH).free hR;have S0:jc H (upd (upd H b0<|.lst [.str "",.str "",.int 0]) R<|.lst [.ref b0]) R [] b0 [] ((Str.ofString "",Str.ofString "",0):Row):=
  {same:=(sameNew AH).trans (sameNew hR),lst:=aw,fr:=fR,rows:=.nil,last:=(by rw[aC JN,aw];rfl),fb:=AH,bx:=(fun v hv=>by cases hv),ne:=JN}
 refine⟨_,rfl,a,rfl,⟨_,au.of (S0.same _ _ ha)⟩,jT (K:=K) (a:=a) (xs:=xs) (fun i σ H2=>∃u v rs b pre r,σ=[some (.ref a),some (.ref R),u,v,none,none,none,none,none]/\jc H H2 R rs b pre r/\
   (ps.take i).foldl bf ([],((Str.ofString "",Str.ofString "",0):Row))=(pre,r)/\rs.length<=i/\r.1.length<=aA (ps.take i)/\r.2.1.length<=aA (ps.take i))
  ⟨none,none,[],b0,[],_,rfl,S0,rfl,zqR _,zqZ _,zqZ _⟩ (fun i σ H2 _ ⟨_,_,_,_,_,_,_,S,_⟩=>au.of (S.same _ _ ha)) ?_ ?_⟩
 ·rintro i x σ H2 hi ⟨u,v,rs,b,pre,r,rfl,S,ef,l1,l2,l3⟩;obtain⟨pt,gV,eE⟩:=bS.get hi;obtain⟨t,rfl,hb⟩:=eE.mono (bF S.same);have eT:i<ps.length:=(zap.mp gV).1;have mK:(ps.take<|i+1).foldl bf ([],((Str.ofString "",Str.ofString "",0):Row))=bf (pre,r) pt:=by rw[JA gV,ef]
  have et:=Jz gV;have tb:=Az ps i;have tb1:=Az ps (i+1);have sl:=Xt pre r pt _ l2 l3;refine⟨t,_,rfl,.inl<|aD.of hb,rfl,_,_,rfl,_,_,rfl,rfl,?_⟩;refine⟨_,rfl,_,rfl,?_⟩;cases pt with
  |keep n=>
   refine⟨_,rfl,.inl ⟨_,_,_,_,rfl,rfl,au.of S.lst,sY _ _,.inl ⟨_,_,_,_,rfl,rfl,au.of S.last,rfl,_,rfl,_,rfl,.inl ⟨_,_,_,_,rfl,rfl,au.of S.lst,sY _ _,b,jz r,2,2,rfl,rfl,S.last,rfl,?_⟩⟩⟩⟩;refine⟨_,_,rs,b,pre,(r.1,r.2.1,r.2.2+n),rfl,S.set (r':=(r.1,r.2.1,r.2.2+n)),mK,by lia,?_,?_⟩
   ·show r.1.length<=_;lia
   ·show r.2.1.length<=_;lia
  |put s=>
   refine JK S (.put s) (.inl ⟨rfl,rfl⟩) ?_ (by lia) (by lia) (by lia) fun H3 qE b' S' Xy=>⟨_,_,qE,b',_,_,rfl,S',mK,by lia,by lia,by lia⟩
   have:bY (.put s)=s.length:=rfl;lia
  |cut s=>
   refine JK S (.cut s) (.inr ⟨rfl,rfl⟩) ?_ (by lia) (by lia) (by lia) fun H3 qE b' S' Xy=>⟨_,_,qE,b',_,_,rfl,S',mK,by lia,by lia,by lia⟩
   have:bY (.cut s)=s.length:=rfl;lia
 ·rintro σ Hm ⟨u,v,rs,b,pre,r,rfl,S,ef,l1,l2,l3⟩;have e:ps.take xs.length=ps:=zaL (by lia)
  rw[e] at ef;have Xz:qD ps=pre++[r]:=by
   show(ps.foldl bf ([],((Str.ofString "",Str.ofString "",0):Row))).1++[(ps.foldl bf ([],((Str.ofString "",Str.ofString "",0):Row))).2]=_;rw[ef]
  have JO:lA Hm (rs++[.ref b]) (qD ps):=by rw[Xz];exact Paired.snoc S.rows ⟨b,rfl,S.last⟩
  have wM:=Paired.length JO;refine⟨zqZ _,fun f0 AI=>?_⟩;refine⟨_,rfl,R,rfl,⟨_,au.of (sameNew AI _ _ S.lst)⟩,jT (K:=K) (a:=R) (xs:=rs++[.ref b]) (fun i σ H2=>∃f ys p5 p6 p7 p8,σ=[some (.ref a),some (.ref R),u,v,some (.ref f),p5,p6,p7,p8]/\az Hm H2/\H f=none/\H2 f=some (.lst ys)/\aJ H2 ys (cy ((qD ps).take i))/\ys.length<=3*i)
   ⟨f0,[],none,none,none,none,rfl,sameNew AI,S.same.free AI,aw,.nil,zqR _⟩ (fun i σ H2 _ ⟨_,_,_,_,_,_,_,s2,_⟩=>au.of (s2 _ _ S.lst)) ?_ ?_⟩
  ·rintro i x σ H2 hi ⟨f,ys,p5,p6,p7,p8,rfl,s2,ff,AJ,gi,AG⟩;obtain⟨row,XA,w,rfl,hw⟩:=JO.get hi;have XB:=s2 _ _ hw;have eT:i< (rs++[V.ref b]).length:=(zap.mp hi).1;have eZ:rs.length<=100000:=by lia
   have jB:i<=100000:=by simp only[zqA,zbm] at eT;lia
   refine⟨w,_,rfl,.inr<|au.of XB,rfl,_,_,rfl,_,_,rfl,_,_,rfl,rfl,?_⟩;refine⟨_,rfl,dc,fun t1 jC=>⟨_,rfl,dc,fun t2 s_=>⟨_,rfl,dc,fun t3 oK=>⟨pI,fun l dS=>?_⟩⟩⟩⟩;have c1:t1≠t2:=fun z=>by rw[<-z,aw] at s_;cases s_
   have JP:t1≠t3:=fun z=>by rw[<-z,aC c1,aw] at oK;cases oK
   have JQ:t2≠t3:=fun z=>by rw[<-z,aw] at oK;cases oK
   have XC:t1≠l:=fun z=>by rw[<-z,aC JP,aC c1,aw] at dS;cases dS
   have XD:t2≠l:=fun z=>by rw[<-z,aC JQ,aw] at dS;cases dS
   have XE:t3≠l:=fun z=>by rw[<-z,aw] at dS;cases dS
   have s3:=((sameNew (o:=.tup [.str "put",.str row.1]) jC).trans<|sameNew (o:=.tup [.str "cut",.str row.2.1]) s_).trans ((sameNew (o:=.tup [.str "keep",.int row.2.2]) oK).trans<|sameNew (o:=.lst [.ref t1,.ref t2,.ref t3]) dS);refine⟨_,rfl,Xu (r:=row) (l:=l) (t1:=t1) (t2:=t2) (t3:=t3) aw (by rw[aC XC,aC JP,aC c1,aw]) (by rw[aC XD,aC JQ,aw]) (by rw[aC XE,aw]) rfl fun p zs hp JR XF=>?_⟩
   generalize rY:upd (upd (upd (upd H2 t1<|.tup [.str "put",.str row.1]) t2<|.tup [.str "cut",.str row.2.1]) t3<|.tup [.str "keep",.int row.2.2]) l (.lst [.ref t1,.ref t2,.ref t3])=H3 at s3 hp JR;have JS:=s3 _ _ AJ;have XG:upd H3 p (.lst zs) f=some (.lst ys):=by rw[aC<|aK JS hp];exact JS
   refine .inl ⟨f,p,ys,zs,rfl,rfl,XG,aw,cY (by lia),fun q hq=>?_⟩
   have s5:az Hm (upd (upd H3 p<|.lst zs) q<|.lst<|ys++zs):=s2.trans (s3.trans<|(sameNew hp).trans<|sameNew hq);have t5:eh H3 (upd (upd H3 p<|.lst zs) q<|.lst<|ys++zs):=bF ((sameNew hp).trans<|sameNew hq);refine⟨q,ys++zs,_,_,_,_,rfl,s5,S.same.free<|(s2.trans<|s3.trans<|sameNew hp).free hq,aw,?_,by rw[zqA];lia⟩
   rw[Xs XA];have app:∀{vs:List V}{as:List Pt}{ws:List V}{bs:List Pt}{G:Hp},aJ G vs as->aJ G ws bs->aJ G (vs++ws) (as++bs):=fun {vs as ws bs G} h1 h2=>by
    induction h1 with
    |nil=>exact h2
    |cons a _ ih=>exact .cons a ih
   exact app ((gi.mono<|bF s3).mono t5)<|JR.mono t5
  ·rintro σ H2 ⟨f,ys,p5,p6,p7,p8,rfl,s2,ff,AJ,gi,AG⟩;have e2:(qD ps).take (rs++[V.ref b]).length=qD ps:=zaL (by lia)
   rw[e2] at gi;exact⟨_,rfl,k f H2 ys (S.same.trans s2) ff AJ gi⟩
theorem wN(a b:List Row):cy (a++b)=cy a++cy b:=by simp[cy]
theorem tj(r:Row):cy [r]=dG r:=by simp[cy]
theorem AK{r:Row}(h:0<r.2.2):dG r=txt .put r.1++txt .cut r.2.1++[.keep r.2.2]:=by
 unfold dG;rw[if_neg (by lia)]
theorem JT{r:Row}(h:r.2.2=0):dG r=txt .put r.1++txt .cut r.2.1:=by
 unfold dG;rw[if_pos h,zad]
def JU:Pt->Bool|.keep _=>true|_=>false
theorem XH{ch:List Pt}{n:Int}(h:∀p,ch.getLast?=some p->JU p=false):dF ch n=ch++[.keep n]:=by
 unfold dF
 split
 ·rename_i m e
  have:=h _ e;cases this
 ·rfl
theorem XI(ch:List Pt)(m n:Int):dF (ch++[.keep m]) n=ch++[.keep<|n+m]:=by
 unfold dF;rw[zbJ]
 simp
theorem txt_nil(mk:Str->Pt):txt mk ""=[]:=if_pos rfl
theorem jd{mk:Str->Pt}{x:Str}(h:x≠""):txt mk x=[mk x]:=if_neg h
theorem XJ{pre:List Row}{r:Row}(h:pre≠ []->r.1≠""\/r.2.1≠""):∀p,(cy pre++txt .put r.1++txt .cut r.2.1).getLast?=some p->JU p=false:=by
 intro p hp;by_cases h2:r.2.1=""
 ·rw[h2,txt_nil,zad] at hp;by_cases h1:r.1=""
  ·rw[h1,txt_nil,zad] at hp;by_cases kJ:pre=[]
   ·rw[kJ] at hp
    simp[cy] at hp
   ·rcases h kJ with z|z
    ·exact absurd h1 z
    ·exact absurd h2 z
  ·rw[jd h1,zbJ] at hp
   simp at hp;subst hp;rfl
 ·rw[jd h2,zbJ] at hp
  simp at hp;subst hp;rfl
def Rel(s:NS)(t:List Row×Row):Prop:=
 (∀x∈t.1,0<x.2.2)/\(t.1≠ []->t.2.1≠""\/t.2.2.1≠"")/\0<=t.2.2.2/\
  ((t.2.2.2=0/\s.1=cy t.1/\cat s.2.1=t.2.1/\cat s.2.2=t.2.2.1)\/(0<t.2.2.2/\s.1=cy (t.1++[t.2])/\cat s.2.1=""/\cat s.2.2=""))
theorem mM(a:List Str)(s:Str):cat (a++[s])=cat a++s:=by rw[Av,Aw]
theorem XM{s:NS}{t:List Row×Row}{p:Pt}(R:Rel s t)(hp:eF p):Rel (cZ s p) (bf t p):=by
 obtain⟨ch,pu,cu⟩:=s;obtain⟨pre,r⟩:=t;obtain⟨r1,r2,r3,r4⟩:=R
 simp only at r1 r2 r3 r4
 cases p with
 |keep n=>
  have sX:0<=n:=hp;by_cases hn:0<n
  ·have e1:cZ (ch,pu,cu) (.keep n)=(dF (c8 ch pu cu) n,[],[]):=if_pos hn;rw[e1];refine⟨r1,r2,by show 0<=r.2.2+n;lia,.inr ⟨by show 0<r.2.2+n;lia,?_,rfl,rfl⟩⟩
   show dF (c8 ch pu cu) n=cy (pre++[(r.1,r.2.1,r.2.2+n)]);rw[wN,tj,AK (r:=(r.1,r.2.1,r.2.2+n)) (by show 0<r.2.2+n;lia)]
   rcases r4 with⟨k0,e2,e3,e4⟩|⟨k0,e2,e3,e4⟩
   ·have ea:c8 ch pu cu=cy pre++txt .put r.1++txt .cut r.2.1:=by unfold c8;rw[e2,e3,e4]
    rw[ea,XH<|XJ r2];show _=cy pre++(txt .put r.1++txt .cut r.2.1++[.keep<|r.2.2+n]);rw[k0,Int.zero_add];simp
   ·have ea:c8 ch pu cu=cy pre++(txt .put r.1++txt .cut r.2.1)++[.keep r.2.2]:=by
     unfold c8;rw[e2,e3,e4,txt_nil,txt_nil,zad,zad,wN,tj,AK k0];simp
    rw[ea,XI];show _=cy pre++(txt .put r.1++txt .cut r.2.1++[.keep<|r.2.2+n]);rw[Int.add_comm n];simp
  ·have e0:n=0:=by lia
   have e1:cZ (ch,pu,cu) (.keep n)=(ch,pu,cu):=if_neg hn;have e2:bf (pre,r) (.keep n)=(pre,r):=by show(pre,(r.1,r.2.1,r.2.2+n))=_;rw[e0,Int.add_zero]
   rw[e1,e2];exact⟨r1,r2,r3,r4⟩
 |put x=>
  show Rel (ch,pu++[x],cu) (bf (pre,r)<|.put x);by_cases hx:x=""
  ·have e2:bf (pre,r) (.put x)=(pre,r):=if_pos hx;rw[e2];refine⟨r1,r2,r3,?_⟩;have e:cat (pu++[x])=cat pu:=by rw[mM,hx];exact Ju _
   show _\/_
   simp only[e]
   exact r4
  ·by_cases hk:0<r.2.2
   ·have e2:bf (pre,r) (.put x)=(pre++[r],((Str.ofString ""++x,Str.ofString "",0):Row)):=by show(if x="" then _ else if 0<r.2.2 then _ else _)=_;rw[if_neg hx,if_pos hk]
    rw[e2];rcases r4 with⟨k0,_⟩|⟨_,e5,e3,e4⟩
    ·lia
    ·refine⟨fun y hy=>?_,fun _=>.inl (by rw[qx];exact hx),zaM _,.inl ⟨rfl,e5,?_,e4⟩⟩
     ·rcases zaf.mp hy with z|z
      ·exact r1 y z
      ·rw[zag.mp z];exact hk
     ·show cat (pu++[x])=_;rw[mM,e3]
   ·have e2:bf (pre,r) (.put x)=(pre,(r.1++x,r.2.1,r.2.2)):=by show(if x="" then _ else if 0<r.2.2 then _ else _)=_;rw[if_neg hx,if_neg hk]
    rw[e2];rcases r4 with⟨k0,e5,e3,e4⟩|⟨k0,_⟩
    ·refine⟨r1,fun _=>.inl ?_,r3,.inl ⟨k0,e5,?_,e4⟩⟩
     ·intro z;have:=congrArg Str.length z;rw[jA] at this;have l0:(Str.ofString "").length=0:=rfl;rw[l0] at this;have mO:x.length=0:=by lia
      exact hx<|gU (by rw[len_list] at mO;rw[zaH.mp mO];rfl)
     ·show cat (pu++[x])=_;rw[mM,e3]
    ·lia
 |cut x=>
  show Rel (ch,pu,cu++[x]) (bf (pre,r)<|.cut x);by_cases hx:x=""
  ·have e2:bf (pre,r) (.cut x)=(pre,r):=if_pos hx;rw[e2];refine⟨r1,r2,r3,?_⟩;have e:cat (cu++[x])=cat cu:=by rw[mM,hx];exact Ju _
   show _\/_
   simp only[e]
   exact r4
  ·by_cases hk:0<r.2.2
   ·have e2:bf (pre,r) (.cut x)=(pre++[r],((Str.ofString "",Str.ofString ""++x,0):Row)):=by show(if x="" then _ else if 0<r.2.2 then _ else _)=_;rw[if_neg hx,if_pos hk]
    rw[e2];rcases r4 with⟨k0,_⟩|⟨_,e5,e3,e4⟩
    ·lia
    ·refine⟨fun y hy=>?_,fun _=>.inr (by rw[qx];exact hx),zaM _,.inl ⟨rfl,e5,e3,?_⟩⟩
     ·rcases zaf.mp hy with z|z
      ·exact r1 y z
      ·rw[zag.mp z];exact hk
     ·show cat (cu++[x])=_;rw[mM,e4]
   ·have e2:bf (pre,r) (.cut x)=(pre,(r.1,r.2.1++x,r.2.2)):=by show(if x="" then _ else if 0<r.2.2 then _ else _)=_;rw[if_neg hx,if_neg hk]
    rw[e2];rcases r4 with⟨k0,e5,e3,e4⟩|⟨k0,_⟩
    ·refine⟨r1,fun _=>.inr ?_,r3,.inl ⟨k0,e5,e3,?_⟩⟩
     ·intro z;have:=congrArg Str.length z;rw[jA] at this;have l0:(Str.ofString "").length=0:=rfl;rw[l0] at this;have mO:x.length=0:=by lia
      exact hx<|gU (by rw[len_list] at mO;rw[zaH.mp mO];rfl)
     ·show cat (cu++[x])=_;rw[mM,e4]
    ·lia
theorem JV:∀(ps:List Pt) (s:NS) (t:List Row×Row),Rel s t->(∀p∈ps,eF p)->Rel (ps.foldl cZ s) (ps.foldl bf t)
 |[],s,t,R,_=>R
 |p::r,s,t,R,h=>JV r _ _ (XM R<|h p zau) fun q hq=>h q (zav _ hq)
theorem XN(ps:List Pt)(h:∀p∈ps,eF p):Rel (ps.foldl cZ ([],[],[])) (ps.foldl bf ([],((Str.ofString "",Str.ofString "",0):Row))):=
 JV ps _ _ ⟨(fun x hx=>by cases hx),fun z=>absurd rfl z,zaM _,.inl ⟨rfl,rfl,rfl,rfl⟩⟩ h
theorem AL(ps:List Pt)(h:∀p∈ps,eF p):jb ps=ig ps:=by
 obtain⟨r1,r2,r3,r4⟩:=XN ps h;show c8 _ _ _=cy (_++[_]);generalize ps.foldl cZ ([],[],[])=s at r4⊢;generalize ps.foldl bf ([],((Str.ofString "",Str.ofString "",0):Row))=t at r1 r2 r3 r4⊢;unfold c8;rcases r4 with⟨k0,e5,e3,e4⟩|⟨k0,e5,e3,e4⟩
 ·rw[e5,e3,e4,wN,tj,JT k0];simp
 ·rw[e5,e3,e4,txt_nil,txt_nil];simp
def sg(x:Str):Prop:= ∀c∈x.cps.toList,SG.cps.contains c=true
theorem wO{x:Str}(a:sg x)(b:sg y):sg (x++y):=fun c hc=>by
 rw[app_list] at hc;rcases zaf.mp hc with z|z
 ·exact a c z
 ·exact b c z
theorem mP:sg (Str.ofString ""):=fun c hc=>by cases hc
def jD(r:Row):Nat:=r.1.length+r.2.1.length
structure RI (n:Nat) (t:List Row×Row):Prop where
 pos:∀x∈t.1,0<x.2.2
 nn:0<=t.2.2.2
 s1:∀x∈t.1++[t.2],sg x.1/\sg x.2.1
 tl:∀x∈ (t.1++[t.2]).tail,x.1≠""\/x.2.1≠""
 aA:((t.1++[t.2]).map jD).sum=n
theorem JW{x:Str}(h:x≠""):x++y≠"":=fun z=>by
 have:=congrArg Str.length z;rw[jA] at this;have l0:(Str.ofString "").length=0:=rfl;rw[l0] at this;have mO:x.length=0:=by lia
 exact h<|gU (by rw[len_list] at mO;rw[zaH.mp mO];rfl)
theorem JX{α:Type}(l:List α)(a:α):(l++[a]).tail=if l=[] then [] else l.tail++[a]:=by
 cases l with
 |nil=>rfl
 |cons b r=>simp
theorem AM{m:Nat}{pre:List Row}{r r':Row}(I:RI n (pre,r))(h0:0<=r'.2.2)(h1:sg r'.1/\sg r'.2.1)(h2:(r.1≠""->r'.1≠"")/\(r.2.1≠""->r'.2.1≠""))(h3:jD r'=jD r+m):RI (n+m) (pre,r'):=by
 refine⟨I.pos,h0,fun x hx=>?_,fun x hx=>?_,?_⟩
 ·rcases zaf.mp hx with z|z
  ·exact I.s1 x (zaK _ z)
  ·rw[zag.mp z];exact h1
 ·have t1:=I.tl
  simp only at t1 hx
  rw[JX] at hx t1;by_cases hp:pre=[]
  ·rw[if_pos hp] at hx;cases hx
  ·rw[if_neg hp] at hx t1;rcases zaf.mp hx with z|z
   ·exact t1 x (zaK _ z)
   ·rw[zag.mp z];rcases t1 r (by simp) with q|q
    ·exact .inl (h2.1 q)
    ·exact .inr (h2.2 q)
 ·have:=I.aA
  simp only[zak,zbz,zaw,zaV,zbg,List.sum_nil] at this⊢
  lia
theorem JY{m:Nat}{pre:List Row}{r r':Row}(I:RI n (pre,r))(hk:0<r.2.2)(h0:0<=r'.2.2)(h1:sg r'.1/\sg r'.2.1)(h2:r'.1≠""\/r'.2.1≠"")(h3:jD r'=m):RI (n+m) (pre++[r],r'):=by
 refine⟨fun x hx=>?_,h0,fun x hx=>?_,fun x hx=>?_,?_⟩
 ·rcases zaf.mp hx with z|z
  ·exact I.pos x z
  ·rw[zag.mp z];exact hk
 ·rcases zaf.mp hx with z|z
  ·exact I.s1 x z
  ·rw[zag.mp z];exact h1
 ·have t1:=I.tl
  simp only at t1 hx
  rw[JX,if_neg (by simp)] at hx
  rcases zaf.mp hx with z|z
  ·exact t1 x z
  ·rw[zag.mp z];exact h2
 ·have:=I.aA
  simp only[zak,zbz,zaw,zaV,zbg,List.sum_nil] at this⊢
  lia
theorem XO{t:List Row×Row}{p:Pt}(I:RI n t)(hp:eF p):RI (n+bY p) (bf t p):=by
 obtain⟨pre,r⟩:=t;have hs:=I.s1 r (by simp)
 have JZ:0<=r.2.2:=I.nn;have e0:(Str.ofString "").length=0:=rfl;cases p with
 |keep m=>exact AM I (by show 0<=r.2.2+m;have:0<=m:=hp;lia) hs ⟨fun z=>z,fun z=>z⟩ rfl
 |put x=>
  have gx:sg x:=hp.1.2;by_cases hx:x=""
  ·have e2:bf (pre,r) (.put x)=(pre,r):=if_pos hx;have e3:bY (.put x)=0:=by show x.length=0;rw[hx];rfl
   rw[e2,e3];exact I
  ·by_cases hk:0<r.2.2
   ·have e2:bf (pre,r) (.put x)=(pre++[r],((Str.ofString ""++x,Str.ofString "",0):Row)):=by show(if x="" then _ else if 0<r.2.2 then _ else _)=_;rw[if_neg hx,if_pos hk]
    rw[e2];refine JY I hk (zaM _) ⟨wO mP gx,mP⟩ (.inl (by rw[qx];exact hx)) ?_
    show(Str.ofString ""++x).length+(Str.ofString "").length=x.length;rw[jA,e0];lia
   ·have e2:bf (pre,r) (.put x)=(pre,(r.1++x,r.2.1,r.2.2)):=by show(if x="" then _ else if 0<r.2.2 then _ else _)=_;rw[if_neg hx,if_neg hk]
    rw[e2];refine AM I JZ ⟨wO hs.1 gx,hs.2⟩ ⟨JW,fun z=>z⟩ ?_;show(r.1++x).length+r.2.1.length=r.1.length+r.2.1.length+x.length;rw[jA];lia
 |cut x=>
  have gx:sg x:=hp.1.2;by_cases hx:x=""
  ·have e2:bf (pre,r) (.cut x)=(pre,r):=if_pos hx;have e3:bY (.cut x)=0:=by show x.length=0;rw[hx];rfl
   rw[e2,e3];exact I
  ·by_cases hk:0<r.2.2
   ·have e2:bf (pre,r) (.cut x)=(pre++[r],((Str.ofString "",Str.ofString ""++x,0):Row)):=by show(if x="" then _ else if 0<r.2.2 then _ else _)=_;rw[if_neg hx,if_pos hk]
    rw[e2];refine JY I hk (zaM _) ⟨mP,wO mP gx⟩ (.inr (by rw[qx];exact hx)) ?_
    show(Str.ofString "").length+(Str.ofString ""++x).length=x.length;rw[jA,e0];lia
   ·have e2:bf (pre,r) (.cut x)=(pre,(r.1,r.2.1++x,r.2.2)):=by show(if x="" then _ else if 0<r.2.2 then _ else _)=_;rw[if_neg hx,if_neg hk]
    rw[e2];refine AM I JZ ⟨hs.1,wO hs.2 gx⟩ ⟨fun z=>z,JW⟩ ?_;show r.1.length+(r.2.1++x).length=r.1.length+r.2.1.length+x.length;rw[jA];lia
theorem AN:∀(ps:List Pt) (n:Nat) (t:List Row×Row),RI n t->(∀p∈ps,eF p)->RI (n+aA ps) (ps.foldl bf t)
 |[],n,t,I,_=>I
 |p::r,n,t,I,h=>by
  have:=AN r _ _ (XO I<|h p zau) fun q hq=>h q (zav _ hq);have e:n+bY p+aA r=n+aA (p::r):=by show _=n+(bY p+aA r);lia
  rw[e] at this;exact this
theorem J0{r:Row}{a:Str}{rest:List Pt}(ha:a=""\/(a="keep"/\(r.1≠""\/r.2.1≠"")))(hk:0<r.2.2)(h:chainOk "keep" rest=true):chainOk a (dG r++rest)=true:=by
 rw[AK hk];by_cases h1:r.1="" <;>by_cases h2:r.2.1=""
 ·rw[h1,h2,txt_nil,txt_nil];rcases ha with rfl|⟨_,z|z⟩
  ·exact h
  ·exact absurd h1 z
  ·exact absurd h2 z
 ·rw[h1,txt_nil,jd h2];rcases ha with rfl|⟨rfl,_⟩ <;>exact h
 ·rw[h2,txt_nil,jd h1];rcases ha with rfl|⟨rfl,_⟩ <;>exact h
 ·rw[jd h1,jd h2];rcases ha with rfl|⟨rfl,_⟩ <;>exact h
theorem chain_last{r:Row}{a:Str}(ha:a=""\/(a="keep"/\(r.1≠""\/r.2.1≠"")))(hk:0<=r.2.2):chainOk a (dG r)=true:=by
 by_cases h0:0<r.2.2
 ·have:=J0 (rest:=[]) ha h0 rfl;rw[zad] at this;exact this
 ·rw[JT (by lia)]
  by_cases h1:r.1="" <;>by_cases h2:r.2.1=""
  ·rw[h1,h2,txt_nil,txt_nil];rfl
  ·rw[h1,txt_nil,jd h2];rcases ha with rfl|⟨rfl,_⟩ <;>rfl
  ·rw[h2,txt_nil,jd h1];rcases ha with rfl|⟨rfl,_⟩ <;>rfl
  ·rw[jd h1,jd h2];rcases ha with rfl|⟨rfl,_⟩ <;>rfl
theorem J3:∀(pre:List Row) (r:Row) (a:Str),(∀x∈pre,0<x.2.2)->0<=r.2.2->(a=""\/(a="keep"/\∀x,(pre++[r]).head?=some x->x.1≠""\/x.2.1≠""))->(∀x∈ (pre++[r]).tail,x.1≠""\/x.2.1≠"")->
  chainOk a (cy<|pre++[r])=true
 |[],r,a,_,hk,ha,_=>by
  rw[List.nil_append,tj];exact chain_last (ha.imp id fun⟨x,y⟩=>⟨x,y r rfl⟩) hk
 |q::pre,r,a,hp,hk,ha,ht=>by
  have e:cy (q::pre++[r])=dG q++cy (pre++[r]):=by simp[cy]
  rw[e];refine J0 (ha.imp id fun⟨x,y⟩=>⟨x,y q rfl⟩) (hp q zau) ?_;refine J3 pre r "keep" (fun x hx=>hp x<|zav _ hx) hk (.inr ⟨rfl,fun x hx=>ht x ?_⟩) fun x hx=>ht x (List.mem_of_mem_tail hx);show x∈pre++[r];exact List.mem_of_mem_head? hx
theorem XQ{r:Row}{p:Pt}(hs:sg r.1/\sg r.2.1)(hl:jD r<=1000000)(hk:0<=r.2.2)(h:p∈dG r):aZ p:=by
 unfold dG txt at h;unfold jD at hl;rcases zaf.mp h with h|h
 ·rcases zaf.mp h with h|h
  ·split at h
   ·cases h
   ·rename_i ne
    rw[zag.mp h];exact⟨⟨by lia,hs.1⟩,ne⟩
  ·split at h
   ·cases h
   ·rename_i ne
    rw[zag.mp h];exact⟨⟨by lia,hs.2⟩,ne⟩
 ·split at h
  ·cases h
  ·rw[zag.mp h];show 1<=r.2.2;lia
theorem XR(r:Row):aA (dG r)=jD r:=by
 have t1:∀(mk:Str->Pt) (x:Str),(∀y,bY (mk y)=y.length)->aA (txt mk x)=x.length:=by
  intro mk x h;unfold txt;by_cases e:x=""
  ·rw[if_pos e,e];rfl
  ·rw[if_neg e];show bY (mk x)+0=_;rw[h,Nat.add_zero]
 have ta:∀a b:List Pt,aA (a++b)=aA a+aA b:=fun a b=>by simp[aA]
 unfold dG jD;rw[ta,ta,t1 .put _ fun _=>rfl,t1 .cut _ fun _=>rfl]
 split
 ·rfl
 ·rfl
theorem AO:∀rows:List Row,aA (cy rows)=(rows.map jD).sum
 |[]=>rfl
 |r::rows=>by
  have e:cy (r::rows)=dG r++cy rows:=by simp[cy]
  have ta:∀a b:List Pt,aA (a++b)=aA a+aA b:=fun a b=>by simp[aA]
  rw[e,ta,XR,AO rows];rfl
theorem XS{l:List Row}{x:Row}(h:x∈l):jD x<= (l.map jD).sum:=by
 induction l with
 |nil=>cases h
 |cons a l ih=>
  rw[zaw,zbg];rcases zaa.mp h with rfl|h
  ·lia
  ·have:=ih h;lia
theorem wQ(ps:List Pt)(h:∀p∈ps,eF p)(ht:aA ps<=100000):chainOk "" (ig ps)=true/\(∀p∈ig ps,aZ p)/\aA (ig ps)<=100000:=by
 have I:=AN ps 0 ([],((Str.ofString "",Str.ofString "",0):Row)) ⟨(fun x hx=>by cases hx),zaM _,(fun x hx=>by rw[zag.mp hx];exact⟨mP,mP⟩),(fun x hx=>by cases hx),rfl⟩ h
 rw[Nat.zero_add] at I;have e:ig ps=cy ((ps.foldl bf ([],((Str.ofString "",Str.ofString "",0):Row))).1++[(ps.foldl bf ([],((Str.ofString "",Str.ofString "",0):Row))).2]):=rfl;rw[e];generalize ps.foldl bf ([],((Str.ofString "",Str.ofString "",0):Row))=t at I;refine⟨J3 t.1 t.2 "" I.pos I.nn (.inl rfl) I.tl,fun p hp=>?_,by rw[AO,I.aA];exact ht⟩
 unfold cy at hp;rw[zbA] at hp;obtain⟨l,hl,hp⟩:=hp;obtain⟨x,hx,rfl⟩:=zaN.mp hl;have hle:=XS hx;rw[I.aA] at hle;refine XQ (I.s1 x hx) (by lia) ?_ hp
 rcases zaf.mp hx with z|z
 ·have:=I.pos x z;lia
 ·rw[zag.mp z];exact I.nn
theorem AQ(ps:List Pt):(jb ps).length<=3*ps.length+2:=by
 have go:∀(l:List Pt) (s:NS),(l.foldl cZ s).1.length<=s.1.length+3*l.length:=by
  intro l
  induction l with
  |nil=>intro s;simp
  |cons p l ih=>
   intro s;have h1:=ih (cZ s p);have h2:(cZ s p).1.length<=s.1.length+3:=by
    obtain⟨ch,pu,cu⟩:=s;cases p with
    |keep n=>
     by_cases hn:0<n
     ·have e1:cZ (ch,pu,cu) (.keep n)=(dF (c8 ch pu cu) n,[],[]):=if_pos hn;rw[e1];have:=wA ch pu cu;have:=JC (c8 ch pu cu) n;show(dF (c8 ch pu cu) n).length<=ch.length+3;lia
     ·have e1:cZ (ch,pu,cu) (.keep n)=(ch,pu,cu):=if_neg hn;rw[e1];show ch.length<=ch.length+3;lia
    |put x=>show ch.length<=ch.length+3;lia
    |cut x=>show ch.length<=ch.length+3;lia
   rw[List.foldl_cons,zay];lia
 have h1:=go ps ([],[],[]);have h2:=wA (ps.foldl cZ ([],[],[])).1 (ps.foldl cZ ([],[],[])).2.1 (ps.foldl cZ ([],[],[])).2.2;show(c8 _ _ _).length<=_
 simp only[zbn] at h1
 lia
def mQ:Pt->PyData|.keep n=>.int n|.put s=>.str s|.cut s=>.str s
def toD(p:Pt):PyData:=.tuple [.str p.word,mQ p]
def mR:Pt->Prop|.keep _=>True|.put s=>sg s|.cut s=>sg s
theorem J4{x:Str}(h:sg x):PyData.strOk x=true:=by
 have small:∀c,SG.cps.contains c=true->c<0x110000:=by
  have all:SG.cps.toList.all (fun c=>decide<|c<0x110000)=true:=by decide+kernel
  intro c hc;have hm:c∈SG.cps.toList:=by simpa using hc
  exact of_decide_eq_true<|zbp.mp all c hm
 unfold PyData.strOk;rw[Array.all_eq_true'];intro c hc;exact zqT<|small c<|h c (by simpa using hc)
theorem toD_ok{p:Pt}(h:mR p):(toD p).canLay0=true/\(toD p).depth=1:=by
 cases p with
 |keep n=>exact⟨(by show(PyData.strOk (Str.ofString "keep") && (true && true))=true;decide+kernel),rfl⟩
 |put s=>
  refine⟨?_,rfl⟩;show(PyData.strOk (Str.ofString "put") && (PyData.strOk s && true))=true;rw[J4 h];decide+kernel
 |cut s=>
  refine⟨?_,rfl⟩;show(PyData.strOk (Str.ofString "cut") && (PyData.strOk s && true))=true;rw[J4 h];decide+kernel
theorem J5:∀(ps:List Pt),(∀p∈ps,mR p)->PyData.canLayAll0 (ps.map toD)=true/\PyData.depthAll (ps.map toD)<=1
 |[],_=>⟨rfl,zqZ _⟩
 |p::r,h=>by
  obtain⟨a,b⟩:=toD_ok (h p zau);obtain⟨c,d⟩:=J5 r fun q hq=>h q (zav _ hq);refine⟨?_,?_⟩
  ·show((toD p).canLay0 && PyData.canLayAll0 (r.map toD))=true;rw[a,c];rfl
  ·show max (toD p).depth (PyData.depthAll<|r.map toD)<=1;rw[b];lia
theorem AR{ps:List Pt}(h:∀p∈ps,mR p):SeqAt.shaped (.list<|ps.map toD)=true:=by
 obtain⟨c,d⟩:=J5 ps h;unfold SeqAt.shaped;have e:(PyData.list<|ps.map toD).canLay0=true:=c;have e2:(PyData.list<|ps.map toD).depth<=64:=by show PyData.depthAll (ps.map toD)+1<=64;lia
 rw[e,zqT e2];rfl
theorem qF{H:Hp}:∀{vs:List V}{ps:List Pt},aJ H vs ps->IsL H (ps.map toD) vs
 |_,_,.nil=>rfl
 |_,_,.cons (a:=v) (b:=p) ⟨a,e,h⟩ r=>by
  refine⟨v,_,rfl,?_,qF r⟩;refine⟨a,_,e,h,.str p.word,[p.val],rfl,rfl,p.val,[],rfl,?_,rfl⟩;cases p<;>rfl
theorem XT{K:Frag}{a b:Addr}{ps:List Pt}(ha:H a=some (.lst xs))(hb:H b=some (.lst ys))(hx:aJ H xs ps)(hy:aJ H ys ps)(ho:∀p∈ps,mR p)(q:Q (.bl false) H):
  cO K .NotEq (.ref a) (.ref b) H Q:=by
 refine⟨.list<|ps.map toD,.list<|ps.map toD,⟨a,xs,rfl,ha,qF hx⟩,⟨b,ys,rfl,hb,qF hy⟩,AR ho,AR ho,?_⟩;rw[SeqAt.eqv_refl _<|SeqAt.canLay_of_shaped<|AR ho];exact q
theorem XU{p:Pt}(h:aZ p):mR p:=by
 cases p with
 |keep n=>trivial
 |put s=>exact h.1.2
 |cut s=>exact h.1.2
def Pt.AS:Pt->Pt|.keep n=>.keep n|.put s=>.cut s|.cut s=>.put s
def J6(ps:List Pt):List Pt:=ps.map Pt.AS
theorem XW(ps:List Pt)(h:∀p∈ps,eF p):RI (aA ps) (ps.foldl bf ([],((Str.ofString "",Str.ofString "",0):Row))):=by
 have I:=AN ps 0 ([],((Str.ofString "",Str.ofString "",0):Row)) ⟨(fun x hx=>by cases hx),zaM _,(fun x hx=>by rw[zag.mp hx];exact⟨mP,mP⟩),(fun x hx=>by cases hx),rfl⟩ h
 rwa [Nat.zero_add] at I
theorem XX{p:Pt}(h:aZ p)(ht:bY p<=100000):eF p:=by
 cases p with
 |keep n=>exact Int.le_trans (by decide) (show(1:Int)<=n from h)
 |put s=>exact⟨h.1,ht⟩
 |cut s=>exact⟨h.1,ht⟩
theorem tm{ps:List Pt}{p:Pt}(h:p∈ps):bY p<=aA ps:=by
 induction ps with
 |nil=>cases h
 |cons q ps ih=>
  have e:aA (q::ps)=bY q+aA ps:=by simp[aA]
  rw[e];rcases zaa.mp h with rfl|h
  ·lia
  ·have:=ih h;lia
theorem XY{ps:List Pt}(h:∀p∈ps,aZ p)(ht:aA ps<=100000):∀p∈ps,eF p:=fun p hp=>XX (h p hp) (zas (tm hp) ht)
inductive Run:List Nat->List Pt->List Nat->Prop
 |nil:Run [] [] []
 |keep {a l r:List Nat}{n:Int}{ps:List Pt}:n=a.length->Run l ps r->Run (a++l) (.keep n::ps) (a++r)
 |put {s:Str}{l r:List Nat}{ps:List Pt}:Run l ps r->Run l (.put s::ps) (s.cps.toList++r)
 |cut {s:Str}{l r:List Nat}{ps:List Pt}:Run l ps r->Run (s.cps.toList++l) (.cut s::ps) r
theorem Run.AS{ps:List Pt}(h:Run l ps r):Run r (J6 ps) l:=by
 induction h with
 |nil=>exact .nil
 |keep e _ ih=>exact .keep e ih
 |put _ ih=>exact .cut ih
 |cut _ ih=>exact .put ih
theorem Run.app{l' r':List Nat}{ps qs:List Pt}(h:Run l ps r)(h':Run l' qs r'):Run (l++l') (ps++qs) (r++r'):=by
 induction h with
 |nil=>exact h'
 |keep e _ ih=>rw[zao,zao];exact .keep e ih
 |put _ ih=>rw[zao];exact .put ih
 |cut _ ih=>rw[zao];exact .cut ih
theorem Run.over{ps:List Pt}(h:Run l ps r):(overOf ps).sum=l.length:=by
 induction h with
 |nil=>rfl
 | @keep a l r n ps e _ ih=>
  have e2:overOf (.keep n::ps)=n::overOf ps:=rfl;rw[e2,zbg,ih,e,zqA]
  simp
 | @put s l r ps _ ih=>
  have e2:overOf (.put s::ps)=overOf ps:=rfl;rw[e2,ih]
 | @cut s l r ps _ ih=>
  have e2:overOf (.cut s::ps)=(s.length:Int)::overOf ps:=rfl;rw[e2,zbg,ih,zqA,len_list]
  simp
def oM(r:Row)(l q:List Nat):Prop:= ∃k:List Nat,r.2.2=k.length/\l=r.2.1.cps.toList++k/\q=r.1.cps.toList++k
inductive lB:List Row->List Nat->List Nat->Prop
 |nil:lB [] [] []
 |snoc {rs:List Row}{r:Row}{l q l' q':List Nat}:lB rs l q->oM r l' q'->lB (rs++[r]) (l++l') (q++q')
theorem J7{s:Str}:Run [] (txt .put s) s.cps.toList:=by
 by_cases h:s=""
 ·rw[h,txt_nil];exact .nil
 ·rw[jd h];have:=Run.put (s:=s) Run.nil
  rwa [zad] at this
theorem XZ{s:Str}:Run s.cps.toList (txt .cut s) []:=by
 have:=(J7 (s:=s)).AS;have e:J6 (txt .put s)=txt .cut s:=by
  unfold txt;split<;>rfl
 rwa [e] at this
theorem oM.run{r:Row}{q:List Nat}(h:oM r l q):Run l (dG r) q:=by
 obtain⟨k,hk,rfl,rfl⟩:=h;have h3:Run k (if r.2.2=0 then [] else [.keep r.2.2]) k:=by
  split
  ·rename_i h
   have:k=[]:=zaH.mp (by lia)
   rw[this];exact .nil
  ·have:=Run.keep (a:=k) hk Run.nil
   rwa [zad] at this
 have:=((J7 (s:=r.1)).app<|XZ (s:=r.2.1)).app h3
 simpa[dG] using this
theorem lB.run{rs:List Row}{q:List Nat}(h:lB rs l q):Run l (cy rs) q:=by
 induction h with
 |nil=>exact .nil
 |snoc _ h2 ih=>rw[wN,tj];exact ih.app h2.run
def One:Pt->List Nat->List Nat->Prop
 |.keep n,l,q=>l=q/\n=l.length
 |.put s,l,q=>l=[]/\q=s.cps.toList
 |.cut s,l,q=>l=s.cps.toList/\q=[]
theorem AU{p:Pt}{q:List Nat}{ps:List Pt}(h:Run l (p::ps) q):∃l1 l2 q1 q2,l=l1++l2/\q=q1++q2/\Run l2 ps q2/\
  One p l1 q1:=by
 cases h with
 |keep e h=>exact⟨_,_,_,_,rfl,rfl,h,rfl,e⟩
 |put h=>exact⟨[],_,_,_,rfl,rfl,h,rfl,rfl⟩
 |cut h=>exact⟨_,_,[],_,rfl,rfl,h,rfl,rfl⟩
theorem X0{pre:List Row}{r:Row}{p:Pt}{l0 q0 l1 q1 l2 q2:List Nat}(h0:lB pre l0 q0)(h1:oM r l1 q1)
  (hp:One p l2 q2):
  ∃oN oO jE ka,lB (bf (pre,r) p).1 oN oO/\oM (bf (pre,r) p).2 jE ka/\l0++l1++l2=oN++jE/\q0++q1++q2=oO++ka:=by
 cases p with
 |keep n=>
  obtain⟨rfl,rfl⟩:=hp;obtain⟨k,hk,rfl,rfl⟩:=h1;refine⟨l0,q0,_,_,h0,⟨k++l2,?_,rfl,rfl⟩,by simp[bf],by simp[bf]⟩
  show r.2.2+(l2.length:Int)=_;rw[hk,zqA];simp
 |put s=>
  obtain⟨rfl,rfl⟩:=hp;by_cases hs:s=""
  ·have e:bf (pre,r) (.put s)=(pre,r):=by simp only[bf,if_pos hs]
   rw[e];refine⟨l0,q0,l1,q1,h0,h1,by simp,?_⟩
   rw[hs];show q0++q1++(Str.ofString "").cps.toList=_;rw[ofString_empty];simp
  ·by_cases hk:0<r.2.2
   ·have e:bf (pre,r) (.put s)=(pre++[r],((Str.ofString ""++s,"",0):Row)):=by simp only[bf,if_neg hs,if_pos hk]
    rw[e];refine⟨_,_,[],s.cps.toList,h0.snoc h1,⟨[],rfl,rfl,?_⟩,by simp,by simp⟩
    show s.cps.toList=(Str.ofString ""++s).cps.toList++[];rw[qx];simp
   ·have e:bf (pre,r) (.put s)=(pre,(r.1++s,r.2.1,r.2.2)):=by simp only[bf,if_neg hs,if_neg hk]
    rw[e];obtain⟨k,AV,rfl,rfl⟩:=h1;have:k=[]:=zaH.mp (by lia)
    subst this;refine⟨l0,q0,r.2.1.cps.toList,r.1.cps.toList++s.cps.toList,h0,⟨[],AV,by simp,by simp[app_list]⟩,by simp,by simp⟩
 |cut s=>
  obtain⟨rfl,rfl⟩:=hp;by_cases hs:s=""
  ·have e:bf (pre,r) (.cut s)=(pre,r):=by simp only[bf,if_pos hs]
   rw[e];refine⟨l0,q0,l1,q1,h0,h1,?_,by simp⟩
   rw[hs];show l0++l1++(Str.ofString "").cps.toList=_;rw[ofString_empty];simp
  ·by_cases hk:0<r.2.2
   ·have e:bf (pre,r) (.cut s)=(pre++[r],(("",Str.ofString ""++s,0):Row)):=by simp only[bf,if_neg hs,if_pos hk]
    rw[e];refine⟨_,_,s.cps.toList,[],h0.snoc h1,⟨[],rfl,?_,rfl⟩,by simp,by simp⟩
    show s.cps.toList=(Str.ofString ""++s).cps.toList++[];rw[qx];simp
   ·have e:bf (pre,r) (.cut s)=(pre,(r.1,r.2.1++s,r.2.2)):=by simp only[bf,if_neg hs,if_neg hk]
    rw[e];obtain⟨k,AV,rfl,rfl⟩:=h1;have:k=[]:=zaH.mp (by lia)
    subst this;refine⟨l0,q0,r.2.1.cps.toList++s.cps.toList,r.1.cps.toList,h0,⟨[],AV,by simp[app_list],by simp⟩,by simp,by simp⟩
theorem J8:∀(ps:List Pt) (pre:List Row) (r:Row) (l0 q0 l1 q1 l2 q2:List Nat),lB pre l0 q0->oM r l1 q1->Run l2 ps q2->
  ∃oN oO jE ka,lB (ps.foldl bf (pre,r)).1 oN oO/\oM (ps.foldl bf (pre,r)).2 jE ka/\l0++l1++l2=oN++jE/\q0++q1++q2=oO++ka
 |[],pre,r,l0,q0,l1,q1,l2,q2,h0,h1,h2=>by
  cases h2;exact⟨l0,q0,l1,q1,h0,h1,by simp,by simp⟩
 |p::ps,pre,r,l0,q0,l1,q1,l2,q2,h0,h1,h2=>by
  obtain⟨a,b,c,d,rfl,rfl,h3,h4⟩:=AU h2;obtain⟨oN,oO,jE,ka,g0,g1,e1,e2⟩:=X0 h0 h1 h4;obtain⟨X1,X3,X4,X5,f0,f1,e3,e4⟩:=J8 ps _ _ oN oO jE ka b d g0 g1 h3;refine⟨X1,X3,X4,X5,f0,f1,?_,?_⟩
  ·rw[<-e3,<-e1];simp
  ·rw[<-e4,<-e2];simp
theorem AW{ps:List Pt}{q:List Nat}(h:Run l ps q):Run l (ig ps) q:=by
 obtain⟨l0,q0,l1,q1,h0,h1,e1,e2⟩:=J8 ps [] ("","",0) [] [] [] [] l q .nil ⟨[],rfl,rfl,rfl⟩ h;have:=(h0.snoc h1).run;rw[<-e1,<-e2] at this;exact this
def tq:Sp:=fun vs H Q E=>∃x,vs=[.str x]/\good x/\Q .aF H
def AX:Sp:=fun vs H Q E=>∃c,vs=[.int c]/\∀n,0<=n->n<=400->Q (.int n) H
theorem X6{K:Frag}(vs:List V)(H:Hp)(Q:VK)(E:XK)(h:AX vs H Q E):aB (aM K [] [] (E:=E)) G4 {nx:=fun _ H'=>Q .aF H',rt:=Q} (start G3 vs) H:=by
 obtain⟨c,rfl,q⟩:=h;refine⟨_,rfl,by show(0:Int) <8;decide,_,rfl,?_⟩
 refine dC (fun _=>?_)<|fun _=>?_
 ·exact⟨_,rfl,⟨by decide,by decide⟩,by show(0:Int) <401;decide,q _ (zaA _ (by decide)) (by have:=zaB (c / 8) (show(0:Int) <401 by decide);lia)⟩
 ·exact⟨_,rfl,⟨by decide,by decide⟩,by show(0:Int) <25;decide,q _ (zaA _ (by decide)) (by have:=zaB (c / 8) (show(0:Int) <25 by decide);lia)⟩
theorem AY{x:Str}{a b c:List Nat}(h:x.cps.toList=a++(b++c))(n:Int)(hn:n=b.length):kR x (some (a.length:Int)) (some<|(a.length:Int)+n)=⟨b.toArray⟩:=by
 have e1:(a.length:Int)+n=((a.length+b.length:Nat):Int):=by rw[hn];simp
 unfold kR kQ;rw[e1,HT.nQ,HT.nQ,h];have l1:(a++(b++c)).length=a.length+(b.length+c.length):=by simp
 rw[l1];have m1:min a.length (a.length+(b.length+c.length))=a.length:=by lia
 have m2:min (a.length+b.length) (a.length+(b.length+c.length))=a.length+b.length:=by lia
 rw[m1,m2,List.drop_left,show a.length+b.length - a.length=b.length by lia,List.take_left]
theorem X7{x s:Str}{a c:List Nat}(h:x.cps.toList=a++(s.cps.toList++c)):(decide (fromIndex x.length (a.length:Int)+s.length<=x.length) && Builtin.Str.subAt x s (fromIndex x.length (a.length:Int)))=true:=by
 have e:fromIndex x.length (a.length:Int)=a.length:=by unfold fromIndex;rw[if_neg (by lia)];lia
 have hl:x.length=a.length+(s.length+c.length):=by rw[len_list x,h,len_list s];simp
 rw[e,zae,decide_eq_true_eq];refine⟨by lia,?_⟩
 unfold Builtin.Str.subAt;rw[beq_iff_eq]
 apply Array.toList_inj.mp
 rw[Array.toList_extract,h,len_list s]
 simp[List.extract_eq_drop_take]
theorem wR(x:Str):(⟨x.cps.toList.toArray⟩:Str)=x:=gU rfl
abbrev X8:List (Str×Sp):=[("need_text",tq),("sizes",sR)]
def AZ:Sp:=fun vs H Q E=>∃x a xs ps r,vs=[.str x,.ref a]/\good x/\H a=some (.lst xs)/\aJ H xs ps/\(∀p∈ps,aZ p)/\chainOk "" ps=true/\ps.length<=100000/\Run x.cps.toList ps r/\r.length<=1000000/\
 ∀H',az H H'->Q (.str ⟨r.toArray⟩) H'
theorem X9{K:Frag}{et:List (Str×Addr)}(vs:List V)(H:Hp)(Q:VK)(E:XK)(h:AZ vs H Q E):aB (aM K X8 [] (et:=et) (E:=E)) GV {nx:=fun _ H'=>Q .aF H',rt:=Q} (start GU vs) H:=by
 obtain⟨x,a,xs,ps,r,rfl,hx,ha,bS,aE,bu,hl,hr,wM,q⟩:=h;have hlen:=Paired.length bS;refine⟨_,rfl,x,rfl,hx,?_⟩;refine⟨_,rfl,a,xs,ps,rfl,ha,bS,aE,bu,by lia,fun t H1 s1 ht=>?_⟩
 refine .inr<|.inl ⟨_,_,_,_,rfl,rfl,aD.of ht,rfl,_,rfl,cY hx.1,_,rfl,?_⟩;rw[hr.over,<-len_list,zaG,zqT rfl];refine⟨zqZ _,fun pc J9=>?_⟩;have s2:az H (upd H1 pc<|.lst []):=s1.trans (sameNew J9);have J_:H pc=none:=s1.free J9;refine⟨_,rfl,a,rfl,⟨_,au.of (s2 _ _ ha)⟩,jT (K:=K) (a:=a) (xs:=xs) (fun i σ H2=>∃l1 l2 q1 q2 ts w v,σ=[some (.str x),some (.ref a),some (.int ((l1.length:Nat):Int)),some (.ref pc),w,v]/\az H H2/\
   H2 pc=some (.lst (ts.map V.str))/\x.cps.toList=l1++l2/\r=q1++q2/\Run l2 (ps.drop i) q2/\(cat ts).cps.toList=q1/\ts.length<=i)
  ⟨[],x.cps.toList,[],r,[],none,none,rfl,s2,aw,rfl,rfl,hr,rfl,zqR _⟩
  (fun i σ H2 _ ⟨_,_,_,_,_,_,_,_,s3,_⟩=>au.of (s3 _ _ ha)) ?_ ?_⟩
 ·rintro i y σ H2 hi ⟨l1,l2,q1,q2,ts,w,v,rfl,s3,hp,e1,e2,eN,ec,tl⟩;obtain⟨pt,gV,eE⟩:=bS.get hi;obtain⟨b,rfl,hb⟩:=eE.mono (bF s3);have eT:i<ps.length:=(zap.mp gV).1;have ed:ps.drop i=pt::ps.drop (i+1):=by
   rw[zbx eT]
   congr 1
   exact zam<|(zai eT).symm.trans gV
  rw[ed] at eN;obtain⟨la,lb,qa,qb,rfl,rfl,oP,one⟩:=AU eN;refine⟨b,_,rfl,.inl<|aD.of hb,rfl,_,_,rfl,_,_,rfl,rfl,?_⟩;have bt:∀o,aR pc H2 (upd H2 pc o):=fun o=>aR.upd;cases pt with
  |put s=>
   obtain⟨rfl,rfl⟩:=one;refine⟨_,rfl,_,rfl,_,rfl,.inl ⟨rfl,_,au.of hp⟩,_,rfl,_,hp,dm (by rw[zac];lia),?_⟩
   refine⟨l1,lb,q1++s.cps.toList,qb,ts++[s],_,_,rfl,lr s3 J_<|bt _,(by rw[aw,zak];rfl),by simpa using e1,by rw[e2];simp,oP,by rw[Av,Aw,app_list,ec],by simp;lia⟩
  |keep n=>
   obtain⟨rfl,hn⟩:=one;refine⟨_,rfl,_,rfl,_,rfl,_,rfl,_,rfl,.inl ⟨rfl,_,au.of hp⟩,?_⟩;refine⟨_,rfl,_,rfl,_,rfl,_,rfl,_,rfl,_,rfl,cY hx.1,?_⟩;rw[AY e1 n hn];refine⟨_,hp,dm (by rw[zac];lia),?_⟩
   refine⟨_,rfl,_,rfl,?_⟩;refine⟨l1++la,lb,q1++la,qb,ts++[⟨la.toArray⟩],some<|.str "keep",some<|.int n,?_,lr s3 J_<|bt _,(by rw[aw,zak];rfl),by rw[e1];simp,by rw[e2];simp,oP,by rw[Av,Aw,app_list,ec],by simp;lia⟩
   show[_,_,some<|V.int<|(l1.length:Int)+n,_,_,_]=_;rw[zqA,hn,zaX]
   rfl
  |cut s=>
   obtain⟨rfl,rfl⟩:=one;refine⟨_,rfl,_,rfl,_,rfl,_,rfl,_,rfl,rfl,_,rfl,_,rfl,?_⟩;show(fun c H1=>if (!c)=true then _ else _) (decide (fromIndex x.length (l1.length:Int)+s.length<=x.length) && Builtin.Str.subAt x s (fromIndex x.length (l1.length:Int))) H2
   rw[X7 e1];refine⟨_,rfl,_,rfl,cY (aE _<|zar gV).1.1,?_⟩;refine⟨l1++s.cps.toList,lb,q1,qb,ts,some<|.str "cut",some<|.str s,?_,s3,hp,by rw[e1];simp,e2,oP,ec,by lia⟩
   show[_,_,some<|V.int<|(l1.length:Int)+(s.length:Int),_,_,_]=_;rw[zqA,<-len_list,zaX]
   rfl
 ·rintro σ H2 ⟨l1,l2,q1,q2,ts,w,v,rfl,s3,hp,e1,e2,eN,ec,tl⟩;rw[hlen,List.drop_length] at eN;cases eN;rw[zad] at e2;subst e2;have nN:sz ts<=1000000:=by
   have:=Ax ts;rw[len_list,ec] at this;lia
  have er:(⟨r.toArray⟩:Str)=cat ts:=gU (by rw[ec])
  refine⟨rfl,_,rfl,ts,au.of hp,joinOk_of nN,?_⟩;have k:=q H2 s3;rw[er] at k;exact k
theorem X_(j:Int)(h0:0<=j)(h1:j<6):∃n:Int,fZ [V.int 1,V.int 2,V.int 0,V.int 3,V.int 5,V.int 40] j=some (.int n)/\0<=n/\n<=40:=by
 obtain rfl|rfl|rfl|rfl|rfl|rfl:j=0\/j=1\/j=2\/j=3\/j=4\/j=5:=by lia
 all_goals exact⟨_,rfl,by decide,by decide⟩
theorem A0(a b:List Pt):aA (a++b)=aA a+aA b:=by simp[aA]
abbrev Ya:List (Str×Sp):=[("_law_mixed",Ar),("_law_text",wG)]
theorem A4(ps:List Pt)(h:∀p∈ps,eF p):aA (ig ps)=aA ps:=by
 have I:=XW ps h;have e:ig ps=cy ((ps.foldl bf ([],((Str.ofString "",Str.ofString "",0):Row))).1++[(ps.foldl bf ([],((Str.ofString "",Str.ofString "",0):Row))).2]):=rfl;rw[e,AO,I.aA]
inductive At where|K|P (c:Nat)|C (c:Nat)
 deriving DecidableEq
abbrev Form:=List Nat×List Nat×List (List Nat×List Nat)
def nb:List At->Form
 |[]=>([],[],[])
 |.P c::xs=>(c::(nb xs).1,(nb xs).2.1,(nb xs).2.2)
 |.C c::xs=>((nb xs).1,c::(nb xs).2.1,(nb xs).2.2)
 |.K::xs=>([],[],((nb xs).1,(nb xs).2.1)::(nb xs).2.2)
def fit:List Nat->List At->Prop
 |l,[]=>l=[]
 |l,.P _::xs=>fit l xs
 |[],.K::_=>False
 |_::l,.K::xs=>fit l xs
 |[],.C _::_=>False
 |a::l,.C c::xs=>a=c/\fit l xs
def out:List Nat->List At->List Nat
 |l,[]=>[]
 |l,.P c::xs=>c::out l xs
 |[],.K::xs=>out [] xs
 |a::l,.K::xs=>a::out l xs
 |[],.C _::xs=>out [] xs
 |_::l,.C _::xs=>out l xs
def iH:List Nat->List Nat->List (List Nat×List Nat)->Form->Form
 |p,q,[],F=>(p++F.1,q++F.2.1,F.2.2)
 |p,q,(a,b)::r,F=>(p,q,((iH a b r F).1,(iH a b r F).2.1)::(iH a b r F).2.2)
theorem Yb(c:Nat)(p q:List Nat)(r:List (List Nat×List Nat))(F:Form):iH (c::p) q r F=(c::(iH p q r F).1,(iH p q r F).2.1,(iH p q r F).2.2):=by
 cases r<;>rfl
theorem Yc(c:Nat)(p q:List Nat)(r:List (List Nat×List Nat))(F:Form):iH p (c::q) r F=((iH p q r F).1,c::(iH p q r F).2.1,(iH p q r F).2.2):=by
 cases r<;>rfl
theorem lE:∀(xs ys:List At),nb (xs++ys)=iH (nb xs).1 (nb xs).2.1 (nb xs).2.2 (nb ys)
 |[],ys=>rfl
 |.K::xs,ys=>by
  simp only[zaQ,nb,lE xs ys];rfl
 |.P c::xs,ys=>by
  simp only[zaQ,nb,lE xs ys,Yb]
 |.C c::xs,ys=>by
  simp only[zaQ,nb,lE xs ys,Yc]
theorem A5{xs fA ys cq:List At}(h:nb xs=nb fA)(h':nb ys=nb cq):nb (xs++ys)=nb (fA++cq):=by rw[lE,lE,h,h']
theorem A6:∀(p:List Nat),nb (p.map .P)=(p,[],[])
 |[]=>rfl
 |c::p=>by simp only[zaw,nb,A6 p]
theorem A7:∀(p:List Nat),nb (p.map .C)=([],p,[])
 |[]=>rfl
 |c::p=>by simp only[zaw,nb,A7 p]
theorem Yd(p q:List Nat):nb (q.map .C++p.map .P)=nb (p.map .P++q.map .C):=by
 rw[lE,lE,A6,A7]
 simp[iH]
def rK(n:Nat):List At:=List.replicate n .K
theorem Ye(n:Nat)(xs:List At):nb (rK (n+1)++xs)=([],[],List.replicate n ([],[])++((nb xs).1,(nb xs).2.1)::(nb xs).2.2):=by
 induction n with
 |zero=>rfl
 |succ n ih=>
  have e:rK (n+1+1)++xs=.K::(rK (n+1)++xs):=rfl;rw[e]
  simp only[nb,ih]
  rfl
theorem A8:∀(a l:List Nat) (xs:List At),fit (a++l) (rK a.length++xs)↔fit l xs
 |[],l,xs=>Iff.rfl
 |c::a,l,xs=>A8 a l xs
theorem A9:∀(a l:List Nat) (xs:List At),out (a++l) (rK a.length++xs)=a++out l xs
 |[],l,xs=>rfl
 |c::a,l,xs=>by
  show c::out (a++l) (rK a.length++xs)=_;rw[A9 a l xs];rfl
theorem tu:∀(s l:List Nat) (xs:List At),fit l (s.map .P++xs)↔fit l xs
 |[],l,xs=>Iff.rfl
 |c::s,l,xs=>tu s l xs
theorem A_:∀(s l:List Nat) (xs:List At),out l (s.map .P++xs)=s++out l xs
 |[],l,xs=>rfl
 |c::s,l,xs=>by
  show c::out l (s.map .P++xs)=_;rw[A_ s l xs];rfl
theorem Ba:∀(s l:List Nat) (xs:List At),fit (s++l) (s.map .C++xs)↔fit l xs
 |[],l,xs=>Iff.rfl
 |c::s,l,xs=>by
  show c=c/\fit (s++l) (s.map .C++xs)↔_;rw[Ba s l xs];simp
theorem Bb:∀(s l:List Nat) (xs:List At),out (s++l) (s.map .C++xs)=out l xs
 |[],l,xs=>rfl
 |c::s,l,xs=>Bb s l xs
inductive cG:List At->List At->List At->List At->Prop
 |nil:cG [] [] [] []
 |p1 {c xs ys os ts}:cG xs ys os ts->cG (.P c::xs) ys (.P c::os) (.K::ts)
 |p2 {c xs ys os ts}:cG xs ys os ts->cG xs (.P c::ys) (.K::os) (.P c::ts)
 |kk {xs ys os ts}:cG xs ys os ts->cG (.K::xs) (.K::ys) (.K::os) (.K::ts)
 |kc {c xs ys os ts}:cG xs ys os ts->cG (.K::xs) (.C c::ys) os (.C c::ts)
 |ck {c xs ys os ts}:cG xs ys os ts->cG (.C c::xs) (.K::ys) (.C c::os) ts
 |cc {c xs ys os ts}:cG xs ys os ts->cG (.C c::xs) (.C c::ys) os ts
theorem cG.fits{xs ys os ts:List At}(h:cG xs ys os ts):∀l,fit l xs->fit l ys->fit (out l xs) ts/\fit (out l ys) os/\out (out l xs) ts=out (out l ys) os:=by
 induction h with
 |nil=>intro l h1 h2;cases h1;exact⟨rfl,rfl,rfl⟩
 | @p1 c xs ys os ts _ ih=>
  intro l h1 h2;obtain⟨a,b,d⟩:=ih l h1 h2;exact⟨a,b,by show c::_=c::_;rw[d]⟩
 | @p2 c xs ys os ts _ ih=>
  intro l h1 h2;obtain⟨a,b,d⟩:=ih l h1 h2;exact⟨a,b,by show c::_=c::_;rw[d]⟩
 | @kk xs ys os ts _ ih=>
  intro l h1 h2;cases l with
  |nil=>exact h1.elim
  |cons x l=>
   obtain⟨a,b,d⟩:=ih l h1 h2;exact⟨a,b,by show x::_=x::_;rw[d]⟩
 | @kc c xs ys os ts _ ih=>
  intro l h1 h2;cases l with
  |nil=>exact h1.elim
  |cons x l=>
   obtain⟨rfl,h2⟩:=h2;obtain⟨a,b,d⟩:=ih l h1 h2;exact⟨⟨rfl,a⟩,b,d⟩
 | @ck c xs ys os ts _ ih=>
  intro l h1 h2;cases l with
  |nil=>exact h1.elim
  |cons x l=>
   obtain⟨rfl,h1⟩:=h1;obtain⟨a,b,d⟩:=ih l h1 h2;exact⟨a,⟨rfl,b⟩,d⟩
 | @cc c xs ys os ts _ ih=>
  intro l h1 h2;cases l with
  |nil=>exact h1.elim
  |cons x l=>
   obtain⟨rfl,h1⟩:=h1;obtain⟨_,h2⟩:=h2;exact ih l h1 h2
end L2.B
variable {ps other cc:List L2.B.Pt}{ts:List L2.B.At}{H0:L2.Hp}{cz:List Nat}
namespace L2.B
open PySem PySem.Spec PyProof.Rows
def bT:Pt->List At
 |.keep n=>rK n.toNat
 |.put s=>s.cps.toList.map .P
 |.cut s=>s.cps.toList.map .C
def av(ps:List Pt):List At:=(ps.map bT).flatten
theorem dn(p:Pt)(ps:List Pt):av (p::ps)=bT p++av ps:=rfl
theorem ij(ps qs:List Pt):av (ps++qs)=av ps++av qs:=by simp[av]
theorem iI(p:Pt):av [p]=bT p:=by simp[av]
def fG:Pt->Prop|.keep n=>0<=n|_=>True
theorem Ka{p:Pt}(h:eF p):fG p:=by cases p<;>first|exact h|trivial
theorem tw{p:Pt}(h:aZ p):fG p:=by
 cases p with
 |keep n=>exact Int.le_trans (by decide) (show(1:Int)<=n from h)
 |_=>trivial
theorem Run.fits(h:Run l ps r):fit l (av ps)/\out l (av ps)=r:=by
 induction h with
 |nil=>exact⟨rfl,rfl⟩
 | @keep a l r n ps e _ ih=>
  rw[dn];have e1:bT (.keep n)=rK a.length:=by show rK n.toNat=_;rw[e];simp
  rw[e1];exact⟨(A8 a l _).mpr ih.1,by rw[A9,ih.2]⟩
 | @put s l r ps _ ih=>
  rw[dn];exact⟨(tu _ l _).mpr ih.1,by show out l (s.cps.toList.map .P++_)=_;rw[A_,ih.2]⟩
 | @cut s l r ps _ ih=>
  rw[dn];exact⟨(Ba _ l _).mpr ih.1,by show out _ (s.cps.toList.map .C++_)=_;rw[Bb,ih.2]⟩
theorem Kb:∀(n:Nat) (l:List Nat) (xs:List At),fit l (rK n++xs)->∃a b,l=a++b/\a.length=n
 | 0,l,xs,h=>⟨[],l,rfl,rfl⟩
 |n+1,[],xs,h=>(show False from h).elim
 |n+1,c::l,xs,h=>by
  obtain⟨a,b,e,hl⟩:=Kb n l xs h;exact⟨c::a,b,by rw[e];rfl,by simp[hl]⟩
theorem Bc:∀(s l:List Nat) (xs:List At),fit l (s.map .C++xs)->∃b,l=s++b
 |[],l,xs,h=>⟨l,rfl⟩
 |c::s,[],xs,h=>(show False from h).elim
 |c::s,d::l,xs,h=>by
  obtain⟨e,h⟩:=(show d=c/\fit l (s.map .C++xs) from h)
  obtain⟨b,e2⟩:=Bc s l xs h;exact⟨b,by rw[e,e2];rfl⟩
theorem tE:∀(ps:List Pt) (l:List Nat),(∀p∈ps,fG p)->fit l (av ps)->Run l ps (out l<|av ps)
 |[],l,_,h=>by
  have:l=[]:=h;subst this;exact .nil
 |.keep n::ps,l,hn,h=>by
  rw[dn] at h⊢;obtain⟨a,b,rfl,ha⟩:=Kb _ _ _ h;have sX:0<=n:=hn _ (.head _);have e1:bT (.keep n)=rK a.length:=by show rK n.toNat=_;rw[ha]
  rw[e1] at h⊢;rw[A9];exact .keep (by lia)<|tE ps b (fun p hp=>hn p<|.tail _ hp)<|(A8 a b _).mp h
 |.put s::ps,l,hn,h=>by
  rw[dn] at h⊢;show Run l _ (out l<|s.cps.toList.map .P++_);rw[A_];exact .put<|tE ps l (fun p hp=>hn p<|.tail _ hp)<|(tu _ l _).mp h
 |.cut s::ps,l,hn,h=>by
  rw[dn] at h⊢;obtain⟨b,rfl⟩:=Bc _ _ _ h;show Run _ _ (out _<|s.cps.toList.map .C++_);rw[Bb];exact .cut<|tE ps b (fun p hp=>hn p<|.tail _ hp)<|(Ba _ b _).mp h
def jF(s:NS):List At:=av s.1++((cat s.2.1).cps.toList.map .P++(cat s.2.2).cps.toList.map .C)
theorem Kc(mk:Str->Pt)(f:Nat->At)(h:∀s,bT (mk s)=s.cps.toList.map f)(x:Str):av (txt mk x)=x.cps.toList.map f:=by
 by_cases hx:x=""
 ·rw[hx,txt_nil];rfl
 ·rw[jd hx,iI,h]
theorem Kd(ch:List Pt)(p c:List Str):av (c8 ch p c)=jF (ch,p,c):=by
 unfold c8 jF;rw[ij,ij,Kc .put .P<|fun _=>rfl,Kc .cut .C<|fun _=>rfl,zao]
theorem Ke(m n:Nat):rK m++rK n=rK (m+n):=by unfold rK;rw[List.replicate_append_replicate]
theorem Yf(ch:List Pt)(n:Int)(hn:0<=n)(h:∀p∈ch,fG p):av (dF ch n)=av ch++rK n.toNat:=by
 unfold dF
 split
 ·rename_i m e
  have hm:Pt.keep m∈ch:=List.mem_of_getLast? e;have wU:0<=m:=h _ hm;have ec:ch=ch.dropLast++[.keep m]:=by
   have jw:ch≠ []:=by intro z;rw[z] at hm;cases hm
   rw[List.getLast?_eq_some_getLast jw] at e;have e':=zam e;rw[<-e',List.dropLast_concat_getLast]
  conv=>rhs;rw[ec]
  rw[ij,ij,iI,iI,zao];show _++rK (n+m).toNat=_++(rK m.toNat++rK n.toNat);rw[Ke,show(n+m).toNat=m.toNat+n.toNat by lia]
 ·rw[ij,iI];rfl
theorem Kf{mk:Str->Pt}(h:∀s,fG<|mk s)(x:Str):∀p∈txt mk x,fG p:=by
 intro p hp;unfold txt at hp
 split at hp
 ·cases hp
 ·rw[zag.mp hp];exact h x
theorem Kg{ch:List Pt}(p c:List Str)(h:∀p∈ch,fG p):∀q∈c8 ch p c,fG q:=by
 intro q hq;unfold c8 at hq;rcases zaf.mp hq with z|z
 ·rcases zaf.mp z with z|z
  ·exact h q z
  ·exact Kf (mk:=.put) (fun _=>trivial) _ q z
 ·exact Kf (mk:=.cut) (fun _=>trivial) _ q z
theorem Yg{ch:List Pt}{n:Int}(hn:0<=n)(h:∀p∈ch,fG p):∀q∈dF ch n,fG q:=by
 intro q hq;unfold dF at hq
 split at hq
 ·rename_i m e
  rcases zaf.mp hq with z|z
  ·exact h q ((List.dropLast_sublist ch).subset z)
  ·rw[zag.mp z];have wU:0<=m:=h _ (List.mem_of_getLast? e);show 0<=n+m;lia
 ·rcases zaf.mp hq with z|z
  ·exact h q z
  ·rw[zag.mp z];exact hn
theorem Yh(s:NS)(p:Pt)(hp:fG p)(h:∀q∈s.1,fG q):nb (jF<|cZ s p)=nb (jF s++bT p)/\∀q∈ (cZ s p).1,fG q:=by
 obtain⟨ch,pu,cu⟩:=s;cases p with
 |put x=>
  refine⟨?_,h⟩;show nb (av ch++((cat<|pu++[x]).cps.toList.map .P++(cat cu).cps.toList.map .C))=nb (av ch++((cat pu).cps.toList.map .P++(cat cu).cps.toList.map .C)++x.cps.toList.map .P);rw[mM,app_list,zak,zao,zao,zao];refine A5 rfl<|A5 rfl ?_;exact(Yd _ _).symm
 |cut x=>
  refine⟨?_,h⟩;show nb (av ch++((cat pu).cps.toList.map .P++(cat<|cu++[x]).cps.toList.map .C))=nb (av ch++((cat pu).cps.toList.map .P++(cat cu).cps.toList.map .C)++x.cps.toList.map .C);rw[mM,app_list,zak,zao,zao]
 |keep n=>
  have sX:0<=n:=hp;by_cases hn:0<n
  ·have e:cZ (ch,pu,cu) (.keep n)=(dF (c8 ch pu cu) n,[],[]):=if_pos hn;rw[e];refine⟨?_,Yg sX<|Kg _ _ h⟩;show nb (av (dF (c8 ch pu cu) n)++[])=nb (jF (ch,pu,cu)++rK n.toNat);rw[zad,Yf _ _ sX<|Kg _ _ h,Kd]
  ·have e:cZ (ch,pu,cu) (.keep n)=(ch,pu,cu):=if_neg hn;rw[e];refine⟨?_,h⟩;show _=nb (jF (ch,pu,cu)++rK n.toNat);rw[show n.toNat=0 by lia]
   show _=nb (_++[]);rw[zad]
theorem Kh:∀(ps:List Pt) (s:NS),(∀p∈ps,fG p)->(∀q∈s.1,fG q)->nb (jF<|ps.foldl cZ s)=nb (jF s++av ps)
 |[],s,_,_=>by show nb (jF s)=nb (jF s++[]);rw[zad]
 |p::ps,s,h,hs=>by
  obtain⟨a,b⟩:=Yh s p (h p<|.head _) hs;show nb (jF<|ps.foldl cZ<|cZ s p)=_;rw[Kh ps _ (fun q hq=>h q<|.tail _ hq) b,dn,<-zao];exact A5 a rfl
theorem tF(ps:List Pt)(h:∀p∈ps,fG p):nb (av<|jb ps)=nb (av ps):=by
 unfold jb;have e:=Kh ps ([],[],[]) h (fun q hq=>by cases hq)
 generalize ps.foldl cZ ([],[],[])=s at e⊢;show nb (av<|c8 s.1 s.2.1 s.2.2)=_;rw[Kd];exact e
theorem iJ{s:Str}(h:s≠""):∃c r,s.cps.toList=c::r:=by
 cases e:s.cps.toList with
 |nil=>exact absurd (gU (by rw[e];rfl)) h
 |cons c r=>exact⟨c,r,rfl⟩
theorem qG(s:Str)(xs:List At):nb (s.cps.toList.map .P++xs)=(s.cps.toList++(nb xs).1,(nb xs).2.1,(nb xs).2.2):=by
 rw[lE,A6];rfl
theorem oQ(s:Str)(xs:List At):nb (s.cps.toList.map .C++xs)=((nb xs).1,s.cps.toList++(nb xs).2.1,(nb xs).2.2):=by
 rw[lE,A7];rfl
theorem oR{n:Int}(h:1<=n)(xs:List At):nb (rK n.toNat++xs)=([],[],List.replicate (n.toNat - 1) ([],[])++((nb xs).1,(nb xs).2.1)::(nb xs).2.2):=by
 obtain⟨m,e⟩:∃m,n.toNat=m+1:=⟨n.toNat - 1,by lia⟩
 rw[e,Ye];rfl
theorem Ki{w:Str}(h:mH "put" w=true):w≠"put"/\w≠"cut":=by
 refine⟨fun z=>?_,fun z=>?_⟩ <;>subst z<;>exact absurd h (by decide)
theorem Yi{w:Str}(h:mH "cut" w=true):w≠"cut":=by
 intro z;subst z;exact absurd h (by decide)
theorem Kj{w:Str}(h:mH "keep" w=true):w≠"keep":=by
 intro z;subst z;exact absurd h (by decide)
theorem mS{ps:List Pt}{w:Str}(hc:chainOk w ps=true)(ho:∀p∈ps,aZ p)(hw:w="put"\/w="cut"):(nb<|av ps).1=[]:=by
 cases ps with
 |nil=>rfl
 |cons p ps=>
  simp only[chainOk,zae] at hc
  have hp:=ho p (.head _);rw[dn];cases p with
  |keep n=>show(nb<|rK n.toNat++_).1=_;rw[oR hp]
  |put s=>
   obtain⟨a,b⟩:=Ki hc.1;rcases hw with z|z
   ·exact absurd z a
   ·exact absurd z b
  |cut s=>
   show(nb<|s.cps.toList.map .C++_).1=_;rw[oQ];exact mS hc.2 (fun q hq=>ho q<|.tail _ hq)<|.inr rfl
theorem Be(hc:chainOk "cut" ps=true)(ho:∀p∈ps,aZ p):(nb<|av ps).2.1=[]:=by
 cases ps with
 |nil=>rfl
 |cons p ps=>
  simp only[chainOk,zae] at hc
  have hp:=ho p (.head _);rw[dn];cases p with
  |keep n=>show(nb<|rK n.toNat++_).2.1=_;rw[oR hp]
  |put s=>exact absurd rfl (Ki hc.1).2
  |cut s=>exact absurd rfl (Yi hc.1)
theorem Kk(hc:chainOk "keep" ps=true)(ho:∀p∈ps,aZ p)(h1:(nb<|av ps).1=[])(h2:(nb<|av ps).2.1=[]):ps=[]:=by
 cases ps with
 |nil=>rfl
 |cons p ps=>
  exfalso
  simp only[chainOk,zae] at hc
  have hp:=ho p (.head _);rw[dn] at h1 h2;cases p with
  |keep n=>exact absurd rfl (Kj hc.1)
  |put s=>
   obtain⟨c,r,e⟩:=iJ hp.2;have d6:(nb<|s.cps.toList.map .P++av ps).1=[]:=h1;rw[qG,e] at d6;cases d6
  |cut s=>
   obtain⟨c,r,e⟩:=iJ hp.2;have oS:(nb<|s.cps.toList.map .C++av ps).2.1=[]:=h2;rw[oQ,e] at oS;cases oS
theorem Kl{a b:List Nat×List Nat}{r s:List (List Nat×List Nat)}:∀{m n:Nat},List.replicate m (([],[]):List Nat×List Nat)++a::r=List.replicate n ([],[])++b::s->(m=n/\a=b/\r=s)\/(m<n/\a=([],[])/\r≠ [])\/(n<m/\b=([],[])/\s≠ [])
 | 0,0,h=>by
  have h':a::r=b::s:=h
  injection h' with h1 h2
  exact .inl ⟨rfl,h1,h2⟩
 | 0,n+1,h=>by
  have h':a::r=([],[])::(List.replicate n ([],[])++b::s):=h
  injection h' with h1 h2
  exact .inr<|.inl ⟨by lia,h1,by rw[h2];simp⟩
 |m+1,0,h=>by
  have h':([],[])::(List.replicate m ([],[])++a::r)=b::s:=h
  injection h' with h1 h2
  exact .inr<|.inr ⟨by lia,h1.symm,by rw[<-h2];simp⟩
 |m+1,n+1,h=>by
  have h':(([],[]):List Nat×List Nat)::(List.replicate m ([],[])++a::r)=([],[])::(List.replicate n ([],[])++b::s):=h
  injection h' with _ h2
  rcases Kl h2 with⟨x,y⟩|⟨x,y⟩|⟨x,y⟩
  ·exact .inl ⟨by lia,y⟩
  ·exact .inr (.inl ⟨by lia,y⟩)
  ·exact .inr (.inr ⟨by lia,y⟩)
theorem Km(q:Pt)(qs:List Pt)(ho:∀p∈q::qs,aZ p)(h:([],[],[])=nb (av (q::qs))):False:=by
 have hq:=ho q (.head _);rw[dn] at h;have h0:([],[],[])=nb (bT q++av qs):=h;cases q with
 |keep n=>
  have h1:([],[],[])=nb (rK n.toNat++av qs):=h0;rw[oR hq] at h1;have:=congrArg (fun x=>x.2.2) h1
  simp at this
 |put s=>
  obtain⟨c,r,e⟩:=iJ hq.2;have h1:([],[],[])=nb (s.cps.toList.map .P++av qs):=h0;rw[qG,e] at h1;have:=congrArg (fun x=>x.1) h1
  simp at this
 |cut s=>
  obtain⟨c,r,e⟩:=iJ hq.2;have h1:([],[],[])=nb (s.cps.toList.map .C++av qs):=h0;rw[oQ,e] at h1;have:=congrArg (fun x=>x.2.1) h1
  simp at this
theorem Kn:∀(ps qs:List Pt) (w v:Str),chainOk w ps=true->chainOk v qs=true->(∀p∈ps,aZ p)->(∀p∈qs,aZ p)->nb (av ps)=nb (av qs)->ps=qs
 |[],[],_,_,_,_,_,_,_=>rfl
 |[],q::qs,_,_,_,_,_,ho,h=>(Km q qs ho h).elim
 |p::ps,[],_,_,_,_,ho,_,h=>(Km p ps ho h.symm).elim
 |p::ps,q::qs,w,v,hw,hv,ho,dA,h=>by
  simp only[chainOk,zae] at hw hv
  have hp:=ho p (.head _);have hq:=dA q (.head _);have oT:∀x∈ps,aZ x:=fun x hx=>ho x (.tail _ hx);have lF:∀x∈qs,aZ x:=fun x hx=>dA x (.tail _ hx);rw[dn,dn] at h;have fin:p=q->nb (av ps)=nb (av qs)->p::ps=q::qs:=fun e1 e2=>by
   rw[e1,Kn ps qs p.word q.word hw.2 hv.2 oT lF e2]
  cases p with
  |keep n=>
   have h':nb (rK n.toNat++av ps)=nb (bT q++av qs):=h;rw[oR hp] at h';cases q with
   |keep m=>
    have h2:_=nb (rK m.toNat++av qs):=h';rw[oR hq] at h2;have h3:=congrArg (fun x=>x.2.2) h2;have gb:(1:Int)<=n:=hp;have Bf:(1:Int)<=m:=hq;rcases Kl h3 with⟨e1,e2,e3⟩|⟨e1,e2,e3⟩|⟨e1,e2,e3⟩
    ·refine fin (by congr 1;lia) ?_
     have qH:=congrArg Prod.fst e2;have qI:=congrArg Prod.snd e2
     simp only at qH qI
     exact Prod.ext qH<|Prod.ext qI e3
    ·have qH:=congrArg Prod.fst e2;have qI:=congrArg Prod.snd e2;have:=Kk hw.2 oT qH qI;rw[this] at e3;exact absurd rfl e3
    ·have qH:=congrArg Prod.fst e2;have qI:=congrArg Prod.snd e2;have:=Kk hv.2 lF qH qI;rw[this] at e3;exact absurd rfl e3
   |put s=>
    exfalso
    obtain⟨c,r,e⟩:=iJ hq.2;have h2:_=nb (s.cps.toList.map .P++av qs):=h';rw[qG,e] at h2;have:=congrArg (fun x=>x.1) h2
    simp at this
   |cut s=>
    exfalso
    obtain⟨c,r,e⟩:=iJ hq.2;have h2:_=nb (s.cps.toList.map .C++av qs):=h';rw[oQ,e] at h2;have:=congrArg (fun x=>x.2.1) h2
    simp at this
  |put x=>
   obtain⟨c0,r0,e0⟩:=iJ hp.2;have h':nb (x.cps.toList.map .P++av ps)=nb (bT q++av qs):=h;rw[qG] at h';have k1:=mS hw.2 oT (.inl rfl);cases q with
   |keep m=>
    exfalso
    have h2:_=nb (rK m.toNat++av qs):=h';rw[oR hq,e0] at h2;have:=congrArg (fun x=>x.1) h2
    simp at this
   |put s=>
    have h2:_=nb (s.cps.toList.map .P++av qs):=h';rw[qG,k1,mS hv.2 lF<|.inl rfl,zad,zad] at h2;have a1:=congrArg (fun x=>x.1) h2;have a2:=congrArg (fun x=>x.2) h2
    simp only at a1 a2
    refine fin (by rw[gU a1]) ?_
    exact Prod.ext (by rw[k1,mS hv.2 lF<|.inl rfl]) a2
   |cut s=>
    exfalso
    have h2:_=nb (s.cps.toList.map .C++av qs):=h';rw[oQ,mS hv.2 lF<|.inr rfl,e0] at h2;have:=congrArg (fun x=>x.1) h2
    simp at this
  |cut x=>
   obtain⟨c0,r0,e0⟩:=iJ hp.2;have h':nb (x.cps.toList.map .C++av ps)=nb (bT q++av qs):=h;have k1:=mS hw.2 oT (.inr rfl);have k2:=Be hw.2 oT;rw[oQ] at h';cases q with
   |keep m=>
    exfalso
    have h2:_=nb (rK m.toNat++av qs):=h';rw[oR hq,e0] at h2;have:=congrArg (fun x=>x.2.1) h2
    simp at this
   |put s=>
    exfalso
    obtain⟨c,r,e⟩:=iJ hq.2;have h2:_=nb (s.cps.toList.map .P++av qs):=h';rw[qG,k1,e] at h2;have:=congrArg (fun x=>x.1) h2
    simp at this
   |cut s=>
    have h2:_=nb (s.cps.toList.map .C++av qs):=h';rw[oQ,k1,k2,mS hv.2 lF<|.inr rfl,Be hv.2 lF,zad,zad] at h2;have a1:=congrArg (fun x=>x.2.1) h2;have a2:=congrArg (fun x=>x.2.2) h2
    simp only at a1 a2
    refine fin (by rw[gU a1]) ?_
    exact Prod.ext (by rw[k1,mS hv.2 lF<|.inr rfl])<|Prod.ext (by rw[k2,Be hv.2 lF]) a2
termination_by ps qs=>ps.length+qs.length
theorem oU{k:Str}{r:List (Str×V)}:((k,v)::r).lookup k=some v:=by simp[List.lookup]
theorem gj{k j:Str}{r:List (Str×V)}(h:¬k=j):((j,v)::r).lookup k=r.lookup k:=by
 have:(k==j)=false:=by simpa using h
 simp[List.lookup,this]
theorem Bg{k:Str}{w:V}{r:List (Str×V)}:aU k v ((k,w)::r)=(k,v)::r:=by simp[aU]
theorem oW{k j:Str}{w:V}{r:List (Str×V)}(h:¬j=k):aU k v ((j,w)::r)=(j,w)::aU k v r:=by simp[aU,h]
theorem Yj{T:Ty}{P Q:Bool->Prop}(h:bJ T v H P)(i:∀b,P b->Q b):bJ T v H Q:=by
 cases v with
 |ref a=>
  unfold bJ at h⊢
  simp only at h⊢
  split at h
  all_goals first|exact i _ h|exact h.elim
 |aF=>exact i _ h
 |bl b=>exact i _ h
 |int _=>exact i _ h
 |str _=>exact i _ h
 |_=>exact False.elim h
theorem Yk{T:Ty}{P:Bool->Prop}(h:bJ T v H P)(s:az H H'):bJ T v H' P:=by
 cases v with
 |ref a=>
  unfold bJ at h⊢
  simp only at h⊢
  cases e:H a with
  |none=>rw[e] at h;exact h.elim
  |some o=>rw[e] at h;rw[s _ _ e];exact h
 |aF=>exact h
 |bl b=>exact h
 |int _=>exact h
 |str _=>exact h
 |_=>exact False.elim h
def je(T:Ty)(v:V)(H:Hp):Prop:=bJ T v H fun b=>b=false
theorem je.same{T:Ty}(h:je T v H)(s:az H H'):je T v H':=Yk h s
theorem je.go{T:Ty}{Q:Bool->Prop}(h:je T v H)(q:Q false):bJ T v H Q:=Yj h fun b e=>by rw[e];exact q
def Yl(x:Str):Bool:=x.cps.toList.all fun c=>SG.cps.contains c
theorem Ko{α:Type}(p:α->Bool):∀l:List α,l.all p=false->(l.takeWhile p).length<l.length
 |[],h=>by cases h
 |c::l,h=>by
  rw[List.takeWhile_cons];cases hc:p c with
  |false=>simp
  |true=>
   rw[zbb,hc,Bool.true_and] at h;have:=Ko p l h
   simp;lia
theorem Ym(x y:Str)(h:(x.cps.toList.all fun c=>y.cps.contains c)=false):Txt.lstripChars x y≠"":=by
 have lt:=Ko _ _ h;have e0:stripLo y.cps.contains true x=(x.cps.toList.takeWhile y.cps.contains).length:=by
  unfold stripLo;rw[if_pos rfl]
 have e1:∀n,stripHi y.cps.contains false x n=x.length:=fun n=>rfl;intro z;have z2:=congrArg Str.length z;have l0:(Str.ofString "").length=0:=rfl;rw[l0] at z2;unfold Txt.lstripChars Txt.stripBy stripSame stripped at z2;rw[e0,e1] at z2;have hx:x.cps.size=x.cps.toList.length:=by simp
 split at z2
 ·have:x.cps.size=0:=z2;lia
 ·have z3:(x.cps.extract (x.cps.toList.takeWhile y.cps.contains).length x.cps.size).size=0:=z2;rw[Array.size_extract,Nat.min_self] at z3;have z4:x.cps.size - (List.takeWhile (fun c=>y.cps.contains c) x.cps.toList).length=0:=z3;lia
def qJ(v:V)(H:Hp):Prop:=(∃x,v=.str x/\x.length<=1000000/\Yl x=false)\/je .str v H
theorem qJ.same(h:qJ v H)(s:az H H'):qJ v H':=by
 rcases h with h|h
 ·exact .inl h
 ·exact .inr (h.same s)
def qK(v:V)(H:Hp):Prop:=(∃b,v=.bl b)\/je .int v H
theorem qK.same(h:qK v H)(s:az H H'):qK v H':=by
 rcases h with h|h
 ·exact .inl h
 ·exact .inr (h.same s)
def tG:Sp:=fun vs H Q E=>∃v,vs=[v]/\((∃i,v=.int i/\Q (.bl true) H)\/(qK v H/\Q (.bl false) H))
theorem Yn{K:Frag}:c9 (tG) (fun E=>aM K [] [] (E:=E)) Gy iE:=by
 intro vs H Q E h;obtain⟨v,rfl,⟨i,rfl,q⟩|⟨⟨b,rfl⟩|hn,q⟩⟩:=h
 ·exact⟨_,rfl,rfl,_,rfl,fm ⟨_,rfl,rfl,q⟩⟩
 ·exact⟨_,rfl,rfl,_,rfl,fm ⟨_,rfl,rfl,q⟩⟩
 ·exact⟨_,rfl,rfl,hn.go ⟨_,rfl,iZ q⟩⟩
theorem Yo{E:XK}(h:ja vs H Q E):tG vs H Q E:=by
 obtain⟨i,rfl,q⟩:=h;exact⟨_,rfl,.inl ⟨i,rfl,q⟩⟩
def Bh:Sp:=fun vs H Q E=>∃v,vs=[v]/\((∃x,v=.str x/\good x/\Q (.bl true) H)\/(qJ v H/\Q (.bl false) H))
theorem Yp{K:Frag}:c9 (Bh) (fun E=>aM K [] gS (E:=E)) z7 iE:=by
 intro vs H Q E h;obtain⟨v,rfl,⟨x,rfl,hx,q⟩|⟨⟨x,rfl,hl,hx⟩|hn,q⟩⟩:=h
 ·exact WX _ _ _ _ ⟨x,rfl,hx,q⟩
 ·refine⟨_,rfl,rfl,_,rfl,fm ⟨_,rfl,rfl,cY hl,?_⟩⟩;show Q (.bl<|false ^^ decide (V.str (Txt.lstripChars x SG)=V.str "")) H;rw[zqF<|fun z=>Ym x SG hx (by injection z)]
  exact q
 ·exact⟨_,rfl,rfl,hn.go ⟨_,rfl,iZ q⟩⟩
abbrev Yq:List (Str×Sp):=[("is_text",Bh)]
def Kp(C:Addr):Sp:=fun vs H Q E=>∃v,vs=[v]/\((∃x,v=.str x/\good x/\Q .aF H)\/(qJ v H/\E (.ref C) none H))
theorem Yr{K:Frag}:c9 (Kp C) (fun E=>aM K Yq [] (et:=[("BadText",C)]) (E:=E)) GB iE:=by
 intro vs H Q E h;obtain⟨v,rfl,⟨x,rfl,hx,q⟩|⟨hn,q⟩⟩:=h
 ·exact⟨_,rfl,_,rfl,.inl ⟨x,rfl,hx,q⟩⟩
 ·exact⟨_,rfl,_,rfl,.inr ⟨hn,ji,q⟩⟩
theorem Ys{E:XK}(h:tq vs H Q E):Kp C vs H Q E:=by
 obtain⟨x,rfl,hx,q⟩:=h;exact⟨_,rfl,.inl ⟨x,rfl,hx,q⟩⟩
def Bi(K:Frag):Sp:=fun vs H Q E=>∃v p xs,vs=[v,.ref p]/\aD K H p xs/\xs.all hU=true/\((∃w,v=.str w/\Q (.bl<|f_ (.str w) xs) H)\/(je .str v H/\Q (.bl false) H))
theorem Yt{K:Frag}:c9 (Bi K) (fun E=>aM K [] [] (E:=E)) z6 z5:=by
 intro vs H Q E h;obtain⟨v,p,xs,rfl,hp,hf,⟨w,rfl,q⟩|⟨hn,q⟩⟩:=h
 ·exact WY _ _ _ _ ⟨w,p,xs,rfl,hp,hf,q⟩
 ·exact⟨_,rfl,rfl,hn.go ⟨_,rfl,iZ q⟩⟩
theorem Yu{K:Frag}{E:XK}(h:oG K vs H Q E):Bi K vs H Q E:=by
 obtain⟨w,p,xs,rfl,hp,hf,q⟩:=h;exact⟨_,p,xs,rfl,hp,hf,.inl ⟨w,rfl,q⟩⟩
def Yv(v:V)(H:Hp):Prop:=je .tuple v H\/∃a xs,v=.ref a/\H a=some (.tup xs)/\xs.length<=1000000/\(xs.length≠2\/∃w t,xs=[w,t]/\
 (je .str w H\/(∃s,w=.str s/\s≠"keep"/\s≠"cut"/\s≠"put")\/(w=.str "keep"/\(qK t H\/∃n,t=.int n/\n<1))\/((w=.str "cut"\/w=.str "put")/\(qJ t H\/t=.str ""))))
abbrev wV(K:Frag):List (Str×Sp):=[("is_word",Bi K),("is_whole",tG),("is_text",Bh)]
def Kq:Sp:=fun vs H Q E=>∃v,vs=[v]/\((∃p,i_ H v p/\aZ p/\∀H',az H H'->Q (.bl true) H')\/(Yv v H/\∀H',az H H'->Q (.bl false) H'))
theorem Kr(s t:Str):f_ (.str s) [.str t]=(t==s):=by
 unfold f_;show(gG (.str t) (.str s)||false)=_;rw[zbs];rfl
theorem Yw{K:Frag}:c9 (Kq) (fun E=>aM K (wV K) [] (E:=E)) wd iE:=by
 intro vs H Q E h;have two:∀(a:Addr) (w t:V) (Q1:VK) (H1:Hp) (σ:St),σ[0]?=some (some<|.ref a)->H1 a=some (.tup [w,t])->
   (∀(tt:Addr) H2,az H1 H2->∀b:Bool,(b=true->w=.str "cut"\/w=.str "put")->(b=false->w≠ .str "cut"/\w≠ .str "put")->Q1 (.bl b) H2)->(je .str w H1\/∃s,w=.str s)->
   ae (aM K (wV K) [] (E:=E)) (.call 0 [(.ix (.v 0)<|.c<|.int 0),(.tup [(.c<|.str "cut"),(.c<|.str "put")])]) σ H1 Q1:=by
  intro a w t Q1 H1 σ h0 ha q hw;refine⟨_,h0,.inr<|.inl ⟨_,_,_,_,rfl,rfl,aD.of ha,rfl,dc,fun t ht=>?_⟩⟩;have s2:=sameNew (o:=.tup [V.str "cut",V.str "put"]) ht;refine⟨w,t,_,rfl,aD.of aw,rfl,?_⟩;rcases hw with hw|⟨s,rfl⟩
  ·refine .inr ⟨hw.same s2,q t _ s2 false (fun z=>by cases z) fun _=>⟨?_,?_⟩⟩
   ·rintro rfl;cases (show true=false from hw)
   ·rintro rfl;cases (show true=false from hw)
  ·refine .inl ⟨s,rfl,q t _ s2 _ (fun z=>?_) fun z=>?_⟩
   ·have z':((Str.ofString "cut"==s)||((Str.ofString "put"==s)||false))=true:=z
    simp only[zbs,Bool.or_eq_true,beq_iff_eq] at z'
    rcases z' with z'|z'<;>subst z'
    ·exact .inl rfl
    ·exact .inr rfl
   ·have z':((Str.ofString "cut"==s)||((Str.ofString "put"==s)||false))=false:=z
    simp only[zbs,Bool.or_eq_false_iff,beq_eq_false_iff_ne] at z'
    exact⟨fun y=>z'.1 (by injection y with y;exact y.symm),fun y=>z'.2 (by injection y with y;exact y.symm)⟩
 obtain⟨v,rfl,⟨p,⟨a,rfl,ha⟩,hp,q⟩|⟨hn|⟨a,xs,rfl,ha,hl,hb⟩,q⟩⟩:=h
 ·refine⟨_,rfl,rfl,qv ha ⟨_,rfl,.inr ⟨_,aD.of ha,_,rfl,?_⟩⟩⟩;refine⟨_,rfl,.inr<|.inl ⟨_,_,_,_,rfl,rfl,aD.of ha,rfl,ji,fun t1 jC=>?_⟩⟩;have s1:=sameNew (o:=.tup [V.str "keep"]) jC;refine⟨.str p.word,t1,[.str "keep"],rfl,aD.of aw,rfl,.inl ⟨p.word,rfl,?_⟩⟩;have gW:=s1 _ _ ha;generalize upd H t1 (.tup [V.str "keep"])=H1 at s1 gW;have fin:∀(s:Str),good s->s≠""->H1 a=some (.tup [.str p.word,.str s])->p.word="put"\/p.word="cut"->aB (aM K (wV K) [] (E:=E)) (wd.drop 2) (Dn Q) (start iE [.ref a]) H1:=by
   intro s gs ns hs hw;refine two a (.str p.word) (.str s) _ H1 _ rfl hs (fun tt H2 s2 b qL lG=>?_)<|.inr ⟨_,rfl⟩;have eb:b=true:=by
    cases b with
    |true=>rfl
    |false=>
     obtain⟨z1,z2⟩:=lG rfl;rcases hw with z|z
     ·exact absurd (congrArg V.str z) z2
     ·exact absurd (congrArg V.str z) z1
   subst eb;have aP:=s2 _ _ hs;refine⟨_,rfl,fm ⟨_,rfl,.inr<|.inl ⟨_,_,_,_,rfl,rfl,aD.of aP,rfl,.str s,rfl,.inl ⟨s,rfl,gs,_,rfl,?_⟩⟩⟩⟩;refine fm ⟨_,rfl,.inr<|.inl ⟨_,_,_,_,rfl,rfl,aD.of aP,rfl,?_⟩⟩;show Q (.bl<|true ^^ decide (V.str s=V.str "")) _;rw[zqF<|fun z=>ns (by injection z)]
   exact q _<|s1.trans s2
  cases p with
  |keep n=>
   rw[show f_ (.str (Pt.keep n).word) [.str "keep"]=true by show f_ (.str "keep") [.str "keep"]=true;decide]
   refine⟨_,rfl,.inr<|.inl ⟨_,_,_,_,rfl,rfl,aD.of gW,rfl,.int n,rfl,.inl ⟨n,rfl,_,rfl,?_⟩⟩⟩;refine fm ⟨_,rfl,.inr<|.inl ⟨_,_,_,_,rfl,rfl,aD.of gW,rfl,trivial,?_⟩⟩;show Q (.bl<|decide<|1<=n) H1;rw[zqT (show(1:Int)<=n from hp)]
   exact q _ s1
  |put s=>
   rw[show f_ (.str (Pt.put s).word) [.str "keep"]=false by show f_ (.str "put") [.str "keep"]=false;decide]
   exact fin s hp.1 hp.2 gW<|.inl rfl
  |cut s=>
   rw[show f_ (.str (Pt.cut s).word) [.str "keep"]=false by show f_ (.str "cut") [.str "keep"]=false;decide]
   exact fin s hp.1 hp.2 gW<|.inr rfl
 ·exact⟨_,rfl,rfl,hn.go<|q _<|az.refl _⟩
 ·refine⟨_,rfl,rfl,qv ha ⟨_,rfl,.inr ⟨_,aD.of ha,_,rfl,?_⟩⟩⟩;show if (true ^^ decide (V.int (xs.length:Int)=V.int 2))=true then _ else _
  rcases hb with hb|⟨w,t,rfl,hb⟩
  ·rw[zqF<|fun z=>hb (by injection z with z;lia)]
   exact q _<|az.refl _
  ·refine⟨_,rfl,.inr<|.inl ⟨_,_,_,_,rfl,rfl,aD.of ha,rfl,ji,fun t1 jC=>?_⟩⟩;have s1:=sameNew (o:=.tup [V.str "keep"]) jC;refine⟨w,t1,[.str "keep"],rfl,aD.of aw,rfl,?_⟩;have gW:=s1 _ _ ha;generalize upd H t1 (.tup [V.str "keep"])=H1 at s1 gW;have no:(je .str w H1\/∃s,w=.str s)->w≠ .str "cut"->w≠ .str "put"->aB (aM K (wV K) [] (E:=E)) (wd.drop 2) (Dn Q) (start iE [.ref a]) H1:=by
    intro hw n1 n2;refine two a w t _ H1 _ rfl gW (fun tt H2 s2 b qL lG=>?_) hw;have eb:b=false:=by
     cases b with
     |false=>rfl
     |true=>rcases qL rfl with z|z;exact absurd z n1;exact absurd z n2
    subst eb;exact⟨_,rfl,iZ<|q _<|s1.trans s2⟩
   rcases hb with hb|⟨s,rfl,n0,n1,n2⟩|⟨rfl,hb⟩|⟨hw,hb⟩
   ·refine .inr ⟨hb.same s1,no (.inl<|hb.same s1) ?_ ?_⟩
    ·rintro rfl;cases (show true=false from hb)
    ·rintro rfl;cases (show true=false from hb)
   ·refine .inl ⟨s,rfl,?_⟩;rw[Kr,beq_eq_false_iff_ne.mpr<|Ne.symm n0];exact no (.inr ⟨s,rfl⟩) (fun z=>n1 (by injection z))<|fun z=>n2 (by injection z)
   ·refine .inl ⟨_,rfl,?_⟩;rw[show f_ (.str "keep") [.str "keep"]=true by decide]
    refine⟨_,rfl,.inr<|.inl ⟨_,_,_,_,rfl,rfl,aD.of gW,rfl,t,rfl,?_⟩⟩;rcases hb with hb|⟨n,rfl,hn⟩
    ·exact .inr ⟨hb.same s1,_,rfl,iZ<|q _ s1⟩
    ·refine .inl ⟨n,rfl,_,rfl,fm ⟨_,rfl,.inr<|.inl ⟨_,_,_,_,rfl,rfl,aD.of gW,rfl,trivial,?_⟩⟩⟩;show Q (.bl<|decide<|1<=n) H1;rw[zqF (by lia)]
     exact q _ s1
   ·have Yx:∃s,w=.str s/\(Str.ofString "keep"==s)=false:=by
     rcases hw with rfl|rfl
     ·exact⟨_,rfl,by decide⟩
     ·exact⟨_,rfl,by decide⟩
    obtain⟨s,rfl,hk⟩:=Yx;refine .inl ⟨s,rfl,?_⟩;rw[Kr,hk];refine two a (.str s) t _ H1 _ rfl gW (fun tt H2 s2 b qL lG=>?_)<|.inr ⟨s,rfl⟩;have eb:b=true:=by
     cases b with
     |true=>rfl
     |false=>
      obtain⟨z1,z2⟩:=lG rfl;rcases hw with z|z
      ·exact absurd z z1
      ·exact absurd z z2
    subst eb;have kg:=s2 _ _ gW;refine⟨_,rfl,fm ⟨_,rfl,.inr<|.inl ⟨_,_,_,_,rfl,rfl,aD.of kg,rfl,t,rfl,?_⟩⟩⟩;rcases hb with hb|rfl
    ·exact .inr ⟨hb.same<|s1.trans s2,_,rfl,iZ<|q _<|s1.trans s2⟩
    ·refine .inl ⟨_,rfl,⟨by decide,fun c hc=>by cases hc⟩,_,rfl,fm ⟨_,rfl,.inr<|.inl ⟨_,_,_,_,rfl,rfl,aD.of kg,rfl,?_⟩⟩⟩
     exact q _<|s1.trans s2
theorem Yy{E:XK}(h:Au vs H Q E):Kq vs H Q E:=by
 obtain⟨v,p,rfl,hp,ho,q⟩:=h;exact⟨_,rfl,.inl ⟨p,hp,ho,q⟩⟩
end L2.B
namespace L2
open PySem PySem.Spec PyProof.Rows
section
variable {Γ:bo}{D:Ends}{σ:St}{H:Hp}{r:List RS}{Q:VK}{QA:List V->Hp->Prop}{QT:Bool->Hp->Prop}
theorem aj(h:σ[i]?=some (some v))(q:Q v H):ae Γ (.v i) σ H Q:=⟨_,h,q⟩
theorem ax(q:Q v H):ae Γ (.c v) σ H Q:=q
theorem Yz(q:Q (Γ.gv j) H):ae Γ (.g j) σ H Q:=q
theorem br{op:Operator}{b:RE}(h:ae Γ a σ H fun x H1=>ae Γ b σ H1 fun y H2=>iD Γ.K op x y H2 Q):ae Γ (.bin op a b) σ H Q:=h
theorem oX{op:CmpOp}{b:RE}(h:ae Γ a σ H fun x H1=>ae Γ b σ H1 fun y H2=>cO Γ.K op x y H2 Q):ae Γ (.cmp op a b) σ H Q:=h
theorem bD{b:RE}(h:ae Γ a σ H fun x H1=>ae Γ b σ H1 fun y H2=>ma Γ.K Γ.sd x y H2 Q):ae Γ (.ix a b) σ H Q:=h
theorem YA(h:ba Γ as σ H fun vs H1=>Γ.fs j (vs++[]) H1 Q Γ.E):ae Γ (.call j as) σ H Q:=h
theorem cv(sp:Sp)(hs:Γ.fs j=sp)(h:ba Γ as σ H fun vs H1=>sp vs H1 Q Γ.E):ae Γ (.call j as) σ H Q:=by
 subst hs;refine YA ?_;have e:(fun(vs:List V) (H1:Hp)=>Γ.fs j (vs++[]) H1 Q Γ.E)=fun vs H1=>Γ.fs j vs H1 Q Γ.E:=by
  funext vs H1;rw[zad]
 rw[e];exact h
theorem YB{b:kS}(h:ba Γ as σ H fun vs H1=>i4 Γ.K b vs H1 Q):ae Γ (.blt b as) σ H Q:=h
theorem gk(h:ba Γ as σ H fun xs H1=>xs.length<=sizeLine/\∀p,H1 p=none->Q (.ref p) (upd H1 p<|.tup xs)):ae Γ (.tup as) σ H Q:=h
theorem e7(h:ba Γ as σ H fun xs H1=>xs.length<=sizeLine/\∀p,H1 p=none->Q (.ref p) (upd H1 p<|.lst xs)):ae Γ (.lst as) σ H Q:=h
theorem aN(q:QA [] H):ba Γ [] σ H QA:=q
theorem ay(h:ae Γ a σ H fun x H1=>ba Γ as σ H1 fun xs H2=>QA (x::xs) H2):ba Γ (a::as) σ H QA:=h
theorem bK{e:RE}(h:ae Γ e σ H fun x H1=>aB Γ r D (σ.set i<|some x) H1):aB Γ (.asg i e::r) D σ H:=h
theorem eO{e:RE}(h:ae Γ e σ H fun _ H1=>aB Γ r D σ H1):aB Γ (.drop e::r) D σ H:=h
theorem dq{e:RE}(h:ae Γ e σ H D.rt):aB Γ (.ret e::r) D σ H:=h
end
end L2
namespace L2.B
open PySem PySem.Spec PyProof.Rows
theorem Paired.app{α β:Type}{R:α->β->Prop}:∀{xs fA:List α}{ys cq:List β},Paired R xs ys->Paired R fA cq->Paired R (xs++fA) (ys++cq)
 |_,_,_,_,.nil,s=>s
 |_,_,_,_,.cons r t,s=>.cons r (Paired.app t s)
theorem Run.good(h:Run l ps r)(hl:∀c∈l,SG.cps.contains c=true)(hp:∀p∈ps,mR p):∀c∈r,SG.cps.contains c=true:=by
 induction h with
 |nil=>exact hl
 |keep e _ ih=>
  intro c hc;rcases zaf.mp hc with z|z
  ·exact hl c (zaf.mpr<|.inl z)
  ·exact ih (fun d hd=>hl d<|zaf.mpr<|.inr hd) (fun p h=>hp p<|.tail _ h) c z
 |put _ ih=>
  intro c hc;rcases zaf.mp hc with z|z
  ·exact(hp _ (.head _):sg _) c z
  ·exact ih hl (fun p h=>hp p<|.tail _ h) c z
 |cut _ ih=>exact ih (fun d hd=>hl d<|zaf.mpr<|.inr hd) (fun p h=>hp p<|.tail _ h)
theorem Run.len(h:Run l ps r):r.length<=l.length+aA ps:=by
 induction h with
 |nil=>simp
 | @keep a l r n ps e _ ih=>
  have:aA (.keep n::ps)=0+aA ps:=by simp[aA,bY]
  simp only[zqA];lia
 | @put s l r ps _ ih=>
  have:aA (.put s::ps)=s.length+aA ps:=by simp[aA,bY]
  have e:=len_list s
  simp only[zqA];lia
 | @cut s l r ps _ ih=>
  have:aA (.cut s::ps)=s.length+aA ps:=by simp[aA,bY]
  simp only[zqA];lia
theorem Ks{x:Str}(k:Nat)(n:Int)(m:Nat)(hn:n=m):kR x (some (k:Int)) (some<|(k:Int)+n)=⟨((x.cps.toList.drop k).take m).toArray⟩:=by
 have e1:(k:Int)+n=((k+m:Nat):Int):=by rw[hn];simp
 unfold kR kQ;rw[e1,HT.nQ,HT.nQ]
 congr 1
 by_cases h:k<=x.cps.toList.length
 ·rw[show min k x.cps.toList.length=k by lia]
  by_cases h2:k+m<=x.cps.toList.length
  ·rw[show min (k+m) x.cps.toList.length=k+m by lia,Nat.add_sub_cancel_left]
  ·rw[show min (k+m) x.cps.toList.length=x.cps.toList.length by lia,zaL (by rw[zaz];lia),zaL (by rw[zaz];lia)]
 ·rw[show min k x.cps.toList.length=x.cps.toList.length by lia,List.drop_length,List.drop_of_length_le (by lia),List.take_nil,List.take_nil]
def Bj:Sp:=fun vs H Q E=>∃x a xs ps r,vs=[.str x,.ref a]/\good x/\H a=some (.lst xs)/\aJ H xs ps/\(∀p∈ps,Ap p)/\Run x.cps.toList ps r/\r.length<=1000000/\Q (.str ⟨r.toArray⟩) H
theorem YC{K:Frag}:c9 (Bj) (fun E=>aM K [] [] (E:=E)) Hc z_:=by
 intro vs H Q E h;obtain⟨x,a,xs,ps,r,rfl,hx,ha,bS,aE,hr,wM,q⟩:=h;have hlen:=Paired.length bS;refine⟨_,rfl,a,rfl,⟨_,au.of ha⟩,jT (K:=K) (a:=a) (xs:=xs) (fun i σ H2=>∃l1 l2 q1 q2 w v,σ=[some (.str x),some (.ref a),some (.str ⟨q1.toArray⟩),some (.int ((l1.length:Nat):Int)),w,v]/\H2=H/\
   x.cps.toList=l1++l2/\r=q1++q2/\Run l2 (ps.drop i) q2)
  ⟨[],x.cps.toList,[],r,none,none,rfl,rfl,rfl,rfl,hr⟩ (fun i σ H2 _ ⟨_,_,_,_,_,_,_,e,_⟩=>e ▸ au.of ha) ?_ ?_⟩
 ·rintro i y σ H2 hi ⟨l1,l2,q1,q2,w,v,rfl,rfl,e1,e2,eN⟩;obtain⟨pt,gV,b,rfl,hb⟩:=bS.get hi;have eT:i<ps.length:=(zap.mp gV).1;have ed:ps.drop i=pt::ps.drop (i+1):=by
   rw[zbx eT]
   congr 1
   exact zam<|(zai eT).symm.trans gV
  rw[ed] at eN;obtain⟨la,lb,qa,qb,rfl,rfl,oP,one⟩:=AU eN;have YD:=aE pt (zar gV);have Kt:q1.length+qa.length<=1000000:=by rw[e2] at wM;simp at wM;lia
  refine⟨b,_,rfl,.inl<|aD.of hb,rfl,_,_,rfl,_,_,rfl,rfl,?_⟩;cases pt with
  |put s=>
   obtain⟨rfl,rfl⟩:=one;refine⟨_,rfl,_,rfl,_,rfl,_,rfl,cY (by rw[len_list,len_list];exact Kt),?_⟩
   refine⟨l1,lb,q1++s.cps.toList,qb,some<|.str "put",some<|.str s,?_,rfl,e1,by rw[e2];simp,oP⟩
   show[_,_,some<|V.str<|⟨q1.toArray⟩++s,_,_,_]=_;rw[show(⟨q1.toArray⟩++s:Str)=⟨(q1++s.cps.toList).toArray⟩ from gU (by rw[app_list])]
   rfl
  |cut s=>
   obtain⟨rfl,rfl⟩:=one;refine⟨_,rfl,_,rfl,_,rfl,_,rfl,_,rfl,_,rfl,cY YD,?_⟩;refine⟨l1++s.cps.toList,lb,q1,qb,some<|.str "cut",some<|.str s,?_,rfl,by rw[e1];simp,e2,oP⟩
   show[_,_,_,some<|V.int<|(l1.length:Int)+(s.length:Int),_,_]=_;rw[zqA,<-len_list,zaX]
   rfl
  |keep n=>
   obtain⟨rfl,hn⟩:=one;refine⟨_,rfl,_,rfl,_,rfl,_,rfl,?_⟩;refine⟨_,rfl,_,rfl,_,rfl,_,rfl,_,rfl,_,rfl,_,rfl,cY hx.1,?_⟩;rw[AY e1 n hn];refine⟨cY (by rw[len_list,len_list];exact Kt),?_⟩
   refine⟨_,rfl,_,rfl,?_⟩;refine⟨l1++la,lb,q1++la,qb,some<|.str "keep",some<|.int n,?_,rfl,by rw[e1];simp,by rw[e2];simp,oP⟩
   show[_,_,some<|V.str<|⟨q1.toArray⟩++ ⟨la.toArray⟩,some<|V.int<|(l1.length:Int)+n,_,_]=_;rw[show(⟨q1.toArray⟩++ ⟨la.toArray⟩:Str)=⟨(q1++la).toArray⟩ from gU (by rw[app_list]),zqA,hn,zaX]
   rfl
 ·rintro σ H2 ⟨l1,l2,q1,q2,w,v,rfl,rfl,e1,e2,eN⟩;rw[hlen,List.drop_length] at eN;cases eN;rw[zad] at e2;subst e2;exact⟨_,rfl,q⟩
def bG:Pt->Nat|.keep n=>n.toNat|.put s=>s.length|.cut s=>s.length
def d9:Pt->Nat->Pt
 |.keep n,o=>.keep (n - o)
 |.put s,o=>.put ⟨(s.cps.toList.drop o).toArray⟩
 |.cut s,o=>.cut ⟨(s.cps.toList.drop o).toArray⟩
def bp:Pt->Nat->Pt
 |.keep _,o=>.keep o
 |.put s,o=>.put ⟨(s.cps.toList.take o).toArray⟩
 |.cut s,o=>.cut ⟨(s.cps.toList.take o).toArray⟩
theorem Ku(p:Pt)(o:Nat):(d9 p o).word=p.word:=by cases p<;>rfl
theorem YE(p:Pt)(o:Nat):(bp p o).word=p.word:=by cases p<;>rfl
theorem lH{p:Pt}(h:aZ p):oF p=(bG p:Int)/\1<=bG p:=by
 cases p with
 |keep n=>
  have h1:(1:Int)<=n:=h;exact⟨by show n=(n.toNat:Int);lia,by show 1<=n.toNat;lia⟩
 |put s=>
  obtain⟨c,r,e⟩:=iJ h.2;exact⟨rfl,by show 1<=s.length;rw[len_list,e];simp⟩
 |cut s=>
  obtain⟨c,r,e⟩:=iJ h.2;exact⟨rfl,by show 1<=s.length;rw[len_list,e];simp⟩
theorem lI(l:List Nat):(⟨l.toArray⟩:Str).length=l.length:=by rw[len_list]
theorem tH(p:Pt)(o:Nat)(h:o<=bG p):bG (d9 p o)=bG p - o:=by
 cases p with
 |keep n=>
  have h':o<=n.toNat:=h;show(n - (o:Int)).toNat=n.toNat - o;lia
 |put s=>show(⟨(s.cps.toList.drop o).toArray⟩:Str).length=s.length - o;rw[lI,zaz,<-len_list]
 |cut s=>show(⟨(s.cps.toList.drop o).toArray⟩:Str).length=s.length - o;rw[lI,zaz,<-len_list]
theorem Bk(p:Pt)(o:Nat)(h:o<=bG p):bG (bp p o)=o:=by
 cases p with
 |keep n=>show((o:Int)).toNat=o;lia
 |put s=>
  have h':o<=s.length:=h;rw[len_list] at h';show(⟨(s.cps.toList.take o).toArray⟩:Str).length=o;rw[lI,zaF];lia
 |cut s=>
  have h':o<=s.length:=h;rw[len_list] at h';show(⟨(s.cps.toList.take o).toArray⟩:Str).length=o;rw[lI,zaF];lia
theorem drop_zero(p:Pt):d9 p 0=p:=by
 cases p with
 |keep n=>show Pt.keep (n - ((0:Nat):Int))=_;rw[show n - ((0:Nat):Int)=n by lia]
 |put s=>show Pt.put ⟨(s.cps.toList.drop 0).toArray⟩=_;rw[zbw,wR]
 |cut s=>show Pt.cut ⟨(s.cps.toList.drop 0).toArray⟩=_;rw[zbw,wR]
theorem drop_drop(p:Pt)(a b:Nat):d9 (d9 p a) b=d9 p (a+b):=by
 cases p with
 |keep n=>show Pt.keep (n - (a:Int) - (b:Int))=Pt.keep (n - ((a+b:Nat):Int));congr 1;lia
 |put s=>show Pt.put ⟨((s.cps.toList.drop a).drop b).toArray⟩=Pt.put ⟨(s.cps.toList.drop<|a+b).toArray⟩;rw[List.drop_drop]
 |cut s=>show Pt.cut ⟨((s.cps.toList.drop a).drop b).toArray⟩=Pt.cut ⟨(s.cps.toList.drop<|a+b).toArray⟩;rw[List.drop_drop]
theorem take_all(p:Pt)(h:fG p):bp p (bG p)=p:=by
 cases p with
 |keep n=>
  have h':0<=n:=h;show Pt.keep ((n.toNat:Nat):Int)=_;rw[show((n.toNat:Nat):Int)=n by lia]
 |put s=>show Pt.put ⟨(s.cps.toList.take s.length).toArray⟩=_;rw[len_list,zbd,wR]
 |cut s=>show Pt.cut ⟨(s.cps.toList.take s.length).toArray⟩=_;rw[len_list,zbd,wR]
theorem YF(p:Pt)(o:Nat)(h:o<=bG p):bT p=bT (bp p o)++bT (d9 p o):=by
 cases p with
 |keep n=>
  have h':o<=n.toNat:=h;show rK n.toNat=rK ((o:Nat):Int).toNat++rK (n - (o:Int)).toNat;rw[Ke];congr 1;lia
 |put s=>
  show s.cps.toList.map At.P=(s.cps.toList.take o).map At.P++(s.cps.toList.drop o).map At.P;rw[<-zak,zbf]
 |cut s=>
  show s.cps.toList.map At.C=(s.cps.toList.take o).map At.C++(s.cps.toList.drop o).map At.C;rw[<-zak,zbf]
theorem wW{s:Str}(h:good s)(l:List Nat)(hl:l.length<=s.length)(hm:∀c∈l,c∈s.cps.toList):good ⟨l.toArray⟩:=
 ⟨by rw[lI];exact zas hl h.1,fun c hc=>h.2 c<|hm c hc⟩
theorem wX(h:l≠ []):(⟨l.toArray⟩:Str)≠"":=fun z=>h (by have:=congrArg (fun s=>s.cps.toList) z;exact this)
theorem YG{p:Pt}{o:Nat}(h:aZ p)(ho:o<bG p):aZ (d9 p o):=by
 cases p with
 |keep n=>
  have h':o<n.toNat:=ho;show(1:Int)<=n - (o:Int);lia
 |put s=>
  have h':o<s.cps.toList.length:=by rw[<-len_list];exact ho
  exact⟨wW h.1 _ (by rw[zaz,<-len_list];lia) fun c hc=>zbB hc,wX (by intro z;have:=congrArg List.length z;rw[zaz] at this;have t2:s.cps.toList.length - o=0:=this;lia)⟩
 |cut s=>
  have h':o<s.cps.toList.length:=by rw[<-len_list];exact ho
  exact⟨wW h.1 _ (by rw[zaz,<-len_list];lia) fun c hc=>zbB hc,wX (by intro z;have:=congrArg List.length z;rw[zaz] at this;have t2:s.cps.toList.length - o=0:=this;lia)⟩
theorem Kv{p:Pt}{o:Nat}(h:aZ p)(ho:1<=o)(h1:o<=bG p):aZ (bp p o):=by
 cases p with
 |keep n=>show(1:Int)<= (o:Int);lia
 |put s=>
  have h':o<=s.cps.toList.length:=by rw[<-len_list];exact h1
  exact⟨wW h.1 _ (by rw[zaF,<-len_list];lia) fun c hc=>zbK hc,wX (by intro z;have:=congrArg List.length z;rw[zaF] at this;have t2:min o s.cps.toList.length=0:=this;lia)⟩
 |cut s=>
  have h':o<=s.cps.toList.length:=by rw[<-len_list];exact h1
  exact⟨wW h.1 _ (by rw[zaF,<-len_list];lia) fun c hc=>zbK hc,wX (by intro z;have:=congrArg List.length z;rw[zaF] at this;have t2:min o s.cps.toList.length=0:=this;lia)⟩
def wf(L:Addr)(i o:Int):List (Str×V):=[("parts",.ref L),("passed_by",.int i),("offset",.int o)]
theorem wY{i o:Int}:(wf L i o).lookup ("parts":Str)=some (.ref L):=oU
theorem tI{i o:Int}:(wf L i o).lookup ("passed_by":Str)=some (.int i):=(gj (by decide+kernel)).trans oU
theorem Kw{i o:Int}:(wf L i o).lookup ("offset":Str)=some (.int o):=(gj (by decide+kernel)).trans ((gj (by decide+kernel)).trans oU)
theorem wZ{i o:Int}{m:Str}(h1:¬m="parts")(h2:¬m="passed_by")(h3:¬m="offset"):(wf L i o).lookup m=none:=(gj h1).trans ((gj h2).trans<|(gj h3).trans rfl)
theorem Kx{i o k:Int}:aU "offset" (.int k) (wf L i o)=wf L i k:=by
 unfold wf;rw[oW (by decide+kernel),oW (by decide+kernel),Bg]
theorem YH{i o k:Int}:aU "passed_by" (.int k) (wf L i o)=wf L k o:=by
 unfold wf;rw[oW (by decide+kernel),Bg]
theorem YI:aU "offset" (.int 0) (aU "passed_by" (.int 0)<|aU "parts" (.ref L) [])=wf L 0 0:=by
 have e1:aU "parts" (V.ref L) []=[(("parts":Str),V.ref L)]:=rfl;rw[e1,oW (by decide+kernel)]
 have e2:aU "passed_by" (V.int 0) []=[(("passed_by":Str),V.int 0)]:=rfl;rw[e2,oW (by decide+kernel),oW (by decide+kernel)]
 rfl
def bV(C:Addr)(H:Hp)(w L:Addr)(rs:List Pt):Prop:= ∃(dx:Addr) (xs:List V) (ps:List Pt) (i o:Nat),H w=some (.ins C dx<|wf L i o)/\H L=some (.lst xs)/\aJ H xs ps/\(∀p∈ps,aZ p)/\ps.length<=100000/\
 ((ps.drop i=[]/\rs=[])\/∃p t,ps.drop i=p::t/\o<bG p/\rs=d9 p o::t)
theorem bV.keep{w:Addr}{rs:List Pt}(h:bV C H w L rs)(k:∀b o,H b=some o->b=w\/b=L\/(∃xs,o=.tup xs)->H' b=some o):bV C H' w L rs:=by
 obtain⟨dx,xs,ps,i,o,h1,h2,h3,h4⟩:=h;exact⟨dx,xs,ps,i,o,k _ _ h1<|.inl rfl,k _ _ h2<|.inr<|.inl rfl,h3.mono fun b ys e=>k _ _ e (.inr<|.inr ⟨ys,rfl⟩),h4⟩
theorem bV.same{w:Addr}{rs:List Pt}(h:bV C H w L rs)(s:az H H'):bV C H' w L rs:=h.keep fun b o e _=>s b o e
theorem bV.but{w c:Addr}{rs:List Pt}(h:bV C H w L rs)(b:aR c H H')(hc:H c=some (.lst xs))(hn:c≠L):bV C H' w L rs:=by
 refine h.keep fun d o e z=>b d o e ?_;obtain⟨dx,_,_,_,_,h1,_⟩:=h;rcases z with rfl|rfl|⟨ys,rfl⟩
 ·exact cb h1 hc (by intro z;cases z)
 ·exact hn.symm
 ·exact cb e hc (by intro z;cases z)
theorem bV.ok{w:Addr}{rs:List Pt}(h:bV C H w L rs):∀p∈rs,aZ p:=by
 obtain⟨dx,xs,ps,i,o,h1,h2,h3,h4,h5,⟨_,rfl⟩|⟨p,t,e,ho,rfl⟩⟩:=h
 ·intro p hp;cases hp
 ·have hm:∀q∈p::t,aZ q:=fun q hq=>h4 q (zbB (by rw[e];exact hq))
  intro q hq;rcases zaa.mp hq with rfl|hq
  ·exact YG (hm p<|.head _) ho
  ·exact hm q (.tail _ hq)
def mT:List Pt->Str
 |[]=> ""
 |p::_=>p.word
def mU(C:Addr):Sp:=fun vs H Q E=>∃(w dx a:Addr) (xs:List V) (ps:List Pt),vs=[.ref w,.ref a]/\H w=some (.ins C dx [])/\H a=some (.lst xs)/\aJ H xs ps/\(∀p∈ps,aZ p)/\ps.length<=100000/\
 ∀L H',H L=none->L≠w->aR w H H'->bV C H' w L ps->Q .aF H'
theorem YJ{K:Frag}(T:oA K C):c9 (mU C) (fun E=>aM K [] [] (E:=E)) Hi Hh:=by
 intro vs H Q E h;obtain⟨w,dx,a,xs,ps,rfl,hw,ha,bS,aE,hl,k⟩:=h;refine⟨_,rfl,xs,.inl<|au.of ha,fun L hL=>?_⟩;have nw:w≠L:=aK hw hL;refine⟨_,rfl,w,C,dx,[],rfl,(by rw[aC nw];exact hw),T.cl,T.sL,(by show 0<1000;decide),?_⟩
 refine⟨_,rfl,w,C,dx,_,rfl,aw,T.cl,T.oB,(by show 1<1000;decide),?_⟩
 refine⟨_,rfl,w,C,dx,_,rfl,aw,T.cl,T.sM,(by show 2<1000;decide),?_⟩
 rw[uT,uT];have b:aR w H (upd (upd H L<|.lst xs) w<|.ins C dx<|aU "offset" (.int 0)<|aU "passed_by" (.int 0)<|aU "parts" (.ref L) []):=fun c o e n=>by rw[aC n,aC<|aK e hL];exact e
 refine k L _ hL nw.symm b ⟨dx,xs,ps,0,0,?_,?_,bS.mono ?_,aE,hl,?_⟩
 ·rw[aw,YI];rfl
 ·rw[aC nw.symm,aw]
 ·intro c ys e;exact b c _ e<|cb e hw (by intro z;cases z)
 ·cases ps with
  |nil=>exact .inl ⟨rfl,rfl⟩
  |cons p t=>exact .inr ⟨p,t,rfl,(lH<|aE p<|.head _).2,by rw[drop_zero]⟩
theorem Bl{p:Pt}{t:List Pt}(h:ps.drop i=p::t):ps[i]?=some p/\ps.drop (i+1)=t/\i<ps.length:=by
 have hl:i<ps.length:=by
  rcases Nat.lt_or_ge i ps.length with z|z
  ·exact z
  ·rw[List.drop_of_length_le z] at h;cases h
 refine⟨?_,?_,hl⟩
 ·have:=congrArg List.head? h;rw[List.head?_drop] at this
  simpa using this
 ·rw[<-List.drop_drop,h];rfl
theorem aJ.at{p:Pt}(h:aJ H xs ps)(e:ps[i]?=some p):∃a,xs[i]?=some (.ref a)/\H a=some (.tup [.str p.word,p.val]):=by
 have hl:=Paired.length h;have hi:i<xs.length:=by rw[hl];exact(zap.mp e).1
 obtain⟨q,hq,a,ea,ha⟩:=h.get (i:=i) (v:=xs[i]) (by simp[hi])
 rw[e] at hq;cases hq;exact⟨a,by rw[<-ea];simp[hi],ha⟩
def w4(C:Addr):Sp:=fun vs H Q E=>∃(w L:Addr) (rs:List Pt),vs=[.ref w]/\bV C H w L rs/\Q (.str<|mT rs) H
theorem YK{K:Frag}(T:oA K C):c9 (w4 C) (fun E=>aM K [] [] (E:=E)) Hk mz:=by
 intro vs H Q E h;obtain⟨w,L,rs,rfl,⟨dx,xs,ps,i,o,h1,h2,h3,h4,h5,h6⟩,q⟩:=h;have hl:=Paired.length h3;refine⟨_,rfl,w,C,dx,_,_,rfl,h1,T.cl,T.oB,tI,_,rfl,w,C,dx,_,_,rfl,h1,T.cl,T.sL,wY,.inl ⟨_,au.of h2,trivial,_,rfl,?_⟩⟩;rcases h6 with⟨e,rfl⟩|⟨p,t,e,ho,rfl⟩
 ·have:ps.length<=i:=by
   rcases Nat.lt_or_ge i ps.length with z|z
   ·rw[zbx z] at e;cases e
   ·exact z
  exact iF q<|zqF (by lia)
 ·obtain⟨e1,e2,e3⟩:=Bl e;obtain⟨a,ea,ha⟩:=h3.at e1;refine iT ?_<|zqT (by lia)
  refine⟨_,rfl,w,C,dx,_,_,rfl,h1,T.cl,T.sL,wY,_,rfl,w,C,dx,_,_,rfl,h1,T.cl,T.oB,tI,.inl ⟨_,_,_,_,rfl,rfl,au.of h2,de ea,?_⟩⟩;refine .inr<|.inl ⟨_,_,_,_,rfl,rfl,aD.of ha,rfl,?_⟩;rw[show mT (d9 p o::t)=p.word from Ku p o] at q
  exact q
def w5(C:Addr):Sp:=fun vs H Q E=>∃(w L dx:Addr) (xs:List V) (ps:List Pt) (i o:Nat) (p:Pt),vs=[.ref w]/\H w=some (.ins C dx<|wf L i o)/\H L=some (.lst xs)/\aJ H xs ps/\ps[i]?=some p/\aZ p/\Q (.int<|(bG p:Int) - (o:Int)) H
theorem YL{K:Frag}(T:oA K C):c9 (w5 C) (fun E=>aM K [("part_size",sQ)] [] (E:=E)) Hl mz:=by
 intro vs H Q E h;obtain⟨w,L,dx,xs,ps,i,o,p,rfl,h1,h2,h3,e1,hp,q⟩:=h;obtain⟨a,ea,ha⟩:=h3.at e1;refine⟨_,rfl,w,C,dx,_,_,rfl,h1,T.cl,T.sL,wY,_,rfl,w,C,dx,_,_,rfl,h1,T.cl,T.oB,tI,.inl ⟨_,_,_,_,rfl,rfl,au.of h2,de ea,?_⟩⟩;refine⟨_,p,rfl,⟨a,rfl,ha⟩,wy hp,?_⟩;refine⟨_,rfl,w,C,dx,_,_,rfl,h1,T.cl,T.sM,Kw,trivial,?_⟩;rw[(lH hp).1];exact q
def qM(C:Addr):Sp:=fun vs H Q E=>∃(w L:Addr) (p:Pt) (t:List Pt),vs=[.ref w]/\bV C H w L (p::t)/\Q (.int (bG p:Int)) H
theorem YM{E:XK}(h:qM C vs H Q E):w5 C vs H Q E:=by
 obtain⟨w,L,p,t,rfl,⟨dx,xs,ps,i,o,h1,h2,h3,h4,h5,⟨_,e⟩|⟨p',t',e,ho,e'⟩⟩,q⟩:=h
 ·cases e
 ·cases e';obtain⟨e1,_,_⟩:=Bl e;refine⟨w,L,dx,xs,ps,i,o,p',rfl,h1,h2,h3,e1,h4 _<|zar e1,?_⟩;rw[tH p' o (by lia)] at q
  rw[show((bG p':Int) - (o:Int))=((bG p' - o:Nat):Int) by lia]
  exact q
def d_(p:Pt)(t:List Pt)(k:Nat):List Pt:=if k=bG p then t else d9 p k::t
def tJ(C:Addr):Sp:=fun vs H Q E=>∃(w L:Addr) (p:Pt) (t:List Pt) (k:Nat),vs=[.ref w,.int (k:Int)]/\bV C H w L (p::t)/\1<=k/\k<=bG p/\
 ∀r H',aR w H H'->H' r=some (.tup [.str (bp p k).word,(bp p k).val])->H r=none->bV C H' w L (d_ p t k)->Q (.ref r) H'
theorem YN{K:Frag}(T:oA K C):c9 (tJ C) (fun E=>aM K [] [] [] [("left",C,w5 C)] (E:=E)) Ab Ho:=by
 intro vs H Q E h;obtain⟨w,L,p,t,k,rfl,⟨dx,xs,ps,i,o,h1,h2,h3,h4,h5,⟨_,e⟩|⟨p',t',e,ho,e'⟩⟩,hk1,YO,q⟩:=h
 ·cases e
 cases e';obtain⟨e1,e2,e3⟩:=Bl e;obtain⟨a,ea,ha⟩:=h3.at e1;have hp:=h4 _ (zar e1);rw[tH p' o (by lia)] at YO
 have Ky:w≠L:=cb h1 h2 (by intro z;cases z)
 have YQ:a≠w:=cb ha h1 (by intro z;cases z)
 refine⟨_,rfl,w,C,dx,_,_,rfl,h1,T.cl,T.sL,wY,_,rfl,w,C,dx,_,_,rfl,h1,T.cl,T.oB,tI,.inl ⟨_,_,_,_,rfl,rfl,au.of h2,de ea,?_⟩⟩;refine⟨_,rfl,w,C,dx,_,_,rfl,h1,T.cl,T.sM,Kw,?_⟩;refine⟨_,rfl,_,rfl,?_⟩;refine⟨_,rfl,_,rfl,w,C,dx,_,rfl,h1,T.cl,T.sM,(by show 3<1000;decide),?_⟩
 rw[Kx,show(o:Int)+(k:Int)=((o+k:Nat):Int) by lia]
 have tup:∀(fs:List (Str×V)),eh H (upd H w<|.ins C dx fs):=fun fs b ys eb=>by rw[aC<|cb eb h1 (by intro z;cases z)];exact eb
 refine⟨_,rfl,w,dx,_,rfl,aw,wZ (by decide+kernel) (by decide+kernel) (by decide+kernel),w,L,dx,xs,ps,i,o+k,p',rfl,aw,(by rw[aC Ky.symm];exact h2),h3.mono<|tup _,e1,hp,?_⟩
 have fin:∀(i' o':Nat),((ps.drop i'=[]/\d_ (d9 p' o) t k=[])\/∃p t',ps.drop i'=p::t'/\o'<bG p/\d_ (d9 p' o) t k=d9 p o'::t')->
   aB (aM K [] [] [] [("left",C,w5 C)] (E:=E)) (Ab.drop 5) (Dn Q) [some<|.ref w,some<|.int (k:Int),some<|.ref a,some<|.int (o:Int),some<|.int ((o+k:Nat):Int)] (upd H w<|.ins C dx<|wf L (i':Int) (o':Int)):=by
  intro i' o' hr;have qA:upd H w (.ins C dx<|wf L (i':Int) (o':Int)) a=some (.tup [.str p'.word,p'.val]):=by rw[aC YQ];exact ha
  have done:∀v:V,v=(bp (d9 p' o) k).val->∀r,upd H w (.ins C dx<|wf L (i':Int) (o':Int)) r=none->Q (.ref r) (upd (upd H w<|.ins C dx<|wf L (i':Int) (o':Int)) r<|.tup [.str p'.word,v]):=by
   rintro v rfl r mV;have Kz:r≠w:=fun z=>by rw[z,aw] at mV;cases mV
   have KA:H r=none:=by rw[aC Kz] at mV;exact mV
   have bt:aR w H (upd (upd H w<|.ins C dx<|wf L (i':Int) (o':Int)) r<|.tup [.str p'.word,(bp (d9 p' o) k).val]):=fun b ob eb kh=>by rw[aC<|aK eb KA,aC kh];exact eb
   refine q r _ bt (by rw[aw,YE,Ku]) KA ⟨dx,xs,ps,i',o',?_,bt _ _ h2 Ky.symm,h3.mono fun b ys eb=>bt b _ eb (cb eb h1 (by intro z;cases z)),h4,h5,hr⟩
   rw[aC Kz.symm,aw]
  refine⟨_,rfl,.inr<|.inl ⟨_,_,_,_,rfl,rfl,aD.of qA,rfl,?_⟩⟩;refine⟨_,rfl,.inr<|.inl ⟨_,_,_,_,rfl,rfl,aD.of qA,rfl,_,rfl,?_⟩⟩;rw[zaC,fU];cases p' with
  |keep n=>exact fm ⟨_,rfl,dc,done _ rfl⟩
  |put s=>
   refine iZ ⟨_,rfl,.inr<|.inl ⟨_,_,_,_,rfl,rfl,aD.of qA,rfl,_,rfl,_,rfl,_,rfl,_,rfl,cY hp.1.1,dc,done _ ?_⟩⟩;show V.str (kR s (some (o:Int))<|some ((o+k:Nat):Int))=V.str ⟨((s.cps.toList.drop o).take k).toArray⟩;rw[zaX,Ks o (k:Int) k rfl]
  |cut s=>
   refine iZ ⟨_,rfl,.inr<|.inl ⟨_,_,_,_,rfl,rfl,aD.of qA,rfl,_,rfl,_,rfl,_,rfl,_,rfl,cY hp.1.1,dc,done _ ?_⟩⟩;show V.str (kR s (some (o:Int))<|some ((o+k:Nat):Int))=V.str ⟨((s.cps.toList.drop o).take k).toArray⟩;rw[zaX,Ks o (k:Int) k rfl]
 refine⟨_,rfl,?_⟩;rw[zaC];by_cases hz:k=bG p' - o
 ·refine iT ?_ (zqT (by congr 1;lia))
  refine⟨_,rfl,w,C,dx,_,_,rfl,aw,T.cl,T.oB,tI,_,rfl,w,C,dx,_,rfl,aw,T.cl,T.oB,(by show 3<1000;decide),?_⟩
  rw[uT,YH];refine⟨_,rfl,w,C,dx,_,rfl,aw,T.cl,T.sM,(by show 3<1000;decide),?_⟩
  rw[uT,Kx,show(i:Int)+1=((i+1:Nat):Int) by lia]
  refine fin (i+1) 0 ?_;have er:d_ (d9 p' o) t k=t:=if_pos (by rw[tH p' o (by lia)];exact hz)
  rw[er,e2];cases t with
  |nil=>exact .inl ⟨rfl,rfl⟩
  |cons p2 t2=>
   have hm:aZ p2:=h4 p2 (zbB (by rw[e];exact .tail _ (.head _)))
   exact .inr ⟨p2,t2,rfl,(lH hm).2,by rw[drop_zero]⟩
 ·refine iF ?_ (zqF (by intro z;have z':(bG p':Int) - ((o+k:Nat):Int)=0:=(by injection z);lia))
  refine fin i (o+k)<|.inr ⟨p',t,e,by lia,?_⟩
  have er:d_ (d9 p' o) t k=d9 (d9 p' o) k::t:=if_neg (by rw[tH p' o (by lia)];exact hz)
  rw[er,drop_drop]
def bL:List At->Nat
 |[]=>0
 |.P _::xs=>bL xs
 |.K::xs=>bL xs+1
 |.C _::xs=>bL xs+1
def cnt:List At->Nat
 |[]=>0
 |.K::xs=>cnt xs
 |.P _::xs=>cnt xs+1
 |.C _::xs=>cnt xs+1
theorem oY:∀(xs:List At) (l:List Nat),fit l xs->l.length=bL xs
 |[],l,h=>by cases h;rfl
 |.P c::xs,l,h=>oY xs l h
 |.K::xs,[],h=>h.elim
 |.K::xs,a::l,h=>by simp[bL,oY xs l h]
 |.C c::xs,[],h=>h.elim
 |.C c::xs,a::l,h=>by simp[bL,oY xs l h.2]
theorem w6:∀(xs ys:List At),bL (xs++ys)=bL xs+bL ys
 |[],ys=>by simp[bL]
 |.P c::xs,ys=>w6 xs ys
 |.K::xs,ys=>by simp only[zaQ,bL,w6 xs ys];lia
 |.C c::xs,ys=>by simp only[zaQ,bL,w6 xs ys];lia
theorem w9:∀(xs ys:List At),cnt (xs++ys)=cnt xs+cnt ys
 |[],ys=>by simp[cnt]
 |.K::xs,ys=>w9 xs ys
 |.P c::xs,ys=>by simp only[zaQ,cnt,w9 xs ys];lia
 |.C c::xs,ys=>by simp only[zaQ,cnt,w9 xs ys];lia
theorem tK{ys:List At}:∀(xs:List At) (l:List Nat),fit l (xs++ys)->∃l1 l2,l=l1++l2/\fit l1 xs/\fit l2 ys/\out l (xs++ys)=out l1 xs++out l2 ys
 |[],l,h=>⟨[],l,rfl,rfl,h,rfl⟩
 |.P c::xs,l,h=>by
  obtain⟨l1,l2,rfl,a,b,d⟩:=tK xs l h;exact⟨l1,l2,rfl,a,b,by show c::out _ (xs++ys)=c::(out l1 xs++out l2 ys);rw[d]⟩
 |.K::xs,[],h=>(show False from h).elim
 |.K::xs,e::l,h=>by
  obtain⟨l1,l2,rfl,a,b,d⟩:=tK xs l h;exact⟨e::l1,l2,rfl,a,b,by show e::out _ (xs++ys)=e::(out l1 xs++out l2 ys);rw[d]⟩
 |.C c::xs,[],h=>(show False from h).elim
 |.C c::xs,e::l,h=>by
  obtain⟨h0,h⟩:=(show e=c/\fit l (xs++ys) from h)
  obtain⟨l1,l2,rfl,a,b,d⟩:=tK xs l h;exact⟨e::l1,l2,rfl,⟨h0,a⟩,b,d⟩
theorem YR{a b:List Nat}{ys zs:List At}(h:fit (a++b) (ys++zs))(hl:a.length=bL ys):fit a ys/\fit b zs:=by
 obtain⟨l1,l2,e,h1,h2,_⟩:=tK ys _ h;have:=oY _ _ h1;obtain⟨rfl,rfl⟩:=List.append_inj e (by lia)
 exact⟨h1,h2⟩
theorem Bm(n:Nat):bL (rK n)=n:=by
 induction n with
 |zero=>rfl
 |succ n ih=>show bL (rK n)+1=_;rw[ih]
theorem w_(s:List Nat):bL (s.map .C)=s.length:=by
 induction s with
 |nil=>rfl
 |cons c s ih=>show bL (s.map .C)+1=_;rw[ih];rfl
theorem cG.app{xs ys os fA cq vq KC:List At}(h:cG xs ys os ts)(h':cG fA cq vq KC):cG (xs++fA) (ys++cq) (os++vq) (ts++KC):=by
 induction h with
 |nil=>exact h'
 |p1 _ ih=>exact .p1 ih
 |p2 _ ih=>exact .p2 ih
 |kk _ ih=>exact .kk ih
 |kc _ ih=>exact .kc ih
 |ck _ ih=>exact .ck ih
 |cc _ ih=>exact .cc ih
theorem KD:∀s:List Nat,cG (s.map .P) [] (s.map .P) (rK s.length)
 |[]=>.nil
 |c::s=>.p1 (KD s)
theorem KG:∀s:List Nat,cG [] (s.map .P) (rK s.length) (s.map .P)
 |[]=>.nil
 |c::s=>.p2 (KG s)
theorem KH:∀n:Nat,cG (rK n) (rK n) (rK n) (rK n)
 | 0=>.nil
 |n+1=>.kk (KH n)
theorem KI:∀s:List Nat,cG (rK s.length) (s.map .C) [] (s.map .C)
 |[]=>.nil
 |c::s=>.kc (KI s)
theorem KJ:∀s:List Nat,cG (s.map .C) (rK s.length) (s.map .C) []
 |[]=>.nil
 |c::s=>.ck (KJ s)
theorem KL:∀s:List Nat,cG (s.map .C) (s.map .C) [] []
 |[]=>.nil
 |c::s=>.cc (KL s)
theorem cG.YS{xs ys os:List At}(h:cG xs ys os ts):cnt os<=B.cnt xs/\cnt ts<=B.cnt ys:=by
 induction h<;>simp only[B.cnt] <;>lia
end L2.B
namespace L2
open PySem PySem.Spec PyProof.Rows
section
variable {Γ:bo}{D:Ends}{σ:St}{H:Hp}{r:List RS}{Q:VK}{QA:List V->Hp->Prop}{QT:Bool->Hp->Prop}
theorem mW{m:Str}(C:Addr)(sp:Sp)(hm:Γ.ms j=(C,sp))(h:ae Γ o σ H fun x H1=>∃a dx fs,x=.ref a/\H1 a=some (.ins C dx fs)/\fs.lookup m=none/\sp [x] H1 Q Γ.E):ae Γ (.bj j m o []) σ H Q:=by
 show lX (Γ.ms j).1 m (Γ.ms j).2 [] Γ.E (ae Γ o) (ba Γ []) σ H Q;rw[hm];exact h
theorem mX{m:Str}(C:Addr)(sp:Sp)(hm:Γ.ms j=(C,sp))(h:ae Γ o σ H fun x H1=>∃p dx fs,x=.ref p/\H1 p=some (.ins C dx fs)/\fs.lookup m=none/\ae Γ a σ H1 fun y H2=>sp [x,y] H2 Q Γ.E):ae Γ (.bj j m o [a]) σ H Q:=by
 show lX (Γ.ms j).1 m (Γ.ms j).2 [] Γ.E (ae Γ o) (ba Γ [a]) σ H Q;rw[hm];exact h
theorem KN(C:Addr)(sp:Sp)(hm:Γ.kt j=(C,sp))(h:ae Γ a σ H fun y H1=>∀x dx,H1 x=none->H1 dx=none->dx≠x->sp [.ref x,y] (upd (upd H1 dx<|.own x) x<|.ins C dx []) (fun v H2=>v=.aF/\Q (.ref x) H2) Γ.E):ae Γ (.make j [a]) σ H Q:=by
 show vt (Γ.kt j).1 (Γ.kt j).2 [] Γ.E (ba Γ [a]) σ H Q;rw[hm];exact h
theorem YT{c:RE}(W:Nat->St->Hp->Prop)(h0:∃m,W m σ H)
  (h:∀m σ H,W m σ H->bg Γ c σ H fun b H1=>if b=true then ∃N:St->Hp->Prop,(∀σ' H',N σ' H'->∃m',m'<m/\W m' σ' H')/\aB Γ body {{D with nx:=aB Γ r D} with nx:=N,ct:=N,bk:=aB Γ r D} σ H1 else aB Γ r D σ H1):aB Γ (.vR c body::r) D σ H:=⟨W,h0,h⟩
theorem bZ{c:RE}{t e:List RS}(h:bg Γ c σ H fun b H1=>if b=true then aB Γ t {D with nx:=aB Γ r D} σ H1 else aB Γ e {D with nx:=aB Γ r D} σ H1):aB Γ (.ite c t e::r) D σ H:=h
theorem cL{op:CmpOp}{b:RE}(h:ae Γ a σ H fun x H1=>ae Γ b σ H1 fun y H2=>cO Γ.K op x y H2 fun z H3=>∃k,z=.bl k/\QT k H3):bg Γ (.cmp op a b) σ H QT:=h
theorem iK{f:Str}(h:ae Γ o σ H fun x H1=>∃a C dx fs v,x=.ref a/\H1 a=some (.ins C dx fs)/\fj Γ.K C/\fV Γ.K C f/\fs.lookup f=some v/\Q v H1):ae Γ (.fld o f) σ H Q:=h
theorem lJ{m:hX}(h:ae Γ o σ H fun x H1=>nS Γ.K (vS m) x H1/\ae Γ a σ H1 fun y H2=>pY Γ.K m x [y] H2 Q):ae Γ (.bz m o [a]) σ H Q:=h
theorem oZ{K:Frag}{x:Str}(q:Q (.bl<|x==y) H):cO K .Eq (.str x) (.str y) H Q:=by
 show Q (.bl<|false ^^ decide (V.str x=V.str y)) H;rw[zaC,fU];exact q
theorem Bn{K:Frag}{x:Str}(q:Q (.bl<|x !=y) H):cO K .NotEq (.str x) (.str y) H Q:=by
 show Q (.bl<|true ^^ decide (V.str x=V.str y)) H;rw[zaG,fU];exact q
end
end L2
namespace L2.B
open PySem PySem.Spec PyProof.Rows
theorem bV.ob{w:Addr}{rs:List Pt}(h:bV C H w L rs):∃(dx:Addr) (i o:Int),H w=some (.ins C dx<|wf L i o):=by
 obtain⟨dx,xs,ps,i,o,h1,_⟩:=h;exact⟨dx,i,o,h1⟩
theorem Bo{i o:Int}:(wf L i o).lookup ("word":Str)=none/\(wf L i o).lookup ("left":Str)=none/\(wf L i o).lookup ("take":Str)=none:=
 ⟨wZ (by decide+kernel) (by decide+kernel) (by decide+kernel),wZ (by decide+kernel) (by decide+kernel) (by decide+kernel),wZ (by decide+kernel) (by decide+kernel) (by decide+kernel)⟩
theorem KO(p:Pt)(t:List Pt)(k:Nat):(d_ p t k).length<=t.length+1:=by
 unfold d_;split<;>simp
theorem Bp{p:Pt}(t:List Pt){k:Nat}(hk:k<=bG p):av (p::t)=bT (bp p k)++av (d_ p t k):=by
 unfold d_;rw[dn,YF p k hk]
 split
 ·rename_i e
  have:bT (d9 p k)=[]:=by
   have hz:=tH p k hk;rw[e,zaY] at hz;cases p with
   |keep n=>
    have j2:(n - (k:Int)).toNat=0:=by rw[e];exact hz
    show rK (n - (k:Int)).toNat=[];rw[j2];rfl
   |put s=>
    rw[<-e] at hz;have j2:(⟨(s.cps.toList.drop k).toArray⟩:Str).length=0:=hz;rw[lI] at j2;show(s.cps.toList.drop k).map At.P=[];rw[zaH.mp j2];rfl
   |cut s=>
    rw[<-e] at hz;have j2:(⟨(s.cps.toList.drop k).toArray⟩:Str).length=0:=hz;rw[lI] at j2;show(s.cps.toList.drop k).map At.C=[];rw[zaH.mp j2];rfl
  rw[this,zad]
 ·rw[dn,zao]
theorem Bq(p:Pt):(bT p).length=bG p:=by
 cases p with
 |keep n=>show(rK n.toNat).length=_;unfold rK;rw[zbj];rfl
 |put s=>show(s.cps.toList.map At.P).length=_;rw[zac,<-len_list];rfl
 |cut s=>show(s.cps.toList.map At.C).length=_;rw[zac,<-len_list];rfl
theorem KP{p:Pt}(t:List Pt){k:Nat}(h1:1<=k)(hk:k<=bG p):(av<|d_ p t k).length< (av (p::t)).length:=by
 rw[Bp t hk,zqA,Bq,Bk p k hk];lia
theorem xa{w:Addr}{rs:List Pt}(hm:Γ.ms j=(C,w4 C))(hi:σ[i]?=some (some<|.ref w))(W:bV C H w L rs)(q:Q (.str<|mT rs) H):ae Γ (.bj j "word" (.v i) []) σ H Q:=by
 obtain⟨dx,a,b,h1⟩:=W.ob;exact mW C (w4 C) hm<|aj hi ⟨w,dx,_,rfl,h1,Bo.1,w,L,rs,rfl,W,q⟩
theorem Br{w:Addr}{p:Pt}{t:List Pt}(hm:Γ.ms j=(C,qM C))(hi:σ[i]?=some (some<|.ref w))(W:bV C H w L (p::t))(q:Q (.int (bG p:Int)) H):ae Γ (.bj j "left" (.v i) []) σ H Q:=by
 obtain⟨dx,a,b,h1⟩:=W.ob;exact mW C (qM C) hm<|aj hi ⟨w,dx,_,rfl,h1,Bo.2.1,w,L,p,t,rfl,W,q⟩
theorem Bt{w:Addr}{p:Pt}{t:List Pt}{k:Nat}(hm:Γ.ms j=(C,tJ C))(hi:σ[i]?=some (some<|.ref w))(W:bV C H w L (p::t))(h1:1<=k)(hk:k<=bG p)
  (ha:∀Q':VK,Q' (.int (k:Int)) H->ae Γ a σ H Q') (q:∀r H',aR w H H'->H' r=some (.tup [.str (bp p k).word,(bp p k).val])->H r=none->bV C H' w L (d_ p t k)->Q (.ref r) H'):ae Γ (.bj j "take" (.v i) [a]) σ H Q:=by
 obtain⟨dx,x,b,h0⟩:=W.ob;refine mX C (tJ C) hm<|aj hi ⟨w,dx,_,rfl,h0,Bo.2.2,ha _ ?_⟩;exact⟨w,L,p,t,k,rfl,W,h1,hk,q⟩
theorem aR.KQ{w:Addr}{dx:Addr}{fs:List (Str×V)}(b:aR w H H')(h:H w=some (.ins C dx fs)):eh H H':=fun c xs e=>b c _ e (cb e h (by intro z;cases z))
theorem YU(p:Pt):cnt (bT p)=bY p:=by
 cases p with
 |keep n=>
  show cnt (rK n.toNat)=0;have:∀m,cnt (rK m)=0:=fun m=>by
   induction m with
   |zero=>rfl
   |succ m ih=>exact ih
  exact this _
 |put s=>
  show cnt (s.cps.toList.map At.P)=s.length;rw[len_list]
  induction s.cps.toList with
  |nil=>rfl
  |cons c t ih=>show cnt (t.map At.P)+1=_;rw[ih];rfl
 |cut s=>
  show cnt (s.cps.toList.map At.C)=s.length;rw[len_list]
  induction s.cps.toList with
  |nil=>rfl
  |cons c t ih=>show cnt (t.map At.C)+1=_;rw[ih];rfl
theorem lK(ps:List Pt):cnt (av ps)=aA ps:=by
 induction ps with
 |nil=>rfl
 |cons p ps ih=>
  rw[dn,w9,YU,ih]
  simp[aA]
def tM(w c d:Addr)(H H':Hp):Prop:= ∀b o,H b=some o->b≠w->b≠c->b≠d->H' b=some o
theorem bV.KR{w v c d:Addr}{rs:List Pt}(h:bV C H w L rs)(b:tM v c d H H')(hc:H c=some (.lst xs))(hd:H d=some (.lst ys))(nc:c≠L)(nd:d≠L)(nw:w≠v)(nv:∃C' dx fs,H v=some (.ins C' dx fs)):bV C H' w L rs:=by
 obtain⟨C',Bu,rB,hv⟩:=nv;refine h.keep fun e o he z=>b e o he ?_ ?_ ?_
 all_goals obtain⟨dx,_,_,_,_,h1,h2,_⟩:=h
 ·rcases z with rfl|rfl|⟨ys,rfl⟩
  ·exact nw
  ·exact cb h2 hv (by intro z;cases z)
  ·exact cb he hv (by intro z;cases z)
 ·rcases z with rfl|rfl|⟨ys,rfl⟩
  ·exact cb h1 hc (by intro z;cases z)
  ·exact nc.symm
  ·exact cb he hc (by intro z;cases z)
 ·rcases z with rfl|rfl|⟨ys,rfl⟩
  ·exact cb h1 hd (by intro z;cases z)
  ·exact nd.symm
  ·exact cb he hd (by intro z;cases z)
def xb(C:Addr):Sp:=fun vs H Q E=>∃(w L c d:Addr) (s:Str) (t:List Pt) (xs ys:List V),vs=[.ref w,.ref c,.ref d]/\bV C H w L (.put s::t)/\H c=some (.lst xs)/\H d=some (.lst ys)/\c≠d/\c≠L/\d≠L/\xs.length<=100000/\ys.length<=100000/\
 ∀(a a2:Addr) (H':Hp),tM w c d H H'->H' c=some (.lst<|xs++[.ref a])->H' d=some (.lst<|ys++[.ref a2])->H' a=some (.tup [.str "put",.str s])->H' a2=some (.tup [.str "keep",.int (s.length:Int)])->bV C H' w L t->Q .aF H'
theorem YV{K:Frag}:c9 (xb C) (fun E=>aM K [("part_size",sQ)] [] [] [("take",C,tJ C),("left",C,qM C)] (E:=E)) Hr Hq:=by
 intro vs H Q E h;obtain⟨w,L,c,d,s,t,xs,ys,rfl,W,hc,hd,iL,tN,tO,lx,ly,q⟩:=h;have mY:=W.ok _ (.head _);obtain⟨pz1,xf⟩:=lH mY;have ta:bp (.put s) (bG<|.put s)=.put s:=take_all _ trivial;have re:d_ (.put s) t (bG<|.put s)=t:=if_pos rfl;refine bK<|Bt (C:=C) (k:=bG (.put s)) rfl rfl W xf (zqR _) (fun Q' hq=>Br (C:=C) rfl rfl W hq) fun a H1 b1 ha yl W1=>?_;rw[ta] at ha;rw[re] at W1;obtain⟨_,_,_,hw⟩:=W.ob;have xg:c≠w:=cb hc hw (by intro z;cases z)
 have xh:d≠w:=cb hd hw (by intro z;cases z)
 have dW:=b1 _ _ hc xg;have qN:=b1 _ _ hd xh;refine eO<|lJ<|aj rfl ⟨.inl ⟨rfl,_,au.of dW⟩,aj rfl ⟨xs,dW,dm (by lia),?_⟩⟩
 have hd2:upd H1 c (.lst<|xs++[V.ref a]) d=some (.lst ys):=by rw[aC iL.symm];exact qN
 have kg:upd H1 c (.lst<|xs++[V.ref a]) a=some (.tup [.str "put",.str s]):=by rw[aC<|cb ha dW (by intro z;cases z)];exact ha
 refine eO<|lJ<|aj rfl ⟨.inl ⟨rfl,_,au.of hd2⟩,gk<|ay<|ax<|ay<|cv sQ rfl<|ay<|aj rfl<|aN ⟨_,.put s,rfl,⟨a,rfl,kg⟩,wy mY,aN ⟨dc,fun a2 h2=>?_⟩⟩⟩;have lM:upd (upd H1 c<|.lst<|xs++[V.ref a]) a2 (.tup [.str "keep",.int<|oF<|.put s]) d=some (.lst ys):=by rw[aC<|aK hd2 h2];exact hd2
 refine⟨ys,lM,dm (by lia),?_⟩
 have KS:c≠a2:=fun z=>by rw[<-z,aw] at h2;cases h2
 have YW:d≠a2:=aK hd2 h2;have f2:H1 a2=none:=by rw[aC KS.symm] at h2;exact h2
 refine q a a2 _ ?_ ?_ aw ?_ ?_ ?_
 ·intro b o e n1 n2 n3;rw[aC n3,aC<|aK (b1 b o e n1) f2,aC n2];exact b1 b o e n1
 ·rw[aC iL,aC KS,aw]
 ·rw[aC<|cb kg hd2 (by intro z;cases z),aC<|aK kg h2];exact kg
 ·rw[aC YW.symm,aw];rfl
 ·refine((W1.but aR.upd dW tN).same<|sameNew h2).but aR.upd lM tO
def eG:Pt->Bool|.keep _=>true|_=>false
def Bv:Sp:=fun vs H Q E=>∃(v1 v2:V) (c d:Addr) (p1 p2:Pt) (xs ys:List V),vs=[v1,v2,.ref c,.ref d]/\i_ H v1 p1/\i_ H v2 p2/\(∀s,p1≠ .put s)/\(∀s,p2≠ .put s)/\(∀s s',p1=.cut s->p2=.cut s'->s=s')/\H c=some (.lst xs)/\H d=some (.lst ys)/\c≠d/\xs.length<=100000/\ys.length<=100000/\
 ∀(H':Hp),(∀b o,H b=some o->b≠c->b≠d->H' b=some o)->H' c=some (.lst<|xs++if eG p2 then [v1] else [])->H' d=some (.lst<|ys++if eG p1 then [v2] else [])->Q .aF H'
theorem YX{K:Frag}{et:List (Str×Addr)}:c9 (Bv) (fun E=>aM K [] [] (et:=et) (E:=E)) Ht Hs:=by
 intro vs H Q E h;obtain⟨v1,v2,c,d,p1,p2,xs,ys,rfl,⟨a1,rfl,h1⟩,⟨a2,rfl,h2⟩,xi,tP,heq,hc,hd,iL,lx,ly,q⟩:=h;have nG:∀zs,upd H c (.lst zs) d=some (.lst ys):=fun zs=>by rw[aC iL.symm];exact hd
 have bc:∀zs b o,H b=some o->b≠c->b≠d->upd H c (.lst zs) b=some o:=fun zs b o e n1 _=>by rw[aC n1];exact e
 have bd:∀zs b o,H b=some o->b≠c->b≠d->upd H d (.lst zs) b=some o:=fun zs b o e _ n2=>by rw[aC n2];exact e
 have YY:∀zs ws b o,H b=some o->b≠c->b≠d->upd (upd H c<|.lst zs) d (.lst ws) b=some o:=fun zs ws b o e n1 n2=>by rw[aC n2,aC n1];exact e
 cases p1 with
 |put s=>exact absurd rfl (xi s)
 |keep n=>
  refine⟨_,rfl,.inr<|.inl ⟨_,_,_,_,rfl,rfl,aD.of h1,rfl,_,rfl,?_⟩⟩;refine⟨_,rfl,.inr<|.inl ⟨_,_,_,_,rfl,rfl,aD.of h2,rfl,_,rfl,?_⟩⟩;cases p2 with
  |put s=>exact absurd rfl (tP s)
  |keep m=>
   refine⟨_,rfl,.inl ⟨rfl,_,au.of hc⟩,_,rfl,xs,hc,dm (by lia),?_⟩
   have d6:upd H c (.lst<|xs++[V.ref a1]) a1=some (.tup [.str "keep",.int n]):=by rw[aC<|cb h1 hc (by intro z;cases z)];exact h1
   refine⟨_,rfl,.inr<|.inl ⟨_,_,_,_,rfl,rfl,aD.of d6,rfl,_,rfl,?_⟩⟩;refine⟨_,rfl,.inl ⟨rfl,_,au.of<|nG _⟩,_,rfl,ys,nG _,dm (by lia),?_⟩
   exact q _ (YY _ _) (by rw[aC iL,aw];rfl) (by rw[aw];rfl)
  |cut s=>
   refine⟨_,rfl,.inl ⟨rfl,_,au.of hd⟩,_,rfl,ys,hd,dm (by lia),?_⟩
   exact q _ (bd _) (by rw[aC iL,hc];simp[eG]) (by rw[aw];rfl)
 |cut s=>
  refine⟨_,rfl,.inr<|.inl ⟨_,_,_,_,rfl,rfl,aD.of h1,rfl,_,rfl,?_⟩⟩;refine⟨_,rfl,.inr<|.inl ⟨_,_,_,_,rfl,rfl,aD.of h2,rfl,_,rfl,?_⟩⟩;cases p2 with
  |put s=>exact absurd rfl (tP s)
  |keep m=>
   refine⟨_,rfl,.inr<|.inl ⟨_,_,_,_,rfl,rfl,aD.of h2,rfl,_,rfl,?_⟩⟩;refine⟨_,rfl,.inl ⟨rfl,_,au.of hc⟩,_,rfl,xs,hc,dm (by lia),?_⟩
   have d6:upd H c (.lst<|xs++[V.ref a1]) a1=some (.tup [.str "cut",.str s]):=by rw[aC<|cb h1 hc (by intro z;cases z)];exact h1
   refine⟨_,rfl,.inr<|.inl ⟨_,_,_,_,rfl,rfl,aD.of d6,rfl,_,rfl,?_⟩⟩;exact q _ (bc _) (by rw[aw];rfl) (by rw[nG];simp[eG])
  |cut s'=>
   have e:=heq s s' rfl rfl;subst e;refine⟨_,rfl,.inr<|.inl ⟨_,_,_,_,rfl,rfl,aD.of h1,rfl,_,rfl,.inr<|.inl ⟨_,_,_,_,rfl,rfl,aD.of h2,rfl,_,rfl,?_⟩⟩⟩;rw[zaG,zqT (show(Pt.cut s).val=(Pt.cut s).val from rfl)]
   exact q _ (fun b o e _ _=>e) (by rw[hc];simp[eG]) (by rw[hd];simp[eG])
end L2.B
namespace L2
open PySem PySem.Spec PyProof.Rows
theorem YZ{b:RE}{QT:Bool->Hp->Prop}(h:bg Γ a σ H fun c H1=>if c=true then QT true H1 else bg Γ b σ H1 QT):bg Γ (.or [a,b]) σ H QT:=h
end L2
namespace L2.B
open PySem PySem.Spec PyProof.Rows
inductive c6:List At->List At->List At->List At->Prop
 |nil:c6 [] [] [] []
 |p1 {c xs ys os ts}:c6 xs ys os ts->c6 (.P c::xs) ys (.P c::os) (.K::ts)
 |p2 {c xs ys os ts}:(∀d zs,xs≠ .P d::zs)->c6 xs ys os ts->c6 xs (.P c::ys) (.K::os) (.P c::ts)
 |kk {xs ys os ts}:c6 xs ys os ts->c6 (.K::xs) (.K::ys) (.K::os) (.K::ts)
 |kc {c xs ys os ts}:c6 xs ys os ts->c6 (.K::xs) (.C c::ys) os (.C c::ts)
 |ck {c xs ys os ts}:c6 xs ys os ts->c6 (.C c::xs) (.K::ys) (.C c::os) ts
 |cc {c xs ys os ts}:c6 xs ys os ts->c6 (.C c::xs) (.C c::ys) os ts
def Seg(a b o t:List At):Prop:=cG a b o t/\∀xs ys os ts,c6 xs ys os ts->c6 (a++xs) (b++ys) (o++os) (t++ts)
theorem Y0(s:List Nat):Seg (s.map .P) [] (s.map .P) (rK s.length):=⟨KD s,by
 induction s with
 |nil=>intro xs ys os ts h;exact h
 |cons c s ih=>intro xs ys os ts h;exact .p1 (ih xs ys os ts h)⟩
theorem Y1(n:Nat):Seg (rK n) (rK n) (rK n) (rK n):=⟨KH n,by
 induction n with
 |zero=>intro xs ys os ts h;exact h
 |succ n ih=>intro xs ys os ts h;exact .kk (ih xs ys os ts h)⟩
theorem Y2(s:List Nat):Seg (rK s.length) (s.map .C) [] (s.map .C):=⟨KI s,by
 induction s with
 |nil=>intro xs ys os ts h;exact h
 |cons c s ih=>intro xs ys os ts h;exact .kc (ih xs ys os ts h)⟩
theorem Y3(s:List Nat):Seg (s.map .C) (rK s.length) (s.map .C) []:=⟨KJ s,by
 induction s with
 |nil=>intro xs ys os ts h;exact h
 |cons c s ih=>intro xs ys os ts h;exact .ck (ih xs ys os ts h)⟩
theorem Y4(s:List Nat):Seg (s.map .C) (s.map .C) [] []:=⟨KL s,by
 induction s with
 |nil=>intro xs ys os ts h;exact h
 |cons c s ih=>intro xs ys os ts h;exact .cc (ih xs ys os ts h)⟩
theorem KU{xs ys os ts:List At}(hn:∀d zs,xs≠ .P d::zs)(h:c6 xs ys os ts):∀s:List Nat,c6 xs (s.map .P++ys) (rK s.length++os) (s.map .P++ts)
 |[]=>h
 |c::s=>.p2 hn (KU hn h s)
def jG(xs ys a b z1 z2 o t:List At):Prop:=cG z1 z2 o t/\∀os ts,c6 a b os ts->c6 xs ys (o++os) (t++ts)
theorem jG.seg{xs ys a1 a b1 b z1 z2 o t o1 t1:List At}(h:jG xs ys (a1++a) (b1++b) z1 z2 o t)(s:Seg a1 b1 o1 t1):jG xs ys a b (z1++a1) (z2++b1) (o++o1) (t++t1):=
 ⟨h.1.app s.1,fun os ts hp=>by rw[zao,zao];exact h.2 _ _ (s.2 _ _ _ _ hp)⟩
theorem jG.p2{xs ys a b z1 z2 o t:List At}{s:List Nat}(hn:∀d zs,a≠ .P d::zs)(h:jG xs ys a (s.map .P++b) z1 z2 o t):jG xs ys a b z1 (z2++s.map .P) (o++rK s.length) (t++s.map .P):=
 ⟨by have:=h.1.app (KG s);rw[zad] at this;exact this,fun os ts hp=>by rw[zao,zao];exact h.2 _ _ (KU hn hp s)⟩
theorem Y5(ho:∀p∈ps,aZ p)(h:mT ps≠"put"):∀d zs,av ps≠ .P d::zs:=by
 intro d zs;cases ps with
 |nil=>intro z;cases z
 |cons p t=>
  have hp:=ho p (.head _);rw[dn];cases p with
  |put s=>exact absurd rfl h
  |keep n=>
   obtain⟨m,e⟩:∃m,n.toNat=m+1:=⟨n.toNat - 1,by have:1<=n:=hp;lia⟩
   show rK n.toNat++_≠_;rw[e];intro z;cases z
  |cut s=>
   obtain⟨c,r,e⟩:=iJ hp.2;show s.cps.toList.map At.C++_≠_;rw[e];intro z;cases z
structure Passed (one other ps qs:List Pt) (l m n:List Nat):Prop where
 Bw:∀p∈ps,aZ p
 xj:∀p∈qs,aZ p
 ch1:chainOk "" ps=true
 Y6:chainOk "" qs=true
 runs:∃r,Run n ps r/\Run m qs r
 tQ:ps.length<=3* (one.length+other.length)+2
 tR:qs.length<=3* (one.length+other.length)+2
 adZ:aA ps<=aA one
 ad0:aA qs<=aA other
 pas:∃os ts,cG (av one) (av other) os ts/\nb (av ps)=nb os/\nb (av qs)=nb ts
 Y7:∃os ts,c6 (av one) (av other) os ts/\nb (av ps)=nb os/\nb (av qs)=nb ts
theorem KW(ho:∀p∈ps,aZ p)(ht:aA ps<=100000)(h:fit l (av ps)):(∀p∈jb ps,aZ p)/\chainOk "" (jb ps)=true/\Run l (jb ps) (out l<|av ps)/\aA (jb ps)=aA ps:=by
 have Bx:=XY ho ht;have heq:=AL ps Bx;obtain⟨g1,g2,_⟩:=wQ ps Bx ht;rw[heq];exact⟨g2,g1,AW<|tE ps l (fun p hp=>tw<|ho p hp) h,A4 ps Bx⟩
theorem Y8{one r1 r2:List Pt}{m n:List Nat}(h1:Run l one m)(h2:Run l other n)(o1:∀p∈r1,aZ p)(o2:∀p∈r2,aZ p)(l1:r1.length<=one.length+other.length)(l2:r2.length<=one.length+other.length)(ht:aA one+aA other<=100000)
  (h:cG (av one) (av other) (av r1) (av r2)) (hO:c6 (av one) (av other) (av r1) (av r2)):Passed one other (jb r1) (jb r2) l m n/\aA r1<=100000/\aA r2<=100000:=by
 obtain⟨c1,c2⟩:=h.YS;rw[lK,lK] at c1 c2;obtain⟨f1,f2⟩:=h1.fits;obtain⟨f3,f4⟩:=h2.fits;obtain⟨g1,g2,g3⟩:=h.fits l f1 f3;rw[f2] at g1 g3;rw[f4] at g2 g3;obtain⟨a1,a2,a3,a4⟩:=KW o1 (by lia) g2
 obtain⟨b1,b2,b3,b4⟩:=KW o2 (by lia) g1
 have n1:=AQ r1;have n2:=AQ r2;refine⟨⟨a1,b1,a2,b2,⟨_,a3,by rw[<-g3];exact b3⟩,by lia,by lia,by lia,by lia,⟨_,_,h,tF r1 fun p hp=>tw (o1 p hp),tF r2 fun p hp=>tw (o2 p hp)⟩,⟨_,_,hO,tF r1 fun p hp=>tw (o1 p hp),tF r2 fun p hp=>tw (o2 p hp)⟩⟩,by lia,by lia⟩
def By:Sp:=fun vs H Q E=>∃(a b:Addr) (xs ys:List V) (one other:List Pt) (l m n:List Nat),vs=[.ref a,.ref b]/\H a=some (.lst xs)/\H b=some (.lst ys)/\aJ H xs one/\aJ H ys other/\(∀p∈one,aZ p)/\(∀p∈other,aZ p)/\chainOk "" one=true/\chainOk "" other=true/\
 one.length+other.length<=30000/\aA one+aA other<=100000/\Run l one m/\Run l other n/\
 ∀(t c d:Addr) (H':Hp) (zs ws:List V) (ps qs:List Pt),az H H'->H c=none->H d=none->c≠d->H' t=some (.tup [.ref c,.ref d])->H' c=some (.lst zs)->H' d=some (.lst ws)->aJ H' zs ps->aJ H' ws qs->Passed one other ps qs l m n->Q (.ref t) H'
abbrev tU(C:Addr):List (Str×Sp):=[("sizes",sR),("put_first",xb C),("share",Bv),("neat",wB)]
abbrev tV(C:Addr):List (Str×Addr×Sp):=[("word",C,w4 C),("left",C,qM C),("take",C,tJ C)]
theorem KY{p:Pt}{t:List Pt}:(mT (p::t) !="")=true:=by
 cases p<;>rfl
theorem Y9{K:Frag}{et:List (Str×Addr)}(T:oA K C):c9 (By) (fun E=>aM K (tU C) [] [] (tV C) [("Walk",C,mU C)] (et:=et) (E:=E)) Hv Hu:=by
 intro vs H Q E h;obtain⟨a,b,xs,ys,one,other,l,m,n,rfl,ha,hb,kO,gi,ju,fX,dW,lZ,hlen,Y_,Bz,mV,q⟩:=h;have lx:=Paired.length kO;have ly:=Paired.length gi;obtain⟨f1,f2⟩:=Bz.fits;obtain⟨f3,f4⟩:=mV.fits;refine bZ<|cL<|bD<|cv sR rfl<|ay<|aj rfl<|aN ⟨a,xs,one,rfl,ha,kO,ju,dW,by lia,fun t1 H1 s1 jC=>?_⟩
 refine ax<|.inr<|.inl ⟨_,_,_,_,rfl,rfl,aD.of jC,rfl,?_⟩;refine bD<|cv sR rfl<|ay<|aj rfl<|aN ⟨b,ys,other,rfl,s1 _ _ hb,gi.mono<|bF s1,fX,lZ,by lia,fun t2 H2 s2 s_=>?_⟩
 refine ax<|.inr<|.inl ⟨_,_,_,_,rfl,rfl,aD.of s_,rfl,?_⟩;show ∃k,V.bl (true ^^ decide (V.int (overOf one).sum=V.int (overOf other).sum))=V.bl k/\_;refine⟨_,rfl,?_⟩;rw[Bz.over,mV.over,zqT rfl];have c3:=s1.trans s2;refine bK<|KN C (mU C) rfl<|aj rfl fun w dx hw Za jw=>?_;have s3:az H2 (upd (upd H2 dx<|.own w) w<|.ins C dx []):=fun b o e=>by rw[aC<|aK e hw,aC<|aK e Za];exact e
 have BA:=c3.trans s3;refine⟨w,dx,a,xs,one,rfl,aw,BA _ _ ha,kO.mono<|bF BA,ju,by lia,fun L H3 hL hLw b3 W=>⟨rfl,?_⟩⟩
 have iM:az H H3:=fun b o e=>b3 b o (BA b o e) (aK (c3 b o e) hw);have fw:H w=none:=c3.free hw;refine bK<|KN C (mU C) rfl<|aj rfl fun v BB hv Zb ad3=>?_;have s4:az H3 (upd (upd H3 BB<|.own v) v<|.ins C BB []):=fun b o e=>by rw[aC<|aK e hv,aC<|aK e Zb];exact e
 have ki:=iM.trans s4;refine⟨v,BB,b,ys,other,rfl,aw,ki _ _ hb,gi.mono<|bF ki,fX,by lia,fun M H5 hM hMv b5 V5=>⟨rfl,?_⟩⟩
 have KZ:az H3 H5:=fun b o e=>b5 b o (s4 b o e) (aK e hv);have BC:=iM.trans KZ;have fv:H v=none:=iM.free hv;have W5:=W.same KZ;obtain⟨_,_,_,Zc⟩:=W.ob;have xk:w≠v:=aK Zc hv;refine bK<|e7<|aN ⟨zqZ _,fun c hc=>?_⟩;refine bK<|e7<|aN ⟨zqZ _,fun d hd=>?_⟩;have iL:c≠d:=fun z=>by rw[<-z,aw] at hd;cases hd
 have o5:H5 d=none:=by rw[aC iL.symm] at hd;exact hd
 have fc:H c=none:=BC.free hc;have fd:H d=none:=BC.free o5;have lst:∀{H4:Hp}{w' L':Addr}{rs:List Pt},bV C H4 w' L' rs->∃zs,H4 L'=some (.lst zs):=fun⟨_,zs,_,_,_,_,h,_⟩=>⟨zs,h⟩;obtain⟨_,K0⟩:=lst W5;obtain⟨_,K1⟩:=lst V5;have tN:c≠L:=(aK K0 hc).symm;have BD:c≠M:=(aK K1 hc).symm;have tO:d≠L:=(aK K0 o5).symm;have BE:d≠M:=(aK K1 o5).symm;have s6:az H5 (upd (upd H5 c<|.lst []) d<|.lst []):=(sameNew hc).trans (sameNew hd);refine YT (fun mm σ H6=>∃(u:Option V) (zs ws:List V) (r1 r2 p1 p2:List Pt) (z1 z2:List At) (l':List Nat),mm=(av p1).length+(av p2).length/\σ=[some (.ref a),some (.ref b),some (.ref w),some (.ref v),some (.ref c),some (.ref d),u]/\az H H6/\H6 c=some (.lst zs)/\H6 d=some (.lst ws)/\
   aJ H6 zs r1/\aJ H6 ws r2/\(∀p∈r1,aZ p)/\(∀p∈r2,aZ p)/\bV C H6 w L p1/\bV C H6 v M p2/\av one=z1++av p1/\av other=z2++av p2/\jG (av one) (av other) (av p1) (av p2) z1 z2 (av r1) (av r2)/\fit l' (av p1)/\fit l' (av p2)/\
   r1.length+p1.length+p2.length<=one.length+other.length/\r2.length+p1.length+p2.length<=one.length+other.length)
  ⟨_,none,[],[],[],[],one,other,[],[],l,rfl,rfl,BC.trans s6,(by rw[aC iL,aw]),aw,.nil,.nil,(fun p hp=>by cases hp),(fun p hp=>by cases hp),W5.same s6,V5.same s6,rfl,rfl,⟨.nil,fun _ _ h=>h⟩,f1,f3,by simp,by simp⟩ ?_
 rintro mm σ H6 ⟨u,zs,ws,r1,r2,p1,p2,z1,z2,l',rfl,rfl,tW,jy,lN,hz,mZ,o1,o2,W6,V6,e1,e2,kj,fa,fb,tQ,tR⟩;have XF:=Paired.length hz;have vB:=Paired.length mZ;obtain⟨dxw,iw,ow,o6⟩:=W6.ob;obtain⟨dxv,iv,ov,xl⟩:=V6.ob;have xg:c≠w:=cb jy o6 (by intro z;cases z)
 have K2:c≠v:=cb jy xl (by intro z;cases z)
 have xh:d≠w:=cb lN o6 (by intro z;cases z)
 have K3:d≠v:=cb lN xl (by intro z;cases z)
 have fin:p1=[]->p2=[]->aB (aM K (tU C) [] [] (tV C) [("Walk",C,mU C)] (et:=et) (E:=E)) [.ret<|.tup [(.call 3 [.v 4]),(.call 3 [.v 5])]] (Dn Q) [some<|.ref a,some<|.ref b,some<|.ref w,some<|.ref v,some<|.ref c,some<|.ref d,u] H6:=by
  rintro rfl rfl;rw[show av []=[] from rfl,zad] at e1 e2
  subst e1 e2
  simp only[zbn] at tQ tR
  have hO:=kj.2 [] [] .nil;rw[zad,zad] at hO;have kj:=kj.1;obtain⟨J,t1,t2⟩:=Y8 Bz mV o1 o2 (by lia) (by lia) Y_ kj hO
  refine dq<|gk<|ay<|cv wB rfl<|ay<|aj rfl<|aN ⟨c,zs,r1,rfl,jy,hz,by lia,t1,fun e H7 Zd s7 he h7 Ze=>?_⟩
  refine ay<|cv wB rfl<|ay<|aj rfl<|aN ⟨d,ws,r2,rfl,s7 _ _ lN,mZ.mono<|bF s7,by lia,t2,fun g H8 Zf s8 hg h8 Zg=>?_⟩
  refine aN ⟨dc,fun t ht=>?_⟩;have s9:=sameNew (o:=.tup [V.ref e,V.ref g]) ht;have neg:e≠g:=aK h7 hg;exact q t e g _ Zd Zf _ _ (tW.trans<|s7.trans<|s8.trans s9) (tW.free he) ((tW.trans s7).free hg) neg aw (s9 _ _<|s8 _ _ h7) (s9 _ _ h8) ((Ze.mono<|bF s8).mono<|bF s9) (Zg.mono<|bF s9) J
 have turn:(p1≠ []\/p2≠ [])->∃N:St->Hp->Prop,(∀σ' H',N σ' H'->∃m',m'< (av p1).length+(av p2).length/\∃(u:Option V) (zs ws:List V) (r1 r2 p1 p2:List Pt) (z1 z2:List At) (l':List Nat),m'=(av p1).length+(av p2).length/\σ'=[some (.ref a),some (.ref b),some (.ref w),some (.ref v),some (.ref c),some (.ref d),u]/\az H H'/\H' c=some (.lst zs)/\H' d=some (.lst ws)/\
   aJ H' zs r1/\aJ H' ws r2/\(∀p∈r1,aZ p)/\(∀p∈r2,aZ p)/\bV C H' w L p1/\bV C H' v M p2/\av one=z1++av p1/\av other=z2++av p2/\jG (av one) (av other) (av p1) (av p2) z1 z2 (av r1) (av r2)/\fit l' (av p1)/\fit l' (av p2)/\
   r1.length+p1.length+p2.length<=one.length+other.length/\r2.length+p1.length+p2.length<=one.length+other.length)/\
   aB (aM K (tU C) [] [] (tV C) [("Walk",C,mU C)] (et:=et) (E:=E)) [.ite (.cmp .Eq (.bj 0 "word" (.v 2) []) (.c (.str "put"))) [.drop (.call 1 [.v 2,.v 4,.v 5])] [.ite (.cmp .Eq (.bj 0 "word" (.v 3) []) (.c (.str "put"))) [.drop (.call 1 [.v 3,.v 5,.v 4])] [.asg 6 (.blt .min [(.bj 1 "left" (.v 2) []),(.bj 1 "left" (.v 3) [])]),
    .drop (.call 2 [(.bj 2 "take" (.v 2) [.v 6]),(.bj 2 "take" (.v 3) [.v 6]),.v 4,.v 5])]]]
    {{Dn Q with nx:=aB (aM K (tU C) [] [] (tV C) [("Walk",C,mU C)] (et:=et) (E:=E)) [.ret<|.tup [(.call 3 [.v 4]),(.call 3 [.v 5])]] (Dn Q)} with nx:=N,ct:=N,bk:=aB (aM K (tU C) [] [] (tV C) [("Walk",C,mU C)] (et:=et) (E:=E)) [.ret<|.tup [(.call 3 [.v 4]),(.call 3 [.v 5])]] (Dn Q)} [some<|.ref a,some<|.ref b,some<|.ref w,some<|.ref v,some<|.ref c,some<|.ref d,u] H6:=by
  intro Zh;refine⟨_,fun σ' H' z=>z,?_⟩;have K4:∀{H7:Hp}{x:Addr},H x=none->tM x c d H6 H7->az H H7:=fun {H7 x} hx b e o he=>b e o (tW e o he) (aK he hx) (aK he fc) (aK he fd);have K5:∀{H7:Hp}{x:Addr}{C' Bu rB},H6 x=some (.ins C' Bu rB)->tM x c d H6 H7->eh H6 H7:=fun {H7 x C' Bu rB} hx b e vs he=>b e _ he (cb he hx (by intro z;cases z)) (cb he jy (by intro z;cases z)) (cb he lN (by intro z;cases z))
  have qO:∀{r:List Pt}{x:Pt},(∀p∈r,aZ p)->aZ x->∀p∈r++[x],aZ p:=fun {r x} h hx p hp=>by
   rcases zaf.mp hp with z|z
   ·exact h p z
   ·rw[zag.mp z];exact hx
  refine bZ<|cL<|xa (C:=C) rfl rfl W6<|ax<|oZ ⟨_,rfl,?_⟩;by_cases fF:mT p1="put"
  ·obtain⟨s,t,rfl⟩:∃s t,p1=.put s::t:=by
    cases p1 with
    |nil=>exact absurd (show(Str.ofString "")="put" from fF) (by decide)
    |cons p t=>
     cases p with
     |put s=>exact⟨s,t,rfl⟩
     |keep n=>exact absurd (show(Str.ofString "keep")="put" from fF) (by decide)
     |cut n=>exact absurd (show(Str.ofString "cut")="put" from fF) (by decide)
   have mY:=W6.ok _ (.head _);refine iT ?_ rfl;refine eO<|cv (xb C) rfl<|ay<|aj rfl<|ay<|aj rfl<|ay<|aj rfl<|aN ?_
   simp only[zay] at tQ tR
   refine⟨w,L,c,d,s,t,zs,ws,rfl,W6,jy,lN,iL,tN,tO,by lia,by lia,fun a1 a2 H7 b7 BF BG BH BI W7=>?_⟩
   have tt:=K5 o6 b7;have V7:bV C H7 v M p2:=V6.KR b7 jy lN BD BE xk.symm ⟨_,_,_,o6⟩;rw[dn] at e1 fa;have dD:=Bq (.put s);have sS:=(lH mY).2;refine⟨_,?_,u,zs++[V.ref a1],ws++[V.ref a2],r1++[.put s],r2++[.keep (s.length:Int)],t,p2,z1++bT (.put s),z2,l',rfl,rfl,K4 fw b7,BF,BG,aJ.snoc (p:=.put s) (hz.mono tt) ⟨a1,rfl,BH⟩,aJ.snoc (p:=.keep (s.length:Int)) (mZ.mono tt) ⟨a2,rfl,BI⟩,qO o1 mY,qO (x:=.keep (s.length:Int)) o2 (show(1:Int)<= (s.length:Int) by have:1<=s.length:=sS;lia),W7,V7,by rw[e1,zao],e2,?_,(tu _ _ _).mp fa,fb,by simp;lia,by simp;lia⟩
   ·rw[dn,zqA];lia
   ·rw[dn] at kj;have:=jG.seg (b1:=[]) kj (Y0 s.cps.toList);rw[zad] at this;rw[ij,ij,iI,iI];have ek:bT (.keep (s.length:Int))=rK s.cps.toList.length:=by show rK ((s.length:Int)).toNat=_;rw[zax,len_list]
    rw[ek];exact this
  ·refine iF ?_ (beq_eq_false_iff_ne.mpr fF);refine bZ<|cL<|xa (C:=C) rfl rfl V6<|ax<|oZ ⟨_,rfl,?_⟩;by_cases jo:mT p2="put"
   ·obtain⟨s,t,rfl⟩:∃s t,p2=.put s::t:=by
     cases p2 with
     |nil=>exact absurd (show(Str.ofString "")="put" from jo) (by decide)
     |cons p t=>
      cases p with
      |put s=>exact⟨s,t,rfl⟩
      |keep n=>exact absurd (show(Str.ofString "keep")="put" from jo) (by decide)
      |cut n=>exact absurd (show(Str.ofString "cut")="put" from jo) (by decide)
    have mY:=V6.ok _ (.head _);refine iT ?_ rfl;refine eO<|cv (xb C) rfl<|ay<|aj rfl<|ay<|aj rfl<|ay<|aj rfl<|aN ?_
    simp only[zay] at tQ tR
    refine⟨v,M,d,c,s,t,ws,zs,rfl,V6,lN,jy,iL.symm,BE,BD,by lia,by lia,fun a1 a2 H7 Zi BG BF BH BI V7=>?_⟩
    have b7:tM v c d H6 H7:=fun e o he n1 n2 n3=>Zi e o he n1 n3 n2;have tt:=K5 xl b7;have W7:bV C H7 w L p1:=W6.KR b7 jy lN tN tO xk ⟨_,_,_,xl⟩;rw[dn] at e2 fb;have dD:=Bq (.put s);have sS:=(lH mY).2;refine⟨_,?_,u,zs++[V.ref a2],ws++[V.ref a1],r1++[.keep (s.length:Int)],r2++[.put s],p1,t,z1,z2++bT (.put s),l',rfl,rfl,K4 fv b7,BF,BG,aJ.snoc (p:=.keep (s.length:Int)) (hz.mono tt) ⟨a2,rfl,BI⟩,aJ.snoc (p:=.put s) (mZ.mono tt) ⟨a1,rfl,BH⟩,qO (x:=.keep (s.length:Int)) o1 (show(1:Int)<= (s.length:Int) by have:1<=s.length:=sS;lia),qO o2 mY,W7,V7,e1,by rw[e2,zao],?_,fa,(tu _ _ _).mp fb,by simp;lia,by simp;lia⟩
    ·rw[dn,zqA];lia
    ·rw[dn] at kj;have:=jG.p2 (s:=s.cps.toList) (Y5 W6.ok fF) kj;rw[ij,ij,iI,iI];have ek:bT (.keep (s.length:Int))=rK s.cps.toList.length:=by show rK ((s.length:Int)).toNat=_;rw[zax,len_list]
     rw[ek];exact this
   ·refine iF ?_ (beq_eq_false_iff_ne.mpr jo);have xn:∀{p:Pt}{t:List Pt},mT (p::t)≠"put"->∀s,p≠ .put s:=fun {p t} h s z=>by subst z;exact h rfl
    have K6:∀{p:Pt}{t:List Pt},aZ p->(∀s,p≠ .put s)-> ¬fit [] (av (p::t)):=by
     intro p t hp hn hf;have hl:=oY _ _ hf;rw[dn,w6] at hl;have h1:=(lH hp).2;have:bL (bT p)=bG p:=by
      cases p with
      |keep n=>exact Bm _
      |put s=>exact absurd rfl (hn s)
      |cut s=>show bL (s.cps.toList.map At.C)=s.length;rw[w_,len_list]
     simp only[zbn] at hl
     lia
    obtain⟨x,t,ex⟩:∃x t,p1=x::t:=by
     cases p1 with
     |cons x t=>exact⟨x,t,rfl⟩
     |nil=>
      exfalso
      have dS:l'=[]:=fa;subst dS;cases p2 with
      |nil=>rcases Zh with z|z<;>exact z rfl
      |cons y t'=>exact K6 (V6.ok y<|.head _) (xn jo) fb
    subst ex;obtain⟨y,t',ey⟩:∃y t',p2=y::t':=by
     cases p2 with
     |cons y t'=>exact⟨y,t',rfl⟩
     |nil=>
      exfalso
      have dS:l'=[]:=fb;subst dS;exact K6 (W6.ok x<|.head _) (xn fF) fa
    subst ey;have nx:=xn fF;have ny:=xn jo;have K7:=W6.ok x (.head _);have K8:=V6.ok y (.head _);obtain⟨px1,px2⟩:=lH K7;obtain⟨py1,py2⟩:=lH K8;obtain⟨k,hk⟩:∃k,k=min (bG x) (bG y):=⟨_,rfl⟩;have k1:1<=k:=by lia
    have k2:k<=bG x:=by lia
    have k3:k<=bG y:=by lia
    have emin:(if (bG y:Int) < (bG x:Int) then (bG y:Int) else (bG x:Int))=(k:Int):=by split<;>lia
    refine bK<|YB<|ay<|Br (C:=C) rfl rfl W6<|ay<|Br (C:=C) rfl rfl V6<|aN ?_;show aB _ _ _ ([some<|.ref a,some<|.ref b,some<|.ref w,some<|.ref v,some<|.ref c,some<|.ref d,u].set 6 (some<|V.int (if (bG y:Int) < (bG x:Int) then (bG y:Int) else (bG x:Int)))) H6
    rw[emin];refine eO<|cv Bv rfl<|ay<|Bt (C:=C) (k:=k) rfl rfl W6 k1 k2 (fun Q' hq=>aj rfl hq) fun a1 H7 b7 gW hf7 W7=>?_;have V7:bV C H7 v M (y::t'):=V6.keep fun e o he z=>b7 e o he (by
     rcases z with rfl|rfl|⟨_,rfl⟩
     ·exact xk.symm
     ·obtain⟨_,Zj⟩:=lst V6;exact cb Zj o6 (by intro z;cases z)
     ·exact cb he o6 (by intro z;cases z))
    refine ay<|Bt (C:=C) (k:=k) rfl rfl V7 k1 k3 (fun Q' hq=>aj rfl hq) fun a2 H8 b8 kg hf8 V8=>?_;obtain⟨_,_,_,hW7⟩:=W7.ob;obtain⟨_,_,_,xo⟩:=V7.ob;have W8:bV C H8 w L (d_ x t k):=W7.keep fun e o he z=>b8 e o he (by
     rcases z with rfl|rfl|⟨_,rfl⟩
     ·exact xk
     ·obtain⟨_,Zk⟩:=lst W7;exact cb Zk xo (by intro z;cases z)
     ·exact cb he xo (by intro z;cases z))
    have K9:=b8 _ _ gW (cb gW xo (by intro z;cases z))
    have K_:=b8 _ _ (b7 _ _ jy xg) K2;have La:=b8 _ _ (b7 _ _ lN xh) K3;have Zl:eh H6 H8:=(b7.KQ o6).trans (b8.KQ xo);refine ay<|aj rfl<|ay<|aj rfl<|aN ?_;have eA:=Bp t k2;have eB:=Bp t' k3;rw[eA] at fa;rw[eB] at fb;obtain⟨la,lb,rfl,g1,g2,g3⟩:=tK _ _ fa;have BJ:la.length=k:=by
     rw[oY _ _ g1];have e:=Bk x k k2;cases x with
     |keep n=>exact Bm k
     |put s=>exact absurd rfl (nx s)
     |cut s=>
      have e':(⟨(s.cps.toList.take k).toArray⟩:Str).length=k:=e;rw[lI] at e';show bL ((s.cps.toList.take k).map At.C)=k;rw[w_];exact e'
    have Zm:bL (bT<|bp y k)=k:=by
     have e:=Bk y k k3;cases y with
     |keep n=>exact Bm k
     |put s=>exact absurd rfl (ny s)
     |cut s=>
      have e':(⟨(s.cps.toList.take k).toArray⟩:Str).length=k:=e;rw[lI] at e';show bL ((s.cps.toList.take k).map At.C)=k;rw[w_];exact e'
    obtain⟨g4,g5⟩:=YR fb (by rw[BJ,Zm])
    have tX:∀{s:Str}{u:List Nat},fit u (bT<|.cut s)->s.cps.toList=u:=by
     intro s u hu;obtain⟨b,rfl⟩:=Bc s.cps.toList u [] (by rw[zad];exact hu)
     have h1:=oY _ _ hu;have e1:bL (bT<|.cut s)=s.cps.toList.length:=w_ _;rw[e1,zqA] at h1;have:b=[]:=zaH.mp (by lia)
     rw[this,zad]
    have Zn:=Kv K7 k1 k2;have Zo:=Kv K8 k1 k3
    simp only[zay] at tQ tR
    refine⟨.ref a1,.ref a2,c,d,bp x k,bp y k,zs,ws,rfl,⟨a1,rfl,K9⟩,⟨a2,rfl,kg⟩,?_,?_,?_,K_,La,iL,by lia,by lia,fun H9 b9 Zp Zq=>?_⟩
    ·intro s z;cases x<;>first|exact absurd rfl (nx _)|cases z
    ·intro s z;cases y<;>first|exact absurd rfl (ny _)|cases z
    ·intro s s' z z';rw[z] at g1;rw[z'] at g4;exact gU<|(tX g1).trans (tX g4).symm
    have tY:∀{e:Addr}{o:HO},H8 e=some o->(e=w\/e=L\/e=v\/e=M\/∃vs,o=.tup vs)->H9 e=some o:=by
     intro e o he z;obtain⟨_,tZ⟩:=lst W8;obtain⟨_,hM8⟩:=lst V8;obtain⟨_,_,_,hW8⟩:=W8.ob;obtain⟨_,_,_,hV8⟩:=V8.ob;refine b9 e o he ?_ ?_
     ·rcases z with rfl|rfl|rfl|rfl|⟨vs,rfl⟩
      ·exact xg.symm
      ·exact tN.symm
      ·exact K2.symm
      ·exact BD.symm
      ·exact cb he K_ (by intro z;cases z)
     ·rcases z with rfl|rfl|rfl|rfl|⟨vs,rfl⟩
      ·exact xh.symm
      ·exact tO.symm
      ·exact K3.symm
      ·exact BE.symm
      ·exact cb he La (by intro z;cases z)
    have W9:bV C H9 w L (d_ x t k):=W8.keep fun e o he z=>tY he (by
     rcases z with z|z|z
     ·exact .inl z
     ·exact .inr (.inl z)
     ·exact .inr (.inr (.inr (.inr z))))
    have V9:bV C H9 v M (d_ y t' k):=V8.keep fun e o he z=>tY he (by
     rcases z with z|z|z
     ·exact .inr (.inr<|.inl z)
     ·exact .inr (.inr<|.inr<|.inl z)
     ·exact .inr (.inr (.inr (.inr z))))
    have xp:eh H6 H9:=fun e vs he=>tY (Zl e vs he) (.inr<|.inr<|.inr<|.inr ⟨vs,rfl⟩);have Zr:H9 a1=some (.tup [.str (bp x k).word,(bp x k).val]):=tY K9 (.inr<|.inr<|.inr<|.inr ⟨_,rfl⟩);have Zs:H9 a2=some (.tup [.str (bp y k).word,(bp y k).val]):=tY kg (.inr<|.inr<|.inr<|.inr ⟨_,rfl⟩);have Zt:az H H9:=fun e o he=>b9 e o (b8 e o (b7 e o (tW e o he)<|aK he fw)<|aK he fv) (aK he fc) (aK he fd);have FY:=KP t k1 k2;have FZ:=KP t' k1 k3;have aeg:(d_ x t k).length+(d_ y t' k).length<=t.length+t'.length+1:=by
     have r1:=KO x t k;have r2:=KO y t' k;by_cases hz:k=bG x
     ·have e:d_ x t k=t:=if_pos hz;rw[e];lia
     ·have Ay:k=bG y:=by lia
      have e:d_ y t' k=t':=if_pos Ay;rw[e];lia
    refine⟨_,Nat.add_lt_add FY FZ,some<|.int (k:Int),zs++(if eG (bp y k) then [V.ref a1] else []),ws++(if eG (bp x k) then [V.ref a2] else []),r1++(if eG (bp y k) then [bp x k] else []),r2++(if eG (bp x k) then [bp y k] else []),d_ x t k,d_ y t' k,z1++bT (bp x k),z2++bT (bp y k),lb,rfl,rfl,Zt,Zp,Zq,?_,?_,?_,?_,W9,V9,by rw[e1,eA,zao],by rw[e2,eB,zao],?_,g2,g5,?_,?_⟩
    ·split
     ·exact aJ.snoc (hz.mono xp) ⟨a1,rfl,Zr⟩
     ·rw[zad,zad];exact hz.mono xp
    ·split
     ·exact aJ.snoc (mZ.mono xp) ⟨a2,rfl,Zs⟩
     ·rw[zad,zad];exact mZ.mono xp
    ·split
     ·exact qO o1 Zn
     ·rw[zad];exact o1
    ·split
     ·exact qO o2 Zo
     ·rw[zad];exact o2
    ·rw[ij,ij];rw[eA,eB] at kj;refine jG.seg kj ?_;cases x with
     |put s=>exact absurd rfl (nx s)
     |keep n=>
      have Lb:bT (bp (.keep n) k)=rK k:=by show rK ((k:Nat):Int).toNat=_;rw[zax]
      cases y with
      |put s=>exact absurd rfl (ny s)
      |keep n'=>
       have BK:bT (bp (.keep n') k)=rK k:=by show rK ((k:Nat):Int).toNat=_;rw[zax]
       rw[show(if eG (bp (.keep n') k)=true then [bp (.keep n) k] else [])=[bp (.keep n) k] from rfl,show(if eG (bp (.keep n) k)=true then [bp (.keep n') k] else [])=[bp (.keep n') k] from rfl,iI,iI,Lb,BK]
       exact Y1 k
      |cut s=>
       rw[show(if eG (bp (.cut s) k)=true then [bp (.keep n) k] else [])=[] from rfl,show(if eG (bp (.keep n) k)=true then [bp (.cut s) k] else [])=[bp (.cut s) k] from rfl,iI,Lb]
       have ec:bT (bp (.cut s) k)=la.map At.C:=by
        have:=tX (s:=⟨(s.cps.toList.take k).toArray⟩) g4;show(s.cps.toList.take k).map At.C=_;rw[show s.cps.toList.take k=la from this]
       rw[ec,<-BJ];exact Y2 la
     |cut s=>
      have ec:bT (bp (.cut s) k)=la.map At.C:=by
       have:=tX (s:=⟨(s.cps.toList.take k).toArray⟩) g1;show(s.cps.toList.take k).map At.C=_;rw[show s.cps.toList.take k=la from this]
      cases y with
      |put s=>exact absurd rfl (ny s)
      |keep n'=>
       have BK:bT (bp (.keep n') k)=rK k:=by show rK ((k:Nat):Int).toNat=_;rw[zax]
       rw[show(if eG (bp (.keep n') k)=true then [bp (.cut s) k] else [])=[bp (.cut s) k] from rfl,show(if eG (bp (.cut s) k)=true then [bp (.keep n') k] else [])=[] from rfl,iI,BK,ec,<-BJ]
       exact Y3 la
      |cut s'=>
       have Zu:bT (bp (.cut s') k)=la.map At.C:=by
        have:=tX (s:=⟨(s'.cps.toList.take k).toArray⟩) g4;show(s'.cps.toList.take k).map At.C=_;rw[show s'.cps.toList.take k=la from this]
       rw[show(if eG (bp (.cut s') k)=true then [bp (.cut s) k] else [])=[] from rfl,show(if eG (bp (.cut s) k)=true then [bp (.cut s') k] else [])=[] from rfl,ec,Zu]
       exact Y4 la
    ·have:(r1++(if eG (bp y k) then [bp x k] else [])).length<=r1.length+1:=by rw[zqA];split<;>simp
     lia
    ·have:(r2++(if eG (bp x k) then [bp y k] else [])).length<=r2.length+1:=by rw[zqA];split<;>simp
     lia
 refine YZ<|cL<|xa (C:=C) rfl rfl W6<|ax<|Bn ⟨_,rfl,?_⟩;cases p1 with
 |cons x t=>exact iT (iT (turn<|.inl (by simp)) rfl) KY
 |nil=>
  refine iF ?_ rfl;refine cL<|xa (C:=C) rfl rfl V6<|ax<|Bn ⟨_,rfl,?_⟩;cases p2 with
  |cons x t=>exact iT (turn<|.inr (by simp)) KY
  |nil=>exact iF (fin rfl rfl) rfl
end L2.B
namespace L2.B
open PySem PySem.Spec PyProof.Rows
abbrev Zv:List (Str×Sp):=[("_law_whole",ja)]
def lO:Sp:=fun vs H Q E=>∃a b xs ys ps,vs=[.ref a,.ref b]/\H a=some (.lst xs)/\H b=some (.lst ys)/\aJ H xs ps/\aJ H ys ps/\∀H',az H H'->Q (.bl true) H'
theorem Zw{K:Frag}{a b:Addr}{g:TG}{tb:TS}(hl:xs.length=ys.length)(Pv:Nat->St->Hp->Prop)(h0:Pv 0 σ H)(ha:∀i σ H,Pv i σ H->au K H a xs/\au K H b ys)
  (hs:∀i x y σ H T,xs[i]?=some x->ys[i]?=some y->Pv i σ H->H T=none->g (.ref T) σ (upd H T<|.tup [x,y]) fun σ2 H2=>tb {D with nx:=Pv (i+1),ct:=Pv (i+1),bk:=D.nx} σ2 H2) (hd:∀σ H,Pv xs.length σ H->D.nx σ H):
  ∃W:Nat->Nat->St->Hp->Prop,(∃m,W 0 m σ H)/\∀i m σ H,W i m σ H->
   ((si K a b).stop i H/\D.nx σ H)\/((si K a b).go i H/\∃N:St->Hp->Prop,(∀σ' H',N σ' H'->∃m',m'<m/\W (i+1) m' σ' H')/\∀x H',(si K a b).eQ i H x H'->g x σ H' fun σ2 H2=>tb {D with nx:=N,ct:=N,bk:=D.nx} σ2 H2):=by
 refine⟨fun i m σ H=>m=xs.length - i/\i<=xs.length/\Pv i σ H,⟨xs.length,by simp,zqZ _,h0⟩,?_⟩
 rintro i m σ H ⟨rfl,hi,p⟩;obtain⟨q1,q2⟩:=ha i σ H p;by_cases a_:i<xs.length
 ·have BL:i<ys.length:=by lia
  refine .inr ⟨⟨xs,ys,q1,q2,a_,BL⟩,Pv<|i+1,fun σ' H' p'=>⟨xs.length - (i+1),by lia,rfl,a_,p'⟩,fun x H' y=>?_⟩
  obtain⟨T,hT,rfl,y⟩:=y;have e:=y xs ys xs[i] ys[i] q1 q2 (by simp[a_]) (by simp[BL])
  subst e;exact hs i xs[i] ys[i] σ H T (by simp[a_]) (by simp[BL]) p hT
 ·have e:i=xs.length:=by lia
  subst e;exact .inl ⟨⟨xs,ys,q1,q2,by lia⟩,hd σ H p⟩
theorem Zx{K:Frag}(vs:List V)(H:Hp)(Q:VK)(E:XK)(h:lO vs H Q E):aB (aM K Zv [] (E:=E)) Hb {nx:=fun _ H'=>Q .aF H',rt:=Q} (start Ha vs) H:=by
 obtain⟨a,b,xs,ys,ps,rfl,ha,hb,kO,gi,q⟩:=h;have l1:=Paired.length kO;have l2:=Paired.length gi;refine⟨_,rfl,rfl,As ha ⟨_,rfl,.inl ⟨_,au.of ha,_,rfl,.inl ⟨_,au.of hb,_,rfl,?_⟩⟩⟩⟩;show if (true ^^ decide (V.int (xs.length:Int)=V.int (ys.length:Int)))=true then _ else _
 rw[show(xs.length:Int)=(ys.length:Int) by lia,zqT rfl]
 refine⟨_,rfl,_,rfl,a,b,rfl,⟨_,au.of ha⟩,⟨_,au.of hb⟩,Zw (K:=K) (a:=a) (b:=b) (xs:=xs) (ys:=ys) (by lia) (fun i σ H2=>∃v w,σ=[some (.ref a),some (.ref b),v,w]/\az H H2) ⟨none,none,rfl,az.refl _⟩
  (fun i σ H2 ⟨_,_,_,s2⟩=>⟨au.of (s2 _ _ ha),au.of (s2 _ _ hb)⟩) ?_ ?_⟩
 ·rintro i x y σ H2 T hx hy ⟨v,w,rfl,s2⟩ hT;have s3:az H (upd H2 T<|.tup [x,y]):=s2.trans (sameNew hT);obtain⟨p,hp,x1,rfl,h1⟩:=kO.get hx;obtain⟨p',pW,y1,rfl,h2⟩:=gi.get hy;rw[hp] at pW;cases pW;have k1:=s3 _ _ h1;have k2:=s3 _ _ h2;refine⟨T,_,rfl,.inl<|aD.of aw,rfl,_,_,rfl,_,_,rfl,rfl,?_⟩;generalize upd H2 T (.tup [.ref x1,.ref y1])=H3 at s3 k1 k2;refine⟨_,rfl,rfl,qv k1 ⟨_,rfl,.inr ⟨_,aD.of k1,_,rfl,?_⟩⟩⟩;refine⟨_,rfl,.inr<|.inl ⟨_,_,_,_,rfl,rfl,aD.of k1,rfl,rfl,?_⟩⟩;refine⟨_,rfl,.inr<|.inl ⟨_,_,_,_,rfl,rfl,aD.of k1,rfl,_,rfl,.inr<|.inl ⟨_,_,_,_,rfl,rfl,aD.of k2,rfl,_,rfl,?_⟩⟩⟩;rw[zqT rfl];refine⟨_,rfl,.inr<|.inl ⟨_,_,_,_,rfl,rfl,aD.of k2,rfl,rfl,?_⟩⟩;cases p with
  |keep n=>
   refine⟨_,rfl,.inr<|.inl ⟨_,_,_,_,rfl,rfl,aD.of k1,rfl,rfl,_,rfl,?_⟩⟩;refine⟨_,rfl,.inr<|.inl ⟨_,_,_,_,rfl,rfl,aD.of k1,rfl,_,rfl,.inr<|.inl ⟨_,_,_,_,rfl,rfl,aD.of k2,rfl,_,rfl,?_⟩⟩⟩;rw[zqT rfl];refine⟨_,rfl,.inr<|.inl ⟨_,_,_,_,rfl,rfl,aD.of k2,rfl,rfl,?_⟩⟩;refine⟨_,rfl,.inr<|.inl ⟨_,_,_,_,rfl,rfl,aD.of k1,rfl,n,rfl,?_⟩⟩;exact⟨_,_,rfl,s3⟩
  |put s=>
   refine⟨_,rfl,.inr<|.inl ⟨_,_,_,_,rfl,rfl,aD.of k1,rfl,rfl,_,rfl,?_⟩⟩;refine⟨_,rfl,.inr<|.inl ⟨_,_,_,_,rfl,rfl,aD.of k1,rfl,_,rfl,.inr<|.inl ⟨_,_,_,_,rfl,rfl,aD.of k2,rfl,_,rfl,?_⟩⟩⟩;rw[zqT rfl];refine⟨_,rfl,.inr<|.inl ⟨_,_,_,_,rfl,rfl,aD.of k2,rfl,rfl,?_⟩⟩;exact⟨_,_,rfl,s3⟩
  |cut s=>
   refine⟨_,rfl,.inr<|.inl ⟨_,_,_,_,rfl,rfl,aD.of k1,rfl,rfl,_,rfl,?_⟩⟩;refine⟨_,rfl,.inr<|.inl ⟨_,_,_,_,rfl,rfl,aD.of k1,rfl,_,rfl,.inr<|.inl ⟨_,_,_,_,rfl,rfl,aD.of k2,rfl,_,rfl,?_⟩⟩⟩;rw[zqT rfl];refine⟨_,rfl,.inr<|.inl ⟨_,_,_,_,rfl,rfl,aD.of k2,rfl,rfl,?_⟩⟩;exact⟨_,_,rfl,s3⟩
 ·rintro σ H2 ⟨v,w,rfl,s2⟩;exact q H2 s2
structure gm (ps:List Pt) (l r:List Nat):Prop where
 ok:∀p∈ps,aZ p
 ch:chainOk "" ps=true
 run:Run l ps r
theorem Zy{K:Frag}:c9 (ja) (fun E=>aM K [] [] (E:=E)) Hg Aa:=by
 intro vs H Q E h;obtain⟨i,rfl,q⟩:=h;exact⟨_,rfl,rfl,_,rfl,fm ⟨_,rfl,rfl,q⟩⟩
end L2.B
namespace L2
open PySem PySem.Spec PyProof.Rows
section
variable {Γ:bo}{D:Ends}{σ:St}{H:Hp}{r:List RS}{Q:VK}{QA:List V->Hp->Prop}{QT:Bool->Hp->Prop}
theorem fH{K:Frag}{b:Bool}{QB:Bool->Prop}(h:QB b):jt K (.bl b) H QB:=h
theorem dH(h:bg Γ a σ H fun b H1=>QT (!b) H1):bg Γ (.not a) σ H QT:=h
theorem jf(sp:Sp)(hs:Γ.fs j=sp)(h:ba Γ as σ H fun vs H1=>sp vs H1 (fun x H2=>jt Γ.K x H2 fun b=>QT b H2) Γ.E):bg Γ (.call j as) σ H QT:=by
 subst hs;show ba Γ as σ H fun vs H1=>Γ.fs j (vs++[]) H1 (fun x H2=>jt Γ.K x H2 fun b=>QT b H2) Γ.E;have e:(fun(vs:List V) (H1:Hp)=>Γ.fs j (vs++[]) H1 (fun x H2=>jt Γ.K x H2 fun b=>QT b H2) Γ.E)=fun vs H1=>Γ.fs j vs H1 (fun x H2=>jt Γ.K x H2 fun b=>QT b H2) Γ.E:=by
  funext vs H1;rw[zad]
 rw[e];exact h
theorem t_{b:RE}(h:bg Γ a σ H fun c H1=>if c=true then bg Γ b σ H1 QT else QT false H1):bg Γ (.and [a,b]) σ H QT:=h
end
theorem Lc{r:List RS}{is:List Nat}{e:RE}(h:ae Γ e σ H fun x H1=>mv Γ.K is.length (kZ is) x σ H1 (aB Γ r D)):aB Γ (.sf is e::r) D σ H:=h
theorem xq{K:Frag}{t:Addr}{w:V}{Q:St->Hp->Prop}(ht:H t=some (.tup [v,w]))(q:Q ((σ.set i<|some v).set j<|some w) H):mv K [i,j].length (kZ [i,j]) (.ref t) σ H Q:=
 ⟨t,_,rfl,.inl<|aD.of ht,rfl,_,_,rfl,_,_,rfl,rfl,q⟩
end L2
namespace L2.B
open PySem PySem.Spec PyProof.Rows
theorem BM{K:Frag}{QQ:List V->Hp->Addr->Prop}{te:TE}{lo:Int}(hl:n<=1000000)(P:Nat->List V->Hp->Prop)(p0:P 0 [] H)
  (step:∀i ys H2,i<n->az H H2->P i ys H2->∀Q':VK,(∀y H3,az H2 H3->P (i+1) (ys++[y]) H3->Q' y H3)->te (some (.int<|lo+i)::bX σ fv) H2 Q')
  (fin:∀ys H2 p,az H H2->P n ys H2->H2 p=none->QQ ys H2 p):∃W:Nat->Nat->List V->Hp->Prop,(∃m,W 0 m [] H)/\∀i m ys H2,W i m ys H2->
   ((cU lo n).stop i H2/\∀p,H2 p=none->QQ ys H2 p)\/
   ((cU lo n).go i H2/\∀x H3,(cU lo n).eQ i H2 x H3->iB K none x H3 fun zs=>jr none (zs.map some++bX σ fv) H3 fun b H5=>
    if b=true then te (zs.map some++bX σ fv) H5 fun y H6=>ys.length<sizeLine/\∃m',m'<m/\W (i+1) m' (ys++[y]) H6 else ∃m',m'<m/\W (i+1) m' ys H5):=by
 refine⟨fun i m ys H2=>m=n - i/\i<=n/\ys.length=i/\az H H2/\P i ys H2,⟨_,rfl,zqZ _,rfl,az.refl _,p0⟩,?_⟩;rintro i m ys H2 ⟨rfl,hi,hy,s,p⟩;by_cases a_:i<n
 ·refine .inr ⟨a_,?_⟩;rintro x H3 ⟨rfl,rfl⟩;exact step i ys _ a_ s p _ fun y H4 s4 p4=>⟨dm (by lia),n - (i+1),by lia,rfl,a_,by simp[hy],s.trans s4,p4⟩
 ·have gT:i=n:=by lia
  subst gT;exact .inl ⟨zqR _,fun q hq=>fin ys _ q s p hq⟩
section
variable {Γ:bo}{σ:St}{H:Hp}{Q:VK}{QT:Bool->Hp->Prop}{K:Frag}
theorem ua{T:Ty}(h:ae Γ a σ H fun x H1=>bJ T x H1 fun b=>QT b H1):bg Γ (.df T a) σ H QT:=by
 show eU Γ.K (iY (l_ T)<|dQ (ae Γ a)<|dQ (tC<|.ty T.nm) iX) σ H QT;have e:∀(q:VK),(fun(x:V) (H1:Hp)=>bJ T x H1 fun b=>q (.bl b) H1)=fun x H1=>l_ T [x,.ty T.nm] H1 q:=by
  intro q;funext x H1;simp[l_]
 show ae Γ a σ H fun x H1=>l_ T [x,.ty T.nm] H1 fun v H2=>jt Γ.K v H2 fun b=>QT b H2;rw[<-e];exact h
theorem dJ{sd:Addr->List (Key×V)->Prop}{a:Addr}{i:Int}(h:H a=some (.tup xs))(e:fZ xs i=some v)(q:Q v H):ma K sd (.ref a) (.int i) H Q:=
 .inr (.inl ⟨_,_,_,_,rfl,rfl,aD.of h,e,q⟩)
theorem kl{x y:Int}(q:Q (.bl<|decide<|x=y) H):cO K .Eq (.int x) (.int y) H Q:=by
 show Q (.bl<|false ^^ decide (V.int x=V.int y)) H;rw[zaC,show decide (V.int x=V.int y)=decide (x=y) from decide_eq_decide.mpr ⟨fun z=>by injection z,fun z=>by rw[z]⟩];exact q
theorem ub{x y:Int}(q:Q (.bl<|!decide (x=y)) H):cO K .NotEq (.int x) (.int y) H Q:=by
 show Q (.bl<|true ^^ decide (V.int x=V.int y)) H;rw[zaG,show decide (V.int x=V.int y)=decide (x=y) from decide_eq_decide.mpr ⟨fun z=>by injection z,fun z=>by rw[z]⟩];exact q
theorem Ld{x:Str}(q:Q (.bl false) H):cO K .NotEq (.str x) (.str x) H Q:=by
 refine Bn ?_;rw[show(x !=x)=false by simp];exact q
theorem gX{i j:Int}(h:Q (.int<|i+j) H):iD K .Add (.int i) (.int j) H Q:=h
end
end L2.B
namespace L2.B
open PySem PySem.Spec PyProof.Rows
end L2.B
namespace L2.B
open PySem PySem.StrLaws
end L2.B
namespace L2.B
open PySem PySem.Spec PyProof.Rows
def b_:List Pt->Nat
 |[]=>0
 |.keep k::r=>k.toNat+b_ r
 |.put _::r=>b_ r
 |.cut s::r=>s.length+b_ r
theorem dN{K:Frag}{sd:Addr->List (Key×V)->Prop}{a:Addr}{i:Int}(h:H a=some (.lst xs))(e:fZ xs i=some v)(q:Q v H):ma K sd (.ref a) (.int i) H Q:=
 .inl ⟨_,_,_,_,rfl,rfl,au.of h,e,q⟩
def lP:Sp:=fun vs H Q E=>∃i lo hi,vs=[.int i,.int lo,.int hi]/\lo<=i/\i<=hi/\Q (.bl true) H
end L2.B
namespace L2
open PySem PySem.Spec PyProof.Rows
theorem m4{α:Type _}{p:α->Prop}:∀x∈ ([]:List α),p x:=fun _ h=>nomatch h
theorem m6{α:Type _}{p:α->Prop}{a:α}{l:List α}(h:p a)(t:∀x∈l,p x):∀x∈a::l,p x:=List.forall_mem_cons.2 ⟨h,t⟩
section
variable {P:Program}{w:World}{K:Frag}{mg:Str->Option Value}{base:Heap}{k:Nat}
theorem cX.weak{CX:cI}{f:Addr}{fd:FuncData}{ps:List Str}{a b:Sp}(A:cX P w K mg base CX k f fd ps b)(h:∀vs H Q E,a vs H Q E->b vs H Q E):cX P w K mg base CX k f fd ps a:=
 ⟨fun vs H Q E q=>A.len vs H Q E<|h _ _ _ _ q,fun A' outer s H args us vs Q E hr e0 hb hv hs=>A.run A' outer s H args us vs Q E hr e0 hb hv<|h _ _ _ _ hs⟩
theorem j7.weak{x:Str}{a b:Sp}(T:j7 P w K mg base k x b)(h:∀vs H Q E,a vs H Q E->b vs H Q E):j7 P w K mg base k x a:=by
 obtain⟨f,fd,ps,F,r⟩:=T;exact⟨f,fd,ps,F.weak h,r⟩
theorem j9.weak{x:Str}{a b:Sp}(T:j9 P w K mg base k (x,C,b))(h:∀vs H Q E,a vs H Q E->b vs H Q E):j9 P w K mg base k (x,C,a):=by
 obtain⟨c,f,fd,ps,m,F,r⟩:=T;exact⟨c,f,fd,ps,m,F.weak h,r⟩
open PySem.W in
theorem Zz{x:Str}(X:K.In base)(G:base.Ns mainGlobals mg)(e:nsIn K mainGlobals x=some (some<|.ref C))(q:excIn K C [.type "ValueError",.type "Exception",.type "BaseException",.type "object"] "ValueError.__new__"=true):wc mg base (x,C):=by
 refine⟨_,_,_,_,⟨mg_of X G e,?_⟩,PySem.F.excBase_ValueError⟩;unfold excIn at q
 split at q
 ·rename_i dd cd sl ho
  split at q
  ·rename_i C' bm k0 k1 k2 k3 n k5 hm hs
   simp only[zae,beq_iff_eq,zaT] at q
   obtain⟨⟨⟨⟨⟨rfl,rfl⟩,Le⟩,ht⟩,aE⟩,vX⟩:=q;obtain⟨nm,bs,mro,ns,qn,hd,sn,sub,ab,col,del⟩:=cd
   dsimp only at hm Le aE vX
   subst hm Le;obtain⟨sl⟩:=sl;have aP:sl=_:=hs;subst aP;exact⟨bm,ns,nm,qn,bs,hd,sn,sub,ab,col,dd,k0,k1,k2,k3,k5,_,X _ _ ho,.of_isNs<|isNs_of_in X aE,nsMap_none_of_in X aE vX,tail_of_in X ht⟩
  ·cases q
 ·cases q
end
end L2
namespace L2.B
open PySem PySem.Spec PyProof.Rows
def ZA(v:V)(lo hi:Int)(H:Hp):Prop:=qK v H\/∃i,v=.int i/\(i<lo\/hi<i)
def Lf:Sp:=fun vs H Q E=>∃(v:V) (lo hi:Int),vs=[v,.int lo,.int hi]/\((∃i,v=.int i/\lo<=i/\i<=hi/\Q (.bl true) H)\/(ZA v lo hi H/\Q (.bl false) H))
theorem ZC{K:Frag}:c9 (Lf) (fun E=>aM K [("is_whole",tG)] [] (E:=E)) Hf He:=by
 intro vs H Q E h;have chain:∀(i lo hi:Int) (b:Bool) (H:Hp),decide (lo<=i/\i<=hi)=b->Q (.bl b) H->ae (aM K [("is_whole",tG)] [] (E:=E)) (.r_ .LtE .LtE (.v 1) (.v 0)<|.v 2) [some<|.int i,some<|.int lo,some<|.int hi] H Q:=by
  intro i lo hi b H hb q;refine⟨_,rfl,_,rfl,trivial,_,rfl,?_⟩;refine dC (fun h1=>?_)<|fun h1=>?_
  ·refine⟨_,rfl,trivial,?_⟩;have d6:lo<=i:=of_decide_eq_true h1;have e:decide (i<=hi)=b:=by rw[<-hb];simp[d6]
   show Q (.bl<|decide<|i<=hi) H;rw[e];exact q
  ·have d6:¬lo<=i:=fun z=>h1 (zqT z);have e:b=false:=by rw[<-hb];simp[d6]
   have e2:decide (lo<=i)=false:=zqF d6;rw[e] at q
   first
    |exact q
    | (show Q (.bl<|decide<|lo<=i) H;rw[e2];exact q)
 obtain⟨v,lo,hi,rfl,⟨i,rfl,h1,h2,q⟩|⟨hn|⟨i,rfl,hb⟩,q⟩⟩:=h
 ·exact⟨_,rfl,_,rfl,.inl ⟨i,rfl,_,rfl,fm<|chain i lo hi true H (by simp[h1,h2]) q⟩⟩
 ·exact⟨_,rfl,_,rfl,.inr ⟨hn,_,rfl,iZ q⟩⟩
 ·exact⟨_,rfl,_,rfl,.inl ⟨i,rfl,_,rfl,fm<|chain i lo hi false H (by rw[zqF];rintro⟨a,b⟩;lia) q⟩⟩
theorem ZD{E:XK}(h:lP vs H Q E):Lf vs H Q E:=by
 obtain⟨i,lo,hi,rfl,h1,h2,q⟩:=h;exact⟨_,lo,hi,rfl,.inl ⟨i,rfl,h1,h2,q⟩⟩
end L2.B
namespace L2.N
open PySem PySem.Spec PyProof.Rows L2.B
end L2.N
namespace L2.N
open PySem PySem.Spec L2.B
theorem cM{r:List RS}(h:aB Γ r D σ H):aB Γ [] {D with nx:=aB Γ r D} σ H:=h
section
variable {Γ:bo}{D:Ends}{σ:St}{H:Hp}{r:List RS}{Q:VK}
theorem xr{x:RE}(A B:VK)(xu:∀v H1,A v H1↔B v H1)(ha:ae Γ x σ H A):ae Γ x σ H B:=by
 have:A=B:=funext fun x=>funext fun H1=>propext (xu x H1);rw[<-this];exact ha
theorem xv{m:Str}{b:RE}(C:Addr)(sp:Sp)(hm:Γ.ms j=(C,sp))(h:ae Γ o σ H fun x H1=>∃p dx fs,x=.ref p/\H1 p=some (.ins C dx fs)/\fs.lookup m=none/\ae Γ a σ H1 fun y H2=>ae Γ b σ H2 fun z H3=>sp [x,y,z] H3 Q Γ.E):ae Γ (.bj j m o [a,b]) σ H Q:=by
 show lX (Γ.ms j).1 m (Γ.ms j).2 [] Γ.E (ae Γ o) (ba Γ [a,b]) σ H Q;rw[hm];exact h
theorem c4{x:RE}(h:ae Γ x σ H fun v H1=>pV Γ.K v H1 fun n=>Q (.int n) H1):ae Γ (.blt .len [x]) σ H Q:=h
end
section
variable {Γ:bo}{D:Ends}{σ:St}{H:Hp}{r:List RS}{Q:VK}{QT:Bool->Hp->Prop}
theorem ZE{b:RE}(C:Addr)(sp:Sp)(hm:Γ.kt j=(C,sp))(h:ae Γ a σ H fun y H0=>ae Γ b σ H0 fun z H1=>∀x dx,H1 x=none->H1 dx=none->dx≠x->sp [.ref x,y,z] (upd (upd H1 dx<|.own x) x<|.ins C dx []) (fun v H2=>v=.aF/\Q (.ref x) H2) Γ.E):ae Γ (.make j [a,b]) σ H Q:=by
 show vt (Γ.kt j).1 (Γ.kt j).2 [] Γ.E (ba Γ [a,b]) σ H Q;rw[hm];exact h
theorem uc{e:RE}{f:Str}(h:ae Γ e σ H fun v H1=>ae Γ o σ H1 fun x H2=>∃a C dx fs,x=.ref a/\H2 a=some (.ins C dx fs)/\fj Γ.K C/\fV Γ.K C f/\fs.length<1000/\aB Γ r D σ (upd H2 a<|.ins C dx<|aU f v fs)):aB Γ (.gI o f e::r) D σ H:=h
end
theorem Lg{r:List RS}{x:RE}(h:ae Γ x σ H fun v H1=>∃a,v=.ref a/\(∃xs,au Γ.K H1 a xs)/\∃W:Nat->Nat->St->Hp->Prop,(∃m,W 0 m σ H1)/\∀j m σ H,W j m σ H->
  ((hJ Γ.K a).stop j H/\({D with nx:=aB Γ r D}:Ends).nx σ H)\/((hJ Γ.K a).go j H/\∃N:St->Hp->Prop,(∀σ' H',N σ' H'->∃m',m'<m/\W (j+1) m' σ' H')/\∀x H',(hJ Γ.K a).eQ j H x H'->eP i x σ H' fun σ2 H2=>aB Γ body {({D with nx:=aB Γ r D}:Ends) with nx:=N,ct:=N,bk:=({D with nx:=aB Γ r D}:Ends).nx} σ2 H2)):
  aB Γ (.js i .list [x] body::r) D σ H:=xr (x:=x) _ _ (fun _ _=>Iff.rfl) h
theorem BN{α β:Type}{R:α->β->Prop}:∀{ps:List β}{p:β}{xs:List α},Paired R xs (ps++[p])->∃ud x,xs=ud++[x]/\Paired R ud ps/\R x p
 |[],p,_,.cons h .nil=>⟨[],_,rfl,.nil,h⟩
 |q::ps,p,_,.cons h r=>by
  obtain⟨ud,x,e,a,b⟩:=BN (ps:=ps) r;exact⟨_::ud,x,by rw[e];rfl,.cons h a,b⟩
section
variable {Γ:bo}{D:Ends}{σ:St}{H:Hp}{r:List RS}{Q:VK}
theorem qP{i:Int}(h:Q (.int<|-i) H):ae Γ (.neg<|.c<|.int i) σ H Q:=h
theorem BO{ix e:RE}(h:ae Γ e σ H fun v H1=>ae Γ o σ H1 fun x H2=>ae Γ ix σ H2 fun y H3=>vz x y v H3 fun H4=>aB Γ r D σ H4):aB Γ (.set o ix e::r) D σ H:=h
theorem Lh{is:List Nat}{x:RE}(h:ae Γ x σ H fun v H1=>∃a,v=.ref a/\(∃xs,au Γ.K H1 a xs)/\∃W:Nat->Nat->St->Hp->Prop,(∃m,W 0 m σ H1)/\∀j m σ H,W j m σ H->
  ((hJ Γ.K a).stop j H/\({D with nx:=aB Γ r D}:Ends).nx σ H)\/((hJ Γ.K a).go j H/\∃N:St->Hp->Prop,(∀σ' H',N σ' H'->∃m',m'<m/\W (j+1) m' σ' H')/\∀x H',(hJ Γ.K a).eQ j H x H'->mv Γ.K is.length (kZ is) x σ H' fun σ2 H2=>aB Γ body {({D with nx:=aB Γ r D}:Ends) with nx:=N,ct:=N,bk:=({D with nx:=aB Γ r D}:Ends).nx} σ2 H2)):
  aB Γ (.i0 is .list [x] body::r) D σ H:=xr (x:=x) _ _ (fun _ _=>Iff.rfl) h
end
theorem ZF(n:Nat):gF (n+1) (-1)=some n:=by
 unfold gF;have:¬(0:Int)<= -1:=by decide
 rw[if_neg this,if_pos (by lia)]
 congr 1
 lia
theorem ZG{p:Pt}(h:aZ p):mR p:=by
 cases p with
 |keep n=>trivial
 |put s=>exact h.1.2
 |cut s=>exact h.1.2
section
variable {Γ:bo}{D:Ends}{σ:St}{H:Hp}{r:List RS}{Q:VK}
theorem ZH{lo hi:RE}(h:ae Γ a σ H fun x H1=>ae Γ lo σ H1 fun i H2=>∃i':Int,i=.int i'/\ae Γ hi σ H2 fun j H3=>∃j':Int,j=.int j'/\oh Γ.K x (some i') (some j') H3 Q):ae Γ (.sl a (some lo)<|some hi) σ H Q:=h
theorem BP{x:RE}(h:ae Γ x σ H fun v H1=>∃n:Int,[v]=[.int n]/\ -(2 ^ 62)<=n/\n<2 ^ 62/\∃W:Nat->Nat->St->Hp->Prop,(∃m,W 0 m σ H1)/\∀j m σ H,W j m σ H->
  ((cU 0 n.toNat).stop j H/\({D with nx:=aB Γ r D}:Ends).nx σ H)\/((cU 0 n.toNat).go j H/\∃N:St->Hp->Prop,(∀σ' H',N σ' H'->∃m',m'<m/\W (j+1) m' σ' H')/\∀x H',(cU 0 n.toNat).eQ j H x H'->eP i x σ H' fun σ2 H2=>aB Γ body {({D with nx:=aB Γ r D}:Ends) with nx:=N,ct:=N,bk:=({D with nx:=aB Γ r D}:Ends).nx} σ2 H2)):
  aB Γ (.js i .dz [x] body::r) D σ H:=xr (x:=x) _ _ (fun _ _=>Iff.rfl) h
end
theorem o7{K:Frag}{i j:Int}(h:Q (.int<|i - j) H):iD K .Sub (.int i) (.int j) H Q:=⟨trivial,h⟩
theorem BQ{t b:RE}(h:bg Γ t σ H fun c H1=>if c=true then ae Γ a σ H1 Q else ae Γ b σ H1 Q):ae Γ (.l9 t a b) σ H Q:=h
section
variable {K:Frag}{H:Hp}{Q:VK}{Γ:bo}{σ:St}{D:Ends}
theorem qQ{b:RE}{r:List RE}(h:ae Γ a σ H fun x H1=>∃c,x=.bl c/\if c=true then ae Γ (.and (b::r)) σ H1 Q else Q (.bl false) H1):ae Γ (.and (a::b::r)) σ H Q:=h
theorem BR(h:ae Γ a σ H Q):ae Γ (.and [a]) σ H Q:=h
end
section
variable {K:Frag}
end
end L2.N
namespace L2.Li
open PySem PySem.W PyProof.Rows
section
variable {n:Nat}{lt:Nat->Nat->Bool}{p:Array Nat}
variable {cmp:Nat->Nat->(Bool->Shared->Prop)->Shared->Prop}{R:Shared->Prop}
end
end L2.Li
namespace L2
open PySem PySem.Spec PyProof.Rows PySem.W L2.Li
end L2
namespace L2
open PySem PySem.Spec PyProof.Rows
end L2
namespace L2.B
open PySem PySem.Spec PyProof.Rows
end L2.B
namespace L2.N
open PySem PySem.Spec L2.B
section
variable {K:Frag}
end
section
variable {K:Frag}
end
section
variable {K:Frag}
end
theorem km{α β:Type}{R:α->β->Prop}:∀{xs:List α}{ys:List β}{i:Nat}{x:α},Paired R xs ys->xs[i]?=some x->∃y,ys[i]?=some y/\R x y
 |[],[],i,x,.nil,h=>by simp at h
 |x::xs,y::ys,0,w,.cons a r,h=>by cases h;exact⟨y,rfl,a⟩
 |x::xs,y::ys,i+1,w,.cons a r,h=>km (xs:=xs) (ys:=ys) (i:=i) r (by simpa using h)
theorem xx{α:Type}{l:List α}{i:Nat}{x:α}(h:l[i]?=some x):l.take (i+1)=l.take i++[x]:=by
 have a_:i<l.length:=(zap.mp h).1;rw[List.take_succ_eq_append_getElem a_,(zap.mp h).2]
section
variable {K:Frag}
end
section
variable {K:Frag}
end
end L2.N
namespace L2.B
open PySem PySem.Spec PyProof.Rows
end L2.B
namespace L2.N
open PySem PySem.Spec L2.B
section
variable {K:Frag}
end
end L2.N
namespace L2
open PySem PySem.Spec PyProof.Rows
end L2
namespace L2.N
open PySem PySem.Spec L2.B
section
variable {Γ:bo}{σ:St}{n:Nat}{H0:Hp}
theorem Lj{lo:RE}(h:ae Γ a σ H fun x H1=>ae Γ lo σ H1 fun j H3=>∃j':Int,j=.int j'/\oh Γ.K x (some j') none H3 Q):ae Γ (.sl a (some lo) none) σ H Q:=h
end
end L2.N
namespace L2.B
open PySem PySem.Spec PyProof.Rows
theorem Lk{s:Str}(h:s≠""):1<=s.length:=by
 obtain⟨c,r,e⟩:=iJ h;rw[len_list,e];simp
theorem Ll:∀(ps:List Pt) (w:Str),chainOk w ps=true->(∀p∈ps,aZ p)->ps.length<=2*aA ps+1/\(w="keep"->ps.length<=2*aA ps)
 |[],w,_,_=>⟨zqZ _,fun _=>zqZ _⟩
 |p::ps,w,hc,ho=>by
  simp only[chainOk,zae] at hc
  have hp:=ho p (.head _);obtain⟨i1,i2⟩:=Ll ps p.word hc.2 fun q hq=>ho q (.tail _ hq);have et:aA (p::ps)=bY p+aA ps:=by simp[aA]
  rw[et,zay];cases p with
  |keep n=>
   have:=i2 rfl;have ek:bY (.keep n)=0:=rfl;exact⟨by omega,fun z=>absurd z<|Kj hc.1⟩
  |put s=>have h1:1<=bY (.put s):=Lk hp.2;exact⟨by omega,fun _=>by omega⟩
  |cut s=>have h1:1<=bY (.cut s):=Lk hp.2;exact⟨by omega,fun _=>by omega⟩
end L2.B
namespace L2
open PySem PySem.Spec PyProof.Rows
end L2
namespace L2.B
open PySem PySem.Spec PyProof.Rows
end L2.B
namespace L2.N
open PySem PySem.Spec
end L2.N
namespace L2.N
open PySem PySem.Spec L2.B
end L2.N
namespace L2
open PySem PySem.Spec PyProof.Rows
end L2
namespace L2.N
open PySem PySem.Spec L2.B
end L2.N
namespace L2.B
open PySem PySem.Spec PyProof.Rows
end L2.B
namespace L2.N
open PySem PySem.Spec L2.B
end L2.N
namespace L2.B
open PySem PySem.Spec PyProof.Rows
end L2.B
namespace L2.N
open PySem PySem.Spec L2.B
section
variable {K:Frag}
theorem ZI{T:Ty}{z:Str}{k:Bool->Prop}(q:k (T==.str)):bJ T (.str z) H k:=q
end
end L2.N
namespace L2.B
open PySem PySem.Spec PyProof.Rows
def Lm:Sp:=fun vs H Q E=>∃(c:Int) (x:Str) (m:Int),vs=[.int c,.str x,.int m]/\good x/\x.length<=10000/\0<=m/\m<=100/\
 ∀b H' ys ps q,az H H'->H b=none->H' b=some (.lst ys)->aJ H' ys ps->(∀p∈ps,eF p)->ps.length<=101->aA ps<=40*m.toNat->Run x.cps.toList ps q->Q (.ref b) H'
theorem ZJ{K:Frag}(vs:List V)(H:Hp)(Q:VK)(E:XK)(h:Lm vs H Q E):aB (aM K Ya [] (E:=E)) G6 {nx:=fun _ H'=>Q .aF H',rt:=Q} (start G5 vs) H:=by
 obtain⟨c,x,m,rfl,hx,Ln,wU,Bf,k⟩:=h;refine⟨zqZ _,fun b hb=>?_⟩;refine⟨_,rfl,m,rfl,by lia,by lia,vh (lo:=0) (n:=m.toNat) (fun i σ H2=>∃u v w z ys ps l1 l2 q,σ=[some (.int c),some (.str x),some (.int m),some (.ref b),some (.int ((l1.length:Nat):Int)),u,v,w,z]/\az H H2/\H2 b=some (.lst ys)/\aJ H2 ys ps/\ps.length=i/\(∀p∈ps,eF p)/\
   aA ps<=40*i/\x.cps.toList=l1++l2/\Run l1 ps q)
  ⟨none,none,none,none,[],[],[],x.cps.toList,[],rfl,sameNew hb,aw,.nil,rfl,(fun p hp=>by cases hp),zqR _,rfl,.nil⟩ ?_ ?_⟩
 ·rintro i σ H2 hi ⟨u,v,w,z,ys,ps,l1,l2,q,rfl,s2,ue,bS,hl,aE,ht,ex,eN⟩;have hlen:=Paired.length bS;have ZK:x.length=l1.length+l2.length:=by rw[len_list,ex];simp
  refine⟨_,rfl,_,rfl,c,_,rfl,?_⟩;generalize mixed c (50+(0+(i:Int)))=nm;refine⟨Nn,fun t1 jC=>?_⟩;have j0:0<=nm / 4 % 6:=zaA _ (by decide)
  have j1:nm / 4 % 6<6:=zaB _ (by decide)
  obtain⟨n5,e5,ZL,n51⟩:=X_ (nm / 4 % 6) j0 j1;refine⟨_,rfl,⟨by decide,by decide⟩,(by show(0:Int) <6;decide),.inl ⟨_,_,_,_,rfl,rfl,au.of aw,e5,?_⟩⟩
  have s3:az H (upd H2 t1<|.lst [.int 1,.int 2,.int 0,.int 3,.int 5,.int 40]):=s2.trans (sameNew jC);have o8:upd H2 t1 (.lst [.int 1,.int 2,.int 0,.int 3,.int 5,.int 40]) b=some (.lst ys):=by rw[aC<|aK ue jC];exact ue
  have qz:=bS.mono (bF<|sameNew (o:=.lst [.int 1,.int 2,.int 0,.int 3,.int 5,.int 40]) jC);generalize upd H2 t1 (.lst [.int 1,.int 2,.int 0,.int 3,.int 5,.int 40])=H3 at s3 o8 qz;refine⟨_,rfl,_,rfl,cY (by lia),_,rfl,trivial,?_⟩
  obtain⟨lf,Lo⟩:∃lf,lf=(if (x.length:Int) - (l1.length:Int) <n5 then (x.length:Int) - (l1.length:Int) else n5):=⟨_,rfl⟩
  have ZM:0<=lf/\lf<=40/\lf<= (l2.length:Int):=by
   rw[Lo];split<;>lia
  show aB _ _ _ [some<|V.int c,some<|V.str x,some<|V.int m,some<|V.ref b,some<|V.int ((l1.length:Nat):Int),some<|V.int<|0+(i:Int),some<|V.int nm,some<|V.int n5,some<|V.int (if (x.length:Int) - (l1.length:Int) <n5 then (x.length:Int) - (l1.length:Int) else n5)] H3
  rw[<-Lo];obtain⟨la,lb,e2,BS⟩:∃la lb,l2=la++lb/\lf=(la.length:Int):=⟨l2.take lf.toNat,l2.drop lf.toNat,(zbf _ _).symm,by rw[zaF];lia⟩
  have app:∀(p:Pt) (H4:Hp),az H H4->H4 b=some (.lst ys)->aJ H4 ys ps->∀t,H4 t=none->
    upd H4 t (.tup [.str p.word,p.val]) b=some (.lst ys)/\ys.length<sizeLine/\
     az H (upd (upd H4 t<|.tup [.str p.word,p.val]) b<|.lst<|ys++[.ref t])/\aJ (upd (upd H4 t<|.tup [.str p.word,p.val]) b<|.lst<|ys++[.ref t]) (ys++[.ref t]) (ps++[p]):=by
   intro p H4 s4 BU ZN t ht;have xy:b≠t:=aK BU ht;refine⟨(by rw[aC xy];exact BU),dm (by lia),lr s4 hb<|sameBut (sameNew ht) aR.upd,?_⟩
   refine aJ.snoc (ZN.mono<|(sameBut (sameNew ht) aR.upd).dP BU) ⟨t,rfl,?_⟩;rw[aC xy.symm,aw]
  have Lp:∀p,eF p->∀q∈ps++[p],eF q:=by
   intro p hp q hq;rcases zaf.mp hq with z|z
   ·exact aE q z
   ·rw[zag.mp z];exact hp
  have ZO:∀c∈la,SG.cps.contains c=true:=fun c hc=>hx.2 c (by rw[ex,e2];simp[hc])
  refine⟨_,rfl,(by show(0:Int) <4;decide),_,rfl,?_⟩
  refine dC (fun h=>?_)<|fun h=>?_
  ·have h3:nm % 4=3:=by
    have:=of_decide_eq_true (show decide (V.int (nm % 4)=V.int 3)=true from by rw[<-zaC (decide _)];exact h)
    injection this
   refine⟨_,rfl,.inl ⟨rfl,_,au.of o8⟩,_,rfl,_,rfl,nm,n5,rfl,ZL,by lia,fun y H5 gy ly s5=>⟨dc,fun t jH=>?_⟩⟩
   obtain⟨a1,a2,a3,a4⟩:=app (.put y) H5 (s3.trans s5) (s5 _ _ o8) (qz.mono<|bF s5) t jH;refine⟨ys,a1,a2,?_⟩;refine⟨_,rfl,(by show(0:Int) <4;decide),trivial,_,rfl,iF ?_<|zqF (by lia)⟩
   have hr:=eN.app (Run.put (s:=y) Run.nil);rw[zad,zad] at hr;refine⟨_,_,_,_,ys++[V.ref t],ps++[Pt.put y],l1,l2,_,rfl,a3,aw,a4,by simp[hl],Lp _ ⟨gy,by lia⟩,?_,ex,hr⟩
   rw[A0];show aA ps+(y.length+0)<=_;lia
  ·have h3:nm % 4≠3:=fun z=>h (by show(false ^^ decide (V.int (nm % 4)=V.int 3))=true;rw[z];rfl)
   have h4:nm % 4<3:=by have:=zaB nm (show(0:Int) <4 by decide);lia
   have fin:∀(p:Pt) (H5:Hp) (cq:List V) (q':List Nat),az H H5->H5 b=some (.lst cq)->aJ H5 cq (ps++[p])->eF p->bY p<=40->Run (l1++la) (ps++[p]) q'->
     ∃u v w z ys ps jE l2 q,[some<|V.int c,some<|V.str x,some<|V.int m,some<|V.ref b,some<|V.int<|(l1.length:Int)+lf,some<|V.int<|0+(i:Int),some<|V.int nm,some<|V.int n5,some<|V.int lf]=
      [some<|.int c,some<|.str x,some<|.int m,some<|.ref b,some<|.int ((jE.length:Nat):Int),u,v,w,z]/\az H H5/\H5 b=some (.lst ys)/\aJ H5 ys ps/\ps.length=i+1/\(∀p∈ps,eF p)/\
      aA ps<=40* (i+1)/\x.cps.toList=jE++l2/\Run jE ps q:=by
    intro p H5 cq q' s5 h5 uf rp tp hr;refine⟨some<|.int<|0+(i:Int),some<|.int nm,some<|.int n5,some<|.int lf,cq,ps++[p],l1++la,lb,q',?_,s5,h5,uf,by simp[hl],Lp p rp,?_,by rw[ex,e2];simp,hr⟩
    ·rw[zqA,BS,zaX]
    ·rw[A0];have:aA [p]=bY p:=by simp[aA]
     lia
   refine⟨_,rfl,(by show(0:Int) <4;decide),_,rfl,?_⟩
   refine dC (fun h5=>?_)<|fun h5=>?_
   ·refine⟨_,rfl,.inl ⟨rfl,_,au.of o8⟩,_,rfl,_,rfl,_,rfl,_,rfl,_,rfl,_,rfl,cY (by lia),?_⟩
    rw[AY (by rw[ex,e2]) lf BS]
    refine⟨dc,fun t jH=>?_⟩;obtain⟨a1,a2,a3,a4⟩:=app (.cut ⟨la.toArray⟩) H3 s3 o8 qz t jH;refine⟨ys,a1,a2,?_⟩;refine⟨_,rfl,(by show(0:Int) <4;decide),trivial,_,rfl,iT ?_<|zqT h4⟩
    refine⟨_,rfl,_,rfl,?_⟩;have hr:=eN.app (Run.cut (s:=⟨la.toArray⟩) Run.nil);rw[zad] at hr;have ll:(⟨la.toArray⟩:Str).length=la.length:=by rw[len_list]
    exact fin (.cut ⟨la.toArray⟩) _ _ _ a3 aw a4 ⟨⟨by rw[ll];lia,ZO⟩,by rw[ll];lia⟩ (by show(⟨la.toArray⟩:Str).length<=40;rw[ll];lia) hr
   ·refine⟨_,rfl,.inl ⟨rfl,_,au.of o8⟩,_,rfl,dc,fun t jH=>?_⟩;obtain⟨a1,a2,a3,a4⟩:=app (.keep lf) H3 s3 o8 qz t jH;refine⟨ys,a1,a2,?_⟩;refine⟨_,rfl,(by show(0:Int) <4;decide),trivial,_,rfl,iT ?_<|zqT h4⟩
    refine⟨_,rfl,_,rfl,?_⟩;have hr:=eN.app (Run.keep (a:=la) BS Run.nil);rw[zad] at hr;exact fin (.keep lf) _ _ _ a3 aw a4 ZM.1 (by show 0<=40;decide) hr
 ·rintro σ H2 ⟨u,v,w,z,ys,ps,l1,l2,q,rfl,s2,ue,bS,hl,aE,ht,ex,eN⟩;have hlen:=Paired.length bS;have ZK:x.length=l1.length+l2.length:=by rw[len_list,ex];simp
  refine⟨_,rfl,_,rfl,cY (by lia),_,rfl,trivial,dc,fun t jH=>⟨ji,fun d hd=>?_⟩⟩
  have xy:b≠t:=aK ue jH;have qL:upd H2 t (.tup [.str "keep",.int<|(x.length:Int) - (l1.length:Int)]) b=some (.lst ys):=by rw[aC xy];exact ue
  have sD:b≠d:=aK qL hd;have Lq:t≠d:=fun z=>by rw[<-z,aw] at hd;cases hd
  have s4:az H2 (upd (upd H2 t<|.tup [.str "keep",.int<|(x.length:Int) - (l1.length:Int)]) d<|.lst [.ref t]):=(sameNew jH).trans (sameNew hd);refine .inl ⟨b,d,ys,[.ref t],rfl,rfl,(by rw[aC sD];exact qL),aw,cY (by simp;lia),fun e he=>?_⟩
  have s5:=s4.trans (sameNew (o:=.lst (ys++[.ref t])) he);have ZP:H2 e=none:=s4.free he;have hr:=eN.app (Run.keep (a:=l2) (n:=(x.length:Int) - (l1.length:Int)) (by lia) Run.nil)
  rw[zad,<-ex] at hr;have ZQ:t≠e:=fun z=>by rw[<-z,aC Lq,aw] at he;cases he
  refine k e _ (ys++[.ref t]) (ps++[.keep<|(x.length:Int) - (l1.length:Int)]) _ (s2.trans s5) (s2.free ZP) aw (aJ.snoc (bS.mono<|bF s5) ⟨t,rfl,?_⟩) ?_ (by simp;lia) ?_ hr
  ·rw[aC ZQ,aC Lq,aw];rfl
  ·intro p hp;rcases zaf.mp hp with z|z
   ·exact aE p z
   ·rw[zag.mp z];show(0:Int)<=_;lia
  ·rw[A0];show aA ps+(0+0)<=40*m.toNat;lia
abbrev ZR:List (Str×Sp):=[("_law_neat",sZ),("_law_parts",Lm)]
def BV:Sp:=fun vs H Q E=>∃(c:Int) (x:Str) (m:Int),vs=[.int c,.str x,.int m]/\good x/\x.length<=10000/\0<=m/\m<=100/\
 ∀b H' ys ps q,az H H'->H b=none->H' b=some (.lst ys)->aJ H' ys ps->(∀p∈ps,aZ p)->chainOk "" ps=true->ps.length<=305->aA ps<=40*m.toNat->Run x.cps.toList ps q->Q (.ref b) H'
theorem ZS{K:Frag}(vs:List V)(H:Hp)(Q:VK)(E:XK)(h:BV vs H Q E):aB (aM K ZR [] (E:=E)) G_ {nx:=fun _ H'=>Q .aF H',rt:=Q} (start G9 vs) H:=by
 obtain⟨c,x,m,rfl,hx,Ln,wU,Bf,k⟩:=h;refine⟨_,rfl,_,rfl,_,rfl,c,x,m,rfl,hx,Ln,wU,Bf,fun b H1 ys ps q s1 fb h1 hp hr hl ht eN=>?_⟩;refine⟨b,ys,ps,rfl,h1,hp,by lia,by lia,fun d H2 zs s2 fd h2 hz=>?_⟩
 obtain⟨g1,g2,_⟩:=wQ ps hr (by lia)
 have rP:=AQ ps;rw[AL ps hr] at rP;exact k d H2 zs (ig ps) q (s1.trans s2) (s1.free fd) h2 hz g2 g1 (by lia) (by rw[A4 ps hr];exact ht)<|AW eN
end L2.B
namespace L2.kb
open PySem PySem.Spec L2.B L2.N
def fI(c:Nat):List (List Nat)->List (List Nat)
 |[]=>[[c]]
 |p::ps=>(c::p)::ps
def gp:List At->List (List Nat)×List (Option Nat)
 |[]=>([[]],[])
 |.P c::xs=>(fI c (gp xs).1,(gp xs).2)
 |.K::xs=>([]::(gp xs).1,none::(gp xs).2)
 |.C c::xs=>([]::(gp xs).1,some c::(gp xs).2)
theorem jg:∀xs:List At,∃p ps,(gp xs).1=p::ps
 |[]=>⟨_,_,rfl⟩
 |.P c::xs=>by
  obtain⟨p,ps,e⟩:=jg xs;exact⟨c::p,ps,by show fI c (gp xs).1=_;rw[e];rfl⟩
 |.K::xs=>⟨_,_,rfl⟩
 |.C c::xs=>⟨_,_,rfl⟩
theorem o9:∀xs:List At,(gp xs).1.length=(gp xs).2.length+1
 |[]=>rfl
 |.P c::xs=>by
  obtain⟨p,ps,e⟩:=jg xs;have:=o9 xs;show(fI c (gp xs).1).length=_;rw[e] at this⊢;exact this
 |.K::xs=>by show(gp xs).1.length+1=(gp xs).2.length+1+1;rw[o9 xs]
 |.C c::xs=>by show(gp xs).1.length+1=(gp xs).2.length+1+1;rw[o9 xs]
theorem qR:∀xs:List At,(gp xs).2.length=bL xs
 |[]=>rfl
 |.P c::xs=>qR xs
 |.K::xs=>by show(gp xs).2.length+1=bL xs+1;rw[qR xs]
 |.C c::xs=>by show(gp xs).2.length+1=bL xs+1;rw[qR xs]
def jI(s:List Nat):List (List Nat)->List (List Nat)
 |[]=>[]
 |[p]=>[p++s]
 |p::q::r=>p::jI s (q::r)
theorem BW{s p:List Nat}{ps:List (List Nat)}(h:ps≠ []):jI s (p::ps)=p::jI s ps:=by
 cases ps with
 |nil=>exact absurd rfl h
 |cons q r=>rfl
theorem ZT{c:Nat}{s:List Nat}:∀ps:List (List Nat),ps≠ []->jI s (fI c ps)=fI c (jI s ps)
 |[],h=>absurd rfl h
 |[p],_=>rfl
 |p::q::r,_=>rfl
theorem xB(s:List Nat):∀xs:List At,gp (xs++s.map .P)=(jI s (gp xs).1,(gp xs).2)
 |[]=>by
  induction s with
  |nil=>rfl
  |cons c s ih=>show(fI c (gp<|s.map .P).1,(gp<|s.map .P).2)=_;rw[show gp (s.map At.P)=_ from ih];rfl
 |.P c::xs=>by
  obtain⟨p,ps,e⟩:=jg xs;show(fI c (gp<|xs++s.map .P).1,(gp<|xs++s.map .P).2)=(jI s<|fI c (gp xs).1,(gp xs).2);rw[xB s xs,ZT _ (by rw[e];exact zaZ _ _)]
 |.K::xs=>by
  obtain⟨p,ps,e⟩:=jg xs;show([]::(gp<|xs++s.map .P).1,none::(gp<|xs++s.map .P).2)=(jI s ([]::(gp xs).1),none::(gp xs).2);rw[xB s xs,BW (by rw[e];exact zaZ _ _)]
 |.C c::xs=>by
  obtain⟨p,ps,e⟩:=jg xs;show([]::(gp<|xs++s.map .P).1,some c::(gp<|xs++s.map .P).2)=(jI s ([]::(gp xs).1),some c::(gp xs).2);rw[xB s xs,BW (by rw[e];exact zaZ _ _)]
theorem ZU{c:Nat}{r:List (List Nat)}:∀ps:List (List Nat),ps≠ []->fI c ps++r=fI c (ps++r)
 |[],h=>absurd rfl h
 |p::ps,_=>rfl
def gY:Option Nat->At
 |none=>.K
 |some c=>.C c
theorem ug(os:List (Option Nat)):∀xs:List At,gp (xs++os.map gY)=((gp xs).1++List.replicate os.length [],(gp xs).2++os)
 |[]=>by
  induction os with
  |nil=>rfl
  |cons o os ih=>
   cases o with
   |none=>show([]::(gp<|os.map gY).1,none::(gp<|os.map gY).2)=_;rw[show gp (os.map gY)=_ from ih];rfl
   |some c=>show([]::(gp<|os.map gY).1,some c::(gp<|os.map gY).2)=_;rw[show gp (os.map gY)=_ from ih];rfl
 |.P c::xs=>by
  obtain⟨p,ps,e⟩:=jg xs;show(fI c (gp<|xs++os.map gY).1,(gp<|xs++os.map gY).2)=(fI c (gp xs).1++_,_);rw[ug os xs,ZU _ (by rw[e];exact zaZ _ _)]
  rfl
 |.K::xs=>by
  show([]::(gp<|xs++os.map gY).1,none::(gp<|xs++os.map gY).2)=_;rw[ug os xs];rfl
 |.C c::xs=>by
  show([]::(gp<|xs++os.map gY).1,some c::(gp<|xs++os.map gY).2)=_;rw[ug os xs];rfl
def Lr:Option (Option Nat)->Option (Option Nat)->List At
 |some none,some none=>[.K]
 |some none,some (some c)=>[.C c]
 |_,_=>[]
def qS(m p:List Nat)(a b:Option (Option Nat)):List At:=rK m.length++(p.map .P++Lr a b)
def mg:List (List Nat)->List (List Nat)->List (Option Nat)->List (Option Nat)->List At
 |m::ms,p::ps,cs,ls=>qS m p cs.head? ls.head?++mg ms ps cs.tail ls.tail
 |_,_,_,_=>[]
theorem ZV{c:Nat}{p:List (List Nat)}{ms:List (List Nat)}{cs ls:List (Option Nat)}(hm:ms≠ [])(hp:p≠ []):mg (fI c ms) p cs ls=.K::mg ms p cs ls:=by
 match ms,p,hm,hp with
 |m::ms,p::ps,_,_=>
  show qS (c::m) p cs.head? ls.head?++_=.K::(qS m p cs.head? ls.head?++_);unfold qS;rw[show rK (c::m).length=.K::rK m.length by unfold rK;rw[zay,zaI]]
  rfl
theorem Ls{xs ys os:List At}(h:c6 xs ys os ts):ts=mg (gp xs).1 (gp ys).1 (gp xs).2 (gp ys).2:=by
 induction h with
 |nil=>rfl
 | @p1 c xs ys os ts _ ih=>
  obtain⟨p,ps,e⟩:=jg xs;obtain⟨q,qs,e'⟩:=jg ys;show _=mg (fI c (gp xs).1) (gp ys).1 (gp xs).2 (gp ys).2;rw[ZV (by rw[e];exact zaZ _ _) (by rw[e'];exact zaZ _ _),<-ih]
 | @p2 c xs ys os ts hn _ ih=>
  obtain⟨q,qs,e'⟩:=jg ys;obtain⟨ms,e⟩:∃ms,(gp xs).1=[]::ms:=by
   cases xs with
   |nil=>exact⟨_,rfl⟩
   |cons a xs=>
    cases a with
    |P d=>exact absurd rfl (hn d xs)
    |K=>exact⟨_,rfl⟩
    |C d=>exact⟨_,rfl⟩
  show _=mg (gp xs).1 (fI c (gp ys).1) (gp xs).2 (gp ys).2;rw[ih,e,e'];rfl
 |kk _ ih=>rw[ih];rfl
 |kc _ ih=>rw[ih];rfl
 |ck _ ih=>rw[ih];rfl
 |cc _ ih=>rw[ih];rfl
def o_:Option (Option Nat)->Option (Option Nat)->List Pt
 |some none,some none=>[.keep 1]
 |some none,some (some c)=>[.cut ⟨#[c]⟩]
 |_,_=>[]
def ik(m p:List Nat)(a b:Option (Option Nat)):List Pt:=[.keep (m.length:Nat),.put ⟨p.toArray⟩]++o_ a b
def m7:List (List Nat)->List (List Nat)->List (Option Nat)->List (Option Nat)->List Pt
 |m::ms,p::ps,cs,ls=>ik m p cs.head? ls.head?++m7 ms ps cs.tail ls.tail
 |_,_,_,_=>[]
theorem ZW(a b:Option (Option Nat)):av (o_ a b)=Lr a b:=by
 cases a with
 |none=>rfl
 |some a=>
  cases a with
  |some c=>rfl
  |none=>
   cases b with
   |none=>rfl
   |some b=>cases b<;>rfl
theorem ZX(m p:List Nat)(a b:Option (Option Nat)):av (ik m p a b)=qS m p a b:=by
 unfold ik qS;rw[ij,ZW,<-zao]
 congr 1
 show rK (m.length:Int).toNat++(((⟨p.toArray⟩:Str).cps.toList.map At.P)++[])=_;rw[zad,zax]
theorem BX:∀(ms ps:List (List Nat)) (cs ls:List (Option Nat)),av (m7 ms ps cs ls)=mg ms ps cs ls
 |[],_,_,_=>by cases ‹List (List Nat)› <;>rfl
 |_::_,[],_,_=>rfl
 |m::ms,p::ps,cs,ls=>by
  show av (ik m p cs.head? ls.head?++m7 ms ps cs.tail ls.tail)=_;rw[ij,ZX,BX ms ps];rfl
theorem xC{xs ys os:List At}(h:c6 xs ys os ts):∀a:At,a≠ .K->a∈ts->a∈ys:=by
 induction h with
 |nil=>exact fun a _ h=>h
 |p1 _ ih=>
  intro a n h;rcases zaa.mp h with h|h
  ·exact absurd h n
  ·exact ih a n h
 |p2 _ _ ih=>
  intro a n h;rcases zaa.mp h with h|h
  ·rw[h];exact .head _
  ·exact .tail _ (ih a n h)
 |kk _ ih=>
  intro a n h;rcases zaa.mp h with h|h
  ·exact absurd h n
  ·exact .tail _ (ih a n h)
 |kc _ ih=>
  intro a n h;rcases zaa.mp h with h|h
  ·rw[h];exact .head _
  ·exact .tail _ (ih a n h)
 |ck _ ih=>exact fun a n h=>.tail _ (ih a n h)
 |cc _ ih=>exact fun a n h=>.tail _ (ih a n h)
theorem Lu{xs ys os:List At}(h:c6 xs ys os ts):cnt ts<=cnt ys:=by
 induction h with
 |nil=>exact zqR _
 |p1 _ ih=>exact ih
 |p2 _ _ ih=>exact Nat.succ_le_succ ih
 |kk _ ih=>exact ih
 |kc _ ih=>exact Nat.succ_le_succ ih
 |ck _ ih=>exact ih
 |cc _ ih=>exact Nat.le_succ_of_le ih
theorem xD{p:Pt}{a:At}(hp:p∈ps)(ha:a∈bT p):a∈av ps:=by
 unfold av;exact zbA.mpr ⟨_,zbq hp,ha⟩
theorem xE(h:∀p∈ps,aZ p){c:Nat}(hc: .P c∈av ps\/ .C c∈av ps):SG.cps.contains c=true:=by
 have go:∀a:At,(a=.P c\/a=.C c)->a∈av ps->SG.cps.contains c=true:=fun a ea ha=>by
  unfold av at ha;obtain⟨l,hl,BY⟩:=zbA.mp ha;obtain⟨p,hp,rfl⟩:=zaN.mp hl;have ok:=h p hp;cases p with
  |keep n=>
   have:a=.K:=List.eq_of_mem_replicate (show a∈rK n.toNat from BY)
   rcases ea with rfl|rfl<;>cases this
  |put s=>
   obtain⟨d,hd,rfl⟩:=zaN.mp (show a∈s.cps.toList.map At.P from BY)
   rcases ea with e|e<;>cases e
   exact ok.1.2 _ hd
  |cut s=>
   obtain⟨d,hd,rfl⟩:=zaN.mp (show a∈s.cps.toList.map At.C from BY)
   rcases ea with e|e<;>cases e
   exact ok.1.2 _ hd
 rcases hc with hc|hc
 ·exact go _ (.inl rfl) hc
 ·exact go _ (.inr rfl) hc
theorem BZ:∀(ms ps:List (List Nat)) (cs ls:List (Option Nat)) (n:Int),.keep n∈m7 ms ps cs ls->0<=n
 |[],_,_,_,n,h=>by cases ‹List (List Nat)› <;>cases h
 |_::_,[],_,_,n,h=>by cases h
 |m::ms,p::ps,cs,ls,n,h=>by
  rcases zaf.mp (show Pt.keep n∈ik m p cs.head? ls.head?++m7 ms ps cs.tail ls.tail from h) with h|h
  ·rcases zaf.mp (show Pt.keep n∈ [.keep (m.length:Nat),.put ⟨p.toArray⟩]++o_ cs.head? ls.head? from h) with h|h
   ·simp only[zaa,zab,or_false] at h
    rcases h with h|h
    ·cases h;lia
    ·cases h
   ·unfold o_ at h
    split at h
    ·simp only[zaa,zab,or_false] at h;cases h;decide
    ·simp only[zaa,zab,or_false] at h;cases h
    ·cases h
  ·exact BZ ms ps _ _ n h
abbrev dy(one other:List Pt):List Pt:=m7 (gp<|av one).1 (gp<|av other).1 (gp<|av one).2 (gp<|av other).2
theorem ZY{one qs:List Pt}{m n:List Nat}(h2:∀p∈other,aZ p)(P:Passed one other ps qs l m n)(ht:aA other<=100000):ig (dy one other)=qs/\aA (dy one other)<=aA other:=by
 obtain⟨os,ts,hp,e1,e2⟩:=P.Y7;have et:=Ls hp;have ex:av (dy one other)=ts:=by rw[BX,<-et]
 have tt:aA (dy one other)<=aA other:=by
  have hc:=Lu hp;rw[<-ex,lK,lK] at hc;exact hc
 have raw:∀p∈dy one other,eF p:=fun p lQ=>by
  have len:∀s:Str,(p=.put s\/p=.cut s)->s.length<=aA (dy one other):=fun s hs=>by
   have:bY p<=aA (dy one other):=tm lQ;rcases hs with rfl|rfl<;>exact this
  have sg:∀s:Str,(p=.put s\/p=.cut s)->∀c∈s.cps.toList,SG.cps.contains c=true:=fun s hs c hc=>by
   rcases hs with rfl|rfl
   ·have h1:At.P c∈av (dy one other):=xD lQ (zbq hc);rw[ex] at h1;exact xE h2<|.inl<|xC hp _ (by intro z;cases z) h1
   ·have h1:At.C c∈av (dy one other):=xD lQ (zbq hc);rw[ex] at h1;exact xE h2<|.inr<|xC hp _ (by intro z;cases z) h1
  cases p with
  |keep n=>exact BZ _ _ _ _ n lQ
  |put s=>have:=len s (.inl rfl);exact⟨⟨by lia,sg s<|.inl rfl⟩,by lia⟩
  |cut s=>have:=len s (.inr rfl);exact⟨⟨by lia,sg s<|.inr rfl⟩,by lia⟩
 obtain⟨k1,k2,_⟩:=wQ _ raw (by lia)
 refine⟨Kn _ _ "" "" k1 P.Y6 k2 P.xj ?_,tt⟩;rw[<-AL _ raw,tF _ fun p hp=>Ka (raw p hp),ex,e2]
def sV(ps:List (List Nat)):List V:=ps.map fun p=>V.str ⟨p.toArray⟩
def oV:Option Nat->V
 |none=>.aF
 |some c=>.str ⟨#[c]⟩
theorem Lw(v:V):∀n:Nat,(List.replicate n [v]).flatten=List.replicate n v
 | 0=>rfl
 |n+1=>by rw[zaI,zbc,Lw v n,zaI];rfl
section
variable {K:Frag}{H H':Hp}{Q:VK}{Γ:bo}{σ:St}{i j:Int}
theorem il(h:0<j)(q:Q (.int<|i % j) H):iD K .Mod (.int i) (.int j) H Q:=⟨h,q⟩
theorem jJ(h:yB i j)(q:Q (.int<|i / j) H):iD K .FloorDiv (.int i) (.int j) H Q:=⟨h,q⟩
theorem Lx(h:rF i j)(q:Q (.int<|i*j) H):iD K .Mult (.int i) (.int j) H Q:=⟨h,q⟩
theorem ZZ{a b:Str}(h:a.length+b.length<=1000000)(q:Q (.str<|a++b) H):iD K .Add (.str a) (.str b) H Q:=⟨cY h,q⟩
theorem B0{a b:Addr}(ha:H a=some (.lst xs))(hb:H b=some (.lst ys))(hl:xs.length+ys.length<=1000000)(q:∀c,H c=none->Q (.ref c) (upd H c<|.lst<|xs++ys)):iD K .Add (.ref a) (.ref b) H Q:=
 .inl ⟨a,b,xs,ys,rfl,rfl,ha,hb,cY hl,q⟩
theorem Ly{a:Addr}(ha:H a=some (.lst [v]))(hl:n<=1000000)(q:∀c,H c=none->Q (.ref c) (upd H c<|.lst<|List.replicate n v)):iD K .Mult (.ref a) (.int (n:Nat)) H Q:=by
 refine⟨a,_,_,rfl,rfl,ha,by lia,by lia,cY (by rw[zax];show 1*n<=_;lia),fun c fc=>?_⟩
 rw[zax];rw[Lw];exact q c fc
theorem xF(h:ae Γ a σ H fun x H1=>i4 Γ.K .list [x] H1 Q):ae Γ (.blt .list [a]) σ H Q:=h
theorem B1(s:Str):(s==s)=true:=by simp
end
theorem lst_snoc(s z:List Nat):∀A:List (List Nat),jI s (A++[z])=A++[z++s]
 |[]=>rfl
 |p::A=>by
  show jI s (p::(A++[z]))=p::(A++[z++s]);rw[BW (by simp),lst_snoc s z A]
theorem B3{α:Type}:∀{l:List α},l≠ []->∃A z,l=A++[z]
 |l,h=>⟨l.dropLast,l.getLast h,(List.dropLast_concat_getLast h).symm⟩
theorem Z0(a b:List Nat):(⟨a.toArray⟩:Str)++(⟨b.toArray⟩:Str)=⟨(a++b).toArray⟩:=by
 show(⟨a.toArray++b.toArray⟩:Str)=_;rw[List.append_toArray]
theorem B4(s:Str):(⟨s.cps.toList.toArray⟩:Str)=s:=by simp
section
variable {K:Frag}{H H':Hp}
def uh:Sp:=fun vs H Q E=>∃(a:Addr) (xs:List V) (ps:List Pt),vs=[.ref a]/\H a=some (.lst xs)/\aJ H xs ps/\(∀p∈ps,aZ p)/\b_ ps<=10000/\aA ps<=10000/\ps.length<=100000/\
 ∀t c d H',az H H'->H c=none->H d=none->H' t=some (.tup [.ref c,.ref d])->H' c=some (.lst<|sV (gp<|av ps).1)->H' d=some (.lst<|(gp<|av ps).2.map oV)->Q (.ref t) H'
theorem B5(ps:List Pt)(h:∀p∈ps,aZ p):bL (av ps)=b_ ps:=by
 induction ps with
 |nil=>rfl
 |cons p ps ih=>
  have Z1:=ih fun q hq=>h q (.tail _ hq);rw[dn];have oa:∀xs ys:List At,bL (xs++ys)=bL xs+bL ys:=by
   intro xs ys
   induction xs with
   |nil=>simp[bL]
   |cons a xs ih=>cases a<;>simp only[zaQ,bL,ih] <;>lia
  rw[oa,Z1];cases p with
  |keep n=>
   have:∀n:Nat,bL (rK n)=n:=by
    intro n
    induction n with
    |zero=>rfl
    |succ n ih=>show bL (.K::rK n)=_;simp only[bL,ih]
   show bL (rK n.toNat)+b_ ps=n.toNat+b_ ps;rw[this]
  |put s=>
   have:∀l:List Nat,bL (l.map .P)=0:=by
    intro l
    induction l with
    |nil=>rfl
    |cons c l ih=>exact ih
   show bL (s.cps.toList.map .P)+b_ ps=b_ ps;rw[this,Nat.zero_add]
  |cut s=>
   have:∀l:List Nat,bL (l.map .C)=l.length:=by
    intro l
    induction l with
    |nil=>rfl
    |cons c l ih=>show bL (l.map .C)+1=_;rw[ih];rfl
   show bL (s.cps.toList.map .C)+b_ ps=s.length+b_ ps;rw[this];simp[Str.length]
theorem Z2:c9 (uh) (fun E=>aM K [] [] (E:=E)) IX IW:=by
 intro vs H Q E h;obtain⟨a,xs,ps,rfl,ha,pv,ok,ho,ht,hl,q⟩:=h;have lx:=Paired.length pv;refine bK<|e7<|ay<|ax<|aN ⟨ji,fun P fP=>?_⟩;have s1:=sameNew (o:=.lst [V.str ""]) fP;have hP:upd H P (.lst [V.str ""]) P=some (.lst<|sV (gp<|av<|ps.take 0).1):=aw;generalize upd H P (.lst [V.str ""])=H1 at s1 hP⊢;refine bK<|e7<|aN ⟨zqZ _,fun S fS=>?_⟩;have s2:=sameNew (o:=.lst []) fS;have hS:upd H1 S (.lst []) S=some (.lst<|(gp<|av<|ps.take 0).2.map oV):=aw;have B6:=s2 _ _ hP;have qT:P≠S:=aK hP fS;generalize upd H1 S (.lst [])=H2 at s2 hS B6⊢;have Lz:∀i,(gp<|av<|ps.take i).2.length<=b_ ps/\cnt (av<|ps.take i)<=aA ps:=fun i=>by
  refine⟨?_,?_⟩
  ·rw[qR,B5 _ fun p hp=>ok p (zbK hp)];have e:b_ ps=b_ (ps.take i)+b_ (ps.drop i):=by
    have oa:∀us ws:List Pt,b_ (us++ws)=b_ us+b_ ws:=by
     intro us ws
     induction us with
     |nil=>simp[b_]
     |cons u us ih=>cases u<;>simp only[zaQ,b_,ih] <;>lia
    rw[<-oa,zbf]
   lia
  ·rw[lK];have e:aA ps=aA (ps.take i)+aA (ps.drop i):=by
    unfold aA;rw[<-zbz,<-zak,zbf]
   lia
 refine Lh (aj rfl ⟨a,rfl,⟨_,au.of (s2 _ _ (s1 _ _ ha))⟩,jT (K:=K) (a:=a) (xs:=xs) (fun i σ H3=>∃(P S:Addr) (u3 u4 u5:Option V),σ=[some (.ref a),some (.ref P),some (.ref S),u3,u4,u5]/\H P=none/\H S=none/\P≠S/\az H H3/\H3 P=some (.lst (sV (gp (av (ps.take i))).1))/\H3 S=some (.lst ((gp (av (ps.take i))).2.map oV)))
  ⟨P,S,none,none,none,rfl,fP,s1.free fS,qT,s1.trans s2,B6,hS⟩ (fun i σ H3 _ ⟨_,_,_,_,_,_,_,_,_,s,_⟩=>au.of (s _ _ ha)) ?_ ?_⟩)
 ·clear hP B6 hS qT fP fS s1 s2;rintro i v σ H3 hv ⟨P,S,u3,u4,u5,rfl,fP,fS,qT,s,hP,hS⟩;obtain⟨p,xG,t,rfl,oK⟩:=km pv hv;have aE:=ok p (zar xG);have ext:av (ps.take<|i+1)=av (ps.take i)++bT p:=by rw[xx xG,ij,iI]
  obtain⟨b1,b2⟩:=Lz i;obtain⟨c1,c2⟩:=Lz (i+1);have gl:=o9 (av<|ps.take i);have B7:=o9 (av<|ps.take<|i+1);rw[ext] at c1 c2 B7;refine xq (s _ _ oK) ?_;show aB (aM K [] [] (E:=E)) _ _ [some<|.ref a,some<|.ref P,some<|.ref S,some<|.str p.word,some p.val,u5] H3;have behind:∀(os:List (Option Nat)) (W:Addr) (H4:Hp) (D:Ends),az H3 H4->H4 W=some (.lst<|os.map oV)->bT p=os.map gY->(∀(P' S':Addr) (u3 u4 u5:Option V) (H5:Hp),H P'=none->H S'=none->P'≠S'->az H H5->H5 P'=some (.lst<|sV (gp<|av<|ps.take<|i+1).1)->H5 S'=some (.lst<|(gp<|av<|ps.take<|i+1).2.map oV)->D.nx [some<|.ref a,some<|.ref P',some<|.ref S',u3,u4,u5] H5)->
    aB (aM K [] [] (E:=E)) [.asg 2<|.bin .Add (.v 2)<|.v 5,.asg 1<|.bin .Add (.v 1)<|.bin .Mult (.lst [(.c<|.str "")])<|.blt .len [.v 5]] D [some<|.ref a,some<|.ref P,some<|.ref S,some<|.str p.word,some p.val,some<|.ref W] H4:=by
   intro os W H4 D s4 hW Z3 kk;have gg:=ug os (av<|ps.take i);rw[Z3] at ext c1 B7;rw[gg] at c1 B7;have lo:os.length<=b_ ps:=by rw[zqA] at c1;lia
   have Z4:=s4 _ _ hS;have hP4:=s4 _ _ hP;have l1:((gp<|av<|ps.take i).2.map oV).length+(os.map oV).length<=1000000:=by rw[zac,zac];lia
   refine bK<|br<|aj rfl<|aj rfl<|B0 Z4 hW l1 fun S' f5=>?_;have t5:=sameNew (o:=.lst ((gp<|av<|ps.take i).2.map oV++os.map oV)) f5;have B8:upd H4 S' (.lst<|(gp<|av<|ps.take i).2.map oV++os.map oV) S'=some (.lst<|(gp<|av<|ps.take<|i+1).2.map oV):=by rw[aw,<-zak,ext,gg]
   generalize upd H4 S' (.lst<|(gp<|av<|ps.take i).2.map oV++os.map oV)=H5 at t5 B8⊢;refine bK<|br<|aj rfl<|br<|e7<|ay<|ax<|aN ⟨ji,fun Bs fB=>?_⟩;have t6:=sameNew (o:=.lst [V.str ""]) fB;have hB:upd H5 Bs (.lst [V.str ""]) Bs=some (.lst [V.str ""]):=aw;generalize upd H5 Bs (.lst [V.str ""])=H6 at t6 hB⊢;refine c4<|aj rfl<|.inl ⟨_,au.of<|t6 _ _<|t5 _ _ hW,?_⟩;rw[zac];refine Ly hB (by lia) fun B2 Z5=>?_
   have t7:=sameNew (o:=.lst (List.replicate os.length<|V.str "")) Z5;have LA:upd H6 B2 (.lst<|List.replicate os.length<|V.str "") B2=some (.lst<|List.replicate os.length<|V.str ""):=aw;generalize upd H6 B2 (.lst<|List.replicate os.length<|V.str "")=H7 at t7 LA⊢;have l2:(sV (gp<|av<|ps.take i).1).length+(List.replicate os.length<|V.str "").length<=1000000:=by unfold sV;rw[zac,zbj];lia
   have B9:=((s4.trans t5).trans t6).trans t7;refine B0 (B9 _ _ hP) LA l2 fun P' f8=>?_;have t8:=sameNew (o:=.lst (sV (gp<|av<|ps.take i).1++List.replicate os.length (V.str ""))) f8;have s5:az H H5:=(s.trans s4).trans t5;have Z6:H S'=none:=(s.trans s4).free f5;have Z7:H P'=none:=(s.trans B9).free f8;have Z8:=t8 _ _ (t7 _ _<|t6 _ _ B8);refine kk P' S' _ _ _ _ Z7 Z6 (fun z=>?_) ((s.trans B9).trans t8) ?_ Z8
   ·have:H7 S'=none:=by rw[<-z];exact f8
    rw[t7 _ _<|t6 _ _ B8] at this;cases this
   ·rw[aw,ext,gg];unfold sV;rw[zak,zbr];rfl
  cases p with
  |put z=>
   refine bZ<|cL<|aj rfl<|ax<|oZ ⟨_,rfl,iT ?_<|B1 _⟩;obtain⟨A,w,eA⟩:=B3 (show(gp<|av<|ps.take i).1≠ [] by obtain⟨_,_,e⟩:=jg (av<|ps.take i);rw[e];exact zaZ _ _)
   have gg:=xB z.cps.toList (av<|ps.take i);have LB:bT (.put z)=z.cps.toList.map At.P:=rfl;have LC:H3 P=some (.lst<|sV A++[V.str ⟨w.toArray⟩]):=by rw[hP,eA];unfold sV;rw[zak];rfl
   have lw:w.length<=20000/\z.length<=20000:=by
    have hz:bY (.put z)<=aA ps:=tm (zar xG);refine⟨?_,by have:bY (.put z)=z.length:=rfl;lia⟩
    have gw:∀(xs:List At) (q:List Nat),q∈ (gp xs).1->q.length<=cnt xs:=by
     intro xs
     induction xs with
     |nil=>intro q hq;rw[zag.mp hq];exact zqZ _
     |cons b xs ih=>
      intro q hq;cases b with
      |P c=>
       obtain⟨p0,p1,e⟩:=jg xs;have jn:q∈fI c (gp xs).1:=hq;rw[e] at jn;rcases zaa.mp jn with h|h
       ·rw[h];have:=ih p0 (by rw[e];exact .head _)
        show p0.length+1<=cnt xs+1;lia
       ·have:=ih q (by rw[e];exact .tail _ h)
        show q.length<=cnt xs+1;lia
      |K=>
       rcases zaa.mp (show q∈ []::(gp xs).1 from hq) with h|h
       ·rw[h];exact zqZ _
       ·exact ih q h
      |C c=>
       rcases zaa.mp (show q∈ []::(gp xs).1 from hq) with h|h
       ·rw[h];exact zqZ _
       ·have:=ih q h;show q.length<=cnt xs+1;lia
    have:=gw _ w (by rw[eA];exact zaq _ (.head _))
    lia
   refine BO<|br<|bD<|aj rfl<|qP<|dN LC (pR _ _)<|aj rfl<|ZZ (by simp[Str.length] at*;lia)<|aj rfl<|qP ⟨P,_,_,(sV A).length,rfl,rfl,LC,by rw[zqA];exact ZF _,?_⟩
   have bP:aR P H3 (upd H3 P<|.lst<|(sV A++[V.str ⟨w.toArray⟩]).set (sV A).length<|V.str<|(⟨w.toArray⟩:Str)++z):=aR.upd;refine⟨P,S,_,_,_,rfl,fP,fS,qT,fun b o e=>bP _ _ (s _ _ e)<|aK e fP,?_,?_⟩
   ·rw[aw,ext,LB,gg,eA,lst_snoc];have:(⟨w.toArray⟩:Str)++z=⟨(w++z.cps.toList).toArray⟩:=by rw[<-Z0,B4]
    rw[this,List.set_append_right _ _<|zqR _,zaY];unfold sV;rw[zak];rfl
   ·rw[ext,LB,gg];exact bP _ _ hS (Ne.symm qT)
  |keep k=>
   have hk:1<=k:=aE;obtain⟨m,rfl⟩:∃m:Nat,k=(m:Int):=⟨k.toNat,by lia⟩
   refine bZ<|cL<|aj rfl<|ax<|oZ ⟨_,rfl,iF ?_ (show((Str.ofString "keep")==Str.ofString "put")=false by decide+kernel)⟩
   refine bK<|BQ<|cL<|aj rfl<|ax<|oZ ⟨_,rfl,iF ?_ (show((Str.ofString "keep")==Str.ofString "cut")=false by decide+kernel)⟩
   refine br<|e7<|ay<|ax<|aN ⟨ji,fun Bs fB=>?_⟩;have t4:=sameNew (o:=.lst [V.aF]) fB;have mo:m<=b_ ps:=by
    have e1:bT (.keep (m:Int))=(List.replicate m none).map gY:=by show rK (m:Int).toNat=_;rw[zax,zbr];rfl
    rw[e1,ug] at c1;have Z9:((gp<|av<|ps.take i).2++List.replicate m none).length<=b_ ps:=c1;rw[zqA,zbj] at Z9;lia
   refine aj rfl<|Ly (aw (a:=Bs)) (by lia) fun W fW=>?_
   refine behind (List.replicate m none) W _ _ (t4.trans<|sameNew fW) (by rw[aw,zbr];rfl) (by show rK (m:Int).toNat=_;rw[zax,zbr];rfl) fun P' S' u3 u4 u5 H5 k1 k2 k3 k4 k5 k6=>⟨P',S',u3,u4,u5,rfl,k1,k2,k3,k4,k5,k6⟩
  |cut z=>
   refine bZ<|cL<|aj rfl<|ax<|oZ ⟨_,rfl,iF ?_ (show((Str.ofString "cut")==Str.ofString "put")=false by decide+kernel)⟩
   refine bK<|BQ<|cL<|aj rfl<|ax<|oZ ⟨_,rfl,iT ?_<|B1 _⟩;have hz:bY (.cut z)<=aA ps:=tm (zar xG);have j2:z.length<=aA ps:=hz;refine xF<|aj rfl ⟨cY (by lia),fun W fW=>?_⟩
   refine behind (z.cps.toList.map some) W _ _ (sameNew fW) (by rw[aw,List.map_map];rfl) (by rw[List.map_map];rfl) fun P' S' u3 u4 u5 H5 k1 k2 k3 k4 k5 k6=>⟨P',S',u3,u4,u5,rfl,k1,k2,k3,k4,k5,k6⟩
 ·rintro σ H3 ⟨P,S,u3,u4,u5,rfl,fP,fS,qT,s,hP,hS⟩;rw[lx,zbd] at hP hS;refine dq<|gk<|ay<|aj rfl<|ay<|aj rfl<|aN ⟨dc,fun t ft=>?_⟩;have s4:=sameNew (o:=.tup [V.ref P,V.ref S]) ft;exact q t P S _ (s.trans s4) fP fS aw (s4 _ _ hP)<|s4 _ _ hS
end
def jK(ms ps:List (List Nat))(cs ls:List (Option Nat))(i:Nat):List Pt:=(List.range i).flatMap fun k=>ik (ms.getD k []) (ps.getD k []) cs[k]? ls[k]?
theorem LD(ms ps:List (List Nat))(cs ls:List (Option Nat))(i:Nat):jK ms ps cs ls (i+1)=jK ms ps cs ls i++ik (ms.getD i []) (ps.getD i []) cs[i]? ls[i]?:=by
 unfold jK;rw[List.range_succ,List.flatMap_append];simp
theorem LF:∀(ms ps:List (List Nat)) (cs ls:List (Option Nat)),ms.length=ps.length->m7 ms ps cs ls=jK ms ps cs ls ms.length
 |[],[],_,_,_=>rfl
 |[],_::_,_,_,h=>by cases h
 |_::_,[],_,_,h=>by cases h
 |m::ms,p::ps,cs,ls,h=>by
  show ik m p cs.head? ls.head?++m7 ms ps cs.tail ls.tail=_;rw[LF ms ps cs.tail ls.tail<|Nat.succ.inj h];unfold jK;rw[zay,List.range_succ_eq_map,List.flatMap_cons,List.flatMap_map]
  congr 1
  ·cases cs<;>cases ls<;>rfl
  ·refine congrArg List.flatten (List.map_congr_left fun k _=>?_);show ik _ _ cs.tail[k]? ls.tail[k]?=ik _ _ cs[k+1]? ls[k+1]?;rw[List.getElem?_tail,List.getElem?_tail];rfl
theorem Z_(m p:List Nat)(a b:Option (Option Nat)):(ik m p a b).length<=3:=by
 unfold ik o_
 split<;>simp
theorem B_(ms ps:List (List Nat))(cs ls:List (Option Nat)):∀i,(jK ms ps cs ls i).length<=3*i
 | 0=>zqR _
 |i+1=>by
  rw[LD,zqA];have:=B_ ms ps cs ls i;have:=Z_ (ms.getD i []) (ps.getD i []) cs[i]? ls[i]?;lia
section
variable {K:Frag}{H H':Hp}
theorem LG(q:Q (.bl<|decide<|v=.aF) H):cO K .Is v .aF H Q:=⟨rfl,q⟩
theorem qU:∀(xs:List At) (q:List Nat),q∈ (gp xs).1->q.length<=cnt xs
 |[],q,hq=>by rw[zag.mp hq];exact zqZ _
 |.P c::xs,q,hq=>by
  obtain⟨p0,p1,e⟩:=jg xs;have jn:q∈fI c (gp xs).1:=hq;rw[e] at jn;rcases zaa.mp jn with h|h
  ·rw[h];have:=qU xs p0 (by rw[e];exact .head _)
   show p0.length+1<=cnt xs+1;lia
  ·have:=qU xs q (by rw[e];exact .tail _ h)
   show q.length<=cnt xs+1;lia
 |.K::xs,q,hq=>by
  rcases zaa.mp (show q∈ []::(gp xs).1 from hq) with h|h
  ·rw[h];exact zqZ _
  ·exact qU xs q h
 |.C c::xs,q,hq=>by
  rcases zaa.mp (show q∈ []::(gp xs).1 from hq) with h|h
  ·rw[h];exact zqZ _
  ·have:=qU xs q h;show q.length<=cnt xs+1;lia
def Ca:Sp:=fun vs H Q E=>∃(a b:Addr) (xs ys:List V) (one other:List Pt),vs=[.ref a,.ref b]/\H a=some (.lst xs)/\H b=some (.lst ys)/\aJ H xs one/\aJ H ys other/\(∀p∈one,aZ p)/\(∀p∈other,aZ p)/\b_ one=b_ other/\b_ one<=10000/\aA one<=10000/\aA other<=10000/\one.length<=100000/\other.length<=100000/\aA (dy one other)<=100000/\
 ∀c H' zs,az H H'->H c=none->H' c=some (.lst zs)->aJ H' zs (ig<|dy one other)->Q (.ref c) H'
theorem aaa:c9 (Ca) (fun E=>aM K [("_law_gaps",uh),("_law_neat",sZ)] [] (E:=E)) I_ IZ:=by
 intro vs H Q E h;obtain⟨a,b,xs,ys,one,other,rfl,ha,hb,pv1,pb,Bw,xj,eo,lo,t1,t2,l1,l2,tp,q⟩:=h;refine Lc<|cv uh rfl<|ay<|aj rfl<|aN ⟨a,xs,one,rfl,ha,pv1,Bw,lo,t1,l1,fun g1 c1 d1 H1 s1 f1 f1' hg1 dW qN=>xq hg1 ?_⟩;refine Lc<|cv uh rfl<|ay<|aj rfl<|aN ⟨b,ys,other,rfl,s1 _ _ hb,pb.mono<|bF s1,xj,by lia,t2,l2,fun g2 c2 d2 H2 s2 f2 f2' hg2 lZ hd2=>xq hg2 ?_⟩
 have dW:=s2 _ _ dW;have qN:=s2 _ _ qN;have dX:=s1.trans s2;have n1:=o9 (av one);have n2:=o9 (av other);have m1:(gp<|av one).2.length=b_ one:=by rw[qR,B5 _ Bw]
 have m2:(gp<|av other).2.length=b_ other:=by rw[qR,B5 _ xj]
 have w1:∀q∈ (gp<|av one).1,q.length<=10000:=fun q hq=>by have:=qU _ q hq;rw[lK] at this;lia
 have w2:∀q∈ (gp<|av other).1,q.length<=10000:=fun q hq=>by have:=qU _ q hq;rw[lK] at this;lia
 have LH:dy one other=jK (gp<|av one).1 (gp<|av other).1 (gp<|av one).2 (gp<|av other).2 (gp<|av one).1.length:=LF _ _ _ _ (by lia)
 rw[LH] at q tp;have lcs:(gp<|av one).2.length=(gp<|av other).2.length:=by lia
 have gl1:(gp<|av one).1.length<=10001:=by lia
 have gl2:(gp<|av one).1.length=(gp<|av other).1.length:=by lia
 have gl3:(gp<|av one).1.length=(gp<|av one).2.length+1:=n1;clear n1 n2 m1 m2 LH;generalize (gp<|av one).1=ms at*;generalize (gp<|av one).2=cs at*;generalize (gp<|av other).1=ps at*;generalize (gp<|av other).2=ls at*;refine bK<|e7<|aN ⟨zqZ _,fun L fL=>?_⟩;have s3:=sameNew (o:=.lst []) fL;have hL:upd H2 L (.lst []) L=some (.lst []):=aw;generalize upd H2 L (.lst [])=H3 at s3 hL⊢;refine BP<|c4<|aj rfl<|.inl ⟨_,au.of<|s3 _ _ dW,_,rfl,?_,?_,vh (lo:=0) (fun i σ H4=>∃(L:Addr) (zs:List V) (u7:Option V),σ=[some<|.ref a,some<|.ref b,some<|.ref c1,some<|.ref d1,some<|.ref c2,some<|.ref d2,some<|.ref L,u7]/\H2 L=none/\az H2 H4/\H4 L=some (.lst zs)/\aJ H4 zs (jK ms ps cs ls i)) ⟨L,[],none,rfl,fL,s3,hL,.nil⟩ ?_ ?_⟩
 ·lia
 ·unfold sV;rw[zac];lia
 ·clear hL s3 fL;rintro i σ H4 hi ⟨L,zs,u7,rfl,fL,s4,hL,pz⟩;have eT:i<ms.length:=by rw[zax] at hi;unfold sV at hi;rwa [zac] at hi
  have hip:i<ps.length:=by lia
  show aB (aM K [("_law_gaps",uh),("_law_neat",sZ)] [] (E:=E)) _ _ [some<|.ref a,some<|.ref b,some<|.ref c1,some<|.ref d1,some<|.ref c2,some<|.ref d2,some<|.ref L,some<|.int<|0+(i:Int)] H4;rw[Int.zero_add];have lz:=Paired.length pz;have lg:=B_ ms ps cs ls i;have em:ms[i]?=some (ms.getD i []):=by rw[zaP,zai eT];rfl
  have ep:ps[i]?=some (ps.getD i []):=by rw[zaP,zai hip];rfl
  have lm:=w1 _ (zar em);have nx:=LD ms ps cs ls i;generalize ms.getD i []=mi at em lm nx;generalize ps.getD i []=pi at ep nx;have am:(sV ms)[i]?=some (.str ⟨mi.toArray⟩):=by unfold sV;rw[zaj,em];rfl
  have ap:(sV ps)[i]?=some (.str ⟨pi.toArray⟩):=by unfold sV;rw[zaj,ep];rfl
  have xH:(⟨mi.toArray⟩:Str).length=mi.length:=by simp[Str.length]
  refine bK<|br<|aj rfl<|e7<|ay<|gk<|ay<|ax<|ay<|c4<|bD<|aj rfl<|aj rfl<|dN (s4 _ _ dW) (de am) ⟨cY (by lia),?_⟩
  rw[xH];refine aN ⟨dc,fun ta fa=>?_⟩;have u1:=sameNew (o:=.tup [V.str "keep",V.int (mi.length:Nat)]) fa;have e8:upd H4 ta (.tup [V.str "keep",V.int (mi.length:Nat)]) ta=some (.tup [V.str "keep",V.int (mi.length:Nat)]):=aw;generalize upd H4 ta (.tup [V.str "keep",V.int (mi.length:Nat)])=H5 at u1 e8⊢;refine ay<|gk<|ay<|ax<|ay<|bD<|aj rfl<|aj rfl<|dN (u1 _ _<|s4 _ _ lZ) (de ap)<|aN ⟨dc,fun tb fb=>?_⟩;have u2:=sameNew (o:=.tup [V.str "put",V.str ⟨pi.toArray⟩]) fb;have kf:upd H5 tb (.tup [V.str "put",V.str ⟨pi.toArray⟩]) tb=some (.tup [V.str "put",V.str ⟨pi.toArray⟩]):=aw;have e8:=u2 _ _ e8;generalize upd H5 tb (.tup [V.str "put",V.str ⟨pi.toArray⟩])=H6 at u2 e8 kf⊢;refine aN ⟨dc,fun w fw=>?_⟩;have u3:=sameNew (o:=.lst [V.ref ta,V.ref tb]) fw;have hw:upd H6 w (.lst [V.ref ta,V.ref tb]) w=some (.lst [V.ref ta,V.ref tb]):=aw;have e8:=u3 _ _ e8;have kf:=u3 _ _ kf;generalize upd H6 w (.lst [V.ref ta,V.ref tb])=H7 at u3 e8 kf hw⊢;have Cb:=(u1.trans u2).trans u3;refine B0 (Cb _ _ hL) hw (by rw[lz];show _+2<=1000000;lia) fun L2 f8=>?_
  have u4:=sameNew (o:=.lst (zs++[V.ref ta,V.ref tb])) f8;have tZ:upd H7 L2 (.lst<|zs++[V.ref ta,V.ref tb]) L2=some (.lst<|zs++[V.ref ta,V.ref tb]):=aw;have e8:=u4 _ _ e8;have kf:=u4 _ _ kf;have Cc:=Cb.trans u4;have Cd:H2 L2=none:=(s4.trans Cb).free f8;generalize upd H7 L2 (.lst<|zs++[V.ref ta,V.ref tb])=H8 at u4 e8 kf tZ Cc⊢;have s8:=s4.trans Cc;have LJ:aJ H8 (zs++[V.ref ta,V.ref tb]) (jK ms ps cs ls i++[.keep (mi.length:Nat),.put ⟨pi.toArray⟩]):=Paired.app (pz.mono<|bF Cc) (.cons ⟨ta,rfl,e8⟩<|.cons ⟨tb,rfl,kf⟩ .nil);have done:∀u7:Option V,o_ cs[i]? ls[i]?=[]->∃(L:Addr) (zs:List V) (Ce:Option V),[some<|.ref a,some<|.ref b,some<|.ref c1,some<|.ref d1,some<|.ref c2,some<|.ref d2,some<|.ref L2,u7]=[some<|.ref a,some<|.ref b,some<|.ref c1,some<|.ref d1,some<|.ref c2,some<|.ref d2,some<|.ref L,Ce]/\H2 L=none/\az H2 H8/\H8 L=some (.lst zs)/\aJ H8 zs (jK ms ps cs ls<|i+1):=fun u7 Cf=>by
   refine⟨L2,_,u7,rfl,Cd,s8,tZ,?_⟩;rw[nx];unfold ik;rw[Cf,zad];exact LJ
  have LK:(cs.map oV).length=cs.length:=zac ..;refine bZ<|t_<|cL<|aj rfl<|c4<|aj rfl<|.inl ⟨_,au.of<|s8 _ _ qN,⟨trivial,_,rfl,dC (fun a_=>?_)<|fun a_=>iF (cM<|done _ ?_) rfl⟩⟩
  rotate_left
  ·have:¬i<cs.length:=fun z=>a_ (zqT (by rw[LK];lia))
   rw[List.getElem?_eq_none (by lia)];rfl
  have hic:i<cs.length:=by have:=of_decide_eq_true a_;rw[LK] at this;lia
  have jB:i<ls.length:=by lia
  have ec:cs[i]?=some cs[i]:=zai hic;have el:ls[i]?=some ls[i]:=zai jB;generalize cs[i]=ci at ec;generalize ls[i]=li at el;have ac:(cs.map oV)[i]?=some (oV ci):=by rw[zaj,ec];rfl
  have al:(ls.map oV)[i]?=some (oV li):=by rw[zaj,el];rfl
  refine cL<|bD<|aj rfl<|aj rfl<|dN (s8 _ _ qN) (de ac)<|ax<|LG ⟨_,rfl,?_⟩;cases ci with
  |some c=>exact iF (cM<|done _ (by rw[ec];rfl)) (zqF (by intro z;cases z))
  |none=>
   refine iT ?_<|zqT rfl;refine eO<|lJ<|aj rfl ⟨.inl ⟨rfl,_,au.of tZ⟩,BQ<|cL<|bD<|aj rfl<|aj rfl<|dN (s8 _ _ hd2) (de al)<|ax<|LG ⟨_,rfl,?_⟩⟩;have lz8:(zs++[V.ref ta,V.ref tb]).length<=100000:=by rw[zqA,lz];show _+2<=100000;lia
   have more:∀(p:Pt) (t9:Addr) (H9:Hp),az H8 H9->H9 t9=some (.tup [.str p.word,p.val])->o_ cs[i]? ls[i]?=[p]->pY K .append (.ref L2) [.ref t9] H9 fun _ d0=>∃(L:Addr) (zs:List V) (Ce:Option V),[some<|.ref a,some<|.ref b,some<|.ref c1,some<|.ref d1,some<|.ref c2,some<|.ref d2,some<|.ref L2,some<|.int (i:Int)]=[some<|.ref a,some<|.ref b,some<|.ref c1,some<|.ref d1,some<|.ref c2,some<|.ref d2,some<|.ref L,Ce]/\H2 L=none/\az H2 d0/\d0 L=some (.lst zs)/\aJ d0 zs (jK ms ps cs ls<|i+1):=fun p t9 H9 s9 h9 Cf=>by
    have LL:=s9 _ _ tZ;refine⟨_,LL,dm (by lia),L2,_,_,rfl,Cd,fun z o e=>?_,aw,?_⟩
    ·rw[aC<|aK e Cd];exact s9 _ _ (s8 _ _ e)
    ·have tT:eh H9 (upd H9 L2<|.lst<|zs++[V.ref ta,V.ref tb]++[V.ref t9]):=fun y us e=>by rw[aC (fun z=>by rw[z,LL] at e;cases e)];exact e
     rw[nx];unfold ik;rw[Cf,<-zao];exact Paired.snoc ((LJ.mono<|bF s9).mono tT) ⟨t9,rfl,tT _ _ h9⟩
   cases li with
   |none=>
    refine iT ?_<|zqT rfl;refine gk<|ay<|ax<|ay<|ax<|aN ⟨dc,fun t9 f9=>?_⟩;exact more (.keep 1) t9 _ (sameNew f9) aw (by rw[ec,el];rfl)
   |some c=>
    refine iF ?_<|zqF (by intro z;cases z)
    refine gk<|ay<|ax<|ay<|bD<|aj rfl<|aj rfl<|dN (s8 _ _ hd2) (de al)<|aN ⟨dc,fun t9 f9=>?_⟩;exact more (.cut ⟨#[c]⟩) t9 _ (sameNew f9) aw (by rw[ec,el];rfl)
 ·rintro σ H4 ⟨L,zs,u7,rfl,fL,s4,hL,pz⟩;have e:(((sV ms).length:Nat):Int).toNat=ms.length:=by rw[zax];unfold sV;rw[zac]
  rw[e] at pz;have lg:=B_ ms ps cs ls ms.length;exact dq<|cv sZ rfl<|ay<|aj rfl<|aN ⟨L,zs,_,rfl,hL,pz,by lia,tp,fun c H' ws s' fc hc pw=>q c H' ws (dX.trans<|s4.trans s') ((dX.trans s4).free fc) hc pw⟩
end
theorem lR:∀(k:Nat) (xs ys:List At) (l:List Nat),xs.length+ys.length<=k->fit l xs->fit l ys->∃os ts,c6 xs ys os ts
 |k,.P c::xs,ys,l,hk,h1,h2=>by
  cases k with
  |zero=>simp at hk
  |succ k=>
   obtain⟨os,ts,h⟩:=lR k xs ys l (by simp at hk;lia) h1 h2
   exact⟨_,_,.p1 h⟩
 |k,[],ys,l,hk,h1,h2=>by
  cases ys with
  |nil=>exact⟨[],[],.nil⟩
  |cons y ys=>
   cases k with
   |zero=>simp at hk
   |succ k=>
    cases y with
    |P c=>
     obtain⟨os,ts,h⟩:=lR k [] ys l (by simp at hk⊢;lia) h1 h2
     exact⟨_,_,.p2 (fun d zs z=>by cases z) h⟩
    |K=>
     cases l with
     |nil=>exact absurd h2 (by simp[fit])
     |cons a l=>exact absurd h1 (by simp[fit])
    |C c=>
     cases l with
     |nil=>exact absurd h2 (by simp[fit])
     |cons a l=>exact absurd h1 (by simp[fit])
 |k,.K::xs,ys,l,hk,h1,h2=>by
  cases k with
  |zero=>simp at hk
  |succ k=>
   cases l with
   |nil=>exact absurd h1 (by simp[fit])
   |cons a l=>
    have d6:fit l xs:=by simpa[fit] using h1
    cases ys with
    |nil=>exact absurd h2 (by simp[fit])
    |cons y ys=>
     cases y with
     |P c=>
      obtain⟨os,ts,h⟩:=lR k (.K::xs) ys (a::l) (by simp at hk⊢;lia) h1 h2
      exact⟨_,_,.p2 (fun d zs z=>by cases z) h⟩
     |K=>
      obtain⟨os,ts,h⟩:=lR k xs ys l (by simp at hk;lia) d6 (by simpa[fit] using h2)
      exact⟨_,_,.kk h⟩
     |C c=>
      have oS:a=c/\fit l ys:=by simpa[fit] using h2
      obtain⟨os,ts,h⟩:=lR k xs ys l (by simp at hk;lia) d6 oS.2
      exact⟨_,_,.kc h⟩
 |k,.C c::xs,ys,l,hk,h1,h2=>by
  cases k with
  |zero=>simp at hk
  |succ k=>
   cases l with
   |nil=>exact absurd h1 (by simp[fit])
   |cons a l=>
    have d6:a=c/\fit l xs:=by simpa[fit] using h1
    cases ys with
    |nil=>exact absurd h2 (by simp[fit])
    |cons y ys=>
     cases y with
     |P e=>
      obtain⟨os,ts,h⟩:=lR k (.C c::xs) ys (a::l) (by simp at hk⊢;lia) h1 h2
      exact⟨_,_,.p2 (fun d zs z=>by cases z) h⟩
     |K=>
      obtain⟨os,ts,h⟩:=lR k xs ys l (by simp at hk;lia) d6.2 (by simpa[fit] using h2)
      exact⟨_,_,.ck h⟩
     |C e=>
      have oS:a=e/\fit l ys:=by simpa[fit] using h2
      obtain⟨os,ts,h⟩:=lR k xs ys l (by simp at hk;lia) d6.2 oS.2
      obtain⟨e1,_⟩:=d6;obtain⟨e2,_⟩:=oS;subst e1;subst e2;exact⟨_,_,.cc h⟩
theorem aag{xs ys os:List At}(h:c6 xs ys os ts):cG xs ys os ts:=by
 induction h with
 |nil=>exact .nil
 |p1 _ ih=>exact .p1 ih
 |p2 _ _ ih=>exact .p2 ih
 |kk _ ih=>exact .kk ih
 |kc _ ih=>exact .kc ih
 |ck _ ih=>exact .ck ih
 |cc _ ih=>exact .cc ih
def qW(one other:List Pt):List Pt:=ig (dy one other)
theorem aah{one:List Pt}{os:List At}(h2:∀p∈other,aZ p)(hp:c6 (av one) (av other) os ts)(ht:aA other<=100000):av (dy one other)=ts/\aA (dy one other)<=aA other/\∀p∈dy one other,eF p:=by
 have et:=Ls hp;have ex:av (dy one other)=ts:=by rw[BX,<-et]
 have tt:aA (dy one other)<=aA other:=by
  have hc:=Lu hp;rw[<-ex,lK,lK] at hc;exact hc
 refine⟨ex,tt,fun p lQ=>?_⟩;have len:∀s:Str,(p=.put s\/p=.cut s)->s.length<=aA (dy one other):=fun s hs=>by
  have:bY p<=aA (dy one other):=tm lQ;rcases hs with rfl|rfl<;>exact this
 have sg:∀s:Str,(p=.put s\/p=.cut s)->∀c∈s.cps.toList,SG.cps.contains c=true:=fun s hs c hc=>by
  rcases hs with rfl|rfl
  ·have h1:At.P c∈av (dy one other):=xD lQ (zbq hc);rw[ex] at h1;exact xE h2<|.inl<|xC hp _ (by intro z;cases z) h1
  ·have h1:At.C c∈av (dy one other):=xD lQ (zbq hc);rw[ex] at h1;exact xE h2<|.inr<|xC hp _ (by intro z;cases z) h1
 cases p with
 |keep n=>exact BZ _ _ _ _ n lQ
 |put s=>have:=len s (.inl rfl);exact⟨⟨by lia,sg s<|.inl rfl⟩,by lia⟩
 |cut s=>have:=len s (.inr rfl);exact⟨⟨by lia,sg s<|.inr rfl⟩,by lia⟩
theorem LM{one:List Pt}{m n:List Nat}(h1:gm one l m)(h2:gm other l n)(ht:aA other<=100000):(∃r,gm (qW one other) m r)/\aA (qW one other)<=aA other/\aA (dy one other)<=aA other:=by
 obtain⟨f1,f2⟩:=h1.run.fits;obtain⟨f3,f4⟩:=h2.run.fits;obtain⟨os,ts,hp⟩:=lR _ _ _ l (zqR _) f1 f3;obtain⟨ex,tt,raw⟩:=aah h2.ok hp ht;obtain⟨g1,_,_⟩:=(aag hp).fits l f1 f3;rw[f2,<-ex] at g1;obtain⟨k1,k2,_⟩:=wQ _ raw (by lia)
 refine⟨⟨_,k2,k1,AW<|tE _ m (fun p hp=>Ka<|raw p hp) g1⟩,by unfold qW;rw[A4 _ raw];exact tt,tt⟩
structure Taken (tx:List (List Nat)) (tk:List (Nat×List Pt)):Prop where
 len:tx.length=tk.length+1
 chg:∀i h ps l r,tk[i]?=some (h,ps)->tx[i]?=some l->tx[i+1]?=some r->gm ps l r/\aA ps<=320
def xI(cs:List (List Pt))(c:List Pt):List Pt:=cs.foldl (fun c one=>qW one c) c
theorem aai(cs:List (List Pt))(one c:List Pt):xI (cs++[one]) c=qW one (xI cs c):=by unfold xI;rw[List.foldl_append];rfl
def pj(tk:List (Nat×List Pt))(at' j:Nat)(c:List Pt):List Pt:=xI (((tk.drop at').take j).map (·.2)) c
theorem xJ{tk:List (Nat×List Pt)}{c:List Pt}{h:Nat}(e:tk[at'+j]?=some (h,ps)):pj tk at' (j+1) c=qW ps (pj tk at' j c):=by
 have e':(tk.drop at')[j]?=some (h,ps):=by rw[zbL];exact e
 unfold pj;rw[xx e',zak];exact aai _ _ _
theorem ui{tx:List (List Nat)}{tk:List (Nat×List Pt)}(T:Taken tx tk){at':Nat}{c:List Pt}{l n:List Nat}(hl:tx[at']?=some l)(hc:gm c l n)(ht:aA c<=320):∀j,at'+j<=tk.length->∃m r,tx[at'+j]?=some m/\gm (pj tk at' j c) m r/\aA (pj tk at' j c)<=320
 | 0,_=>⟨l,n,hl,hc,ht⟩
 |j+1,hj=>by
  obtain⟨m,r,h1,h2,h3⟩:=ui T hl hc ht j (by lia)
  have hk:at'+j<tk.length:=by lia
  have e:tk[at'+j]?=some tk[at'+j]:=zai hk;have hx:at'+j+1<tx.length:=by rw[T.len];lia
  have ex:tx[at'+j+1]?=some tx[at'+j+1]:=zai hx;obtain⟨h0,p0⟩:=T.chg _ _ _ _ _ e h1 ex;obtain⟨⟨r',c'⟩,t',_⟩:=LM h0 h2 (by lia)
  refine⟨_,r',ex,?_,?_⟩
  ·rw[xJ e];exact c'
  ·rw[xJ e];lia
theorem Taken.snoc{tx:List (List Nat)}{tk:List (Nat×List Pt)}(T:Taken tx tk){h:Nat}(hl:tx[tk.length]?=some l)(hc:gm ps l r)(ht:aA ps<=320):Taken (tx++[r]) (tk++[(h,ps)]):=by
 refine⟨by rw[zqA,zqA,T.len];rfl,fun i h' ib l' r' e1 e2 e3=>?_⟩
 have hi:i<tk.length+1:=by have:=(zap.mp e1).1;rw[zqA] at this;exact this
 by_cases a_:i<tk.length
 ·rw[zba a_] at e1;rw[zba (by rw[T.len];lia)] at e2
  rw[zba (by rw[T.len];lia)] at e3
  exact T.chg i h' ib l' r' e1 e2 e3
 ·have gT:i=tk.length:=by lia
  subst gT;rw[zaS<|zqR _,zaY] at e1;rw[zba (by rw[T.len];lia),hl] at e2
  rw[zaS (by rw[T.len];lia),T.len,zaY] at e3
  cases e1;cases e2;cases e3;exact⟨hc,ht⟩
end L2.kb
namespace L2.B
open PySem PySem.Spec PyProof.Rows
end L2.B
namespace L2.N
open PySem PySem.Spec L2.B
section
variable {Γ:bo}{D:Ends}{σ:St}{H:Hp}{r:List RS}{Q:VK}{QT:Bool->Hp->Prop}
theorem dt{b:RE}(h:ae Γ a σ H fun x H1=>ae Γ b σ H1 fun y H2=>∃d v,x=.ref d/\fo H2 d y (some v)/\Q v H2):ae Γ (.bQ a b) σ H Q:=h
end
section
variable {K:Frag}{M:List Addr}{C:Addr}{H H':Hp}{p dx d:Addr}{n g:Nat}{kvs:List (Key×V)}{es:List Ent}
end
section
variable {K:Frag}{M:List Addr}{C:Addr}{H H':Hp}{p dx d:Addr}{n g:Nat}{kvs:List (Key×V)}{es:List Ent}
end
end L2.N
namespace L2.N
open PySem PySem.Spec PyProof.Rows L2.B
end L2.N
namespace L2.B
open PySem PySem.Spec PyProof.Rows
end L2.B
namespace L2.N
open PySem PySem.Spec PyProof.Rows L2.B
end L2.N
namespace L2.N
open PySem PySem.Spec L2.B
section
variable {K:Frag}{CP C CE CD:Addr}
end
theorem Cg(h:Run l ps r):b_ ps=l.length:=by
 induction h with
 |nil=>rfl
 | @keep a l r k ps e _ ih=>show k.toNat+b_ ps=_;rw[ih,zqA];omega
 |put _ ih=>exact ih
 | @cut s l r ps _ ih=>show s.length+b_ ps=_;rw[ih,zqA,len_list]
abbrev nV(ns:List Nat):List V:=ns.map fun k=>V.int (k:Nat)
section
variable {K:Frag}{M:List Addr}{C:Addr}{H H':Hp}{p dx d rw n:Nat}{rs:List Sd}
end
end L2.N
namespace L2.kb
open PySem PySem.Spec L2.B L2.N
abbrev f4(x:Str)(se ch mk:Addr):List (Str×V):=[("signs",.str x),("serials",.ref se),("changes",.ref ch),("makers",.ref mk)]
theorem LN{x:Str}{se ch:Addr}:(f4 x se ch mk).lookup ("signs":Str)=some (.str x):=oU
theorem uj{x:Str}{se ch:Addr}:(f4 x se ch mk).lookup ("serials":Str)=some (.ref se):=(gj (by decide+kernel)).trans oU
theorem xM{x:Str}{se ch:Addr}:(f4 x se ch mk).lookup ("changes":Str)=some (.ref ch):=(gj (by decide+kernel)).trans ((gj (by decide+kernel)).trans oU)
theorem LO{x:Str}{se ch:Addr}:(f4 x se ch mk).lookup ("makers":Str)=some (.ref mk):=(gj (by decide+kernel)).trans ((gj (by decide+kernel)).trans<|(gj (by decide+kernel)).trans oU)
theorem e_{x:Str}{se ch:Addr}{m:Str}(h:((¬m="signs"/\ ¬m="serials")/\ ¬m="changes")/\ ¬m="makers":=by decide+kernel):(f4 x se ch mk).lookup m=none:=
 (gj h.1.1.1).trans ((gj h.1.1.2).trans<|(gj h.1.2).trans<|(gj h.2).trans rfl)
theorem aaj{x:Str}{se ch:Addr}:aU "makers" (.ref mk) (aU "changes" (.ref ch)<|aU "serials" (.ref se)<|aU "signs" (.str x) [])=f4 x se ch mk:=by
 have e:∀(f:Str) (v:V),aU f v []=[(f,v)]:=fun _ _=>rfl
 repeat (first|rw[e]|rw[oW (by decide+kernel)])
theorem aak{x:Str}{se ch:Addr}:aU "signs" (.str y) (f4 x se ch mk)=f4 y se ch mk:=Bg
def m9(M:List Addr)(H:Hp)(v:V)(ps:List Pt):Prop:= ∃a xs,v=.ref a/\H a=some (.lst xs)/\aJ H xs ps/\a∉M
def aY(M:List Addr)(H H':Hp):Prop:= ∀b o,H b=some o->b∉M->H' b=some o
structure c_ (M:List Addr) (C:Addr) (H:Hp) (p dx se ch mk:Addr) (x:Str) (ak:List Nat) (tk:List (Nat×List Pt)):Prop where
 ob:H p=some (.ins C dx<|f4 x se ch mk)
 cA:H se=some (.lst<|nV ak)
 bu:∃bH,H ch=some (.lst bH)/\Paired (m9 M H) bH (tk.map (·.2))
 gh:H mk=some (.lst (nV (tk.map (·.1))))
 nd:se≠ch/\se≠mk/\ch≠mk
 mm:se∈M/\ch∈M/\mk∈M
section
variable {K:Frag}{M:List Addr}{C:Addr}{H H':Hp}{p dx se ch mk:Addr}{x:Str}{ak:List Nat}{tk:List (Nat×List Pt)}
theorem m9.same(h:m9 M H v ps)(s:az H H'):m9 M H' v ps:=by
 obtain⟨a,xs,e,h1,h2,h3⟩:=h;exact⟨a,xs,e,s _ _ h1,h2.mono<|bF s,h3⟩
theorem c_.same(S:c_ M C H p dx se ch mk x ak tk)(s:az H H'):c_ M C H' p dx se ch mk x ak tk:=by
 obtain⟨bH,h1,h2⟩:=S.bu;exact⟨s _ _ S.ob,s _ _ S.cA,⟨bH,s _ _ h1,Paired.cH h2 fun _ _ z=>z.same s⟩,s _ _ S.gh,S.nd,S.mm⟩
theorem aal(S:c_ M C H p dx se ch mk x ak tk){k m:Nat}(h:tk[k]?=some (m,ps)):∃bH v,H ch=some (.lst bH)/\bH[k]?=some v/\m9 M H v ps:=by
 obtain⟨bH,h1,h2⟩:=S.bu;have hl:=Paired.length h2;rw[zac] at hl;have hk:=(zap.mp h).1;have e:bH[k]?=some bH[k]:=zai (by lia)
 obtain⟨y,hy,r⟩:=km h2 e;rw[zaj,h] at hy;cases hy;exact⟨bH,_,h1,e,r⟩
def Ci:Sp:=fun vs H Q E=>∃a xs ps,vs=[.ref a]/\H a=some (.lst xs)/\aJ H xs ps/\(∀p∈ps,aZ p)/\chainOk "" ps=true/\∀H',az H H'->Q (.bl true) H'
theorem aam{CB:Addr}:c9 (Ci) (fun E=>aM K [("need_change",wx)] [("BadChange",.ref CB)] (E:=E)) HL iE:=by
 intro vs H Q E h;obtain⟨a,xs,ps,rfl,ha,pv,ok,ch,q⟩:=h;exact⟨CB,rfl,eO<|cv wx rfl<|ay<|aj rfl<|aN ⟨a,xs,ps,rfl,ha,pv,ok,ch,fun H' s=>dq<|ax<|q H' s⟩⟩
def Cj(C:Addr):Sp:=fun vs H Q E=>∃(p dx:Addr) (x:Str) (h:Nat),vs=[.ref p,.str x,.int (h:Nat)]/\H p=some (.ins C dx [])/\good x/\1<=h/\h<=8/\
 ∀se ch mk H',H se=none->H ch=none->H mk=none->c_ [se,ch,mk] C H' p dx se ch mk x (List.replicate h 0) []->(∀b o,H b=some o->b≠p->H' b=some o)->Q .aF H'
theorem aan{CN:Addr}(T:kd K C):c9 (Cj C) (fun E=>aM K [("need_text",tq),("is_between",lP)] [("MOST_HANDS",.int 8)] (et:=[("NoHand",CN)]) (E:=E)) Ic Ib:=by
 intro vs H Q E h;obtain⟨p,dx,x,h,rfl,hp,gx,h1,h8,k⟩:=h;refine eO<|cv tq rfl<|ay<|aj rfl<|aN ⟨x,rfl,gx,?_⟩;refine bZ<|dH<|jf lP rfl<|ay<|aj rfl<|ay<|ax<|ay<|Yz<|aN ⟨_,_,_,rfl,by lia,by show(h:Int)<=8;lia,fH<|iF (cM ?_) rfl⟩
 refine uc<|aj rfl<|aj rfl ⟨p,C,dx,[],rfl,hp,T.cl,T.wq,(by show 0<1000;decide),?_⟩
 have fF:upd H p (.ins C dx<|aU "signs" (.str x) []) p=some (.ins C dx<|aU "signs" (.str x) []):=aw;have b1:aR p H (upd H p<|.ins C dx<|aU "signs" (.str x) []):=aR.upd;have hpn:H p≠none:=by rw[hp];intro z;cases z
 generalize upd H p (.ins C dx<|aU "signs" (.str x) [])=H1 at fF b1⊢;have fr:∀{z:Addr},H1 z=none->H z=none:=fun {z} hz=>by
  cases e:H z with
  |none=>rfl
  |some o=>
   by_cases zp:z=p
   ·rw[zp,fF] at hz;cases hz
   ·rw[b1 _ _ e zp] at hz;cases hz
 refine uc ?_;refine⟨_,rfl,_,rfl,by lia,by lia,BM (n:=h) (by lia) (fun i ys H2=>H2=H1/\ys=List.replicate i (V.int 0)) ⟨rfl,rfl⟩ ?_ ?_⟩
 ·rintro i ys H2 hi s2 ⟨rfl,rfl⟩ Q' kk;refine ax<|kk _ _ (az.refl _) ⟨rfl,?_⟩;rw[List.replicate_succ']
 rintro ys H2 se s2 ⟨rfl,rfl⟩ m_;have t2:=sameNew (o:=.lst (List.replicate h<|V.int 0)) m_;have cA:upd H2 se (.lst<|List.replicate h<|V.int 0) se=some (.lst<|nV<|List.replicate h 0):=by rw[aw];unfold nV;rw[zbr];rfl
 have jo:=t2 _ _ fF;have aao:=fr m_;have ng:se≠p:=fun z=>by rw[z,fF] at m_;cases m_
 have k2:∀b o,H b=some o->b≠p->upd H2 se (.lst<|List.replicate h<|V.int 0) b=some o:=fun b o e nb=>t2 _ _ (b1 _ _ e nb);generalize upd H2 se (.lst<|List.replicate h<|V.int 0)=H3 at t2 cA jo k2⊢;refine aj rfl ⟨p,C,dx,_,rfl,jo,T.cl,T.qr,(by show 1<1000;decide),?_⟩
 have Ck:upd H3 p (.ins C dx<|aU "serials" (.ref se)<|aU "signs" (.str x) []) p=some (.ins C dx<|aU "serials" (.ref se)<|aU "signs" (.str x) []):=aw;have b3:aR p H3 (upd H3 p<|.ins C dx<|aU "serials" (.ref se)<|aU "signs" (.str x) []):=aR.upd;generalize upd H3 p (.ins C dx<|aU "serials" (.ref se)<|aU "signs" (.str x) [])=H4 at Ck b3⊢;refine uc<|e7<|aN ⟨zqZ _,fun ch ko=>?_⟩;have iu:ch≠p:=fun z=>by rw[z,Ck] at ko;cases ko
 have nsc:se≠ch:=aK (b3 _ _ cA ng) ko;have aaq:H ch=none:=by
  cases e:H ch with
  |none=>rfl
  |some o=>rw[b3 _ _ (k2 _ _ e iu) iu] at ko;cases ko
 refine aj rfl ⟨p,C,dx,_,rfl,(by rw[aC<|Ne.symm iu];exact Ck),T.cl,T.sP,(by show 2<1000;decide),?_⟩
 have uf:upd (upd H4 ch<|.lst []) p (.ins C dx<|aU "changes" (.ref ch)<|aU "serials" (.ref se)<|aU "signs" (.str x) []) p=some (.ins C dx<|aU "changes" (.ref ch)<|aU "serials" (.ref se)<|aU "signs" (.str x) []):=aw;have b5:∀b o,H4 b=some o->b≠p->upd (upd H4 ch<|.lst []) p (.ins C dx<|aU "changes" (.ref ch)<|aU "serials" (.ref se)<|aU "signs" (.str x) []) b=some o:=fun b o e nb=>by rw[aC nb,aC<|aK e ko];exact e
 have qX:upd (upd H4 ch<|.lst []) p (.ins C dx<|aU "changes" (.ref ch)<|aU "serials" (.ref se)<|aU "signs" (.str x) []) ch=some (.lst []):=by rw[aC iu];exact aw
 generalize upd (upd H4 ch<|.lst []) p (.ins C dx<|aU "changes" (.ref ch)<|aU "serials" (.ref se)<|aU "signs" (.str x) [])=H5 at uf b5 qX⊢;refine uc<|e7<|aN ⟨zqZ _,fun mk pd=>?_⟩;have uk:mk≠p:=fun z=>by rw[z,uf] at pd;cases pd
 have ncm:ch≠mk:=aK qX pd;have nsm:se≠mk:=aK (b5 _ _ (b3 _ _ cA ng) ng) pd;have aat:H mk=none:=by
  cases e:H mk with
  |none=>rfl
  |some o=>rw[b5 _ _ (b3 _ _ (k2 _ _ e uk) uk) uk] at pd;cases pd
 refine aj rfl ⟨p,C,dx,_,rfl,(by rw[aC<|Ne.symm uk];exact uf),T.cl,T.An,(by show 3<1000;decide),?_⟩
 have u:∀{z:Addr}{o:HO},H5 z=some o->z≠p->upd (upd H5 mk<|.lst []) p (.ins C dx<|aU "makers" (.ref mk)<|aU "changes" (.ref ch)<|aU "serials" (.ref se)<|aU "signs" (.str x) []) z=some o:=fun e nz=>by rw[aC nz,aC<|aK e pd];exact e
 refine k se ch mk _ aao aaq aat ⟨?_,u (b5 _ _ (b3 _ _ cA ng) ng) ng,⟨[],u qX iu,.nil⟩,?_,⟨nsc,nsm,ncm⟩,⟨.head _,.tail _<|.head _,.tail _<|.tail _<|.head _⟩⟩ fun b o e nb=>u (b5 _ _ (b3 _ _ (k2 _ _ e nb) nb) nb) nb
 ·rw[aw];exact congrArg (fun l=>some<|HO.ins C dx l) aaj
 ·rw[aC uk];exact aw
def Cm(C:Addr):Sp:=fun vs H Q E=>∃(M:List Addr) (p dx se ch mk:Addr) (x:Str) (ak:List Nat) (tk:List (Nat×List Pt)),vs=[.ref p]/\c_ M C H p dx se ch mk x ak tk/\Q (.str x) H
theorem aau(T:kd K C):c9 (Cm C) (fun E=>aM K [] [] (E:=E)) Ig mz:=by
 intro vs H Q E h;obtain⟨M,p,dx,se,ch,mk,x,ak,tk,rfl,S,q⟩:=h;exact dq<|iK<|aj rfl ⟨p,C,dx,_,_,rfl,S.ob,T.cl,T.wq,LN,q⟩
def jL(C:Addr):Sp:=fun vs H Q E=>∃(M:List Addr) (p dx se ch mk:Addr) (x:Str) (ak:List Nat) (tk:List (Nat×List Pt)),vs=[.ref p]/\c_ M C H p dx se ch mk x ak tk/\Q (.int (tk.length:Nat)) H
theorem aav(T:kd K C):c9 (jL C) (fun E=>aM K [] [] (E:=E)) Ii mz:=by
 intro vs H Q E h;obtain⟨M,p,dx,se,ch,mk,x,ak,tk,rfl,S,q⟩:=h;obtain⟨bH,h1,h2⟩:=S.bu;have hl:=Paired.length h2;rw[zac] at hl;refine dq<|c4<|iK<|aj rfl ⟨p,C,dx,_,_,rfl,S.ob,T.cl,T.sP,xM,.inl ⟨_,au.of h1,?_⟩⟩;rw[hl];exact q
def um(C:Addr):Sp:=fun vs H Q E=>∃(M:List Addr) (p dx se ch mk:Addr) (x:Str) (ak:List Nat) (tk:List (Nat×List Pt)) (k m:Nat) (ps:List Pt),vs=[.ref p,.int ((k+1:Nat):Int)]/\c_ M C H p dx se ch mk x ak tk/\tk[k]?=some (m,ps)/\
 ∀l H' xs,az H H'->H l=none->H' l=some (.lst xs)->aJ H' xs ps->Q (.ref l) H'
theorem aaw{CL:Addr}(T:kd K C):c9 (um C) (fun E=>aM K [("is_between",lP)] [] [] [("many",C,jL C)] (et:=[("NoLetter",CL)]) (E:=E)) Il Ik:=by
 intro vs H Q E h;obtain⟨M,p,dx,se,ch,mk,x,ak,tk,k,m,ps,rfl,S,hk,q⟩:=h;have hkl:=(zap.mp hk).1;obtain⟨bH,v,h1,h2,a,xs,rfl,ha,pv,_⟩:=aal S hk;refine bZ<|dH<|jf lP rfl<|ay<|aj rfl<|ay<|ax<|ay<|mW C (jL C) rfl<|aj rfl ⟨p,dx,_,rfl,S.ob,e_,M,p,dx,se,ch,mk,x,ak,tk,rfl,S,aN ⟨_,_,_,rfl,by lia,by lia,fH<|iF (cM ?_) rfl⟩⟩
 refine dq<|xF<|bD<|iK<|aj rfl ⟨p,C,dx,_,_,rfl,S.ob,T.cl,T.sP,xM,br<|aj rfl<|ax<|o7 ?_⟩;rw[show(((k+1:Nat):Int) - 1)=((k:Nat):Int) by lia]
 refine dN h1 (de h2) ⟨_,.inl<|au.of ha,fun l fl=>q l _ xs (sameNew fl) fl aw<|pv.mono<|bF<|sameNew fl⟩
def iN(H:Hp)(t:Addr)(h n m:Nat)(ps:List Pt)(l:Addr):Prop:=H t=some (.tup [.str "took",.int (h:Nat),.int (n:Nat),.int (m:Nat),.ref l])/\∃xs,H l=some (.lst xs)/\aJ H xs ps
def uo(C:Addr):Sp:=fun vs H Q E=>∃(M:List Addr) (p dx se ch mk:Addr) (x:Str) (ak:List Nat) (tk:List (Nat×List Pt)) (h k m:Nat) (ps:List Pt),vs=[.ref p,.int (h:Nat),.int ((k+1:Nat):Int)]/\c_ M C H p dx se ch mk x ak tk/\tk[k]?=some (m,ps)/\
 ∀t l H',az H H'->H t=none->H l=none->iN H' t h (k+1) m ps l->Q (.ref t) H'
theorem aax(T:kd K C):c9 (uo C) (fun E=>aM K [] [] [] [("change",C,um C)] (E:=E)) Iq wt:=by
 intro vs H Q E h;obtain⟨M,p,dx,se,ch,mk,x,ak,tk,h,k,m,ps,rfl,S,hk,q⟩:=h;have am:(nV (tk.map (·.1)))[k]?=some (.int (m:Nat)):=by unfold nV;rw[zaj,zaj,hk];rfl
 refine dq<|gk<|ay<|ax<|ay<|aj rfl<|ay<|aj rfl<|ay<|bD<|iK<|aj rfl ⟨p,C,dx,_,_,rfl,S.ob,T.cl,T.An,LO,br<|aj rfl<|ax<|o7 ?_⟩;rw[show(((k+1:Nat):Int) - 1)=((k:Nat):Int) by lia]
 refine dN S.gh (de am)<|ay<|mX C (um C) rfl<|aj rfl ⟨p,dx,_,rfl,S.ob,e_,aj rfl ⟨M,p,dx,se,ch,mk,x,ak,tk,k,m,ps,rfl,S,hk,fun l H1 xs s1 fl hl pv=>aN ⟨yi,fun t ft=>?_⟩⟩⟩;have s2:=sameNew (o:=.tup [.str "took",.int (h:Nat),.int ((k+1:Nat):Int),.int (m:Nat),.ref l]) ft;exact q t l _ (s1.trans s2) (s1.free ft) fl ⟨aw,xs,s2 _ _ hl,pv.mono<|bF s2⟩
def uq(C:Addr):Sp:=fun vs H Q E=>∃(M:List Addr) (p dx se ch mk:Addr) (x:Str) (ak:List Nat) (tk:List (Nat×List Pt)) (h n:Nat),vs=[.ref p,.int (h:Nat),.int (n:Nat)]/\c_ M C H p dx se ch mk x ak tk/\h<ak.length/\n<=tk.length/\Q (.bl true) H
theorem aay(T:kd K C):c9 (uq C) (fun E=>aM K [("is_between",lP)] [] [] [("many",C,jL C)] (E:=E)) IB wt:=by
 intro vs H Q E h;obtain⟨M,p,dx,se,ch,mk,x,ak,tk,h,n,rfl,S,hh,hn,q⟩:=h;have ls:(nV ak).length=ak.length:=zac ..;refine dq<|qQ<|cv lP rfl<|ay<|aj rfl<|ay<|ax<|ay<|br<|c4<|iK<|aj rfl ⟨p,C,dx,_,_,rfl,S.ob,T.cl,T.qr,uj,.inl ⟨_,au.of S.cA,ax<|o7<|aN ⟨_,_,_,rfl,by lia,by rw[ls];lia,_,rfl,iT ?_ rfl⟩⟩⟩
 exact BR<|cv lP rfl<|ay<|aj rfl<|ay<|ax<|ay<|mW C (jL C) rfl<|aj rfl ⟨p,dx,_,rfl,S.ob,e_,M,p,dx,se,ch,mk,x,ak,tk,rfl,S,aN ⟨_,_,_,rfl,by lia,by lia,q⟩⟩
end
section
variable {K:Frag}{M:List Addr}{C:Addr}{H H':Hp}{p dx se ch mk:Addr}{x:Str}{ak:List Nat}{tk:List (Nat×List Pt)}
theorem lS{QT:Bool->Hp->Prop}{b:RE}{r:List RE}(h:bg Γ a σ H fun c H1=>if c=true then QT true H1 else bg Γ (.or (b::r)) σ H1 QT):bg Γ (.or (a::b::r)) σ H QT:=h
theorem qY{QT:Bool->Hp->Prop}(h:bg Γ a σ H QT):bg Γ (.or [a]) σ H QT:=h
theorem xO{QT:Bool->Hp->Prop}{m:Str}(h:ae Γ (.bj j m o as) σ H fun x H1=>jt Γ.K x H1 fun b=>QT b H1):bg Γ (.bj j m o as) σ H QT:=h
theorem aaz{QT:Bool->Hp->Prop}(h:ae Γ (.call j as) σ H fun x H1=>jt Γ.K x H1 fun b=>QT b H1):bg Γ (.call j as) σ H QT:=h
theorem xQ{a:Addr}{k:Nat->Prop}(ha:H a=some (.tup xs))(q:k xs.length):pV K (.ref a) H k:=.inr ⟨xs,aD.of ha,q⟩
theorem LP{w:Str}{lt:Addr}(hf:Γ.fs j=oG Γ.K)(e:σ[i]?=some (some<|.ref lt))(hl:H lt=some (.tup (.str w::vs)))(q:∀H',az H H'->Q (.bl true) H'):ae Γ (.call j [(.ix (.v i)<|.c<|.int 0),(.tup [(.c<|.str w)])]) σ H Q:=by
 refine cv (oG Γ.K) hf<|ay<|bD<|aj e<|ax<|dJ hl (show fZ (V.str w::vs) ((0:Nat):Int)=_ from de rfl)<|ay<|gk<|ay<|ax<|aN ⟨ji,fun t ft=>aN ⟨w,t,_,rfl,aD.of aw,rfl,?_⟩⟩
 have e:f_ (.str w) [.str w]=true:=by show((w==w)||false)=true;rw[B1];rfl
 rw[e];exact q _ (sameNew ft)
abbrev qZ(h at':Nat):List V:=[.str "again",.int (h:Nat),.int (at':Nat)]
abbrev q8(h n at':Nat)(b:Addr):List V:=[.str "ask",.int (h:Nat),.int (n:Nat),.int (at':Nat),.ref b]
def xR(C:Addr):Sp:=fun vs H Q E=>∃(M:List Addr) (p dx se ch mk:Addr) (x:Str) (ak:List Nat) (tk:List (Nat×List Pt)) (lt:Addr),vs=[.ref p,.ref lt]/\c_ M C H p dx se ch mk x ak tk/\
 ((∃h at',H lt=some (.tup<|qZ h at')/\h<ak.length/\at'<=tk.length/\∀H',az H H'->Q (.bl true) H')\/(∃us,H lt=some (.tup us)/\us.length=5/\Q (.bl false) H))
theorem aaA:c9 (xR C) (fun E=>aM K [("is_word",oG K)] [] [] [("is_known",C,uq C)] (E:=E)) Iz qt:=by
 intro vs H Q E h;obtain⟨M,p,dx,se,ch,mk,x,ak,tk,lt,rfl,S,⟨h,at',hl,hh,ha,q⟩|⟨us,hl,hu,q⟩⟩:=h
 ·refine dq (qQ<|oX<|c4<|aj rfl<|xQ hl<|ax<|kl ⟨_,rfl,iT ?_ rfl⟩);refine qQ<|LP rfl rfl hl fun H1 s1=>⟨_,rfl,iT (BR ?_) rfl⟩;have S1:=S.same s1;have dD:=s1 _ _ hl;exact xv C (uq C) rfl<|aj rfl ⟨p,dx,_,rfl,S1.ob,e_,bD<|aj rfl<|ax<|dJ dD rfl<|bD<|aj rfl<|ax<|dJ dD rfl ⟨M,p,dx,se,ch,mk,x,ak,tk,h,at',rfl,S1,hh,ha,q _ s1⟩⟩
 ·refine dq (qQ<|oX<|c4<|aj rfl<|xQ hl<|ax<|kl ⟨_,rfl,iF q ?_⟩);rw[hu];rfl
def Cn(C:Addr):Sp:=fun vs H Q E=>∃(M:List Addr) (p dx se ch mk:Addr) (x:Str) (ak:List Nat) (tk:List (Nat×List Pt)) (lt b:Addr) (h n at':Nat) (ys:List V) (c:List Pt),vs=[.ref p,.ref lt]/\c_ M C H p dx se ch mk x ak tk/\H lt=some (.tup<|q8 h n at' b)/\h<ak.length/\at'<=tk.length/\1<=n/\H b=some (.lst ys)/\aJ H ys c/\(∀p∈c,aZ p)/\chainOk "" c=true/\∀H',az H H'->Q (.bl true) H'
theorem aaB:c9 (Cn C) (fun E=>aM K [("is_word",oG K),("is_whole",ja),("is_change",Ci)] [] [] [("is_known",C,uq C)] (E:=E)) Iv qt:=by
 intro vs H Q E h;obtain⟨M,p,dx,se,ch,mk,x,ak,tk,lt,b,h,n,at',ys,c,rfl,S,hl,hh,ha,hn,hb,pv,ok,cc,q⟩:=h;refine bZ<|lS<|cL<|c4<|aj rfl<|xQ hl<|ax<|ub ⟨_,rfl,iF ?_ rfl⟩;refine lS<|dH<|aaz<|LP rfl rfl hl fun H1 s1=>fH (iF ?_ rfl);have S1:=S.same s1;have dD:=s1 _ _ hl;refine qY<|dH<|xO<|xv C (uq C) rfl<|aj rfl ⟨p,dx,_,rfl,S1.ob,e_,bD<|aj rfl<|ax<|dJ dD rfl<|bD<|aj rfl<|ax<|dJ dD rfl ⟨M,p,dx,se,ch,mk,x,ak,tk,h,at',rfl,S1,hh,ha,fH<|iF (cM ?_) rfl⟩⟩;refine dq<|qQ<|cv ja rfl<|ay<|bD<|aj rfl<|ax<|dJ dD rfl<|aN ⟨_,rfl,_,rfl,iT ?_ rfl⟩;refine qQ<|oX<|bD<|aj rfl<|ax<|dJ dD rfl<|ax ⟨trivial,_,rfl,iT ?_<|zqT (by lia)⟩
 exact BR<|cv Ci rfl<|ay<|bD<|aj rfl<|ax<|dJ dD rfl<|aN ⟨b,ys,c,rfl,s1 _ _ hb,pv.mono<|bF s1,ok,cc,fun H2 s2=>q _<|s1.trans s2⟩
end
abbrev Let:=Nat×Nat×Nat×List Pt
def da(H0 H:Hp)(v:V)(e:Let×Addr):Prop:= ∃t,v=.ref t/\iN H t e.1.1 e.1.2.1 e.1.2.2.1 e.1.2.2.2 e.2/\H0 t=none/\H0 e.2=none
theorem iN.same{t l:Addr}{h m:Nat}(x:iN H t h n m ps l)(s:az H H'):iN H' t h n m ps l:=by
 obtain⟨h1,xs,h2,h3⟩:=x;exact⟨s _ _ h1,xs,s _ _ h2,h3.mono<|bF s⟩
theorem da.same{e:Let×Addr}(x:da H0 H v e)(s:az H H'):da H0 H' v e:=by
 obtain⟨t,e1,h1,h2⟩:=x;exact⟨t,e1,h1.same s,h2⟩
theorem da.some{H0 H:Hp}:∀{zs:List V}{ah:List (Let×Addr)},Paired (da H0 H) zs ah->∀l∈ah.map (·.2),∃o,H l=some o
 |_,_,.nil,l,h=>by cases h
 |_,_,.cons a r,l,h=>by
  rcases zaa.mp h with h|h
  ·obtain⟨t,_,⟨_,xs,hx,_⟩,_⟩:=a;rw[h];exact⟨_,hx⟩
  ·exact da.some r l h
theorem da.none{H0 H:Hp}:∀{zs:List V}{ah:List (Let×Addr)},Paired (da H0 H) zs ah->∀l∈ah.map (·.2),H0 l=Option.none
 |_,_,.nil,l,h=>by cases h
 |_,_,.cons a r,l,h=>by
  rcases zaa.mp h with h|h
  ·obtain⟨t,_,_,_,hn⟩:=a;rw[h];exact hn
  ·exact da.none r l h
section
variable {K:Frag}{M:List Addr}{C:Addr}{H H':Hp}{p dx se ch mk:Addr}{x:Str}{ak:List Nat}{tk:List (Nat×List Pt)}
theorem LQ{QQ:List V->Hp->Addr->Prop}{te:TE}{lo:Int}(lets:List Let)(hn:lets.length=n)(hl:n<=1000)
  (step:∀i e H2,lets[i]?=some e->az H H2->∀Q':VK,(∀t l H3,az H2 H3->H2 t=none->H2 l=none->iN H3 t e.1 e.2.1 e.2.2.1 e.2.2.2 l->Q' (.ref t) H3)->te (some (.int<|lo+(i:Nat))::bX σ fv) H2 Q')
  (fin:∀zs ah H2 q,az H H2->ah.map (·.1)=lets->Paired (da H H2) zs ah->(ah.map (·.2)).Nodup->H2 q=none->QQ zs H2 q):∃W:Nat->Nat->List V->Hp->Prop,(∃m,W 0 m [] H)/\∀i m ys H2,W i m ys H2->
   ((cU lo n).stop i H2/\∀p,H2 p=none->QQ ys H2 p)\/
   ((cU lo n).go i H2/\∀x H3,(cU lo n).eQ i H2 x H3->iB K none x H3 fun zs=>jr none (zs.map some++bX σ fv) H3 fun b H5=>
    if b=true then te (zs.map some++bX σ fv) H5 fun y H6=>ys.length<sizeLine/\∃m',m'<m/\W (i+1) m' (ys++[y]) H6 else ∃m',m'<m/\W (i+1) m' ys H5):=by
 refine BM (by lia) (fun i ys H2=>∃ah:List (Let×Addr),ah.map (·.1)=lets.take i/\Paired (da H H2) ys ah/\(ah.map (·.2)).Nodup) ⟨[],rfl,.nil,zbC⟩ ?_ ?_
 ·rintro i ys H2 hi s2 ⟨ah,e1,e2,e3⟩ Q' kk;have ur:lets[i]?=some lets[i]:=zai (by lia)
  refine step i _ H2 ur s2 Q' fun t l H3 s3 ft fl hv=>kk _ _ s3 ⟨ah++[(lets[i],l)],?_,?_,?_⟩
  ·rw[zak,e1,xx ur];rfl
  ·exact Paired.snoc (Paired.cH e2 fun _ _ z=>z.same s3) ⟨t,rfl,hv,s2.free ft,s2.free fl⟩
  ·rw[zak,List.nodup_append];refine⟨e3,zaE.mpr ⟨zab,zbC⟩,fun a ha b hb xu=>?_⟩;rw[show b=l from zag.mp hb] at xu
   obtain⟨o,ho⟩:=da.some e2 a ha;rw[xu,fl] at ho;cases ho
 ·rintro ys H2 q s2 ⟨ah,e1,e2,e3⟩ fq;rw[<-hn,zbd] at e1;exact fin ys ah H2 q s2 e1 e2 e3 fq
theorem LR{b elt:RE}(h:ae Γ a σ H fun u H0=>ae Γ b σ H0 fun v H1=>∃i j:Int,[u,v]=[.int i,.int j]/\(-(2 ^ 62)<=i/\i<2 ^ 62/\ -(2 ^ 62)<=j/\j<2 ^ 62)/\∃W:Nat->Nat->List V->Hp->Prop,(∃m,W 0 m [] H1)/\∀k m ys H2,W k m ys H2->
   ((cU i (j - i).toNat).stop k H2/\∀p,H2 p=none->Q (.ref p) (upd H2 p<|.lst ys))\/
   ((cU i (j - i).toNat).go k H2/\∀x H3,(cU i (j - i).toNat).eQ k H2 x H3->iB Γ.K none x H3 fun zs=>jr none (zs.map some++bX σ fv) H3 fun b H5=>
    if b=true then ae Γ.calm elt (zs.map some++bX σ fv) H5 fun y H6=>ys.length<sizeLine/\∃m',m'<m/\W (k+1) m' (ys++[y]) H6 else ∃m',m'<m/\W (k+1) m' ys H5)):ae Γ (.comp none fv .r9 [a,b] none elt) σ H Q:=h
theorem LS{x elt:RE}(h:ae Γ x σ H fun v H1=>∃j:Int,[v]=[.int j]/\ -(2 ^ 62)<=j/\j<2 ^ 62/\∃W:Nat->Nat->List V->Hp->Prop,(∃m,W 0 m [] H1)/\∀i m ys H2,W i m ys H2->
   ((cU 0 j.toNat).stop i H2/\∀p,H2 p=none->Q (.ref p) (upd H2 p<|.lst ys))\/
   ((cU 0 j.toNat).go i H2/\∀x H3,(cU 0 j.toNat).eQ i H2 x H3->iB Γ.K none x H3 fun zs=>jr none (zs.map some++bX σ fv) H3 fun b H5=>
    if b=true then ae Γ.calm elt (zs.map some++bX σ fv) H5 fun y H6=>ys.length<sizeLine/\∃m',m'<m/\W (i+1) m' (ys++[y]) H6 else ∃m',m'<m/\W (i+1) m' ys H5)):ae Γ (.comp none fv .dz [x] none elt) σ H Q:=h
theorem LU{k:Nat}(h:k<=xs.length):dR xs (some (k:Int)) none=xs.drop k:=by
 unfold dR;rw[HT.nQ,HT.Pj,Nat.min_eq_left h,zaL (by rw[zaz];exact zqR _)]
theorem q9{c:List Pt}{n:List Nat}(h:gm c l n)(ht:aA c<=320):c.length<=641:=by
 have:=(Ll c "" h.ch h.ok).1;lia
theorem LV(h:j<n):gF n (j:Int)=some j:=by
 unfold gF;rw[if_pos (by omega),if_pos (by omega)];rfl
theorem c_.ext(S:c_ M C H p dx se ch mk x ak tk)(s:az H H')(hB:∀b∈L::Bs,H b=none):c_ (L::(Bs++M)) C H' p dx se ch mk x ak tk:=by
 obtain⟨bH,h1,h2⟩:=(S.same s).bu;obtain⟨aaC,k1,k2⟩:=S.bu;have e:bH=aaC:=by have:=s _ _ k1;rw[h1] at this;cases this;rfl
 subst e;have sub:∀z,z∈M->z∈L::(Bs++M):=fun z hz=>.tail _ (zaq _ hz);refine⟨s _ _ S.ob,s _ _ S.cA,⟨bH,h1,Paired.cH k2 fun v ps ⟨a,xs,e1,e2,e3,e4⟩=>⟨a,xs,e1,s _ _ e2,e3.mono<|bF s,fun hm=>?_⟩⟩,s _ _ S.gh,S.nd,⟨sub _ S.mm.1,sub _ S.mm.2.1,sub _ S.mm.2.2⟩⟩;have hn:a∈L::Bs->False:=fun h=>by have:=hB a h;rw[e2] at this;cases this
 rcases zaa.mp hm with h|h
 ·exact hn (h ▸ .head _)
 ·rcases zaf.mp h with h|h
  ·exact hn (.tail _ h)
  ·exact e4 h
abbrev uu(ak:List Nat)(tk:List (Nat×List Pt))(h:Nat)(c:List Pt):List Let:=(List.range ak.length).map fun k=>(k,tk.length+1,h,c)
abbrev dO(tk:List (Nat×List Pt))(at':Nat)(c:List Pt):List Pt:=pj tk at' (tk.length - at') c
structure q_ (M:List Addr) (C:Addr) (H:Hp) (p dx se ch mk:Addr) (x:Str) (ak:List Nat) (tk:List (Nat×List Pt)) (tx:List (List Nat)) (b:Addr) (h at':Nat) (ys:List V) (c:List Pt) (l n:List Nat):Prop where
 sv:c_ M C H p dx se ch mk x ak tk
 bE:Taken tx tk
 tl:tx[tk.length]?=some x.cps.toList
 gx:good x
 lx:x.length<=10000
 al:∀m∈M,∃o,H m=some o
 hh:h<ak.length
 ha:at'<=tk.length
 lk:tk.length<=100
 ls:ak.length<=8
 hb:H b=some (.lst ys)
 nb:b≠se/\b≠ch
 pv:aJ H ys c
 gZ:tx[at']?=some l
 cg:gm c l n
 tt:aA c<=320
def uv(M:List Addr)(C:Addr)(H:Hp)(p dx se ch mk:Addr)(x:Str)(ak:List Nat)(tk:List (Nat×List Pt))(h at':Nat)(c:List Pt)(Q:VK):Prop:= ∀(x':Str) (L:Addr) (zs:List V) (ah:List (Let×Addr)) (H':Hp),good x'->x'.length<=x.length+320->Run x.cps.toList (dO tk at' c) x'.cps.toList->c_ (L::(ah.map (·.2)++M)) C H' p dx se ch mk x' (ak.set h<|ak.getD h 0+1) (tk++[(h,dO tk at' c)])->H' L=some (.lst zs)->H L=none->
 ah.map (·.1)=uu ak tk h (dO tk at' c)->Paired (da H H') zs ah->(ah.map (·.2)).Nodup->L∉ah.map (·.2)->aY [p,se,ch,mk] H H'->Q (.ref L) H'
def Co(C:Addr):Sp:=fun vs H Q E=>∃(M:List Addr) (p dx se ch mk:Addr) (x:Str) (ak:List Nat) (tk:List (Nat×List Pt)) (tx:List (List Nat)) (b:Addr) (h at':Nat) (ys:List V) (c:List Pt) (l n:List Nat),vs=[.ref p,.int (h:Nat),.int (at':Nat),.ref b]/\q_ M C H p dx se ch mk x ak tk tx b h at' ys c l n/\uv M C H p dx se ch mk x ak tk h at' c Q
abbrev Cp(K:Frag)(C:Addr)(E:XK):bo:=aM K [("passed",By),("done",AZ)] [] [] [("took",C,uo C),("many",C,jL C)] (E:=E)
theorem aaD(T:kd K C)(vs:List V)(H:Hp)(Q:VK)(E:XK)(Cq:Co C vs H Q E):aB (Cp K C E) IG (Dn Q) (start IF vs) H:=by
 obtain⟨M,p,dx,se,ch,mk,x,ak,tk,tx,b,h,at',ys,c,l,n,rfl,I,q⟩:=Cq;have S:=I.sv;obtain⟨bH,bu,uw⟩:=S.bu;have LW:=Paired.length uw;rw[zac] at LW;have ha:=I.ha;have lk:=I.lk;refine Lg<|Lj<|iK<|aj rfl ⟨p,C,dx,_,_,rfl,S.ob,T.cl,T.sP,xM,aj rfl ⟨_,rfl,.inl ⟨_,au.of bu,fun W fW=>?_⟩⟩⟩;rw[LU (by lia)]
 have s1:=sameNew (o:=.lst (bH.drop at')) fW;have hW:upd H W (.lst<|bH.drop at') W=some (.lst<|bH.drop at'):=aw;generalize upd H W (.lst<|bH.drop at')=H1 at s1 hW⊢;have lw:(bH.drop at').length=tk.length - at':=by rw[zaz,LW]
 refine⟨W,rfl,⟨_,au.of hW⟩,jT (K:=K) (a:=W) (xs:=bH.drop at') (fun j σ H2=>∃(b':Addr) (cq:List V) (u4:Option V),σ=[some<|.ref p,some<|.int (h:Nat),some<|.int (at':Nat),some<|.ref b',u4]/\az H1 H2/\H2 b'=some (.lst cq)/\aJ H2 cq (pj tk at' j c)/\b'≠se/\b'≠ch) ⟨b,ys,none,rfl,az.refl _,s1 _ _ I.hb,I.pv.mono<|bF s1,I.nb⟩ (fun j σ H2 _ ⟨_,_,_,_,s2,_⟩=>au.of (s2 _ _ hW)) ?_ ?_⟩
 ·rintro j v σ H2 hv ⟨b',cq,u4,rfl,s2,iC,iO,kh⟩;rw[zbL] at hv;obtain⟨ps,bS,a,xs,rfl,so,Cr,_⟩:=km uw hv;rw[zaj] at bS;obtain⟨⟨m,ib⟩,gC,rfl⟩:=Option.map_eq_some_iff.mp bS;have hj:at'+j<tk.length:=(zap.mp gC).1;obtain⟨lm,r,e1,c1,t1⟩:=ui I.bE I.gZ I.cg I.tt j (by lia)
  obtain⟨rr,ex⟩:∃rr,tx[at'+j+1]?=some rr:=⟨_,zai (by rw[I.bE.len];lia)⟩
  obtain⟨c2,t2⟩:=I.bE.chg _ _ _ _ _ gC e1 ex;have l1:=q9 c1 t1;have l2:=q9 c2 t2;have dX:=s1.trans s2;show aB (Cp K C E) _ _ [some<|.ref p,some<|.int (h:Nat),some<|.int (at':Nat),some<|.ref b',some<|.ref a] H2;refine bK<|bD<|cv By rfl<|ay<|aj rfl<|ay<|aj rfl<|aN ⟨a,b',xs,cq,ib,_,lm,_,r,rfl,dX _ _ so,iC,Cr.mono<|bF dX,iO,c2.ok,c1.ok,c2.ch,c1.ch,by lia,by lia,c2.run,c1.run,fun t c' d' H3 zs ws ke qs1 s3 fc fd iL ht hc hd pz pw P=>?_⟩
  refine ax<|dJ ht rfl ⟨d',ws,_,rfl,s2.trans s3,hd,?_,(fun z=>by rw[z,dX _ _ S.cA] at fd;cases fd),(fun z=>by rw[z,dX _ _ bu] at fd;cases fd)⟩
  have e:=(ZY c1.ok P (by lia)).1
  rw[xJ gC];show aJ H3 ws (ig<|dy ib<|pj tk at' j c);rw[e];exact pw
 rintro σ H2 ⟨b',cq,u4,rfl,s2,iC,iO,kh⟩;rw[lw] at iO;obtain⟨lm,r,e1,c1,t1⟩:=ui I.bE I.gZ I.cg I.tt (tk.length - at') (by lia)
 rw[show at'+(tk.length - at')=tk.length by lia,I.tl] at e1
 cases e1;have lc:=q9 c1 t1;have dX:=s1.trans s2;have rl:=c1.run.len;have gl:=I.lx;have lxl:x.cps.toList.length=x.length:=by simp[Str.length]
 refine uc<|cv AZ rfl<|ay<|iK<|aj rfl ⟨p,C,dx,_,_,rfl,dX _ _ S.ob,T.cl,T.wq,LN,ay<|aj rfl<|aN ⟨x,b',cq,_,r,rfl,I.gx,iC,iO,c1.ok,c1.ch,by lia,c1.run,by lia,fun H3 s3=>?_⟩⟩
 have iM:=dX.trans s3;refine aj rfl ⟨p,C,dx,_,rfl,iM _ _ S.ob,T.cl,T.wq,(by show 4<1000;decide),?_⟩
 rw[aak];have sok:∀q∈dO tk at' c,mR q:=fun q hq=>ZG (c1.ok q hq);have Cs:(⟨r.toArray⟩:Str).length=r.length:=by simp[Str.length]
 have gr:good ⟨r.toArray⟩:=⟨by rw[Cs];lia,fun d hd=>c1.run.good (fun e he=>I.gx.2 e he) sok d (by simpa using hd)⟩
 have xi:p≠se:=fun z=>by have:=S.ob;rw[z,S.cA] at this;cases this
 have tP:p≠ch:=fun z=>by have:=S.ob;rw[z,bu] at this;cases this
 have Ct:p≠mk:=fun z=>by have:=S.ob;rw[z,S.gh] at this;cases this
 obtain⟨Cu,Cv,Cw⟩:=S.nd;have xS:upd H3 p (.ins C dx<|f4 ⟨r.toArray⟩ se ch mk) p=some (.ins C dx<|f4 ⟨r.toArray⟩ se ch mk):=aw;have b4:aR p H3 (upd H3 p<|.ins C dx<|f4 ⟨r.toArray⟩ se ch mk):=aR.upd;generalize upd H3 p (.ins C dx<|f4 ⟨r.toArray⟩ se ch mk)=H4 at xS b4⊢;have LX:=b4 _ _ (iM _ _ S.cA) (Ne.symm xi);have aaF:=b4 _ _ (iM _ _ bu) (Ne.symm tP);have aaG:=b4 _ _ (iM _ _ S.gh) (Ne.symm Ct);have hh:=I.hh;have esh:ak[h]?=some (ak.getD h 0):=by rw[zaP,zai hh];rfl
 have pe:(nV ak)[h]?=some (.int ((ak.getD h 0:Nat):Int)):=by unfold nV;rw[zaj,esh];rfl
 refine BO<|br<|bD<|iK<|aj rfl ⟨p,C,dx,_,_,rfl,xS,T.cl,T.qr,uj,aj rfl<|dN LX (de pe)<|ax<|gX<|iK<|aj rfl ⟨p,C,dx,_,_,rfl,xS,T.cl,T.qr,uj,aj rfl ⟨se,_,_,h,rfl,rfl,LX,LV (by unfold nV;rw[zac];exact hh),?_⟩⟩⟩
 have aaI:(nV ak).set h (.int ((ak.getD h 0:Nat)+1:Int))=nV (ak.set h<|ak.getD h 0+1):=by
  show _=(ak.set h<|ak.getD h 0+1).map _;rw[List.map_set];rfl
 rw[aaI];have xT:upd H4 se (.lst<|nV<|ak.set h<|ak.getD h 0+1) se=some (.lst<|nV<|ak.set h<|ak.getD h 0+1):=aw;have b5:aR se H4 (upd H4 se<|.lst<|nV<|ak.set h<|ak.getD h 0+1):=aR.upd;generalize upd H4 se (.lst<|nV<|ak.set h<|ak.getD h 0+1)=H5 at xT b5⊢;have Cy:=b5 _ _ xS xi;have qX:=b5 _ _ aaF (Ne.symm Cu);have LY:=b5 _ _ aaG (Ne.symm Cv);have aaJ:b'≠se:=fun z=>kh.1 z;have aet:b'≠ch:=fun z=>kh.2 z;have nbp:b'≠p:=fun z=>by have:=s3 _ _ iC;rw[z,iM _ _ S.ob] at this;cases this
 have xU:=b5 _ _ (b4 _ _ (s3 _ _ iC) nbp) aaJ;have k5:∀z o,H z=some o->z≠p->z≠se->H5 z=some o:=fun z o e n1 n2=>b5 _ _ (b4 _ _ (iM _ _ e) n1) n2;have aaL:∀z,H5 z=none->H z=none:=fun z hz=>by
  cases e:H z with
  |none=>rfl
  |some o=>
   by_cases z1:z=p
   ·rw[z1,Cy] at hz;cases hz
   by_cases z2:z=se
   ·rw[z2,xT] at hz;cases hz
   rw[k5 z o e z1 z2] at hz;cases hz
 have aaM:∀z us,H3 z=some (.tup us)->H5 z=some (.tup us):=fun z us e=>b5 _ _ (b4 _ _ e (fun q=>by rw[q,iM _ _ S.ob] at e;cases e)) (fun q=>by rw[q,iM _ _ S.cA] at e;cases e)
 refine eO<|lJ<|iK<|aj rfl ⟨p,C,dx,_,_,rfl,Cy,T.cl,T.sP,xM,⟨.inl ⟨rfl,_,au.of qX⟩,xF<|aj rfl ⟨_,.inl<|au.of xU,fun a6 f6=>?_⟩⟩⟩;have s6:=sameNew (o:=.lst cq) f6;have LZ:upd H5 a6 (.lst cq) a6=some (.lst cq):=aw;have L0:=aaL _ f6;generalize upd H5 a6 (.lst cq)=H6 at s6 LZ⊢;have wD:=s6 _ _ qX;refine⟨bH,wD,dm (by lia),?_⟩
 have b7:aR ch H6 (upd H6 ch<|.lst<|bH++[.ref a6]):=aR.upd;have Cz:upd H6 ch (.lst<|bH++[.ref a6]) ch=some (.lst<|bH++[.ref a6]):=aw;generalize upd H6 ch (.lst<|bH++[.ref a6])=H7 at b7 Cz⊢;have CA:=b7 _ _ (s6 _ _ Cy) tP;have L1:=b7 _ _ (s6 _ _ LY) (Ne.symm Cw);have CC:a6∉M:=fun hm=>by obtain⟨o,ho⟩:=I.al _ hm;rw[ho] at L0;cases L0
 have aaN:a6≠ch:=fun z=>CC (z ▸ S.mm.2.1);have aaO:a6≠mk:=fun z=>CC (z ▸ S.mm.2.2);refine eO<|lJ<|iK<|aj rfl ⟨p,C,dx,_,_,rfl,CA,T.cl,T.An,LO,⟨.inl ⟨rfl,_,au.of L1⟩,aj rfl ⟨_,L1,dm (by unfold nV;rw[zac,zac];lia),?_⟩⟩⟩
 have b8:aR mk H7 (upd H7 mk (.lst (nV (tk.map (·.1))++[.int (h:Nat)]))):=aR.upd;have CF:upd H7 mk (.lst (nV (tk.map (·.1))++[.int (h:Nat)])) mk=some (.lst (nV ((tk++[(h,dO tk at' c)]).map (·.1)))):=by rw[aw,zak];unfold nV;rw[zak];rfl
 generalize upd H7 mk (.lst (nV (tk.map (·.1))++[.int (h:Nat)]))=H8 at b8 CF⊢;have k8:aY [p,se,ch,mk] H H8:=fun z o e hz=>by
  simp only[zaa,zab,or_false,not_or] at hz
  exact b8 _ _ (b7 _ _ (s6 _ _<|k5 z o e hz.1 hz.2.1) hz.2.2.1) hz.2.2.2
 have xV:∀z o,H6 z=some o->z≠ch->z≠mk->H8 z=some o:=fun z o e n1 n2=>b8 _ _ (b7 _ _ e n1) n2;have L3:∀z us,H3 z=some (.tup us)->H8 z=some (.tup us):=fun z us e=>by
  have e6:=s6 _ _ (aaM z us e);exact xV _ _ e6 (fun q=>by rw[q,wD] at e6;cases e6) (fun q=>by rw[q,s6 _ _ LY] at e6;cases e6)
 have CG:∀z,H8 z=none->H z=none:=fun z hz=>by
  cases e:H z with
  |none=>rfl
  |some o=>
   by_cases hm:z∈ [p,se,ch,mk]
   ·simp only[zaa,zab,or_false] at hm
    rcases hm with rfl|rfl|rfl|rfl
    ·rw[b8 _ _ CA Ct] at hz;cases hz
    ·rw[xV _ _ (s6 _ _ xT) Cu Cv] at hz;cases hz
    ·rw[b8 _ _ Cz Cw] at hz;cases hz
    ·rw[CF] at hz;cases hz
   ·rw[k8 z o e hm] at hz;cases hz
 have S8:c_ M C H8 p dx se ch mk ⟨r.toArray⟩ (ak.set h<|ak.getD h 0+1) (tk++[(h,dO tk at' c)]):=by
  refine⟨b8 _ _ CA Ct,xV _ _ (s6 _ _ xT) Cu Cv,⟨bH++[.ref a6],b8 _ _ Cz Cw,?_⟩,CF,S.nd,S.mm⟩;rw[zak];refine Paired.snoc (Paired.cH uw fun v ps ⟨a,xs,e1,e2,e3,e4⟩=>⟨a,xs,e1,k8 _ _ e2<|fun hz=>?_,e3.mono fun z us e=>L3 z us (iM _ _ e),e4⟩) ⟨a6,cq,rfl,xV _ _ LZ aaN aaO,iO.mono fun z us e=>L3 z us (s3 _ _ e),CC⟩
  simp only[zaa,zab,or_false] at hz
  rcases hz with rfl|rfl|rfl|rfl
  ·rw[S.ob] at e2;cases e2
  ·exact e4 S.mm.1
  ·exact e4 S.mm.2.1
  ·exact e4 S.mm.2.2
 have pT:(ak.set h<|ak.getD h 0+1).length=ak.length:=zbk ..;have ls:=I.ls;have ux:(tk++[(h,dO tk at' c)])[tk.length]?=some (h,dO tk at' c):=by rw[zaS<|zqR _,zaY];rfl
 have ltk:(tk++[(h,dO tk at' c)]).length=tk.length+1:=by rw[zqA];rfl
 refine dq<|LS<|c4<|iK<|aj rfl ⟨p,C,dx,_,_,rfl,S8.ob,T.cl,T.qr,uj,.inl ⟨_,au.of S8.cA,?_⟩⟩;have lnv:(nV<|ak.set h<|ak.getD h 0+1).length=ak.length:=by unfold nV;rw[zac,pT]
 rw[lnv];refine⟨_,rfl,by lia,by lia,?_⟩
 rw[zax];refine LQ (uu ak tk h<|dO tk at' c) (by rw[zac,zaO]) (by lia) ?_ ?_
 ·intro i e H9 hi s9 Q' kk;have jB:i<ak.length:=by have:=(zap.mp hi).1;rw[zac,zaO] at this;exact this
  rw[zaj,zbD jB] at hi;cases hi;have S9:=S8.same s9;show ae (Cp K C E).calm (.bj 0 "took" (.v 1) [.v 0,(.bj 1 "many" (.v 1) [])]) [some<|.int<|0+(i:Int),some<|.ref p] H9 Q';rw[Int.zero_add];refine xv C (uo C) rfl<|aj rfl ⟨p,dx,_,rfl,S9.ob,e_,aj rfl<|mW C (jL C) rfl<|aj rfl ⟨p,dx,_,rfl,S9.ob,e_,M,p,dx,se,ch,mk,_,_,_,rfl,S9,?_⟩⟩;rw[ltk];exact⟨M,p,dx,se,ch,mk,_,_,_,i,tk.length,h,_,rfl,S9,ux,fun t l d0 dZ ft fl hv=>kk t l d0 dZ ft fl hv⟩
 ·intro zs ah H9 L s9 e1 e2 e3 fL;have dZ:=sameNew (o:=.lst zs) fL;refine q ⟨r.toArray⟩ L zs ah _ gr (by rw[Cs];lia) (by simpa using c1.run) (c_.ext S8 (s9.trans dZ) fun b hb=>?_) aw (CG _<|s9.free fL) e1 (Paired.cH e2 fun v e ⟨t,a1,a2,a3,a4⟩=>⟨t,a1,a2.same dZ,CG _ a3,CG _ a4⟩) e3 (fun hm=>?_) fun z o e hz=>dZ _ _ (s9 _ _<|k8 z o e hz)
  ·rcases zaa.mp hb with hb|hb
   ·rw[hb];exact s9.free fL
   ·exact da.none e2 b hb
  obtain⟨o,ho⟩:=da.some e2 L hm;rw[fL] at ho;cases ho
end
section
variable {K:Frag}{M:List Addr}{C:Addr}{H H':Hp}{p dx se ch mk:Addr}{x:Str}{ak:List Nat}{tk:List (Nat×List Pt)}
theorem aaR{m:Str}{b c:RE}(C:Addr)(sp:Sp)(hm:Γ.ms j=(C,sp))(h:ae Γ o σ H fun x H1=>∃p dx fs,x=.ref p/\H1 p=some (.ins C dx fs)/\fs.lookup m=none/\ae Γ a σ H1 fun y H2=>ae Γ b σ H2 fun z H3=>ae Γ c σ H3 fun w H4=>sp [x,y,z,w] H4 Q Γ.E):ae Γ (.bj j m o [a,b,c]) σ H Q:=by
 have e1:(Γ.ms j).1=C:=by rw[hm]
 have e2:(Γ.ms j).2=sp:=by rw[hm]
 show lX (Γ.ms j).1 m (Γ.ms j).2 [] Γ.E (ae Γ o) (ba Γ [a,b,c]) σ H Q;rw[e1,e2];exact h
theorem uv.same{h:Nat}{c:List Pt}(q:uv M C H p dx se ch mk x ak tk h at' c Q)(s:az H H'):uv M C H' p dx se ch mk x ak tk h at' c Q:=
 fun x' L zs ah H2 g1 g2 g3 g4 g5 g6 g7 g8 g9 CH CI=>q x' L zs ah H2 g1 g2 g3 g4 g5 (s.free g6) g7 (Paired.cH g8 fun _ _ ⟨t,a1,a2,a3,a4⟩=>⟨t,a1,a2,s.free a3,s.free a4⟩) g9 CH fun z o e hz=>CI _ _ (s _ _ e) hz
theorem q_.same{tx:List (List Nat)}{b:Addr}{h:Nat}{c:List Pt}{n:List Nat}(I:q_ M C H p dx se ch mk x ak tk tx b h at' ys c l n)(s:az H H'):q_ M C H' p dx se ch mk x ak tk tx b h at' ys c l n:=
 ⟨I.sv.same s,I.bE,I.tl,I.gx,I.lx,fun m hm=>let ⟨o,e⟩:=I.al m hm;⟨o,s _ _ e⟩,I.hh,I.ha,I.lk,I.ls,s _ _ I.hb,I.nb,I.pv.mono<|bF s,I.gZ,I.cg,I.tt⟩
abbrev pf(tk:List (Nat×List Pt))(h at':Nat):List Let:=(List.range<|tk.length - at').map fun i=>(h,at'+i+1,(tk.getD (at'+i) (0,[])).1,(tk.getD (at'+i) (0,[])).2)
def uz(C:Addr):Sp:=fun vs H Q E=>∃(M:List Addr) (p dx se ch mk:Addr) (x:Str) (ak:List Nat) (tk:List (Nat×List Pt)) (lt:Addr),vs=[.ref p,.ref lt]/\
  ((∃h at',c_ M C H p dx se ch mk x ak tk/\H lt=some (.tup (qZ h at'))/\h<ak.length/\at'<=tk.length/\tk.length<=100/\∀L zs ah H',az H H'->H L=none->H' L=some (.lst zs)->ah.map (·.1)=pf tk h at'->Paired (da H H') zs ah->(ah.map (·.2)).Nodup->L∉ah.map (·.2)->Q (.ref L) H')\/
   ∃(tx:List (List Nat)) (b:Addr) (h n at':Nat) (ys:List V) (c:List Pt) (l r:List Nat),q_ M C H p dx se ch mk x ak tk tx b h at' ys c l r/\H lt=some (.tup (q8 h n at' b))/\1<=n/\((n≠ak.getD h 0+1/\∀L H',az H H'->H L=none->H' L=some (.lst [])->Q (.ref L) H')\/(n=ak.getD h 0+1/\uv M C H p dx se ch mk x ak tk h at' c Q)))
abbrev L4(K:Frag)(C CB:Addr)(E:XK):bo:=aM K [] [] [] [("is_again",C,xR C),("many",C,jL C),("took",C,uo C),("is_ask",C,Cn C),("take_in",C,Co C)] (et:=[("BadLetter",CB)]) (E:=E)
theorem aaS{CB:Addr}(T:kd K C)(vs:List V)(H:Hp)(Q:VK)(E:XK)(Cq:uz C vs H Q E):aB (L4 K C CB E) ID (Dn Q) (start qt vs) H:=by
 obtain⟨M,p,dx,se,ch,mk,x,ak,tk,lt,rfl,⟨h,at',S,hl,hh,ha,lk,q⟩|⟨tx,b,h,n,at',ys,c,l,r,I,hl,hn,q⟩⟩:=Cq
 ·refine bZ (dH<|ua<|aj rfl<|qv hl<|iF (cM ?_) rfl);refine bZ<|xO<|mX C (xR C) rfl<|aj rfl ⟨p,dx,_,rfl,S.ob,e_,aj rfl ⟨M,p,dx,se,ch,mk,x,ak,tk,lt,rfl,S,.inl ⟨h,at',hl,hh,ha,fun H1 s1=>fH<|iT ?_ rfl⟩⟩⟩;have S1:=S.same s1;have dD:=s1 _ _ hl;refine dq<|LR<|br<|bD<|aj rfl<|ax<|dJ dD rfl<|ax<|gX<|br<|mW C (jL C) rfl<|aj rfl ⟨p,dx,_,rfl,S1.ob,e_,M,p,dx,se,ch,mk,x,ak,tk,rfl,S1,ax<|gX ?_⟩;refine⟨_,_,rfl,⟨by lia,by lia,by lia,by lia⟩,?_⟩
  rw[show((tk.length:Int)+1 - ((at':Int)+1)).toNat=tk.length - at' by lia]
  refine LQ (pf tk h at') (by rw[zac,zaO]) (by lia) ?_ ?_
  ·intro i e H9 hi s9 Q' kk;have jB:i<tk.length - at':=by have:=(zap.mp hi).1;rw[zac,zaO] at this;exact this
   rw[zaj,zbD jB] at hi;cases hi;have S9:=S1.same s9;have hl9:=s9 _ _ dD;have ux:tk[at'+i]?=some (tk.getD (at'+i) (0,[])):=by rw[zaP,zai (by lia)];rfl
   show ae (L4 K C CB E).calm (.bj 2 "took" (.v 1) [(.ix (.v 2)<|.c<|.int 1),.v 0]) [some<|.int<|(at':Int)+1+(i:Int),some<|.ref p,some<|.ref lt] H9 Q';rw[show(at':Int)+1+(i:Int)=((at'+i+1:Nat):Int) by lia]
   exact xv C (uo C) rfl<|aj rfl ⟨p,dx,_,rfl,S9.ob,e_,bD<|aj rfl<|ax<|dJ hl9 rfl<|aj rfl ⟨M,p,dx,se,ch,mk,_,_,_,h,at'+i,_,_,rfl,S9,ux,fun t l d0 dZ ft fl hv=>kk t l d0 dZ ft fl hv⟩⟩
  ·intro zs ah H9 L s9 e1 e2 e3 fL;have dZ:=sameNew (o:=.lst zs) fL;refine q L zs ah _ ((s1.trans s9).trans dZ) ((s1.trans s9).free fL) aw e1 (Paired.cH e2 fun v e ⟨t,a1,a2,a3,a4⟩=>⟨t,a1,a2.same dZ,s1.free a3,s1.free a4⟩) e3 fun hm=>?_;obtain⟨o,ho⟩:=da.some e2 L hm;rw[fL] at ho;cases ho
 ·have S:=I.sv;refine bZ<|dH<|ua<|aj rfl<|qv hl<|iF (cM ?_) rfl;refine bZ<|xO<|mX C (xR C) rfl<|aj rfl ⟨p,dx,_,rfl,S.ob,e_,aj rfl ⟨M,p,dx,se,ch,mk,x,ak,tk,lt,rfl,S,.inr ⟨_,hl,rfl,fH<|iF (cM ?_) rfl⟩⟩⟩;refine bZ<|dH<|xO<|mX C (Cn C) rfl<|aj rfl ⟨p,dx,_,rfl,S.ob,e_,aj rfl ⟨M,p,dx,se,ch,mk,x,ak,tk,lt,b,h,n,at',ys,c,rfl,S,hl,I.hh,I.ha,hn,I.hb,I.pv,I.cg.ok,I.cg.ch,fun H1 s1=>fH<|iF (cM ?_) rfl⟩⟩;have I1:=I.same s1;have S1:=I1.sv;have dD:=s1 _ _ hl;have pe:(nV ak)[h]?=some (.int ((ak.getD h 0:Nat):Int)):=by unfold nV;rw[zaj,zaP,zai I.hh];rfl
  refine bZ<|cL<|bD<|aj rfl<|ax<|dJ dD rfl<|br<|bD<|iK<|aj rfl ⟨p,C,dx,_,_,rfl,S1.ob,T.cl,T.qr,uj,bD<|aj rfl<|ax<|dJ dD rfl<|dN S1.cA (de pe)<|ax<|gX<|ub ⟨_,rfl,?_⟩⟩;rcases q with⟨ne,q⟩|⟨en,q⟩
  ·refine iT (dq<|e7<|aN ⟨zqZ _,fun L fL=>q L _ (s1.trans<|sameNew fL) (s1.free fL) aw⟩) ?_;rw[zqF];rfl;intro z;exact ne (by lia)
  ·refine iF (cM ?_) (by rw[zqT (by lia)];rfl)
   exact dq<|aaR C (Co C) rfl<|aj rfl ⟨p,dx,_,rfl,S1.ob,e_,bD<|aj rfl<|ax<|dJ dD rfl<|bD<|aj rfl<|ax<|dJ dD rfl<|bD<|aj rfl<|ax<|dJ dD rfl ⟨M,p,dx,se,ch,mk,x,ak,tk,tx,b,h,at',ys,c,l,r,rfl,I1,q.same s1⟩⟩
end
theorem L5:∀(ts:List Str) (k:Nat) (acc:Str),(textFrom k acc ts).length<=acc.length+piled ts
 |[],k,acc=>zbo _ _
 |t::r,k,acc=>by
  have h:=L5 r (k+1) (acc++(if k>0 then ", " else "":String)++t)
  have e:(acc++(if k>0 then ", " else "":String)++t).length=acc.length+(if k>0 then 2 else 0)+t.length:=by
   rw[strLen_append,strLen_append]
   split<;>rfl
  rw[e] at h;rw[piled_cons];show(textFrom (k+1) _ r).length<=_;have:(if k>0 then 2 else 0:Nat)<=2:=by split<;>decide
  lia
theorem L6(ts:List Str):(listText ts).length<=piled ts+2:=by
 unfold listText;rw[strLen_append];have h:=L5 ts 0 "["
 have e1:(Str.ofString "[").length=1:=by decide
 have e2:(Str.ofString "]").length=1:=by decide
 rw[e1] at h;rw[e2];lia
theorem L7(ts:List Str):(tupleText ts).length<=piled ts+3:=by
 unfold tupleText;rw[strLen_append,strLen_append];have e1:(Str.ofString "(").length=1:=by decide
 have e2:(Str.ofString (if ts.length==1 then ",)" else ")":String)).length<=2:=by split<;>decide
 have e3:(Str.join ", " ts).length<=piled ts:=by
  by_cases h:ts=[]
  ·subst h;decide
  ·have:=join_length_add ts h;lia
 rw[e1];lia
theorem L8{α:Type}(f:α->PyData)(Bs:Nat):∀xs:List α,(∀x∈xs,(f x).shown.length<=Bs)->piled (PyData.shownAll<|xs.map f)<= (Bs+2)*xs.length
 |[],_=>zqZ _
 |x::xs,h=>by
  show piled ((f x).shown::PyData.shownAll (xs.map f))<=_;rw[piled_cons,zay,Nat.mul_succ];have h1:=h x (.head _);have h2:=L8 f Bs xs fun y hy=>h y (.tail _ hy);lia
theorem CJ{α:Type}(f:α->PyData):∀xs:List α,(∀x∈xs,(f x).showable=true)->PyData.showableAll (xs.map f)=true
 |[],_=>rfl
 |x::xs,h=>by
  show((f x).showable && PyData.showableAll (xs.map f))=true;rw[h x<|.head _,CJ f xs fun y hy=>h y (.tail _ hy)];rfl
theorem CK{α:Type}(f:α->PyData)(Bs:Nat):∀xs:List α,(∀x∈xs,(f x).depth<=Bs)->PyData.depthAll (xs.map f)<=Bs
 |[],_=>zqZ _
 |x::xs,h=>by
  show max (f x).depth (PyData.depthAll<|xs.map f)<=Bs;exact Nat.max_le.mpr ⟨h x<|.head _,CK f Bs xs fun y hy=>h y (.tail _ hy)⟩
theorem aaU{c:Nat}(h:SG.cps.contains c=true):c<16 ^ 8:=by
 have all:SG.cps.toList.all (fun c=>decide<|c<0x110000)=true:=by decide+kernel
 have hm:c∈SG.cps.toList:=by simpa using h
 have:=of_decide_eq_true (zbp.mp all c hm);exact Nat.lt_trans this (by decide)
theorem xW{i:Int}(h0:0<=i)(h:i<1000000):(PyData.int i).shown.length<=6/\(PyData.int i).showable=true:=by
 refine⟨PyProof.Rows.toString_length_le h0 (by decide) (by omega),?_⟩
 show decide (i.natAbs.log2<1920)=true;refine zqT ?_;by_cases z:i.natAbs=0
 ·rw[z];decide
 ·have:i.natAbs.log2<20:=(Nat.log2_lt z).mpr (by omega)
  omega
theorem L9{s:Str}(h:∀c∈s.cps.toList,SG.cps.contains c=true):(PyData.str s).shown.length<=10*s.length+2/\(PyData.str s).showable=true:=
 ⟨StrLaws.reprText_len s fun c hc=>aaU (h c hc),rfl⟩
theorem aaV(p:Pt):(PyData.str p.word).shown.length<=42/\(PyData.str p.word).showable=true:=by
 have k:∀w:Str,(w="keep"\/w="put"\/w="cut"\/w="took")->(PyData.str w).shown.length<=42/\(PyData.str w).showable=true:=fun w hw=>by
  have h1:∀c∈w.cps.toList,c<16 ^ 8:=by
   rcases hw with rfl|rfl|rfl|rfl<;>decide+kernel
  have h2:w.length<=4:=by
   rcases hw with rfl|rfl|rfl|rfl<;>decide+kernel
  have:=StrLaws.reprText_len w h1;exact⟨zas this (by omega),rfl⟩
 cases p with
 |keep n=>exact k _ (.inl rfl)
 |put s=>exact k _ (.inr<|.inl rfl)
 |cut s=>exact k _ (.inr<|.inr<|.inl rfl)
theorem aaW{p:Pt}(ok:aZ p)(hk:∀n,p=.keep n->n<1000000):(toD p).shown.length<=60+10*bY p/\(toD p).showable=true/\(toD p).depth<=1:=by
 have w:=aaV p;have v:(mQ p).shown.length<=10*bY p+6/\(mQ p).showable=true/\(mQ p).depth=0:=by
  cases p with
  |keep n=>
   have h1:1<=n:=ok;have:=xW (i:=n) (by omega) (hk n rfl)
   exact⟨this.1,this.2,rfl⟩
  |put s=>
   have:=L9 (s:=s) ok.1.2;exact⟨zas this.1 (by show 10*s.length+2<=10*s.length+6;omega),this.2,rfl⟩
  |cut s=>
   have:=L9 (s:=s) ok.1.2;exact⟨zas this.1 (by show 10*s.length+2<=10*s.length+6;omega),this.2,rfl⟩
 refine⟨?_,?_,?_⟩
 ·show(tupleText [(PyData.str p.word).shown,(mQ p).shown]).length<=_;have:=L7 [(PyData.str p.word).shown,(mQ p).shown];rw[piled_cons,piled_cons,piled_nil] at this;omega
 ·show((PyData.str p.word).showable && ((mQ p).showable && true))=true;rw[w.2,v.2.1];rfl
 ·show max 0 (max (mQ p).depth 0)+1<=1;rw[v.2.2];decide
abbrev ee(ps:List Pt):PyData:=.list (ps.map toD)
theorem L_:∀ps:List Pt,(∀p∈ps,(toD p).shown.length<=60+10*bY p)->piled (PyData.shownAll<|ps.map toD)<=62*ps.length+10*aA ps
 |[],_=>zqZ _
 |p::ps,h=>by
  show piled ((toD p).shown::PyData.shownAll (ps.map toD))<=_;rw[piled_cons];have h1:=h p (.head _);have h2:=L_ ps fun q hq=>h q (.tail _ hq);have e:aA (p::ps)=bY p+aA ps:=by unfold aA;rw[zaw,zbg]
  rw[e,zay];omega
theorem Ma:∀(ps:List Pt) (n:Int),.keep n∈ps->n.toNat<=b_ ps
 |p::ps,n,h=>by
  rcases zaa.mp h with h|h
  ·rw[<-h];show n.toNat<=n.toNat+b_ ps;omega
  ·have:=Ma ps n h;cases p with
   |keep m=>show n.toNat<=m.toNat+b_ ps;omega
   |put s=>exact this
   |cut s=>show n.toNat<=s.length+b_ ps;omega
theorem Mb(h:gm ps l r)(ht:aA ps<=320)(hl:l.length<=10000):(ee ps).shown.length<=43000/\(ee ps).showable=true/\(ee ps).depth<=2:=by
 have lc:=q9 h ht;have ov:b_ ps=l.length:=Cg h.run;have k:∀p∈ps,(toD p).shown.length<=60+10*bY p/\(toD p).showable=true/\(toD p).depth<=1:=fun p hp=>aaW (h.ok p hp) fun n e=>by
  subst e;have:=Ma ps n hp;have h1:1<=n:=h.ok _ hp;omega
 refine⟨?_,CJ toD ps fun p hp=>(k p hp).2.1,?_⟩
 ·show(listText<|PyData.shownAll<|ps.map toD).length<=_;have h1:=L6 (PyData.shownAll<|ps.map toD);have h2:=L_ ps fun p hp=>(k p hp).1;omega
 ·show PyData.depthAll (ps.map toD)+1<=2;have:=CK toD 1 ps fun p hp=>(k p hp).2.2;omega
def jM(e:Let):PyData:=.tuple [.str "took",.int (e.1:Nat),.int (e.2.1:Nat),.int (e.2.2.1:Nat),ee e.2.2.2]
abbrev kq(es:List Let):PyData:=.list (es.map jM)
def uA(e:Let):Prop:=e.1<=100/\e.2.1<=1000/\e.2.2.1<=100/\(ee e.2.2.2).shown.length<=43000/\(ee e.2.2.2).showable=true/\(ee e.2.2.2).depth<=2
theorem CM{e:Let}(h:uA e):(jM e).shown.length<=43100/\(jM e).showable=true/\(jM e).depth<=3:=by
 obtain⟨h1,h2,h3,h4,h5,h6⟩:=h;have w:(PyData.str "took").shown.length<=42:=by
  have:=StrLaws.reprText_len (Str.ofString "took") (by decide+kernel)
  exact zas this (by decide+kernel)
 have i1:=xW (i:=((e.1:Nat):Int)) (by omega) (by omega)
 have i2:=xW (i:=((e.2.1:Nat):Int)) (by omega) (by omega)
 have i3:=xW (i:=((e.2.2.1:Nat):Int)) (by omega) (by omega)
 refine⟨?_,?_,?_⟩
 ·show(tupleText [(PyData.str "took").shown,(PyData.int (e.1:Nat)).shown,(PyData.int (e.2.1:Nat)).shown,(PyData.int (e.2.2.1:Nat)).shown,(ee e.2.2.2).shown]).length<=_;have:=L7 [(PyData.str "took").shown,(PyData.int (e.1:Nat)).shown,(PyData.int (e.2.1:Nat)).shown,(PyData.int (e.2.2.1:Nat)).shown,(ee e.2.2.2).shown];rw[piled_cons,piled_cons,piled_cons,piled_cons,piled_cons,piled_nil] at this;omega
 ·show(true && ((PyData.int (e.1:Nat)).showable && ((PyData.int (e.2.1:Nat)).showable && ((PyData.int (e.2.2.1:Nat)).showable && ((ee e.2.2.2).showable && true)))))=true;rw[i1.2,i2.2,i3.2,h5];rfl
 ·show max 0 (max 0<|max 0<|max 0<|max (ee e.2.2.2).depth 0)+1<=3;omega
theorem aaX{es:List Let}(hn:es.length<=20)(h:∀e∈es,uA e):(kq es).shown.length<=1000000/\(kq es).showable=true/\(kq es).depth<=30:=by
 refine⟨?_,CJ jM es fun e he=>(CM<|h e he).2.1,?_⟩
 ·show(listText<|PyData.shownAll<|es.map jM).length<=_;have h1:=L6 (PyData.shownAll<|es.map jM);have h2:=L8 jM 43100 es fun e he=>(CM<|h e he).1;have:(43100+2)*es.length<= (43100+2)*20:=Nat.mul_le_mul_left _ hn;omega
 ·show PyData.depthAll (es.map jM)+1<=30;have:=CK jM 3 es fun e he=>(CM<|h e he).2.2;omega
section
variable {K:Frag}{H H':Hp}
theorem Mc{hi:RE}(h:ae Γ a σ H fun x H1=>ae Γ hi σ H1 fun j H3=>∃j':Int,j=.int j'/\oh Γ.K x none (some j') H3 Q):ae Γ (.sl a none<|some hi) σ H Q:=h
theorem aaY{lo hi:RE}(h:ae Γ a σ H fun x H1=>ae Γ lo σ H1 fun i H2=>∃i':Int,i=.int i'/\ae Γ hi σ H2 fun j H3=>∃j':Int,j=.int j'/\oh Γ.K x (some i') (some j') H3 Q):ae Γ (.sl a (some lo)<|some hi) σ H Q:=h
def rf(h n m:Nat):PyData:=.tuple [.str "took",.int (h:Nat),.int (n:Nat),.int (m:Nat)]
theorem CO(h n m:Nat):SeqAt.shaped (rf h n m)=true:=by
 unfold SeqAt.shaped;have e:(rf h n m).canLay0=true:=by
  show(PyData.strOk (Str.ofString "took") && (true && (true && (true && true))))=true
  decide+kernel
 have e2:(rf h n m).depth<=64:=by show 0+1<=64;decide
 rw[e,zqT e2];rfl
theorem aaZ{a b:Addr}{h m:Nat}(ha:H a=some (.tup [.str "took",.int (h:Nat),.int (n:Nat),.int (m:Nat)]))(hb:H b=some (.tup [.str "took",.int (h:Nat),.int (n:Nat),.int (m:Nat)]))(q:Q (.bl false) H):cO K .NotEq (.ref a) (.ref b) H Q:=by
 have is:∀z:Addr,H z=some (.tup [.str "took",.int (h:Nat),.int (n:Nat),.int (m:Nat)])->Is H (rf h n m) (.ref z):=fun z hz=>⟨z,_,rfl,hz,⟨_,_,rfl,rfl,⟨_,_,rfl,rfl,⟨_,_,rfl,rfl,⟨_,_,rfl,rfl,rfl⟩⟩⟩⟩⟩;refine⟨rf h n m,rf h n m,is a ha,is b hb,CO h n m,CO h n m,?_⟩;rw[SeqAt.eqv_refl _<|SeqAt.canLay_of_shaped<|CO h n m];exact q
def uB:Sp:=fun vs H Q E=>∃(t t' l l':Addr) (h n m:Nat) (ps:List Pt),vs=[.ref t,.ref t']/\iN H t h n m ps l/\iN H t' h n m ps l'/\∀H',az H H'->Q (.bl true) H'
theorem aa0(vs:List V)(H:Hp)(Q:VK)(E:XK)(hh:uB vs H Q E):aB (aM K [("_law_whole",ja),("_law_same",lO)] [] (E:=E)) Jb (Dn Q) (start wu vs) H:=by
 obtain⟨t,t',l,l',h,n,m,ps,rfl,⟨ht,xs,hl,pv⟩,⟨jH,fA,dS,iO⟩,q⟩:=hh;refine bZ<|lS<|dH<|ua<|aj rfl<|qv ht<|iF ?_ rfl;refine lS<|cL<|c4<|aj rfl<|xQ ht<|ax<|ub ⟨_,rfl,iF ?_ rfl⟩;refine lS<|dH<|ua<|bD<|aj rfl<|ax<|dJ ht rfl<|ZI<|iF ?_ rfl;refine qY<|cL<|Mc<|aj rfl<|ax ⟨_,rfl,.inr ⟨_,aD.of ht,(by show ¬(HT.aQ 5 0 none=0/\HT.aQ 5 5 (some 4)=5);decide),fun a fa=>?_⟩⟩
 have s1:=sameNew (o:=.tup (dR [V.str "took",.int (h:Nat),.int (n:Nat),.int (m:Nat),.ref l] none<|some 4)) fa;have ha:upd H a (.tup<|dR [V.str "took",.int (h:Nat),.int (n:Nat),.int (m:Nat),.ref l] none<|some 4) a=some (.tup [.str "took",.int (h:Nat),.int (n:Nat),.int (m:Nat)]):=aw;generalize upd H a (.tup<|dR [V.str "took",.int (h:Nat),.int (n:Nat),.int (m:Nat),.ref l] none<|some 4)=H1 at s1 ha⊢;refine Mc<|aj rfl<|ax ⟨_,rfl,.inr ⟨_,aD.of<|s1 _ _ jH,(by show ¬(HT.aQ 5 0 none=0/\HT.aQ 5 5 (some 4)=5);decide),fun b fb=>?_⟩⟩
 have s2:=sameNew (o:=.tup (dR [V.str "took",.int (h:Nat),.int (n:Nat),.int (m:Nat),.ref l'] none<|some 4)) fb;have hb:upd H1 b (.tup<|dR [V.str "took",.int (h:Nat),.int (n:Nat),.int (m:Nat),.ref l'] none<|some 4) b=some (.tup [.str "took",.int (h:Nat),.int (n:Nat),.int (m:Nat)]):=aw;have ha:=s2 _ _ ha;generalize upd H1 b (.tup<|dR [V.str "took",.int (h:Nat),.int (n:Nat),.int (m:Nat),.ref l'] none<|some 4)=H2 at s2 ha hb⊢;refine aaZ ha hb ⟨_,rfl,iF (cM ?_) rfl⟩;have c3:=s1.trans s2;refine bZ<|cL<|c4 ?_;refine aaY<|aj rfl<|ax ⟨_,rfl,ax ⟨_,rfl,.inr ⟨_,aD.of<|c3 _ _ ht,(by show ¬(HT.aQ 5 0 (some 1)=0/\HT.aQ 5 5 (some 4)=5);decide),fun c fc=>?_⟩⟩⟩
 have s3:=sameNew (o:=.tup (dR [V.str "took",.int (h:Nat),.int (n:Nat),.int (m:Nat),.ref l] (some 1)<|some 4)) fc;have hc:upd H2 c (.tup<|dR [V.str "took",.int (h:Nat),.int (n:Nat),.int (m:Nat),.ref l] (some 1)<|some 4) c=some (.tup ([h,n,m].map fun k:Nat=>V.int (k:Nat))):=aw;generalize upd H2 c (.tup<|dR [V.str "took",.int (h:Nat),.int (n:Nat),.int (m:Nat),.ref l] (some 1)<|some 4)=H3 at s3 hc⊢;refine⟨c,rfl,⟨_,aD.of hc⟩,fun i m' ys H4=>m'=3 - i/\i<=3/\ys=[]/\H4=H3,⟨_,rfl,zqZ _,rfl,rfl⟩,?_⟩;rintro i m' ys H4 ⟨rfl,hi,rfl,rfl⟩;by_cases a_:i<3
 ·obtain⟨k,hk⟩:∃k:Nat,([h,n,m].map fun k:Nat=>V.int (k:Nat))[i]?=some (V.int (k:Nat)):=by
   have:i< ([h,n,m]).length:=a_;exact⟨[h,n,m][i],by rw[zaj,zai this];rfl⟩
  refine .inr ⟨⟨_,_,aD.of hc,hk⟩,?_⟩;rintro y H5 ⟨rfl,hx⟩;have hy:=hx _ (aD.of hc);rw[hk] at hy;cases hy;have key:bg (aM K [("_law_whole",ja),("_law_same",lO)] [] (E:=E)).calm (.not<|.call 0 [.v 0]) [some<|.int (k:Nat)] H5 fun b H6=>if b=true then ae (aM K [("_law_whole",ja),("_law_same",lO)] [] (E:=E)).calm (.v 0) [some<|.int (k:Nat)] H6 fun y H7=>(([]:List V).length<sizeLine/\∃fJ,fJ<3 - i/\fJ=3 - (i+1)/\i+1<=3/\[]++[y]=([]:List V)/\H7=H5) else ∃fJ,fJ<3 - i/\fJ=3 - (i+1)/\i+1<=3/\([]:List V)=[]/\H6=H5:=
   dH (jf ja rfl<|ay<|aj rfl<|aN ⟨_,rfl,fH<|iF ⟨_,by lia,rfl,a_,rfl,rfl⟩ rfl⟩)
  exact key
 ·have gT:i=3:=by lia
  subst gT;refine .inl ⟨⟨_,aD.of hc,zqR _⟩,fun d fd=>?_⟩;refine .inl ⟨[],au.of aw,ax ⟨trivial,_,rfl,iF (cM ?_) rfl⟩⟩;have s4:=sameNew (o:=.lst []) fd;have ki:=(c3.trans s3).trans s4;exact dq<|cv lO rfl<|ay<|bD<|aj rfl<|ax<|dJ (ki _ _ ht) rfl<|ay<|bD<|aj rfl<|ax<|dJ (ki _ _ jH) rfl<|aN ⟨l,l',xs,fA,ps,rfl,ki _ _ hl,ki _ _ dS,pv.mono<|bF ki,iO.mono<|bF ki,fun H' s'=>q _<|ki.trans s'⟩
def nh(H:Hp)(v:V)(e:Let):Prop:= ∃t l,v=.ref t/\iN H t e.1 e.2.1 e.2.2.1 e.2.2.2 l
def uC:Sp:=fun vs H Q E=>∃(a b:Addr) (zs ws:List V) (es:List Let),vs=[.ref a,.ref b]/\H a=some (.lst zs)/\H b=some (.lst ws)/\Paired (nh H) zs es/\Paired (nh H) ws es/\es.length<=1000/\∀H',az H H'->Q (.bl true) H'
theorem aa1{x elt c:RE}(h:ae Γ x σ H fun v H1=>∃j:Int,[v]=[.int j]/\ -(2 ^ 62)<=j/\j<2 ^ 62/\∃W:Nat->Nat->List V->Hp->Prop,(∃m,W 0 m [] H1)/\∀i m ys H2,W i m ys H2->
   ((cU 0 j.toNat).stop i H2/\∀p,H2 p=none->Q (.ref p) (upd H2 p<|.lst ys))\/
   ((cU 0 j.toNat).go i H2/\∀x H3,(cU 0 j.toNat).eQ i H2 x H3->iB Γ.K none x H3 fun zs=>jr (some (bg Γ.calm c)) (zs.map some++bX σ fv) H3 fun b H5=>
    if b=true then ae Γ.calm elt (zs.map some++bX σ fv) H5 fun y H6=>ys.length<sizeLine/\∃m',m'<m/\W (i+1) m' (ys++[y]) H6 else ∃m',m'<m/\W (i+1) m' ys H5)):ae Γ (.comp none fv .dz [x] (some c) elt) σ H Q:=h
theorem aa2(vs:List V)(H:Hp)(Q:VK)(E:XK)(hh:uC vs H Q E):aB (aM K [("_law_letter_same",uB)] [] (E:=E)) Jd (Dn Q) (start wu vs) H:=by
 obtain⟨a,b,zs,ws,es,rfl,ha,hb,pz,pw,hl,q⟩:=hh;have lz:=Paired.length pz;have lw:=Paired.length pw;refine bZ<|lS<|dH<|ua<|aj rfl<|As ha<|iF ?_ rfl;refine qY<|cL<|c4<|aj rfl<|.inl ⟨_,au.of ha,c4<|aj rfl<|.inl ⟨_,au.of hb,ub ⟨_,rfl,iF (cM ?_) (by rw[lz,lw,zqT rfl];rfl)⟩⟩⟩
 refine dq<|oX<|c4<|aa1<|c4<|aj rfl<|.inl ⟨_,au.of hb,_,rfl,by lia,by lia,?_⟩
 rw[zax];refine⟨fun i m ys H2=>m=ws.length - i/\i<=ws.length/\ys=[]/\az H H2,⟨_,rfl,zqZ _,rfl,az.refl _⟩,?_⟩;rintro i m ys H2 ⟨rfl,hi,rfl,s2⟩;by_cases a_:i<ws.length
 ·refine .inr ⟨a_,?_⟩;rintro y H3 ⟨rfl,rfl⟩;have e1:ws[i]?=some ws[i]:=zai a_;have e2:zs[i]?=some (zs[i]'(by lia)):=zai (by lia)
  obtain⟨e,he,t',l',ew,yC⟩:=km pw e1;obtain⟨e',ph,t,l,ez,hv⟩:=km pz e2;rw[he] at ph;cases ph;rw[ew] at e1;rw[ez] at e2;have key:bg (aM K [("_law_letter_same",uB)] [] (E:=E)).calm (.not<|.call 0 [(.ix (.v 1)<|.v 0),(.ix (.v 2)<|.v 0)]) [some<|.int ((i:Nat):Int),some<|.ref a,some<|.ref b] H3 fun c H6=>if c=true then ae (aM K [("_law_letter_same",uB)] [] (E:=E)).calm (.v 0) [some<|.int ((i:Nat):Int),some<|.ref a,some<|.ref b] H6 fun y H7=>(([]:List V).length<sizeLine/\∃fJ,fJ<ws.length - i/\fJ=ws.length - (i+1)/\i+1<=ws.length/\[]++[y]=([]:List V)/\az H H7) else ∃fJ,fJ<ws.length - i/\fJ=ws.length - (i+1)/\i+1<=ws.length/\([]:List V)=[]/\az H H6:=by
   refine dH<|jf uB rfl<|ay<|bD<|aj rfl<|aj rfl<|dN (s2 _ _ ha) (de e2)<|ay<|bD<|aj rfl<|aj rfl<|dN (s2 _ _ hb) (de e1)<|aN ⟨t,t',l,l',_,_,_,_,rfl,hv.same s2,yC.same s2,fun H6 s6=>fH<|iF ⟨_,by lia,rfl,a_,rfl,s2.trans s6⟩ rfl⟩
  have k2:=key;rw[show((i:Nat):Int)=0+(i:Int) by lia] at k2
  exact k2
 ·have gT:i=ws.length:=by lia
  subst gT;refine .inl ⟨zqR _,fun d fd=>?_⟩;refine .inl ⟨[],au.of aw,ax<|kl ?_⟩;rw[zqT (show(((([]:List V).length:Nat)):Int)=0 from rfl)]
  exact q _<|s2.trans<|sameNew fd
end
structure Ad where
 p:Addr
 dx:Addr
 se:Addr
 ch:Addr
 mq:Addr
 dr:Addr
 rs:Addr
 rt:Addr
 rx:Addr
 rh:Addr
abbrev Ad.M(A:Ad):List Addr:=[A.p,A.se,A.ch,A.mq,A.rs,A.rt,A.rx,A.rh]
abbrev iP(A:Ad):List (Key×V):=[(.inr "serials",.ref A.rs),(.inr "taken",.ref A.rt),(.inr "texts",.ref A.rx),(.inr "held",.ref A.rh)]
def Md(M:List Addr)(H:Hp)(d:PyData)(v:V):Prop:= ∀H',aY M H H'->Is H' d v
def kr(M:List Addr)(H:Hp)(v:V):Prop:= ∃(t a:Addr) (d:PyData),v=.ref t/\H t=some (.tup [.ref a,.str d.shown])/\Md M H d (.ref a)/\d.showable=true/\d.depth<=30/\d.shown.length<=1000000
def pk(M:List Addr)(H:Hp)(v:V)(e:Nat×List Pt):Prop:= ∃t a xs,v=.ref t/\H t=some (.tup [.int (e.1:Nat),.ref a])/\H a=some (.lst xs)/\aJ H xs e.2/\a∉M
structure lT (M:List Addr) (H:Hp) (A:Ad) (ak:List Nat) (tk:List (Nat×List Pt)) (tx:List (List Nat)) (hs:List V):Prop where
 hd:H A.dr=some (.dK<|iP A)
 eZ:H A.rs=some (.lst<|nV ak)
 cm:∃cp,H A.rt=some (.lst cp)/\Paired (pk M H) cp tk
 gu:H A.rx=some (.lst<|sV tx)
 eI:H A.rh=some (.lst hs)
 hh:∀v∈hs,kr M H v
structure Pu (x:Str) (ak:List Nat) (tk:List (Nat×List Pt)) (tx:List (List Nat)):Prop where
 T:Taken tx tk
 tl:tx[tk.length]?=some x.cps.toList
 gx:good x
 gt:∀l∈tx,l.length<=10000/\∀c∈l,SG.cps.contains c=true
 ls:1<=ak.length/\ak.length<=8
 mk':∀e∈tk,e.1<ak.length
def ip(M:List Addr)(H:Hp):Prop:= ∀m∈M,∃o,H m=some o/\∀us,o≠ .tup us
structure bA (M:List Addr) (C:Addr) (H:Hp) (A:Ad) (x:Str) (ak:List Nat) (tk:List (Nat×List Pt)) (tx:List (List Nat)) (hs:List V):Prop where
 sv:c_ M C H A.p A.dx A.se A.ch A.mq x ak tk
 ro:lT M H A ak tk tx hs
 pu:Pu x ak tk tx
 nd:A.M.Nodup
 sub:∀m∈A.M,m∈M
 ml:ip M H
section
variable {K:Frag}{M:List Addr}{C:Addr}{H H':Hp}{A:Ad}{x:Str}{ak:List Nat}{tk:List (Nat×List Pt)}{tx:List (List Nat)}{hs:List V}
theorem rg(h:H A.dr=some (.dK<|iP A)):fo H A.dr (.str "serials") (some<|.ref A.rs):=by
 have:=fo.k (k:=.inr "serials") h;rw[nX rfl] at this;exact this
theorem jN(h:H A.dr=some (.dK<|iP A)):fo H A.dr (.str "taken") (some<|.ref A.rt):=by
 have:=fo.k (k:=.inr "taken") h;rw[jX (show ¬(Sum.inr "serials":Key)=.inr "taken" by decide+kernel),nX rfl] at this;exact this
theorem xX(h:H A.dr=some (.dK<|iP A)):fo H A.dr (.str "texts") (some<|.ref A.rx):=by
 have:=fo.k (k:=.inr "texts") h;rw[jX (show ¬(Sum.inr "serials":Key)=.inr "texts" by decide+kernel),jX (show ¬(Sum.inr "taken":Key)=.inr "texts" by decide+kernel),nX rfl] at this;exact this
theorem xY(h:H A.dr=some (.dK<|iP A)):fo H A.dr (.str "held") (some<|.ref A.rh):=by
 have:=fo.k (k:=.inr "held") h;rw[jX (show ¬(Sum.inr "serials":Key)=.inr "held" by decide+kernel),jX (show ¬(Sum.inr "taken":Key)=.inr "held" by decide+kernel),jX (show ¬(Sum.inr "texts":Key)=.inr "held" by decide+kernel),nX rfl] at this;exact this
theorem az.bm(s:az H H'):aY M H H':=fun b o e _=>s b o e
theorem aY.trans{Me:Hp}(a:aY M H H')(b:aY M H' Me):aY M H Me:=fun z o e hz=>b _ _ (a _ _ e hz) hz
theorem aY.tup(n:ip M H)(b:aY M H H'):eh H H':=fun z us e=>b _ _ e fun hm=>by
 obtain⟨o,ho,hn⟩:=n z hm;rw[e] at ho;cases ho;exact hn us rfl
theorem kr.but(h:kr M H v)(n:ip M H)(b:aY M H H'):kr M H' v:=by
 obtain⟨t,a,d,e,h1,h2,h3⟩:=h;exact⟨t,a,d,e,aY.tup n b _ _ h1,fun H2 b2=>h2 H2<|b.trans b2,h3⟩
theorem m9.but(h:m9 M H v ps)(n:ip M H)(b:aY M H H'):m9 M H' v ps:=by
 obtain⟨a,xs,e,h1,h2,h3⟩:=h;exact⟨a,xs,e,b _ _ h1 h3,h2.mono<|aY.tup n b,h3⟩
theorem pk.but{e:Nat×List Pt}(h:pk M H v e)(n:ip M H)(b:aY M H H'):pk M H' v e:=by
 obtain⟨t,a,xs,e,h0,h1,h2,h3⟩:=h;exact⟨t,a,xs,e,aY.tup n b _ _ h0,b _ _ h1 h3,h2.mono<|aY.tup n b,h3⟩
theorem bA.same(S:bA M C H A x ak tk tx hs)(s:az H H'):bA M C H' A x ak tk tx hs:=by
 obtain⟨cp,h1,h2⟩:=S.ro.cm;exact⟨S.sv.same s,⟨s _ _ S.ro.hd,s _ _ S.ro.eZ,⟨cp,s _ _ h1,Paired.cH h2 fun _ _ z=>z.but S.ml (az.bm s)⟩,s _ _ S.ro.gu,s _ _ S.ro.eI,fun v hv=>(S.ro.hh v hv).but S.ml<|az.bm s⟩,S.pu,S.nd,S.sub,fun m hm=>let ⟨o,e,h⟩:=S.ml m hm;⟨o,s _ _ e,h⟩⟩
theorem bA.nr(S:bA M C H A x ak tk tx hs):(A.rh≠A.p/\A.rh≠A.se/\A.rh≠A.ch/\A.rh≠A.mq/\A.rh≠A.rs/\A.rh≠A.rt/\A.rh≠A.rx)/\A.rh∈M/\A.rh≠A.dr:=by
 have nd:=S.nd
 simp only[Ad.M,zaE,zaa,zab,or_false,not_or] at nd
 refine⟨⟨fun z=>nd.1.2.2.2.2.2.2 z.symm,fun z=>nd.2.1.2.2.2.2.2 z.symm,fun z=>nd.2.2.1.2.2.2.2 z.symm,fun z=>nd.2.2.2.1.2.2.2 z.symm,fun z=>nd.2.2.2.2.1.2.2 z.symm,fun z=>nd.2.2.2.2.2.1.2 z.symm,fun z=>nd.2.2.2.2.2.2.1 z.symm⟩,S.sub _ (by simp),fun z=>?_⟩
 have:=S.ro.eI;rw[z,S.ro.hd] at this;cases this
theorem bA.held(S:bA M C H A x ak tk tx hs)(hv:kr M H v):bA M C (upd H A.rh<|.lst<|hs++[v]) A x ak tk tx (hs++[v])/\aY M H (upd H A.rh<|.lst<|hs++[v]):=by
 obtain⟨⟨n1,n2,n3,n4,n5,n6,n7⟩,hm,n8⟩:=S.nr;have b:aR A.rh H (upd H A.rh<|.lst<|hs++[v]):=aR.upd;have bm:aY M H (upd H A.rh<|.lst<|hs++[v]):=fun z o e hz=>b _ _ e fun q=>hz (q ▸ hm);obtain⟨cp,h1,h2⟩:=S.ro.cm;obtain⟨bH,c1,c2⟩:=S.sv.bu;refine⟨⟨⟨b _ _ S.sv.ob n1.symm,b _ _ S.sv.cA n2.symm,⟨bH,b _ _ c1 n3.symm,Paired.cH c2 fun _ _ z=>z.but S.ml bm⟩,b _ _ S.sv.gh n4.symm,S.sv.nd,S.sv.mm⟩,⟨b _ _ S.ro.hd n8.symm,b _ _ S.ro.eZ n5.symm,⟨cp,b _ _ h1 n6.symm,Paired.cH h2 fun _ _ z=>z.but S.ml bm⟩,b _ _ S.ro.gu n7.symm,aw,fun w hw=>?_⟩,S.pu,S.nd,S.sub,fun m wo=>?_⟩,bm⟩
 ·rcases zaf.mp hw with hw|hw
  ·exact(S.ro.hh w hw).but S.ml bm
  ·rw[zag.mp hw];exact hv.but S.ml bm
 ·by_cases e:m=A.rh
  ·rw[e];exact⟨_,aw,fun us z=>by cases z⟩
  ·obtain⟨o,ho,hn⟩:=S.ml m wo;exact⟨o,b _ _ ho e,hn⟩
theorem CQ(h:ae Γ a σ H fun x H1=>wj Γ.K [x] H1 Q):ae Γ (.xt qm [a]) σ H Q:=h
theorem aa3(h:ae Γ o σ H fun x H1=>nS Γ.K "list" x H1/\pY Γ.K .pop x [] H1 Q):ae Γ (.bz .pop o []) σ H Q:=h
theorem xZ(h:ae Γ o σ H fun x H1=>nS Γ.K "list" x H1/\pY Γ.K .clear x [] H1 Q):ae Γ (.bz .clear o []) σ H Q:=h
theorem Mf(P:Pu x ak tk tx){m:Nat}(h:tk[j]?=some (m,ps)):(ee ps).shown.length<=43000/\(ee ps).showable=true/\(ee ps).depth<=2:=by
 have hj:=(zap.mp h).1;have e1:tx[j]?=some (tx[j]'(by rw[P.T.len];lia)):=zai _
 have e2:tx[j+1]?=some (tx[j+1]'(by rw[P.T.len];lia)):=zai _
 obtain⟨c,t⟩:=P.T.chg j m ps _ _ h e1 e2;exact Mb c t (P.gt _<|List.getElem_mem _).1
theorem Mg{b:RE}(h:ae Γ a σ H fun x H1=>ae Γ b σ H1 fun y H2=>i4 Γ.K .min [x,y] H2 Q):ae Γ (.blt .min [a,b]) σ H Q:=h
theorem Mh{i j:Int}(q:Q (.int (if j<i then j else i)) H):i4 K .min [.int i,.int j] H Q:=q
def CS(C:Addr):Sp:=fun vs H Q E=>∃(M:List Addr) (A:Ad) (x:Str) (ak:List Nat) (tk:List (Nat×List Pt)) (tx:List (List Nat)) (hs:List V) (c:Int),vs=[.ref A.p,.ref A.dr,.int c]/\bA M C H A x ak tk tx hs/\hs.length<=10000/\tk.length<=20/\
 ∀aP H',bA M C H' A x ak tk tx aP->aP.length<=hs.length+4->aY M H H'->Q (.bl true) H'
abbrev Mi(K:Frag)(C:Addr)(E:XK):bo:=aM K [("_law_same",lO)] [] [] [("change",C,um C)] (E:=E)
theorem aa4(vs:List V)(H:Hp)(Q:VK)(E:XK)(hh:CS C vs H Q E):aB (Mi K C E) Jg (Dn Q) (start Jf vs) H:=by
 obtain⟨M,A,x,ak,tk,tx,hs,c,rfl,S,lh,lk,q⟩:=hh;obtain⟨cp,cm,eE⟩:=S.ro.cm;have ku:=Paired.length eE;refine bK<|c4<|dt<|aj rfl<|ax ⟨A.dr,_,rfl,jN S.ro.hd,.inl ⟨_,au.of cm,?_⟩⟩;rw[ku];refine BP<|Mg<|aj rfl<|ax<|Mh ?_;generalize hmn:(if (4:Int) < ((tk.length:Nat):Int) then (4:Int) else ((tk.length:Nat):Int))=mn
 have mn4:0<=mn/\mn<=4/\mn<=tk.length:=by rw[<-hmn];split<;>lia
 refine⟨mn,rfl,by lia,by lia,vh (lo:=0) (fun i σ H2=>∃(u4 u5 u6:Option V) (aP:List V),σ=[some<|.ref A.p,some<|.ref A.dr,some<|.int c,some<|.int ((tk.length:Nat):Int),u4,u5,u6]/\bA M C H2 A x ak tk tx aP/\aP.length<=hs.length+i/\aY M H H2) ⟨none,none,none,hs,rfl,S,zqR _,fun _ _ e _=>e⟩ ?_ ?_⟩
 ·rintro i σ H2 hi ⟨u4,u5,u6,cf,rfl,S2,l2,b2⟩;have hi4:i<4/\0<tk.length:=by lia
  show aB (Mi K C E) _ _ [some<|.ref A.p,some<|.ref A.dr,some<|.int c,some<|.int ((tk.length:Nat):Int),some<|.int<|0+(i:Int),u5,u6] H2;refine bK<|br<|ax<|br<|br<|aj rfl<|br<|aj rfl<|br<|aj rfl<|ax<|o7<|Lx (.inl ⟨by lia,by lia⟩)<|gX<|aj rfl<|il (by lia)<|gX ?_
  have m0:=zaA (c+(0+(i:Int))* (((tk.length:Nat):Int) - 1)) (show((tk.length:Nat):Int)≠0 by lia)
  have m1:=zaB (c+(0+(i:Int))* (((tk.length:Nat):Int) - 1)) (show(0:Int) < ((tk.length:Nat):Int) by lia)
  obtain⟨j,hj⟩:=zaR m0;rw[hj] at m1⊢;rw[show(1:Int)+((j:Nat):Int)=((j+1:Nat):Int) by lia]
  have mL:j<tk.length:=by lia
  obtain⟨⟨m,ps⟩,gC⟩:∃e,tk[j]?=some e:=⟨_,zai mL⟩;refine bK<|mX C (um C) rfl<|aj rfl ⟨A.p,A.dx,_,rfl,S2.sv.ob,e_,aj rfl ⟨M,A.p,A.dx,A.se,A.ch,A.mq,x,ak,tk,j,m,ps,rfl,S2.sv,gC,fun l H3 xs s3 fl hl pv=>?_⟩⟩;have S3:=S2.same s3;obtain⟨Mj,uD,Ml⟩:=S3.ro.cm;have aew:=Paired.length Ml;have e3:Mj[j]?=some (Mj[j]'(by lia)):=zai (by lia)
  obtain⟨e',ph,t,a,ys,et,e8,CT,CU,naM⟩:=km Ml e3;rw[gC] at ph;cases ph;rw[et] at e3;refine bZ<|dH<|jf lO rfl<|ay<|aj rfl<|ay<|bD<|bD<|dt<|aj rfl<|ax ⟨A.dr,_,rfl,jN S3.ro.hd,br<|aj rfl<|ax<|o7 ?_⟩;rw[show(((j+1:Nat):Int) - 1)=((j:Nat):Int) by lia]
  refine dN uD (de e3)<|ax<|dJ e8 rfl<|aN ⟨l,a,xs,ys,ps,rfl,hl,CT,pv,CU,fun H4 s4=>fH<|iF (cM ?_) rfl⟩;have S4:=S3.same s4;have CV:=s4 _ _ hl;have Mm:=pv.mono (bF s4);obtain⟨Mn,uE,Mo⟩:=Mf S.pu gC;have is4:Is H4 (ee ps) (.ref l):=⟨l,xs,rfl,CV,qF Mm⟩;refine eO<|lJ<|dt<|aj rfl<|ax ⟨A.dr,_,rfl,xY S4.ro.hd,⟨.inl ⟨rfl,_,au.of S4.ro.eI⟩,gk<|ay<|aj rfl<|ay<|CQ<|aj rfl ⟨l,ee ps,rfl,is4,uE,by lia,by lia,aN ⟨dc,fun w fw=>?_⟩⟩⟩⟩
  have s5:=sameNew (o:=.tup [V.ref l,V.str (ee ps).shown]) fw;have hw:upd H4 w (.tup [V.ref l,V.str (ee ps).shown]) w=some (.tup [V.ref l,V.str (ee ps).shown]):=aw;generalize upd H4 w (.tup [V.ref l,V.str (ee ps).shown])=H5 at s5 hw⊢;have S5:=S4.same s5;have uF:=(s3.trans s4).trans s5;have Mp:l∉M:=fun hm=>by obtain⟨o,ho,_⟩:=S2.ml l hm;rw[fl] at ho;cases ho
  have o5:kr M H5 (.ref w):=⟨w,l,ee ps,rfl,hw,fun H6 b6=>⟨l,xs,rfl,b6 _ _ (s5 _ _ CV) Mp,qF<|(Mm.mono<|bF s5).mono<|aY.tup S5.ml b6⟩,uE,by lia,by lia⟩
  obtain⟨S6,b6⟩:=S5.held o5;refine⟨cf,S5.ro.eI,dm (by lia),?_⟩
  have CW:upd H5 A.rh (.lst<|cf++[.ref w]) A.rh=some (.lst<|cf++[.ref w]):=aw;have CY:aR A.rh H5 (upd H5 A.rh<|.lst<|cf++[.ref w]):=aR.upd;generalize upd H5 A.rh (.lst<|cf++[.ref w])=H6 at S6 b6 CW CY⊢;refine bZ<|cL<|br<|aj rfl<|ax<|il (by decide)<|ax<|kl ⟨_,rfl,dC (fun _=>?_)<|fun _=>cM ?_⟩
  ·
   refine eO<|aa3<|dt<|aj rfl<|ax ⟨A.dr,_,rfl,xY S6.ro.hd,⟨.inl ⟨rfl,_,au.of CW⟩,_,.ref w,CW,by simp,?_⟩⟩
   rw[List.dropLast_concat];have Mq:l≠A.rh:=fun z=>Mp (z ▸ S2.nr.2.1);have hl6:=CY _ _ (s5 _ _ CV) Mq;have CZ:aR A.rh H6 (upd H6 A.rh<|.lst cf):=aR.upd;have C0:=CZ _ _ hl6 Mq;have Mr:upd H6 A.rh (.lst cf) A.rh=some (.lst cf):=aw;generalize upd H6 A.rh (.lst cf)=H7 at CZ C0 Mr⊢;refine eO<|xZ<|aj rfl ⟨.inl ⟨rfl,_,au.of C0⟩,_,C0,?_⟩;have sm:az H2 (upd H7 l<|.lst []):=fun z o e=>by
    rw[aC<|aK e fl];by_cases zr:z=A.rh
    ·subst zr;rw[S2.ro.eI] at e;cases e;exact Mr
    ·exact CZ _ _ (CY _ _ (uF _ _ e) zr) zr
   exact⟨_,_,_,cf,rfl,S2.same sm,by lia,b2.trans<|az.bm sm⟩
  ·exact⟨_,_,_,cf++[.ref w],rfl,S6,by rw[zqA];show cf.length+1<=_;lia,b2.trans<|(az.bm uF).trans b6⟩
 ·rintro σ H2 ⟨u4,u5,u6,cf,rfl,S2,l2,b2⟩;exact dq<|ax<|q cf H2 S2 (by lia) b2
end
section
variable {K:Frag}{M:List Addr}{C:Addr}{H H':Hp}{A:Ad}{x:Str}{ak:List Nat}{tk:List (Nat×List Pt)}{tx:List (List Nat)}{hs:List V}
theorem Ms(P:Pu x ak tk tx):∃Bs,sV tx=Bs++[.str x]:=by
 obtain⟨Bs,z,e⟩:=B3 (show tx≠ [] by intro z;have:=P.T.len;rw[z] at this;cases this)
 have h1:=P.tl;have h2:=P.T.len;have hb:Bs.length=tk.length:=by rw[e,zqA] at h2;exact Nat.succ.inj h2
 rw[e,zaS (by lia),hb,zaY] at h1
 have hz:z=x.cps.toList:=by cases h1;rfl
 refine⟨sV Bs,?_⟩;rw[e];unfold sV;rw[zak,hz];show _++[V.str ⟨x.cps.toList.toArray⟩]=_;rw[B4]
def x3(C:Addr):Sp:=fun vs H Q E=>∃(M:List Addr) (A:Ad) (x:Str) (ak:List Nat) (tk:List (Nat×List Pt)) (tx:List (List Nat)) (hs:List V) (c:Int),vs=[.ref A.p,.ref A.dr,.int c]/\bA M C H A x ak tk tx hs/\hs.length<=5000/\tk.length<=20/\
 ∀aP H',bA M C H' A x ak tk tx aP->aP.length<=hs.length+12->aY M H H'->Q (.bl true) H'
abbrev uG(K:Frag)(C:Addr)(E:XK):bo:=aM K [("_law_whole",ja),("_law_changes_right",CS C)] [] [] [("many",C,jL C),("text",C,Cm C)] (E:=E)
theorem aa9(vs:List V)(H:Hp)(Q:VK)(E:XK)(hh:x3 C vs H Q E):aB (uG K C E) Jk (Dn Q) (start Jj vs) H:=by
 obtain⟨M,A,x,ak,tk,tx,hs,c,rfl,S,lh,lk,q⟩:=hh;refine BP<|ax ⟨3,rfl,by decide,by decide,vh (lo:=0) (fun i σ H2=>∃(u3 u4:Option V) (aP:List V),σ=[some<|.ref A.p,some<|.ref A.dr,some<|.int c,u3,u4]/\bA M C H2 A x ak tk tx aP/\aP.length<=hs.length+4*i/\aY M H H2) ⟨none,none,hs,rfl,S,zqR _,fun _ _ e _=>e⟩ ?_ ?_⟩
 ·rintro i σ H2 hi ⟨u3,u4,cf,rfl,S2,l2,b2⟩;have Mt:i<3:=hi;show aB (uG K C E) _ _ [some<|.ref A.p,some<|.ref A.dr,some<|.int c,some<|.int<|0+(i:Int),u4] H2;refine bK<|br<|br<|aj rfl<|br<|aj rfl<|br<|ax<|br<|br<|aj rfl<|ax<|jJ ⟨by decide,by decide⟩<|ax<|il (by decide)<|gX<|Lx (.inl ⟨by lia,by lia⟩)<|gX<|ax<|il (by decide) ?_
  have t0:=zaA (c+(0+(i:Int))* (1+c / 3 % 2)) (show(3:Int)≠0 by decide)
  have t3:=zaB (c+(0+(i:Int))* (1+c / 3 % 2)) (show(0:Int) <3 by decide)
  generalize (c+(0+(i:Int))* (1+c / 3 % 2)) % 3=t at t0 t3⊢;obtain⟨cp,cm,eE⟩:=S2.ro.cm;have ku:=Paired.length eE;obtain⟨Bs,hB⟩:=Ms S.pu;have gu:H2 A.rx=some (.lst<|Bs++[.str x]):=by rw[S2.ro.gu,hB]
  have mn:∀{Q1:VK},Q1 (.int ((tk.length:Nat):Int)) H2->ae (uG K C E) (.bj 0 "many" (.v 0) []) [some<|.ref A.p,some<|.ref A.dr,some<|.int c,some<|.int<|0+(i:Int),some<|.int t] H2 Q1:=fun q1=>mW C (jL C) rfl (aj rfl ⟨A.p,A.dx,_,rfl,S2.sv.ob,e_,M,A.p,A.dx,A.se,A.ch,A.mq,x,ak,tk,rfl,S2.sv,q1⟩);have go:∀H3,bA M C H3 A x ak tk tx cf->H3=H2->True:=fun _ _ _=>trivial;have Mu:∀{D:Ends},(∀(u3 u4:Option V) (aP:List V) (H5:Hp),bA M C H5 A x ak tk tx aP->aP.length<=hs.length+4* (i+1)->aY M H H5->D.nx [some<|.ref A.p,some<|.ref A.dr,some<|.int c,u3,u4] H5)->aB (uG K C E) [.ite (.and [(.cmp .Eq (.v 4)<|.c<|.int 2),(.not<|.call 1 [.v 0,.v 1,(.bin .FloorDiv (.v 2)<|.c<|.int 6)])]) [.ret<|.c<|.bl false] []] D [some<|.ref A.p,some<|.ref A.dr,some<|.int c,some<|.int<|0+(i:Int),some<|.int t] H2:=fun {D} k=>by
   refine bZ<|t_<|cL<|aj rfl<|ax<|kl ⟨_,rfl,dC (fun _=>?_)<|fun _=>iF (cM<|k _ _ cf H2 S2 (by lia) b2) rfl⟩
   exact dH<|jf (CS C) rfl<|ay<|aj rfl<|ay<|aj rfl<|ay<|br<|aj rfl<|ax<|jJ ⟨by decide,by decide⟩<|aN ⟨M,A,x,ak,tk,tx,cf,_,rfl,S2,by lia,lk,fun hs5 H5 S5 l5 b5=>fH<|iF (cM<|k _ _ hs5 H5 S5 (by lia)<|b2.trans b5) rfl⟩
  have Mv:∀{D:Ends},(∀(u3 u4:Option V) (aP:List V) (H5:Hp),bA M C H5 A x ak tk tx aP->aP.length<=hs.length+4* (i+1)->aY M H H5->D.nx [some<|.ref A.p,some<|.ref A.dr,some<|.int c,u3,u4] H5)->aB (uG K C E) [.ite (.and [(.cmp .Eq (.v 4)<|.c<|.int 1),(.cmp .NotEq (.bj 1 "text" (.v 0) [])<|.ix (.bQ (.v 1)<|.c<|.str "texts")<|.neg<|.c<|.int 1)]) [.ret<|.c<|.bl false] [],.ite (.and [(.cmp .Eq (.v 4)<|.c<|.int 2),(.not<|.call 1 [.v 0,.v 1,(.bin .FloorDiv (.v 2)<|.c<|.int 6)])]) [.ret<|.c<|.bl false] []] D [some<|.ref A.p,some<|.ref A.dr,some<|.int c,some<|.int<|0+(i:Int),some<|.int t] H2:=fun {D} k=>by
   refine bZ<|t_<|cL<|aj rfl<|ax<|kl ⟨_,rfl,dC (fun _=>?_)<|fun _=>iF (cM<|Mu k) rfl⟩;exact cL<|mW C (Cm C) rfl<|aj rfl ⟨A.p,A.dx,_,rfl,S2.sv.ob,e_,M,A.p,A.dx,A.se,A.ch,A.mq,x,ak,tk,rfl,S2.sv,bD<|dt<|aj rfl<|ax ⟨A.dr,_,rfl,xX S2.ro.hd,qP<|dN gu (pR _ _)<|Ld ⟨_,rfl,iF (cM<|Mu k) rfl⟩⟩⟩
  have fin:∀(u3 u4:Option V) (aP:List V) (H5:Hp),bA M C H5 A x ak tk tx aP->aP.length<=hs.length+4* (i+1)->aY M H H5->∃(v3 v4:Option V) (Mw:List V),[some<|.ref A.p,some<|.ref A.dr,some<|.int c,u3,u4]=[some<|.ref A.p,some<|.ref A.dr,some<|.int c,v3,v4]/\bA M C H5 A x ak tk tx Mw/\Mw.length<=hs.length+4* (i+1)/\aY M H H5:=fun u3 u4 aP H5 a b c=>⟨u3,u4,aP,rfl,a,b,c⟩;refine bZ<|t_<|cL<|aj rfl<|ax<|kl ⟨_,rfl,dC (fun _=>?_)<|fun _=>iF (cM<|Mv fin) rfl⟩;refine lS<|dH<|jf ja rfl<|ay<|mn<|aN ⟨_,rfl,fH<|iF ?_ rfl⟩;refine qY<|cL<|mn<|c4<|dt<|aj rfl<|ax ⟨A.dr,_,rfl,jN S2.ro.hd,.inl ⟨_,au.of cm,ub ⟨_,rfl,iF (cM<|Mv fin) (by rw[ku,zqT rfl];rfl)⟩⟩⟩
 ·rintro σ H2 ⟨u3,u4,cf,rfl,S2,l2,b2⟩;exact dq<|ax<|q cf H2 S2 (by have:(3:Int).toNat=3:=rfl;lia) b2
def rj(Bs:List Addr)(H:Hp)(v:V)(e:Let):Prop:= ∃t l,v=.ref t/\iN H t e.1 e.2.1 e.2.2.1 e.2.2.2 l/\l∉Bs
theorem bA.weak(S:bA (Bs++M) C H A x ak tk tx hs)(hM:∀m∈A.M,m∈M):bA M C H A x ak tk tx hs:=by
 have up:∀z,z∈M->z∈Bs++M:=fun z hz=>zaq _ hz;obtain⟨cp,h1,h2⟩:=S.ro.cm;obtain⟨bH,c1,c2⟩:=S.sv.bu;refine⟨⟨S.sv.ob,S.sv.cA,⟨bH,c1,Paired.cH c2 fun _ _ ⟨a,xs,e1,e2,e3,e4⟩=>⟨a,xs,e1,e2,e3,fun z=>e4<|up _ z⟩⟩,S.sv.gh,S.sv.nd,⟨hM _ (by simp),hM _ (by simp),hM _ (by simp)⟩⟩,⟨S.ro.hd,S.ro.eZ,⟨cp,h1,Paired.cH h2 fun _ _ ⟨t,a,xs,e1,e2,e3,e4,e5⟩=>⟨t,a,xs,e1,e2,e3,e4,fun z=>e5<|up _ z⟩⟩,S.ro.gu,S.ro.eI,fun v hv=>?_⟩,S.pu,S.nd,hM,fun m hm=>S.ml m<|up m hm⟩
 obtain⟨t,a,d,e,h1,h2,h3⟩:=S.ro.hh v hv;exact⟨t,a,d,e,h1,fun H' b=>h2 H' fun z o e hz=>b z o e fun q=>hz (up z q),h3⟩
theorem bA.own(S:bA (Bs++M) C H A x ak tk tx hs)(hB:∀b∈Bs,∃xs,H b=some (.lst xs))(dj:∀b∈Bs,b∉A.M)(b:aY Bs H H')(C1:∀b∈Bs,∃xs,H' b=some (.lst xs)):bA (Bs++M) C H' A x ak tk tx hs:=by
 have bm:aY (Bs++M) H H':=fun z o e hz=>b z o e fun q=>hz (zaK _ q);have nb:∀m∈A.M,m∉Bs:=fun m hm hb=>dj m hb hm;have nd:A.dr∉Bs:=fun hb=>by obtain⟨xs,e⟩:=hB _ hb;rw[S.ro.hd] at e;cases e
 obtain⟨cp,h1,h2⟩:=S.ro.cm;obtain⟨bH,c1,c2⟩:=S.sv.bu;refine⟨⟨b _ _ S.sv.ob<|nb _ (by simp),b _ _ S.sv.cA<|nb _ (by simp),⟨bH,b _ _ c1<|nb _ (by simp),Paired.cH c2 fun _ _ z=>z.but S.ml bm⟩,b _ _ S.sv.gh<|nb _ (by simp),S.sv.nd,S.sv.mm⟩,⟨b _ _ S.ro.hd nd,b _ _ S.ro.eZ<|nb _ (by simp),⟨cp,b _ _ h1<|nb _ (by simp),Paired.cH h2 fun _ _ z=>z.but S.ml bm⟩,b _ _ S.ro.gu<|nb _ (by simp),b _ _ S.ro.eI<|nb _ (by simp),fun v hv=>(S.ro.hh v hv).but S.ml bm⟩,S.pu,S.nd,S.sub,fun m hm=>?_⟩
 by_cases hb:m∈Bs
 ·obtain⟨xs,e⟩:=C1 m hb;exact⟨_,e,fun us z=>by cases z⟩
 ·obtain⟨o,ho,hn⟩:=S.ml m hm;exact⟨o,b _ _ ho hb,hn⟩
theorem Mx{H0:Hp}(n:ip M H)(b:aY M H H'):∀{zs:List V}{ah:List (Let×Addr)},Paired (da H0 H) zs ah->(∀l∈ah.map (·.2),l∉M)->IsL H' ((ah.map (·.1)).map jM) zs
 |_,_,.nil,_=>rfl
 |_,_,.cons a r,h=>by
  obtain⟨t,e,⟨h1,xs,h2,h3⟩,_⟩:=a;have tt:=aY.tup n b;refine⟨_,_,rfl,⟨t,_,e,tt _ _ h1,⟨_,_,rfl,rfl,⟨_,_,rfl,rfl,⟨_,_,rfl,rfl,⟨_,_,rfl,rfl,⟨_,_,rfl,⟨_,xs,rfl,b _ _ h2<|h _<|.head _,qF<|h3.mono tt⟩,rfl⟩⟩⟩⟩⟩⟩,Mx n b r fun l hl=>h l (.tail _ hl)⟩
end
section
variable {K:Frag}{M:List Addr}{C:Addr}{H H':Hp}{A:Ad}{x:Str}{ak:List Nat}{tk:List (Nat×List Pt)}{tx:List (List Nat)}{hs:List V}
structure C2 (M:List Addr) (C:Addr) (H0 H:Hp) (A:Ad) (x:Str) (ak:List Nat) (tk:List (Nat×List Pt)) (tx:List (List Nat)) (hs:List V) (L D:Addr) (zs ws:List V) (ah:List (Let×Addr)):Prop where
 s:bA ((L::ah.map (·.2))++M) C H A x ak tk tx hs
 sub:∀m∈A.M,m∈M
 dj:∀b∈L::ah.map (·.2),b∉M
 hL:H L=some (.lst zs)
 pz:Paired (da H0 H) zs ah
 nd:(ah.map (·.2)).Nodup
 nL:L∉ah.map (·.2)
 hD:H D=some (.lst ws)
 nD:D∉L::ah.map (·.2)
 pw:Paired (rj (L::ah.map (·.2)) H) ws (ah.map (·.1))
 ok:∀e∈ah.map (·.1),uA e
 pA:ah.length<=20
 lh:hs.length<=5000
def uH(C:Addr):Sp:=fun vs H Q E=>∃(M:List Addr) (A:Ad) (x:Str) (ak:List Nat) (tk:List (Nat×List Pt)) (tx:List (List Nat)) (hs:List V) (L D:Addr) (zs ws:List V) (ah:List (Let×Addr)) (H0:Hp) (c:Int),vs=[.ref A.dr,.ref L,.ref D,.int c]/\C2 M C H0 H A x ak tk tx hs L D zs ws ah/\
 ∀aP H',bA M C H' A x ak tk tx aP->aP.length<=hs.length+1->aY ((L::ah.map (·.2))++M) H H'->Q (.bl true) H'
theorem rm{H0 H:Hp}:∀{zs:List V}{ah:List (Let×Addr)},Paired (da H0 H) zs ah->∀l∈ah.map (·.2),∃xs,H l=some (.lst xs)
 |_,_,.nil,l,h=>by cases h
 |_,_,.cons a r,l,h=>by
  rcases zaa.mp h with h|h
  ·obtain⟨t,_,⟨_,xs,e,_⟩,_⟩:=a;exact⟨xs,by rw[h];exact e⟩
  ·exact rm r l h
abbrev My(K:Frag)(E:XK):bo:=aM K [("_law_same",lO)] [] (E:=E)
theorem aba(vs:List V)(H:Hp)(Q:VK)(E:XK)(hh:uH C vs H Q E):aB (My K E) Jm (Dn Q) (start Ao vs) H:=by
 obtain⟨M,A,x,ak,tk,tx,hs,L,D,zs,ws,ah,H0,c,rfl,I,q⟩:=hh;have S:=I.s;have lz:=Paired.length I.pz;have lw:=Paired.length I.pw;rw[zac] at lw;refine bZ<|cL<|br<|aj rfl<|ax<|il (by decide)<|ax<|kl ⟨_,rfl,dC (fun _=>?_)<|fun _=>cM ?_⟩
 ·have Sw:=S.weak I.sub;obtain⟨Mn,uE,Mo⟩:=aaX (es:=ah.map (·.1)) (by rw[zac];exact I.pA) I.ok
  have st:Md M H (kq (ah.map (·.1))) (.ref L):=fun H2 b2=>⟨L,zs,rfl,b2 _ _ I.hL<|I.dj _<|.head _,Mx Sw.ml b2 I.pz fun l hl=>I.dj l (.tail _ hl)⟩;refine eO (lJ (dt (aj rfl (ax ⟨A.dr,_,rfl,xY S.ro.hd,⟨.inl ⟨rfl,_,au.of S.ro.eI⟩,gk (ay (aj rfl (ay (CQ (aj rfl ⟨L,kq (ah.map (·.1)),rfl,st H fun _ _ e _=>e,uE,by lia,by lia,aN ⟨dc,fun w fw=>?_⟩⟩)))))⟩⟩))))
  have s5:=sameNew (o:=.tup [V.ref L,V.str (kq (ah.map (·.1))).shown]) fw;have hw:upd H w (.tup [V.ref L,V.str (kq (ah.map (·.1))).shown]) w=some (.tup [V.ref L,V.str (kq (ah.map (·.1))).shown]):=aw;generalize upd H w (.tup [V.ref L,V.str (kq (ah.map (·.1))).shown])=H5 at s5 hw⊢;have S5:=Sw.same s5;have o5:kr M H5 (.ref w):=⟨w,L,kq (ah.map (·.1)),rfl,hw,fun H6 b6=>st H6<|aY.trans (az.bm s5) b6,uE,Mo,Mn⟩;obtain⟨S6,b6⟩:=S5.held o5;have lh:=I.lh;refine⟨hs,S5.ro.eI,dm (by lia),?_⟩
  exact dq<|ax<|q _ _ S6 (by rw[zqA];exact zqR _) fun z o e hz=>b6 _ _ (s5 _ _ e) fun hm=>hz (zaq _ hm)
 ·have fin:∀{H1:Hp},aY (L::ah.map (·.2)) H H1->(∀b∈ah.map (·.2),∃xs,H1 b=some (.lst xs))->H1 L=some (.lst zs)->aB (My K E) [.drop<|.bz .clear (.v 1) [],.ret<|.c<|.bl true] (Dn Q) (start Ao [.ref A.dr,.ref L,.ref D,.int c]) H1:=by
   intro H1 b1 l1 rn;refine eO<|xZ<|aj rfl ⟨.inl ⟨rfl,_,au.of rn⟩,_,rn,dq<|ax ?_⟩;have b2:aY (L::ah.map (·.2)) H (upd H1 L<|.lst []):=fun z o e hz=>by
    rw[aC (show z≠L from fun y=>hz (by rw[y];exact .head _))];exact b1 _ _ e hz
   have S2:=S.own (fun b hb=>by
    rcases zaa.mp hb with h|h
    ·exact⟨zs,h ▸ I.hL⟩
    ·exact rm I.pz b h) (fun b hb hm=>I.dj b hb (I.sub b hm)) b2 (fun b hb=>by
    rcases zaa.mp hb with h|h
    ·exact⟨[],by rw[h,aw]⟩
    ·rw[aC (show b≠L from fun y=>I.nL (by rw[<-y];exact h))];exact l1 b h)
   exact q hs _ (S2.weak I.sub) (Nat.le_succ _) fun z o e hz=>b2 _ _ e fun hm=>hz (zaK _ hm)
  refine bZ<|cL<|c4<|aj rfl<|.inl ⟨_,au.of I.hD,ax ⟨trivial,_,rfl,dC (fun h0=>?_)<|fun h0=>cM ?_⟩⟩
  ·have Mz:=of_decide_eq_true h0;obtain⟨e0,r,hi⟩:∃e r,ah=e::r:=by
    cases ah with
    |nil=>rw[lw] at Mz;exact absurd Mz (by decide)
    |cons e r=>exact⟨e,r,rfl⟩
   obtain⟨z0,zr,hz⟩:∃e r,zs=e::r:=by
    cases zs with
    |nil=>rw[hi] at lz;cases lz
    |cons e r=>exact⟨e,r,rfl⟩
   have p0:da H0 H z0 e0:=by
    have:=I.pz;rw[hi,hz] at this;cases this with|cons a _=>exact a
   obtain⟨t0,rfl,⟨ht0,ud,C3,pv0⟩,_⟩:=p0;have hL:=I.hL;rw[hz] at hL;have m0:e0.2∈ah.map (·.2):=by rw[hi];exact .head _
   refine eO<|xZ<|bD<|bD<|aj rfl<|ax<|dN hL (de (j:=0) rfl)<|ax<|dJ ht0 rfl ⟨.inl ⟨rfl,_,au.of C3⟩,_,C3,?_⟩;have b1:aR e0.2 H (upd H e0.2<|.lst []):=aR.upd;have hu:upd H e0.2 (.lst []) e0.2=some (.lst []):=aw;generalize upd H e0.2 (.lst [])=H1 at b1 hu⊢;have rn:=b1 _ _ I.hL fun y=>I.nL (y ▸ m0);have MA:=b1 _ _ I.hD fun y=>I.nD (y ▸ .tail _ m0);have tt:eh H H1:=fun z us e=>b1 _ _ e fun y=>by rw[y,C3] at e;cases e
   have MB:aY (L::ah.map (·.2)) H H1:=fun z o e hz=>b1 _ _ e fun y=>hz (y ▸ .tail _ m0);have MC:∀b∈ah.map (·.2),∃xs,H1 b=some (.lst xs):=fun b hb=>by
    by_cases y:b=e0.2
    ·exact⟨[],by rw[y];exact hu⟩
    ·obtain⟨xs,e⟩:=rm I.pz b hb;exact⟨xs,b1 _ _ e y⟩
   refine bZ<|t_<|cL<|c4<|aj rfl<|.inl ⟨_,au.of MA,ax ⟨trivial,_,rfl,dC (fun h1=>?_)<|fun _=>iF (cM<|fin MB MC rn) rfl⟩⟩;have d6:=of_decide_eq_true h1;obtain⟨Bs,⟨eL,lL⟩,hB⟩:=B3 (show r≠ [] by
    intro y;rw[y] at hi;rw[lw,hi] at d6;exact absurd d6 (by simp))
   have zo:ah=(e0::Bs)++[(eL,lL)]:=by rw[hi,hB];rfl
   have xf:=I.pz;rw[zo] at xf;obtain⟨zs0,zL,hzL,_,tL,ezL,⟨htL,xsL,hlL,pvL⟩,_⟩:=BN xf;have MD:=I.pw;have em:ah.map (·.1)=(e0::Bs).map (·.1)++[eL]:=by rw[zo,zak];rfl
   rw[em] at MD;obtain⟨ws0,wL,hwL,_,tD,lD,ewL,⟨htD,xsD,hlD,pvD⟩,nlD⟩:=BN MD;have nl:lL≠e0.2:=fun y=>by
    have:=I.nd;rw[hi,zaw,zaE] at this;exact this.1 (by rw[hB,zak,<-y];exact zaq _ (.head _))
   have abp:lD≠e0.2:=fun y=>nlD (by rw[y];exact .tail _ m0)
   have ME:=rn;rw[hzL,ezL] at ME;have MF:=MA;rw[hwL,ewL] at MF;refine dH<|jf lO rfl<|ay<|bD<|bD<|aj rfl<|qP<|dN ME (pR _ _)<|ax<|dJ (tt _ _ htL) rfl<|ay<|bD<|bD<|aj rfl<|qP<|dN MF (pR _ _)<|ax<|dJ (tt _ _ htD) rfl<|aN ⟨lL,lD,xsL,xsD,_,rfl,b1 _ _ hlL nl,b1 _ _ hlD abp,pvL.mono tt,pvD.mono tt,fun H2 s2=>fH<|iF (cM<|fin (aY.trans MB<|az.bm s2) (fun b hb=>?_)<|s2 _ _ rn) rfl⟩;obtain⟨xs,e⟩:=MC b hb;exact⟨xs,s2 _ _ e⟩
  ·exact fin (fun _ _ e _=>e) (rm I.pz) I.hL
end
section
variable {K:Frag}{M:List Addr}{C:Addr}{H H':Hp}{A:Ad}{x:Str}{ak:List Nat}{tk:List (Nat×List Pt)}{tx:List (List Nat)}{hs:List V}
theorem MG{r:List RS}{e:RE}(h:ae Γ e σ H fun v H1=>aB Γ r D (σ.set i<|some v) H1):aB Γ (.pX i e::r) D σ H:=h
theorem C4{α β γ:Type}{R:α->β->Prop}{S:α->γ->Prop}(f:β->γ):∀{xs:List α}{ys:List β},Paired R xs ys->(∀x y,R x y->S x (f y))->Paired S xs (ys.map f)
 |_,_,.nil,_=>.nil
 |_,_,.cons a r,h=>.cons (h _ _ a) (C4 f r h)
theorem MH{QQ:List V->Hp->Addr->Prop}{te:TE}{lo:Int}(lets:List Let)(hn:lets.length=n)(hl:n<=1000)
  (step:∀i e H2,lets[i]?=some e->az H H2->∀Q':VK,(∀t l H3,az H2 H3->iN H3 t e.1 e.2.1 e.2.2.1 e.2.2.2 l->l∉Bs->Q' (.ref t) H3)->te (some (.int<|lo+(i:Nat))::bX σ fv) H2 Q')
  (fin:∀zs H2 q,az H H2->Paired (rj Bs H2) zs lets->H2 q=none->QQ zs H2 q):∃W:Nat->Nat->List V->Hp->Prop,(∃m,W 0 m [] H)/\∀i m ys H2,W i m ys H2->
   ((cU lo n).stop i H2/\∀p,H2 p=none->QQ ys H2 p)\/
   ((cU lo n).go i H2/\∀x H3,(cU lo n).eQ i H2 x H3->iB K none x H3 fun zs=>jr none (zs.map some++bX σ fv) H3 fun b H5=>
    if b=true then te (zs.map some++bX σ fv) H5 fun y H6=>ys.length<sizeLine/\∃m',m'<m/\W (i+1) m' (ys++[y]) H6 else ∃m',m'<m/\W (i+1) m' ys H5):=by
 refine BM (by lia) (fun i ys H2=>Paired (rj Bs H2) ys<|lets.take i) .nil ?_ ?_
 ·rintro i ys H2 hi s2 e2 Q' kk;have ur:lets[i]?=some lets[i]:=zai (by lia)
  refine step i _ H2 ur s2 Q' fun t l H3 s3 hv nl=>kk _ _ s3 ?_;show Paired (rj Bs H3) (ys++[.ref t]) (lets.take<|i+1);rw[xx ur];exact Paired.snoc (Paired.cH e2 fun _ _ ⟨t,l,a,b,c⟩=>⟨t,l,a,b.same s3,c⟩) ⟨t,l,rfl,hv,nl⟩
 ·rintro ys H2 q s2 e1 fq;rw[<-hn,zbd] at e1;exact fin ys H2 q s2 e1 fq
theorem kr.ext(h:kr M H v)(n:ip M H)(b:aY M H H')(hB:∀z∈Bs,H z=none):kr (Bs++M) H' v:=by
 obtain⟨t,a,d,e,h1,h2,h3⟩:=h;refine⟨t,a,d,e,aY.tup n b _ _ h1,fun H2 b2=>h2 H2 fun z o ez hz=>b2 _ _ (b _ _ ez hz) fun hm=>?_,h3⟩;rcases zaf.mp hm with hm|hm
 ·rw[hB z hm] at ez;cases ez
 ·exact hz hm
theorem pk.ext{e:Nat×List Pt}(h:pk M H v e)(n:ip M H)(b:aY M H H')(hB:∀z∈Bs,H z=none):pk (Bs++M) H' v e:=by
 obtain⟨t,a,xs,e,h0,h1,h2,h3⟩:=h;refine⟨t,a,xs,e,aY.tup n b _ _ h0,b _ _ h1 h3,h2.mono<|aY.tup n b,fun hm=>?_⟩;rcases zaf.mp hm with hm|hm
 ·rw[hB a hm] at h1;cases h1
 ·exact h3 hm
theorem bA.comp(sv:c_ (Bs++M) C H' A.p A.dx A.se A.ch A.mq x ak tk)(ro:lT M H A ak tk tx hs)(pu:Pu x ak tk tx)(nd:A.M.Nodup)(sub:∀m∈A.M,m∈M)(ml:ip M H)(pB:A.dr∉ [A.p,A.se,A.ch,A.mq])(b:aY [A.p,A.se,A.ch,A.mq] H H')(hB:∀z∈Bs,H z=none)(C1:∀z∈Bs,∃xs,H' z=some (.lst xs)):bA (Bs++M) C H' A x ak tk tx hs:=by
 have in4:∀z∈ [A.p,A.se,A.ch,A.mq],z∈M:=fun z hz=>sub z (by
  simp only[zaa,zab,or_false] at hz
  rcases hz with h|h|h|h<;>rw[h] <;>simp)
 have bm:aY M H H':=fun z o e hz=>b _ _ e fun hm=>hz (in4 z hm);have kx:=nd
 simp only[Ad.M,zaE,zaa,zab,or_false,not_or] at kx
 obtain⟨p1,s1,c1,m1,r1,t1,x1,_⟩:=kx;obtain⟨cp,h1,h2⟩:=ro.cm;refine⟨sv,⟨b _ _ ro.hd pB,b _ _ ro.eZ ?_,⟨cp,b _ _ h1 ?_,Paired.cH h2 fun _ _ z=>z.ext ml bm hB⟩,b _ _ ro.gu ?_,b _ _ ro.eI ?_,fun v hv=>(ro.hh v hv).ext ml bm hB⟩,pu,nd,fun m hm=>zaq _<|sub m hm,fun m hm=>?_⟩
 ·simp only[zaa,zab,or_false,not_or]
  exact⟨fun z=>p1.2.2.2.1 z.symm,fun z=>s1.2.2.1 z.symm,fun z=>c1.2.1 z.symm,fun z=>m1.1 z.symm⟩
 ·simp only[zaa,zab,or_false,not_or]
  exact⟨fun z=>p1.2.2.2.2.1 z.symm,fun z=>s1.2.2.2.1 z.symm,fun z=>c1.2.2.1 z.symm,fun z=>m1.2.1 z.symm⟩
 ·simp only[zaa,zab,or_false,not_or]
  exact⟨fun z=>p1.2.2.2.2.2.1 z.symm,fun z=>s1.2.2.2.2.1 z.symm,fun z=>c1.2.2.2.1 z.symm,fun z=>m1.2.2.1 z.symm⟩
 ·simp only[zaa,zab,or_false,not_or]
  exact⟨fun z=>p1.2.2.2.2.2.2 z.symm,fun z=>s1.2.2.2.2.2 z.symm,fun z=>c1.2.2.2.2 z.symm,fun z=>m1.2.2.2 z.symm⟩
 ·rcases zaf.mp hm with hm|hm
  ·obtain⟨xs,e⟩:=C1 m hm;exact⟨_,e,fun us z=>by cases z⟩
  ·by_cases h4:m∈ [A.p,A.se,A.ch,A.mq]
   ·simp only[zaa,zab,or_false] at h4
    obtain⟨bH,c1,_⟩:=sv.bu;rcases h4 with h|h|h|h
    ·rw[h];exact⟨_,sv.ob,fun us z=>by cases z⟩
    ·rw[h];exact⟨_,sv.cA,fun us z=>by cases z⟩
    ·rw[h];exact⟨_,c1,fun us z=>by cases z⟩
    ·rw[h];exact⟨_,sv.gh,fun us z=>by cases z⟩
   ·obtain⟨o,e,h⟩:=ml m hm;exact⟨o,b _ _ e h4,h⟩
theorem bA.pB(S:bA M C H A x ak tk tx hs):A.dr∉ [A.p,A.se,A.ch,A.mq]:=fun hm=>by
 obtain⟨bH,c1,_⟩:=S.sv.bu;have hd:=S.ro.hd
 simp only[zaa,zab,or_false] at hm
 rcases hm with h|h|h|h
 ·rw[h,S.sv.ob] at hd;cases hd
 ·rw[h,S.sv.cA] at hd;cases hd
 ·rw[h,c1] at hd;cases hd
 ·rw[h,S.sv.gh] at hd;cases hd
def C5(C:Addr):Sp:=fun vs H Q E=>∃(M:List Addr) (A:Ad) (x:Str) (ak:List Nat) (tk:List (Nat×List Pt)) (tx:List (List Nat)) (hs:List V) (c:Int),vs=[.ref A.p,.ref A.dr,.int c]/\bA M C H A x ak tk tx hs/\hs.length<=5000/\tk.length<=20/\
 ∀aP H',bA M C H' A x ak tk tx aP->aP.length<=hs.length+1->aY M H H'->Q (.bl true) H'
abbrev MI(K:Frag)(C:Addr)(E:XK):bo:=aM K [("_law_letters_same",uC),("_law_emptied",uH C)] [] [] [("came",C,uz C)] (E:=E)
theorem abq(vs:List V)(H:Hp)(Q:VK)(E:XK)(hh:C5 C vs H Q E):aB (MI K C E) Jp (Dn Q) (start Jo vs) H:=by
 obtain⟨M,A,x,ak,tk,tx,hs,c,rfl,S,lh,lk,q⟩:=hh;have pE:(nV ak).length=ak.length:=zac ..;obtain⟨l1,l8⟩:=S.pu.ls;obtain⟨cp,cm,eE⟩:=S.ro.cm;have ku:=Paired.length eE;refine bK<|br<|aj rfl<|c4<|dt<|aj rfl<|ax ⟨A.dr,_,rfl,rg S.ro.hd,.inl ⟨_,au.of S.ro.eZ,il (by rw[pE];lia) ?_⟩⟩
 rw[pE];have m0:=zaA c (show((ak.length:Nat):Int)≠0 by lia)
 have m1:=zaB c (show(0:Int) < ((ak.length:Nat):Int) by lia)
 obtain⟨j,hj⟩:=zaR m0;rw[hj] at m1⊢;refine bK<|br<|br<|aj rfl<|ax<|jJ ⟨by decide,by decide⟩<|br<|c4<|dt<|aj rfl<|ax ⟨A.dr,_,rfl,jN S.ro.hd,.inl ⟨_,au.of cm,ax<|gX<|il (by lia) ?_⟩⟩
 rw[ku];have n0:=zaA (c / 8) (show((tk.length:Nat):Int)+1≠0 by lia)
 have n1:=zaB (c / 8) (show(0:Int) < ((tk.length:Nat):Int)+1 by lia)
 obtain⟨at',x9⟩:=zaR n0;rw[x9] at n1⊢;refine bK<|mX C (uz C) rfl<|aj rfl ⟨A.p,A.dx,_,rfl,S.sv.ob,e_,gk<|ay<|ax<|ay<|aj rfl<|ay<|aj rfl<|aN ⟨pI,fun lt iS=>?_⟩⟩;have s1:=sameNew (o:=.tup (qZ j at')) iS;have a_:upd H lt (.tup<|qZ j at') lt=some (.tup<|qZ j at'):=aw;generalize upd H lt (.tup<|qZ j at')=H1 at s1 a_⊢;have S1:=S.same s1;refine⟨M,A.p,A.dx,A.se,A.ch,A.mq,x,ak,tk,lt,rfl,.inl ⟨j,at',S1.sv,a_,by lia,by lia,by lia,fun L zs ah H2 s2 fL hL ni pz nd nL=>?_⟩⟩
 have S2:=S1.same s2;obtain⟨abr,uI,abt⟩:=S2.ro.cm;have aeA:=Paired.length abt;have fB:∀z∈L::ah.map (·.2),H1 z=none:=fun z hz=>by
  rcases zaa.mp hz with h|h
  ·rw[h];exact fL
  ·exact da.none pz z h
 have C6:(pf tk j at').length=tk.length - at':=by rw[zac,zaO]
 refine MG<|LR<|aj rfl<|c4<|dt<|aj rfl<|ax ⟨A.dr,_,rfl,jN S2.ro.hd,.inl ⟨_,au.of uI,?_⟩⟩;refine⟨_,_,rfl,⟨by lia,by lia,by lia,by lia⟩,?_⟩
 rw[show((abr.length:Int) - (at':Int)).toNat=tk.length - at' by lia]
 refine MH (Bs:=L::ah.map (·.2)) (pf tk j at') C6 (by lia) ?_ ?_
 ·intro i e H9 hi s9 Q' kk;have jB:i<tk.length - at':=by have:=(zap.mp hi).1;rw[C6] at this;exact this
  rw[zaj,zbD jB] at hi;cases hi;have S9:=S2.same s9;obtain⟨MJ,MK,ML⟩:=S9.ro.cm;have aeB:=Paired.length ML;have e9:MJ[at'+i]?=some (MJ[at'+i]'(by lia)):=zai (by lia)
  obtain⟨e',ph,t,a,ys,et,e8,CT,CU,naM⟩:=km ML e9;have ux:tk.getD (at'+i) (0,[])=e':=by rw[zaP,ph];rfl
  have kk:∀t l H3,az H9 H3->iN H3 t j (at'+i+1) (tk.getD (at'+i) (0,[])).1 (tk.getD (at'+i) (0,[])).2 l->l∉L::ah.map (·.2)->Q' (.ref t) H3:=kk;rw[ux] at kk;rw[et] at e9;have naB:a∉L::ah.map (·.2):=fun hm=>by
   obtain⟨aeC,abv,abw⟩:=S1.ro.cm;have h9:=s9 _ _ (s2 _ _ abv);rw[MK] at h9;cases h9;obtain⟨e1,_,t1,a1,ys1,et1,aby,MM,_⟩:=km abw e9;cases et1;have C7:=s9 _ _ (s2 _ _ aby);rw[e8] at C7;have ea:a=a1:=by
    simp only[Option.some.injEq,HO.tup.injEq,List.cons.injEq,V.ref.injEq,and_true] at C7
    exact C7.2
   rw[<-ea,fB a hm] at MM;cases MM
  show ae (MI K C E).calm (.bin .Add (.tup [(.c<|.str "took"),.v 1,(.bin .Add (.v 0)<|.c<|.int 1)])<|.ix (.bQ (.v 2)<|.c<|.str "taken")<|.v 0) [some<|.int<|(at':Int)+(i:Int),some<|.int (j:Nat),some<|.ref A.dr] H9 Q';rw[show(at':Int)+(i:Int)=((at'+i:Nat):Int) by lia]
  refine br<|gk<|ay<|ax<|ay<|aj rfl<|ay<|br<|aj rfl<|ax<|gX<|aN ⟨pI,fun u fu=>?_⟩;have su:=sameNew (o:=.tup [.str "took",.int (j:Nat),.int<|((at'+i:Nat):Int)+1]) fu;have hu:upd H9 u (.tup [.str "took",.int (j:Nat),.int<|((at'+i:Nat):Int)+1]) u=some (.tup [.str "took",.int (j:Nat),.int ((at'+i+1:Nat):Int)]):=aw;generalize upd H9 u (.tup [.str "took",.int (j:Nat),.int<|((at'+i:Nat):Int)+1])=d0 at su hu⊢;refine bD<|dt<|aj rfl<|ax ⟨A.dr,_,rfl,jN<|su _ _ S9.ro.hd,aj rfl<|dN (su _ _ MK) (de e9) ?_⟩;refine .inr ⟨u,t,_,_,rfl,rfl,aD.of hu,aD.of<|su _ _ e8,(by intro z;cases z),(by show 3+2<=sizeLine;decide),(fun z=>by cases z),fun _ w fw=>?_⟩
  have sw:=sameNew (o:=.tup ([V.str "took",.int (j:Nat),.int ((at'+i+1:Nat):Int)]++[.int (e'.1:Nat),.ref a])) fw;have hw:upd d0 w (.tup<|[V.str "took",.int (j:Nat),.int ((at'+i+1:Nat):Int)]++[.int (e'.1:Nat),.ref a]) w=some (.tup [V.str "took",.int (j:Nat),.int ((at'+i+1:Nat):Int),.int (e'.1:Nat),.ref a]):=aw;exact kk w a _ (su.trans sw) ⟨hw,ys,sw _ _<|su _ _ CT,CU.mono<|bF<|su.trans sw⟩ naB
 ·intro ws H9 D s9 pw fD;have dZ:=sameNew (o:=.lst ws) fD;have hD:upd H9 D (.lst ws) D=some (.lst ws):=aw;generalize upd H9 D (.lst ws)=d0 at dZ hD⊢;have C8:=s9.trans dZ;have nD:D∉L::ah.map (·.2):=fun hm=>by
   have:∃o,H2 D=some o:=by
    rcases zaa.mp hm with h|h
    ·rw[h];exact⟨_,hL⟩
    ·exact da.some pz D h
   obtain⟨o,ho⟩:=this;rw[s9 _ _ ho] at fD;cases fD
  have C9:Paired (nh d0) zs (pf tk j at'):=by
   rw[<-ni];exact C4 (S:=nh d0) (·.1) pz fun _ _ ⟨t,a1,a2,_⟩=>⟨t,_,a1,a2.same C8⟩
  have C_:Paired (nh d0) ws (pf tk j at'):=Paired.cH pw fun _ _ ⟨t,l,a1,a2,_⟩=>⟨t,l,a1,a2.same dZ⟩;refine bZ<|dH<|jf uC rfl<|ay<|aj rfl<|ay<|aj rfl<|aN ⟨L,D,zs,ws,pf tk j at',rfl,C8 _ _ hL,hD,C9,C_,by lia,fun H11 Dc=>fH<|iF (cM ?_) rfl⟩
  have uJ:=C8.trans Dc;have Dd:=s2.trans uJ;have I:C2 M C H1 H11 A x ak tk tx hs L D zs ws ah:=by
   refine⟨bA.comp (S1.sv.ext Dd fB) S1.ro S1.pu S1.nd S1.sub S1.ml S1.pB (az.bm Dd) fB<|fun z hz=>?_,S1.sub,fun b hb hm=>?_,uJ _ _ hL,Paired.cH pz fun _ _ z=>z.same uJ,nd,nL,Dc _ _ hD,nD,?_,fun e he=>?_,?_,lh⟩
   ·rcases zaa.mp hz with h|h
    ·exact⟨zs,by rw[h];exact uJ _ _ hL⟩
    ·obtain⟨xs,e⟩:=rm pz z h;exact⟨xs,uJ _ _ e⟩
   ·obtain⟨o,ho,_⟩:=S1.ml b hm;rw[fB b hb] at ho;cases ho
   ·rw[ni];exact Paired.cH pw fun _ _ ⟨t,l,a1,a2,a3⟩=>⟨t,l,a1,a2.same<|dZ.trans Dc,a3⟩
   ·rw[ni] at he;obtain⟨i,hi,rfl⟩:=zaN.mp he;have jB:=List.mem_range.mp hi;have hk:tk[at'+i]?=some (tk.getD (at'+i) (0,[])):=by rw[zaP,zai (by lia)];rfl
    have mm:=S.pu.mk' _ (zar hk);obtain⟨g1,g2,g3⟩:=Mf (m:=(tk.getD (at'+i) (0,[])).1) (ps:=(tk.getD (at'+i) (0,[])).2) S.pu hk;exact⟨by show j<=100;lia,by show at'+i+1<=1000;lia,by show(tk.getD (at'+i) (0,[])).1<=100;lia,g1,g2,g3⟩
   ·have:=congrArg List.length ni;rw[zac,C6] at this;lia
  refine dq<|cv (uH C) rfl<|ay<|aj rfl<|ay<|aj rfl<|ay<|aj rfl<|ay<|aj rfl<|aN ⟨M,A,x,ak,tk,tx,hs,L,D,zs,ws,ah,H1,c,rfl,I,fun aP H' S' l' b'=>q aP H' S' l' fun z o e hz=>?_⟩;refine b' _ _ (Dd _ _<|s1 _ _ e) fun hm=>?_;rcases zaf.mp hm with hm|hm
  ·have:=fB z hm;rw[s1 _ _ e] at this;cases this
  ·exact hz hm
end
section
variable {K:Frag}{M:List Addr}{C:Addr}{H H':Hp}{A:Ad}{x:Str}{ak:List Nat}{tk:List (Nat×List Pt)}{tx:List (List Nat)}{hs:List V}
theorem MN{r':List Nat}(h:Run l ps r)(h':Run l ps r'):r=r':=h.fits.2.symm.trans h'.fits.2
theorem bA.abA{M':List Addr}(S:bA M C H A x ak tk tx hs)(h:∀z,z∈M'↔z∈M):bA M' C H A x ak tk tx hs:=by
 obtain⟨cp,h1,h2⟩:=S.ro.cm;obtain⟨bH,c1,c2⟩:=S.sv.bu;refine⟨⟨S.sv.ob,S.sv.cA,⟨bH,c1,Paired.cH c2 fun _ _ ⟨a,xs,e1,e2,e3,e4⟩=>⟨a,xs,e1,e2,e3,fun z=>e4<|(h _).mp z⟩⟩,S.sv.gh,S.sv.nd,⟨(h _).mpr S.sv.mm.1,(h _).mpr S.sv.mm.2.1,(h _).mpr S.sv.mm.2.2⟩⟩,⟨S.ro.hd,S.ro.eZ,⟨cp,h1,Paired.cH h2 fun _ _ ⟨t,a,xs,e1,e2,e3,e4,e5⟩=>⟨t,a,xs,e1,e2,e3,e4,fun z=>e5<|(h _).mp z⟩⟩,S.ro.gu,S.ro.eI,fun v hv=>?_⟩,S.pu,S.nd,fun m hm=>(h _).mpr<|S.sub m hm,fun m hm=>S.ml m<|(h _).mp hm⟩;obtain⟨t,a,d,e,h1,h2,h3⟩:=S.ro.hh v hv;exact⟨t,a,d,e,h1,fun H' b=>h2 H' fun z o e hz=>b z o e fun q=>hz ((h _).mp q),h3⟩
structure AeI (M:List Addr) (C:Addr) (H0 H:Hp) (A:Ad) (x:Str) (ak:List Nat) (tk:List (Nat×List Pt)) (tx:List (List Nat)) (hs:List V) (L D hd b0:Addr) (zs ws ys:List V) (cc:List Pt) (ah:List (Let×Addr)):Prop where
 s:bA ((L::ah.map (·.2))++(hd::M)) C H A x ak tk tx hs
 sub:∀m∈A.M,m∈M
 dj:∀b∈L::ah.map (·.2),b∉M
 h0:∃o,H0 hd=some o
 x_:hd∉M
 hh:H hd=some (.lst ys)
 hb:H b0=some (.lst ys)
 pv:aJ H ys cc
 ok:∀p∈cc,aZ p
 hL:H L=some (.lst zs)
 fL:H0 L=none
 pz:Paired (da H0 H) zs ah
 nd:(ah.map (·.2)).Nodup
 nL:L∉ah.map (·.2)
 hD:H D=some (.lst ws)
 nD:D∉L::ah.map (·.2)
 nDh:D≠hd
 pw:Paired (rj (hd::L::ah.map (·.2)) H) ws (ah.map (·.1))
 De:∀e∈ah.map (·.1),uA e
 pA:ah.length<=20
 lh:hs.length<=5000
abbrev nj(K:Frag)(C:Addr)(E:XK):bo:=aM K [("_law_change",BV),("_law_passed_on",Ca),("_law_done",Bj),("_law_letters_same",uC),("_law_emptied",uH C)] [] [] [("came",C,uz C)] (E:=E)
abbrev ya:List RS:=[.ite (.or [(.cmp .NotEq (.v 13) (.v 7)),(.not (.call 3 [.v 14,.v 8]))]) [.ret (.c (.bl false))] [],
 .drop (.bz .clear (.v 13) []),
 .ret (.call 4 [.v 1,.v 14,.v 8,.v 2])]
theorem abD{E:XK}{D hd b0:Addr}{zs ws:List V}{ah:List (Let×Addr)}{c:Int}{u3 u4 u5 u6 u9 gz gA iQ:Option V}(I:AeI M C H0 H A x ak tk tx hs L D hd b0 zs ws ys cc ah)
  (q:∀aP H',bA M C H' A x ak tk tx aP->aP.length<=hs.length+1->aY ((L::ah.map (·.2))++(hd::M)) H H'->Q (.bl true) H'):
  aB (nj K C E) ya (Dn Q) [some<|.ref A.p,some<|.ref A.dr,some<|.int c,u3,u4,u5,u6,some<|.ref b0,some<|.ref D,u9,gz,gA,iQ,some<|.ref hd,some<|.ref L] H:=by
 have lz:=Paired.length I.pz;have lw:=Paired.length I.pw;have pA:=I.pA;refine bZ<|lS<|cL<|aj rfl<|aj rfl<|B.XT I.hh I.hb I.pv I.pv (fun p hp=>XU<|I.ok p hp) ⟨_,rfl,iF ?_ rfl⟩;have C9:Paired (nh H) zs (ah.map (·.1)):=C4 (S:=nh H) (·.1) I.pz fun _ _ ⟨t,a1,a2,_⟩=>⟨t,_,a1,a2⟩;have C_:Paired (nh H) ws (ah.map (·.1)):=Paired.cH I.pw fun _ _ ⟨t,l,a1,a2,_⟩=>⟨t,l,a1,a2⟩;refine qY (dH (jf uC rfl (ay (aj rfl (ay (aj rfl (aN ⟨L,D,zs,ws,ah.map (·.1),rfl,I.hL,I.hD,C9,C_,by rw[zac];lia,fun H2 s2=>fH<|iF (cM ?_) rfl⟩)))))))
 have ky:=s2 _ _ I.hh;refine eO<|xZ<|aj rfl ⟨.inl ⟨rfl,_,au.of ky⟩,_,ky,?_⟩;have b3:aR hd H2 (upd H2 hd<|.lst []):=aR.upd;have hu:upd H2 hd (.lst []) hd=some (.lst []):=aw;generalize upd H2 hd (.lst [])=H3 at b3 hu⊢;have tt:eh H2 H3:=fun z us e=>b3 _ _ e fun y=>by rw[y,ky] at e;cases e
 have S2:=(I.s.same s2).abA (M':=[hd]++((L::ah.map (·.2))++M)) fun z=>by
  simp only[zaf,zaa,zab,or_false]
  constructor
  ·rintro(h|(h|h)|h)
   ·exact .inr (.inl h)
   ·exact .inl (.inl h)
   ·exact .inl (.inr h)
   ·exact .inr (.inr h)
  ·rintro((h|h)|h|h)
   ·exact .inr (.inl<|.inl h)
   ·exact .inr (.inl<|.inr h)
   ·exact .inl h
   ·exact .inr (.inr h)
 have S3:=S2.own (H':=H3) (fun b hb=>⟨ys,by rw[zag.mp hb];exact ky⟩) (fun b hb hm=>I.x_ (by rw[<-zag.mp hb];exact I.sub b hm)) (fun z o e hz=>b3 _ _ e fun y=>hz (by rw[y];exact .head _)) (fun b hb=>⟨[],by rw[zag.mp hb];exact hu⟩)
 have S4:=S3.weak fun m hm=>zaq _ (I.sub m hm);have nLh:L≠hd:=fun y=>by obtain⟨o,ho⟩:=I.h0;rw[<-y,I.fL] at ho;cases ho
 have hL3:=b3 _ _ (s2 _ _ I.hL) nLh;have J:C2 M C H0 H3 A x ak tk tx hs L D zs ws ah:=by
  refine⟨S4,I.sub,I.dj,hL3,Paired.cH I.pz fun v e ⟨t,a1,⟨a2,xs,a3,a4⟩,a5,a6⟩=>⟨t,a1,⟨tt _ _<|s2 _ _ a2,xs,b3 _ _ (s2 _ _ a3) fun y=>?_,(a4.mono<|bF s2).mono tt⟩,a5,a6⟩,I.nd,I.nL,b3 _ _ (s2 _ _ I.hD) I.nDh,I.nD,Paired.cH I.pw fun v e ⟨t,l,a1,⟨a2,xs,a3,a4⟩,a5⟩=>⟨t,l,a1,⟨tt _ _<|s2 _ _ a2,xs,b3 _ _ (s2 _ _ a3) fun y=>a5 (by rw[y];exact .head _),(a4.mono<|bF s2).mono tt⟩,fun h=>a5<|.tail _ h⟩,I.De,I.pA,I.lh⟩
  obtain⟨o,ho⟩:=I.h0;rw[<-y,a6] at ho;cases ho
 refine dq<|cv (uH C) rfl<|ay<|aj rfl<|ay<|aj rfl<|ay<|aj rfl<|ay<|aj rfl<|aN ⟨M,A,x,ak,tk,tx,hs,L,D,zs,ws,ah,H0,c,rfl,J,fun aP H' S' l' b'=>q aP H' S' l' fun z o e hz=>?_⟩
 simp only[zaf,zaa,not_or] at hz
 exact b' _ _ (b3 _ _ (s2 _ _ e) hz.2.1) fun hm=>by
  simp only[zaf,zaa] at hm
  rcases hm with(h|h)|h
  ·exact hz.1.1 h
  ·exact hz.1.2 h
  ·exact hz.2.2 h
theorem lT.MO(ro:lT M H A ak tk tx hs)(ml:ip M H)(s:az H H')(hB:∀z∈Bs,H z=none):lT (Bs++M) H' A ak tk tx hs:=by
 obtain⟨cp,h1,h2⟩:=ro.cm;exact⟨s _ _ ro.hd,s _ _ ro.eZ,⟨cp,s _ _ h1,Paired.cH h2 fun _ _ z=>z.ext ml (az.bm s) hB⟩,s _ _ ro.gu,s _ _ ro.eI,fun v hv=>(ro.hh v hv).ext ml (az.bm s) hB⟩
def AkC(x:Str)(ak:List Nat)(tk:List (Nat×List Pt))(tx:List (List Nat))(cz:List Nat)(bE:List (Nat×List Pt))(cN:List (List Nat))(j n at':Nat)(cc:List Pt)(es:List Let):Prop:=
 (n≠ak.getD j 0+1/\cz=ak/\bE=tk/\cN=tx/\es=[])\/(n=ak.getD j 0+1/\cz=ak.set j (ak.getD j 0+1)/\bE=tk++[(j,dO tk at' cc)]/\∃r',cN=tx++[r']/\Run x.cps.toList (dO tk at' cc) r'/\es=uu ak tk j (dO tk at' cc))
structure MP (M:List Addr) (C:Addr) (H:Hp) (A:Ad) (x:Str) (ak:List Nat) (tk:List (Nat×List Pt)) (tx:List (List Nat)) (hs:List V) (cz:List Nat) (bE:List (Nat×List Pt)) (cN:List (List Nat)) (j n at':Nat) (b0 D:Addr) (ys ws:List V) (cc:List Pt) (l r:List Nat) (es:List Let):Prop where
 sv:c_ M C H A.p A.dx A.se A.ch A.mq x ak tk
 ro:lT M H A cz bE cN hs
 pu:Pu x ak tk tx
 nd:A.M.Nodup
 sub:∀m∈A.M,m∈M
 ml:ip M H
 pB:A.dr∉ [A.p,A.se,A.ch,A.mq]
 hj:j<ak.length
 ha:at'<=tk.length
 lk:tk.length<=19
 lx:x.length<=500+320*tk.length
 n1:1<=n
 hb:H b0=some (.lst ys)
 nk:b0∉M
 pv:aJ H ys cc
 gZ:tx[at']?=some l
 cg:gm cc l r
 tt:aA cc<=320
 hD:H D=some (.lst ws)
 nD:D∉M
 pw:Paired (rj M H) ws es
 lh:hs.length<=5000
 ca:AkC x ak tk tx cz bE cN j n at' cc es
theorem Df(P:Pu x ak tk tx)(ha:at'<=tk.length)(gZ:tx[at']?=some l)(cg:gm cc l r)(tt:aA cc<=320):∃r',gm (dO tk at' cc) x.cps.toList r'/\aA (dO tk at' cc)<=320:=by
 obtain⟨m,r',e1,e2,e3⟩:=ui P.T gZ cg tt (tk.length - at') (by lia)
 rw[show at'+(tk.length - at')=tk.length by lia,P.tl] at e1
 cases e1;exact⟨r',e2,e3⟩
theorem abH(P:Pu x ak tk tx){r':List Nat}{x':Str}(ha:at'<=tk.length)(gZ:tx[at']?=some l)(cg:gm cc l r)(tt:aA cc<=320)(hj:j<ak.length)(hr:Run x.cps.toList (dO tk at' cc) r')(hx:Run x.cps.toList (dO tk at' cc) x'.cps.toList)(gx:good x')(lx:x'.length<=10000)(s:Nat):Pu x' (ak.set j s) (tk++[(j,dO tk at' cc)]) (tx++[r']):=by
 obtain⟨r2,c2,t2⟩:=Df P ha gZ cg tt;have e1:r2=r':=MN c2.run hr;have e2:r2=x'.cps.toList:=MN c2.run hx;subst e1;refine⟨Taken.snoc P.T P.tl c2 t2,?_,gx,fun z hz=>?_,?_,fun e he=>?_⟩
 ·have:=P.T.len;rw[zqA,zaS (by show tx.length<=tk.length+1;lia)]
  show[r2][tk.length+1 - tx.length]?=_;rw[this,zaY,<-e2];rfl
 ·rcases zaf.mp hz with h|h
  ·exact P.gt z h
  ·rw[zag.mp h,e2];exact⟨by show x'.cps.toList.length<=10000;rw[zaU];exact lx,gx.2⟩
 ·rw[zbk];exact P.ls
 ·rw[zbk];rcases zaf.mp he with h|h
  ·exact P.mk' e h
  ·rw[zag.mp h];exact hj
end
section
variable {K:Frag}{M:List Addr}{C:Addr}{H H':Hp}{A:Ad}{x:Str}{ak:List Nat}{tk:List (Nat×List Pt)}{tx:List (List Nat)}{hs:List V}
theorem MQ{E:XK}{bE:List (Nat×List Pt)}{cN:List (List Nat)}{b0 D:Addr}{ws:List V}{es:List Let}{c:Int}{u5 u9 gz gA iQ kz kA:Option V}(I:MP M C H A x ak tk tx hs cz bE cN j n at' b0 D ys ws cc l r es)
  (q:∀x' aP H',bA M C H' A x' cz bE cN aP->x'.length<=500+320*bE.length->aP.length<=hs.length+1->aY M H H'->Q (.bl true) H'):
  aB (nj K C E) (.asg 13 (.blt .list [.v 7]):: .asg 14 (.bj 0 "came" (.v 0) [(.tup [(.c<|.str "ask"),.v 3,.v 4,.v 6,.v 13])])::ya) (Dn Q) [some<|.ref A.p,some<|.ref A.dr,some<|.int c,some<|.int ((j:Nat):Int),some<|.int ((n:Nat):Int),u5,some<|.int ((at':Nat):Int),some<|.ref b0,some<|.ref D,u9,gz,gA,iQ,kz,kA] H:=by
 refine bK<|xF<|aj rfl ⟨_,.inl<|au.of I.hb,fun hd nq=>?_⟩;have s1:=sameNew (o:=.lst ys) nq;have MR:upd H hd (.lst ys) hd=some (.lst ys):=aw;generalize upd H hd (.lst ys)=H1 at s1 MR⊢;refine bK<|mX C (uz C) rfl<|aj rfl ⟨A.p,A.dx,_,rfl,s1 _ _ I.sv.ob,e_,gk<|ay<|ax<|ay<|aj rfl<|ay<|aj rfl<|ay<|aj rfl<|ay<|aj rfl<|aN ⟨yi,fun lt iS=>?_⟩⟩;have s2:=sameNew (o:=.tup (q8 j n at' hd)) iS;have a_:upd H1 lt (.tup<|q8 j n at' hd) lt=some (.tup<|q8 j n at' hd):=aw;have ky:=s2 _ _ MR;generalize upd H1 lt (.tup<|q8 j n at' hd)=H2 at s2 a_ ky⊢;have c3:=s1.trans s2;have x_:hd∉M:=fun hm=>by obtain⟨o,ho,_⟩:=I.ml hd hm;rw[nq] at ho;cases ho
 have fh:∀z∈ [hd],H z=none:=fun z hz=>by rw[zag.mp hz];exact nq
 have MS:c_ (hd::M) C H2 A.p A.dx A.se A.ch A.mq x ak tk:=I.sv.ext (Bs:=[]) c3 fh;have ro2:lT (hd::M) H2 A cz bE cN hs:=I.ro.MO (Bs:=[hd]) I.ml c3 fh;have Dg:ip (hd::M) H2:=fun m hm=>by
  rcases zaa.mp hm with h|h
  ·rw[h];exact⟨_,ky,fun us z=>by cases z⟩
  ·obtain⟨o,e,k⟩:=I.ml m h;exact⟨o,c3 _ _ e,k⟩
 have abJ:∀m∈A.M,m∈hd::M:=fun m hm=>.tail _ (I.sub m hm);have in4:∀z∈ [A.p,A.se,A.ch,A.mq],z∈M:=fun z hz=>I.sub z (by
  simp only[zaa,zab,or_false] at hz
  rcases hz with h|h|h|h<;>rw[h] <;>simp)
 have lG:=c3 _ _ I.hb;have pb:=I.pv.mono (bF c3);have lk:=I.lk;have lx:=I.lx;have MT:∀(x':Str) (L:Addr) (zs:List V) (ah:List (Let×Addr)) (H3:Hp),c_ ((L::ah.map (·.2))++(hd::M)) C H3 A.p A.dx A.se A.ch A.mq x' cz bE->Pu x' cz bE cN->H3 L=some (.lst zs)->H2 L=none->ah.map (·.1)=es->Paired (da H2 H3) zs ah->(ah.map (·.2)).Nodup->L∉ah.map (·.2)->aY [A.p,A.se,A.ch,A.mq] H2 H3->x'.length<=500+320*bE.length->(∀e∈es,uA e)->es.length<=20->aB (nj K C E) ya (Dn Q) [some<|.ref A.p,some<|.ref A.dr,some<|.int c,some<|.int ((j:Nat):Int),some<|.int ((n:Nat):Int),u5,some<|.int ((at':Nat):Int),some<|.ref b0,some<|.ref D,u9,gz,gA,iQ,some<|.ref hd,some<|.ref L] H3:=by
  intro x' L zs ah H3 sv3 pu3 hL fL ni pz nd nL b3 lx3 De pA;have fB:∀z∈L::ah.map (·.2),H2 z=none:=fun z hz=>by
   rcases zaa.mp hz with h|h
   ·rw[h];exact fL
   ·exact da.none pz z h
  have S3:=bA.comp sv3 ro2 pu3 I.nd abJ Dg I.pB b3 fB fun z hz=>by
   rcases zaa.mp hz with h|h
   ·exact⟨zs,by rw[h];exact hL⟩
   ·exact rm pz z h
  have bM:aY M H2 H3:=fun z o e hz=>b3 _ _ e fun hm=>hz (in4 z hm);have bh:aY (hd::M) H2 H3:=fun z o e hz=>bM _ _ e fun hm=>hz (.tail _ hm);have tt:=aY.tup Dg bh;have lits:ah.length=es.length:=by rw[<-ni,zac]
  have Dh:∀{z:Addr}{o:HO},H2 z=some o->z∉L::ah.map (·.2):=fun e hm=>by rw[fB _ hm] at e;cases e
  refine abD (b0:=b0) ⟨S3,I.sub,fun b hb hm=>?_,⟨_,ky⟩,x_,bM _ _ ky x_,bM _ _ lG I.nk,pb.mono tt,I.cg.ok,hL,fL,pz,nd,nL,bM _ _ (c3 _ _ I.hD) I.nD,Dh<|c3 _ _ I.hD,aK I.hD nq,?_,by rw[ni];exact De,by rw[lits];exact pA,I.lh⟩ fun aP H' S' l' b'=>q x' aP H' S' lx3 l' fun z o e hz=>?_
  ·obtain⟨o,ho,_⟩:=I.ml b hm;rw[c3.free<|fB b hb] at ho;cases ho
  ·rw[ni];exact Paired.cH I.pw fun v e ⟨t,l',a1,⟨a2,xs,a3,a4⟩,a5⟩=>⟨t,l',a1,⟨tt _ _ (c3 _ _ a2),xs,bM _ _ (c3 _ _ a3) a5,(a4.mono (bF c3)).mono tt⟩,fun hm=>by
    rcases zaa.mp hm with h|h
    ·exact aK a3 nq h
    ·exact Dh (c3 _ _ a3) h⟩
  ·refine b' _ _ (bM _ _ (c3 _ _ e) hz) fun hm=>?_;rcases zaf.mp hm with h|h
   ·exact Dh (c3 _ _ e) h
   ·rcases zaa.mp h with h|h
    ·exact aK e nq h
    ·exact hz h
 have se2:=c3 _ _ I.sv.cA;obtain⟨bH,bu,_⟩:=I.sv.bu;have TI:q_ (hd::M) C H2 A.p A.dx A.se A.ch A.mq x ak tk tx hd j at' ys cc l r:=
  ⟨MS,I.pu.T,I.pu.tl,I.pu.gx,by lia,fun m hm=>let ⟨o,e,_⟩:=Dg m hm;⟨o,e⟩,I.hj,I.ha,by lia,I.pu.ls.2,ky,⟨(aK I.sv.cA nq).symm,(aK bu nq).symm⟩,pb,I.gZ,I.cg,I.tt⟩
 refine⟨hd::M,A.p,A.dx,A.se,A.ch,A.mq,x,ak,tk,lt,rfl,.inr ⟨tx,hd,j,n,at',ys,cc,l,r,TI,a_,I.n1,?_⟩⟩;have ls8:=I.pu.ls.2;have hj:=I.hj;rcases I.ca with⟨ne,e1,e2,e3,e4⟩|⟨en,e1,e2,r',e3,hr,e4⟩
 ·subst e1 e2 e3 e4;refine .inl ⟨ne,fun L H3 s3 fL hL=>MT x L [] [] H3 (MS.ext (Bs:=[]) s3 fun b hb=>by rw[zag.mp hb];exact fL) I.pu hL fL rfl .nil zbC zab (az.bm s3) lx (fun e he=>by cases he)<|zqZ _⟩
 ·subst e1 e2 e3 e4;refine .inr ⟨en,fun x' L zs ah H3 g1 g2 g3 g4 g5 g6 g7 g8 g9 CH CI=>MT x' L zs ah H3 g4 (abH I.pu I.ha I.gZ I.cg I.tt I.hj hr g3 g1 (by lia) _) g5 g6 g7 g8 g9 CH CI (by rw[zqA];show x'.length<=500+320* (tk.length+1);lia) (fun e he=>?_) (by rw[zac,zaO];lia)⟩
  obtain⟨k,hk,rfl⟩:=zaN.mp he;have hk:=List.mem_range.mp hk;obtain⟨r2,c2,t2⟩:=Df I.pu I.ha I.gZ I.cg I.tt;obtain⟨w1,w2,w3⟩:=Mb c2 t2 (show x.cps.toList.length<=10000 by rw[zaU];show x.length<=10000;lia)
  exact⟨by show k<=100;lia,by show tk.length+1<=1000;lia,by show j<=100;lia,w1,w2,w3⟩
end
section
variable {K:Frag}{M:List Addr}{C:Addr}{H H':Hp}{A:Ad}{x:Str}{ak:List Nat}{tk:List (Nat×List Pt)}{tx:List (List Nat)}{hs:List V}
theorem MU(S:bA M C H A x ak tk tx hs):(A.rs≠A.rt/\A.rs≠A.rx/\A.rt≠A.rx)/\(A.dr≠A.rs/\A.dr≠A.rt/\A.dr≠A.rx)/\A.rs∈M/\A.rt∈M/\A.rx∈M:=by
 have nd:=S.nd
 simp only[Ad.M,zaE,zaa,zab,or_false,not_or] at nd
 obtain⟨_,_,_,_,r1,t1,x1,_⟩:=nd;obtain⟨cp,h1,_⟩:=S.ro.cm;refine⟨⟨r1.1,r1.2.1,t1.1⟩,⟨fun z=>?_,fun z=>?_,fun z=>?_⟩,S.sub _ (by simp),S.sub _ (by simp),S.sub _ (by simp)⟩
 ·have:=S.ro.eZ;rw[<-z,S.ro.hd] at this;cases this
 ·rw[<-z,S.ro.hd] at h1;cases h1
 ·have:=S.ro.gu;rw[<-z,S.ro.hd] at this;cases this
theorem abN(S:bA M C H A x ak tk tx hs){cp zs:List V}{w pa:Addr}{r':List Nat}(cm:H A.rt=some (.lst cp))(b:aY [A.rs,A.rt,A.rx] H H')(e1:H' A.rs=some (.lst<|nV cz))(e2:H' A.rt=some (.lst<|cp++[.ref w]))(e3:H' A.rx=some (.lst<|sV tx++[.str ⟨r'.toArray⟩]))(hw:H' w=some (.tup [.int (j:Nat),.ref pa]))(hpa:H' pa=some (.lst zs))(ppa:aJ H' zs ps)(npa:pa∉M):
  c_ M C H' A.p A.dx A.se A.ch A.mq x ak tk/\lT M H' A cz (tk++[(j,ps)]) (tx++[r']) hs/\ip M H':=by
 have bm:aY M H H':=fun z o e hz=>b _ _ e fun hm=>hz (by
  simp only[zaa,zab,or_false] at hm
  rcases hm with h|h|h<;>rw[h] <;>exact S.sub _ (by simp))
 have kx:=S.nd
 simp only[Ad.M,zaE,zaa,zab,or_false,not_or] at kx
 obtain⟨p1,s1,c1,m1,r1,t1,x1,_⟩:=kx;obtain⟨_,⟨d1,d2,d3⟩,_⟩:=MU S;obtain⟨aeG,h1,h2⟩:=S.ro.cm;rw[cm] at h1;cases h1;obtain⟨bH,k1,k2⟩:=S.sv.bu;have n3:∀{z:Addr},z≠A.rs->z≠A.rt->z≠A.rx->z∉ [A.rs,A.rt,A.rx]:=fun a b c hm=>by
  simp only[zaa,zab,or_false] at hm
  rcases hm with h|h|h
  ·exact a h
  ·exact b h
  ·exact c h
 refine⟨⟨b _ _ S.sv.ob (n3 p1.2.2.2.1 p1.2.2.2.2.1 p1.2.2.2.2.2.1),b _ _ S.sv.cA (n3 s1.2.2.1 s1.2.2.2.1 s1.2.2.2.2.1),⟨bH,b _ _ k1 (n3 c1.2.1 c1.2.2.1 c1.2.2.2.1),Paired.cH k2 fun _ _ z=>z.but S.ml bm⟩,b _ _ S.sv.gh (n3 m1.1 m1.2.1 m1.2.2.1),S.sv.nd,S.sv.mm⟩,
  ⟨b _ _ S.ro.hd (n3 d1 d2 d3),e1,⟨_,e2,Paired.snoc (Paired.cH h2 fun _ _ z=>z.but S.ml bm) ⟨w,pa,zs,rfl,hw,hpa,ppa,npa⟩⟩,?_,b _ _ S.ro.eI (n3 (fun z=>r1.2.2 z.symm) (fun z=>t1.2 z.symm) (fun z=>x1 z.symm)),fun v hv=>(S.ro.hh v hv).but S.ml bm⟩,fun m hm=>?_⟩
 ·rw[e3];unfold sV;rw[zak];rfl
 ·by_cases h:m∈ [A.rs,A.rt,A.rx]
  ·simp only[zaa,zab,or_false] at h
   rcases h with h|h|h
   ·rw[h];exact⟨_,e1,fun us z=>by cases z⟩
   ·rw[h];exact⟨_,e2,fun us z=>by cases z⟩
   ·rw[h];exact⟨_,e3,fun us z=>by cases z⟩
  ·obtain⟨o,e,k⟩:=S.ml m hm;exact⟨o,b _ _ e h,k⟩
abbrev MV:List RS:=[.asg 9 (.v 7),
  .i0 [10,11] .list [(.sl (.bQ (.v 1)<|.c<|.str "taken") (some<|.v 6) none)] [.asg 9<|.call 1 [.v 11,.v 9]],
  .set (.bQ (.v 1)<|.c<|.str "serials") (.v 3) (.v 4),
  .drop (.bz .append (.bQ (.v 1)<|.c<|.str "taken") [(.tup [.v 3,.v 9])]),
  .drop (.bz .append (.bQ (.v 1)<|.c<|.str "texts") [(.call 2 [(.ix (.bQ (.v 1)<|.c<|.str "texts")<|.neg<|.c<|.int 1),.v 9])]),
  .asg 12 (.blt .len [(.bQ (.v 1)<|.c<|.str "taken")]),
  .pX 8 (.comp none [("_law_many",12),("_law_hand",3),("_law_passing",9)] .dz [(.blt .len [(.bQ (.v 1) (.c (.str "serials")))])] none (.tup [(.c (.str "took")),.v 0,.v 1,.v 2,.v 3]))]
theorem abR{E:XK}{b0 D0:Addr}{c:Int}{u5 u9 gz gA iQ kz kA:Option V}(S:bA M C H A x ak tk tx hs)(lh:hs.length<=5000)(hj:j<ak.length)(ha:at'<=tk.length)(lk:tk.length<=19)(lx:x.length<=500+320*tk.length)(en:n=ak.getD j 0+1)(hb:H b0=some (.lst ys))(nk:b0∉M)(pv:aJ H ys cc)(gZ:tx[at']?=some l)(cg:gm cc l r)(rq:aA cc<=320)
  (k:∀(r':List Nat) (D1:Addr) (ws:List V) (H':Hp) (u5 u9 gz gA iQ kz kA:Option V),MP M C H' A x ak tk tx hs (ak.set j<|ak.getD j 0+1) (tk++[(j,dO tk at' cc)]) (tx++[r']) j n at' b0 D1 ys ws cc l r (uu ak tk j<|dO tk at' cc)->aY M H H'->D.nx [some<|.ref A.p,some<|.ref A.dr,some<|.int c,some<|.int ((j:Nat):Int),some<|.int ((n:Nat):Int),u5,some<|.int ((at':Nat):Int),some<|.ref b0,some<|.ref D1,u9,gz,gA,iQ,kz,kA] H'):
  aB (nj K C E) MV D [some<|.ref A.p,some<|.ref A.dr,some<|.int c,some<|.int ((j:Nat):Int),some<|.int ((n:Nat):Int),u5,some<|.int ((at':Nat):Int),some<|.ref b0,some<|.ref D0,u9,gz,gA,iQ,kz,kA] H:=by
 obtain⟨cp,cm,eE⟩:=S.ro.cm;have ku:=Paired.length eE;refine bK<|aj rfl ?_;refine Lh (body:=[.asg 9<|.call 1 [.v 11,.v 9]])<|Lj<|dt<|aj rfl<|ax ⟨A.dr,_,rfl,jN S.ro.hd,aj rfl ⟨_,rfl,.inl ⟨_,au.of cm,fun W fW=>?_⟩⟩⟩;rw[LU (by lia)]
 have s1:=sameNew (o:=.lst (cp.drop at')) fW;have hW:upd H W (.lst<|cp.drop at') W=some (.lst<|cp.drop at'):=aw;generalize upd H W (.lst<|cp.drop at')=H1 at s1 hW⊢;refine⟨W,rfl,⟨_,au.of hW⟩,jT (K:=K) (a:=W) (xs:=cp.drop at') (fun i σ H2=>∃(b':Addr) (cq:List V) (gz gA:Option V),σ=[some<|.ref A.p,some<|.ref A.dr,some<|.int c,some<|.int ((j:Nat):Int),some<|.int ((n:Nat):Int),u5,some<|.int ((at':Nat):Int),some<|.ref b0,some<|.ref D0,some<|.ref b',gz,gA,iQ,kz,kA]/\az H1 H2/\H2 b'=some (.lst cq)/\aJ H2 cq (pj tk at' i cc)/\b'∉M) ⟨b0,ys,gz,gA,rfl,az.refl _,s1 _ _ hb,pv.mono<|bF s1,nk⟩ (fun i σ H2 _ ⟨_,_,_,_,_,s2,_⟩=>au.of (s2 _ _ hW)) ?_ ?_⟩
 ·rintro i v σ H2 hv ⟨b',cq,gz,gA,rfl,s2,iC,iO,kh⟩;rw[zbL] at hv;obtain⟨⟨m,ib⟩,gC,t,a,xs,rfl,e8,so,Cr,_⟩:=km eE hv;have dX:=s1.trans s2;refine xq (dX _ _ e8) ?_;have hi:at'+i<tk.length:=(zap.mp gC).1;obtain⟨lm,r1,e1,c1,t1⟩:=ui S.pu.T gZ cg rq i (by lia)
  obtain⟨rr,ex⟩:∃rr,tx[at'+i+1]?=some rr:=⟨_,zai (by rw[S.pu.T.len];lia)⟩
  obtain⟨c2,t2⟩:=S.pu.T.chg _ _ _ _ _ gC e1 ex;have l1:=q9 c1 t1;have l2:=q9 c2 t2;have o1:=Cg c1.run;have o2:=Cg c2.run;have lm1:=(S.pu.gt lm<|zar e1).1;have pc:=(LM c2 c1 (by lia)).2.2
  show aB (nj K C E) [.asg 9<|.call 1 [.v 11,.v 9]] _ [some<|.ref A.p,some<|.ref A.dr,some<|.int c,some<|.int ((j:Nat):Int),some<|.int ((n:Nat):Int),u5,some<|.int ((at':Nat):Int),some<|.ref b0,some<|.ref D0,some<|.ref b',some<|.int ((m:Nat):Int),some<|.ref a,iQ,kz,kA] H2;refine bK<|cv Ca rfl<|ay<|aj rfl<|ay<|aj rfl<|aN ⟨a,b',xs,cq,ib,pj tk at' i cc,rfl,dX _ _ so,iC,Cr.mono<|bF dX,iO,c2.ok,c1.ok,by lia,by lia,by lia,by lia,by lia,by lia,by lia,fun d H3 zs s3 fd hd pz=>?_⟩
  refine⟨d,zs,_,_,rfl,s2.trans s3,hd,?_,fun hm=>?_⟩
  ·rw[xJ gC];exact pz
  ·obtain⟨o,ho,_⟩:=S.ml d hm;rw[dX _ _ ho] at fd;cases fd
 rintro σ H2 ⟨b',cq,gz,gA,rfl,s2,iC,iO,kh⟩;rw[zaz,ku] at iO;have dX:=s1.trans s2;have S2:=S.same dX;obtain⟨⟨n1,n2,n3⟩,⟨d1,d2,d3⟩,m1,m2,m3⟩:=MU S2;have uI:=dX _ _ cm;have pE:(nV ak).length=ak.length:=zac ..;have MW:=S2.ro.hd;have Di:∀{z:Addr},z∈M->b'≠z:=fun hz y=>kh (y ▸ hz);refine BO<|aj rfl<|dt<|aj rfl<|ax ⟨A.dr,_,rfl,rg MW,aj rfl ⟨A.rs,_,_,j,rfl,rfl,S2.ro.eZ,LV (by rw[pE];exact hj),?_⟩⟩
 have b3:aR A.rs H2 (upd H2 A.rs<|.lst<|(nV ak).set j<|.int ((n:Nat):Int)):=aR.upd;have MZ:upd H2 A.rs (.lst<|(nV ak).set j<|.int ((n:Nat):Int)) A.rs=some (.lst<|nV<|ak.set j<|ak.getD j 0+1):=by
  rw[aw,en];unfold nV;rw[List.map_set]
 generalize upd H2 A.rs (.lst<|(nV ak).set j<|.int ((n:Nat):Int))=H3 at b3 MZ⊢;have M0:=b3 _ _ MW d1;have uD:=b3 _ _ uI n1.symm;have abS:=b3 _ _ S2.ro.gu n2.symm;have hb3:=b3 _ _ iC (Di m1);refine eO<|lJ<|dt<|aj rfl<|ax ⟨A.dr,_,rfl,jN M0,⟨.inl ⟨rfl,_,au.of uD⟩,gk<|ay<|aj rfl<|ay<|aj rfl<|aN ⟨dc,fun w fw=>?_⟩⟩⟩;have s4:=sameNew (o:=.tup [V.int ((j:Nat):Int),.ref b']) fw;have yb:upd H3 w (.tup [V.int ((j:Nat):Int),.ref b']) w=some (.tup [V.int ((j:Nat):Int),.ref b']):=aw;generalize upd H3 w (.tup [V.int ((j:Nat):Int),.ref b'])=H4 at s4 yb⊢;refine⟨cp,s4 _ _ uD,dm (by lia),?_⟩
 have b5:aR A.rt H4 (upd H4 A.rt<|.lst<|cp++[.ref w]):=aR.upd;have M1:upd H4 A.rt (.lst<|cp++[.ref w]) A.rt=some (.lst<|cp++[.ref w]):=aw;generalize upd H4 A.rt (.lst<|cp++[.ref w])=H5 at b5 M1⊢;have Dj:=b5 _ _ (s4 _ _ M0) d2;have pF:=b5 _ _ (s4 _ _ MZ) n1;have yc:=b5 _ _ (s4 _ _ abS) n3.symm;have Dk:=b5 _ _ yb (fun y=>by rw[y,s4 _ _ uD] at yb;cases yb)
 have xU:=b5 _ _ (s4 _ _ hb3) (Di m2);have b25:aY [A.rs,A.rt] H2 H5:=fun z o e hz=>by
  simp only[zaa,zab,or_false,not_or] at hz
  exact b5 _ _ (s4 _ _<|b3 _ _ e hz.1) hz.2
 have t25:eh H2 H5:=fun z us e=>b25 _ _ e fun hm=>by
  simp only[zaa,zab,or_false] at hm
  rcases hm with h|h
  ·rw[h,S2.ro.eZ] at e;cases e
  ·rw[h,uI] at e;cases e
 have pv5:=iO.mono t25;obtain⟨Bs,hB⟩:=Ms S.pu;have M3:=yc;rw[hB] at M3;obtain⟨r',c',t'⟩:=Df S.pu ha gZ cg rq;have Cs:r'.length<=10000:=by
  have:=c'.run.len;have h2:x.cps.toList.length=x.length:=zaU ..;lia
 refine eO<|lJ<|dt<|aj rfl<|ax ⟨A.dr,_,rfl,xX Dj,⟨.inl ⟨rfl,_,au.of yc⟩,cv Bj rfl<|ay<|bD<|dt<|aj rfl<|ax ⟨A.dr,_,rfl,xX Dj,qP<|dN M3 (pR _ _)<|ay<|aj rfl<|aN ⟨x,b',cq,_,r',rfl,S.pu.gx,xU,pv5,fun p hp=>wy<|c'.ok p hp,c'.run,by lia,?_⟩⟩⟩⟩
 have ltx:(sV tx).length<=100:=by unfold sV;rw[zac,S.pu.T.len];lia
 refine⟨_,yc,dm (by lia),?_⟩
 have b6:aR A.rx H5 (upd H5 A.rx<|.lst<|sV tx++[.str ⟨r'.toArray⟩]):=aR.upd;have M4:upd H5 A.rx (.lst<|sV tx++[.str ⟨r'.toArray⟩]) A.rx=some (.lst<|sV tx++[.str ⟨r'.toArray⟩]):=aw;generalize upd H5 A.rx (.lst<|sV tx++[.str ⟨r'.toArray⟩])=H6 at b6 M4⊢;have M5:=b6 _ _ xU (Di m3);have mZ:=b6 _ _ Dk (fun y=>by rw[y,yc] at Dk;cases Dk)
 have M6:aY [A.rs,A.rt,A.rx] H2 H6:=fun z o e hz=>by
  simp only[zaa,zab,or_false,not_or] at hz
  exact b6 _ _ (b5 _ _ (s4 _ _<|b3 _ _ e hz.1) hz.2.1) hz.2.2
 have M7:aY M H2 H6:=fun z o e hz=>M6 _ _ e fun hm=>hz (by
  simp only[zaa,zab,or_false] at hm
  rcases hm with h|h|h
  ·rw[h];exact m1
  ·rw[h];exact m2
  ·rw[h];exact m3)
 have t26:=aY.tup S2.ml M7;have M8:=iO.mono t26;have M9:=b6 _ _ pF n2;have pG:=b6 _ _ M1 n3;have M_:=b6 _ _ Dj d3;obtain⟨sv6,ro6,Dl⟩:=abN (j:=j) S2 uI M6 M9 pG M4 mZ M5 M8 kh;refine bK<|c4<|dt<|aj rfl<|ax ⟨A.dr,_,rfl,jN M_,.inl ⟨_,au.of pG,?_⟩⟩;rw[zqA,ku];refine MG<|LS<|c4<|dt<|aj rfl<|ax ⟨A.dr,_,rfl,rg M_,.inl ⟨_,au.of M9,?_⟩⟩;have l8:=S.pu.ls.2;have ab0:(nV<|ak.set j<|ak.getD j 0+1).length=ak.length:=by unfold nV;rw[zac,zbk]
 rw[ab0];refine⟨_,rfl,by lia,by lia,?_⟩
 rw[zax];refine MH (Bs:=M) (uu ak tk j<|dO tk at' cc) (by rw[zac,zaO]) (by lia) ?_ ?_
 ·intro i e H9 hi s9 Q' kk;have jB:i<ak.length:=by have:=(zap.mp hi).1;rw[zac,zaO] at this;exact this
  rw[zaj,zbD jB] at hi;cases hi;have kk:∀t l H3,az H9 H3->iN H3 t i (tk.length+1) j (dO tk at' cc) l->l∉M->Q' (.ref t) H3:=kk;show ae (nj K C E).calm (.tup [(.c<|.str "took"),.v 0,.v 1,.v 2,.v 3]) [some<|.int<|0+(i:Int),some<|.int ((tk.length+1:Nat):Int),some<|.int ((j:Nat):Int),some<|.ref b'] H9 Q';rw[Int.zero_add];refine gk<|ay<|ax<|ay<|aj rfl<|ay<|aj rfl<|ay<|aj rfl<|ay<|aj rfl<|aN ⟨yi,fun t ft=>?_⟩;have st:=sameNew (o:=.tup [V.str "took",.int ((i:Nat):Int),.int ((tk.length+1:Nat):Int),.int ((j:Nat):Int),.ref b']) ft;exact kk t b' _ st ⟨aw,cq,st _ _<|s9 _ _ M5,(M8.mono<|bF s9).mono<|bF st⟩ kh
 ·intro ws H9 D1 s9 pw fD;have dZ:=sameNew (o:=.lst ws) fD;have hD:upd H9 D1 (.lst ws) D1=some (.lst ws):=aw;generalize upd H9 D1 (.lst ws)=d0 at dZ hD⊢;have yd:=s9.trans dZ;have ab1:ip M d0:=fun m hm=>let ⟨o,e,h⟩:=Dl m hm;⟨o,yd _ _ e,h⟩;have bm:aY M H d0:=fun z o e hz=>yd _ _ (M7 _ _ (dX _ _ e) hz);have ab2:lT M d0 A (ak.set j<|ak.getD j 0+1) (tk++[(j,dO tk at' cc)]) (tx++[r']) hs:=ro6.MO (Bs:=[]) Dl yd fun z hz=>by cases hz
  refine k r' D1 ws d0 _ _ _ _ _ _ _ ⟨sv6.same yd,ab2,S.pu,S.nd,S.sub,ab1,S.pB,hj,ha,lk,lx,by lia,bm _ _ hb nk,nk,pv.mono<|aY.tup S.ml bm,gZ,cg,rq,hD,fun hm=>?_,Paired.cH pw fun _ _ ⟨t,l,a1,a2,a3⟩=>⟨t,l,a1,a2.same dZ,a3⟩,lh,.inr ⟨en,rfl,rfl,r',rfl,c'.run,rfl⟩⟩ bm
  obtain⟨o,ho,_⟩:=Dl D1 hm;rw[s9 _ _ ho] at fD;cases fD
end
section
variable {K:Frag}{M:List Addr}{C:Addr}{H H':Hp}{A:Ad}{x:Str}{ak:List Nat}{tk:List (Nat×List Pt)}{tx:List (List Nat)}{hs:List V}
theorem uK{b:Bool}{QT:Bool->Hp->Prop}(h:σ[i]?=some (some<|.bl b))(q:QT b H):bg Γ (.v i) σ H QT:=⟨_,h,q⟩
theorem ab3{b:RE}(h:ae Γ a σ H fun x H1=>ae Γ b σ H1 fun y H2=>i4 Γ.K .max [x,y] H2 Q):ae Γ (.blt .max [a,b]) σ H Q:=h
theorem ab4{i j:Int}(q:Q (.int (if j>i then j else i)) H):i4 K .max [.int i,.int j] H Q:=q
theorem cgA{i j:Int}(q:∀b,Q (.bl b) H):cO K .Gt (.int i) (.int j) H Q:=⟨trivial,q _⟩
def Dm(C:Addr):Sp:=fun vs H Q E=>∃(M:List Addr) (A:Ad) (x:Str) (ak:List Nat) (tk:List (Nat×List Pt)) (tx:List (List Nat)) (hs:List V) (c:Int),vs=[.ref A.p,.ref A.dr,.int c]/\bA M C H A x ak tk tx hs/\hs.length<=5000/\tk.length<=19/\x.length<=500+320*tk.length/\
 ∀x' cz bE cN aP H',bA M C H' A x' cz bE cN aP->bE.length<=tk.length+1->x'.length<=500+320*bE.length->aP.length<=hs.length+1->aY M H H'->Q (.bl true) H'
abbrev ab6:List RS:=[.asg 6 (.bin .Sub (.blt .len [(.bQ (.v 1) (.c (.str "taken")))]) (.blt .min [(.blt .len [(.bQ (.v 1) (.c (.str "taken")))]),(.bin .Mod (.bin .FloorDiv (.v 2) (.c (.int 96))) (.c (.int 5)))])),
 .asg 7 (.call 0 [(.bin .FloorDiv (.v 2)<|.c<|.int 480),(.ix (.bQ (.v 1)<|.c<|.str "texts")<|.v 6),(.bin .Mod (.bin .FloorDiv (.v 2)<|.c<|.int 480)<|.c<|.int 9)]),
 .asg 8 (.lst []),
 .ite (.v 5) MV []]++(.asg 13 (.blt .list [.v 7]):: .asg 14 (.bj 0 "came" (.v 0) [(.tup [(.c (.str "ask")),.v 3,.v 4,.v 6,.v 13])])::ya)
theorem Na{E:XK}{c:Int}{bb:Bool}{u6 u7 u8 u9 gz gA iQ kz kA:Option V}(S:bA M C H A x ak tk tx hs)(lh:hs.length<=5000)(lk:tk.length<=19)(lx:x.length<=500+320*tk.length)(hj:j<ak.length)(n1:1<=n)(pU:bb=decide (n=ak.getD j 0+1))
  (q:∀x' cz bE cN aP H',bA M C H' A x' cz bE cN aP->bE.length<=tk.length+1->x'.length<=500+320*bE.length->aP.length<=hs.length+1->aY M H H'->Q (.bl true) H'):
  aB (nj K C E) ab6 (Dn Q) [some<|.ref A.p,some<|.ref A.dr,some<|.int c,some<|.int ((j:Nat):Int),some<|.int ((n:Nat):Int),some<|.bl bb,u6,u7,u8,u9,gz,gA,iQ,kz,kA] H:=by
 obtain⟨cp,cm,eE⟩:=S.ro.cm;have ku:=Paired.length eE;refine bK<|br<|c4<|dt<|aj rfl<|ax ⟨A.dr,_,rfl,jN S.ro.hd,.inl ⟨_,au.of cm,Mg<|c4<|dt<|aj rfl<|ax ⟨A.dr,_,rfl,jN S.ro.hd,.inl ⟨_,au.of cm,br<|br<|aj rfl<|ax<|jJ ⟨by decide,by decide⟩<|ax<|il (by decide)<|Mh<|o7 ?_⟩⟩⟩⟩
 rw[ku];have m0:=zaA (c / 96) (show(5:Int)≠0 by decide)
 generalize c / 96 % 5=m5 at m0⊢;obtain⟨at',x9⟩:∃at':Nat,((tk.length:Nat):Int) - (if m5< ((tk.length:Nat):Int) then m5 else ((tk.length:Nat):Int))=((at':Nat):Int):=zaR (by split<;>lia)
 have ha:at'<=tk.length:=by
  have:((at':Nat):Int)<= ((tk.length:Nat):Int):=by rw[<-x9];split<;>lia
  lia
 rw[x9];obtain⟨l,hl⟩:∃l,tx[at']?=some l:=⟨_,zai (by rw[S.pu.T.len];lia)⟩
 have hlx:(sV tx)[at']?=some (.str ⟨l.toArray⟩):=by unfold sV;rw[zaj,hl];rfl
 have gl:=S.pu.gt l (zar hl);have el:(⟨l.toArray⟩:Str).cps.toList=l:=by simp
 have ell:(⟨l.toArray⟩:Str).length=l.length:=by simp[Str.length]
 have k0:=zaA (c / 480) (show(9:Int)≠0 by decide)
 have k9:=zaB (c / 480) (show(0:Int) <9 by decide)
 refine bK<|cv BV rfl<|ay<|br<|aj rfl<|ax<|jJ ⟨by decide,by decide⟩<|ay<|bD<|dt<|aj rfl<|ax ⟨A.dr,_,rfl,xX S.ro.hd,aj rfl<|dN S.ro.gu (de hlx) ?_⟩
 refine ay<|br<|br<|aj rfl<|ax<|jJ ⟨by decide,by decide⟩<|ax<|il (by decide)<|aN ⟨_,_,_,rfl,⟨by lia,by rw[el];exact gl.2⟩,by lia,k0,by lia,fun b0 H1 ys cc r s1 fb hb pv ok ch lc tc run=>?_⟩
 rw[el] at run;have cg:gm cc l r:=⟨ok,ch,run⟩;have rq:aA cc<=320:=by lia
 have S1:=S.same s1;have nk:b0∉M:=fun hm=>by obtain⟨o,ho,_⟩:=S.ml b0 hm;rw[fb] at ho;cases ho
 refine bK<|e7<|aN ⟨zqZ _,fun D0 fD=>?_⟩;have s2:=sameNew (o:=.lst []) fD;have hD:upd H1 D0 (.lst []) D0=some (.lst []):=aw;generalize upd H1 D0 (.lst [])=H2 at s2 hD⊢;have S2:=S1.same s2;have dX:=s1.trans s2;have nD:D0∉M:=fun hm=>by obtain⟨o,ho,_⟩:=S1.ml D0 hm;rw[fD] at ho;cases ho
 have lG:=s2 _ _ hb;have pb:=pv.mono (bF s2);by_cases en:n=ak.getD j 0+1
 ·rw[zqT en] at pU;subst pU;refine bZ<|uK rfl<|iT ?_ rfl;refine abR S2 lh hj ha lk lx en lG nk pb hl cg rq fun r' D1 ws H3 u5 u9 gz gA iQ kz kA I b3=>?_;exact MQ I fun x' aP H' S' Dp l' b'=>q x' _ _ _ aP H' S' (by rw[zqA];exact zqR _) Dp l' ((aY.trans (az.bm dX) b3).trans b')
 ·rw[zqF en] at pU;subst pU;refine bZ<|uK rfl<|iF (cM ?_) rfl;exact MQ (es:=[]) (ws:=[]) ⟨S2.sv,S2.ro,S.pu,S.nd,S.sub,S2.ml,S.pB,hj,ha,lk,lx,n1,lG,nk,pb,hl,cg,rq,hD,nD,.nil,lh,.inl ⟨en,rfl,rfl,rfl,rfl⟩⟩ fun x' aP H' S' Dp l' b'=>q x' _ _ _ aP H' S' (by lia) Dp l' ((az.bm dX).trans b')
theorem ab8(vs:List V)(H:Hp)(Q:VK)(E:XK)(hh:Dm C vs H Q E):aB (nj K C E) cR (Dn Q) (start gQ vs) H:=by
 obtain⟨M,A,x,ak,tk,tx,hs,c,rfl,S,lh,lk,lx,q⟩:=hh;have pE:(nV ak).length=ak.length:=zac ..;obtain⟨l1,l8⟩:=S.pu.ls;refine bK<|br<|aj rfl<|c4<|dt<|aj rfl<|ax ⟨A.dr,_,rfl,rg S.ro.hd,.inl ⟨_,au.of S.ro.eZ,il (by rw[pE];lia) ?_⟩⟩
 rw[pE];have m0:=zaA c (show((ak.length:Nat):Int)≠0 by lia)
 have m1:=zaB c (show(0:Int) < ((ak.length:Nat):Int) by lia)
 obtain⟨j,hj⟩:=zaR m0;rw[hj] at m1⊢;have mL:j<ak.length:=by lia
 have pe:(nV ak)[j]?=some (.int ((ak.getD j 0:Nat):Int)):=by unfold nV;rw[zaj,zaP,zai mL];rfl
 generalize hg:ak.getD j 0=g at pe;refine bK<|br<|bD<|dt<|aj rfl<|ax ⟨A.dr,_,rfl,rg S.ro.hd,aj rfl<|dN S.ro.eZ (de pe)<|ax<|gX ?_⟩;refine bK<|oX<|br<|br<|aj rfl<|ax<|jJ ⟨by decide,by decide⟩<|ax<|il (by decide)<|ax<|cgA fun bb=>?_
 cases bb with
 |true=>
  refine bZ<|dH<|uK rfl<|iF (cM ?_) rfl;exact Na (n:=g+1) S lh lk lx mL (by lia) (by rw[hg];exact(zqT rfl).symm) q
 |false=>
  refine bZ<|dH<|uK rfl<|iT ?_ rfl;refine bK<|bD<|e7<|ay<|br<|aj rfl<|ax<|gX<|ay<|ab3<|ax<|br<|aj rfl<|ax<|o7<|ab4<|ay<|br<|aj rfl<|ax<|gX<|aN ⟨pI,fun W fW=>?_⟩;generalize hL:([V.int<|(g:Int)+1+1,V.int (if (g:Int)+1 - 1>1 then (g:Int)+1 - 1 else 1),V.int<|(g:Int)+1+5]:List V)=Lv
  have s1:=sameNew (o:=.lst Lv) fW;have hW:upd H W (.lst Lv) W=some (.lst Lv):=aw;generalize upd H W (.lst Lv)=H1 at s1 hW⊢;refine br<|br<|aj rfl<|ax<|jJ ⟨by decide,by decide⟩<|ax<|il (by decide) ?_
  have t0:=zaA (c / 32) (show(3:Int)≠0 by decide)
  have t3:=zaB (c / 32) (show(0:Int) <3 by decide)
  generalize c / 32 % 3=t at t0 t3⊢;obtain⟨i,hi⟩:=zaR t0;rw[hi];have Mt:i<3:=by lia
  obtain⟨n,n1,hn⟩:∃n:Nat,1<=n/\Lv[i]?=some (.int ((n:Nat):Int)):=by
   rw[<-hL]
   match i,Mt with
   | 0,_=>exact⟨g+2,by lia,by show some (V.int<|(g:Int)+1+1)=_;rw[show(g:Int)+1+1=((g+2:Nat):Int) by lia]⟩
   | 1,_=>
    refine⟨if g>1 then g else 1,by split<;>lia,?_⟩
    show some (V.int (if (g:Int)+1 - 1>1 then (g:Int)+1 - 1 else 1))=_
    rw[show(if (g:Int)+1 - 1>1 then (g:Int)+1 - 1 else 1)=(((if g>1 then g else 1):Nat):Int) by split<;>split<;>lia]
   | 2,_=>exact⟨g+6,by lia,by show some (V.int<|(g:Int)+1+5)=_;rw[show(g:Int)+1+5=((g+6:Nat):Int) by lia]⟩
  refine dN hW (de hn) ?_;have S1:=S.same s1;refine bK<|oX<|aj rfl<|br<|bD<|dt<|aj rfl<|ax ⟨A.dr,_,rfl,rg S1.ro.hd,aj rfl<|dN S1.ro.eZ (de pe)<|ax<|gX<|kl ?_⟩;refine Na (n:=n) S1 lh lk lx mL n1 (by rw[hg,zbh,decide_eq_true_iff,decide_eq_true_iff];lia) fun x' cz bE cN aP H' S' a1 a2 a3 b'=>q x' cz bE cN aP H' S' a1 a2 a3 ((az.bm s1).trans b')
end
section
variable {K:Frag}{M:List Addr}{C:Addr}{H H':Hp}{A:Ad}{x:Str}{ak:List Nat}{tk:List (Nat×List Pt)}{tx:List (List Nat)}{hs:List V}{E:XK}{Q:VK}
abbrev nt(K:Frag)(C:Addr)(E:XK):bo:=aM K [("_law_text",wG),("_law_cell_at",qu K),("_law_size",AX),("_law_again",C5 C),("_law_asked",Dm C),("_law_stands",x3 C)] [] [] [] [("Server",C,Cj C)] (E:=E)
theorem ab9(A:Ad):i9 [] (iP A)=iP A:=by
 have n:∀{a b:Str}{v:V}{r:List (Key×V)},¬a=b->hV r (.inr b)=none->hV (((Sum.inr a:Key),v)::r) (.inr b)=none:=fun h e=>(jX<|fun z=>h<|Sum.inr.inj z).trans e;show putK (putK (putK (putK ([]:List (Key×V)) (Sum.inr "serials")<|.ref A.rs) (Sum.inr "taken")<|.ref A.rt) (Sum.inr "texts")<|.ref A.rx) (Sum.inr "held") (.ref A.rh)=_;rw[vE (kvs:=[]) _ rfl];rw[vE (kvs:=[]++_) _<|n (by decide+kernel) rfl]
 rw[vE (kvs:=[]++_++_) _<|n (by decide+kernel)<|n (by decide+kernel) rfl]
 rw[vE (kvs:=[]++_++_++_) _<|n (by decide+kernel)<|n (by decide+kernel)<|n (by decide+kernel) rfl]
 rfl
theorem ab_(h:∀p,H p=none->ba Γ as σ (upd H p<|.dK []) fun vs H2=>H2 p=some (.dK [])/\∃kvs:List (Key×V),vs=oC kvs/\kvs.length<=15/\Q (.ref p) (upd H2 p<|.dK<|i9 [] kvs)):ae Γ (.xt ql as) σ H Q:=h
theorem aca{a b:Addr}(ha:H a=some (.lst []))(hb:H b=some (.lst []))(q:Q (.bl true) H):cO K .Eq (.ref a) (.ref b) H Q:=by
 refine⟨.list [],.list [],⟨a,[],rfl,ha,rfl⟩,⟨b,[],rfl,hb,rfl⟩,rfl,rfl,?_⟩;exact q
theorem acb{x elt c:RE}(h:ae Γ x σ H fun v H1=>∃a,v=.ref a/\(∃xs,au Γ.K H1 a xs)/\∃W:Nat->Nat->List V->Hp->Prop,(∃m,W 0 m [] H1)/\∀i m ys H2,W i m ys H2->
   ((hJ Γ.K a).stop i H2/\∀p,H2 p=none->Q (.ref p) (upd H2 p<|.lst ys))\/
   ((hJ Γ.K a).go i H2/\∀x H3,(hJ Γ.K a).eQ i H2 x H3->iB Γ.K (some 2) x H3 fun zs=>jr (some (bg Γ.calm c)) (zs.map some++bX σ fv) H3 fun b H5=>
    if b=true then ae Γ.calm elt (zs.map some++bX σ fv) H5 fun y H6=>ys.length<sizeLine/\∃m',m'<m/\W (i+1) m' (ys++[y]) H6 else ∃m',m'<m/\W (i+1) m' ys H5)):ae Γ (.comp (some 2) fv .list [x] (some c) elt) σ H Q:=xr (x:=x) _ _ (fun _ _=>Iff.rfl) h
theorem acd{u0 u1 u2 u3 u5 u6:Option V}(S:bA M C H A x ak tk tx hs)(q:∀H',Q (.bl true) H'):aB (nt K C E) (eM.drop 6) (Dn Q) [u0,u1,u2,u3,some<|.ref A.dr,u5,u6] H:=by
 refine dq<|oX<|acb<|dt<|aj rfl<|ax ⟨A.dr,_,rfl,xY S.ro.hd,A.rh,rfl,⟨_,au.of S.ro.eI⟩,fun i m ys H2=>m=hs.length - i/\i<=hs.length/\ys=[]/\H2=H,⟨_,rfl,zqZ _,rfl,rfl⟩,?_⟩;rintro i m ys H2 ⟨rfl,hi,rfl,rfl⟩;by_cases a_:i<hs.length
 ·have hk:hs[i]?=some hs[i]:=zai a_;refine .inr ⟨⟨_,_,au.of S.ro.eI,hk⟩,?_⟩;rintro y H5 ⟨rfl,hx⟩;have hy:=hx _ (au.of S.ro.eI);rw[hk] at hy;obtain⟨t,a,d,e,ht,st,sh,dp,ln⟩:=S.ro.hh _ (zar hk);cases hy;refine⟨t,_,e,aD.of ht,rfl,?_⟩;have key:bg (nt K C E).calm (.cmp .NotEq (.xt qm [.v 0])<|.v 1) [some<|.ref a,some<|.str d.shown] H5 fun b H6=>if b=true then ae (nt K C E).calm (.v 0) [some<|.ref a,some<|.str d.shown] H6 fun y H7=>(([]:List V).length<sizeLine/\∃fJ,fJ<hs.length - i/\fJ=hs.length - (i+1)/\i+1<=hs.length/\[]++[y]=([]:List V)/\H7=H5) else ∃fJ,fJ<hs.length - i/\fJ=hs.length - (i+1)/\i+1<=hs.length/\([]:List V)=[]/\H6=H5:=
   cL (CQ<|aj rfl ⟨a,d,rfl,st H5<|fun _ _ e _=>e,sh,dp,ln,aj rfl<|Ld ⟨_,rfl,iF ⟨_,by lia,rfl,a_,rfl,rfl⟩ rfl⟩⟩)
  exact key
 ·have gT:i=hs.length:=by lia
  subst gT;refine .inl ⟨⟨_,au.of S.ro.eI,zqR _⟩,fun d fd=>?_⟩;refine e7<|aN ⟨zqZ _,fun e fe=>?_⟩;exact aca (by rw[aC<|aK aw fe];exact aw) aw<|q _
abbrev Dq:List RS:=[.ite (.cmp .Eq (.bin .Mod (.v 5) (.c (.int 5))) (.c (.int 0))) [.asg 6 (.call 3 [.v 3,.v 4,(.bin .FloorDiv (.v 5) (.c (.int 5)))])] [.asg 6 (.call 4 [.v 3,.v 4,(.bin .FloorDiv (.v 5) (.c (.int 5)))])],
  .ite (.or [(.not (.v 6)),(.not (.call 5 [.v 3,.v 4,(.bin .FloorDiv (.v 5) (.c (.int 3)))]))]) [.ret (.c (.bl false))] []]
structure LI (M:List Addr) (C:Addr) (H0 H:Hp) (A:Ad) (i:Nat) (x:Str) (ak:List Nat) (tk:List (Nat×List Pt)) (tx:List (List Nat)) (hs:List V):Prop where
 s:bA M C H A x ak tk tx hs
 lk:tk.length<=i
 lx:x.length<=500+320*tk.length
 lh:hs.length<=20*i
 b:aY M H0 H
theorem ace{c:Int}{u0 u1 u2 u6:Option V}(I:LI M C H0 H A i x ak tk tx hs)(hi:i<14)(k:∀x' cz bE cN aP H' u6,LI M C H0 H' A (i+1) x' cz bE cN aP->D.nx [u0,u1,u2,some<|.ref A.p,some<|.ref A.dr,some<|.int c,u6] H'):
  aB (nt K C E) Dq D [u0,u1,u2,some<|.ref A.p,some<|.ref A.dr,some<|.int c,u6] H:=by
 have lk:=I.lk;have lh:=I.lh;have lx:=I.lx;have st:∀(x':Str) (cz:List Nat) (bE:List (Nat×List Pt)) (cN:List (List Nat)) (aP:List V) (H1:Hp),bA M C H1 A x' cz bE cN aP->bE.length<=i+1->x'.length<=500+320*bE.length->aP.length<=hs.length+1->aY M H H1->aB (nt K C E) [.ite (.or [(.not<|.v 6),(.not<|.call 5 [.v 3,.v 4,(.bin .FloorDiv (.v 5)<|.c<|.int 3)])]) [.ret<|.c<|.bl false] []] D [u0,u1,u2,some<|.ref A.p,some<|.ref A.dr,some<|.int c,some<|.bl true] H1:=by
  intro x' cz bE cN aP H1 S1 l1 l2 l3 b1;refine bZ<|lS<|dH<|uK rfl<|iF ?_ rfl;exact qY<|dH<|jf (x3 C) rfl<|ay<|aj rfl<|ay<|aj rfl<|ay<|br<|aj rfl<|ax<|jJ ⟨by decide,by decide⟩<|aN ⟨M,A,x',cz,bE,cN,aP,_,rfl,S1,by lia,by lia,fun cf H2 S2 l4 b2=>fH<|iF (cM<|k x' cz bE cN cf H2 _ ⟨S2,l1,l2,by lia,(I.b.trans b1).trans b2⟩) rfl⟩
 refine bZ<|cL<|br<|aj rfl<|ax<|il (by decide)<|ax<|kl ⟨_,rfl,dC (fun _=>?_)<|fun _=>?_⟩
 ·exact bK (cv (C5 C) rfl<|ay<|aj rfl<|ay<|aj rfl<|ay<|br<|aj rfl<|ax<|jJ ⟨by decide,by decide⟩<|aN ⟨M,A,x,ak,tk,tx,hs,_,rfl,I.s,by lia,by lia,fun aP H' S' l' b'=>st x ak tk tx aP H' S' (by lia) lx l' b'⟩)
 ·exact bK (cv (Dm C) rfl<|ay<|aj rfl<|ay<|aj rfl<|ay<|br<|aj rfl<|ax<|jJ ⟨by decide,by decide⟩<|aN ⟨M,A,x,ak,tk,tx,hs,_,rfl,I.s,by lia,by lia,lx,fun x' cz bE cN aP H' S' a1 a2 a3 b'=>st x' cz bE cN aP H' S' (by lia) a2 a3 b'⟩)
end
section
variable {K:Frag}{M:List Addr}{C:Addr}{H H':Hp}{A:Ad}{x:Str}{ak:List Nat}{tk:List (Nat×List Pt)}{tx:List (List Nat)}{hs:List V}{E:XK}{Q:VK}
theorem acf(ns:List Int)(lo hi:Int):∃ms:List Int,dR (ns.map V.int) (some lo) (some hi)=ms.map V.int/\(0<=lo->lo<=hi->ms.length<= (hi - lo).toNat):=by
 refine⟨(ns.drop<|HT.aQ ns.length 0<|some lo).take<|HT.aQ ns.length ns.length (some hi) - HT.aQ ns.length 0 (some lo),?_,fun h0 h1=>?_⟩
 ·unfold dR;rw[zac,<-List.map_drop,<-List.map_take]
 ·obtain⟨l,rfl⟩:=zaR h0;obtain⟨h,rfl⟩:=zaR (Int.le_trans h0 h1);rw[zaF,zaz,HT.nQ,HT.nQ];lia
theorem zeros:∀n:Nat,(List.replicate n [V.int 0]).flatten=nV (List.replicate n 0)
 | 0=>rfl
 |n+1=>by
  rw[zaI,zbc,zeros n,zaI];rfl
theorem acg(hx:good x)(hl:x.length<=400)(h1:1<=n)(h8:n<=8)(hp:H A.p=some (.ins C A.dx<|f4 x A.se A.ch A.mq))(cA:H A.se=some (.lst<|nV<|List.replicate n 0))(bu:H A.ch=some (.lst []))(nu:H A.mq=some (.lst []))(hdr:H A.dr=some (.dK<|iP A))(eZ:H A.rs=some (.lst<|nV<|List.replicate n 0))(cm:H A.rt=some (.lst []))(gu:H A.rx=some (.lst [.str x]))(eI:H A.rh=some (.lst []))(nd:A.M.Nodup):bA A.M C H A x (List.replicate n 0) [] [x.cps.toList] []:=by
 have kx:=nd
 simp only[Ad.M,zaE,zaa,zab,or_false,not_or] at kx
 refine⟨⟨hp,cA,⟨[],bu,.nil⟩,nu,⟨kx.2.1.1,kx.2.1.2.1,kx.2.2.1.1⟩,⟨by simp,by simp,by simp⟩⟩,⟨hdr,eZ,⟨[],cm,.nil⟩,?_,eI,fun v hv=>by cases hv⟩,⟨⟨rfl,fun i h ps l r e=>by simp at e⟩,rfl,hx,fun l dS=>?_,?_,fun e he=>by cases he⟩,nd,fun m hm=>hm,fun m hm=>?_⟩
 ·rw[gu];unfold sV;show some (HO.lst [V.str x])=some (HO.lst [V.str ⟨x.cps.toList.toArray⟩]);rw[B4]
 ·rw[zag.mp dS];exact⟨by rw[zaU];show x.length<=10000;lia,hx.2⟩
 ·rw[zbj];exact⟨h1,h8⟩
 ·simp only[Ad.M,zaa,zab,or_false] at hm
  rcases hm with h|h|h|h|h|h|h|h
  ·rw[h];exact⟨_,hp,fun us z=>by cases z⟩
  ·rw[h];exact⟨_,cA,fun us z=>by cases z⟩
  ·rw[h];exact⟨_,bu,fun us z=>by cases z⟩
  ·rw[h];exact⟨_,nu,fun us z=>by cases z⟩
  ·rw[h];exact⟨_,eZ,fun us z=>by cases z⟩
  ·rw[h];exact⟨_,cm,fun us z=>by cases z⟩
  ·rw[h];exact⟨_,gu,fun us z=>by cases z⟩
  ·rw[h];exact⟨_,eI,fun us z=>by cases z⟩
def ye(K:Frag):Sp:=fun vs H Q E=>∃(a:Addr) (ns:List Int),vs=[.ref a]/\au K H a (ns.map V.int)/\∀H',Q (.bl true) H'
theorem aci{sc:Addr}{ns:List Int}{u1 u2 u5 u6:Option V}(ha:au K H0 sc (ns.map V.int))(s0:az H0 H)(fM:∀m∈A.M,H0 m=none)(S:bA A.M C H A x ak [] tx [])(lx:x.length<=400)(q:∀H',Q (.bl true) H'):
  aB (nt K C E) (eM.drop 4) (Dn Q) [some<|.ref sc,u1,u2,some<|.ref A.p,some<|.ref A.dr,u5,u6] H:=by
 obtain⟨ms,ems,xH⟩:=acf ns 3 17;have xH:=xH (by decide) (by decide)
 refine Lg (body:=Dq)<|ZH<|aj rfl<|ax ⟨_,rfl,ax ⟨_,rfl,.inl ⟨_,s0.seq ha,fun L fL=>?_⟩⟩⟩;have s6:=sameNew (o:=.lst (dR (ns.map V.int) (some 3)<|some 17)) fL;rw[ems] at s6⊢;have hL:upd H L (.lst<|ms.map V.int) L=some (.lst<|ms.map V.int):=aw;generalize upd H L (.lst<|ms.map V.int)=H6 at s6 hL⊢;have nLM:L∉A.M:=fun hm=>by obtain⟨o,ho,_⟩:=S.ml L hm;rw[fL] at ho;cases ho
 have I0:LI A.M C H6 H6 A 0 x ak [] tx []:=⟨S.same s6,zqR _,by show x.length<=500+320*0;lia,zqR _,fun _ _ e _=>e⟩
 refine⟨L,rfl,⟨_,au.of hL⟩,jT (K:=K) (a:=L) (xs:=ms.map V.int) (fun i σ H7=>i<=14/\∃(u5 u6:Option V) (x':Str) (cz:List Nat) (bE:List (Nat×List Pt)) (cN:List (List Nat)) (aP:List V),σ=[some (.ref sc),u1,u2,some (.ref A.p),some (.ref A.dr),u5,u6]/\LI A.M C H6 H7 A i x' cz bE cN aP)
  ⟨zqZ _,u5,u6,x,ak,[],tx,[],rfl,I0⟩ (fun i σ H7 _ ⟨_,_,_,_,_,_,_,_,_,I⟩=>au.of (I.b _ _ hL nLM)) ?_ ?_⟩
 ·rintro i v σ H7 hv ⟨_,u5,u6,x',cz,bE,cN,aP,rfl,I⟩;have hi:i<ms.length:=by
   have:=(zap.mp hv).1;rw[zac] at this;exact this
  have Nb:i<14:=by
   have:((17:Int) - 3).toNat=14:=by decide
   lia
  rw[zaj,zai hi] at hv;cases hv;show aB (nt K C E) Dq _ [some<|.ref sc,u1,u2,some<|.ref A.p,some<|.ref A.dr,some<|.int ms[i],u6] H7;exact ace I Nb fun x2 acm tk2 tx2 cf H8 u6 I2=>⟨Nb,_,u6,x2,acm,tk2,tx2,cf,rfl,I2⟩
 ·rintro σ H7 ⟨h14,u5,u6,x',cz,bE,cN,aP,rfl,I⟩;have s7:az H0 H7:=fun z o e=>I.b _ _ (s6 _ _<|s0 _ _ e) fun hm=>by rw[fM z hm] at e;cases e
  have lk:=I.lk;have lh:=I.lh;refine bZ<|dH<|jf (x3 C) rfl<|ay<|aj rfl<|ay<|aj rfl<|ay<|cv (qu K) rfl<|ay<|aj rfl<|ay<|ax<|aN ⟨sc,ns,_,rfl,s7.seq ha,by decide,aN ⟨A.M,A,x',cz,bE,cN,aP,_,rfl,I.s,by lia,by lia,fun cf H2 S2 l4 b2=>fH<|iF (cM ?_) rfl⟩⟩
  exact acd S2 q
theorem acp(vs:List V)(H:Hp)(Q:VK)(E:XK)(hh:ye K vs H Q E):aB (nt K C E) eM (Dn Q) (start lq vs) H:=by
 obtain⟨sc,ns,rfl,ha,q⟩:=hh;refine bK<|cv wG rfl<|ay<|cv (qu K) rfl<|ay<|aj rfl<|ay<|ax<|aN ⟨sc,ns,_,rfl,ha,by decide,?_⟩
 refine ay<|cv AX rfl<|ay<|cv (qu K) rfl<|ay<|aj rfl<|ay<|ax<|aN ⟨sc,ns,_,rfl,ha,by decide,aN ⟨_,rfl,fun n0 n1 n2=>aN ⟨_,_,rfl,n1,by lia,fun x H1 gx lx s1=>?_⟩⟩⟩
 have Nc:x.length<=400:=by lia
 refine bK<|br<|ax<|br<|cv (qu K) rfl<|ay<|aj rfl<|ay<|ax<|aN ⟨sc,ns,_,rfl,s1.seq ha,by decide,ax<|il (by decide)<|gX ?_⟩
 have m0:=zaA (cell ns (2:Int).toNat) (show(8:Int)≠0 by decide)
 have m8:=zaB (cell ns (2:Int).toNat) (show(0:Int) <8 by decide)
 obtain⟨hn,ehn⟩:∃hn:Nat,1+cell ns (2:Int).toNat % 8=((hn:Nat):Int):=zaR (by lia)
 have gb:1<=hn:=by lia
 have Nd:hn<=8:=by lia
 rw[ehn];refine bK<|ZE C (Cj C) rfl<|aj rfl<|aj rfl fun p dx fp fx jw=>⟨p,dx,x,hn,rfl,aw,gx,gb,Nd,fun se ch mq H2 m_ ko Dr sv b=>⟨rfl,?_⟩⟩;have fr:∀{z:Addr},upd (upd H1 dx<|.own p) p (.ins C dx []) z=none->H1 z=none/\p≠z:=fun {z} hz=>by
  have n1:z≠p:=fun y=>by rw[y,aw] at hz;cases hz
  have n2:z≠dx:=fun y=>by rw[y,aC jw,aw] at hz;cases hz
  rw[aC n1,aC n2] at hz;exact⟨hz,n1.symm⟩
 have s2:az H1 H2:=fun z o e=>b _ _ (by rw[aC<|aK e fp,aC<|aK e fx];exact e) (aK e fp)
 obtain⟨m_,ng⟩:=fr m_;obtain⟨ko,iu⟩:=fr ko;obtain⟨Dr,nmq⟩:=fr Dr;obtain⟨bH,bu,uw⟩:=sv.bu;have ecv:bH=[]:=by cases uw;rfl
 subst ecv;have hp:=sv.ob;have cA:=sv.cA;have nu:H2 mq=some (.lst []):=sv.gh;refine bK<|ab_ fun dr Nf=>?_;have s3:=sameNew (o:=.dK []) Nf;have lM:upd H2 dr (.dK []) dr=some (.dK []):=aw;generalize upd H2 dr (.dK [])=H3 at s3 lM⊢;refine ay<|ax<|ay<|br<|e7<|ay<|ax<|aN ⟨ji,fun z0 fz=>?_⟩;have s4:=sameNew (o:=.lst [V.int 0]) fz;have Ng:upd H3 z0 (.lst [V.int 0]) z0=some (.lst [V.int 0]):=aw;generalize upd H3 z0 (.lst [V.int 0])=H4 at s4 Ng⊢;refine aj rfl ⟨z0,_,_,rfl,rfl,Ng,by lia,by lia,cY (by show 1*_<=_;lia),fun rs bx=>?_⟩
 rw[zax,zeros];have s5:=sameNew (o:=.lst (nV<|List.replicate hn 0)) bx;have pF:upd H4 rs (.lst<|nV<|List.replicate hn 0) rs=some (.lst<|nV<|List.replicate hn 0):=aw;generalize upd H4 rs (.lst<|nV<|List.replicate hn 0)=H5 at s5 pF⊢;refine ay<|ax<|ay<|e7<|aN ⟨zqZ _,fun rt yf=>?_⟩;have s6:=sameNew (o:=.lst []) yf;have pG:upd H5 rt (.lst []) rt=some (.lst []):=aw;generalize upd H5 rt (.lst [])=H6 at s6 pG⊢;refine ay<|ax<|ay<|e7<|ay<|aj rfl<|aN ⟨ji,fun rx uL=>?_⟩;have s7:=sameNew (o:=.lst [V.str x]) uL;have Ds:upd H6 rx (.lst [V.str x]) rx=some (.lst [V.str x]):=aw;generalize upd H6 rx (.lst [V.str x])=H7 at s7 Ds⊢;refine ay<|ax<|ay<|e7<|aN ⟨zqZ _,fun rh rz=>?_⟩;have s8:=sameNew (o:=.lst []) rz;have Nh:upd H7 rh (.lst []) rh=some (.lst []):=aw;generalize upd H7 rh (.lst [])=H8 at s8 Nh⊢;have Ni:=s3.trans s4;have uF:=Ni.trans s5;have Nj:=uF.trans s6;have Nk:=Nj.trans s7;have s28:=Nk.trans s8;have hd8:=s8 _ _ (s7 _ _<|s6 _ _<|s5 _ _<|s4 _ _ lM);refine aN ⟨hd8,iP ⟨p,dx,se,ch,mq,dr,rs,rt,rx,rh⟩,rfl,(by show 4<=15;decide),?_⟩
 rw[ab9];have b9:aR dr H8 (upd H8 dr<|.dK<|iP ⟨p,dx,se,ch,mq,dr,rs,rt,rx,rh⟩):=aR.upd;have Nl:upd H8 dr (.dK<|iP ⟨p,dx,se,ch,mq,dr,rs,rt,rx,rh⟩) dr=some (.dK<|iP ⟨p,dx,se,ch,mq,dr,rs,rt,rx,rh⟩):=aw;generalize upd H8 dr (.dK<|iP ⟨p,dx,se,ch,mq,dr,rs,rt,rx,rh⟩)=H9 at b9 Nl⊢;have uM:az H2 H9:=fun z o e=>b9 _ _ (s28 _ _ e) (aK e Nf);have uN:=Ni.free bx;have uO:=uF.free yf;have uP:=Nj.free uL;have uQ:=Nk.free rz;have drs:rs≠dr:=(aK (s4 _ _ lM) bx).symm;have drt:rt≠dr:=(aK (s5 _ _<|s4 _ _ lM) yf).symm;have drx:rx≠dr:=(aK (s6 _ _<|s5 _ _<|s4 _ _ lM) uL).symm;have drh:rh≠dr:=(aK (s7 _ _<|s6 _ _<|s5 _ _<|s4 _ _ lM) rz).symm;have e1:rs≠rt:=aK pF yf;have e2:rs≠rx:=aK (s6 _ _ pF) uL;have e3:rs≠rh:=aK (s7 _ _<|s6 _ _ pF) rz;have e4:rt≠rx:=aK pG uL;have e5:rt≠rh:=aK (s7 _ _ pG) rz;have e6:rx≠rh:=aK Ds rz;have nd:(Ad.M ⟨p,dx,se,ch,mq,dr,rs,rt,rx,rh⟩).Nodup:=by
  simp only[Ad.M,zaE,zaa,zab,or_false,not_or,not_false_eq_true,zbC,and_true]
  exact⟨⟨ng,iu,nmq,aK hp uN,aK hp uO,aK hp uP,aK hp uQ⟩,⟨sv.nd.1,sv.nd.2.1,aK cA uN,aK cA uO,aK cA uP,aK cA uQ⟩,⟨sv.nd.2.2,aK bu uN,aK bu uO,aK bu uP,aK bu uQ⟩,⟨aK nu uN,aK nu uO,aK nu uP,aK nu uQ⟩,⟨e1,e2,e3⟩,⟨e4,e5⟩,e6⟩
 have S9:=acg (A:=⟨p,dx,se,ch,mq,dr,rs,rt,rx,rh⟩) gx Nc gb Nd (uM _ _ hp) (uM _ _ cA) (uM _ _ bu) (uM _ _ nu) Nl (b9 _ _ (s8 _ _<|s7 _ _<|s6 _ _ pF) drs) (b9 _ _ (s8 _ _<|s7 _ _ pG) drt) (b9 _ _ (s8 _ _ Ds) drx) (b9 _ _ Nh drh) nd;have c3:=s1.trans s2;refine aci (A:=⟨p,dx,se,ch,mq,dr,rs,rt,rx,rh⟩) ha (c3.trans uM) (fun m hm=>?_) S9 Nc q
 simp only[Ad.M,zaa,zab,or_false] at hm
 rcases hm with h|h|h|h|h|h|h|h<;>rw[h]
 ·exact s1.free fp
 ·exact s1.free m_
 ·exact s1.free ko
 ·exact s1.free Dr
 ·exact c3.free uN
 ·exact c3.free uO
 ·exact c3.free uP
 ·exact c3.free uQ
end
end L2.kb
namespace L2
open PySem PySem.Spec PyProof.Rows
open PySem.W (Frag nsIn findIn isFn keepIn codeIn fnOf mg_of mg_none_of)
def iq(st:Stmt):List Str:=(iA st).args.map (·.arg)
structure Top (P:Program) (w:World) (K:Frag) (mg:Str->Option Value) (base:Heap):Prop where
 X:K.In base
 G:base.Ns mainGlobals mg
def bN(K:Frag)(x:Str)(st:Stmt):Prop:= ∃f fd,nsIn K mainGlobals x=some (some<|.ref f)/\nW K x x st f fd
def fK(K:Frag)(C:Addr)(x q:Str)(st:Stmt):Prop:= ∃f fd,findIn K (.ref C) x=some (some<|.ref f)/\isFn K (.ref f)=true/\nW K x q st f fd
structure yg (K:Frag) (x:Str) (C:Addr):Prop where
 g:nsIn K mainGlobals x=some (some<|.ref C)
 m:makesIn K C=true
 k:keepIn K (.ref C)=true
structure jh (K:Frag) (p:Str×V):Prop where
 ex:∃u,nsIn K mainGlobals p.1=some (some u)/\RelV p.2 u
structure nA (K:Frag) (p:Str×Addr):Prop where
 g:nsIn K mainGlobals p.1=some (some<|.ref p.2)
 x:PySem.W.excIn K p.2 [.type "ValueError",.type "Exception",.type "BaseException",.type "object"] "ValueError.__new__"=true
section
variable {P:Program}{w:World}{K:Frag}{mg:Str->Option Value}{base:Heap}{x q:Str}{st:Stmt}{f C:Addr}{fd:FuncData}{k:Nat}{sp:Sp}
theorem dfk{oc:Value}{od an:Option Addr}{iy:Array (Option Value)}{kV doc pm bC ct:Value}(a:nsIn K mainGlobals x=some (some<|.ref f))(l:K.lookup f=some ⟨oc,od,.func<|fnOf x x (iA st) (eR st) (eS st) .none kV doc pm an bC ct,iy⟩)
  (c:codeIn K bC x=true) (k:keepIn K (.ref f)=true):bN K x st:=⟨f,_,a,EX l c k⟩
theorem dmk{oc:Value}{od an:Option Addr}{iy:Array (Option Value)}{kV doc pm bC ct:Value}(a:findIn K (.ref C) x=some (some<|.ref f))(i:isFn K (.ref f)=true)(l:K.lookup f=some ⟨oc,od,.func<|fnOf x q (iA st) (eR st) (eS st) .none kV doc pm an bC ct,iy⟩)
  (c:codeIn K bC q=true) (k:keepIn K (.ref f)=true):fK K C x q st:=⟨f,_,a,i,EX l c k⟩
theorem acC{t:Tok}(h:nsIn K mainGlobals x=some (some<|.str y t)):jh K (x,.str y):=⟨_,h,⟨_,rfl⟩⟩
theorem acD{y:Int}{t:Tok}(h:nsIn K mainGlobals x=some (some<|.int y t)):jh K (x,.int y):=⟨_,h,⟨_,rfl⟩⟩
theorem acE{y:Addr}(h:nsIn K mainGlobals x=some (some<|.ref y)):jh K (x,.ref y):=⟨_,h,rfl⟩
theorem acF(h:findIn K (.ref C) y=some none):fV K C y:=h
theorem Top.gv{p:Str×V}(Z:Top P w K mg base)(h:jh K p):zQ mg p:=by
 obtain⟨u,a,b⟩:=h.ex;exact⟨u,mg_of Z.X Z.G a,b⟩
theorem Top.no(Z:Top P w K mg base)(h:nsIn K mainGlobals x=some none):mg x=none:=mg_none_of Z.X Z.G h
theorem Top.exc{p:Str×Addr}(Z:Top P w K mg base)(h:nA K p):wc mg base p:=Zz Z.X Z.G h.g h.x
structure uR (P:Program) (w:World) (K:Frag) (mg:Str->Option Value) (base:Heap) (k:Nat) (st:Stmt) (sp:Sp):Prop where
 ok:∀{x q:Str}{f:Addr}{fd:FuncData},nW K x q st f fd->cX P w K mg base (eV P w) k f fd (iq st) sp
theorem acG{N P:List Str}{sc:Scope}(a:sc.kind=.function:=by kernel_rfl)(b:sc.isCoroutine=false:=by kernel_rfl)(c:sc.isGenerator=false:=by kernel_rfl)(d:N.Nodup:=by decide+kernel)(e:N.take P.length=P:=by kernel_rfl)(f:∀x∈P,sc.names.lookup x=some .local\/sc.names.lookup x=some .cell:=by decide+kernel)(g:∀y∈sc.names,y.2≠ .free:=by decide+kernel):rJ N P sc:=⟨a,b,c,d,e,f,g⟩
theorem dL{N N0 bl:List Str}{tab:List (Str×Sp)}{gt:List (Str×V)}{dk:List (Addr×List (Key×V))}{mt kt:List (Str×Addr×Sp)}{et:List (Str×Addr)}{ht:List (Str×Sp)}{body:List RS}(Z:Top P w K mg base)
  (zZ:∀vs H Q E,sp vs H Q E->aB (aM K tab gt dk mt kt et ht E) body {nx:=fun _ H'=>Q .aF H',rt:=Q} (start N0 vs) H)
  (hm:∀{CX:cI}{Γ:bo}{X:Cx},dg CX (wb N (eS st) (tab.map (·.1)) (gt.map (·.1)) bl (mt.map (·.1)) (kt.map (·.1)) (et.map (·.1)) (ht.map (·.1))) Γ X->dB X (eR st) (aB Γ body)) (k:Nat)
  (len:∀vs H Q E,sp vs H Q E->vs.length=(iq st).length:=by intro _ _ _ _ h;repeat (first| (obtain⟨rfl,_⟩:=h;kernel_rfl)| (obtain⟨_,h⟩:=h)))
  (zS:∀p∈tab,j7 P w K mg base k p.1 p.2:=by repeat (first|exact m4|refine m6 (j7.mono (by assumption) (by first|decide|lia)) ?_))
  (zT:∀p∈gt,zQ mg p:=by repeat (first|exact m4|refine m6 (Top.gv (by assumption) (by assumption)) ?_))
  (zU:∀y∈bl,mg y=none:=by repeat (first|exact m4|refine m6 (Top.no (by assumption) (by assumption)) ?_))
  (zV:∀q∈dk,Gu P w K q:=by repeat (first|exact m4|refine m6 (by assumption) ?_))
  (zW:∀p∈mt,j9 P w K mg base k p:=by repeat (first|exact m4|refine m6 (j9.mono (by assumption) (by first|decide|lia)) ?_))
  (zX:∀p∈kt,oy P w K mg base k p:=by repeat (first|exact m4|refine m6 (oy.mono (by assumption) (by first|decide|lia)) ?_))
  (het:∀p∈et,wc mg base p:=by repeat (first|exact m4|refine m6 (Top.exc (by assumption) (by assumption)) ?_))
  (zY:∀p∈ht,zR P w K mg base k p.1 p.2:=by repeat (first|exact m4|refine m6 (zR.mono (by assumption) (by first|decide|lia)) ?_))
  (S:rJ N (iq st) (eS st):=by exact acG) (hN:N0.length=N.length:=by kernel_rfl):uR P w K mg base (k+1) st sp:=
 ⟨fun F=>TY F S tab gt bl mt kt et ht body hm zS zT zU dk zV zW zX het zY len fun vs H Q E h=>by
  have r:=zZ vs H Q E h;unfold start at r⊢;rw[hN] at r;exact r⟩
def Bd(x q:Str)(st:Stmt):Prop:= ∀(kV doc pm:Value) (an:Option Addr) (bC ct:Value) (us:List Value),us.length=(iq st).length->bindArgs (fnOf x q (iA st) (eR st) (eS st) .none kV doc pm an bC ct) ⟨us,[]⟩=pure ((iq st).zip us)
theorem acH(hp:(iq st).length=1)(h:∀(kV doc pm:Value) (an:Option Addr) (bC ct a0:Value),bindArgs (fnOf x q (iA st) (eR st) (eS st) .none kV doc pm an bC ct) ⟨[a0],[]⟩=pure ((iq st).zip [a0])):Bd x q st:=fun kV doc pm an bC ct us hl=>by
 have e:=hl.trans hp;rcases us with _|⟨a0,_|⟨_,_⟩⟩ <;>first|exact h kV doc pm an bC ct _|exact absurd e (by simp)
theorem acI(hp:(iq st).length=2)(h:∀(kV doc pm:Value) (an:Option Addr) (bC ct a0 a1:Value),bindArgs (fnOf x q (iA st) (eR st) (eS st) .none kV doc pm an bC ct) ⟨[a0,a1],[]⟩=pure ((iq st).zip [a0,a1])):Bd x q st:=fun kV doc pm an bC ct us hl=>by
 have e:=hl.trans hp;rcases us with _|⟨a0,_|⟨a1,_|⟨_,_⟩⟩⟩ <;>first|exact h kV doc pm an bC ct _ _|exact absurd e (by simp)
theorem acJ(hp:(iq st).length=3)(h:∀(kV doc pm:Value) (an:Option Addr) (bC ct a0 a1 a2:Value),bindArgs (fnOf x q (iA st) (eR st) (eS st) .none kV doc pm an bC ct) ⟨[a0,a1,a2],[]⟩=pure ((iq st).zip [a0,a1,a2])):Bd x q st:=fun kV doc pm an bC ct us hl=>by
 have e:=hl.trans hp;rcases us with _|⟨a0,_|⟨a1,_|⟨a2,_|⟨_,_⟩⟩⟩⟩ <;>first|exact h kV doc pm an bC ct _ _ _|exact absurd e (by simp)
theorem acK(hp:(iq st).length=4)(h:∀(kV doc pm:Value) (an:Option Addr) (bC ct a0 a1 a2 a3:Value),bindArgs (fnOf x q (iA st) (eR st) (eS st) .none kV doc pm an bC ct) ⟨[a0,a1,a2,a3],[]⟩=pure ((iq st).zip [a0,a1,a2,a3])):Bd x q st:=fun kV doc pm an bC ct us hl=>by
 have e:=hl.trans hp;rcases us with _|⟨a0,_|⟨a1,_|⟨a2,_|⟨a3,_|⟨_,_⟩⟩⟩⟩⟩ <;>first|exact h kV doc pm an bC ct _ _ _ _|exact absurd e (by simp)
theorem Dt(hb:Bd x q st:=by first|exact acH (by kernel_rfl) fun _ _ _ _ _ _ _=>rfl|exact acI (by kernel_rfl) fun _ _ _ _ _ _ _ _=>rfl|exact acJ (by kernel_rfl) fun _ _ _ _ _ _ _ _ _=>rfl|exact acK (by kernel_rfl) fun _ _ _ _ _ _ _ _ _ _=>rfl|exact aeL (by kernel_rfl) fun _ _ _ _ _ _ _ _ _ _ _=>rfl|exact aeM (by kernel_rfl) fun _ _ _ _ _ _ _ _ _ _ _ _=>rfl|exact aeN (by kernel_rfl) fun _ _ _ _ _ _ _ _ _ _ _ _ _=>rfl|exact aeO (by kernel_rfl) fun _ _ _ _ _ _=>rfl):Bd x q st:=hb
theorem dT(Z:Top P w K mg base)(D:bN K x st)(R:uR P w K mg base k st sp)(hb:Bd x x st:=by exact Dt):j7 P w K mg base k x sp:=by
 obtain⟨f,fd,a,F⟩:=D;exact⟨f,fd,_,R.ok F,mg_of Z.X Z.G a,F.kp,F.binds hb⟩
theorem dM(D:fK K C x q st)(c:fj K C)(R:uR P w K mg base k st sp)(hb:Bd x q st:=by exact Dt):j9 P w K mg base k (x,C,sp):=by
 obtain⟨f,fd,a,i,F⟩:=D;exact⟨c,f,fd,_,⟨a,i,F.kp⟩,R.ok F,F.binds hb⟩
theorem dI{cn:Str}(Z:Top P w K mg base)(D:fK K C "__init__" q st)(M:yg K cn C)(R:uR P w K mg base k st sp)(hb:Bd "__init__" q st:=by exact Dt):oy P w K mg base (k+1) (cn,C,sp):=by
 obtain⟨f,fd,a,i,F⟩:=D;exact⟨k,f,fd,_,zqR _,⟨M.m,a,i,M.k⟩,R.ok F,mg_of Z.X Z.G M.g,F.binds hb⟩
theorem acL{h:Heap}{fa:Addr}(X:K.In h)(G:h.Ns mainGlobals mg)(Du:mg x=some (.ref fa))(D:bN K x st)
  (R:∀base,Top P w K mg base->uR P w K mg base k st sp) (hp:iq st=[y]:=by kernel_rfl)
  (hb:∀(kV doc pm:Value) (an:Option Addr) (bC ct a0:Value),bindArgs (fnOf x x (iA st) (eR st) (eS st) .none kV doc pm an bC ct) ⟨[a0],[]⟩=pure [(y,a0)]:=by exact fun _ _ _ _ _ _ _=>rfl):
  ∃fd:FuncData,(∀(s:Shared) (v:Value),BindsTo s fd ⟨[v],[]⟩ [(y,v)])/\∀base:Heap,K.In base->base.Ns mainGlobals mg->cX P w K mg base rS k fa fd [y] (fun vs H Q _=>sp vs H Q E0):=by
 obtain⟨f,fd,e,F⟩:=D;cases Du.symm.trans (mg_of X G e);have F':=F;obtain⟨oc,od,kV,doc,pm,an,bC,ct,iy,rfl,lk,jR⟩:=F'.ex;refine⟨_,fun s v=>.of_eq<|hb kV doc pm an bC ct v,fun base X2 G2=>?_⟩;have r:=(R base ⟨X2,G2⟩).ok F;rw[hp] at r;exact cX.top r
end
end L2
namespace L2.kb
open PySem PySem.Spec PyProof.Rows L2.B
theorem all_mk{P:Program}{w:World}{K:Frag}{h:Heap}{mg:Str->Option Value}{fa pH iR Nm yh uS Dv Dw Dx:Addr}(X:K.In h)(G:h.Ns mainGlobals mg)(Du:mg "law"=some (.ref fa))
  (aeP:jh K ("BadText",.ref Nm))
  (aeQ:jh K ("BadChange",.ref yh))
  (aeR:jh K ("BadFit",.ref uS))
  (aeS:jh K ("BadLetter",.ref Dv))
  (aeT:jh K ("NoLetter",.ref Dw))
  (aeU:jh K ("NoHand",.ref Dx))
  (acM:yg K "Walk" pH)
  (acN:yg K "Server" iR)
  (nB:oA K pH)
  (fN:kd K iR)
  (aeV:nA K ("BadText",Nm))
  (aeW:nA K ("BadChange",yh))
  (aeX:nA K ("BadFit",uS))
  (aeY:nA K ("BadLetter",Dv))
  (aeZ:nA K ("NoLetter",Dw))
  (ae0:nA K ("NoHand",Dx))
  (a0:bN K "is_whole" HD)
  (a1:bN K "is_between" HE)
  (a2:bN K "is_word" HF)
  (a3:bN K "is_text" HG)
  (a4:bN K "need_text" HH)
  (a5:bN K "is_part" HI)
  (a6:bN K "may_follow" HJ)
  (a7:bN K "need_change" HK)
  (a8:bN K "is_change" HM)
  (a9:bN K "part_size" HN)
  (a10:bN K "sizes" HP)
  (a11:fK K pH "__init__" "Walk.__init__" HQ)
  (a12:fK K pH "word" "Walk.word" HR)
  (a13:fK K pH "left" "Walk.left" HS)
  (a14:fK K pH "take" "Walk.take" HU)
  (a15:bN K "add_keep" HV)
  (a16:bN K "add_texts" HW)
  (a17:bN K "neat" HX)
  (a18:bN K "done" HY)
  (a19:bN K "put_first" HZ)
  (a20:bN K "share" H_)
  (a21:bN K "passed" Ia)
  (a22:fK K iR "__init__" "Server.__init__" Ie)
  (a23:fK K iR "text" "Server.text" Ih)
  (a24:fK K iR "many" "Server.many" Ij)
  (a25:fK K iR "change" "Server.change" Ip)
  (a26:fK K iR "took" "Server.took" Iu)
  (a27:fK K iR "is_ask" "Server.is_ask" Iy)
  (a28:fK K iR "is_again" "Server.is_again" IA)
  (a29:fK K iR "is_known" "Server.is_known" IC)
  (a30:fK K iR "came" "Server.came" IE)
  (a31:fK K iR "take_in" "Server.take_in" IH)
  (a32:bN K "_law_cell_at" II)
  (a33:bN K "_law_whole" IJ)
  (a34:bN K "_law_mixed" IL)
  (a35:bN K "_law_text" IM)
  (a36:bN K "_law_size" IP)
  (a37:bN K "_law_parts" IQ)
  (a38:bN K "_law_neat" IS)
  (a39:bN K "_law_change" IT)
  (a40:bN K "_law_done" IU)
  (a41:bN K "_law_same" IV)
  (a42:bN K "_law_gaps" IY)
  (a43:bN K "_law_passed_on" Ja)
  (a44:bN K "_law_letter_same" Jc)
  (a45:bN K "_law_letters_same" Je)
  (a46:bN K "_law_changes_right" Ji)
  (a47:bN K "_law_stands" Jl)
  (a48:bN K "_law_emptied" Jn)
  (a49:bN K "_law_asked" cT)
  (a50:bN K "_law_again" Jq)
  (a51:bN K "law" fE)
  (ae1:jh K ("SIGNS",.str SG))
  (ae2:jh K ("MOST_HANDS",.int 8))
  (ae3:nsIn K mainGlobals "bool"=some none)
  (ae4:nsIn K mainGlobals "int"=some none)
  (ae5:nsIn K mainGlobals "isinstance"=some none)
  (ae6:nsIn K mainGlobals "len"=some none)
  (ae7:nsIn K mainGlobals "list"=some none)
  (ae8:nsIn K mainGlobals "max"=some none)
  (ae9:nsIn K mainGlobals "min"=some none)
  (ae_:nsIn K mainGlobals "range"=some none)
  (afa:nsIn K mainGlobals "repr"=some none)
  (afb:nsIn K mainGlobals "str"=some none)
  (afc:nsIn K mainGlobals "sum"=some none)
  (afd:nsIn K mainGlobals "tuple"=some none)
  (afe:nsIn K mainGlobals "zip"=some none)
  :∃fd:FuncData,(∀(s:Shared) (v:Value),BindsTo s fd ⟨[v],[]⟩ [("_law_script",v)])/\∀base:Heap,K.In base->base.Ns mainGlobals mg->cX P w K mg base rS 9 fa fd ["_law_script"] (fun vs H Q _=>(ye K) vs H Q E0):=by
 refine acL X G Du a51 fun base Z=>?_;have T0:=dT Z a0 (dL Z Yn @U8 0);have aff:=T0.weak (a:=ja) fun _ _ _ _ h=>Yo h;have T1:=dT Z a1 (dL Z ZC @U9 1);have afg:=T1.weak (a:=lP) fun _ _ _ _ h=>ZD h;have T2:=dT Z a2 (dL Z Yt @U_ 0);have afh:=T2.weak (a:=oG K) fun _ _ _ _ h=>Yu h;have T3:=dT Z a3 (dL Z Yp @Va 0);have T4:=dT Z a4 (dL Z Yr @Vb 1);have afi:=T4.weak (a:=tq) fun _ _ _ _ h=>Ys h;have T5:=dT Z a5 (dL Z Yw @Vc 1);have afj:=T5.weak (a:=Au) fun _ _ _ _ h=>Yy h;have T6:=dT Z a6 (dL Z WQ @Vd 0);have T7:=dT Z a7 (dL Z (W0 (et:=[("BadChange",yh)])) @Ve 2);have T8:=dT Z a8 (dL Z (aam (CB:=yh)) @Vg 3);have T9:=dT Z a9 (dL Z WR @Vh 0);have T10:=dT Z a10 (dL Z W4 @Vi 3);have T11:=dI Z a11 acM (dL Z (YJ nB) @Vj 0);have T12:=dM a12 nB.cl (dL Z (YK nB) @Vk 0);have T13:=dM a13 nB.cl (dL Z (YL nB) @Vl 1);have afn:=T13.weak (a:=qM pH) fun _ _ _ _ h=>YM h;have T14:=dM a14 nB.cl (dL Z (YN nB) @Vm 2);have T15:=dT Z a15 (dL Z Xe @Vn 0);have T16:=dT Z a16 (dL Z W_ @Vo 0);have T17:=dT Z a17 (dL Z Xg @Vp 1);have T18:=dT Z a18 (dL Z (X9 (et:=[("BadFit",uS)])) @Vq 4);have T19:=dT Z a19 (dL Z YV @Vr 3);have T20:=dT Z a20 (dL Z (YX (et:=[("BadFit",uS)])) @Vs 0);have T21:=dT Z a21 (dL Z (Y9 (et:=[("BadFit",uS)]) nB) @Vt 4);have T22:=dI Z a22 acN (dL Z (aan (CN:=Dx) fN) @Vy 2);have T23:=dM a23 fN.cl (dL Z (aau fN) @Vz 0);have T24:=dM a24 fN.cl (dL Z (aav fN) @VA 0);have T25:=dM a25 fN.cl (dL Z (aaw (CL:=Dw) fN) @VC 2);have T26:=dM a26 fN.cl (dL Z (aax fN) @VD 3);have T29:=dM a29 fN.cl (dL Z (aay fN) @VI 2);have T27:=dM a27 fN.cl (dL Z aaB @VF 4);have T28:=dM a28 fN.cl (dL Z aaA @VH 3);have T31:=dM a31 fN.cl (dL Z (aaD fN) @VR 5);have T30:=dM a30 fN.cl (dL Z (aaS (CB:=Dv) fN) @VN 6);have T32:=dT Z a32 (dL Z WS @VS 0);have T33:=dT Z a33 (dL Z Zy @VT 0);have T34:=dT Z a34 (dL Z WT @VU 0);have T35:=dT Z a35 (dL Z Xp @VW 1);have T36:=dT Z a36 (dL Z X6 @VX 0);have T37:=dT Z a37 (dL Z ZJ @VY 2);have T38:=dT Z a38 (dL Z Xx @VZ 0);have T39:=dT Z a39 (dL Z ZS @V0 3);have T40:=dT Z a40 (dL Z YC @V1 0);have T41:=dT Z a41 (dL Z Zx @V2 1);have T42:=dT Z a42 (dL Z Z2 @V4 0);have T43:=dT Z a43 (dL Z aaa @Wa 1);have T44:=dT Z a44 (dL Z aa0 @Wd 2);have T45:=dT Z a45 (dL Z aa2 @Wg 3);have T46:=dT Z a46 (dL Z aa4 @Wi 3);have T47:=dT Z a47 (dL Z aa9 @Wl 4);have T48:=dT Z a48 (dL Z (aba (C:=iR)) @Wn 2);have T49:=dT Z a49 (dL Z ab8 @WC 7);have T50:=dT Z a50 (dL Z abq @WG 7);exact dL Z acp @WO 8
theorem walk{l:PySem.W.OpenLaw}{q:Program}{loose:List Str}{XP:(Str->Option Value)->Heap->Prop}{YP:World->Heap->Prop}{d:DefRec}{K:Params->Frag}(hn:l.most=some 63)(rR:d.params.defaults=[])
  (hY:∀(w:World) (h:Heap),YP w h->(K w.params).In h)
  (F:∀(w:World) (mg:Str->Option Value) (fa:Addr) (h:Heap),(K w.params).In h->h.Ns mainGlobals mg->mg d.name=some (.ref fa)->
   ∃fd:FuncData,(∀(s:Shared) (u:Value),BindsTo s fd ⟨[u],[]⟩ [("_law_script",u)])/\∀base:Heap,(K w.params).In base->base.Ns mainGlobals mg->cX l.prog w (K w.params) mg base rS 9 fa fd ["_law_script"] ((fun K=>(fun vs H Q _=>(ye K) vs H Q E0)) (K w.params))):
  PySem.W.WalkO q loose XP YP l.row.toRowW d [] (fun f vs=>PySem.call f vs):=
 L2.Qs (n:=63) (k:=9) (x:="_law_script") (CX:=fun _=>rS) (sp:=fun w=>(fun K=>(fun vs H Q _=>(ye K) vs H Q E0)) (K w.params)) hn (by decide) rR ⟨rfl,by decide,by decide,rfl⟩ hY F (fun _ _ a ns hl _ hS=>⟨a,ns,rfl,hS,fun _=>rfl⟩) fun _ _ _ _ _ z=>z
end L2.kb
namespace PySem.W.Fast
def tw6690299151344952395:=()
def tw5795863193384885808:=()
def tw8858119043645483537:=()
def tw14306762501276808409:=()
def tw9112981428520761980:=()
def tw16870265335638885589:=()
def tw9303929126766527761:=()
def tw11507747787187840383:=()
def tw10960653188375132205:=()
def tw12280243383976063283:=()
def tw8687575702584941289:=()
def tw304229740505714442:=()
def tw13746882701547700186:=()
def tw10263690538626833180:=()
def tw14751983896199730272:=()
def tw17878207150230170523:=()
def tw14142145356581916542:=()
def tw148273598401116729:=()
def tw8541887138533453940:=()
def tw15334393920116689490:=()
def tw17045290680720510140:=()
def tw10263549057969326642:=()
def tw17996531903993627732:=()
def tw4358216719111387948:=()
def tw8960376594687044816:=()
def tw2344523360929494536:=()
def tw3189107163740835993:=()
def tw6044611622746409678:=()
def tw4674153695761217421:=()
def tw1995155093420643279:=()
def tw260548225709066866:=()
def tw12534603015924355860:=()
def tw1387266421861461300:=()
def tw18186219829751289123:=()
def tw8036247858140542913:=()
def tw16606832160591154131:=()
def tw3855526744898826750:=()
def tw16788518626847951563:=()
def tw18057074456441574083:=()
def tw15758253670855690421:=()
def tw6118601089762314294:=()
def tw12847159489385031955:=()
def tw2485597214738923568:=()
def tw1938655381292304491:=()
def tw8790900297637586560:=()
def tw8713283725016495934:=()
def tw17941329785056108318:=()
def tw7981900120964136112:=()
def tw1150821623178252970:=()
def tw5441415485336664613:=()
def tw12233352526813170792:=()
def tw2297746358359107106:=()
def tw17443757207459483572:=()
def tw16523286666443813040:=()
def tw17152131434474741928:=()
def tw12488980240375602206:=()
def tw17830266774007562176:=()
def tw5144959444166134225:=()
def tw527466816287311810:=()
def tw2930062399985553113:=()
def tw14345648962078898514:=()
def tw9817983196966341320:=()
def tw807697254986692719:=()
def tw7664578906686818830:=()
def tw11280602439256864775:=()
def tw3546084059966904929:=()
def tw288421627613716064:=()
def tw12686641107167948688:=()
def tw9639600809360626080:=()
def tw12891033559454750311:=()
def tw9210981466879739072:=()
def tw5237486073229788628:=()
def tw9478600089979614541:=()
def tw4093796753542635693:=()
def tw7742710228369643272:=()
def tw8974987346774578156:=()
def tw17707710832380175030:=()
def tw18446263912394959520:=()
def tw3640392214150085189:=()
def tw17909164132942941405:=()
def tw18349345523530867839:=()
def tw6846971030386693710:=()
def tw1558072627291630621:=()
def tw16185472770548247819:=()
def tw7788416264869287751:=()
def tw9613265266551460592:=()
def tw11691338183902442244:=()
def tw9889814556248639620:=()
def tw389195975951863135:=()
def tw15047109289915823597:=()
def tw17674760575651021876:=()
def tw17079190718845993148:=()
def tw11275805280019467927:=()
def tw4315358929942475843:=()
def tw7145323182848520389:=()
def tw13755422846109926579:=()
def tw3538352071145924005:=()
def tw16112504749840141161:=()
def tw261856686418125231:=()
def tw12843433238251044915:=()
def tw11592091077184435229:=()
def tw12387423121164984953:=()
def tw7839202410154885984:=()
def tw3462634372743046324:=()
def tw7998296342253823654:=()
def tw14628761634688172079:=()
def tw9487928688404606389:=()
def tw9253290103292756060:=()
def tw6204494096889613004:=()
def tw15423379010892722710:=()
def tw5518705895384158483:=()
def tw6210063113971485422:=()
def tw10564263795852078190:=()
def tw3302657488943923084:=()
def tw15576882647649981540:=()
def tw12209537892148014012:=()
def tw13245985448703606239:=()
def tw111812019801083799:=()
def tw11400923380832159772:=()
def tw2924339325715892245:=()
def tw9208895632401648069:=()
def tw12746316593690209698:=()
def tw8472850116022615467:=()
def tw9377875970716576063:=()
def tw3516129825330491576:=()
def tw11671376490275439685:=()
def tw3080346908952439304:=()
def tw10563090630561584900:=()
def tw5669626575457539212:=()
def tw3176779290838691513:=()
def tw16717819794806598506:=()
def tw1917471847284985446:=()
def tw2488477662297824734:=()
def tw5616369973003492182:=()
def tw12220879320608622092:=()
def tw15876089680625221708:=()
def tw2906952070995010488:=()
def tw5674219040463783171:=()
def tw18299897938411934079:=()
def tw1246547105835123776:=()
def tw7890729084260627770:=()
def tw14222327044464721830:=()
def tw2825429585992007461:=()
def tw7468674804489658623:=()
def tw3454892182709988147:=()
def tw18203157472876989669:=()
def tw9509952807826874581:=()
def tw16698819811142472180:=()
def tw12608039040265972890:=()
def tw15638881592012415386:=()
def tw13584628866024345033:=()
def tw5499248568713017452:=()
def tw10204670836055043680:=()
def tw788002663085876746:=()
def tw7515020703479135347:=()
def tw622633880699073007:=()
def tw15992046684521476888:=()
def tw7225657355418648212:=()
def tw10408592675746759918:=()
def tw2595652010979898566:=()
def tw16728996207701762052:=()
def tw11615969993715075498:=()
def tw7994837111724459820:=()
def tw12301761538070456423:=()
def tw17330292914382295040:=()
def tw1105785622176258733:=()
def tw5355307312973836723:=()
def tw4102876293075315308:=()
def tw481185291264969786:=()
def tw12502538559339961973:=()
def tw13100704295355072100:=()
def tw17452017185924672243:=()
def tw6119213818588798643:=()
end PySem.W.Fast
open PySem PySem.W PyProof.Rows
set_option maxRecDepth 100000 in
set_option maxHeartbeats 0 in
theorem PySem.Challenge.cw_inkloom_k35_the_server_holds : PySem.Challenge.rw_inkloom_k35_the_server.Holds := by
 w_on;o_law;k_head;(case hw=>w_witness2)
 k_fill
 refine L2.kb.walk (l:=PySem.Challenge.rw_inkloom_k35_the_server) rfl rfl (fun w h Y=>PySem.W.kIn_of Y) ?F
 case F=>
  intro w mg fa h KX G nT
  refine' L2.kb.all_mk KX G nT ..
  all_goals try first | refine' L2.dfk .. | refine' L2.acE .. | refine' L2.yg.mk .. | refine' L2.dmk .. | refine' L2.acD .. | refine' L2.acC .. | refine' L2.nA.mk .. | refine' L2.B.oA.mk (L2.fj.mk ..) .. | refine' L2.kb.kd.mk (L2.fj.mk ..) ..
  all_goals try refine' L2.acF ..
  all_goals try first | k_is | k_exc | kernel_rfl
