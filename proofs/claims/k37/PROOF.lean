import PyProof.Rows.All
import Wide.All
import OpenK.AllK
import Wide.FinOn
import Lean
import PyProof.EqAt
import PyProof.EqKinds
import PyProof.TupleCall
import PyProof.Rows.EqDataRows
import PyProof.DictList
import PyProof.FactsAll.dict_1
import PyProof.FactsAll.subtypes_4
import KE.KTryMore
import PyProof.WalksEnum
import PyProof.EnumMake
import PyProof.ListStr
import PyProof.TupleOfStr
import PyProof.Dict
import PyProof.ToksMono
import PyProof.StrCalls6
import PyProof.StrWalks
import PyProof.ConsumeWalk
import PyProof.CallStr
import PyProof.MeetsStr
import KE.KIntText
import PyProof.StrCalls2
import PyProof.StrOps2
import KE.KDictSum
import PyProof.ReprRoads
import KE.KDictOf
import PyProof.DictTruth
import PyProof.StrLawsIn
import KE.KSortTup
import PyProof.WalksMore
import PyProof.TupleIter
import PyProof.Rows.StrCut
import PyProof.ListRange
import KE.KRevIter
import PyProof.SliceList
import PyProof.ZipIter
import PyProof.ListNew
import PySem.Challenge.RW_inkloom_k37_whole_behind_each_letter
set_option genSizeOf false
set_option Elab.async false
set_option linter.all false
set_option maxRecDepth 100000
set_option compiler.extract_closed false
noncomputable section
theorem jH:1≤PySem.sizeLine:=by decide
theorem e7:2≤PySem.sizeLine:=by decide
theorem xH:3≤PySem.sizeLine:=by decide
theorem Rh:4≤PySem.sizeLine:=by decide
theorem Bc:5≤PySem.sizeLine:=by decide
theorem Ri:6≤PySem.sizeLine:=by decide
open PySem.W (Frag callWith_K cellsFrom_some emptyDict exmOne handedIn hasDictIn hideAll hideAll_get instObj kia_one kitOne kitx_dict kitx_list lookIn makesIn methodObj mroIn nsIn of_hideAll plainGet plainGet_of plainOver specialIn takerIn takesIn)
theorem zqT[Decidable p](h:p):decide p=true:=by lia
theorem zqF[Decidable p](h: ¬p):decide p=false:=by lia
theorem zqA{α:Type}{a b:List α}:(a++b).length=a.length+b.length:=by simp
theorem zqR(n:Nat):n≤n:=Nat.le_refl n
theorem zqZ(n:Nat):0≤n:=Nat.zero_le n
def zaa:=@List.append_nil
def zab:=@List.mem_append
def zac:=@List.mem_cons
def zad:=@List.getElem?_eq_some_iff
def zae:=@Bool.and_eq_true
def zaf:=@List.length_map
def zag:=@List.mem_singleton
def zah:=@List.not_mem_nil
def zai:=@List.getElem?_eq_getElem
def zaj:=@List.append_assoc
def zak:=@List.size_toArray
def zal:=@List.mem_of_getElem?
def zam:=@List.mem_map
def zan:=@List.getElem?_map
def zao:=@Nat.ne_of_lt
def zap:=@Option.some.inj
def zaq:=@Nat.le_trans
def zar:=@List.map_append
def zas:=@Bool.false_ne_true
def zat:=@List.map_cons
def zau:=@List.mem_cons_self
def zav:=@List.mem_cons_of_mem
def zaw:=@List.length_cons
def zax:=@List.mem_append_right
def zay:=@List.getElem?_append_left
def zaz:=@List.length_drop
def zaA:=@Nat.lt_of_lt_of_le
def zaB:=@List.length_take
def zaC:=@List.getElem?_set
def zaD:=@Int.toNat_natCast
def zaE:=@List.length_eq_zero_iff
def zaF:=@List.nodup_cons
def zaG:=@List.take_of_length_le
def zaH:=@Bool.false_xor
def zaI:=@Int.emod_nonneg
def zaJ:=@Int.emod_lt_of_pos
def zaK:=@Nat.sub_self
def zaL:=@List.getElem?_append_right
def zaM:=@Bool.true_xor
def zaN:=@List.getD_eq_getElem?_getD
def zaO:=@List.find?_cons
def zaP:=@Int.natCast_add
def zaQ:=@Nat.lt_irrefl
def zaR:=@List.mem_append_left
def zaS:=@Int.le_refl
def zaT:=@Int.eq_ofNat_of_zero_le
def zaU:=@List.map_nil
def zaV:=@Option.map_some
def zaW:=@List.cons_append
def zaX:=@List.drop_eq_getElem_cons
def zaY:=@Bool.not_eq_true'
def zaZ:=@Nat.add_assoc
def zba:=@List.replicate_succ
def zbb:=@List.length_nil
def zbc:=@List.lookup_cons
def zbd:=@List.length_range
def zbe:=@List.getElem?_of_mem
def zbf:=@List.mem_map_of_mem
def zbg:=@Nat.succ_pos
def zbh:=@List.length_set
def zbi:=@List.all_cons
def zbj:=@List.cons.inj
def zbk:=@Nat.le_of_eq
def zbl:=@List.any_cons
def zbm:=@List.length_singleton
def zbn:=@Option.ne_none_iff_exists'
def zbo:=@List.drop_zero
def zbp:=@List.take_length
def zbq:=@List.take_add_one
def zbr:=@List.sum_cons
def zbs:=@List.drop_length
def zbt:=@List.take_nil
def zbu:=@List.mem_of_mem_drop
def zbv:=@Nat.add_right_comm
def zbw:=@List.map_set
def zbx:=@Bool.eq_iff_iff
def zby:=@List.length_replicate
def zbz:=@Bool.or_false
def zbA:=@List.flatten_cons
def zbB:=@List.nil_append
def zbC:=@Bool.false_eq_true
def zbD:=@Nat.lt_succ_of_lt
def zbE:=@List.all_eq_true
def zbF:=@List.sum_append
def zbG:=@List.take_append_drop
def zbH:=@List.mem_flatten
def zbI:=@Nat.not_lt_zero
def zbJ:=@List.mem_or_eq_of_mem_set
def zbK:=@List.filterMap_cons
def zbL:=@Array.length_toList
def zbM:=@List.mem_filterMap
def zbN:=@List.length_dropLast
def zbO:=@List.getLast?_append
def zbP:=@List.mem_of_mem_take
def zbQ:=@List.drop_eq_nil_of_le
inductive qX6{a' b' c' d' e' f':Type}(p:a'->b'->c'->d'->e'->f'->Prop):Prop|i(a:a')(b:b')(c:c')(d:d')(e:e')(f:f')(_:p a b c d e f)
inductive qX7{a' b' c' d' e' f' g':Type}(p:a'->b'->c'->d'->e'->f'->g'->Prop):Prop|i(a:a')(b:b')(c:c')(d:d')(e:e')(f:f')(g:g')(_:p a b c d e f g)
inductive qX8{a' b' c' d' e' f' g' h':Type}(p:a'->b'->c'->d'->e'->f'->g'->h'->Prop):Prop|i(a:a')(b:b')(c:c')(d:d')(e:e')(f:f')(g:g')(h:h')(_:p a b c d e f g h)
inductive qA5(a b c d e:Prop):Prop|i(_:a)(_:b)(_:c)(_:d)(_:e)
inductive qA6(a b c d e f:Prop):Prop|i(_:a)(_:b)(_:c)(_:d)(_:e)(_:f)
inductive qA8(a b c d e f g h:Prop):Prop|i(_:a)(_:b)(_:c)(_:d)(_:e)(_:f)(_:g)(_:h)
inductive qA16(a b c d e f g h i j k l m n o p:Prop):Prop|i(_:a)(_:b)(_:c)(_:d)(_:e)(_:f)(_:g)(_:h)(_:i)(_:j)(_:k)(_:l)(_:m)(_:n)(_:o)(_:p)
namespace L2
open PySem PySem.Spec PyProof.Rows
abbrev Key:=Sum Int Str
def rZ:Key->Value->Bool
 |.inl k,v=>Value.isInt k v
 |.inr x,v=>Value.isStrOf x v
def Rj(w:World):Key->Int
 |.inl k=>hashInt k
 |.inr x=>hashStr w x
theorem mF:∀{k:Key}{v:Value},rZ k v=true->(∃i t,k=Sum.inl i/\v=Value.int i t)\/(∃x t,k=Sum.inr x/\v=Value.str x t)
 |.inl i,v,h=>by
  obtain⟨t,e⟩:=Value.isInt_shape h;exact .inl ⟨i,t,rfl,e⟩
 |.inr x,v,h=>by
  obtain⟨t,e⟩:=Value.isStrOf_shape h;exact .inr ⟨x,t,rfl,e⟩
theorem Rk(i:Int)(t:Tok):rZ (.inl i) (.int i t)=true:=by simp[rZ,Value.isInt]
theorem Rl(x:Str)(t:Tok):rZ (.inr x) (.str x t)=true:=by simp[rZ,Value.isStrOf]
theorem Rn(a b:Int):decide ((Sum.inl a:Key)=Sum.inl b)=(a==b):=by lia
theorem Ro(a b:Str):decide ((Sum.inr a:Key)=Sum.inr b)=decide (a=b):=by lia
theorem Rp(a:Int)(b:Str):decide ((Sum.inl a:Key)=Sum.inr b)=false:=rfl
theorem Rq(a:Str)(b:Int):decide ((Sum.inr a:Key)=Sum.inl b)=false:=rfl
def eO(prog:Program)(w:World):PySem.KeyKind prog w Key where
 is:=rZ
 hash:=Rj w
 inj:=λv a b ha hb=>by
  rcases mF ha with⟨i,t,rfl,rfl⟩|⟨x,t,rfl,rfl⟩
  ·rcases mF hb with⟨j,u,rfl,e⟩|⟨y,u,rfl,e⟩
   ·injection e with e1 _;rw[e1]
   ·exact nomatch e
  ·rcases mF hb with⟨j,u,rfl,e⟩|⟨y,u,rfl,e⟩
   ·exact nomatch e
   ·injection e with e1 _;rw[e1]
 byValue:=λk v h=>by
  rcases mF h with⟨i,t,rfl,rfl⟩|⟨x,t,rfl,rfl⟩ <;>rfl
 pyHash:=λhv h=>by
  rcases mF hv with⟨i,t,rfl,rfl⟩|⟨x,t,rfl,rfl⟩
  ·exact wpAny_pyHash_int h
  ·exact wpAny_pyHash_str h
 eqBool:=λhu hv h=>by
  rcases mF hu with⟨i,t,rfl,rfl⟩|⟨x,t,rfl,rfl⟩
  ·rcases mF hv with⟨j,u,rfl,rfl⟩|⟨y,u,rfl,rfl⟩
   ·rw[Rn] at h;exact wpAny_eqBool_int h
   ·rw[Rp] at h;exact SeqAt.EqAt.int_str i t y u _ _ _ _ h
  ·rcases mF hv with⟨j,u,rfl,rfl⟩|⟨y,u,rfl,rfl⟩
   ·rw[Rq] at h;exact SeqAt.EqAt.str_int x t j u _ _ _ _ h
   ·rw[Ro] at h;exact wpAny_eqBool_str h
 «strs»:=λk x t v h=>by
  rcases mF h with⟨i,u,rfl,e⟩|⟨y,u,rfl,e⟩
  ·exact nomatch e
  ·injection e with e1 _
   subst e1;cases v<;>rfl
theorem FW(prog:Program)(w:World)(i:Int)(t:Tok):(eO prog w).is (.inl i) (.int i t)=true:=Rk i t
theorem FX(prog:Program)(w:World)(x:Str)(t:Tok):(eO prog w).is (.inr x) (.str x t)=true:=Rl x t
inductive V where
 |au|bl (b:Bool)|int (i:Int)|str (x:Str)|gK (b:Array UInt8)|nY (b:UInt64)|ref (a:Addr)|ty (n:String)
 deriving DecidableEq
def RelV:V->Value->Prop
 |.au,u=>u=Value.none
 |.bl b,u=>u=Value.bool b
 |.int i,u=>∃t,u=Value.int i t
 |.str x,u=>∃t,u=Value.str x t
 |.gK b,u=>∃t,u=Value.bytes b t
 |.nY b,u=>∃t,u=Value.float b t
 |.ref a,u=>u=Value.ref a
 |.ty n,u=>u=Value.type n
abbrev Vals:List V->List Value->Prop:=Paired RelV
theorem Vals.length{us:List Value}(r:Vals xs us):xs.length=us.length:=Paired.length r
theorem Vals.get:∀{xs:List V}{us:List Value}{i:Nat}{x:V},Vals xs us->xs[i]?=some x->∃u,us[i]?=some u/\RelV x u
 |_,_,_,_,.nil,e=>by simp at e
 |_,_,0,_,.cons r _,e=>by simp at e;subst e;exact⟨_,rfl,r⟩
 |_,_,i+1,x,.cons _ t,e=>by
  obtain⟨u,h1,h2⟩:=Vals.get t (by simpa using e)
  exact⟨u,by simpa using h1,h2⟩
theorem Vals.set{u:Value}(r:RelV x u):∀{xs:List V}{us:List Value} (i:Nat),Vals xs us->Vals (xs.set i x) (us.set i u)
 |_,_,_,.nil=>.nil
 |_,_,0,.cons _ t=>.cons r t
 |_,_,i+1,.cons q t=>.cons q (Vals.set r i t)
theorem Vals.append:∀{xs ys:List V}{us ws:List Value},Vals xs us->Vals ys ws->Vals (xs++ys) (us++ws)
 |_,_,_,_,.nil,s=>s
 |_,_,_,_,.cons r t,s=>.cons r (Vals.append t s)
theorem Vals.take:∀{xs:List V}{us:List Value} (n:Nat),Vals xs us->Vals (xs.take n) (us.take n)
 |_,_,0,_=>.nil
 |_,_,_+1,.nil=>.nil
 |_,_,n+1,.cons r t=>.cons r (Vals.take n t)
theorem Vals.drop:∀{xs:List V}{us:List Value} (n:Nat),Vals xs us->Vals (xs.drop n) (us.drop n)
 |_,_,0,r=>r
 |_,_,_+1,.nil=>.nil
 |_,_,n+1,.cons _ t=>Vals.drop n t
def gL:Option V->Option Value->Prop
 |some v,some u=>RelV v u
 |none,none=>True
 |_,_=>False
def KV{κ:Type}:List (κ×V)->List (κ×Value)->Prop:=Paired fun(p:κ×V) (q:κ×Value)=>p.1=q.1/\RelV p.2 q.2
def kV:Key->V
 |.inl i=>.int i
 |.inr x=>.str x
inductive HO where
 |lst (xs:List V)
 |tup (xs:List V)
 |dK (kvs:List (Key×V))|dT (kvs:List (List Key×V))
 |set (S:Int->Bool) (n:Nat)
 |ins (C dx:Addr) (fs:List (Str×V))
 |own (x:Addr)
 |xd (fs:List (Str×V))
 |met (f x:Addr)
 |fA (lo hi:Int)
 |cj (o:Obj) (u:HO)
 |lA (ps:Array Value)
 |ext (φ:Heap->Prop)
abbrev Hp:=Addr->Option HO
def upd(H:Hp)(a:Addr)(o:HO):Hp:=λb=>if b=a then some o else H b
theorem ay{a:Addr}{o:HO}:upd H a o a=some o:=by unfold upd;rw[if_pos rfl]
theorem az{a b:Addr}{o:HO}(h:b≠a):upd H a o b=H b:=by unfold upd;rw[if_neg h]
theorem xI{a:Addr}{o u:HO}:upd (upd H a o) a u=upd H a u:=by
 funext b;unfold upd;split<;>rfl
theorem cy{H:Hp}{a b:Addr}{o u:HO}(h:H a=some o)(h':H b=some u)(d:o≠u):a≠b:=by lia
theorem aM{H:Hp}{a b:Addr}{o:HO}(h:H a=some o)(h':H b=none):a≠b:=by lia
section
variable (P:Program) (w:World)
def cK(H:Hp)(h:Heap)(a:Addr):HO->Prop
 |.lst xs=>xs.length<=sizeLine/\∃(ao:List Value) (n:Nat),Vals xs ao/\h.get? a=some {cls:=.type "list",data:=.seq ao.toArray n}
 |.tup xs=>xs.length<=sizeLine/\∃ao:List Value,Vals xs ao/\IsTup h a ao.toArray
 |.dK kvs=>kvs.length<=sizeLine/\(a==sysModules)=false/\∃vs,KV kvs vs/\h.DictOf (eO P w) a vs
 |.dT kvs=>kvs.length<=sizeLine/\(a==sysModules)=false/\∃xs:List (List Key×Addr×Value),
   Paired (fun(p:List Key×V) (q:List Key×Addr×Value)=>p.1=q.1/\H q.2.1=some (.tup<|p.1.map kV)/\RelV p.2 q.2.2) kvs xs/\
   ∃o es ep,h.get? a=some o/\o.ExactDict/\o.data=.dict es ep/\es.toList=xs.map (entryOfKey<|tupleKind<|eO P w)/\(xs.map (·.1)).Nodup
 |.set S n=>h.SetOf (intKind P w) a S n
 |.ins C dx fs=>H dx=some (.own a)/\fs.length<=1000/\dx≠a/\h.get? a=some (instObj C dx)/\
   ∃mA,h.Ns1 dx mA/\(∀f,gL (fs.lookup f)<|mA f)/\PySem.Within mA (fs.map (·.1))
 |.own _=>∃o,h.get? a=some o
 |.xd fs=>∃mA,h.Ns1 a mA/\∀f,gL (fs.lookup f) (mA f)
 |.fA lo hi=>∃t u v,h.get? a=some {cls:=.type "range",data:=.fields #[.int lo t,.int hi u,.int 1 v]}
 |.cj o u=>h.get? a=some o/\cK H h a u
 |.lA ps=>h.get? a=some {cls:=.none,data:=.fields ps}
 |.met f x=>h.get? a=some (methodObj (.ref f)<|.ref x)
 |.ext φ=>φ h/\(∃o,h.get? a=some o)/\∀h1 h2:Heap,φ h1->(∀o,h1.get? a=some o->h2.get? a=some o)->φ h2
def bC(H:Hp)(h:Heap):Prop:= ∀a o,H a=some o->cK P w H h a o
end
section
variable {P:Program}{w:World}{H H':Hp}{h h':Heap}{a:Addr}{o:HO}
theorem cK.lt(x:cK P w H h a o):a<h.objs.size:=by
 cases o with
 |lst xs=>obtain⟨_,_,_,_,e⟩:=x;exact Heap.lt_size e
 |tup xs=>obtain⟨_,_,_,p⟩:=x;exact p.lt
 |dK kvs=>obtain⟨_,_,_,_,o,_,_,e,_⟩:=x;exact Heap.lt_size e
 |dT kvs=>obtain⟨_,_,_,_,o,_,_,e,_⟩:=x;exact Heap.lt_size e
 |set S n=>obtain⟨o,_,_,_,e,_⟩:=x;exact Heap.lt_size e
 |ins C dx fs=>obtain⟨_,_,_,e,_⟩:=x;exact Heap.lt_size e
 |own y=>obtain⟨_,e⟩:=x;exact Heap.lt_size e
 |xd fs=>obtain⟨_,⟨_,_,_,e,_⟩,_⟩:=x;exact Heap.lt_size e
 |fA lo hi=>obtain⟨_,_,_,e⟩:=x;exact Heap.lt_size e
 |cj ob u=>obtain⟨e,_⟩:=x;exact Heap.lt_size e
 |lA ps=>exact Heap.lt_size (show h.get? a=some _ from x)
 |met f y=>exact Heap.lt_size (show h.get? a=some _ from x)
 |ext φ=>obtain⟨_,⟨_,e⟩,_⟩:=x;exact Heap.lt_size e
theorem Paired.dw{F G:α->β->Prop}:∀{l₁:List α}{l₂:List β},Paired F l₁ l₂->(∀a b,F a b->G a b)->Paired G l₁ l₂
 |_,_,.nil,_=>.nil
 |_,_,.cons r t,f=>.cons (f _ _ r) (Paired.dw t f)
theorem cK.nZ(x:cK P w H h a o)(k:∀b u,(b=a\/H b=some (.own a))->h.get? b=some u->h'.get? b=some u)
  (ho:∀b,H b=some (.own a)->H' b=some (.own a)) (ht:∀b xs,H b=some (.tup xs)->H' b=some (.tup xs)):cK P w H' h' a o:=by
 induction o with
 |lst xs=>obtain⟨z,ao,n,r,e⟩:=x;exact⟨z,ao,n,r,k _ _ (.inl rfl) e⟩
 |tup xs=>obtain⟨z,ao,r,ob,e,c⟩:=x;exact⟨z,ao,r,ob,k _ _ (.inl rfl) e,c⟩
 |dK kvs=>obtain⟨z,y,vs,r,ob,es,ep,e,c⟩:=x;exact⟨z,y,vs,r,ob,es,ep,k _ _ (.inl rfl) e,c⟩
 |dT kvs=>
  obtain⟨z,y,xs,r,ob,es,ep,e,c⟩:=x;exact⟨z,y,xs,Paired.dw r λp q z=>⟨z.1,ht _ _ z.2.1,z.2.2⟩,ob,es,ep,k _ _ (.inl rfl) e,c⟩
 |set S n=>obtain⟨ob,es,ep,t,e,c⟩:=x;exact⟨ob,es,ep,t,k _ _ (.inl rfl) e,c⟩
 |ins C dx fs=>
  obtain⟨d,z,ne,e,mA,⟨od,es,ep,e2,c⟩,r⟩:=x;exact⟨ho _ d,z,ne,k _ _ (.inl rfl) e,mA,⟨od,es,ep,k _ _ (.inr d) e2,c⟩,r⟩
 |own y=>obtain⟨ob,e⟩:=x;exact⟨ob,k _ _ (.inl rfl) e⟩
 |xd fs=>obtain⟨mA,⟨od,es,ep,e,c⟩,r⟩:=x;exact⟨mA,⟨od,es,ep,k _ _ (.inl rfl) e,c⟩,r⟩
 |fA lo hi=>obtain⟨t,u,v,e⟩:=x;exact⟨t,u,v,k _ _ (.inl rfl) e⟩
 |cj ob u ih=>obtain⟨e,q⟩:=x;exact⟨k _ _ (.inl rfl) e,ih q⟩
 |lA ps=>
  have e:=x;exact k a _ (.inl rfl) e
 |met f y=>
  have e:=x;exact k a _ (.inl rfl) e
 |ext φ=>obtain⟨p,⟨o,e⟩,st⟩:=x;exact⟨st _ _ p λo q=>k _ _ (.inl rfl) q,⟨o,k _ _ (.inl rfl) e⟩,st⟩
theorem bC.lt(x:bC P w H h)(e:H a=some o):a<h.objs.size:=(x a o e).lt
theorem bC.fresh(x:bC P w H h)(e:h.objs.size<=a):H a=none:=by
 cases q:H a with
 |none=>rfl
 |some u=>exact absurd (zaA (x.lt q) e) (zaQ _)
theorem bC.kept(x:bC P w H h)(k:∀b u,h.get? b=some u->h'.get? b=some u):bC P w H h':=λa o e=>
 (x a o e).nZ (λb u _ q=>k b u q) (λ_ q=>q) λ_ _ q=>q
theorem bC.laid(x:bC P w H h)(k:∀b u,h.get? b=some u->h'.get? b=some u)(hp:h.objs.size<=a)(new:cK P w (upd H a o) h' a o):bC P w (upd H a o) h':=λb u e=>by
 have hn:=x.fresh hp;by_cases hb:b=a
 ·subst hb;rw[ay] at e;cases e;exact new
 ·rw[az hb] at e;exact(x b u e).nZ (λc v _ q=>k c v q) (λc q=>by rw[az<|aM q hn];exact q) λc xs q=>by rw[az<|aM q hn];exact q
end
def Rd(H:Hp)(a:Addr)(u:HO):Prop:=H a=some u\/∃o,H a=some (.cj o u)
theorem Rd.ok{w:World}{H:Hp}{h:Heap}{a:Addr}{u:HO}(r:Rd H a u)(x:bC P w H h):cK P w H h a u:=by
 rcases r with r|⟨o,r⟩
 ·exact x a u r
 ·obtain⟨_,q⟩:=x a _ r;exact q
def uH:Option HO->Prop
 |some (.lst _)=>True
 |some (.dK _)=>True
 |some (.dT _)=>True
 |some (.set _ _)=>True
 |some (.ins _ _ _)=>True
 |some (.ext _)=>True
 |_=>False
section
variable {P:Program}{w:World}{H:Hp}{h h':Heap}{x e:Addr}{o':HO}
theorem bC.write(ok:bC P w H h)(mu:uH (H x))(he:e=x\/H e=some (.own x))(k:∀b u,b≠e->h.get? b=some u->h'.get? b=some u)(r6:∃u,h'.get? e=some u)
  (new:cK P w (upd H x o') h' x o'):bC P w (upd H x o') h':=λb u q=>by
 have FY:∀c y,H c=some (.own y)->c≠x:=λc y r z=>by subst z;rw[r] at mu;exact mu
 have Rr:∀c xs,H c=some (.tup xs)->c≠x:=λc xs r z=>by subst z;rw[r] at mu;exact mu
 by_cases hb:b=x
 ·subst hb;rw[ay] at q;cases q;exact new
 ·rw[az hb] at q;by_cases pW:b=e
  ·have q':H b=some (.own x):=by
    rcases he with z|z
    ·exact absurd (pW.trans z) hb
    ·rw[pW];exact z
   rw[q] at q';cases q';obtain⟨v,hv⟩:=r6;exact⟨v,by lia⟩
  ·refine(ok b u q).nZ (λc v hc r=>k c v ?_ r) (λc r=>by rw[az<|FY c b r];exact r) λc xs r=>by rw[az<|Rr c xs r];exact r
   rcases hc with rfl|hc
   ·exact pW
   ·rintro rfl;rcases he with z|z
    ·exact FY c b hc z
    ·rw[hc] at z;cases z;exact hb rfl
end
structure Un (fs ex:List Addr) (H H':Hp) (h h':Heap):Prop where
 keep:∀b o,h.get? b=some o->H b=none->b∉fs->b∉ex->h'.get? b=some o
 slot:∀b o,h.get? b=some o->H b=none->b∈fs->b∉ex->∃sl,h'.get? b=some {o with slots:=sl}
 free:∀b o,h.get? b=some o->H b=none->b∉ex->H' b=none
 there:∀b o,h.get? b=some o->b∉ex->∃o',h'.get? b=some o'
 dD:∀b xs,H b=some (.tup xs)->H' b=some (.tup xs)
 h9:∀b o u,H b=some (.cj o u)->H' b=some (.cj o u)
 iq:∀b ps,H b=some (.lA ps)->∃more,H' b=some (.lA<|ps++more)
section
variable {fs uI ex ex':List Addr}{H H1 H2:Hp}{h h1 h2 h':Heap}{a x e:Addr}{o:HO}
theorem Un.any(u:Un fs ex H H1 h h1){b:Addr}{ob:Obj}(q:h.get? b=some ob)(n:H b=none)(hx:b∉ex):∃sl,h1.get? b=some {ob with slots:=sl}:=by
 by_cases hb:b∈fs
 ·exact u.slot b ob q n hb hx
 ·exact⟨ob.slots,u.keep b ob q n hb hx⟩
theorem Un.kept(k:∀b u,h.get? b=some u->h'.get? b=some u):Un fs ex H H h h':=
 ⟨λb ob q _ _ _=>k b ob q,λb ob q _ _ _=>⟨ob.slots,k b ob q⟩,λ_ _ _ n _=>n,λb ob q _=>⟨ob,k b ob q⟩,λ_ _ q=>q,λ_ _ _ q=>q,λ_ ps q=>⟨#[],by rw[q];simp⟩⟩
theorem Un.refl:Un fs ex H H h h:=Un.kept λ_ _ q=>q
theorem Un.laid(k:∀b u,h.get? b=some u->h'.get? b=some u)(hp:h.objs.size<=a)(hn:H a=none):Un fs ex H (upd H a o) h h' where
 keep:=λb u q _ _ _=>k b u q
 slot:=λb u q _ _ _=>⟨u.slots,k b u q⟩
 free:=λb u q n _=>by rw[az<|zao<|zaA (Heap.lt_size q) hp];exact n
 there:=λb u q _=>⟨u,k b u q⟩
 dD:=λb xs q=>by rw[az<|aM q hn];exact q
 h9:=λb u xs q=>by rw[az<|aM q hn];exact q
 iq:=λb ps q=>⟨#[],by rw[az<|aM q hn,q];simp⟩
theorem Un.write(mu:uH (H x))(he:e=x\/H e=some (.own x))(k:∀b u,b≠e->h.get? b=some u->h'.get? b=some u)(r6:∃u,h'.get? e=some u):Un fs ex H (upd H x o) h h':=by
 have hx:∀b,H b=none->b≠x:=λb n z=>by subst z;rw[n] at mu;exact mu
 have hb:∀b,H b=none->b≠e:=λb n z=>by
  subst z;rcases he with r|r
  ·exact hx b n r
  ·rw[n] at r;cases r
 have hm:∀b u,H b=some u-> ¬uH (some u)->b≠x:=λb u q nm z=>by lia
 refine⟨λb u q n _ _=>k b u (hb b n) q,λb u q n _ _=>⟨u.slots,k b u (hb b n) q⟩,λb u q n _=>by rw[az (hx b n)];exact n,λb u q _=>?_,
  λb xs q=>by rw[az (hm b _ q λz=>z)];exact q,λb u xs q=>by rw[az (hm b _ q λz=>z)];exact q,λb ps q=>⟨#[],by rw[az (hm b _ q λz=>z),q];simp⟩⟩
 by_cases pW:b=e
 ·subst pW;exact r6
 ·exact⟨u,k b u pW q⟩
end
def lB(h:Heap)(H:Hp):List Addr:=(List.range h.objs.size).filter λa=>(H a).isSome
def mG(h:Heap)(H:Hp):Heap:=hideAll h (lB h H)
theorem Rt(h:Heap)(H:Hp):(mG h H).objs.size=h.objs.size:=PySem.W.hideAll_size _ _
theorem Ru{H:Hp}{b:Addr}{o:Obj}(e:h.get? b=some o)(n:H b=none):(mG h H).get? b=some o:=
 hideAll_get _ e λhm=>by
  have q:=(List.mem_filter.mp hm).2;rw[n] at q;simp at q
theorem Rv{b:Addr}{o:Obj}(e:(mG h H).get? b=some o):h.get? b=some o/\H b=none:=by
 have e':=of_hideAll (lB h H) e;refine⟨e',?_⟩;cases q:H b with
 |none=>rfl
 |some x=>
  have hm:b∈lB h H:=List.mem_filter.mpr ⟨List.mem_range.mpr<|Heap.lt_size e',by simp[q]⟩
  have z:(mG h H).get? b=none:=PySem.W.hideAll_none (lB h H) hm;rw[z] at e;cases e
structure Mod (K:Frag) (mg:Str->Option Value) (base:Heap):Prop where
 uJ:K.In base
 glob:base.Ns mainGlobals mg
 blt:∃mb,base.Ns builtinsNs mb/\∀x:Str,x≠"__name__"->mb x=bootBuiltins x
 nolimit:base.NoLimit
structure Cx where
 prog:Program
 w:World
 K:Frag
 mg:Str->Option Value
 base:Heap
 A:Around
 N:List Str
 s₀:Shared
 H₀:Hp
 env:Env
 outer:List Env
 stack:List Env
 ex:List Addr
 fn:Str->Bool
 calm:Bool
 pn:List (Addr×Obj)
 xe:Value->Shared->Prop
def bG(l:List Env):List Addr:=l.filterMap (·.frame)
abbrev Cx.fs(X:Cx):List Addr:=bG X.outer
def xJ(sc:Scope)(x:Str):Prop:=sc.names.lookup x=some .local\/sc.names.lookup x=some .cell\/sc.names.lookup x=some .free
def Loc(sc:Scope)(x:Str):Prop:=sc.names.lookup x=some .local\/sc.names.lookup x=some .cell
def Look(env:Env)(h:Heap)(m:Str->Option Value)(x:Str)(u:Value):Prop:=
 (env.kindOf x=some .local/\m x=some u)\/((env.kindOf x=some .cell\/env.kindOf x=some .free)/\∃c,env.cells.lookup x=some c/\h.IsCell c (some u))
structure Cx.Ok (X:Cx):Prop where
 mod:Mod X.K X.mg X.base
 kind:X.env.scope.kind=.function
 glob:X.env.globals=mainGlobals
 blt:X.env.builtins=builtinsNs
 above:X.s₀.heap.objs.size<=X.env.locals
 inj:∀x y c,X.env.cells.lookup x=some c->X.env.cells.lookup y=some c->x=y
 has:∀x,(X.env.kindOf x=some .cell\/X.env.kindOf x=some .free)->∃c,X.env.cells.lookup x=some c
 xM:∀x c,X.fn x=true->X.env.cells.lookup x=some c->X.s₀.heap.objs.size<=c
 hd:X.calm=true->X.A.handled=none
 frames:X.A.frames=some X.stack
 ka:X.stack=X.outer\/(X.stack=X.env::X.outer/\X.env.frame=some X.env.locals)
 Rw:∀b∈X.ex,b≠X.env.locals/\∀x c,X.env.cells.lookup x=some c->c≠b
 bs:∀b o,X.base.get? b=some o->X.s₀.heap.get? b=some o/\X.H₀ b=none
 pX:X.base.objs.size<=X.s₀.heap.objs.size
 xO:∀b o,X.base.get? b=some o->b∉X.ex
 xQ:∀b∈X.ex,b∉X.fs
 kf:X.s₀.heap.FunFrames X.base X.outer
 r9:∀b∈X.fs,X.H₀ b=none
structure Inv (X:Cx) (pins:List (Addr×Obj)) (σ:List (Option V)) (H:Hp) (s:Shared):Prop where
 ok:X.Ok
 os:s.os=X.s₀.os
 bare:AllBare s.gens
 base:Un X.fs X.ex X.H₀ H X.s₀.heap s.heap
 loc:∃m,s.heap.Ns X.env.locals m/\∀(i:Nat) (x:Str) (v:V),X.N[i]?=some x->σ[i]?=some (some v)->xJ X.env.scope x->∃u,RelV v u/\Look X.env s.heap m x u
 cell:∀x c,X.env.cells.lookup x=some c->∃v,s.heap.IsCell c v
 free:H X.env.locals=none
 jg:∀x c,X.env.cells.lookup x=some c->H c=none
 pin:∀p∈X.pn++pins,s.heap.get? p.1=some p.2/\H p.1=none/\p.1≠X.env.locals/\p.1∉X.fs/\∀v,p.2.data≠ .cell v
 aF:bC X.prog X.w H s.heap
 len:σ.length=X.N.length
section
variable {X:Cx}{pins:List (Addr×Obj)}{σ:List (Option V)}{H H':Hp}{s:Shared}{h':Heap}
theorem Cx.Ok.Rx(ok:X.Ok){b:Addr}{o:Obj}(e:X.base.get? b=some o):b∉X.fs:=λhb=>by
 have:=(ok.kf.mem hb).1;rw[e] at this;cases this
theorem Inv.bs(I:Inv X pins σ H s):∀b o,X.base.get? b=some o->s.heap.get? b=some o/\H b=none:=λb o e=>
 ⟨I.base.keep b o (I.ok.bs b o e).1 (I.ok.bs b o e).2 (I.ok.Rx e)<|I.ok.xO b o e,I.base.free b o (I.ok.bs b o e).1 (I.ok.bs b o e).2<|I.ok.xO b o e⟩
theorem Inv.bk(I:Inv X pins σ H s):∀b o,X.base.get? b=some o->s.heap.get? b=some o:=λb o e=>(I.bs b o e).1
theorem Inv.mod(I:Inv X pins σ H s):Mod X.K X.mg X.base:=I.ok.mod
theorem Inv.dE(I:Inv X pins σ H s):X.K.In s.heap:=I.ok.mod.uJ.keeps I.bk
theorem Inv.lt(I:Inv X pins σ H s):X.env.locals<s.heap.objs.size:=let ⟨_,hn,_⟩:=I.loc;hn.lt
theorem Inv.sz(I:Inv X pins σ H s):X.s₀.heap.objs.size<=s.heap.objs.size:=zaq I.ok.above (Nat.le_of_lt I.lt)
theorem Inv.FZ(I:Inv X pins σ H s){a:Addr}(h:s.heap.objs.size<=a):a∉X.fs:=λhb=>by
 obtain⟨_,o,ho,_⟩:=I.ok.kf.mem hb;exact absurd (zaA (Heap.lt_size ho)<|zaq I.sz h)<|zaQ _
theorem Inv.pY(I:Inv X pins σ H s):∀x c,X.env.cells.lookup x=some c->c≠X.env.locals:=λx c e z=>by
 obtain⟨v,o,ho,hd⟩:=I.cell x c e;obtain⟨m,⟨o',es,ep,dY,lE,_⟩,_⟩:=I.loc;rw[z,dY] at ho;cases ho;rw[lE] at hd;cases hd
theorem Inv.kf(I:Inv X pins σ H s):s.heap.FunFrames X.base X.outer:=by
 have all:∀(l:List Env),(∀b∈bG l,b∈X.fs)->X.s₀.heap.FunFrames X.base l->s.heap.FunFrames X.base l:=by
  intro l
  induction l with
  |nil=>intro _ _;trivial
  |cons env r ih=>
   intro hs hl;obtain⟨hk,⟨L,o,hf,hn,ho,hd⟩,hr⟩:=hl;have hL:=hs L (by unfold bG;rw[zbK,hf];exact zau)
   obtain⟨sl,e⟩:=I.base.slot L o ho (I.ok.r9 L hL) hL λz=>I.ok.xQ L z hL;exact⟨hk,⟨L,_,hf,hn,e,hd⟩,ih (λb hb=>hs b (by unfold bG;rw[zbK,hf];exact zav _ hb)) hr⟩
 exact all X.outer (λ_ hb=>hb) I.ok.kf
theorem Inv.stack(I:Inv X pins σ H s):s.heap.FunFrames X.base X.stack:=by
 rcases I.ok.ka with e|⟨e,hf⟩
 ·rw[e];exact I.kf
 ·rw[e];obtain⟨m,hn,_⟩:=I.loc;refine .cons (by rw[I.ok.kind];decide) hf hn ?_ I.kf
  exact Heap.get?_none_of_le<|zaq I.ok.pX I.ok.above
theorem Inv.xR(I:Inv X pins σ H s):∀b∈bG X.stack,b∈X.env.locals::X.fs:=λb hb=>by
 rcases I.ok.ka with e|⟨e,hf⟩
 ·rw[e] at hb;exact zav _ hb
 ·rw[e] at hb;unfold bG at hb;rw[zbK,hf] at hb;exact hb
theorem Inv.xS(I:Inv X pins σ H s):∀b∈bG X.stack,H b=none:=λb hb=>by
 rcases zac.mp (I.xR b hb) with e|hb
 ·rw[e];exact I.free
 ·obtain⟨_,o,ho,_⟩:=I.ok.kf.mem hb;exact I.base.free b o ho (I.ok.r9 b hb) λz=>I.ok.xQ b z hb
theorem Inv.step{d':Drawn}{ch:List Addr}(I:Inv X pins σ H s)
  (bZ:∀b∈ch,(b∈X.ex\/X.s₀.heap.objs.size<=b)/\b≠X.env.locals/\(∀x c,X.env.cells.lookup x=some c->c≠b)/\∀p∈X.pn++pins,p.1≠b)
  (keep:∀b o,b≠X.env.locals->b∉X.fs->b∉ch->s.heap.get? b=some o->H b=none->h'.get? b=some o)
  (slot:∀b o,b≠X.env.locals->b∈X.fs->b∉ch->s.heap.get? b=some o->H b=none->∃sl,h'.get? b=some {o with slots:=sl}) (free:∀b o,b∉ch->s.heap.get? b=some o->H b=none->H' b=none)
  (there:∀b o,b∉ch->s.heap.get? b=some o->∃o',h'.get? b=some o')
  (dD:∀b xs,H b=some (.tup xs)->H' b=some (.tup xs)) (h9:∀b o u,H b=some (.cj o u)->H' b=some (.cj o u)) (iq:∀b ps,H b=some (.lA ps)->∃more,H' b=some (.lA<|ps++more))
  (ns:∀m,s.heap.Ns X.env.locals m->h'.Ns X.env.locals m) (aF:bC X.prog X.w H' h') (hg:AllBare g'):
  Inv X pins σ H' {s with heap:=h',gens:=g',drawn:=d',toks:=t'}:=by
 have F0:∀b o,X.s₀.heap.get? b=some o->b≠X.env.locals:=λb o e=>zao (zaA (Heap.lt_size e) I.ok.above);have xT:∀b o,X.s₀.heap.get? b=some o->b∉X.ex->b∉ch:=λb o e hx hb=>by
  rcases (bZ b hb).1 with z|z
  ·exact hx z
  ·exact absurd (zaA (Heap.lt_size e) z) (zaQ _)
 have cellK:∀x c,X.env.cells.lookup x=some c->∀v,s.heap.IsCell c v->h'.IsCell c v:=λx c e v ⟨o,ho,hd⟩=>by
  have kg:=λz=>(bZ c z).2.2.1 x c e rfl;by_cases hc:c∈X.fs
  ·obtain⟨sl,q⟩:=slot c o (I.pY x c e) hc kg ho (I.jg x c e);exact⟨_,q,hd⟩
  ·exact⟨o,keep c o (I.pY x c e) hc kg ho<|I.jg x c e,hd⟩
 refine⟨I.ok,I.os,hg,⟨λb o e n hb hx=>?_,λb o e n hb hx=>?_,λb o e n hx=>?_,λb o e hx=>?_,λb xs e=>dD b xs<|I.base.dD b xs e,λb o xs e=>h9 b o xs<|I.base.h9 b o xs e,λb ps e=>?_⟩,?_,λx c e=>?_,?_,λx c e=>?_,λp hp=>?_,aF,I.len⟩
 ·exact keep b o (F0 b o e) hb (xT b o e hx) (I.base.keep b o e n hb hx) (I.base.free b o e n hx)
 ·obtain⟨sl,e1⟩:=I.base.slot b o e n hb hx;obtain⟨Ry,e2⟩:=slot b _ (F0 b o e) hb (xT b o e hx) e1 (I.base.free b o e n hx);exact⟨Ry,e2⟩
 ·obtain⟨o',e1⟩:=I.base.there b o e hx;exact free b o' (xT b o e hx) e1<|I.base.free b o e n hx
 ·obtain⟨o',e1⟩:=I.base.there b o e hx;exact there b o' (xT b o e hx) e1
 ·obtain⟨m1,e1⟩:=I.base.iq b ps e;obtain⟨m2,e2⟩:=iq b _ e1;exact⟨m1++m2,by rw[e2,Array.append_assoc]⟩
 ·obtain⟨m,hn,hl⟩:=I.loc;refine⟨m,ns m hn,λi x v e1 e2 e3=>?_⟩;obtain⟨u,r,l⟩:=hl i x v e1 e2 e3;refine⟨u,r,?_⟩;rcases l with l|⟨k,c,e,z⟩
  ·exact .inl l
  ·exact .inr ⟨k,c,e,cellK x c e _ z⟩
 ·obtain⟨v,z⟩:=I.cell x c e;exact⟨v,cellK x c e v z⟩
 ·obtain⟨m,⟨o,_,_,ho,_⟩,_⟩:=I.loc;exact free _ o (λz=>(bZ _ z).2.1 rfl) ho I.free
 ·obtain⟨v,o,ho,hd⟩:=I.cell x c e;exact free c o (λz=>(bZ c z).2.2.1 x c e rfl) ho<|I.jg x c e
 ·obtain⟨e,n,ne,nf,d⟩:=I.pin p hp;have kg:=λz=>(bZ p.1 z).2.2.2 p hp rfl;exact⟨keep p.1 p.2 ne nf kg e n,free p.1 p.2 kg e n,ne,nf,d⟩
theorem Inv.un(I:Inv X pins σ H s)(u:Un X.fs [] H H' s.heap h')(aF:bC X.prog X.w H' h'):Inv X pins σ H' {s with heap:=h',toks:=t'}:=by
 obtain⟨m,⟨o,es,ep,ho,r⟩,_⟩:=id I.loc;obtain⟨sl,hL⟩:=u.any ho I.free (by simp)
 exact I.step (ch:=[]) (λ_ z=>nomatch z) (λb o _ hb _ e n=>u.keep b o e n hb (by lia)) (λb o _ hb _ e n=>u.slot b o e n hb (by lia)) (λb o _ e n=>u.free b o e n (by lia)) (λb o _ e=>u.there b o e (by lia)) u.dD u.h9 u.iq (λm' hm=>by
  obtain⟨o',Be,Bf,dY,r'⟩:=hm;rw[ho] at dY;cases dY;exact⟨_,Be,Bf,hL,r'⟩) aF I.bare
theorem Inv.call{d':Drawn}{ch:List Addr}(I:Inv X pins σ H s)(u:Un (bG X.stack) ch H H' s.heap h')(aF:bC X.prog X.w H' h')(hg:AllBare g')
  (bZ:∀b∈ch,(b∈X.ex\/X.s₀.heap.objs.size<=b)/\b≠X.env.locals/\(∀x c,X.env.cells.lookup x=some c->c≠b)/\∀p∈X.pn++pins,p.1≠b):
  Inv X pins σ H' {s with heap:=h',gens:=g',drawn:=d',toks:=t'}:=by
 obtain⟨m,⟨o,es,ep,ho,r⟩,_⟩:=id I.loc;obtain⟨sl,hL⟩:=u.any ho I.free λz=>(bZ _ z).2.1 rfl;exact I.step bZ (λb o hL hb hc e n=>u.keep b o e n (λz=>(zac.mp (I.xR b z)).elim hL hb) hc) (λb o _ _ hc e n=>u.any e n hc) (λb o hc e n=>u.free b o e n hc) (λb o hc e=>u.there b o e hc) u.dD u.h9 u.iq (λm' hm=>by
  obtain⟨o',Be,Bf,dY,r'⟩:=hm;rw[ho] at dY;cases dY;exact⟨_,Be,Bf,hL,r'⟩) aF hg
theorem Inv.turned{it:Addr}(I:Inv X pins σ H s)(k:∀b o,b≠it->s.heap.get? b=some o->h'.get? b=some o)(hn:H it=none)(hL:it≠X.env.locals)
  (h1:it∈X.ex\/X.s₀.heap.objs.size<=it) (h2:∀x c,X.env.cells.lookup x=some c->c≠it) (h3:∀p∈X.pn++pins,p.1≠it):Inv X pins σ H {s with heap:=h',toks:=t'}:=by
 have F1:∀b u,H b=some u->b≠it:=λb u e z=>by lia
 refine I.step (ch:=[it]) (λb hb=>?_) (λb o _ _ hc e _=>k b o (λz=>hc (by simp[z])) e) (λb o _ _ hc e _=>⟨o.slots,k b o (λz=>hc (by simp[z])) e⟩) (λ_ _ _ _ n=>n)
  (λb o hc e=>⟨o,k b o (λz=>hc (by simp[z])) e⟩) (λ_ _ e=>e) (λ_ _ _ e=>e) (λb ps e=>⟨#[],by rw[e];simp⟩) (λm hm=>?_) (λb u e=>?_) I.bare
 ·have e:=by simpa using hb
  subst e;exact⟨h1,hL,h2,h3⟩
 ·obtain⟨o,es,ep,ho,r⟩:=hm;exact⟨o,es,ep,k _ o (Ne.symm hL) ho,r⟩
 ·refine(I.aF b u e).nZ (λc v hc q=>k c v ?_ q) (λ_ q=>q) λ_ _ q=>q;rcases hc with z|z
  ·rw[z];exact F1 b u e
  ·exact F1 c _ z
theorem Inv.tok(I:Inv X pins σ H s)(t:Nat):Inv X pins σ H {s with toks:=t}:=I.un Un.refl I.aF
theorem Inv.kept(I:Inv X pins σ H s)(k:∀b u,s.heap.get? b=some u->h'.get? b=some u):Inv X pins σ H {s with heap:=h',toks:=t'}:=I.un (Un.kept k) (I.aF.kept k)
theorem Inv.laid{a:Addr}{o:HO}{t':Nat}(I:Inv X pins σ H s)(k:∀b u,s.heap.get? b=some u->h'.get? b=some u)(hp:s.heap.objs.size<=a)(new:cK X.prog X.w (upd H a o) h' a o):
  Inv X pins σ (upd H a o) {s with heap:=h',toks:=t'}:=I.un (Un.laid k hp<|I.aF.fresh hp) (I.aF.laid k hp new)
theorem Inv.write{t':Nat}(I:Inv X pins σ H s)(mu:uH (H x))(he:e=x\/H e=some (.own x))(k:∀b u,b≠e->s.heap.get? b=some u->h'.get? b=some u)(r6:∃u,h'.get? e=some u)
  (new:cK X.prog X.w (upd H x o) h' x o):Inv X pins σ (upd H x o) {s with heap:=h',toks:=t'}:=I.un (Un.write mu he k r6) (I.aF.write mu he k r6 new)
theorem Inv.r_(I:Inv X pins σ H s)(h:∀p∈pins',s.heap.get? p.1=some p.2/\H p.1=none/\p.1≠X.env.locals/\p.1∉X.fs/\∀v,p.2.data≠ .cell v):Inv X pins' σ H s:=
 ⟨I.ok,I.os,I.bare,I.base,I.loc,I.cell,I.free,I.jg,λp hp=>(zab.mp hp).elim (λz=>I.pin p<|zaR _ z)<|h p,I.aF,I.len⟩
theorem F2{N:List Str}(hN:N.Nodup){i j:Nat}{x:Str}(a:N[i]?=some x)(b:N[j]?=some x):i=j:=by
 obtain⟨h1,e1⟩:=zad.mp a;obtain⟨h2,e2⟩:=zad.mp b;exact(List.getElem_inj hN).mp<|e1.trans e2.symm
theorem F3{E:Value->Shared->Prop}{i:Nat}{x:Str}{v:V}{u:Value}{Q:Unit->Shared->Prop}(I:Inv X pins σ H s)(hN:X.N.Nodup)(hi:X.N[i]?=some x)(hx:Loc X.env.scope x)(r:RelV v u)
  (h:∀s',Inv X pins (σ.set i<|some v) H s'->(∃a,Heap.SameBut a s.heap s'.heap/\(a=X.env.locals\/X.env.cells.lookup x=some a))->Q () s') (hf:X.fn x=true\/X.env.scope.names.lookup x=some .local:=by first|exact .inl rfl|exact .inr rfl|assumption):wpAny M A (storeName X.env x u) Q E s:=by
 obtain⟨m,hn,hl⟩:=id I.loc;have Rz:(X.env.scope.kind==.class ||(X.env.scope.kind==.module && X.env.locals !=X.env.globals))=false:=I.ok.kind▸rfl
 have F4:i<σ.length:=by rw[I.len];exact(zad.mp hi).1
 have pY:=I.pY;have tracked:∀{a:Addr}{h':Heap},(∃o,s.heap.get? a=some o/\H a=none)->Heap.SameBut a s.heap h'->bC X.prog X.w H h':=λ{a h'} ha hs b ob e=>by
  obtain⟨_,_,sf⟩:=ha;refine(I.aF b ob e).nZ (λc w' hc q=>(hs.2 c ?_).trans q) (λ_ q=>q) λ_ _ q=>q;rintro rfl;rcases hc with rfl|hc
  ·rw[sf] at e;cases e
  ·rw[sf] at hc;cases hc
 rcases hx with hk|hk
 ·refine wpAny_storeName_local hk hn (λh' RA hs=>?_) Rz;obtain⟨oL,_,_,RB,_⟩:=id hn;refine h _ ⟨I.ok,I.os,I.bare,⟨λb o e n hb hx=>?_,λb o e n hb hx=>?_,I.base.free,λb o e hx=>?_,I.base.dD,I.base.h9,I.base.iq⟩,⟨_,RA,λj y v' e1 e2 e3=>?_⟩,λy c e=>?_,I.free,I.jg,λp hp=>?_,tracked ⟨oL,RB,I.free⟩ hs,by simpa using I.len⟩ ⟨_,hs,.inl rfl⟩
  ·exact(hs.2 b<|zao<|zaA (Heap.lt_size e) I.ok.above).trans (I.base.keep b o e n hb hx)
  ·obtain⟨sl,e1⟩:=I.base.slot b o e n hb hx;exact⟨sl,(hs.2 b<|zao<|zaA (Heap.lt_size e) I.ok.above).trans e1⟩
  ·obtain⟨o',e1⟩:=I.base.there b o e hx;exact⟨o',(hs.2 b<|zao<|zaA (Heap.lt_size e) I.ok.above).trans e1⟩
  ·by_cases hj:j=i
   ·subst hj;rw[hi] at e1;cases e1;rw[List.getElem?_set_self F4] at e2;cases e2;exact⟨u,r,.inl ⟨hk,by lia⟩⟩
   ·rw[List.getElem?_set_ne<|Ne.symm hj] at e2;obtain⟨u',r',q⟩:=hl j y v' e1 e2 e3;refine⟨u',r',?_⟩;rcases q with⟨k,e⟩|⟨k,c,e,z⟩
    ·refine .inl ⟨k,?_⟩;have:y≠x:=λe=>hj (F2 hN e1<|e ▸ hi)
     simp[this,e]
    ·exact .inr ⟨k,c,e,z.sameBut hs<|pY y c e⟩
  ·obtain⟨w',z⟩:=I.cell y c e;exact⟨w',z.sameBut hs<|pY y c e⟩
  ·obtain⟨e,n,ne,nf,d⟩:=I.pin p hp;exact⟨(hs.2 p.1 ne).trans e,n,ne,nf,d⟩
 ·have Bg:X.fn x=true:=by
   rcases hf with z|z
   ·exact z
   ·rw[z] at hk;cases hk
  obtain⟨c,hc⟩:=I.ok.has x (.inl hk);obtain⟨w',z⟩:=I.cell x c hc;refine wpAny_storeName_cell I.ok.kind hk hc z<|λh' jI hs=>?_;obtain⟨oc,F5,RC⟩:=id z;refine h {s with heap:=h'} ⟨I.ok,I.os,I.bare,⟨λb o e n hb hx=>?_,λb o e n hb hx=>?_,I.base.free,λb o e hx=>?_,I.base.dD,I.base.h9,I.base.iq⟩,⟨m,hn.sameBut hs<|Ne.symm<|pY x c hc,λj y v' e1 e2 e3=>?_⟩,λy c' e=>?_,I.free,I.jg,λp hp=>?_,tracked ⟨oc,F5,I.jg x c hc⟩ hs,by simpa using I.len⟩ ⟨c,hs,.inr hc⟩
  ·exact(hs.2 b<|zao<|zaA (Heap.lt_size e)<|I.ok.xM x c Bg hc).trans (I.base.keep b o e n hb hx)
  ·obtain⟨sl,e1⟩:=I.base.slot b o e n hb hx;exact⟨sl,(hs.2 b<|zao<|zaA (Heap.lt_size e)<|I.ok.xM x c Bg hc).trans e1⟩
  ·obtain⟨o',e1⟩:=I.base.there b o e hx;exact⟨o',(hs.2 b<|zao<|zaA (Heap.lt_size e)<|I.ok.xM x c Bg hc).trans e1⟩
  ·by_cases hj:j=i
   ·subst hj;rw[hi] at e1;cases e1;rw[List.getElem?_set_self F4] at e2;cases e2;exact⟨u,r,.inr ⟨.inl hk,c,hc,jI⟩⟩
   ·rw[List.getElem?_set_ne<|Ne.symm hj] at e2;obtain⟨u',r',q⟩:=hl j y v' e1 e2 e3;refine⟨u',r',?_⟩;rcases q with q|⟨k,c',e,z'⟩
    ·exact .inl q
    ·refine .inr ⟨k,c',e,z'.sameBut hs ?_⟩;rintro rfl;exact hj<|F2 hN e1<|I.ok.inj _ _ _ e hc ▸ hi
  ·by_cases F6:c'=c
   ·subst F6;exact⟨_,jI⟩
   ·obtain⟨w2,z2⟩:=I.cell y c' e;exact⟨w2,z2.sameBut hs F6⟩
  ·obtain⟨e,n,ne,nf,d⟩:=I.pin p hp;refine⟨(hs.2 p.1 ?_).trans e,n,ne,nf,d⟩;intro q;exact d w' (by lia)
theorem F7{E:Value->Shared->Prop}{i:Nat}{x:Str}{v:V}{u:Value}{Q:Unit->Shared->Prop}(I:Inv X pins σ H s)(hN:X.N.Nodup)(hi:X.N[i]?=some x)(hx:Loc X.env.scope x)(r:RelV v u)
  (h:∀s',Inv X pins (σ.set i<|some v) H s'->Q () s') (hf:X.fn x=true\/X.env.scope.names.lookup x=some .local:=by first|exact .inl rfl|exact .inr rfl|assumption):wpAny M A (storeName X.env x u) Q E s:=
 F3 I hN hi hx r (λs' I' _=>h s' I') hf
theorem Inv.Bh{ch:List Addr}(I:Inv X pins σ H s)(ho:s'.os=s.os)(u:Un (bG X.stack) ch H H' s.heap s'.heap)(aF:bC X.prog X.w H' s'.heap)(hg:AllBare s'.gens)
  (bZ:∀b∈ch,(b∈X.ex\/X.s₀.heap.objs.size<=b)/\b≠X.env.locals/\(∀x c,X.env.cells.lookup x=some c->c≠b)/\∀p∈X.pn++pins,p.1≠b):Inv X pins σ H' s':=by
 obtain⟨h',g',d',t',o'⟩:=s';subst ho;exact I.call u aF hg bZ
end
abbrev XK:=Value->Option Addr->Hp->Prop
abbrev St:=List (Option V)
abbrev VK:=V->Hp->Prop
abbrev TE:=St->Hp->VK->Prop
abbrev TT:=St->Hp->(Bool->Hp->Prop)->Prop
abbrev TA:=St->Hp->(List V->Hp->Prop)->Prop
structure Ends where
 nx:St->Hp->Prop
 rt:VK
 bk:St->Hp->Prop:=λ_ _=>False
 ct:St->Hp->Prop:=λ_ _=>False
abbrev TS:=Ends->St->Hp->Prop
inductive EP (X:Cx)(pins:List (Addr×Obj))(σ:St)(Q:VK)(u:Value)(s':Shared):Prop|mk (v H')(i:Inv X pins σ H' s')(r:RelV v u)(q:Q v H')
inductive TP (X:Cx)(pins:List (Addr×Obj))(σ:St)(Q:Bool->Hp->Prop)(b:Bool)(s':Shared):Prop|mk (H')(i:Inv X pins σ H' s')(q:Q b H')
inductive AP (X:Cx)(pins:List (Addr×Obj))(σ:St)(Q:List V->Hp->Prop)(us:List Value)(s':Shared):Prop|mk (vs H')(i:Inv X pins σ H' s')(r:Vals vs us)(q:Q vs H')
def SP(X:Cx)(pins:List (Addr×Obj))(D:Ends)(f:Flow)(s':Shared):Prop:=
 match f with
 |.next=>∃σ' H',Inv X pins σ' H' s'/\D.nx σ' H'
 |.brk=>∃σ' H',Inv X pins σ' H' s'/\D.bk σ' H'
 |.cont=>∃σ' H',Inv X pins σ' H' s'/\D.ct σ' H'
 |.ret u=>∃v σ' H',Inv X pins σ' H' s'/\RelV v u/\D.rt v H'
def PE(X:Cx)(e:Expr)(t:TE):Prop:=
 ∀(pins:List (Addr×Obj)) (s:Shared) (σ:St) (H:Hp) (Q:VK),Inv X pins σ H s->t σ H Q->wpAny (model X.prog X.w) X.A (eval e X.env) (EP X pins σ Q) X.xe s
def PT(X:Cx)(e:Expr)(t:TT):Prop:=
 ∀(pins:List (Addr×Obj)) (s:Shared) (σ:St) (H:Hp) (Q:Bool->Hp->Prop),Inv X pins σ H s->t σ H Q->wpAny (model X.prog X.w) X.A (isTrue e X.env<|eval e X.env) (TP X pins σ Q) X.xe s
def PW(X:Cx)(e:Expr)(t:TT):Prop:=
 ∀(whole:Sem Value) (pins:List (Addr×Obj)) (s:Shared) (σ:St) (H:Hp) (Q:Bool->Hp->Prop),Inv X pins σ H s->t σ H Q->wpAny (model X.prog X.w) X.A (isTrue e X.env whole) (TP X pins σ Q) X.xe s
theorem PW.pt{X:Cx}{e:Expr}{t:TT}(h:PW X e t):PT X e t:=h _
def PA(X:Cx)(es:List Expr)(t:TA):Prop:=
 ∀(pos:Pos) (pins:List (Addr×Obj)) (s:Shared) (σ:St) (H:Hp) (Q:List V->Hp->Prop),Inv X pins σ H s->t σ H Q->wpAny (model X.prog X.w) X.A (spliced<|backTo pos<|starEach es X.env) (AP X pins σ Q) X.xe s
def PS(X:Cx)(st:Stmt)(t:TS):Prop:=
 ∀(pins:List (Addr×Obj)) (s:Shared) (σ:St) (H:Hp) (D:Ends),Inv X pins σ H s->t D σ H->wpAny (model X.prog X.w) X.A (exec st X.env) (SP X pins D) X.xe s
def eE(X:Cx)(st:List Stmt)(t:TS):Prop:=
 ∀(pins:List (Addr×Obj)) (s:Shared) (σ:St) (H:Hp) (D:Ends),Inv X pins σ H s->t D σ H->wpAny (model X.prog X.w) X.A (execs st X.env) (SP X pins D) X.xe s
theorem aK{t:Sem α}{Q Q':α->Shared->Prop}{M:Model}{A:Around}{E:Value->Shared->Prop}{s:Shared}(h:wpAny M A t Q E s)(hQ:∀a s,Q a s->Q' a s):wpAny M A t Q' E s:=wpAny_mono h hQ λ_ _ x=>x
section
variable {X:Cx}
def Bi(i:Nat):TE:=λσ H Q=>∃v,σ[i]?=some (some v)/\Q v H
def tC(v:V):TE:=λ_ H Q=>Q v H
theorem RD{pos:Pos}(hN:X.N[i]?=some x)(hv:xJ X.env.scope x)(hd:(x==("__debug__":Str))=false:=by decide)(lF:(x==("__classdict__":Str))=false:=by decide):PE X (.Name x pos) (Bi i):=by
 intro pins s σ H Q I h;obtain⟨v,e,h⟩:=h;obtain⟨m,hn,hl⟩:=I.loc;obtain⟨u,r,l⟩:=hl i x v hN e hv;have fin:EP X pins σ Q u s:=⟨v,H,I,r,h⟩;rcases l with⟨hk,hm⟩|⟨hk,c,hc,F8⟩
 ·exact wpAny_Name (wpAny_loadName_local I.ok.kind hk hn hm fin) hd
 ·rcases hk with hk|hk
  ·exact wpAny_Name (wpAny_loadName_cell I.ok.kind hk hc F8 fin) hd
  ·exact wpAny_Name (wpAny_loadName_free I.ok.kind hk hc F8 fin lF) hd
theorem RF:PE X (.Constant (.int i) j pos) (tC<|.int i):=λ_ _ _ H _ I h=>wpAny_Constant_int ⟨.int i,H,I.tok _,⟨_,rfl⟩,h⟩
theorem RG:PE X (.Constant (.bool b) j pos) (tC<|.bl b):=λ_ _ _ H _ I h=>Constant_bool ⟨.bl b,H,I,rfl,h⟩
theorem RH:PE X (.Constant .none j pos) (tC .au):=λ_ _ _ H _ I h=>Constant_none ⟨.au,H,I,rfl,h⟩
theorem RJ:PE X (.Constant (.str x) j pos) (tC<|.str x):=λ_ _ _ H _ I h=>Calls.Constant_str ⟨.str x,H,I.tok _,⟨_,rfl⟩,h⟩
def Gl(X:Cx)(x:Str):Prop:=X.env.kindOf x=some .globalImplicit
theorem xU{pins:List (Addr×Obj)}{s:Shared}{σ:St}{H:Hp}{x:Str}{u:Value}{pos:Pos}{Q:Value->Shared->Prop}(I:Inv X pins σ H s)(hg:Gl X x)(hm:X.mg x=some u)(h:Q u s)
  (hd:(x==("__debug__":Str))=false:=by decide):wpAny (model X.prog X.w) X.A (eval (.Name x pos) X.env) Q E s:=
 Calls.Name_function_global I.ok.kind hg (Calls.loadGlobal_global (I.ok.glob▸I.mod.glob.keeps I.bk) hm h) hd
theorem uK{E:Value->Shared->Prop}{pins:List (Addr×Obj)}{s:Shared}{σ:St}{H:Hp}{x:Str}{u:Value}{pos:Pos}{Q:Value->Shared->Prop}(I:Inv X pins σ H s)(hg:Gl X x)(hm:X.mg x=none)(hv:bootBuiltins x=some u)(h:Q u s)
  (hn:x≠"__name__":=by decide) (hd:(x==("__debug__":Str))=false:=by decide):wpAny (model X.prog X.w) X.A (eval (.Name x pos) X.env) Q E s:=by
 obtain⟨mb,h1,h2⟩:=I.mod.blt;exact Calls.Name_function_global I.ok.kind hg (Calls.loadGlobal_builtin (I.ok.glob▸I.mod.glob.keeps I.bk) hm (I.ok.blt▸h1.keeps I.bk) ((h2 x hn).trans hv) h) hd
theorem F9{v:V}{u:Value}{pos:Pos}(hg:Gl X x)(hm:X.mg x=some u)(r:RelV v u)(hd:(x==("__debug__":Str))=false:=by decide):PE X (.Name x pos) (tC v):=
 λ_ _ _ H _ I h=>xU I hg hm ⟨v,H,I,r,h⟩ hd
theorem RK{v:V}{u:Value}{pos:Pos}(hg:Gl X x)(hm:X.mg x=none)(hv:bootBuiltins x=some u)(r:RelV v u)(hn:x≠"__name__":=by decide)(hd:(x==("__debug__":Str))=false:=by decide):PE X (.Name x pos) (tC v):=
 λ_ _ _ H _ I h=>uK I hg hm hv ⟨v,H,I,r,h⟩ hn hd
variable {a b:Expr}{ta tb:TE}{pos:Pos}
def PC(X:Cx)(op:CmpOp)(a b:Expr)(t:TE):Prop:=
 ∀(pins:List (Addr×Obj)) (s:Shared) (σ:St) (H:Hp) (Q:VK),Inv X pins σ H s->t σ H Q->
  wpAny (model X.prog X.w) X.A (eval a X.env) (λv s₁=>wpAny (model X.prog X.w) X.A (eval b X.env) (λu s₂=>wpAny (model X.prog X.w) X.A (compareOp op v u) (EP X pins σ Q) X.xe s₂) X.xe s₁) X.xe s
def tB(t:TE):TT:=λσ H Q=>t σ H λx H1=>∃c,x=.bl c/\Q c H1
theorem F_(h:PC X op a b t)(h1:behindInMarks op b=false:=by first|exact ait _ (by decide) (by decide)|rfl):PT X (.Compare a [op] [b] pos) (tB t):=by
 intro pins s σ H Q I hw;refine wpAny_isTrue_Compare1 (aK (h pins s σ H _ I hw) λv s1 h1=>aK h1 λu s2 h2=>aK h2 λc s3 ⟨x,H1,I1,r1,q1⟩=>?_) h1;obtain⟨d,rfl,q⟩:=q1;cases r1;exact wpAny_truthy_bool ⟨H1,I1,q⟩
variable {tA xV:TT}{rest:List Expr}
def Ga(t u:TT):TT:=λσ H Q=>t σ H λc H1=>if c=true then u σ H1 Q else Q false H1
def Gb(t u:TT):TT:=λσ H Q=>t σ H λc H1=>if c=true then Q true H1 else u σ H1 Q
def Gd(t:TT):TT:=λσ H Q=>t σ H λc H1=>Q (!c) H1
theorem pw_and1(ha:PT X a tA):PW X (.BoolOp .And [a] pos) tA:=by
 intro wh pins s σ H Q I h;refine isTrue_and<|aK (ha pins s σ H Q I h) λc s1 e=>?_;cases c with
 |true=>exact isTrue_and_nil e
 |false=>exact e
theorem pw_or1(ha:PT X a tA):PW X (.BoolOp .Or [a] pos) tA:=by
 intro wh pins s σ H Q I h;refine isTrue_or<|aK (ha pins s σ H Q I h) λc s1 e=>?_;cases c with
 |false=>exact isTrue_or_nil e
 |true=>exact e
theorem pw_and(ha:PT X a tA)(hb:PW X (.BoolOp .And (b::rest) pos) xV):PW X (.BoolOp .And (a::b::rest) pos) (Ga tA xV):=by
 intro wh pins s σ H Q I h;refine isTrue_and<|aK (ha pins s σ H _ I h) λc s1 ⟨H1,I1,q1⟩=>?_;cases c with
 |true=>exact hb wh pins s1 σ H1 Q I1 q1
 |false=>exact⟨H1,I1,q1⟩
theorem pw_or(ha:PT X a tA)(hb:PW X (.BoolOp .Or (b::rest) pos) xV):PW X (.BoolOp .Or (a::b::rest) pos) (Gb tA xV):=by
 intro wh pins s σ H Q I h;refine isTrue_or<|aK (ha pins s σ H _ I h) λc s1 ⟨H1,I1,q1⟩=>?_;cases c with
 |true=>exact⟨H1,I1,q1⟩
 |false=>exact hb wh pins s1 σ H1 Q I1 q1
theorem RL(ha:PT X a tA):PT X (.UnaryOp .Not a pos) (Gd tA):=by
 intro pins s σ H Q I h;exact isTrue_not<|aK (ha pins s σ H (λc H1=>Q (!c) H1) I h) λ_ _ ⟨a,b,c⟩=>⟨a,b,c⟩
def Ge(ta tb:TE):TE:=λσ H Q=>ta σ H λx H1=>∃c,x=.bl c/\if c=true then tb σ H1 Q else Q (.bl false) H1
def Gf(ta tb:TE):TE:=λσ H Q=>ta σ H λx H1=>∃c,x=.bl c/\if c=true then Q (.bl true) H1 else tb σ H1 Q
theorem Gg{t:TE}(h:PE X a t):PE X (.BoolOp op [a] pos) t:=λpins s σ H Q I hw=>BoolOp_one (h pins s σ H Q I hw)
theorem RM(ha:PE X a ta)(hb:PE X (.BoolOp .And (b::rest) pos) tb):PE X (.BoolOp .And (a::b::rest) pos) (Ge ta tb):=by
 intro pins s σ H Q I h;refine BoolOp_and<|aK (ha pins s σ H _ I h) λv s1 ⟨x,H1,I1,r1,q1⟩=>?_;obtain⟨c,rfl,q1⟩:=q1;cases r1;refine wpAny_truthy_bool ?_;cases c with
 |true=>exact hb pins s1 σ H1 Q I1 q1
 |false=>exact⟨.bl false,H1,I1,rfl,q1⟩
theorem RN(ha:PE X a ta)(hb:PE X (.BoolOp .Or (b::rest) pos) tb):PE X (.BoolOp .Or (a::b::rest) pos) (Gf ta tb):=by
 intro pins s σ H Q I h;refine BoolOp_or<|aK (ha pins s σ H _ I h) λv s1 ⟨x,H1,I1,r1,q1⟩=>?_;obtain⟨c,rfl,q1⟩:=q1;cases r1;refine wpAny_truthy_bool ?_;cases c with
 |false=>exact hb pins s1 σ H1 Q I1 q1
 |true=>exact⟨.bl true,H1,I1,rfl,q1⟩
def Gh(t:TT)(ta tb:TE):TE:=λσ H Q=>t σ H λc H1=>if c=true then ta σ H1 Q else tb σ H1 Q
theorem RO(hc:PT X c tA)(ha:PE X a ta)(hb:PE X b tb):PE X (.IfExp c a b pos) (Gh tA ta tb):=by
 intro pins s σ H Q I h;refine wpAny_IfExp<|aK (hc pins s σ H _ I h) λd s1 ⟨H1,I1,q1⟩=>?_;cases d with
 |true=>exact ha pins s1 σ H1 Q I1 q1
 |false=>exact hb pins s1 σ H1 Q I1 q1
end
def aB(K:Frag)(H:Hp)(a:Addr)(xs:List V):Prop:=
 Rd H a (.lst xs)\/
  ∃(o:Obj) (ao:Array Value) (n:Nat),K.lookup a=some o/\o.cls=.type "list"/\o.dict=none/\o.data=.seq ao n/\ao.size<=sizeLine/\Vals xs ao.toList
def aL(K:Frag)(H:Hp)(a:Addr)(xs:List V):Prop:=
 Rd H a (.tup xs)\/
  ∃(o:Obj) (ao:Array Value) (n:Nat),K.lookup a=some o/\o.cls=.type "tuple"/\o.data=.seq ao n/\ao.size<=sizeLine/\Vals xs ao.toList
def RP:Value->Option V
 |.none=>some .au
 |.bool b=>some (.bl b)
 |.int i _=>some (.int i)
 |.str x _=>some (.str x)
 |.bytes b _=>some (.gK b)
 |.float b _=>some (.nY b)
 |.ref a=>some (.ref a)
 |.type n=>some (.ty n)
 |_=>none
theorem RelV.abs{u:Value}(r:RelV x u):RP u=some x:=by
 cases x with
 |au=>cases r;rfl
 |bl _=>cases r;rfl
 |int _=>obtain⟨t,rfl⟩:=r;rfl
 |str _=>obtain⟨t,rfl⟩:=r;rfl
 |gK _=>obtain⟨t,rfl⟩:=r;rfl
 |nY _=>obtain⟨t,rfl⟩:=r;rfl
 |ref _=>cases r;rfl
 |ty _=>cases r;rfl
theorem RelV.inj{u:Value}(r:RelV x u)(q:RelV y u):x=y:=zap (r.abs.symm.trans q.abs)
theorem Vals.inj:∀{xs ys:List V}{us:List Value},Vals xs us->Vals ys us->xs=ys
 |_,_,_,.nil,.nil=>rfl
 |_,_,_,.cons r t,.cons r' t'=>by rw[r.inj r',Vals.inj t t']
section
variable {X:Cx}{pins:List (Addr×Obj)}{σ:St}{H:Hp}{s:Shared}{a:Addr}{xs ys:List V}
theorem aB.of{K:Frag}(h:H a=some (.lst xs)):aB K H a xs:=.inl (.inl h)
theorem aL.of{K:Frag}(h:H a=some (.tup xs)):aL K H a xs:=.inl (.inl h)
theorem Inv.list(I:Inv X pins σ H s)(h:aB X.K H a xs):∃ao:List Value,Vals xs ao/\PlainL s.heap a ao.toArray/\xs.length<=sizeLine:=by
 rcases h with h|⟨o,ao,n,hk,hc,hd,hs,hz,r⟩
 ·obtain⟨z,ao,n,r,e⟩:=h.ok I.aF;exact⟨ao,r,⟨_,n,e,rfl,rfl,rfl⟩,z⟩
 ·refine⟨ao.toList,r,⟨o,n,I.dE a o hk,hc,hd,by simpa using hs⟩,?_⟩
  have e:=r.length
  simp at e
  omega
theorem Inv.tuple(I:Inv X pins σ H s)(h:aL X.K H a xs):∃ao:List Value,Vals xs ao/\IsTup s.heap a ao.toArray/\xs.length<=sizeLine:=by
 rcases h with h|⟨o,ao,n,hk,hc,hs,hz,r⟩
 ·obtain⟨z,ao,r,p⟩:=h.ok I.aF;exact⟨ao,r,p,z⟩
 ·refine⟨ao.toList,r,⟨o,I.dE a o hk,hc,n,by simpa using hs⟩,?_⟩
  have e:=r.length
  simp at e
  omega
theorem Inv.RQ(I:Inv X pins σ H s)(h:aB X.K H a xs)(h':aB X.K H a ys):xs=ys:=by
 obtain⟨ao,r,⟨o,n,e,_,_,d⟩,_⟩:=I.list h;obtain⟨its',r',⟨o',n',e',_,_,d'⟩,_⟩:=I.list h';rw[e] at e';cases e'
 have:ao=its':=by lia
 subst this;exact r.inj r'
end
section
variable {X:Cx}{st:Stmt}{rest:List Stmt}{t u:TS}{e:Expr}{te:TE}{pos:Pos}
def Bj:TS:=λD σ H=>D.nx σ H
def Gi(t u:TS):TS:=λD σ H=>t {D with nx:=u D} σ H
theorem Gj:eE X [] Bj:=λ_ _ σ H _ I h=>wpAny_execs_nil ⟨σ,H,I,h⟩
theorem RT(h1:PS X st t)(h2:eE X rest u):eE X (st::rest) (Gi t u):=by
 intro pins s σ H D I h;refine wpAny_execs_cons<|aK (h1 pins s σ H {D with nx:=u D} I h) λf s1 q=>?_
 cases f with
 |next=>
  obtain⟨σ',H',I',q⟩:=q;exact h2 pins s1 σ' H' D I' q
 |ret v=>exact q
 |brk=>exact q
 |cont=>exact q
def RU:TS:=λD σ H=>D.bk σ H
def Gk:TS:=λD σ H=>D.ct σ H
theorem RV:PS X (.Continue pos) Gk:=λ_ _ σ H _ I h=>wpAny_Continue ⟨σ,H,I,h⟩
theorem Inv.quiet{σ:St}{H:Hp}{s:Shared}(I:Inv X pins σ H s):interactive X.env=false:=by simp[interactive,I.ok.kind]
def Gm(te:TE):TS:=λD σ H=>te σ H λ_ H1=>D.nx σ H1
theorem RW(he:PE X e te)(hs:swapsWith e none pos.line X.env=pure false:=by rfl):PS X (.Expr e pos) (Gm te):=by
 intro pins s σ H D I h;exact wpAny_Expr_any (aK (he pins s σ H _ I h) λv s1 ⟨x,H1,I1,r1,q1⟩=>⟨σ,H1,I1,q1⟩) I.quiet hs
def Gn(te:TE):TS:=λD σ H=>te σ H D.rt
theorem RX(he:PE X e te):PS X (.Return (some e) pos) (Gn te):=by
 intro pins s σ H D I h;exact wpAny_Return_some<|aK (he pins s σ H _ I h) λv s1 ⟨x,H1,I1,r1,q1⟩=>⟨x,σ,H1,I1,r1,q1⟩
def RY:TS:=λD _ H=>D.rt .au H
def Gp(c:TT)(t u:TS):TS:=λD σ H=>c σ H λb H1=>if b=true then t D σ H1 else u D σ H1
theorem RZ{a b:List Stmt}{tc:TT}(hc:PT X c tc)(ha:eE X a t)(hb:eE X b u):PS X (.If c a b pos) (Gp tc t u):=by
 intro pins s σ H D I h;refine wpAny_If<|aK (hc pins s σ H _ I h) λd s1 ⟨H1,I1,q1⟩=>?_;cases d with
 |true=>exact ha pins s1 σ H1 D I1 q1
 |false=>exact hb pins s1 σ H1 D I1 q1
def R0:TS:=λ_ _ _=>False
end
abbrev TG:=V->St->Hp->(St->Hp->Prop)->Prop
abbrev lG:=List V->St->Hp->(St->Hp->Prop)->Prop
def PG(X:Cx)(target:Expr)(t:TG):Prop:=
 ∀(pins:List (Addr×Obj)) (s:Shared) (σ:St) (H:Hp) (v:V) (u:Value) (Q:St->Hp->Prop),Inv X pins σ H s->RelV v u->t v σ H Q->
  wpAny (model X.prog X.w) X.A (assign target X.env u) (λ_ s'=>∃σ' H',Inv X pins σ' H' s'/\Q σ' H') X.xe s
def sh(X:Cx)(ts:List Expr)(t:lG):Prop:=
 ∀(pins:List (Addr×Obj)) (s:Shared) (σ:St) (H:Hp) (vs:List V) (us:List Value) (Q:St->Hp->Prop),Inv X pins σ H s->Vals vs us->t vs σ H Q->
  wpAny (model X.prog X.w) X.A (assignInOrder ((assignEach ts X.env).map (·.2)) us) (λ_ s'=>∃σ' H',Inv X pins σ' H' s'/\Q σ' H') X.xe s
abbrev Bk:=V->V->V->Hp->(Hp->Prop)->Prop
def Gq(X:Cx)(t:Bk):Prop:=
 ∀(pins:List (Addr×Obj)) (s:Shared) (σ:St) (H:Hp) (o i v:V) (ov iv u:Value) (Q:Hp->Prop),Inv X pins σ H s->RelV o ov->RelV i iv->RelV v u->t o i v H Q->
  wpAny (model X.prog X.w) X.A (setItem ov iv u) (λ_ s'=>∃H',Inv X pins σ H' s'/\Q H') X.xe s
section
variable {X:Cx}{pos:Pos}
def fB(i:Nat):TG:=λv σ H Q=>Q (σ.set i<|some v) H
theorem xW(hN:X.N.Nodup)(hi:X.N[i]?=some x)(hx:Loc X.env.scope x)(hf:X.fn x=true\/X.env.scope.names.lookup x=some .local:=by first|exact .inl rfl|exact .inr rfl|assumption):PG X (.Name x pos) (fB i):=by
 intro pins s σ H v u Q I r h;exact wpAny_assign_Name<|F7 I hN hi hx r (λs' I'=>⟨_,H,I',h⟩) hf
def Bl:lG:=λvs σ H Q=>vs=[]/\Q σ H
def xX(t:TG)(u:lG):lG:=λvs σ H Q=>∃v r,vs=v::r/\t v σ H λσ' H'=>u r σ' H' Q
theorem Gr:sh X [] Bl:=by
 intro pins s σ H vs us Q I r h;obtain⟨e,h⟩:=h;subst e;cases r;exact assignInOrder_nil ⟨σ,H,I,h⟩
theorem Bm{t:TG}{u:lG}(h1:PG X e t)(h2:sh X es u)
  (hs:(assignEach (e::es) X.env).map (·.2)=assign e X.env::(assignEach es X.env).map (·.2):=by rfl):sh X (e::es) (xX t u):=by
 intro pins s σ H vs us Q I r h;obtain⟨v,vr,e1,h⟩:=h;subst e1;cases r with
 |cons r rr=>
  rw[hs];exact assignInOrder_cons<|aK (h1 pins s σ H _ _ _ I r h) λ_ s1 ⟨σ1,H1,I1,q1⟩=>h2 pins s1 σ1 H1 _ _ Q I1 rr q1
def Gu(K:Frag)(n:Nat)(t:lG):TG:=λv σ H Q=>∃a xs,v=.ref a/\aL K H a xs/\xs.length=n/\t xs σ H Q
theorem Gv{k:Nat}{t:lG}{n:Nat}(hc:X.calm=true)(h:sh X es t)
  (hn:(assignEach es X.env).length=n:=by rfl) (n6:(assignEach es X.env).findIdx? (·.1)=none:=by rfl):PG X (.Tuple es k pos) (Gu X.K n t):=by
 intro pins s σ H v u Q I r hw;obtain⟨a,xs,e1,hq,hl,hw⟩:=hw;subst e1;cases r;obtain⟨ao,rv,ht,hz⟩:=I.tuple hq;refine assign_Tuple_tuple (I.ok.hd hc) ht (by simp[hn,<-hl,rv.length]) n6 λh' hx=>?_
 exact h pins _ σ H xs _ Q (I.kept λb o e=>hx b o (zao<|Heap.lt_size e) e) (by lia) hw
def Gw(to ti:TE)(t:Bk):TG:=λv σ H Q=>to σ H λo H1=>ti σ H1 λi H2=>t o i v H2 λH3=>Q σ H3
theorem R1{to ti:TE}{t:Bk}(ho:PE X o to)(hi:PE X i ti)(hs:Gq X t)
  (ha:∀v,assign (.Subscript o i pos) X.env v=(do
   let ov <-holding [v] (eval o X.env)
   let iv <-holding [v,ov] (eval i X.env)
   standAt pos
   holding [v,ov,iv] (setItem ov iv v)
   release [v,ov,iv] []):=by intro _;rfl):PG X (.Subscript o i pos) (Gw to ti t):=by
 intro pins s σ H v u Q I r h;exact wpAny_bind<|wpAny_holding<|aK (ho pins s σ H _ I h) λov s1 ⟨x,H1,I1,r1,q1⟩=>wpAny_bind<|wpAny_holding<|aK (hi pins s1 σ H1 _ I1 q1) λiv s2 ⟨y,H2,I2,r2,q2⟩=>wpAny_bind<|wpAny_standAt<|wpAny_bind<|wpAny_holding<|aK (hs pins s2 σ H2 x y v ov iv u _ I2 r1 r2 r q2) λ_ s3 ⟨H3,I3,q3⟩=>wpAny_release ⟨σ,H3,I3,q3⟩
def lH(te:TE)(g:TG):TS:=λD σ H=>te σ H λx H1=>g x σ H1 D.nx
theorem R3{e:Expr}{te:TE}{g:TG}(he:PE X e te)(hg:PG X tg g)(hs:swapsWithSole [tg] e pos.line X.env=pure false:=by rfl)(hw:swappedStores [tg] e X.env=pure none:=by rfl)
  (h1:(assignEach [tg] X.env).map (·.2)=[assign tg X.env]:=by rfl):PS X (.Assign [tg] e pos) (lH te g):=by
 intro pins s σ H D I h;refine wpAny_Assign_stores (aK (he pins s σ H _ I h) λv s1 ⟨x,H1,I1,r1,q1⟩=>?_) hs hw;rw[h1];exact aK (hg pins s1 σ H1 x v _ I1 r1 q1) λ_ s2 q=>q
theorem R4{e:Expr}{te:TE}{pos':Pos}(hN:X.N.Nodup)(hi:X.N[i]?=some x)(hx:Loc X.env.scope x)(he:PE X e te)(hs:swapsWith e (some<|.Name x pos') pos.line X.env=pure false:=by rfl)(hf:X.fn x=true\/X.env.scope.names.lookup x=some .local:=by first|exact .inl rfl|exact .inr rfl|assumption):
  PS X (.Assign [.Name x pos'] e pos) (lH te<|fB i):=by
 intro pins s σ H D I h;exact wpAny_Assign_Name (aK (he pins s σ H _ I h) λv s1 ⟨y,H1,I1,r1,q1⟩=>F7 I1 hN hi hx r1 (λs2 I2=>⟨_,H1,I2,q1⟩) hf) hs
def Gx(c:TT)(tb:TS):TS:=λD σ H=>∃W:Nat->St->Hp->Prop,(∃m,W m σ H)/\∀m σ H,W m σ H->
 c σ H λb H1=>if b=true then ∃N:St->Hp->Prop,(∀σ' H',N σ' H'->∃m',m'<m/\W m' σ' H')/\tb {D with nx:=N,ct:=N,bk:=D.nx} σ H1 else D.nx σ H1
theorem R5{tc:TT}{tb:TS}(hp:PassesOwn (model X.prog X.w) X.A X.env X.xe)(hc:PT X c tc)(hb:eE X body tb):PS X (.While c body [] pos) (Gx tc tb):=by
 intro pins s σ H D I h;obtain⟨W,⟨m0,w0⟩,turn⟩:=h;refine wpAny_While<|codeAny_whileLoop (λn s'=>∃σ' H',Inv X pins σ' H' s'/\W n σ' H') ?_ m0 ⟨σ,H,I,w0⟩;rintro n s1 ⟨σ1,H1,I1,w1⟩;refine wpAny_passesOwn hp<|aK (hc pins s1 σ1 H1 _ I1<|turn n σ1 H1 w1) λb s2 ⟨H2,I2,q2⟩=>?_;cases b with
 |true=>
  obtain⟨N,hN,q2⟩:=q2;refine wpAny_passesOwn hp<|aK (hb pins s2 σ1 H2 _ I2 q2) λf s3 q3=>?_;cases f with
  |next=>
   obtain⟨σ3,H3,I3,n3⟩:=q3;obtain⟨m',hm,w3⟩:=hN σ3 H3 n3;exact⟨m',hm,σ3,H3,I3,w3⟩
  |cont=>
   obtain⟨σ3,H3,I3,n3⟩:=q3;obtain⟨m',hm,w3⟩:=hN σ3 H3 n3;exact⟨m',hm,σ3,H3,I3,w3⟩
  |brk=>exact q3
  |ret v=>exact q3
 |false=>
  exact wpAny_execs_nil ⟨σ1,H2,I2,q2⟩
end
structure It where
 go:Nat->Hp->Prop
 fM:Nat->Hp->V->Hp->Prop
 stop:Nat->Hp->Prop
def jJ(X:Cx)(pins:List (Addr×Obj))(H:Hp)(b:Addr):Prop:=
 H b=none/\b≠X.env.locals/\b∉X.fs/\(b∈X.ex\/X.s₀.heap.objs.size<=b)/\(∀x c,X.env.cells.lookup x=some c->c≠b)/\∀p∈X.pn++pins,p.1≠b
theorem Inv.Gy{σ:St}{H H':Hp}{s:Shared}{b:Addr}(I:Inv X pins σ H s)(hb:s.heap.objs.size<=b)(hn:H' b=none):jJ X pins H' b:=by
 refine⟨hn,Nat.ne_of_gt<|zaA I.lt hb,I.FZ hb,.inr<|zaq I.sz hb,λx c e z=>?_,λp hp z=>?_⟩
 ·obtain⟨v,q⟩:=I.cell x c e;exact absurd (zaA q.lt (by lia))<|zaQ _
 ·exact absurd (zaA (Heap.lt_size (I.pin p hp).1) (by lia)) (zaQ _)
structure Turn (P:Program) (w:World) (K:Frag) (tg:Expr) (J:It) (fp:List Addr) (it:Addr) (tn:Nat->Heap->Prop):Prop where
 mem:it∈fp
 obj:∀i h,tn i h->∀b∈fp,∃o,h.get? b=some o/\∀v,o.data≠ .cell v
 keep:∀i h h',tn i h->(∀b∈fp,∀o,h.get? b=some o->h'.get? b=some o)->tn i h'
 item:∀(X:Cx),X.prog=P->X.w=w->X.K=K->X.calm=true->∀(i:Nat) (pins:List (Addr×Obj)) (s:Shared) (σ:St) (H:Hp) (E:Value->Shared->Prop),Inv X pins σ H s->(∀b∈fp,jJ X pins H b)->tn i s.heap->J.go i H->
  wpAny (model P w) X.A (pyNext (.ref it)) (λr s1=>∃u,r=some u/\
   wpAny (model P w) X.A (letOwnedTupleGo tg (.ref it) u) (λ_ s2=>∃x H',Inv X pins σ H' s2/\RelV x u/\J.fM i H x H'/\tn (i+1) s2.heap/\∀b∈fp,H' b=none) E s1) E s
 done:∀(X:Cx),X.prog=P->X.w=w->X.K=K->X.calm=true->∀(i:Nat) (pins:List (Addr×Obj)) (s:Shared) (σ:St) (H:Hp) (E:Value->Shared->Prop),Inv X pins σ H s->(∀b∈fp,jJ X pins H b)->tn i s.heap->J.stop i H->
  wpAny (model P w) X.A (pyNext<|.ref it) (λr s1=>r=none/\Inv X pins σ H s1) E s
 self:∀(A:Around) (i:Nat) (s:Shared) (Q:Value->Shared->Prop) (E:Value->Shared->Prop),tn i s.heap->Q (.ref it) s->wpAny (model P w) A (pyIter<|.ref it) Q E s
abbrev TI:=St->Hp->(It->Hp->Prop)->Prop
def Gz(X:Cx)(pins:List (Addr×Obj))(σ:St)(tg:Expr)(R:It->Hp->Prop)(pZ:Value)(s2:Shared):Prop:=
 ∃(it:Addr) (fp:List Addr) (tn:Nat->Heap->Prop) (J:It) (H':Hp),pZ=.ref it/\Inv X pins σ H' s2/\Turn X.prog X.w X.K tg J fp it tn/\tn 0 s2.heap/\(∀b∈fp,jJ X pins H' b)/\R J H'
def PI(X:Cx)(tg iter:Expr)(wi:TI):Prop:=
 ∀(pins:List (Addr×Obj)) (s:Shared) (σ:St) (H:Hp) (R:It->Hp->Prop),Inv X pins σ H s->wi σ H R->
  wpAny (model X.prog X.w) X.A (eval iter X.env) (λv s1=>wpAny (model X.prog X.w) X.A (pyIter v) (Gz X pins σ tg R) X.xe s1) X.xe s
theorem GA{E:Value->Shared->Prop}{s:Shared}{tg:Expr}{it:Addr}{u:Value}{o:Obj}{n:String}{vs:Array Value}{Q:Unit->Shared->Prop}(ho:s.heap.get? it=some o)(hc:o.cls=.type n)(hd:o.data=.fields vs)
    (hn:["enumerate","zip","dict_itemiterator","dict_reverseitemiterator","odict_iterator","itertools.zip_longest","itertools.pairwise"].contains n=false) (hQ:Q () s):wpAny M A (letOwnedTupleGo tg (.ref it) u) Q E s:=by
  cases tg<;>first
    |exact wpAny_pure hQ
    | (cases u<;>first
        |exact wpAny_pure hQ
        | (refine wpAny_bind (wpAny_load ho ?_)
           rw[hc,hd];show wpAny M A (if (["enumerate","zip","dict_itemiterator","dict_reverseitemiterator","odict_iterator","itertools.zip_longest","itertools.pairwise"].contains n && vs[0]?==some (rawInt _))=true then _ else _) Q E s
           rw[if_neg (by lia)]
           exact wpAny_pure hQ))
def fD(K:Frag)(a:Addr):It:=
 ⟨λi H=>∃xs x,aB K H a xs/\xs[i]?=some x,λi H x H'=>H'=H/\∀xs,aB K H a xs->xs[i]?=some x,λi H=>∃xs,aB K H a xs/\xs.length<=i⟩
def R6(K:Frag)(a:Addr):It:=
 ⟨λi H=>∃xs x,aL K H a xs/\xs[i]?=some x,λi H x H'=>H'=H/\∀xs,aL K H a xs->xs[i]?=some x,λi H=>∃xs,aL K H a xs/\xs.length<=i⟩
def dy(lo:Int)(n:Nat):It:=⟨λi _=>i<n,λi H x H'=>H'=H/\x=.int (lo+i),λi _=>n<=i⟩
theorem R7{K:Frag}{tg:Expr}(a it:Addr):Turn P w K tg (fD K a) [it] it (λi h=>h.IsListIter it a i) where
 mem:=by simp
 obj:=λi h st b hb=>by
  have e:=by simpa using hb
  subst e;obtain⟨o,e,c,d⟩:=st;exact⟨o,e,λv z=>by lia⟩
 keep:=λi h h' st k=>st.at λo e=>k it (by simp) o e
 item:=by
  intro X hP hw hK hc i pins s σ H E I hf st hg;subst hP hw hK;obtain⟨xs,x,hq,hx⟩:=hg;obtain⟨ao,rv,p,hz⟩:=I.list hq;obtain⟨u,hu,ru⟩:=rv.get hx;obtain⟨f0,f1,f2,f3,f4,f5⟩:=hf it (by simp)
  refine wpAny_pyNext_list_item st p.isList (by simpa using hu) λh' kj sb=>?_
  obtain⟨o,e,c,d⟩:=id kj;exact⟨u,rfl,GA e c d (rfl) ⟨x,H,(I.turned (λb o hb e=>(sb.2 b hb).trans e) f0 f1 f3 f4 f5),ru,⟨rfl,λys hy=>by rw[I.RQ hy hq];exact hx⟩,kj,λb hb=>(hf b hb).1⟩⟩
 done:=by
  intro X hP hw hK hc i pins s σ H E I hf st hg;subst hP hw hK;obtain⟨xs,hq,hx⟩:=hg;obtain⟨ao,rv,p,hz⟩:=I.list hq;obtain⟨f0,f1,f2,f3,f4,f5⟩:=hf it (by simp)
  have hl:=rv.length;exact wpAny_pyNext_list_end (I.ok.hd hc) st p.isList (by simp;omega) λh' eb=>⟨rfl,I.turned (λb o hb e=>eb b o hb e) f0 f1 f3 f4 f5⟩
 self:=λ_ _ _ _ _ st h=>wpAny_pyIter_listiter st h
theorem R8{K:Frag}{tg:Expr}(it:Addr)(lo:Int)(n:Nat):Turn P w K tg (dy lo n) [it] it (λi h=>IsRangeIter h it (lo+(i:Nat)*1) ((n:Int) - (i:Nat)) 1) where
 mem:=by simp
 obj:=λi h st b hb=>by
  have e:=by simpa using hb
  subst e;exact⟨_,st,λv z=>by
   cases z⟩
 keep:=λi h h' st k=>k it (by simp) _ st
 item:=by
  intro X hP hw hK hc i pins s σ H E I hf st hg;obtain⟨f0,f1,f2,f3,f4,f5⟩:=hf it (by simp)
  refine (Walks.range (I.ok.hd hc) it lo 1 n).item i s _ _ hg st λv h' tk hv kj kk=>?_;obtain⟨t,rfl⟩:=hv;have I1:Inv X pins σ H {s with heap:=h',toks:=tk}:=I.turned (λb o hb e=>kk b o (by simpa using hb) e) f0 f1 f3 f4 f5
  refine⟨_,rfl,GA kj rfl rfl (rfl) ⟨.int<|lo+i,H,I1,⟨t,?_⟩,⟨rfl,rfl⟩,kj,λb hb=>(hf b hb).1⟩⟩
  rw[Int.mul_one]
 done:=by
  intro X hP hw hK hc i pins s σ H E I hf st hg;obtain⟨f0,f1,f2,f3,f4,f5⟩:=hf it (by simp)
  exact wpAny_pyNext_range_end (I.ok.hd hc) st (by have:n<=i:=hg;omega) λh' eb=>⟨rfl,I.turned (λb o hb e=>eb b o hb e) f0 f1 f3 f4 f5⟩
 self:=λ_ _ _ _ _ st h=>wpAny_pyIter_rangeiter st h
section
variable {X:Cx}{tg:Expr}
def Bn(K:Frag)(tl:TE):TI:=λσ H R=>tl σ H λx H1=>∃a,x=.ref a/\(∃xs,aB K H1 a xs)/\R (fD K a) H1
def R9(K:Frag)(tl:TE):TI:=λσ H R=>tl σ H λx H1=>∃a,x=.ref a/\(∃xs,aL K H1 a xs)/\R (R6 K a) H1
theorem R_(hl:PE X l tl):PI X tg l (Bn X.K tl):=by
 intro pins s σ H R I h;refine aK (hl pins s σ H _ I h) λv s1 ⟨x,H1,I1,r1,q1⟩=>?_;obtain⟨a,e,⟨xs,hq⟩,q⟩:=q1;subst e;cases r1;obtain⟨ao,rv,p,hz⟩:=I1.list hq;refine wpAny_pyIter_list p.isList (⟨s1.heap.objs.size,[s1.heap.objs.size],_,_,H1,rfl,I1.kept λb o e=>Heap.get?_push_of_some _ e,R7 a _,⟨_,Heap.get?_push_size _ rfl,rfl,rfl⟩,λb hb=>?_,q⟩);have e:=by simpa using hb
 subst e;exact I1.Gy (zqR _)<|I1.aF.fresh<|zqR _
theorem GB{σ:St}{H:Hp}{s:Shared}{R:It->Hp->Prop}{E:Value->Shared->Prop}{lo hi:Int}{t u v:Tok}{tk:Nat}(I:Inv X pins σ H s)(h1: -(2 ^ 62)<=lo)(h2:lo<2 ^ 62)(h3: -(2 ^ 62)<=hi)(h4:hi<2 ^ 62)
  (q:R (dy lo (hi - lo).toNat) H):wpAny (model X.prog X.w) X.A (pyIter<|.ref s.heap.objs.size) (Gz X pins σ tg R) E {s with heap:=s.heap.push {cls:=.type "range",data:=.fields #[.int lo t,.int hi u,.int 1 v]},toks:=tk}:=by
 refine wpAny_pyIter_range (IsRange.new ..) (small_one h1 h2 h3 h4) ?_;have I1:Inv X pins σ H {s with heap:=s.heap.push {cls:=.type "range",data:=.fields #[.int lo t,.int hi u,.int 1 v]},toks:=tk}:=I.kept λb o e=>Heap.get?_push_of_some _ e
 refine⟨(s.heap.push {cls:=.type "range",data:=.fields #[.int lo t,.int hi u,.int 1 v]}).objs.size,[(s.heap.push {cls:=.type "range",data:=.fields #[.int lo t,.int hi u,.int 1 v]}).objs.size],_,_,H,rfl,
  I1.kept λb o e=>Heap.get?_push_of_some _ e,R8 _ lo (hi - lo).toNat,?_,λb hb=>?_,q⟩
 ·have e1:lo+((0:Nat):Int)*1=lo:=by lia
  have e2:(((hi - lo).toNat:Nat):Int) - ((0:Nat):Int)=Builtin.Range.rangeSize lo hi 1:=by rw[rangeSize_one];split<;>omega
  rw[e1,e2];exact Heap.get?_push_size _ rfl
 ·have e:b=(s.heap.push {cls:=.type "range",data:=.fields #[.int lo t,.int hi u,.int 1 v]}).objs.size:=by simpa using hb
  subst e;exact I1.Gy (zqR _)<|I1.aF.fresh<|zqR _
def GC(ta:TA):TI:=λσ H R=>ta σ H λvs H1=>∃j:Int,vs=[.int j]/\ -(2 ^ 62)<=j/\j<2 ^ 62/\R (dy 0 j.toNat) H1
def GD(ta:TA):TI:=λσ H R=>ta σ H λvs H1=>∃i j:Int,vs=[.int i,.int j]/\(-(2 ^ 62)<=i/\i<2 ^ 62/\ -(2 ^ 62)<=j/\j<2 ^ 62)/\R (dy i (j - i).toNat) H1
theorem Sa{p pos:Pos}(hg:Gl X "range")(hm:X.mg "range"=none)(ha:PA X [a] ta)(hs:starEach [a] X.env=[(false,eval a X.env)]:=by rfl):PI X tg (.Call (.Name "range" p) [a] [] pos) (GC ta):=by
 intro pins s σ H R I h;refine Call_<|uK I hg hm boot_range<|PyProof.Rows.callWith_type1 (aK (ha pos pins s σ H _ I h) λus s1 ⟨vs,H1,I1,r1,q1⟩=>?_) hs rfl;obtain⟨j,e,q1,q2,q⟩:=q1;subst e;cases r1 with
 |cons r rr=>
  cases rr;obtain⟨t,rfl⟩:=r;exact call_range_1<|GB I1 (by lia) (by lia) q1 q2 (by lia)
theorem Sb{p pos:Pos}(hg:Gl X "range")(hm:X.mg "range"=none)(ha:PA X [a,b] ta)(hs:starEach [a,b] X.env=[(false,eval a X.env),(false,eval b X.env)]:=by rfl)(ko:starEach [b] X.env=[(false,eval b X.env)]:=by rfl):
  PI X tg (.Call (.Name "range" p) [a,b] [] pos) (GD ta):=by
 intro pins s σ H R I h;refine Call_<|uK I hg hm boot_range<|PyProof.Rows.callWith_type1 (aK (ha pos pins s σ H _ I h) λus s1 ⟨vs,H1,I1,r1,q1⟩=>?_) (by lia) (ko▸rfl)
 obtain⟨i,j,e,⟨q1,q2,q3,q4⟩,q⟩:=q1;subst e;cases r1 with
 |cons r rr=>
  cases rr with
  |cons r' rr=>
   cases rr;obtain⟨t,rfl⟩:=r;obtain⟨t',rfl⟩:=r';exact call_range_2<|GB I1 q1 q2 q3 q4 q
def xY(wi:TI)(g:TG)(tb:TS):TS:=λD σ H=>wi σ H λJ H1=>∃W:Nat->Nat->St->Hp->Prop,(∃m,W 0 m σ H1)/\∀i m σ H,W i m σ H->
 (J.stop i H/\D.nx σ H)\/(J.go i H/\∃N:St->Hp->Prop,(∀σ' H',N σ' H'->∃m',m'<m/\W (i+1) m' σ' H')/\∀x H',J.fM i H x H'->g x σ H' λσ2 H2=>tb {D with nx:=N,ct:=N,bk:=D.nx} σ2 H2)
def sj(fp:List Addr)(h:Heap):List (Addr×Obj):=fp.filterMap λb=>(h.get? b).map λo=>(b,o)
theorem xZ{h:Heap}{b:Addr}{o:Obj}(hb:b∈fp)(e:h.get? b=some o):(b,o)∈sj fp h:=zbM.mpr ⟨b,hb,e▸rfl⟩
theorem Se{h:Heap}{p:Addr×Obj}(hp:p∈sj fp h):p.1∈fp/\h.get? p.1=some p.2:=by
 obtain⟨b,hb,e⟩:=zbM.mp hp;cases q:h.get? b with
 |none=>rw[q] at e;cases e
 |some o=>
  rw[q] at e;have e':=zap e;subst e';exact⟨hb,q⟩
theorem Inv.pinned{σ:St}{H:Hp}{s:Shared}{fp:List Addr}(I:Inv X pins σ H s)(hf:∀b∈fp,jJ X pins H b)(ho:∀b∈fp,∃o,s.heap.get? b=some o/\∀v,o.data≠ .cell v):Inv X (pins++sj fp s.heap) σ H s:=
 I.r_ λp hp=>(zab.mp hp).elim (λz=>I.pin p<|zax _ z) λz=>by
  obtain⟨hb,e⟩:=Se z;obtain⟨f0,f1,f2,_⟩:=hf p.1 hb;obtain⟨o,e',d⟩:=ho p.1 hb;rw[e] at e';cases e';exact⟨e,f0,f1,f2,d⟩
theorem Inv.Bo{σ:St}{H:Hp}{s:Shared}(I:Inv X (pins++pl) σ H s):Inv X pins σ H s:=I.r_ λp hp=>I.pin p (zax _<|zaR _ hp)
theorem GF{wi:TI}{g:TG}{tb:TS}{pos:Pos}(hp:PassesOwn (model X.prog X.w) X.A X.env X.xe)(hc:X.calm=true)(hi:PI X tg iter wi)(hg:PG X tg g)(hb:eE X body tb)
  (hs:∀x,foldedSetIterable iter X.env x=pure x:=by intro _;rfl):PS X (.For tg iter body [] pos) (xY wi g tb):=by
 intro pins s σ H D I h;refine wpAny_For (aK (hi pins s σ H _ I h) λv s1 h1=>aK h1 λpZ s2 h2=>?_) hs;obtain⟨it,fp,tn,J,H2,e,I2,T,uL,f2,W,⟨m0,w0⟩,turn⟩:=h2;subst e;have p3:∀{H':Hp},(∀b∈fp,H' b=none)->∀b∈fp,jJ X pins H' b:=λhn b hb=>⟨hn b hb,(f2 b hb).2⟩;refine codeAny_forLoop_any (λn s'=>∃i σ' H',Inv X pins σ' H' s'/\tn i s'.heap/\(∀b∈fp,H' b=none)/\W i n σ' H') ?_ m0 ⟨0,σ,H2,I2,uL,λb hb=>(f2 b hb).1,w0⟩;rintro n s3 ⟨i,σ3,H3,I3,GG,GH,w3⟩;rcases turn i n σ3 H3 w3 with⟨stop,qn⟩|⟨go,N,hN,step⟩
 ·refine wpAny_passesOwn hp (aK (T.done X rfl rfl rfl hc i pins s3 σ3 H3 X.xe I3 (p3 GH) GG stop) λr s4 ⟨hr,I4⟩=>?_);subst hr;exact wpAny_execs_nil ⟨σ3,H3,I4,qn⟩
 ·refine wpAny_passesOwn hp (aK (T.item X rfl rfl rfl hc i pins s3 σ3 H3 X.xe I3 (p3 GH) GG go) λr s4 ⟨u,hr,h4⟩=>?_);subst hr;refine wpAny_passesOwn hp<|aK h4 λ_ s5 ⟨x,H5,I5,r5,y5,p9,Bp⟩=>wpAny_passesOwn hp<|aK (hg _ s5 σ3 H5 x u _ (I5.pinned (p3 Bp) (T.obj _ _ p9)) r5<|step x H5 y5) λ_ s6 ⟨σ6,H6,I6,q6⟩=>wpAny_passesOwn hp<|aK (hb _ s6 σ6 H6 _ I6 q6) λf s7 q7=>?_;have again:∀{σ7:St}{H7:Hp},Inv X (pins++sj fp s5.heap) σ7 H7 s7->N σ7 H7->∃m,m<n/\∃i σ' H',Inv X pins σ' H' s7/\tn i s7.heap/\(∀b∈fp,H' b=none)/\W i m σ' H':=λ{σ7 H7} I7 n7=>by
   obtain⟨m',hm,w7⟩:=hN σ7 H7 n7;refine⟨m',hm,i+1,σ7,H7,I7.Bo,T.keep _ _ _ p9 λb hb o e=>(I7.pin (b,o)<|zax _<|zax _<|xZ hb e).1,λb hb=>?_,w7⟩;obtain⟨o,e,d⟩:=T.obj _ _ p9 b hb;exact(I7.pin (b,o)<|zax _<|zax _<|xZ hb e).2.1
  cases f with
  |next=>obtain⟨σ7,H7,I7,n7⟩:=q7;exact again I7 n7
  |cont=>obtain⟨σ7,H7,I7,n7⟩:=q7;exact again I7 n7
  |brk=>obtain⟨σ7,H7,I7,q7⟩:=q7;exact⟨σ7,H7,I7.Bo,q7⟩
  |ret v=>obtain⟨x7,σ7,H7,I7,r7,q7⟩:=q7;exact⟨x7,σ7,H7,I7.Bo,r7,q7⟩
end
theorem iR{K:Frag}{a:Addr}{xs:List V}{g:TG}{tb:TS}{D:Ends}{σ:St}{H:Hp}(Pv:Nat->St->Hp->Prop)(h0:Pv 0 σ H)(hl:∀i σ H,i<=xs.length->Pv i σ H->aB K H a xs)
  (hs:∀i x σ H,xs[i]?=some x->Pv i σ H->g x σ H λσ2 H2=>tb {D with nx:=Pv (i+1),ct:=Pv (i+1),bk:=D.nx} σ2 H2) (hd:∀σ H,Pv xs.length σ H->D.nx σ H):
  ∃W:Nat->Nat->St->Hp->Prop,(∃m,W 0 m σ H)/\∀i m σ H,W i m σ H->
   ((fD K a).stop i H/\D.nx σ H)\/((fD K a).go i H/\∃N:St->Hp->Prop,(∀σ' H',N σ' H'->∃m',m'<m/\W (i+1) m' σ' H')/\∀x H',(fD K a).fM i H x H'->g x σ H' λσ2 H2=>tb {D with nx:=N,ct:=N,bk:=D.nx} σ2 H2):=by
 refine⟨λi m σ H=>m=xs.length - i/\i<=xs.length/\Pv i σ H,⟨xs.length,rfl,zqZ _,h0⟩,?_⟩
 rintro i m σ H ⟨rfl,hi,p⟩;have q:=hl i σ H hi p;by_cases bE:i<xs.length
 ·refine .inr ⟨⟨xs,xs[i],q,by simp⟩,Pv<|i+1,λσ' H' p'=>⟨xs.length - (i+1),by lia,rfl,bE,p'⟩,λx H' y=>?_⟩
  obtain⟨e,y⟩:=y;subst e;exact hs i x σ _ (y xs q) p
 ·have e:i=xs.length:=by lia
  subst e;exact .inl ⟨⟨xs,q,zqR _⟩,hd σ H p⟩
theorem Bq{lo:Int}{n:Nat}{g:TG}{tb:TS}{D:Ends}{σ:St}{H:Hp}(Pv:Nat->St->Hp->Prop)(h0:Pv 0 σ H)
  (hs:∀i σ H,i<n->Pv i σ H->g (.int<|lo+i) σ H λσ2 H2=>tb {D with nx:=Pv (i+1),ct:=Pv (i+1),bk:=D.nx} σ2 H2) (hd:∀σ H,Pv n σ H->D.nx σ H):
  ∃W:Nat->Nat->St->Hp->Prop,(∃m,W 0 m σ H)/\∀i m σ H,W i m σ H->
   ((dy lo n).stop i H/\D.nx σ H)\/((dy lo n).go i H/\∃N:St->Hp->Prop,(∀σ' H',N σ' H'->∃m',m'<m/\W (i+1) m' σ' H')/\∀x H',(dy lo n).fM i H x H'->g x σ H' λσ2 H2=>tb {D with nx:=N,ct:=N,bk:=D.nx} σ2 H2):=by
 refine⟨λi m σ H=>m=n - i/\i<=n/\Pv i σ H,⟨n,rfl,zqZ _,h0⟩,?_⟩
 rintro i m σ H ⟨rfl,hi,p⟩;by_cases bE:i<n
 ·refine .inr ⟨bE,Pv<|i+1,λσ' H' p'=>⟨n - (i+1),by lia,rfl,bE,p'⟩,λx H' y=>?_⟩
  obtain⟨e,y⟩:=y;subst e y;exact hs i σ _ bE p
 ·have e:i=n:=by lia
  subst e;exact .inl ⟨zqR _,hd σ H p⟩
abbrev R2:=V->V->Hp->VK->Prop
def bA(X:Cx)(f:Value->Value->Sem Value)(r:R2):Prop:=
 ∀(pins:List (Addr×Obj)) (s:Shared) (σ:St) (H:Hp) (x y:V) (v u:Value) (Q:VK),Inv X pins σ H s->RelV x v->RelV y u->r x y H Q->
  wpAny (model X.prog X.w) X.A (f v u) (EP X pins σ Q) X.xe s
def x3(X:Cx)(f:Value->Sem Value)(r:V->Hp->VK->Prop):Prop:=
 ∀(pins:List (Addr×Obj)) (s:Shared) (σ:St) (H:Hp) (x:V) (v:Value) (Q:VK),Inv X pins σ H s->RelV x v->r x H Q->
  wpAny (model X.prog X.w) X.A (f v) (EP X pins σ Q) X.xe s
def dZ(X:Cx)(f:Value)(r:List V->Hp->VK->Prop):Prop:=
 ∀(pins:List (Addr×Obj)) (s:Shared) (σ:St) (H:Hp) (xs:List V) (us:List Value) (Q:VK),Inv X pins σ H s->Vals xs us->r xs H Q->
  wpAny (model X.prog X.w) X.A (call f us) (EP X pins σ Q) X.xe s
def Sf(X:Cx)(r:V->Hp->(Bool->Hp->Prop)->Prop):Prop:=
 ∀(pins:List (Addr×Obj)) (s:Shared) (σ:St) (H:Hp) (x:V) (v:Value) (Q:Bool->Hp->Prop),Inv X pins σ H s->RelV x v->r x H Q->
  wpAny (model X.prog X.w) X.A (truthy v) (TP X pins σ Q) X.xe s
def fO(r:R2)(ta tb:TE):TE:=λσ H Q=>ta σ H λx H1=>tb σ H1 λy H2=>r x y H2 Q
def GI(r:V->Hp->VK->Prop)(ta:TE):TE:=λσ H Q=>ta σ H λx H1=>r x H1 Q
def rI(C:Int->Int->Prop)(g:Int->Int->V):R2:=λx y H Q=>∃i j,x=.int i/\y=.int j/\C i j/\Q (g i j) H
def mH(g:Int->Int->V):R2:=λx y H Q=>∃i j,x=.int i/\y=.int j/\Q (g i j) H
def rU(g:Int->V):V->Hp->VK->Prop:=λx H Q=>∃i,x=.int i/\Q (g i) H
section
variable {X:Cx}{a b c:Expr}{ta tb tc:TE}{pos:Pos}
theorem Br(ha:PE X a ta)(hb:PE X b tb){pins:List (Addr×Obj)}{s:Shared}{σ:St}{H:Hp}{R:V->V->Hp->Prop}(I:Inv X pins σ H s)
  (h:ta σ H λx H1=>tb σ H1 λy H2=>R x y H2) {Q:Value->Shared->Prop}{f:Value->Value->Sem Value}
  (hf:∀v u s2 x y H2,Inv X pins σ H2 s2->RelV x v->RelV y u->R x y H2->wpAny (model X.prog X.w) X.A (f v u) Q X.xe s2):
  wpAny (model X.prog X.w) X.A (eval a X.env) (λv s₁=>wpAny (model X.prog X.w) X.A (eval b X.env) (λu s₂=>wpAny (model X.prog X.w) X.A (f v u) Q X.xe s₂) X.xe s₁) X.xe s:=by
 exact aK (ha pins s σ H _ I h) λv s1 ⟨x,H1,I1,r1,q1⟩=>aK (hb pins s1 σ H1 _ I1 q1) λu s2 ⟨y,H2,I2,r2,q2⟩=>hf v u s2 x y H2 I2 r1 r2 q2
theorem Sh{r:R2}(ho:bA X (binaryOp op) r)(ha:PE X a ta)(hb:PE X b tb):PE X (.BinOp a op b pos) (fO r ta tb):=by
 intro pins s σ H Q I h;exact wpAny_BinOp<|Br ha hb I h λv u s2 x y H2 I2 rx ry q=>ho pins s2 σ H2 x y v u Q I2 rx ry q
theorem Sj{r:V->Hp->VK->Prop}(ho:x3 X (unaryOp op) r)(ha:PE X a ta):PE X (.UnaryOp op a pos) (GI r ta):=by
 intro pins s σ H Q I h;exact UnaryOp_<|aK (ha pins s σ H _ I h) λv s1 ⟨x,H1,I1,r1,q1⟩=>ho pins s1 σ H1 x v Q I1 r1 q1
theorem x9{C:Int->Int->Prop}{g:Int->Int->Int}
  (rule:∀(i j:Int) (t u:Tok) (s:Shared) (Q:Value->Shared->Prop) (E:Value->Shared->Prop),C i j->Q (.int (g i j) s.toks) {s with toks:=s.toks+1}->wpAny (model X.prog X.w) X.A (f (.int i t)<|.int j u) Q E s):
  bA X f (rI C λi j=>.int (g i j)):=by
 intro pins s σ H x y v u Q I rx ry h;obtain⟨i,j,rfl,rfl,hc,q⟩:=h;obtain⟨t,rfl⟩:=rx;obtain⟨t',rfl⟩:=ry;exact rule i j t t' s _ _ hc ⟨.int<|g i j,H,I.tok _,⟨_,rfl⟩,q⟩
theorem GJ{g:Int->Int->Int}
  (rule:∀(i j:Int) (t u:Tok) (s:Shared) (Q:Value->Shared->Prop) (E:Value->Shared->Prop),Q (.int (g i j) s.toks) {s with toks:=s.toks+1}->wpAny (model X.prog X.w) X.A (f (.int i t)<|.int j u) Q E s):
  bA X f (mH λi j=>.int (g i j)):=by
 intro pins s σ H x y v u Q I rx ry h;obtain⟨i,j,rfl,rfl,q⟩:=h;obtain⟨t,rfl⟩:=rx;obtain⟨t',rfl⟩:=ry;exact rule i j t t' s _ _ ⟨.int<|g i j,H,I.tok _,⟨_,rfl⟩,q⟩
theorem x_{g:Int->Int->Bool}
  (rule:∀(i j:Int) (t u:Tok) (s:Shared) (Q:Value->Shared->Prop) (E:Value->Shared->Prop),Q (.bool<|g i j) s->wpAny (model X.prog X.w) X.A (f (.int i t)<|.int j u) Q E s):
  bA X f (mH λi j=>.bl (g i j)):=by
 intro pins s σ H x y v u Q I rx ry h;obtain⟨i,j,rfl,rfl,q⟩:=h;obtain⟨t,rfl⟩:=rx;obtain⟨t',rfl⟩:=ry;exact rule i j t t' s _ _ ⟨.bl<|g i j,H,I,rfl,q⟩
def Bt(i j:Int):Prop:=0<j/\j<1073741824
def GK(i j:Int):Prop:=0<=j/\j<=1000000/\i.natAbs<2 ^ 64
def uN(i j:Int):Prop:=(-(2 ^ 64) <i/\i<2 ^ 64)\/(-(2 ^ 64) <j/\j<2 ^ 64)
theorem uN.ok(h:uN i j):IntMulOk i j:=by
 rcases h with⟨h1,h2⟩|⟨h1,h2⟩
 ·exact .of_left (intBits_le_64 h1 h2)
 ·exact .of_right (intBits_le_64 h1 h2)
theorem Sk:bA X (binaryOp .Add) (mH λi j=>.int (i+j)):=GJ λ_ _ _ _ _ _ _ q=>add_int q
theorem Sl:bA X (binaryOp .Sub) (mH λi j=>.int (i - j)):=GJ λ_ _ _ _ _ _ _ q=>sub_int q
theorem Sm:bA X (binaryOp .Mult) (rI uN λi j=>.int (i*j)):=x9 λ_ _ _ _ _ _ _ hc q=>mul_int q hc.ok
theorem Sn:bA X (binaryOp .FloorDiv) (rI Bt λi j=>.int (i / j)):=x9 λi j _ _ _ _ _ hc q=>by
 have h1:=hc.1;have h2:=hc.2;exact floordiv_int (by omega) (by rw[Int.fdiv_eq_ediv_of_nonneg i (by omega)];exact q)<|.inl<|PyProof.noPylong_small (by omega)
theorem So:bA X (binaryOp .Mod) (rI (λ_ j=>0<j) λi j=>.int (i % j)):=x9 λi j _ _ _ _ _ hc q=>by
 exact mod_int' (by lia) (by rw[Int.fmod_eq_emod_of_nonneg i (by lia)];exact q)
theorem Sq:bA X (binaryOp .Pow) (rI GK λi j=>.int (i ^ j.toNat)):=x9 λ_ _ _ _ _ _ _ hc q=>pow_int_small hc.1 hc.2.1 hc.2.2 q
theorem Sr{g:Int->Int}
  (rule:∀(i:Int) (t:Tok) (s:Shared) (Q:Value->Shared->Prop) (E:Value->Shared->Prop),Q (.int (g i) s.toks) {s with toks:=s.toks+1}->wpAny (model X.prog X.w) X.A (f<|.int i t) Q E s):
  x3 X f (rU λi=>.int (g i)):=by
 intro pins s σ H x v Q I rx h;obtain⟨i,rfl,q⟩:=h;obtain⟨t,rfl⟩:=rx;exact rule i t s _ _ ⟨.int<|g i,H,I.tok _,⟨_,rfl⟩,q⟩
theorem Ss:x3 X (unaryOp .USub) (rU λi=>.int (-i)):=Sr λ_ _ _ _ _ q=>neg_int q
end
def lI:V->V->Bool
 |.au,.au=>true|.au,.int _=>true|.int _,.au=>true|.au,.bl _=>true|.bl _,.au=>true|.au,.str _=>true|.str _,.au=>true
 |.int _,.int _=>true|.bl _,.bl _=>true|.str _,.str _=>true|.gK _,.gK _=>true
 |.int _,.str _=>true|.str _,.int _=>true|.bl _,.str _=>true|.str _,.bl _=>true
 |_,_=>false
def Su:R2:=λx y H Q=>lI x y=true/\Q (.bl<|decide<|x=y) H
def Sv:R2:=λx y H Q=>lI x y=true/\Q (.bl<|!decide (x=y)) H
theorem GL:decide (V.int i=V.int j)=(i==j):=by lia
theorem GN:decide (V.bl i=V.bl j)=(i==j):=by lia
theorem h_:decide (V.str i=V.str j)=(i==j):=by lia
theorem GO:decide (V.gK i=V.gK j)=(i.toList==j.toList):=by
 rw[zbx];cases i;cases j
 simp
section
variable {X:Cx}{a b c:Expr}{ta tb tc:TE}{pos:Pos}
theorem cB{σ:St}{H:Hp}{s:Shared}{Q:VK}{k k':Bool}(I:Inv X pins σ H s)(q:Q (.bl k) H)(e:k=k'):EP X pins σ Q (.bool k') s:=by
 subst e;exact⟨.bl k,H,I,rfl,q⟩
theorem Sw:bA X (compareOp .Eq) Su:=by
 intro pins s σ H x y v u Q I rx ry h;obtain⟨hs,q⟩:=h;cases x with
 |au=>
  cases rx;cases y with
  |au=>cases ry;exact PySem.EqNone.eq_none_none (cB I q (rfl))
  |bl j=>cases ry;exact PySem.EqNone.eq_none_bool (cB I q (rfl))
  |int j=>obtain⟨t',rfl⟩:=ry;exact PySem.EqNone.eq_none_int (cB I q (rfl))
  |str j=>obtain⟨t',rfl⟩:=ry;exact PySem.EqNone.eq_none_str (cB I q (rfl))
  |_=>exact absurd (show false=true from hs) zas
 |bl i=>
  cases rx;cases y with
  |au=>cases ry;exact PySem.EqNone.eq_bool_none (cB I q (rfl))
  |bl j=>cases ry;exact eq_bool (cB I q GN)
  |str j=>obtain⟨t',rfl⟩:=ry;exact PySem.EqMixed.eq_bool_str (cB I q (rfl))
  |_=>exact absurd (show false=true from hs) zas
 |int i=>
  obtain⟨t,rfl⟩:=rx;cases y with
  |au=>cases ry;exact PySem.EqNone.eq_int_none (cB I q (rfl))
  |int j=>obtain⟨t',rfl⟩:=ry;exact eq_int (cB I q GL)
  |str j=>obtain⟨t',rfl⟩:=ry;exact PySem.EqMixed.eq_int_str (cB I q (rfl))
  |_=>exact absurd (show false=true from hs) zas
 |str i=>
  obtain⟨t,rfl⟩:=rx;cases y with
  |au=>cases ry;exact PySem.EqNone.eq_str_none (cB I q (rfl))
  |bl j=>cases ry;exact PySem.EqMixed.eq_str_bool (cB I q (rfl))
  |int j=>obtain⟨t',rfl⟩:=ry;exact PySem.EqMixed.eq_str_int (cB I q (rfl))
  |str j=>obtain⟨t',rfl⟩:=ry;exact eq_str (cB I q h_)
  |_=>exact absurd (show false=true from hs) zas
 |gK i=>
  obtain⟨t,rfl⟩:=rx;cases y with
  |gK j=>obtain⟨t',rfl⟩:=ry;exact PySem.W.eq_bytes (cB I q GO)
  |_=>exact absurd (show false=true from hs) zas
 |_=>cases y<;>exact absurd (show false=true from hs) zas
theorem Sx:bA X (compareOp .NotEq) Sv:=by
 intro pins s σ H x y v u Q I rx ry h;obtain⟨hs,q⟩:=h;cases x with
 |au=>
  cases rx;cases y with
  |au=>cases ry;exact PySem.EqNone.ne_none_none (cB I q (rfl))
  |bl j=>cases ry;exact PySem.EqNone.ne_none_bool (cB I q (rfl))
  |int j=>obtain⟨t',rfl⟩:=ry;exact PySem.EqNone.ne_none_int (cB I q (rfl))
  |str j=>obtain⟨t',rfl⟩:=ry;exact PySem.EqNone.ne_none_str (cB I q (rfl))
  |_=>exact absurd (show false=true from hs) zas
 |bl i=>
  cases rx;cases y with
  |au=>cases ry;exact PySem.EqNone.ne_bool_none (cB I q (rfl))
  |bl j=>cases ry;exact ne_bool (cB I q<|congrArg not GN)
  |str j=>obtain⟨t',rfl⟩:=ry;exact PySem.EqMixed.ne_bool_str (cB I q (rfl))
  |_=>exact absurd (show false=true from hs) zas
 |int i=>
  obtain⟨t,rfl⟩:=rx;cases y with
  |au=>cases ry;exact PySem.EqNone.ne_int_none (cB I q (rfl))
  |int j=>obtain⟨t',rfl⟩:=ry;exact ne_int (cB I q<|congrArg not GL)
  |str j=>obtain⟨t',rfl⟩:=ry;exact PySem.EqMixed.ne_int_str (cB I q (rfl))
  |_=>exact absurd (show false=true from hs) zas
 |str i=>
  obtain⟨t,rfl⟩:=rx;cases y with
  |au=>cases ry;exact PySem.EqNone.ne_str_none (cB I q (rfl))
  |bl j=>cases ry;exact PySem.EqMixed.ne_str_bool (cB I q (rfl))
  |int j=>obtain⟨t',rfl⟩:=ry;exact PySem.EqMixed.ne_str_int (cB I q (rfl))
  |str j=>obtain⟨t',rfl⟩:=ry;exact ne_str (cB I q<|congrArg not h_)
  |_=>exact absurd (show false=true from hs) zas
 |gK i=>
  obtain⟨t,rfl⟩:=rx;cases y with
  |gK j=>obtain⟨t',rfl⟩:=ry;exact PySem.W.ne_bytes (cB I q<|congrArg not GO)
  |_=>exact absurd (show false=true from hs) zas
 |_=>cases y<;>exact absurd (show false=true from hs) zas
theorem Sy:bA X (compareOp .Lt) (mH λi j=>.bl (decide<|i<j)):=x_ λ_ _ _ _ _ _ _ q=>lt_int q
theorem Sz:bA X (compareOp .LtE) (mH λi j=>.bl (decide<|i<=j)):=x_ λ_ _ _ _ _ _ _ q=>le_int q
theorem SA:bA X (compareOp .Gt) (mH λi j=>.bl (decide<|j<i)):=x_ λ_ _ _ _ _ _ _ q=>gt_int q
theorem SD:bA X (compareOp .GtE) (mH λi j=>.bl (decide<|j<=i)):=x_ λ_ _ _ _ _ _ _ q=>ge_int q
theorem SE:bA X (compareOp .In) (λx y H Q=>∃i j,x=.str i/\y=.str j/\Q (.bl<|!(Builtin.Str.occurrences j i 0 j.length 1).isEmpty) H):=by
 intro pins s σ H x y v u Q I rx ry h;obtain⟨i,j,rfl,rfl,q⟩:=h;obtain⟨t,rfl⟩:=rx;obtain⟨t',rfl⟩:=ry;exact in_str<|cB I q rfl
theorem SF:bA X (compareOp .Is) (λx y H Q=>y=.au/\Q (.bl<|decide<|x=.au) H):=by
 intro pins s σ H x y v u Q I rx ry h;obtain⟨rfl,q⟩:=h;cases ry;refine is_none_gen<|cB I q ?_;cases x<;>first
  | (cases rx;rfl)
  | (obtain⟨t,rfl⟩:=rx;rfl)
theorem SH:bA X (compareOp .IsNot) (λx y H Q=>y=.au/\Q (.bl<|!decide (x=.au)) H):=by
 intro pins s σ H x y v u Q I rx ry h;obtain⟨rfl,q⟩:=h;cases ry;refine isnot_none_gen<|cB I q ?_;cases x<;>first
  | (cases rx;rfl)
  | (obtain⟨t,rfl⟩:=rx;rfl)
theorem SI:bA X (compareOp .NotIn) (λx y H Q=>∃i j,x=.str i/\y=.str j/\Q (.bl<|!(!(Builtin.Str.occurrences j i 0 j.length 1).isEmpty)) H):=by
 intro pins s σ H x y v u Q I rx ry h;obtain⟨i,j,rfl,rfl,q⟩:=h;obtain⟨t,rfl⟩:=rx;obtain⟨t',rfl⟩:=ry;exact notIn_str<|cB I q rfl
theorem bA.or{r r':R2}(h:bA X f r)(h':bA X f r'):bA X f (λx y H Q=>r x y H Q\/r' x y H Q):=by
 intro pins s σ H x y v u Q I rx ry q;rcases q with q|q
 ·exact h pins s σ H x y v u Q I rx ry q
 ·exact h' pins s σ H x y v u Q I rx ry q
theorem SJ{r:R2}(ho:bA X (compareOp op) r)(ha:PE X a ta)(hb:PE X b tb)(hm:behindInMarks op b=false):PE X (.Compare a [op] [b] pos) (fO r ta tb):=by
 intro pins s σ H Q I h;exact wpAny_Compare1 (Br ha hb I h λv u s2 x y H2 I2 rx ry q=>ho pins s2 σ H2 x y v u Q I2 rx ry q) hm
def n_(t:TE):TT:=λσ H Q=>t σ H λx H'=>∃k,x=.bl k/\Q k H'
theorem SK(ho:bA X (compareOp op) r)(ha:PE X a ta)(hb:PE X b tb)(hm:behindInMarks op b=false):PT X (.Compare a [op] [b] pos) (n_<|fO r ta tb):=by
 intro pins s σ H Q I h;refine wpAny_isTrue_Compare1 (aK (ha pins s σ H _ I h) λv s1 ⟨x,H1,I1,r1,q1⟩=>aK (hb pins s1 σ H1 _ I1 q1) λu s2 ⟨y,H2,I2,r2,q2⟩=>
  aK (ho pins s2 σ H2 x y v u _ I2 r1 r2 q2) λc s3 ⟨z,H3,I3,r3,k,e,q3⟩=>?_) hm
 subst e;cases r3;exact wpAny_truthy_bool ⟨H3,I3,q3⟩
def sq(r r':R2)(ta tb tc:TE):TE:=λσ H Q=>ta σ H λx H1=>tb σ H1 λy H2=>r x y H2 λz H3=>∃k,z=.bl k/\
 (if k=true then tc σ H3 λw' H4=>r' y w' H4 Q else Q (.bl false) H3)
theorem SM{r r':R2}(ho:bA X (compareOp op) r)(dY:bA X (compareOp cM) r')(ha:PE X a ta)(hb:PE X b tb)(hc:PE X c tc)
  (hm:lastMarks [op,cM] [b,c]=false:=by with_unfolding_all rfl):PE X (.Compare a [op,cM] [b,c] pos) (sq r r' ta tb tc):=by
 intro pins s σ H Q I h;refine Compare_chain (aK (ha pins s σ H _ I h) λv s1 ⟨x,H1,I1,r1,q1⟩=>chain_link (aK (hb pins s1 σ H1 _ I1 q1) λu s2 ⟨y,H2,I2,r2,q2⟩=>
  aK (ho pins s2 σ H2 x y v u _ I2 r1 r2 q2) λd s3 ⟨z,H3,I3,r3,k,e,q3⟩=>?_)) hm
 subst e;cases r3;refine wpAny_truthy_bool ?_;cases k with
 |false=>exact ite_ff ⟨.bl false,H3,I3,rfl,q3⟩
 |true=>exact ite_tt (chain_last<|aK (hc pins s3 σ H3 _ I3 q3) λw' s4 ⟨z',H4,I4,r4,q4⟩=>dY pins s4 σ H4 y z' u w' Q I4 r2 r4 q4)
theorem SN{r r':R2}(ho:bA X (compareOp op) r)(dY:bA X (compareOp cM) r')(ha:PE X a ta)(hb:PE X b tb)(hc:PE X c tc)
  (hm:lastMarks [op,cM] [b,c]=false:=by with_unfolding_all rfl):PT X (.Compare a [op,cM] [b,c] pos) (n_<|sq r r' ta tb tc):=by
 intro pins s σ H Q I h;refine isTrue_chain (aK (ha pins s σ H _ I h) λv s1 ⟨x,H1,I1,r1,q1⟩=>test_link (aK (hb pins s1 σ H1 _ I1 q1) λu s2 ⟨y,H2,I2,r2,q2⟩=>
  aK (ho pins s2 σ H2 x y v u _ I2 r1 r2 q2) λd s3 ⟨z,H3,I3,r3,k,e,q3⟩=>?_)) hm
 subst e;cases r3;refine wpAny_truthy_bool ?_;cases k with
 |false=>
  obtain⟨k',e',q'⟩:=q3;cases e';exact ite_ff ⟨H3,I3,q'⟩
 |true=>
  refine ite_tt<|test_last<|aK (hc pins s3 σ H3 _ I3 q3) λw' s4 ⟨z',H4,I4,r4,q4⟩=>aK (dY pins s4 σ H4 y z' u w' _ I4 r2 r4 q4) λd' s5 ⟨z2,H5,I5,r5,k2,e2,q5⟩=>?_;subst e2;cases r5;exact wpAny_truthy_bool ⟨H5,I5,q5⟩
def GP(K:Frag)(x:V)(H:Hp)(k:Bool):Prop:=
 match x with
 |.au=>k=false
 |.bl b=>k=b
 |.int i=>k=(i !=0)
 |.str y=>y.length<=sizeLine/\k=((y.length:Int) !=0)
 |.gK y=>y.size<=sizeLine/\k=((y.size:Int) !=0)
 |.ref p=>(∃xs,aB K H p xs/\k= !xs.isEmpty)\/(∃xs,aL K H p xs/\k= !xs.isEmpty)\/∃kvs,H p=some (.dK kvs)/\k= !kvs.isEmpty
 |_=>False
theorem SO{kvs:List (κ×V)}{vs:List (κ×Value)}(r:KV kvs vs):(!vs.isEmpty)= !kvs.isEmpty:=by
 cases r<;>rfl
theorem GQ{ao:List Value}(r:Vals xs ao):(!ao.toArray.isEmpty)= !xs.isEmpty:=by
 cases r<;>simp
theorem p_:(sizeLine:Nat) <2 ^ 63:=by decide
theorem GR:Sf X (λx H Q=>∃k,GP X.K x H k/\Q k H):=by
 intro pins s σ H x v Q I rx h;obtain⟨k,e,q⟩:=h;have hs:=sizeLine_eq;cases x with
 |au=>
  cases rx;have e':k=false:=e;subst e';exact truthy_none ⟨H,I,q⟩
 |bl b=>
  cases rx;have e':k=b:=e;subst e';exact wpAny_truthy_bool ⟨H,I,q⟩
 |int i=>
  obtain⟨t,rfl⟩:=rx;have e':=e;subst e';exact PySem.P.truthy_int ⟨H,I,q⟩
 |str y=>
  obtain⟨t,rfl⟩:=rx;obtain⟨hy,e'⟩:y.length<=sizeLine/\k=((y.length:Int) !=0):=e;subst e';exact PySem.P.truthy_str (by omega) ⟨H,I.tok _,q⟩
 |gK y=>
  obtain⟨t,rfl⟩:=rx;obtain⟨hy,e'⟩:y.size<=sizeLine/\k=((y.size:Int) !=0):=e;subst e';exact PySem.W.truthy_bytes (by omega) ⟨H,I.tok _,q⟩
 |ref p=>
  cases rx;have e':=e;rcases e' with⟨xs,hx,e'⟩|⟨xs,hx,e'⟩|⟨kvs,hx,e'⟩
  ·subst e';obtain⟨ao,r,pl,hz⟩:=I.list hx;have hlen:=r.length;exact wpAny_truthy_list pl.isList (by simp;omega) ⟨H,I.tok _,by rw[GQ r];exact q⟩
  ·subst e';obtain⟨ao,r,pl,hz⟩:=I.tuple hx;have hlen:=r.length;exact truthy_tuple pl (by simp only[zak];omega) ⟨H,I.tok _,by rw[GQ r];exact q⟩
  ·subst e';obtain⟨hz,hS,vs,r,m⟩:kvs.length<=sizeLine/\(p==sysModules)=false/\∃vs,KV kvs vs/\s.heap.DictOf (eO X.prog X.w) p vs:=I.aF p _ hx;have hlen:=Paired.length r;exact wpAny_truthy_dict hS m (by omega) ⟨H,I.tok _,by rw[SO r];exact q⟩
 |_=>exact(show False from e).elim
theorem SQ:bA X (binaryOp .Add) (λx y H Q=>∃i j,x=.str i/\y=.str j/\i.length+j.length<=sizeLine/\Q (.str<|i++j) H):=by
 intro pins s σ H x y v u Q I rx ry h;obtain⟨i,j,rfl,rfl,hz,q⟩:=h;obtain⟨t,rfl⟩:=rx;obtain⟨t',rfl⟩:=ry;exact add_str (λt' tk=>⟨.str<|i++j,H,I.tok _,⟨_,rfl⟩,q⟩) hz
theorem vals1{us:List Value}(r:Vals [x] us):∃u,us=[u]/\RelV x u:=by
 cases r with
 |cons r1 r2=>cases r2;exact⟨_,rfl,r1⟩
theorem vals2{us:List Value}(r:Vals [x,y] us):∃u w',us=[u,w']/\RelV x u/\RelV y w':=by
 cases r with
 |cons r1 r2=>
  cases r2 with
  |cons r3 r4=>cases r4;exact⟨_,_,rfl,r1,r3⟩
theorem SR(hc:X.calm=true):dZ X (.builtin "min") (λxs H Q=>∃i j,xs=[.int i,.int j]/\Q (.int (if j<i then j else i)) H):=by
 intro pins s σ H xs us Q I r h;obtain⟨i,j,rfl,q⟩:=h;obtain⟨u,w',rfl,⟨t,rfl⟩,⟨t',rfl⟩⟩:=vals2 r;refine min_two_ints (I.ok.hd hc) λh' tk k=>⟨_,H,I.kept k,?_,q⟩;by_cases hj:j<i
 ·rw[if_pos hj,if_pos hj];exact⟨_,rfl⟩
 ·rw[if_neg hj,if_neg hj];exact⟨_,rfl⟩
theorem SS:dZ X (.type "int") (λxs H Q=>(∃i,xs=[.int i]/\Q (.int i) H)\/∃k,xs=[.bl k]/\Q (.int (if k then 1 else 0)) H):=by
 intro pins s σ H xs us Q I r h;rcases h with⟨i,rfl,q⟩|⟨k,rfl,q⟩
 ·obtain⟨u,rfl,t,rfl⟩:=vals1 r;exact call_int_int ⟨.int i,H,I,⟨_,rfl⟩,q⟩
 ·obtain⟨u,rfl,r1⟩:=vals1 r;cases r1;exact call_int_bool ⟨.int (if k then 1 else 0),H,I.tok _,⟨_,rfl⟩,q⟩
def GS(K:Frag)(x:V)(H:Hp)(n:Nat):Prop:=
 match x with
 |.str y=>y.length<=sizeLine/\n=y.length
 |.gK y=>y.size<=sizeLine/\n=y.size
 |.ref p=>(∃xs,aB K H p xs/\n=xs.length)\/∃xs,aL K H p xs/\n=xs.length
 |_=>False
theorem SU:dZ X (.builtin "len") (λxs H Q=>∃x n,xs=[x]/\GS X.K x H n/\Q (.int n) H):=by
 intro pins s σ H xs us Q I r h;obtain⟨x,n,rfl,e,q⟩:=h;obtain⟨u,rfl,rx⟩:=vals1 r;have hs:=sizeLine_eq;cases x with
 |str y=>
  obtain⟨t,rfl⟩:=rx;obtain⟨hy,e'⟩:y.length<=sizeLine/\n=y.length:=e;subst e';exact len_str (by lia) ⟨.int _,H,I.tok _,⟨_,rfl⟩,q⟩
 |gK y=>
  obtain⟨t,rfl⟩:=rx;obtain⟨hy,e'⟩:y.size<=sizeLine/\n=y.size:=e;subst e';exact PySem.W.len_bytes (by lia) ⟨.int _,H,I.tok _,⟨_,rfl⟩,q⟩
 |ref p=>
  cases rx;have e':=e;rcases e' with⟨xs,hx,e'⟩|⟨xs,hx,e'⟩
  ·subst e';obtain⟨ao,r',pl,hz⟩:=I.list hx;have hlen:=r'.length;exact Calls.call_len_list pl.isList (by simp;omega) ⟨.int xs.length,H,I.tok _,⟨_,by simp only[zak];rw[hlen]⟩,q⟩
  ·subst e';obtain⟨ao,r',pl,hz⟩:=I.tuple hx;have hlen:=r'.length;exact len_tuple pl (by simp;omega) ⟨.int xs.length,H,I.tok _,⟨_,by simp only[zak];rw[hlen]⟩,q⟩
 |_=>exact(show False from e).elim
end
structure qd (h:Heap) (x dx C:Addr) (mA:Str->Option Value):Prop where
 obj:h.get? x=some (instObj C dx)
 ns:h.Ns1 dx mA
 ne:dx≠x
theorem SV{h:Heap}{dx:Addr}{mA:Str->Option Value}(n:h.Ns1 dx mA):∃od,h.get? dx=some od/\∀name,lookIn name od=some (mA name):=by
 obtain⟨o,es,ep,ho,hd,hk,_,hm⟩:=n;refine⟨o,ho,λname=>?_⟩;have e:=hm name;unfold nsFind findBy at e;rw[<-Array.find?_toList] at e;unfold lookIn;rw[hd]
 dsimp only
 split
 ·rename_i y q
  rw[q] at e;exact congrArg some e
 ·rename_i q
  rw[q] at e;have a:es.toList.any (·.refKey)=false:=by
   rw[List.any_eq_false];intro y hy;obtain⟨z,t,SW⟩:=hk y (Array.mem_toList_iff.mp hy)
   simp[DictEntry.refKey,SW]
  have a':¬es.toList.any (·.refKey)=true:=by lia
  rw[if_neg a'];exact congrArg some e
theorem qd.look{x dx C:Addr}{mA:Str->Option Value}(I:qd h x dx C mA):∃od,PySem.W.InstAt h x (instObj C dx) C (some od)/\∀name,lookIn name od=some (mA name):=
 let ⟨od,ho,hl⟩:=SV I.ns
 ⟨od,⟨I.obj,rfl,rfl,ho⟩,hl⟩
section
variable {prog:Program}{w:World}{A:Around}{E:Value->Shared->Prop}{s:Shared}{K:Frag}{x dx C f:Addr}{mA:Str->Option Value}{name:Str}{v:Value}
theorem get_map{Q:Value->Shared->Prop}(X:K.In s.heap)(I:qd s.heap x dx C mA)(hg:plainGet K C name=true)(hh:hasDictIn K C=true)
  (ha:PySem.W.findIn K (.ref C) name=some none) (hv:mA name=some v) (jh:handedIn v=true) (h:Q v {s with toks:=s.toks+1}):
  wpAny (model prog w) A (getAttr (.ref x) name expr) Q E s:=by
 obtain⟨od,J,hl⟩:=I.look;exact PySem.W.get_value X J (plainGet_of hg).1 (PySem.W.findObj_own hh ha rfl (by rw[hl,hv])) jh h
theorem SX{Q:Value×List Value->Shared->Prop}(X:K.In s.heap)(I:qd s.heap x dx C mA)(hg:plainGet K C name=true)
  (hf:PySem.W.findIn K (.ref C) name=some (some<|.ref f)) (ht:PySem.W.isFn K (.ref f)=true) (hv:mA name=none) (h:Q (.ref f,[.ref x]) s):
  wpAny (model prog w) A (getMethod (.ref x) name pl) Q E s:=by
 obtain⟨od,J,hl⟩:=I.look;exact PySem.W.method_fn X J (plainGet_of hg).1 (plainGet_of hg).2 hf (beq_iff_eq.mp ht) (by show(lookIn name od).map (·.isSome)=some false;rw[hl,hv];rfl) h
theorem SY(X:K.In s.heap)(I:qd s.heap x dx C mA)
  (hs:PySem.W.findIn K (.ref C) "__setattr__"=some (some<|.builtin "object.__setattr__")) (hp:plainOver K C=true) (ht:takerIn K C name=some none) (hh:hasDictIn K C=true)
  (hw:PySem.Within mA ns) (hsz:ns.length<=sizeLine)
  (h:∀h',qd h' x dx C (λy=>if y=name then some v else mA y)->Heap.SameBut dx s.heap h'->Q () {s with heap:=h',toks:=s.toks+2}):
  wpAny (model prog w) A (setAttr (.ref x) name v) Q E s:=by
 obtain⟨od,J,hl⟩:=I.look;refine PySem.W.set_plain X J hs<|PySem.W.osa_open X J hp ht λb=>?_
 obtain⟨cd,hc,lE⟩:=PySem.W.any_some hh;refine wpAny_bind<|wpAny_pure<|wpAny_bind<|wpAny_bind<|wpAny_loadPart I.obj<|wpAny_bind<|PySem.W.Looks.here (PySem.W.looks_clsIn X hc) ?_
 rw[lE];refine wpAny_pure<|wpAny_bind<|wpAny_pure<|wpAny_bind (wpAny_nsSet1 I.ns λh' jK ko=>?_)
 obtain⟨oD,esD,epD,S_,Ta,Tb⟩:=jK.count (PySem.Within.cons name v hw);refine wpAny_bind<|wpAny_lookBehind S_ (Ta▸pastItsLine_dict (zaq Tb (by rw[zaw];omega))) ?_
 exact wpAny_pure<|h _ ⟨(ko.2 _<|Ne.symm I.ne).trans I.obj,jK,I.ne⟩ ko
theorem Tc{vs:List Value}{kw:List (Str×Value)}(X:K.In s.heap)(hm:makesIn K C=true)
  (hi:PySem.W.findIn K (.ref C) "__init__"=some (some<|.ref f)) (hf:PySem.W.typeIn K (.ref f)=some (.type "function"))
  (h:codeAny (model prog w) (A.under (.builtin "type.__call__" ⟨.ref C::vs,kw⟩)) (.call (.ref f) ⟨.ref (s.heap.objs.size+1)::vs,kw⟩) (PySem.W.InitBack (s.heap.objs.size+1) R)
   {s with heap:=(s.heap.push emptyDict).push (instObj C s.heap.objs.size)}):
  codeAny (model prog w) A (.call (.ref C) ⟨vs,kw⟩) R s:=by
 obtain⟨hh,g,d,t,os⟩:=s;exact PySem.W.make_core (PySem.W.makes_of X hm) (PySem.W.looks_findIn X hi) (λself=>PySem.W.bind_fn X self hf) (.inl rfl) h
end
def aI(f:Str)(v:V):List (Str×V)->List (Str×V)
 |[]=>[(f,v)]
 |(g,x)::r=>if g=f then (g,v)::r else (g,x)::aI f v r
theorem GU(f g:Str)(v:V):∀fs:List (Str×V),(aI f v fs).lookup g=if g=f then some v else fs.lookup g
 |[]=>by
  show List.lookup g [(f,v)]=_;by_cases h:g=f
  ·have hb:=beq_iff_eq.mpr h
   simp only[List.lookup,hb,if_pos h]
  ·have hb:=beq_eq_false_iff_ne.mpr h
   simp only[List.lookup,hb,if_neg h]
 |(k,x)::r=>by
  rw[show aI f v ((k,x)::r)=(if k=f then (k,v)::r else (k,x)::aI f v r) from rfl]
  by_cases hk:k=f
  ·rw[if_pos hk];by_cases h:g=k
   ·have hb:=beq_iff_eq.mpr h
    simp only[List.lookup,hb,if_pos<|h.trans hk]
   ·have hb:=beq_eq_false_iff_ne.mpr h
    simp only[List.lookup,hb,if_neg (λe:g=f=>h (e.trans hk.symm))]
  ·rw[if_neg hk];by_cases h:g=k
   ·have hb:=beq_iff_eq.mpr h
    simp only[List.lookup,hb,if_neg (λe:g=f=>hk (h.symm.trans e))]
   ·have hb:=beq_eq_false_iff_ne.mpr h
    simp only[List.lookup,hb]
    exact (GU f g v r)
theorem Bu(f:Str)(v:V):∀fs:List (Str×V),f∈ (aI f v fs).map (·.1)/\∀g,g∈fs.map (·.1)->g∈ (aI f v fs).map (·.1)
 |[]=>⟨by simp[aI],λg h=>by simp at h⟩
 |(k,x)::r=>by
  obtain⟨i1,i2⟩:=Bu f v r;rw[show aI f v ((k,x)::r)=(if k=f then (k,v)::r else (k,x)::aI f v r) from rfl]
  by_cases hk:k=f
  ·subst hk;exact⟨by simp,λg h=>by simpa using h⟩
  ·rw[if_neg hk];refine⟨?_,λg h=>?_⟩
   ·exact zav _ i1
   ·rcases zac.mp h with e|e
    ·exact zac.mpr (.inl e)
    ·exact zav _ (i2 g e)
theorem GV(f:Str)(v:V):∀fs:List (Str×V),(aI f v fs).length<=fs.length+1
 |[]=>by simp[aI]
 |(k,x)::r=>by
  have ih:=GV f v r;rw[show aI f v ((k,x)::r)=(if k=f then (k,v)::r else (k,x)::aI f v r) from rfl]
  by_cases hk:k=f
  ·rw[if_pos hk,zaw,zaw];omega
  ·rw[if_neg hk,zaw,zaw];omega
theorem gL.some_of{o:Option Value}(r:gL (some v) o):∃u,o=some u/\RelV v u:=by
 cases o with
 |none=>exact(show False from r).elim
 |some u=>exact⟨u,rfl,r⟩
theorem gL.none_of(r:gL none o):o=none:=by
 cases o with
 |none=>rfl
 |some u=>exact(show False from r).elim
theorem Te(r:RelV v u):handedIn u=true:=by
 cases v with
 |au=>cases (show u=Value.none from r);rfl
 |bl b=>cases (show u=Value.bool b from r);rfl
 |int i=>obtain⟨t,e⟩:=(show ∃t,u=Value.int i t from r);cases e;rfl
 |str x=>obtain⟨t,e⟩:=(show ∃t,u=Value.str x t from r);cases e;rfl
 |gK b=>obtain⟨t,e⟩:=(show ∃t,u=Value.bytes b t from r);cases e;rfl
 |nY b=>obtain⟨t,e⟩:=(show ∃t,u=Value.float b t from r);cases e;rfl
 |ref a=>cases (show u=Value.ref a from r);rfl
 |ty n=>cases (show u=Value.type n from r);rfl
section
variable {P:Program}{w:World}{H H':Hp}{h h':Heap}{a C dx:Addr}{fs uI:List (Str×V)}
theorem ya(aF:bC P w H h)(e:H a=some (.ins C dx fs)):∃mA,qd h a dx C mA/\(∀f,gL (fs.lookup f)<|mA f)/\PySem.Within mA (fs.map (·.1))/\fs.length<=1000/\H dx=some (.own a):=by
 obtain⟨d,z,ne,ob,mA,n,r,q⟩:=(show cK P w H h a (.ins C dx fs) from aF a _ e)
 exact⟨mA,⟨ob,n,ne⟩,r,q,z,d⟩
end
structure eP (K:Frag) (C:Addr):Prop where
 pg:plainGet K C Str.empty=true
 hd:hasDictIn K C=true
 po:plainOver K C=true
 sa:PySem.W.findIn K (.ref C) "__setattr__"=some (some<|.builtin "object.__setattr__")
theorem eP.get{K:Frag}{C:Addr}(c:eP K C)(f:Str):plainGet K C f=true:=c.pg
def d0(K:Frag)(C:Addr)(f:Str):Prop:=PySem.W.findIn K (.ref C) f=some none
theorem d0.Tf{K:Frag}{C:Addr}{f:Str}(n:d0 K C f):takerIn K C f=some none:=by
 unfold takerIn;rw[show PySem.W.findIn K (.ref C) f=some none from n]
 rfl
structure Meth (K:Frag) (C:Addr) (m:Str) (f:Addr):Prop where
 at_:PySem.W.findIn K (.ref C) m=some (some<|.ref f)
 fn:PySem.W.isFn K (.ref f)=true
 kp:PySem.W.keepIn K (.ref f)=true
section
variable {X:Cx}{pins:List (Addr×Obj)}{σ:St}{H:Hp}{s:Shared}{a C dx:Addr}{fs:List (Str×V)}{f:Str}{v:V}{A:Around}{E:Value->Shared->Prop}
theorem Tg{Q:Value->Shared->Prop}(I:Inv X pins σ H s)(e:H a=some (.ins C dx fs))(c:eP X.K C)(n:d0 X.K C f)(l:fs.lookup f=some v)
  (h:∀u s',Inv X pins σ H s'->RelV v u->Q u s'):wpAny (model X.prog X.w) A (getAttr (.ref a) f b) Q E s:=by
 obtain⟨mA,O,r,_,_,_⟩:=ya I.aF e;obtain⟨u,hu,ru⟩:=gL.some_of (l▸r f)
 exact get_map I.dE O (c.get f) c.hd n hu (Te ru)<|h u _ (I.tok _) ru
theorem GW{pl:Sem Bool}{Q:Value×List Value->Shared->Prop}(I:Inv X pins σ H s)(e:H a=some (.ins C dx fs))(c:eP X.K C)(k:Meth X.K C m g)(l:fs.lookup m=none)
  (h:Q (.ref g,[.ref a]) s):wpAny (model X.prog X.w) A (getMethod (.ref a) m pl) Q E s:=by
 obtain⟨mA,O,r,_,_,_⟩:=ya I.aF e
 exact SX I.dE O (c.get m) k.at_ k.fn (gL.none_of (l▸r m)) h
theorem Th{Q:Unit->Shared->Prop}(I:Inv X pins σ H s)(e:H a=some (.ins C dx fs))(c:eP X.K C)(n:d0 X.K C f)(hl:fs.length<1000)(ry:RelV y u)
  (h:∀s',Inv X pins σ (upd H a<|.ins C dx<|aI f y fs) s'->Q () s'):wpAny (model X.prog X.w) A (setAttr (.ref a) f u) Q E s:=by
 obtain⟨mA,O,r,wi,_,ho⟩:=ya I.aF e;have hz:(fs.map (·.1)).length<=sizeLine:=by rw[zaf,sizeLine_eq];omega
 refine SY I.dE O c.sa c.po n.Tf c.hd wi hz λh' O' sb=>h _ ?_;have hd:∃o,h'.get? dx=some o:=let ⟨o,_,_,e',_⟩:=O'.ns;⟨o,e'⟩;refine I.write (e▸True.intro) (.inr ho) (λb q hb z=>(sb.2 b hb).trans z) hd (⟨by rw[az O.ne];exact ho,?_,O.ne,O'.obj,_,O'.ns,λg=>?_,λg hg=>?_⟩)
 ·have:=GV f y fs;omega
 ·show gL ((aI f y fs).lookup g) (if g=f then some u else mA g)
  rw[GU];by_cases q:g=f
  ·rw[if_pos q,if_pos q];exact ry
  ·rw[if_neg q,if_neg q];exact r g
 ·by_cases q:g=f
  ·rw[q];exact(Bu f y fs).1
  ·refine(Bu f y fs).2 g (wi g λz=>hg ?_);show(if g=f then some u else mA g)=none
   rw[if_neg q];exact z
theorem Inv.made(I:Inv X pins σ H s):Inv X pins σ (upd (upd H s.heap.objs.size<|.own<|s.heap.objs.size+1) (s.heap.objs.size+1)<|.ins C s.heap.objs.size [])
  {s with heap:=(s.heap.push emptyDict).push (instObj C s.heap.objs.size)}:=by
 have e1:(s.heap.push emptyDict).get? s.heap.objs.size=some emptyDict:=Heap.get?_push_size s.heap rfl;have e2:=by
  have:=Heap.get?_push_size (s.heap.push emptyDict) (o:=instObj C s.heap.objs.size) rfl
  rwa [Heap.size_push] at this
 have e3:(s.heap.push emptyDict).Ns s.heap.objs.size (λ_=>none):=⟨emptyDict,#[],_,e1,rfl,(λe he=>absurd he (by simp)),λ_=>rfl⟩
 refine (I.laid (o:=.own (s.heap.objs.size+1)) (t':=s.toks) (λb u q=>Heap.get?_push_of_some _ q) (zqR _) ⟨_,e1⟩).laid (λb u q=>Heap.get?_push_of_some _ q) (zbk<|Heap.size_push _ _) ?_;have ne:s.heap.objs.size≠s.heap.objs.size+1:=zao (Nat.lt_succ_self _);refine⟨by rw[az ne,ay],zqZ _,ne,e2,λ_=>none,(Heap.Ns1.of_empty e3).at λo q=>Heap.get?_push_of_some _ q,λ_=>True.intro,λy hy=>absurd rfl hy⟩
theorem Ti{env:Env}{e:Expr}{f:Str}{pos:Pos}{s:Shared}{Q:Value->Shared->Prop}(hb:attributeBase e f env (eval e env)=eval e env)
  (h:wpAny (model prog w) A (eval e env) (λo s₁=>wpAny (model prog w) A (getAttr o f true) Q E s₁) E s):wpAny (model prog w) A (eval (.Attribute e f pos) env) Q E s:=
 Attribute_any_ h (by rw[arm_eval_Attribute,hb])
end
def yb(K:Frag)(ta:TE)(f:Str):TE:=λσ H Q=>ta σ H λx H1=>∃a C dx fs v,x=.ref a/\H1 a=some (.ins C dx fs)/\eP K C/\d0 K C f/\fs.lookup f=some v/\Q v H1
def yc(K:Frag)(ta tv:TE)(f:Str):TS:=λD σ H=>tv σ H λy H1=>ta σ H1 λx H2=>∃a C dx fs,x=.ref a/\H2 a=some (.ins C dx fs)/\eP K C/\d0 K C f/\fs.length<1000/\
 D.nx σ (upd H2 a<|.ins C dx<|aI f y fs)
section
variable {X:Cx}{o e value:Expr}{f:Str}{pos pos' Tj:Pos}{ta tv:TE}
theorem Tn(he:PE X e ta)(hb:attributeBase e f X.env (eval e X.env)=eval e X.env):PE X (.Attribute e f pos) (yb X.K ta f):=by
 intro pins s σ H Q I h;refine Ti hb<|aK (he pins s σ H _ I h) λu s1 ⟨x,H1,I1,rx,a,C,dx,fs,v,ex,ea,c,n,l,q⟩=>?_;subst ex;obtain rfl:u=Value.ref a:=rx;exact Tg I1 ea c n l λu' s2 I2 ru=>⟨v,H1,I2,ru,q⟩
theorem GX(ha:PE X o ta)(hv:PE X value tv)(hs:swapsWith value (some<|.Attribute o f pos') pos.line X.env=pure false):PS X (.Assign [.Attribute o f pos'] value pos) (yc X.K ta tv f):=by
 intro pins s σ H D I h;refine plainObj_wpAny_Assign_Attribute (aK (hv pins s σ H _ I h) λu s1 ⟨y,H1,I1,ry,q⟩=>aK (ha pins s1 σ H1 _ I1 q) λov s2 ⟨x,H2,I2,rx,a,C,dx,fs,ex,ea,c,n,l,q2⟩=>?_) hs;subst ex;obtain rfl:ov=Value.ref a:=rx;exact Th I2 ea c n l ry λs3 I3=>⟨σ,_,I3,q2⟩
end
section
variable {X:Cx}{pins:List (Addr×Obj)}{σ:St}{H:Hp}{s:Shared}{A:Around}{E:Value->Shared->Prop}{Q:Value->Shared->Prop}{c:Value}{b:Bool}
inductive jL (K:Frag) (H:Hp):V->Value->Prop where
 |au:jL K H .au (.type "NoneType")
 |bl (x:Bool):jL K H (.bl x) (.type "bool")
 |int (i:Int):jL K H (.int i) (.type "int")
 |str (x:Str):jL K H (.str x) (.type "str")
 |nY (x:UInt64):jL K H (.nY x) (.type "float")
 |lst {a:Addr}{xs:List V} (e:H a=some (.lst xs)):jL K H (.ref a) (.type "list")
 |cj {a:Addr}{o:Obj}{xs:List V} (e:H a=some (.cj o<|.lst xs)):jL K H (.ref a) (.type "list")
 |tup {a:Addr}{xs:List V} (e:H a=some (.tup xs)):jL K H (.ref a) (.type "tuple")
 |dK {a:Addr}{kvs:List (Key×V)} (e:H a=some (.dK kvs)):jL K H (.ref a) (.type "dict")
 |dT {a:Addr}{kvs:List (List Key×V)} (e:H a=some (.dT kvs)):jL K H (.ref a) (.type "dict")
 |ins {a C dx:Addr}{fs:List (Str×V)} (e:H a=some (.ins C dx fs)) (cl:eP K C) (ha:PySem.W.findIn K (.ref C) "__class__"=some (some<|.builtin "object.__class__"))
   (hn:specialIn K (.builtin "object.__class__") "__get__"=some (some<|.builtin "getset_descriptor.__get__")) (eQ:takesIn K (.builtin "object.__class__")=some true)
   (hm:mroIn K C (.type "object")=some true):jL K H (.ref a) (.ref C)
theorem mI(I:Inv X pins σ H s)(rx:RelV x u)(ty:jL X.K H x t)(e:kitOne X.K t c=some b)(h:∀tk,Q (.bool b) {s with toks:=tk}):
  wpAny (model X.prog X.w) A (call (.builtin "isinstance") [u,c]) Q E s:=by
 cases ty with
 |au=>cases (show u=Value.none from rx);exact kia_one PySem.W.kitx_none I.dE True.intro e (λz=>nomatch z) h
 |bl y=>cases (show u=Value.bool y from rx);exact kia_one PySem.W.kitx_bool I.dE True.intro e (λz=>nomatch z) h
 |int i=>obtain⟨t,q⟩:=(show ∃t,u=Value.int i t from rx);cases q;exact kia_one PySem.W.kitx_int I.dE True.intro e (λz=>nomatch z) h
 |str y=>obtain⟨t,q⟩:=(show ∃t,u=Value.str y t from rx);cases q;exact kia_one PySem.W.kitx_str I.dE True.intro e (λz=>nomatch z) h
 |nY y=>obtain⟨t,q⟩:=(show ∃t,u=Value.float y t from rx);cases q;exact kia_one PySem.W.kitx_float I.dE True.intro e (λz=>nomatch z) h
 | @lst a xs ea=>
  cases (show u=Value.ref a from rx)
  obtain⟨_,_,n,_,h1⟩:=(show cK X.prog X.w H s.heap a (.lst xs) from I.aF a _ ea)
  exact kia_one kitx_list I.dE ⟨_,h1,rfl⟩ e (λz=>nomatch z) h
 | @cj a ob xs ea=>
  cases (show u=Value.ref a from rx)
  obtain⟨_,_,_,n,_,h1⟩:=(show cK X.prog X.w H s.heap a (.cj ob<|.lst xs) from I.aF a _ ea)
  exact kia_one kitx_list I.dE ⟨_,h1,rfl⟩ e (λz=>nomatch z) h
 | @tup a xs ea=>
  cases (show u=Value.ref a from rx)
  obtain⟨_,_,_,p⟩:=(show cK X.prog X.w H s.heap a (.tup xs) from I.aF a _ ea)
  obtain⟨o,h1,h2,_⟩:=p;exact kia_one PySem.W.kitx_tuple I.dE ⟨o,h1,h2⟩ e (λz=>nomatch z) h
 | @dK a kvs ea=>
  cases (show u=Value.ref a from rx)
  obtain⟨_,_,vs,_,p⟩:=(show cK X.prog X.w H s.heap a (.dK kvs) from I.aF a _ ea)
  obtain⟨o,es,ep,h1,h2,_⟩:=p;exact kia_one kitx_dict I.dE ⟨o,h1,h2.1⟩ e (λz=>nomatch z) h
 | @dT a kvs ea=>
  cases (show u=Value.ref a from rx)
  obtain⟨_,_,xs,_,o,es,ep,h1,h2,_⟩:=(show cK X.prog X.w H s.heap a (.dT kvs) from I.aF a _ ea)
  exact kia_one kitx_dict I.dE ⟨o,h1,h2.1⟩ e (λz=>nomatch z) h
 | @ins a C dx fs ea cl ha hn eQ hm=>
  cases (show u=Value.ref a from rx)
  obtain⟨mA,O,_⟩:=ya I.aF ea;obtain⟨od,J,_⟩:=O.look;exact kia_one (PySem.W.kitx_own (cl.get _) cl.hd ha hn eQ hm) I.dE J e (λz=>nomatch z) h
end
structure dO (k:Nat) (A:Around):Prop where
 hd:A.handled=none
 dp:A.depth+3*k+5<recursionLimit
 un:A.units+16*k+200<cLine
 gd:A.guards=some []:=by rfl
theorem dO.mono{k:Nat}{A:Around}(r:dO k A)(h:j<=k):dO j A:=⟨r.hd,by have:=r.dp;omega,by have:=r.un;omega,r.gd⟩
theorem dO.deeper{A:Around}(r:dO (k+1) A)(env:Env):dO k (A.deeper env):=
 ⟨r.hd,by have:=r.dp;show A.depth+1+3*k+5<_;omega,by have:=r.un;show A.units+3+16*k+200<_;omega,r.gd⟩
theorem To{A:Around}{C:Addr}{us:List Value}{kw:List (Str×Value)}:(A.under<|.builtin "type.__call__" ⟨.ref C::us,kw⟩).depth=A.depth+1:=rfl
theorem Tp{A:Around}{C:Addr}{us:List Value}{kw:List (Str×Value)}:(A.under<|.builtin "type.__call__" ⟨.ref C::us,kw⟩).units=A.units+1:=rfl
theorem dO.make{A:Around}(r:dO (k+1) A)(C:Addr)(us:List Value)(kw:List (Str×Value)):dO k (A.under<|.builtin "type.__call__" ⟨.ref C::us,kw⟩):=
 ⟨r.hd,by have:=r.dp;rw[To];omega,by have:=r.un;rw[Tp];omega,by first|exact r.gd|simp⟩
theorem dO.depth{A:Around}(r:dO k A):A.depth<recursionLimit:=by have:=r.dp;omega
theorem dO.units{A:Around}(r:dO k A):A.units+64<cLine:=by have:=r.un;omega
def jM:TA:=λ_ H Q=>Q [] H
def e8(ta:TE)(tr:TA):TA:=λσ H Q=>ta σ H λx H1=>tr σ H1 λxs H2=>Q (x::xs) H2
section
variable {X:Cx}{e:Expr}{es:List Expr}{te:TE}{t:TA}{pos:Pos}
theorem yd:PA X [] jM:=λ_ _ _ _ H Q I h=>Calls.spliced_nil ⟨[],H,I,.nil,h⟩
theorem sr(ha:PE X e te)(hr:PA X es t)(hs:starEach (e::es) X.env=(false,eval e X.env)::starEach es X.env:=by rfl):PA X (e::es) (e8 te t):=by
 intro pos pins s σ H Q I h;rw[hs];exact Calls.spliced_cons<|aK (ha pins s σ H _ I h) λu s1 ⟨x,H1,I1,r1,q1⟩=>aK (hr pos pins s1 σ H1 _ I1 q1) λus s2 ⟨xs,H2,I2,r2,q2⟩=>⟨x::xs,H2,I2,.cons r1 r2,q2⟩
def GY(t:TA):TE:=λσ H Q=>t σ H λxs H1=>xs.length<=sizeLine/\∀p,H1 p=none->Q (.ref p) (upd H1 p<|.tup xs)
def GZ(t:TA):TE:=λσ H Q=>t σ H λxs H1=>xs.length<=sizeLine/\∀p,H1 p=none->Q (.ref p) (upd H1 p<|.lst xs)
theorem Tq(h:PA X es t):PE X (.Tuple es x1 pos) (GY t):=by
 intro pins s σ H Q I hq;refine wpAny_Tuple_spliced<|aK (h pos pins s σ H _ I hq) λus s1 ⟨xs,H1,I1,r,z,q⟩=>⟨r.length▸z,⟨.ref s1.heap.objs.size,upd H1 s1.heap.objs.size<|.tup xs,I1.laid (λb u e=>Heap.get?_push_of_some _ e) (zqR _) ?_,rfl,q _ (I1.aF.fresh (zqR _))⟩⟩;exact⟨z,us,r,⟨_,Heap.get?_push_size _ rfl,rfl,_,rfl⟩⟩
theorem Tr(h:PA X es t):PE X (.List es pos) (GZ t):=by
 intro pins s σ H Q I hq;refine wpAny_List_spliced<|aK (h pos pins s σ H _ I hq) λus s1 ⟨xs,H1,I1,r,z,q⟩=>⟨r.length▸z,⟨.ref s1.heap.objs.size,upd H1 s1.heap.objs.size<|.lst xs,I1.laid (λb u e=>Heap.get?_push_of_some _ e) (zqR _) ?_,rfl,q _ (I1.aF.fresh (zqR _))⟩⟩;exact⟨z,us,0,r,Heap.get?_push_size _ rfl⟩
end
abbrev Sp:=List V->Hp->VK->XK->Prop
abbrev cU:=List Env->Hp->Shared->XK->Value->Shared->Prop
structure oa (P:Program) (w:World) (K:Frag) (mg:Str->Option Value) (base:Heap) (A:Around) (outer:List Env) (s:Shared) (H:Hp):Prop where
 frames:A.frames=some outer
 mod:Mod K mg base
 bs:∀b o,base.get? b=some o->s.heap.get? b=some o/\H b=none
 pX:base.objs.size<=s.heap.objs.size
 kf:s.heap.FunFrames base outer
 r9:∀b∈bG outer,H b=none
 aF:bC P w H s.heap
 bare:AllBare s.gens
def CE(outer:List Env)(P:Program)(w:World)(H:Hp)(s:Shared)(Q:VK)(u:Value)(s':Shared):Prop:=
 ∃v H',s'.os=s.os/\AllBare s'.gens/\Un (bG outer) [] H H' s.heap s'.heap/\bC P w H' s'.heap/\RelV v u/\Q v H'
def CR(CX:cU)(outer:List Env)(P:Program)(w:World)(H:Hp)(s:Shared)(Q:VK)(E:XK)(r:Result)(s':Shared):Prop:=
 match r with
 |.ok (.ret u)=>CE outer P w H s Q u s'
 |.ok _=>False
 |.error e=>CX outer H s E e s'
structure dz (P:Program) (w:World) (K:Frag) (mg:Str->Option Value) (base:Heap) (CX:cU) (k:Nat) (f:Addr) (fd:FuncData) (ps:List Str) (sp:Sp):Prop where
 len:∀vs H Q E,sp vs H Q E->vs.length=ps.length
 run:∀(A:Around) (outer:List Env) (s:Shared) (H:Hp) (args:Args) (us:List Value) (vs:List V) (Q:VK) (E:XK),dO k A->oa P w K mg base A outer s H->BindsTo s fd args (ps.zip us)->Vals vs us->sp vs H Q E->
  codeAny (model P w) A (.call (.ref f) args) (CR CX outer P w H s Q E) s
theorem dz.mono{w:World}{K:Frag}{mg:Str->Option Value}{base:Heap}{CX:cU}{j k:Nat}{f:Addr}{fd:FuncData}{ps:List Str}{sp:Sp}(F:dz P w K mg base CX j f fd ps sp)(h:j<=k):
  dz P w K mg base CX k f fd ps sp:=⟨F.len,λA outer s H args us vs Q E hr=>F.run A outer s H args us vs Q E<|hr.mono h⟩
theorem oa.make{K:Frag}{mg:Str->Option Value}{base:Heap}{A:Around}{outer:List Env}{s:Shared}{H:Hp}(e:oa P w K mg base A outer s H)(C:Addr)(us:List Value)(kw:List (Str×Value)):
  oa P w K mg base (A.under<|.builtin "type.__call__" ⟨.ref C::us,kw⟩) outer s H:=⟨by first|exact e.frames| (simpa[Around.under,Code.envs,Code.isFrame,pushEnvs] using e.frames),e.mod,e.bs,e.pX,e.kf,e.r9,e.aF,e.bare⟩
section
variable {X:Cx}{pins:List (Addr×Obj)}{σ:St}{H:Hp}{s s':Shared}
theorem Inv.G0(I:Inv X pins σ H s):oa X.prog X.w X.K X.mg X.base X.A X.stack s H:=
 ⟨I.ok.frames,I.ok.mod,I.bs,zaq I.ok.pX I.sz,I.stack,I.xS,I.aF,I.bare⟩
theorem Inv.after{u:Value}(I:Inv X pins σ H s)(h:CE X.stack X.prog X.w H s Q u s'):EP X pins σ Q u s':=by
 obtain⟨v,H',os,bare,un,aF,r,q⟩:=h;obtain⟨hh,g,d,t,ye⟩:=s';obtain rfl:ye=s.os:=os;exact⟨v,H',I.call un aF bare<|λb z=>absurd z (by simp),r,q⟩
end
def Bv(sp:Sp)(gM:List V)(E:XK)(t:TA):TE:=λσ H Q=>t σ H λvs H1=>sp (vs++gM) H1 Q E
def mJ(C:Addr)(m:Str)(sp:Sp)(gM:List V)(E:XK)(ta:TE)(t:TA):TE:=λσ H Q=>ta σ H λx H1=>∃a dx fs,x=.ref a/\H1 a=some (.ins C dx fs)/\fs.lookup m=none/\
 t σ H1 λvs H2=>sp (x::(vs++gM)) H2 Q E
def yf(C:Addr)(sp:Sp)(gM:List V)(E:XK)(t:TA):TE:=λσ H Q=>t σ H λvs H1=>∀x dx,H1 x=none->H1 dx=none->dx≠x->
 sp (.ref x::(vs++gM)) (upd (upd H1 dx<|.own x) x<|.ins C dx []) (λv H2=>v=.au/\Q (.ref x) H2) E
def Binds(K:Frag)(fd:FuncData)(ps:List Str)(ds:List Value):Prop:=
 ∀(s:Shared) (us:List Value),K.In s.heap->(us++ds).length=ps.length->BindsTo s fd ⟨us,[]⟩ (ps.zip<|us++ds)
theorem Binds.all{K:Frag}{fd:FuncData}{ps:List Str}(h:∀us:List Value,us.length=ps.length->bindArgs fd ⟨us,[]⟩=pure (ps.zip us)):Binds K fd ps []:=λs us _ hl=>by
 rw[zaa] at hl⊢;exact .of_eq<|h us hl
def Passes(CX:cU)(X:Cx)(E:XK):Prop:= ∀(pins:List (Addr×Obj)) (σ:St) (H:Hp) (s:Shared) (e:Value) (s':Shared),Inv X pins σ H s->CX X.stack H s E e s'->X.xe e s'
section
variable {X:Cx}{CX:cU}{k:Nat}{f C:Addr}{fd:FuncData}{ps:List Str}{sp:Sp}{gM:List V}{ds:List Value}{E:XK}{x m:Str}{p pos apos:Pos}{e o:Expr}{es:List Expr}{ta:TE}{t:TA}
theorem Bw{σ:St}{H:Hp}{s:Shared}{Q:VK}{us:List Value}{vs:List V}(F:dz X.prog X.w X.K X.mg X.base CX k f fd ps sp)(hr:dO k X.A)(hb:Binds X.K fd ps ds)(hd:Vals gM ds)(hx:Passes CX X E)
  (I:Inv X pins σ H s) (r:Vals vs us) (h:sp (vs++gM) H Q E):wpAny (model X.prog X.w) X.A (call (.ref f) us) (EP X pins σ Q) X.xe s:=by
 have r2:=r.append hd
 refine wpAny_call<|codeAny_mono (F.run X.A X.stack s H ⟨us,[]⟩ (us++ds) (vs++gM) Q E hr I.G0 (hb s us I.dE (r2.length▸F.len _ _ _ _ h)) r2 h) λr s' hq=>?_;cases r with
 |error e=>exact hx pins σ H s e s' I hq
 |ok fl=>
  cases fl with
  |ret u=>exact I.after hq
  |next=>exact False.elim hq
  |brk=>exact False.elim hq
  |cont=>exact False.elim hq
theorem Ts(F:dz X.prog X.w X.K X.mg X.base CX k f fd ps sp)(hr:dO k X.A)(hg:Gl X x)(hm:X.mg x=some (.ref f))(hk:PySem.W.keepIn X.K (.ref f)=true)(hb:Binds X.K fd ps ds)(hd:Vals gM ds)(hx:Passes CX X E)
  (ha:PA X (e::es) t) (qe:(x==("__debug__":Str))=false:=by decide) (he:starEach (e::es) X.env=(false,eval e X.env)::starEach es X.env:=by rfl) (og:(backTo pos<|starEach es X.env).any (·.1)=false:=by rfl):
  PE X (.Call (.Name x p) (e::es) [] pos) (Bv sp gM E t):=by
 intro pins s σ H Q I h;exact wpAny_Call_Name_kw<|xU I hg hm (callWith_K I.ok.mod.uJ hk (aK (ha pos pins s σ H _ I h) λus s1 ⟨vs,H1,I1,r,q⟩=>⟨I1.dE,Bw F hr hb hd hx I1 r q⟩) he og) qe
structure Mk (K:Frag) (C f:Addr):Prop where
 makes:makesIn K C=true
 init:PySem.W.findIn K (.ref C) "__init__"=some (some<|.ref f)
 fn:PySem.W.isFn K (.ref f)=true
 kp:PySem.W.keepIn K (.ref C)=true
theorem Tt{σ:St}{H:Hp}{s:Shared}{Q:VK}{us:List Value}{vs:List V}(M:Mk X.K C f)(F:dz X.prog X.w X.K X.mg X.base CX k f fd ps sp)(hr:dO (k+1) X.A)(hb:Binds X.K fd ps ds)(hd:Vals gM ds)
  (hx:Passes CX X E) (I:Inv X pins σ H s) (r:Vals vs us)
  (h:∀x dx,H x=none->H dx=none->dx≠x->sp (.ref x::(vs++gM)) (upd (upd H dx<|.own x) x<|.ins C dx []) (λv H2=>v=.au/\Q (.ref x) H2) E):
  wpAny (model X.prog X.w) X.A (call (.ref C) us) (EP X pins σ Q) X.xe s:=by
 have hq:=h (s.heap.objs.size+1) s.heap.objs.size (I.aF.fresh<|Nat.le_succ _) (I.aF.fresh<|zqR _) (zao<|Nat.lt_succ_self _);have I2:=Inv.made (C:=C) I;have r2:Vals (V.ref (s.heap.objs.size+1)::(vs++gM)) (Value.ref (s.heap.objs.size+1)::(us++ds)):=.cons rfl (r.append hd);have hl:=by
  have e:=r2.length;rw[F.len _ _ _ _ hq] at e;exact e.symm
 refine wpAny_call (Tc I.dE M.makes M.init (beq_iff_eq.mp M.fn) (codeAny_mono (F.run _ X.stack _ _ ⟨Value.ref (s.heap.objs.size+1)::us,[]⟩ (Value.ref (s.heap.objs.size+1)::(us++ds)) _ _ E (hr.make C us [])
  (I2.G0.make C us []) (hb _ (Value.ref (s.heap.objs.size+1)::us) I2.dE hl) r2 hq) λr s' uO=>?_))
 cases r with
 |error e=>exact hx pins σ _ _ e s' I2 uO
 |ok fl=>
  cases fl with
  |ret u=>
   obtain⟨v,H',I3,rv,ev,q3⟩:=I2.after uO;subst ev;exact⟨rv,⟨V.ref<|s.heap.objs.size+1,H',I3,rfl,q3⟩⟩
  |next=>exact False.elim uO
  |brk=>exact False.elim uO
  |cont=>exact False.elim uO
theorem Tu(M:Mk X.K C f)(F:dz X.prog X.w X.K X.mg X.base CX k f fd ps sp)(hr:dO (k+1) X.A)(hg:Gl X x)(hm:X.mg x=some (.ref C))(hb:Binds X.K fd ps ds)(hd:Vals gM ds)(hx:Passes CX X E)
  (ha:PA X (e::es) t) (qe:(x==("__debug__":Str))=false:=by decide) (he:starEach (e::es) X.env=(false,eval e X.env)::starEach es X.env:=by rfl) (og:(backTo pos<|starEach es X.env).any (·.1)=false:=by rfl):
  PE X (.Call (.Name x p) (e::es) [] pos) (yf C sp gM E t):=by
 intro pins s σ H Q I h;exact wpAny_Call_Name_kw<|xU I hg hm (callWith_K I.ok.mod.uJ M.kp (aK (ha pos pins s σ H _ I h) λus s1 ⟨vs,H1,I1,r,q⟩=>⟨I1.dE,Tt M F hr hb hd hx I1 r q⟩) he og) qe
end
structure uP (N P:List Str) (sc:Scope):Prop where
 kind:sc.kind=.function
 co:sc.isCoroutine=false
 gen:sc.isGenerator=false
 nd:N.Nodup
 pre:N.take P.length=P
 par:∀x∈P,sc.names.lookup x=some .local\/sc.names.lookup x=some .cell
 Tv:∀y∈sc.names,y.2≠ .free
theorem G1{kindOf:Str->Option NameKind}{x:Str}:∀{binds:List (Str×Value)}{m:Str->Option Value},(∀v,(x,v)∉binds)->bindL kindOf binds m x=m x
 |[],_,_=>rfl
 |(n,v)::r,m,h=>by
  unfold bindL;rw[G1 λw hw=>h w (zav _ hw)]
  split
  ·have:x≠n:=by rintro rfl;exact h v zau
   simp[this]
  ·rfl
theorem G3{kindOf:Str->Option NameKind}{x:Str}:∀{binds:List (Str×Value)}{m:Str->Option Value},(∀v,(x,v)∉binds)->bindC kindOf binds m x=m x
 |[],_,_=>rfl
 |(n,v)::r,m,h=>by
  unfold bindC;rw[G3 λw hw=>h w (zav _ hw)]
  split
  ·rfl
  ·have:x≠n:=by rintro rfl;exact h v zau
   simp[this]
theorem G4{kindOf:Str->Option NameKind}{x:Str}{v:Value}:∀{P:List Str}{vs:List Value}{i:Nat}{m:Str->Option Value},P.Nodup->P[i]?=some x->vs[i]?=some v->kindOf x=some .local->
  bindL kindOf (P.zip vs) m x=some v
 |[],_,_,_,_,h,_,_=>by simp at h
 |_::_,[],_,_,_,_,h,_=>by simp at h
 |p::P,w::vs,0,m,nd,h1,h2,hk=>by
  simp at h1 h2;subst h1;subst h2
  show bindL kindOf ((p,w)::P.zip vs) m p=_;unfold bindL;rw[G1 λv hv=>(zaF.mp nd).1 (List.of_mem_zip hv).1,if_pos hk]
  simp
 |p::P,w::vs,i+1,m,nd,h1,h2,hk=>by
  unfold bindL;exact G4 (zaF.mp nd).2 (by simpa using h1) (by simpa using h2) hk
theorem G5{kindOf:Str->Option NameKind}{x:Str}{v:Value}:∀{P:List Str}{vs:List Value}{i:Nat}{m:Str->Option Value},P.Nodup->P[i]?=some x->vs[i]?=some v->kindOf x≠some .local->
  bindC kindOf (P.zip vs) m x=some v
 |[],_,_,_,_,h,_,_=>by simp at h
 |_::_,[],_,_,_,_,h,_=>by simp at h
 |p::P,w::vs,0,m,nd,h1,h2,hk=>by
  simp at h1 h2;subst h1;subst h2
  show bindC kindOf ((p,w)::P.zip vs) m p=_;unfold bindC;rw[G3 λv hv=>(zaF.mp nd).1 (List.of_mem_zip hv).1,if_neg hk]
  simp
 |p::P,w::vs,i+1,m,nd,h1,h2,hk=>by
  unfold bindC;exact G5 (zaF.mp nd).2 (by simpa using h1) (by simpa using h2) hk
def start(N:List Str)(vs:List V):St:=vs.map some++List.replicate (N.length - vs.length) none
def qf(CX:cU)(P:Program)(w:World)(K:Frag)(mg:Str->Option Value)(base:Heap)(N:List Str)(qual:Str)(scope:Scope)(f:Addr)(cd:Value)(A:Around)(outer:List Env)(s:Shared)(H:Hp)(E:XK):Cx where
 prog:=P
 w:=w
 K:=K
 mg:=mg
 base:=base
 A:=A.deeper (envOfC qual scope s.heap.objs.size f cd)
 N:=N
 s₀:=s
 H₀:=H
 env:=envOfC qual scope s.heap.objs.size f cd
 outer:=outer
 stack:=envOfC qual scope s.heap.objs.size f cd::outer
 ex:=[]
 calm:=true
 fn:=λ_=>true
 pn:=[]
 xe:=λe s'=>wpAny (model P w) (A.deeper<|envOfC qual scope s.heap.objs.size f cd) (leaving (envOfC qual scope s.heap.objs.size f cd) e) (λ_ ir=>CX outer H s E e ir) (λe' ir=>CX outer H s E e' ir) s'
theorem G6{sc:Scope}{n:Nat}{x:Str}(h:sc.names.lookup x=some .cell):∃c,(cellsFrom n sc.names []).lookup x=some c:=by
 exact Option.isSome_iff_exists.mp (cellsFrom_some sc.names n [] (.inl h))
theorem Tw{P:Program}{w:World}{K:Frag}{mg:Str->Option Value}{base:Heap}{N ps:List Str}{qual:Str}{scope:Scope}{f:Addr}{cd:Value}{A:Around}{outer:List Env}{s s1:Shared}{H:Hp}{E:XK}{us:List Value}{vs:List V}
  (S:uP N ps scope) (hd:A.handled=none) (e0:oa P w K mg base A outer s H) (hl:vs.length=ps.length) (r:Vals vs us)
  (x:InCallC s s.heap.objs.size (bindL (envOfC qual scope s.heap.objs.size f cd).kindOf (ps.zip us) λ_=>none) (cellsFrom (s.heap.objs.size+1) scope.names []) (bindC (envOfC qual scope s.heap.objs.size f cd).kindOf (ps.zip us) λ_=>none) s1):
  Inv (qf CX P w K mg base N qual scope f cd A outer s H E) [] (start N vs) H s1:=by
 have og:=by have:=congrArg List.length S.pre;rw[zaB] at this;omega
 obtain⟨h1,tk,rfl,hk⟩:=x.done;have uQ:∀b:Addr,b∉ (qf CX P w K mg base N qual scope f cd A outer s H E).ex:=λb z=>absurd (show b∈ ([]:List Addr) from z) (by simp)
 refine⟨⟨e0.mod,S.kind,rfl,rfl,zqR _,λy z c h1 h2=>?_,λy hy=>?_,λy c _ h=>?_,λ_=>hd,Around.frames_deeper e0.frames,.inr ⟨rfl,rfl⟩,λb z=>absurd z (uQ b),e0.bs,e0.pX,λb _ _=>uQ b,λb z=>absurd z (uQ b),e0.kf,e0.r9⟩,
  rfl,e0.bare,Un.kept hk,⟨_,x.toInCall.ns,λi y v h1 h2 h3=>?_⟩,λy c h=>⟨_,x.cell y c h⟩,e0.aF.fresh (zqR _),λy c h=>?_,λp hp=>absurd (show p∈ ([]:List (Addr×Obj)) from hp) (by simp),e0.aF.kept hk,?_⟩
 ·exact name_of_addr x.apart (PySem.mem_of_lookup h1) (PySem.mem_of_lookup h2)
 ·rcases hy with hy|hy
  ·exact G6 hy
  ·exact absurd rfl (S.Tv _<|PySem.mem_of_lookup hy)
 ·exact Nat.le_of_lt (x.above y c<|PySem.mem_of_lookup h)
 ·have hi:i<vs.length:=by
   unfold start at h2;by_cases hi:i<vs.length
   ·exact hi
   ·rw[zaL (by simpa using hi)] at h2
    rw[List.getElem?_replicate] at h2
    split at h2<;>cases h2
  have ha:vs[i]?=some v:=by
   unfold start at h2;rw[zay (by simpa using hi),zan] at h2
   cases e:vs[i]? with
   |none=>rw[e] at h2;cases h2
   |some a=>rw[e] at h2;cases h2;rfl
  obtain⟨u,hu,rv⟩:=r.get ha;have hp:ps[i]?=some y:=by
   rw[<-S.pre,List.getElem?_take_of_lt (by lia)];exact h1
  have G7:=S.pre▸S.nd.sublist (List.take_sublist _ _)
  refine⟨u,rv,?_⟩;rcases S.par y (zal hp) with k|k
  ·exact .inl ⟨k,G4 G7 hp hu k⟩
  ·obtain⟨c,e⟩:=G6 k;refine .inr ⟨.inl k,c,e,?_⟩;have q:=x.cell y c e;rw[G5 G7 hp hu (by show scope.names.lookup y≠_;rw[k];decide)] at q
   exact q
 ·exact e0.aF.fresh (Nat.le_of_lt<|x.above y c<|PySem.mem_of_lookup h)
 ·unfold start;show _=N.length;rw[zqA,zaf,zby];omega
theorem Tx{w:World}{K:Frag}{mg:Str->Option Value}{base:Heap}{k:Nat}{f:Addr}{name qual:Str}{params:Arguments}{body:List Stmt}{scope:Scope}{dV kV doc pm bL ct oc:Value}{an od:Option Addr}
  {ji:Array (Option Value)}{N ps:List Str}{sp:Sp} (lk:K.lookup f=some ⟨oc,od,.func<|PySem.W.fnOf name qual params body scope dV kV doc pm an bL ct,ji⟩) (lF:PySem.W.codeIn K bL qual=true) (S:uP N ps scope)
  (len:∀vs H Q E,sp vs H Q E->vs.length=ps.length)
  (Tz:∀(A:Around) (outer:List Env) (s:Shared) (H:Hp) (vs:List V) (Q:VK) (E:XK),dO k (A.deeper (envOfC qual scope s.heap.objs.size f bL))->sp vs H Q E->
   ∃t,eE (qf CX P w K mg base N qual scope f bL A outer s H E) body t/\t {nx:=λ_ H'=>Q .au H',rt:=Q} (start N vs) H):
  dz P w K mg base CX (k+1) f (PySem.W.fnOf name qual params body scope dV kV doc pm an bL ct) ps sp:=by
 refine⟨len,λA outer s H args us vs Q E hr e0 hb r oh=>?_⟩;have KX:=e0.mod.uJ.keeps λb o e=>(e0.bs b o e).1;have TB:∀y∈ps.zip us,scope.names.lookup y.1=some .local\/(scope.names.lookup y.1=some .cell/\((cellsFrom (s.heap.objs.size+1) scope.names []).lookup y.1).isSome=true):=λ⟨n,v⟩ hy=>by
  rcases S.par n (List.of_mem_zip hy).1 with q|q
  ·exact .inl q
  ·exact .inr ⟨q,cellsFrom_some _ _ _<|.inl q⟩
 refine codeAny_call_function hr.depth (KX _ _ lk) rfl S.co S.gen rfl (PySem.W.codeRec_of KX lF)<|hb _ _ _ _ (wpAny_newFunctionEnv_cells S.kind TB λenv he s1 x=>?_);subst he;refine⟨(e0.mod.nolimit.keeps λb o e=>(e0.bs b o e).1).keeps x.toInCall.keep,codeAny_func ?_⟩;obtain⟨t,ht,hq⟩:=Tz A outer s H vs Q E (hr.deeper _) oh;have I:Inv (qf CX P w K mg base N qual scope f bL A outer s H E) [] (start N vs) H s1:=Tw S hr.hd e0 (len _ _ _ _ oh) r x;refine wpAny_mono (ht [] s1 (start N vs) H _ I hq) (λfl s' hs=>?_) λe s' hs=>hs;have fin:∀{σ':St}{H':Hp}{v:V}{u:Value},Inv (qf CX P w K mg base N qual scope f bL A outer s H E) [] σ' H' s'->RelV v u->Q v H'->CE outer P w H s Q u s':=
  λ{σ' H' v u} J rv q=>⟨v,H',J.os,J.bare,J.base,J.aF,rv,q⟩
 cases fl with
 |ret u=>
  obtain⟨v,σ',H',J,rv,q⟩:=hs;exact fin J rv q
 |next=>
  obtain⟨σ',H',J,q⟩:=hs;exact fin (v:=V.au) J rfl q
 |brk=>
  obtain⟨_,_,_,q⟩:=hs;exact False.elim q
 |cont=>
  obtain⟨_,_,_,q⟩:=hs;exact False.elim q
section
variable {X:Cx}{x:Str}{p pos:Pos}{e:Expr}{es:List Expr}{t:TA}{id T:String}{r:List V->Hp->VK->Prop}
def jN(r:List V->Hp->VK->Prop)(t:TA):TE:=λσ H Q=>t σ H λvs H1=>r vs H1 Q
theorem G8(hc:dZ X (.builtin id) r)(hg:Gl X x)(hm:X.mg x=none)(hv:bootBuiltins x=some (.builtin id))(ha:PA X (e::es) t)(hn:x≠"__name__":=by decide)(qe:(x==("__debug__":Str))=false:=by decide)
  (he:starEach (e::es) X.env=(false,eval e X.env)::starEach es X.env:=by rfl) (og:(backTo pos<|starEach es X.env).any (·.1)=false:=by rfl):PE X (.Call (.Name x p) (e::es) [] pos) (jN r t):=by
 intro pins s σ H Q I h;exact wpAny_Call_Name_kw<|uK I hg hm hv (PyProof.Rows.callWith_builtin1 (aK (ha pos pins s σ H _ I h) λus s1 ⟨vs,H1,I1,r1,q1⟩=>hc pins s1 σ H1 vs us Q I1 r1 q1) he og) hn qe
theorem G9(hc:dZ X (.type T) r)(hg:Gl X x)(hm:X.mg x=none)(hv:bootBuiltins x=some (.type T))(ha:PA X (e::es) t)(hn:x≠"__name__":=by decide)(qe:(x==("__debug__":Str))=false:=by decide)
  (he:starEach (e::es) X.env=(false,eval e X.env)::starEach es X.env:=by rfl) (og:(backTo pos<|starEach es X.env).any (·.1)=false:=by rfl):PE X (.Call (.Name x p) (e::es) [] pos) (jN r t):=by
 intro pins s σ H Q I h;exact wpAny_Call_Name_kw<|uK I hg hm hv (PyProof.Rows.callWith_type1 (aK (ha pos pins s σ H _ I h) λus s1 ⟨vs,H1,I1,r1,q1⟩=>hc pins s1 σ H1 vs us Q I1 r1 q1) he og) hn qe
end
end L2
namespace HT
open PySem PyProof.Rows
section
variable {prog:Program}{w:World}{A:Around}{E:Value->Shared->Prop}{s:Shared}
theorem TC{Q:Value->Shared->Prop}(ht:IsTup s.heap t vs.toArray)(hb:IsTup s.heap b ws.toArray)(hv:vs≠ [])
  (h1:ws=[]->Q (.ref t) s) (h2:ws≠ []->Q (.ref s.heap.objs.size) {s with heap:=s.heap.push {cls:=.type "tuple",data:=.seq (vs++ws).toArray}})
  (hsz:vs.length+ws.length<=sizeLine):wpAny (model prog w) A (binaryOp .Add (.ref t)<|.ref b) Q E s:=by
 obtain⟨⟨cls,dd,data,sl⟩,ho,hc,n,hd⟩:=id ht;obtain⟨⟨aiw,G_,data2,uR⟩,fQ,c4,n2,hd2⟩:=id hb
 subst hc hd c4 hd2;have e:vs.toArray++ws.toArray=(vs++ws).toArray:=by simp
 by_cases hw:ws=[]
 ·exact concat_meets ⟨_,ho,rfl⟩ ⟨_,fQ,rfl⟩ noFill_tuple_add seq_tuple_add PySem.F.slot_tuple_add PySem.F.entry_tuple_add (PySem.F.args_tuple_add_2 _ _)
   (tuple_addW1 t b vs.toArray ws.toArray n n2 dd G_ sl uR (by simpa using hv) (by simp[hw])) ⟨ho,fQ,h1 hw⟩
 ·refine concat_meets ⟨_,ho,rfl⟩ ⟨_,fQ,rfl⟩ noFill_tuple_add seq_tuple_add PySem.F.slot_tuple_add PySem.F.entry_tuple_add (PySem.F.args_tuple_add_2 _ _)
   (tuple_addW2 t b vs.toArray ws.toArray n n2 dd G_ sl uR (by simpa using hv) (by simpa using hw) (by exact hsz)) ⟨ho,fQ,?_⟩
  rw[e];exact h2 hw
def bh(n d:Nat):Option Int->Nat
 |none=>d
 |some v=>if v<0 then (v+(n:Int)).toNat else min v.toNat n
theorem Bx(n d:Nat):bh n d none=d:=rfl
theorem mK(n d k:Nat):bh n d (some (k:Int))=min k n:=rfl
theorem By(n d:Nat)(hd:d<=n)(o:Option Int):bh n d o<=n:=by
 cases o with
 |none=>exact hd
 |some v=>
  show(if v<0 then (v+(n:Int)).toNat else min v.toNat n)<=n
  by_cases hv:v<0
  ·rw[if_pos hv];omega
  ·rw[if_neg hv];exact Nat.min_le_right _ _
theorem Ha(v:Int)(n d:Nat):(if v<0 then max (v+(n:Int)) 0 else min v (n:Int))=((bh n d (some v):Nat):Int):=by
 show(if v<0 then max (v+(n:Int)) 0 else min v (n:Int))=(((if v<0 then (v+(n:Int)).toNat else min v.toNat n):Nat):Int)
 by_cases hv:v<0
 ·simp only[if_pos hv];omega
 ·simp only[if_neg hv];omega
theorem TF(lo hi:Option Int)(n:Nat):Builtin.Slice.sliceAdjust lo hi 1 (n:Int)=(((bh n 0 lo:Nat):Int),((bh n n hi:Nat):Int)):=by
 refine Prod.ext ?_ ?_
 ·cases lo with
  |none=>rfl
  |some v=>exact Ha v n 0
 ·cases hi with
  |none=>rfl
  |some v=>exact Ha v n n
theorem TH(i j:Nat):Builtin.Slice.slicePlaces (i:Int) (j:Int) 1=j - i:=by
 unfold Builtin.Slice.slicePlaces
 split<;>omega
theorem Hc{o:Option Int}{Q:Option Int->Shared->Prop}(p:IsPart v o)(h:Q o s):wpAny (model prog w) A (Builtin.Slice.slicePartIndex v) Q E s:=by
 cases p with
 |none=>exact slicePart_none h
 |int i t=>exact slicePart_int h
theorem TJ{lo hi:Option Int}{n:Nat}{Q:Int×Int×Nat->Shared->Prop}(hs:s.heap.IsSliceOf sl vl vu .none)(pl:IsPart vl lo)(pu:IsPart vu hi)
  (h:Q (((bh n 0 lo:Nat):Int),1,bh n n hi - bh n 0 lo) s):wpAny (model prog w) A (Builtin.Slice.sliceApplied (.ref sl)<|pure (n:Int)) Q E s:=by
 obtain⟨os,uS,He,yg⟩:=id hs;refine wpAny_bind<|wpAny_bind<|wpAny_field uS yg rfl<|wpAny_bind<|wpAny_field uS yg rfl<|wpAny_bind<|wpAny_field uS yg rfl<|wpAny_pure (wpAny_bind<|slicePart_none (wpAny_bind<|Hc pl<|wpAny_bind<|Hc pu<|wpAny_bind<|wpAny_pure ?_));show wpAny _ _ (match Builtin.Slice.sliceAdjust lo hi 1 (n:Int) with|(lo,hi)=>pure (lo,(1:Int),Builtin.Slice.slicePlaces lo hi 1)) _ _ s
 rw[TF lo hi n];show wpAny _ _ (pure (((bh n 0 lo:Nat):Int),(1:Int),Builtin.Slice.slicePlaces ((bh n 0 lo:Nat):Int) ((bh n n hi:Nat):Int) 1)) _ _ s;rw[TH];exact wpAny_pure h
theorem TK(xs:Array Value)(i k:Nat):((List.range k).filterMap fun(m:Nat)=>xs[((i:Int)+(m:Int)*1).toNat]?).toArray=((xs.toList.drop i).take k).toArray:=by
 have e:(fun(m:Nat)=>xs[((i:Int)+(m:Int)*1).toNat]?)=λm=>xs[i+m]?:=by
  funext m
  have:((i:Int)+(m:Int)*1).toNat=i+m:=by lia
  rw[this]
 rw[e];have:=pick_run xs i k;rw[List.filterMap_map] at this;have e2:((λx=>xs[x]?)∘λx=>i+x)=λm=>xs[i+m]?:=rfl;rw[e2] at this;rw[this]
theorem TL{items:Array Value}{vl vu:Value}{lo hi:Option Int}{Q:Value->Shared->Prop}(ht:IsTup s.heap t items)(hs:s.heap.IsSliceOf sl vl vu .none)(pl:IsPart vl lo)(pu:IsPart vu hi)
  (hw:¬(bh items.size 0 lo=0/\bh items.size items.size hi=items.size))
  (h:Q (.ref s.heap.objs.size) {s with heap:=s.heap.push {cls:=.type "tuple",data:=.seq ((items.toList.drop<|bh items.size 0 lo).take<|bh items.size items.size hi - bh items.size 0 lo).toArray}})
  (hsz:items.size<=sizeLine):wpAny (model prog w) A (getItem (.ref t)<|.ref sl) Q E s:=by
 have yh:=by
  show((items.toList.drop<|bh items.size 0 lo).take<|bh items.size items.size hi - bh items.size 0 lo).toArray.size<=sizeLine;rw[zak,zaB,zaz,zbL];omega
 obtain⟨os,uS,He,yg⟩:=id hs;have TM:s.TypeIs (.ref sl) "slice":=⟨os,uS,He⟩;unfold getItem
 try with_reducible refine wpAny_holding ?_
 refine wpAny_bind<|wpAny_sequenceKey ht.typeIs (rfl) ?_
 refine wpAny_bind (wpAny_callSpecial?_slot ht.typeIs PyProof.Rows.slot_tuple_getitem
  (wpAny_call_entry PyProof.Rows.slot_tuple_getitem ht.typeIs entry_tuple_getitem ?_ (args_tuple_getitem _ _)))
 show wpAny _ _ (Builtin.Tuple.tupleItemsOf (.ref t) >>=_) _ _ s;refine wpAny_bind<|tupleItemsOf_ ht (wpAny_bind<|wpAny_typeOf TM (wpAny_bind<|TJ hs pl pu ?_));have Bz:¬((((bh items.size 0 lo:Nat):Int)==0 && (1:Int)==1 && (bh items.size items.size hi - bh items.size 0 lo)==items.size)=true):=by
  intro q;exact hw ⟨by lia,by lia⟩
 show wpAny _ _ (if (((bh items.size 0 lo:Nat):Int)==0 && (1:Int)==1 && (bh items.size items.size hi - bh items.size 0 lo)==items.size)=true then _ else _) _ _ s
 rw[if_neg Bz,TK]
 first
  |exact wpAny_bind (wpAny_newObj_type (wpAny_pure ⟨_,rfl,wpAny_pure h⟩) yh)
  |exact wpAny_bind (wpAny_newObj_type (wpAny_bind<|wpAny_pure<|wpAny_pure ⟨_,rfl,wpAny_pure h⟩) yh)
  |exact wpAny_bind (wpAny_bind<|wpAny_newObj_type (wpAny_pure<|wpAny_pure ⟨_,rfl,wpAny_pure h⟩) yh)
  |exact wpAny_bind (wpAny_bind<|wpAny_newObj_type (wpAny_pure ⟨_,rfl,wpAny_pure h⟩) yh)
end
end HT
namespace L2
open PySem PySem.Spec PyProof.Rows
abbrev TO:=St->Hp->(Option Int->Hp->Prop)->Prop
def PO(X:Cx)(e:Option Expr)(t:TO):Prop:=
 ∀(pins:List (Addr×Obj)) (s:Shared) (σ:St) (H:Hp) (Q:Option Int->Hp->Prop),Inv X pins σ H s->t σ H Q->
  wpAny (model X.prog X.w) X.A (evalPart e X.env) (λu s'=>∃o H',Inv X pins σ H' s'/\IsPart u o/\Q o H') X.xe s
def Hf:TO:=λ_ H Q=>Q none H
def yi(t:TE):TO:=λσ H Q=>t σ H λx H1=>∃i,x=.int i/\Q (some i) H1
theorem intsAre_of:∀{us:List Value},Vals (ns.map V.int) us->IntsAre us ns:=by
 induction ns with
 |nil=>intro us r;cases r;exact .nil
 |cons n ns ih=>
  intro us r;cases r with
  |cons r1 r2=>
   obtain⟨t,e⟩:=r1;subst e;exact .cons n t<|ih r2
section
variable {X:Cx}{e:Expr}{te:TE}{lo hi:Option Expr}{tl th:TO}{pos p2:Pos}
theorem TN:PO X none Hf:=by
 intro pins s σ H Q I h;exact wpAny_pure ⟨none,H,I,.none,h⟩
theorem TQ(h:PE X e te):PO X (some e) (yi te):=by
 intro pins s σ H Q I hw;refine aK (h pins s σ H _ I hw) λu s1 ⟨x,H1,I1,r1,q1⟩=>?_;obtain⟨i,rfl,q⟩:=q1;obtain⟨t,rfl⟩:=r1;exact⟨some i,H1,I1,.int i t,q⟩
def yj(X:Cx)(r:V->Option Int->Option Int->Hp->VK->Prop):Prop:=
 ∀(pins:List (Addr×Obj)) (s:Shared) (σ:St) (H:Hp) (x:V) (v vl vu:Value) (lo hi:Option Int) (sl:Addr) (Q:VK),Inv X pins σ H s->RelV x v->s.heap.IsSliceOf sl vl vu .none->IsPart vl lo->IsPart vu hi->r x lo hi H Q->
  ∃T id,typeLookup (.type T) "__getitem__"=pure (some<|.builtin id)/\s.TypeIs v T/\wpAny (model X.prog X.w) X.A (getItem v<|.ref sl) (EP X pins σ Q) X.xe s
def BA(r:V->Option Int->Option Int->Hp->VK->Prop)(te:TE)(tl th:TO):TE:=λσ H Q=>te σ H λx H1=>tl σ H1 λl H2=>th σ H2 λu H3=>r x l u H3 Q
theorem TR(hr:yj X r)(he:PE X e te)(hl:PO X lo tl)(hu:PO X hi th):PE X (.Subscript e (.Slice lo hi none p2) pos) (BA r te tl th):=by
 intro pins s σ H Q I h;refine Subscript_<|aK (he pins s σ H _ I h) λv s1 ⟨x,H1,I1,r1,q1⟩=>wpAny_Slice<|aK (hl pins s1 σ H1 _ I1 q1) λvl s2 ⟨l,H2,I2,pl,q2⟩=>aK (hu pins s2 σ H2 _ I2 q2) λvu s3 ⟨u,H3,I3,pu,q3⟩=>wpAny_pure ?_;have I4:Inv X pins σ H3 {s3 with heap:=s3.heap.push {cls:=.type "slice",data:=.fields #[vl,vu,.none]}}:=I3.kept λb ob q=>Heap.get?_push_of_some _ q
 obtain⟨T,id,hT,ht,hg⟩:=hr pins {s3 with heap:=s3.heap.push {cls:=.type "slice",data:=.fields #[vl,vu,.none]}} σ H3 x v vl vu l u s3.heap.objs.size Q I4 r1 (Heap.IsSliceOf.new ..) pl pu q3
 exact tail_any ht hT hg (rfl)
def gw(xs:List V)(lo hi:Option Int):List V:=(xs.drop<|HT.bh xs.length 0 lo).take (HT.bh xs.length xs.length hi - HT.bh xs.length 0 lo)
theorem Hg(xs:List V)(lo hi:Option Int):(gw xs lo hi).length<=xs.length:=by
 unfold gw;rw[zaB,zaz];omega
def TU(K:Frag):V->Option Int->Option Int->Hp->VK->Prop:=λx lo hi H Q=>∃a xs,x=.ref a/\aL K H a xs/\
 ¬(HT.bh xs.length 0 lo=0/\HT.bh xs.length xs.length hi=xs.length)/\∀p,H p=none->Q (.ref p) (upd H p<|.tup<|gw xs lo hi)
theorem TV:yj X (TU X.K):=by
 intro pins s σ H x v vl vu lo hi sl Q I rx hs pl pu h;obtain⟨a,xs,rfl,hx,hw,q⟩:=h;cases rx;obtain⟨ao,r,ht,hz⟩:=I.tuple hx;have hlen:=zak▸r.length.symm
 refine⟨"tuple",_,PyProof.Rows.slot_tuple_getitem.lookup,ht.typeIs,HT.TL ht hs pl pu (by lia) ?_ (by lia)⟩
 rw[hlen];refine⟨.ref s.heap.objs.size,_,I.laid (λb ob q=>Heap.get?_push_of_some _ q) (zqR _) ?_,rfl,q _<|I.aF.fresh<|zqR _⟩;exact⟨zaq (Hg xs lo hi) hz,_,(r.drop<|HT.bh xs.length 0 lo).take<|HT.bh xs.length xs.length hi - HT.bh xs.length 0 lo,IsTup.new _ _⟩
def Hh(K:Frag):R2:=λx y H Q=>∃a b xs ys,x=.ref a/\y=.ref b/\aL K H a xs/\aL K H b ys/\xs≠ []/\xs.length+ys.length<=sizeLine/\
 (ys=[]->Q (.ref a) H)/\(ys≠ []->∀p,H p=none->Q (.ref p) (upd H p<|.tup<|xs++ys))
theorem Vals.BB{us:List Value}(r:Vals xs us):us=[]↔xs=[]:=by
 cases r with
 |nil=>simp
 |cons _ _=>simp
theorem TX:bA X (binaryOp .Add) (Hh X.K):=by
 intro pins s σ H x y v u Q I rx ry h;obtain⟨a,b,xs,ys,rfl,rfl,ha,hb,hx,hz,q1,q2⟩:=h;cases rx;cases ry;obtain⟨ao,r1,p1,_⟩:=I.tuple ha;obtain⟨oi,r2,p2,_⟩:=I.tuple hb;refine HT.TC p1 p2 (λz=>hx<|r1.BB.mp z) (λz=>⟨.ref a,H,I,rfl,q1<|r2.BB.mp z⟩) (λz=>?_) (by rw[<-r1.length,<-r2.length];exact hz)
 refine⟨.ref s.heap.objs.size,_,I.laid (λb ob q=>Heap.get?_push_of_some _ q) (zqR _) ?_,rfl,q2 (λw=>z<|r2.BB.mpr w) _<|I.aF.fresh<|zqR _⟩;exact⟨zqA▸hz,_,r1.append r2,IsTup.new _ _⟩
end
def iS(n:Nat)(i:Int):Option Nat:=if 0<=i then (if i<n then some i.toNat else none) else if -(n:Int)<=i then some (i+n).toNat else none
def gN{α:Type}(xs:List α)(i:Int):Option α:=(iS xs.length i).bind λj=>xs[j]?
theorem Hi{j:Nat}(h:iS n i=some j):seqIndex? i n=some j/\j<n/\ -(n:Int)<=i/\i<n:=by
 unfold iS at h;by_cases h0:0<=i
 ·rw[if_pos h0] at h;by_cases h1:i<n
  ·rw[if_pos h1] at h;exact⟨by rw[seqIndex_of h0 h1,(zap h)],by lia,by lia,h1⟩
  ·rw[if_neg h1] at h;cases h
 ·rw[if_neg h0] at h;by_cases h1: -(n:Int)<=i
  ·rw[if_pos h1] at h;exact⟨by rw[seqIndex_neg (by lia) h1,(zap h)],by lia,h1,by lia⟩
  ·rw[if_neg h1] at h;cases h
theorem BC{i:Int}{v:α}(h:gN xs i=some v):∃j,seqIndex? i xs.length=some j/\xs[j]?=some v/\j<xs.length/\ -(xs.length:Int)<=i/\i<xs.length:=by
 unfold gN at h;cases e:iS xs.length i with
 |none=>rw[e] at h;cases h
 |some j=>
  rw[e] at h;obtain⟨h1,h2,h3,h4⟩:=Hi e;exact⟨j,h1,h,h2,h3,h4⟩
theorem fE{xs:List α}{j:Nat}{v:α}(h:xs[j]?=some v):gN xs (j:Int)=some v:=by
 have hj:=(zad.mp h).1;have e:iS xs.length (j:Int)=some j:=by
  unfold iS;rw[if_pos (by lia),if_pos (by lia)];simp
 unfold gN;rw[e];exact h
theorem yk(xs:List α)(v:α):gN (xs++[v]) (-1)=some v:=by
 have hl:(xs++[v]).length=xs.length+1:=by simp
 have e:iS (xs++[v]).length (-1)=some xs.length:=by
  unfold iS;rw[if_neg (by lia),if_pos (by lia)]
  congr 1
  omega
 unfold gN;rw[e]
 simp
def Hj(b:Expr):Prop:= ∀o i,subscripted b false o i=operate [o,i] (getItem o i)
def lJ(X:Cx)(r:R2):Prop:=
 ∀(value slice:Expr) (pins:List (Addr×Obj)) (s:Shared) (σ:St) (H:Hp) (x y:V) (v u:Value) (Q:VK),Inv X pins σ H s->RelV x v->RelV y u->r x y H Q->
  subscripted slice false v u=operate [v,u] (getItem v u)->wpAny (model X.prog X.w) X.A (subscriptTail value slice v u) (EP X pins σ Q) X.xe s
def qg(X:Cx)(id:String)(r:V->List V->Hp->VK->Prop):Prop:=
 ∀(pins:List (Addr×Obj)) (s:Shared) (σ:St) (H:Hp) (x:V) (xs:List V) (v:Value) (us:List Value) (Q:VK),Inv X pins σ H s->RelV x v->Vals xs us->r x xs H Q->
  wpAny (model X.prog X.w) X.A (call (.builtin id) (v::us)) (EP X pins σ Q) X.xe s
section
variable {X:Cx}{a b:Expr}{ta tb:TE}{pos:Pos}
theorem lJ.or(h:lJ X r)(h':lJ X r'):lJ X (λx y H Q=>r x y H Q\/r' x y H Q):=by
 intro value slice pins s σ H x y v u Q I rx ry q hs;rcases q with q|q
 ·exact h value slice pins s σ H x y v u Q I rx ry q hs
 ·exact h' value slice pins s σ H x y v u Q I rx ry q hs
theorem TY(hr:lJ X r)(ha:PE X a ta)(hb:PE X b tb)(hs:Hj b):PE X (.Subscript a b pos) (fO r ta tb):=by
 intro pins s σ H Q I h;exact Subscript_<|Br ha hb I h λv u s2 x y H2 I2 rx ry q=>hr a b pins s2 σ H2 x y v u Q I2 rx ry q (hs _ _)
def Hk(K:Frag):R2:=λx y H Q=>∃p xs i v,x=.ref p/\y=.int i/\aB K H p xs/\gN xs i=some v/\Q v H
def Hl(K:Frag):R2:=λx y H Q=>∃p xs i v,x=.ref p/\y=.int i/\aL K H p xs/\gN xs i=some v/\Q v H
def Hn:R2:=λx y H Q=>∃z i c,x=.str z/\y=.int i/\z.length<=sizeLine/\gN z.cps.toList i=some c/\Q (.str ⟨#[c]⟩) H
theorem TZ:lJ X (Hk X.K):=by
 intro value slice pins s σ H x y v u Q I rx ry h hs;obtain⟨p,xs,i,z,rfl,rfl,hq,he,q⟩:=h;cases rx;obtain⟨t,rfl⟩:=ry;obtain⟨ao,r,pl,hz⟩:=I.list hq;obtain⟨j,h1,h2,h3,h4,h5⟩:=BC he;obtain⟨w,ew,gO⟩:=r.get h2;have hl:=r.length;have hn:=p_;have fin:EP X pins σ Q w s:=⟨z,H,I,gO,q⟩;by_cases h0:0<=i
 ·have hj:=by
   rw[seqIndex_of h0 h5] at h1;exact zap h1
  exact item_listR pl.isList h0 (by lia) (by rw[hj];simpa using ew) fin hs
 ·have hj:(i+(ao.toArray.size:Int)).toNat=j:=by
   rw[seqIndex_neg (by lia) h4] at h1
   rw[zak,<-hl];exact zap h1
  exact subscriptTail_builtinR pl.isList.typeIs slot_list_getitem.lookup
   (wpAny_getItem_list_neg pl.isList (by lia) (by rw[zak] <;>omega) (by lia) (by rw[hj];simpa using ew) ⟨rfl,fin⟩) hs
theorem T_:lJ X (Hl X.K):=by
 intro value slice pins s σ H x y v u Q I rx ry h hs;obtain⟨p,xs,i,z,rfl,rfl,hq,he,q⟩:=h;cases rx;obtain⟨t,rfl⟩:=ry;obtain⟨ao,r,pl,hz⟩:=I.tuple hq;obtain⟨j,h1,h2,h3,h4,h5⟩:=BC he;obtain⟨w,ew,gO⟩:=r.get h2;have hn:=p_;have fin:EP X pins σ Q w s:=⟨z,H,I,gO,q⟩;exact subscriptTail_builtinR pl.typeIs slot_tuple_getitem.lookup
  (getItem_tuple pl (by lia) (by lia) (by rw[zak,<-r.length];exact h1) (by simpa using ew) ⟨rfl,fin⟩) hs
theorem Ua:lJ X Hn:=by
 intro value slice pins s σ H x y v u Q I rx ry h hs;obtain⟨z,i,c,rfl,rfl,hz,he,q⟩:=h;obtain⟨t,rfl⟩:=rx;obtain⟨t',rfl⟩:=ry;obtain⟨j,h1,h2,h3,h4,h5⟩:=BC he;have hl:z.cps.toList.length=z.length:=rfl
 rw[hl] at h1 h4 h5;have hn:=p_;exact tail_any (typeIs_str s z t) slot_str_getitem.lookup (getItem_str (by
  have e1:decide (i< -(2 ^ 63:Int))=false:=zqF (by lia)
  have e2:decide (i≥2 ^ 63)=false:=zqF (by lia)
  rw[e1,e2,zbz]) (by rw[h1];simpa using h2) ⟨.str ⟨#[c]⟩,H,I.tok _,⟨_,rfl⟩,q⟩) hs
theorem Ub(ao:List Value)(n j:Nat)(u:Value):Obj.mapSeq (·.setIfInBounds j u) {cls:=.type "list",data:=.seq ao.toArray n}={cls:=.type "list",data:=.seq (ao.set j u).toArray n}:=by
 simp[Obj.mapSeq]
theorem Inv.lst{σ:St}{H:Hp}{s:Shared}{p:Addr}{xs:List V}(I:Inv X pins σ H s)(h:H p=some (.lst xs)):
  ∃(ao:List Value) (n:Nat),Vals xs ao/\s.heap.get? p=some {cls:=.type "list",data:=.seq ao.toArray n}/\xs.length<=sizeLine:=by
 obtain⟨z,ao,n,r,e⟩:=I.aF p _ h;exact⟨ao,n,r,e,z⟩
theorem Inv.Uc{σ:St}{H:Hp}{s:Shared}{p:Addr}{xs ys:List V}{ao its':List Value}{n n':Nat}{f:Obj->Obj}(I:Inv X pins σ H s)(h:H p=some (.lst xs))
  (ho:s.heap.get? p=some {cls:=.type "list",data:=.seq ao.toArray n}) (hf:f {cls:=.type "list",data:=.seq ao.toArray n}={cls:=.type "list",data:=.seq its'.toArray n'}) (r:Vals ys its') (hz:ys.length<=sizeLine) (t:Nat):
  Inv X pins σ (upd H p<|.lst ys) {s with heap:=s.heap.update p f,toks:=t}:=by
 have e:(s.heap.update p f).get? p=some {cls:=.type "list",data:=.seq its'.toArray n'}:=by
  rw[Heap.get?_update_self f ho (by rw[hf] <;>rfl),hf]
 refine I.write (by rw[h];trivial) (.inl rfl) (λb u hb q=>(Heap.get?_update_other _ _<|Ne.symm hb).trans q) ⟨_,e⟩ ?_
 exact⟨hz,its',n',r,e⟩
def yn:V->V->V->Hp->(Hp->Prop)->Prop:=λo i v H Q=>∃p xs k j,o=.ref p/\i=.int k/\H p=some (.lst xs)/\iS xs.length k=some j/\Q (upd H p<|.lst<|xs.set j v)
theorem set_list:Gq X yn:=by
 intro pins s σ H o i v ov iv u Q I ro ri rv h;obtain⟨p,xs,k,j,rfl,rfl,hp,hj,q⟩:=h;cases ro;obtain⟨t,rfl⟩:=ri;obtain⟨ao,n,r,ho,hz⟩:=I.lst hp;obtain⟨h1,h2,h3,h4⟩:=Hi hj;have hl:=r.length;have hn:=p_;have I':=
  I.Uc hp ho (Ub ao n j u) (r.set rv j) (by rw[zbh];exact hz) s.toks
 by_cases h0:0<=k
 ·have hk:=by
   rw[seqIndex_of h0 h4] at h1;exact zap h1
  exact PySem.W.ki_setAt ho h0 (by lia) (by rw[zak,<-hl];exact h4) (by rw[hk];exact⟨_,I',q⟩)
 ·have hk:(k+(ao.toArray.size:Int)).toNat=j:=by
   rw[seqIndex_neg (by lia) h3] at h1
   rw[zak,<-hl];exact zap h1
  exact PySem.W.ki_setBack ho (by lia) (by rw[zak,<-hl];exact h3) (by lia) (by rw[hk];exact⟨_,I',q⟩)
theorem BD(lo hi:Option Int)(n:Nat):(sliceBounds lo hi none n).1=((HT.bh n 0 lo:Nat):Int)/\(sliceBounds lo hi none n).2.1=((HT.bh n n hi:Nat):Int)/\(sliceBounds lo hi none n).2.2=1:=by
 refine⟨?_,?_,rfl⟩
 ·cases lo with
  |none=>simp[sliceBounds,HT.bh]
  |some i=>
   simp only[sliceBounds,HT.bh,Option.getD_none,show(1:Int) >0 by lia,if_true]
   by_cases h:i<0
   ·simp only[h,if_true] <;>omega
   ·simp only[h,if_false] <;>omega
 ·cases hi with
  |none=>simp[sliceBounds,HT.bh]
  |some i=>
   simp only[sliceBounds,HT.bh,Option.getD_none,show(1:Int) >0 by lia,if_true]
   by_cases h:i<0
   ·simp only[h,if_true] <;>omega
   ·simp only[h,if_false] <;>omega
theorem Ud(ao:List Value)(lo hi:Option Int):slicePick ao.toArray lo hi none=((ao.drop<|HT.bh ao.length 0 lo).take<|HT.bh ao.length ao.length hi - HT.bh ao.length 0 lo).toArray:=by
 obtain⟨h1,h2,h3⟩:=BD lo hi ao.toArray.size;unfold slicePick;rw[h1,h2,h3]
 simp only[sliceRange_one,pick_run,zak] <;>rfl
def Ue(K:Frag):V->Option Int->Option Int->Hp->VK->Prop:=λx lo hi H Q=>∃a xs,x=.ref a/\aB K H a xs/\∀p,H p=none->Q (.ref p) (upd H p<|.lst<|gw xs lo hi)
theorem Ug:yj X (Ue X.K):=by
 intro pins s σ H x v vl vu lo hi sl Q I rx hs pl pu h;obtain⟨a,xs,rfl,hx,q⟩:=h;cases rx;obtain⟨ao,r,ht,hz⟩:=I.list hx;have hlen:=r.length;refine⟨"list",_,slot_list_getitem.lookup,ht.isList.typeIs,wpAny_getItem_list_slice ht.isList hs pl pu .none (by lia) ?_ (by rw[zak] <;>omega)⟩
 rw[Ud,<-hlen];refine⟨.ref s.heap.objs.size,_,I.laid (λb ob q=>Heap.get?_push_of_some _ q) (zqR _) ?_,rfl,q _<|I.aF.fresh<|zqR _⟩;exact⟨zaq (Hg xs lo hi) hz,_,0,(r.drop<|HT.bh xs.length 0 lo).take<|HT.bh xs.length xs.length hi - HT.bh xs.length 0 lo,Heap.get?_push_size _ rfl⟩
def iU:V->Bool
 |.au=>true
 |.bl _=>true
 |.int _=>true
 |.str _=>true
 |_=>false
def iu:V->V->Bool
 |.au,.au=>true
 |.bl a,.bl b=>a==b
 |.bl a,.int b=>(if a then 1 else 0)==b
 |.int a,.bl b=>a==(if b then 1 else 0)
 |.int a,.int b=>a==b
 |.str a,.str b=>a==b
 |_,_=>false
theorem Uh{y x:V}{u v:Value}(ry:RelV y u)(rx:RelV x v)(fy:iU y=true)(fx:iU x=true):SeqAt.EqAt A s u v (iu y x):=by
 cases y with
 |au=>
  cases ry;cases x with
  |au=>cases rx;exact SeqAt.EqAt.same _
  |bl b=>cases rx;exact SeqAt.EqAt.none_bool b
  |int b=>obtain⟨t,rfl⟩:=rx;exact SeqAt.EqAt.none_int b t
  |str b=>obtain⟨t,rfl⟩:=rx;exact SeqAt.EqAt.none_str b t
  |_=>exact absurd (show false=true from fx) zas
 |bl a=>
  cases ry;cases x with
  |au=>cases rx;exact SeqAt.EqAt.bool_none a
  |bl b=>cases rx;exact SeqAt.EqAt.bool_bool a b
  |int b=>obtain⟨t,rfl⟩:=rx;exact SeqAt.EqAt.bool_int a b t
  |str b=>obtain⟨t,rfl⟩:=rx;exact SeqAt.EqAt.bool_str a b t
  |_=>exact absurd (show false=true from fx) zas
 |int a=>
  obtain⟨t',rfl⟩:=ry;cases x with
  |au=>cases rx;exact SeqAt.EqAt.int_none a t'
  |bl b=>cases rx;exact SeqAt.EqAt.int_bool a t' b
  |int b=>obtain⟨t,rfl⟩:=rx;exact SeqAt.EqAt.int_int a t' b t
  |str b=>obtain⟨t,rfl⟩:=rx;exact SeqAt.EqAt.int_str a t' b t
  |_=>exact absurd (show false=true from fx) zas
 |str a=>
  obtain⟨t',rfl⟩:=ry;cases x with
  |au=>cases rx;exact SeqAt.EqAt.str_none a t'
  |bl b=>cases rx;exact SeqAt.EqAt.str_bool a t' b
  |int b=>obtain⟨t,rfl⟩:=rx;exact SeqAt.EqAt.str_int a t' b t
  |str b=>obtain⟨t,rfl⟩:=rx;exact SeqAt.EqAt.str_str a t' b t
  |_=>exact absurd (show false=true from fx) zas
 |_=>exact absurd (show false=true from fy) zas
def fS(x:V)(u:Value):Bool:=match u with
 |.none=>iu .au x
 |.bool b=>iu (.bl b) x
 |.int i _=>iu (.int i) x
 |.str z _=>iu (.str z) x
 |_=>false
theorem BE{y:V}{u:Value}(r:RelV y u)(f:iU y=true):fS x u=iu y x:=by
 cases y with
 |au=>cases r;rfl
 |bl b=>cases r;rfl
 |int i=>obtain⟨t,rfl⟩:=r;rfl
 |str z=>obtain⟨t,rfl⟩:=r;rfl
 |_=>exact absurd (show false=true from f) zas
theorem uT:∀{xs:List V}{us:List Value},Vals xs us->xs.all iU=true->us.any (fS x)=xs.any λy=>iu y x
 |_,_,.nil,_=>rfl
 |y::xs,u::us,.cons r t,f=>by
  rw[zbi,zae] at f;rw[zbl,zbl,BE r f.1,uT t f.2]
theorem sx{x:V}{v:Value}(rx:RelV x v)(fx:iU x=true):∀{xs:List V}{us:List Value},Vals xs us->xs.all iU=true->∀u∈us,SeqAt.EqAt A s u v (fS x u)
 |_,_,.nil,_=>nofun
 |y::xs,u::us,.cons r t,f=>λu' hu=>by
  rw[zbi,zae] at f;rcases zac.mp hu with rfl|hu
  ·rw[BE r f.1];exact Uh r rx f.1 fx
  ·exact sx rx fx t f.2 u' hu
def gP(x:V)(xs:List V):Bool:=xs.any λy=>iu y x
def BF(K:Frag)(neg:Bool):R2:=λx y H Q=>∃p xs,y=.ref p/\(aB K H p xs\/aL K H p xs)/\iU x=true/\xs.all iU=true/\Q (.bl (if neg then !gP x xs else gP x xs)) H
theorem Ui:bA X (compareOp .In) (BF X.K false):=by
 intro pins s σ H x y v u Q I rx ry h;obtain⟨p,xs,rfl,hq,fx,fs,q⟩:=h;cases ry;rcases hq with hq|hq
 ·obtain⟨ao,r,pl,hz⟩:=I.list hq;refine SeqAt.in_listAt (fS x) pl.isList (λw hw=>sx rx fx r fs w (by simpa using hw)) ⟨.bl _,H,I,rfl,?_⟩
  rw[show ao.toArray.any (fS x)=ao.any (fS x) by simp,uT r fs]
  exact q
 ·obtain⟨ao,r,pl,hz⟩:=I.tuple hq;refine SeqAt.in_tupleAt (fS x) pl (λw hw=>sx rx fx r fs w (by simpa using hw)) ⟨.bl _,H,I,rfl,?_⟩
  rw[show ao.toArray.any (fS x)=ao.any (fS x) by simp,uT r fs]
  exact q
theorem Uj:bA X (compareOp .NotIn) (BF X.K true):=by
 intro pins s σ H x y v u Q I rx ry h;obtain⟨p,xs,rfl,hq,fx,fs,q⟩:=h;cases ry;rcases hq with hq|hq
 ·obtain⟨ao,r,pl,hz⟩:=I.list hq;refine SeqAt.notIn_listAt (fS x) pl.isList (λw hw=>sx rx fx r fs w (by simpa using hw)) ⟨.bl _,H,I,rfl,?_⟩
  rw[show ao.toArray.any (fS x)=ao.any (fS x) by simp,uT r fs]
  exact q
 ·obtain⟨ao,r,pl,hz⟩:=I.tuple hq;refine SeqAt.notIn_tupleAt (fS x) pl (λw hw=>sx rx fx r fs w (by simpa using hw)) ⟨.bl _,H,I,rfl,?_⟩
  rw[show ao.toArray.any (fS x)=ao.any (fS x) by simp,uT r fs]
  exact q
theorem dZ.or{r r':List V->Hp->VK->Prop}(h:dZ X f r)(h':dZ X f r'):dZ X f (λxs H Q=>r xs H Q\/r' xs H Q):=by
 intro pins s σ H xs us Q I rs q;rcases q with q|q
 ·exact h pins s σ H xs us Q I rs q
 ·exact h' pins s σ H xs us Q I rs q
theorem Uk:dZ X (.type "list") (λxs H Q=>∃p ys,xs=[.ref p]/\(aB X.K H p ys\/aL X.K H p ys)/\∀l,H l=none->Q (.ref l) (upd H l<|.lst ys)):=by
 intro pins s σ H xs us Q I r h;obtain⟨p,ys,rfl,hq,q⟩:=h;obtain⟨u,rfl,rx⟩:=vals1 r;cases rx;have fin:∀(ao:List Value),Vals ys ao->ys.length<=sizeLine->∀(h':Heap) (c':Nat),(∀b o',s.heap.get? b=some o'->h'.get? b=some o')->
   h'.get? s.heap.objs.size=some {cls:=.type "list",dict:=none,data:=.seq ao.toArray c',slots:= #[]}->EP X pins σ Q (.ref s.heap.objs.size) {s with heap:=h'}:=λao r' hz h' c' kp e=>
  ⟨.ref s.heap.objs.size,_,I.laid kp (zqR _) (show cK X.prog X.w _ h' _ (.lst ys) from⟨hz,ao,c',r',e⟩),rfl,q _<|I.aF.fresh<|zqR _⟩
 rcases hq with hq|hq
 ·obtain⟨ao,r',pl,hz⟩:=I.list hq;have hlen:=r'.length;obtain⟨o,ho,hc,n,hd⟩:=pl.isList;exact call_list_seq p (.inl rfl) ho hc hd (λh' c' kp e=>fin ao r' hz h' c' kp e) (by simp <;>omega)
 ·obtain⟨ao,r',pl,hz⟩:=I.tuple hq;have hlen:=r'.length;obtain⟨o,ho,hc,n,hd⟩:=pl;exact call_list_seq p (.inr rfl) ho hc hd (λh' c' kp e=>fin ao r' hz h' c' kp e) (by simp <;>omega)
def sy(K:Frag)(T:String)(x:V)(H:Hp):Prop:=match x with
 |.str _=>T="str"
 |.int _=>T="int"
 |.ref p=>(T="list"/\∃xs,aB K H p xs)\/(T="tuple"/\∃o,K.lookup p=some o/\o.cls=.type "tuple"/\o.dict=none)\/
   (T="dict"/\((∃kvs,H p=some (.dK kvs))\/∃kvs,H p=some (.dT kvs)))\/(T="set"/\∃S n,H p=some (.set S n))
 |_=>False
theorem Ho{σ:St}{H:Hp}{s:Shared}{T:String}{x:V}{v:Value}(I:Inv X pins σ H s)(r:RelV x v)(ty:sy X.K T x H):
  s.TypeIs v T/\∀a,v=.ref a->∃ob,s.heap.get? a=some ob/\ob.dict=none:=by
 cases x with
 |str z=>
  obtain⟨t,rfl⟩:=r;cases (show T="str" from ty)
  exact⟨typeIs_str s z t,λ_ e=>nomatch e⟩
 |int i=>
  obtain⟨t,rfl⟩:=r;cases (show T="int" from ty)
  exact⟨typeIs_int s i t,λ_ e=>nomatch e⟩
 |ref p=>
  cases r;rcases ty with⟨rfl,xs,hq⟩|⟨rfl,o,hk,hc,hd⟩|⟨rfl,hk⟩|⟨rfl,S,n,hk⟩
  ·obtain⟨ao,_,pl,_⟩:=I.list hq;refine⟨pl.isList.typeIs,λa e=>?_⟩;cases e;obtain⟨o,n,e,c,hd,_⟩:=pl;exact⟨o,e,hd⟩
  ·refine⟨⟨o,I.dE p o hk,hc⟩,λa e=>?_⟩;cases e;exact⟨o,I.dE _ o hk,hd⟩
  ·have z:∃o,s.heap.get? p=some o/\o.ExactDict:=by
    rcases hk with⟨kvs,hk⟩|⟨kvs,hk⟩
    ·obtain⟨_,_,_,_,o,_,_,e,ex,_⟩:=I.aF p _ hk;exact⟨o,e,ex⟩
    ·obtain⟨_,_,_,_,o,_,_,e,ex,_⟩:=I.aF p _ hk;exact⟨o,e,ex⟩
   obtain⟨o,e,ex⟩:=z;refine⟨⟨o,e,ex.1⟩,λa e2=>?_⟩;cases e2;exact⟨o,e,ex.2.1⟩
  ·obtain⟨o,_,_,_,e,ex,_⟩:=I.aF p _ hk;refine⟨⟨o,e,ex.1⟩,λa e2=>?_⟩;cases e2;exact⟨o,e,ex.2.1⟩
 |_=>exact False.elim ty
def Ul(K:Frag)(T:String)(r:V->List V->Hp->VK->Prop)(to:TE):TE:=λσ H Q=>to σ H λx H1=>sy K T x H1/\r x [] H1 Q
def Um(K:Frag)(T:String)(r:V->List V->Hp->VK->Prop)(to:TE)(t:TA):TE:=λσ H Q=>to σ H λx H1=>sy K T x H1/\t σ H1 λxs H2=>r x xs H2 Q
variable {o e:Expr}{es:List Expr}{to:TE}{t:TA}{name:Str}{apos d5:Pos}{T id:String}{r:V->List V->Hp->VK->Prop}
theorem Uo(pa:PlainAttrs T)(slot:Slot T name id)(sA:typeOf (.builtin id)=pure (.type "method_descriptor"))(hm:qg X id r)(ho:PE X o to)
  (BG:attributeBase o name X.env (eval o X.env)=eval o X.env:=by rfl) (BH:(apos.endLine==d5.line)=true:=by rfl):PE X (.Call (.Attribute o name apos) [] [] d5) (Ul X.K T r to):=by
 intro pins s σ H Q I h;refine wpAny_Call_method0_late BG BH<|aK (ho pins s σ H _ I h) λv s1 ⟨x,H1,I1,r1,ty,q1⟩=>?_;obtain⟨h1,h2⟩:=Ho I1 r1 ty;exact⟨T,id,pa,slot,sA,h1,h2,Calls.callWith_builtin rfl<|PySem.evalArgs_none<|hm pins s1 σ H1 x [] v [] Q I1 r1 .nil q1⟩
theorem Up(pa:PlainAttrs T)(slot:Slot T name id)(sA:typeOf (.builtin id)=pure (.type "method_descriptor"))(hm:qg X id r)(ho:PE X o to)(ha:PA X (e::es) t)
  (BG:attributeBase o name X.env (eval o X.env)=eval o X.env:=by rfl)
  (Uq:((backTo d5 (starEach (e::es) X.env)).all (λx=> !x.1) && (backToKw d5 (keywordEach [] X.env)).all (λx=>x.1.isSome)
   && decide ((e::es).length+([]:List Keyword).length+(if ([]:List Keyword).isEmpty then 0 else 1) <30))=true:=by rfl)
  (BH:(apos.endLine==d5.line)=true:=by rfl) (hs:starEach (e::es) X.env=(false,eval e X.env)::starEach es X.env:=by rfl) (Ur:(backTo d5<|starEach es X.env).any (·.1)=false:=by rfl):
  PE X (.Call (.Attribute o name apos) (e::es) [] d5) (Um X.K T r to t):=by
 intro pins s σ H Q I h;refine wpAny_Call_method_late BG Uq BH rfl<|aK (ho pins s σ H _ I h) λv s1 ⟨x,H1,I1,r1,ty,q1⟩=>?_;obtain⟨h1,h2⟩:=Ho I1 r1 ty;refine⟨T,id,pa,slot,sA,h1,h2,?_⟩;have hA:=ha d5 pins s1 σ H1 _ I1 q1;rw[hs] at hA⊢;refine Calls.callWith_builtin (by show(false ||(backTo d5<|starEach es X.env).any (·.1))=false;rw[Ur] <;>rfl)<|Calls.evalArgs_plain ?_
 exact aK hA λus s2 ⟨vs,H2,I2,r2,q2⟩=>hm pins s2 σ H2 x vs v us Q I2 r1 r2 q2
end
theorem Vals.one:∀{x:V}{us:List Value},Vals [x] us->∃u,us=[u]/\RelV x u
 |_,_,.cons r .nil=>⟨_,rfl,r⟩
theorem Vals.zero:∀{us:List Value},Vals [] us->us=[]
 |_,.nil=>rfl
theorem Vals.dropLast{us:List Value}(h:Vals xs us):Vals xs.dropLast us.dropLast:=by
 induction h with
 |nil=>exact .nil
 |cons r t ih=>
  cases t with
  |nil=>exact .nil
  |cons q t'=>exact .cons r ih
theorem Vals.rep{us:List Value}(h:Vals xs us):∀k:Nat,Vals (List.replicate k xs).flatten (List.replicate k us).flatten
 | 0=>.nil
 |k+1=>by
  exact Vals.append h<|Vals.rep h k
theorem Us{α:Type}(l:List α):l.eraseIdx (l.length - 1)=l.dropLast:=by
 induction l with
 |nil=>rfl
 |cons a r ih=>
  cases r with
  |nil=>rfl
  |cons b r=>
   have e:(a::b::r).length - 1=((b::r).length - 1)+1:=by
    have h1:(a::b::r).length=r.length+2:=rfl;have h2:(b::r).length=r.length+1:=rfl;omega
   rw[e,List.eraseIdx_cons_succ,ih]
   all_goals rfl
theorem foldl_rep(ao:List Value):∀(k:Nat) (acc:List Value),
  List.foldl (λx1 x2=>x1++x2) acc.toArray (List.replicate k ao.toArray)=(acc++(List.replicate k ao).flatten).toArray
 | 0,acc=>by simp
 |k+1,acc=>by
  have e:acc.toArray++ao.toArray=(acc++ao).toArray:=by simp
  have e2:(acc++ao)++(List.replicate k ao).flatten=acc++(List.replicate (k+1) ao).flatten:=by
   rw[zba,zbA,zaj]
  rw[<-e2,<-foldl_rep ao k (acc++ao),<-e,zba,List.foldl_cons]
section
variable {X:Cx}{pins:List (Addr×Obj)}{σ:St}{H:Hp}{s:Shared}{l b:Addr}{xs ys zs:List V}
theorem Inv.jO{ao its':List Value}{n:Nat}{f:Array Value->Array Value}{t':Nat}(I:Inv X pins σ H s)(hH:H l=some (.lst xs))
  (e:s.heap.get? l=some {cls:=.type "list",data:=.seq ao.toArray n}) (hf:f ao.toArray=its'.toArray) (hv:Vals ys its') (hz:ys.length<=sizeLine):
  Inv X pins σ (upd H l<|.lst ys) {s with heap:=s.heap.update l (Obj.mapSeq f),toks:=t'}:=by
 have q:=PySem.IsL.update e f;rw[hf] at q;refine I.write (hH▸trivial) (.inl rfl) (λb' u hb hu=>(Heap.get?_update_other s.heap (Obj.mapSeq f)<|Ne.symm hb).trans hu) ⟨_,q⟩ ?_
 exact⟨hz,its',_,hv,q⟩
theorem Inv.Hq(I:Inv X pins σ H s)(hv:Vals ys ao)(hz:ys.length<=sizeLine):
  Inv X pins σ (upd H s.heap.objs.size<|.lst ys) {s with heap:=s.heap.push {cls:=.type "list",data:=.seq ao.toArray},toks:=t'}:=
 I.laid (λ_ _ q=>Heap.get?_push_of_some _ q) (zqR _) ⟨hz,ao,0,hv,Heap.get?_push_size _ rfl⟩
theorem Inv.fresh(I:Inv X pins σ H s):H s.heap.objs.size=none:=I.aF.fresh (zqR _)
theorem Inv.oj(I:Inv X pins σ H s)(hH:H l=some (.lst xs)):xs.length<=sizeLine/\∃(ao:List Value) (n:Nat),Vals xs ao/\xs.length=ao.length/\s.heap.get? l=some {cls:=.type "list",data:=.seq ao.toArray n}:=by
 obtain⟨z,ao,n,r,e⟩:=I.aF l _ hH;exact⟨z,ao,n,r,r.length,e⟩
theorem Hr(h:n<=sizeLine):Builtin.List.listTooLong n=false:=by
 exact zqF (by lia)
end
section
variable {X:Cx}
def Ut:V->List V->Hp->VK->Prop:=λx vs H Q=>∃l xs y,x=.ref l/\vs=[y]/\H l=some (.lst xs)/\xs.length<sizeLine/\Q .au (upd H l<|.lst<|xs++[y])
theorem Uu:qg X "list.append" Ut:=by
 intro pins s σ H x vs v us Q I rx rv h;obtain⟨l,xs,y,rfl,rfl,hH,hz,q⟩:=h;cases rx;obtain⟨u,rfl,ru⟩:=rv.one;obtain⟨z,ao,n,r,hl,e⟩:=I.oj hH;refine call_meets F.slot_list_append ⟨_,e,rfl⟩ F.entry_list_append (F.args_list_append_2 _ _) (PySem.list_append l ao.toArray n u (by rw[zak];omega)) ⟨e,?_⟩
 refine⟨.au,_,I.jO hH e (by simp) (r.append<|.cons ru .nil) ?_,rfl,q⟩
 rw[zqA,zbm];omega
def Uv:V->List V->Hp->VK->Prop:=λx vs H Q=>∃l b xs zs,x=.ref l/\vs=[.ref b]/\H l=some (.lst xs)/\H b=some (.lst zs)/\xs.length+zs.length<=sizeLine/\Q .au (upd H l<|.lst<|xs++zs)
theorem Uw:qg X "list.extend" Uv:=by
 intro pins s σ H x vs v us Q I rx rv h;obtain⟨l,b,xs,zs,rfl,rfl,hH,hB,hz,q⟩:=h;cases rx;obtain⟨u,rfl,ru⟩:=rv.one;cases ru;obtain⟨z,ao,n,r,hl,e⟩:=I.oj hH;obtain⟨z2,oi,n2,r2,BI,e2⟩:=I.oj hB;have hsz:ao.toArray.size+oi.toArray.size<=sizeLine:=by rw[zak,zak];omega
 have BJ:¬(!ao.toArray.isEmpty && Builtin.List.listTooLong (ao.toArray.size+oi.toArray.size))=true:=by
  rw[Hr hsz,Bool.and_false];exact zas
 refine call_meets F.slot_list_extend ⟨_,e,rfl⟩ F.entry_list_extend (F.args_list_extend_2 _ _)
  (AutoSeq1.list_extend_list_list_0 l ao.toArray n b oi.toArray n2 BJ (by lia) (by lia)) ⟨e,e2,?_⟩
 refine⟨.au,_,I.jO hH e (by simp) (r.append r2) ?_,rfl,q⟩
 rw[zqA];omega
def Ux:V->List V->Hp->VK->Prop:=λx vs H Q=>∃l xs y,x=.ref l/\vs=[]/\H l=some (.lst xs)/\xs[xs.length - 1]?=some y/\Q y (upd H l<|.lst xs.dropLast)
theorem Uy:qg X "list.pop" Ux:=by
 intro pins s σ H x vs v us Q I rx rv h;obtain⟨l,xs,y,rfl,rfl,hH,hy,q⟩:=h;cases rx;have BK:=rv.zero;subst BK;obtain⟨z,ao,n,r,hl,e⟩:=I.oj hH;obtain⟨u,hu,ru⟩:=r.get hy;have Uz:=by
  show ao.toArray[ao.length - 1]?=some u;rw[<-Array.getElem?_toList,<-hl];exact hu
 refine call_meets F.slot_list_pop ⟨_,e,rfl⟩ F.entry_list_pop (F.args_list_pop_1 _) (MeetsSeq.list_pop_last l ao.toArray n u Uz (by rw[zak];omega)) ⟨e,?_⟩
 refine⟨y,_,I.jO hH e ?_ r.dropLast ?_,ru,q⟩
 ·rw[zak,List.eraseIdxIfInBounds_toArray,Us]
 ·rw[zbN];omega
def UA:V->List V->Hp->VK->Prop:=λx vs H Q=>∃l xs,x=.ref l/\vs=[]/\H l=some (.lst xs)/\Q .au (upd H l<|.lst [])
theorem UB:qg X "list.clear" UA:=by
 intro pins s σ H x vs v us Q I rx rv h;obtain⟨l,xs,rfl,rfl,hH,q⟩:=h;cases rx;have BK:=rv.zero;subst BK;obtain⟨z,ao,n,r,hl,e⟩:=I.oj hH;refine call_meets F.slot_list_clear ⟨_,e,rfl⟩ F.entry_list_clear (F.args_list_clear_1 _) (AutoSeq1.list_clear_list_0 l ao.toArray n (by rw[zak];omega)) ⟨e,?_⟩
 exact⟨.au,_,I.jO hH e rfl .nil<|zqZ _,rfl,q⟩
def Hs:R2:=λx y H Q=>∃l b xs zs,x=.ref l/\y=.ref b/\H l=some (.lst xs)/\H b=some (.lst zs)/\xs.length+zs.length<=sizeLine/\∀p,H p=none->Q (.ref p) (upd H p<|.lst<|xs++zs)
theorem UC:bA X (binaryOp .Add) Hs:=by
 intro pins s σ H x y v u Q I rx ry h;obtain⟨l,b,xs,zs,rfl,rfl,hH,hB,hz,q⟩:=h;cases rx;cases ry;obtain⟨z,ao,n,r,hl,e⟩:=I.oj hH;obtain⟨z2,oi,n2,r2,BI,e2⟩:=I.oj hB;refine PySem.P.add_list e e2 ?_ (by rw[zak,zak];omega)
 have ea:ao.toArray++oi.toArray=(ao++oi).toArray:=by simp
 rw[ea];exact⟨.ref _,_,I.Hq (r.append r2) (by rw[zqA];omega),rfl,q _ I.fresh⟩
def Ht:R2:=λx y H Q=>∃l k xs,x=.ref l/\y=.int k/\H l=some (.lst xs)/\ -(2 ^ 63)<=k/\k<2 ^ 63/\xs.length*k.toNat<=sizeLine/\
 ∀p,H p=none->Q (.ref p) (upd H p<|.lst (List.replicate k.toNat xs).flatten)
theorem len_rep{α:Type}(xs:List α)(k:Nat):(List.replicate k xs).flatten.length=k*xs.length:=by simp
theorem UD:bA X (binaryOp .Mult) Ht:=by
 intro pins s σ H x y v u Q I rx ry h;obtain⟨l,k,xs,rfl,rfl,hH,h1,h2,hz,q⟩:=h;cases rx;obtain⟨t,rfl⟩:=ry;obtain⟨z,ao,n,r,hl,e⟩:=I.oj hH;have hlen:ao.toArray.size*k.toNat<=sizeLine:=by rw[zak,<-hl];exact hz
 have UE:¬ao.toArray.size*k.toNat>(2 ^ 63 - 1) / 8:=by
  have:(sizeLine:Nat)<= (2 ^ 63 - 1) / 8:=by decide
  omega
 have UG:¬(!Builtin.List.listFitsIndex k)=true:=by
  rw[fitsIndex_both h1 h2];exact zas
 have BJ:¬Builtin.List.listTooLong (ao.toArray.size*k.toNat)=true:=by
  rw[Hr hlen];exact zas
 have UH:List.foldl (λx1 x2=>x1++x2) #[] (List.replicate (if ao.toArray.isEmpty=true then 0 else k.toNat) ao.toArray)=(List.replicate k.toNat ao).flatten.toArray:=by
  have f0:=λm=>by
   have:=foldl_rep ao m [];rw[zbB] at this;exact this
  rw[f0];cases ao with
  |nil=>simp
  |cons a r'=>rw[if_neg (by simp)]
 refine wpAny_binaryOp_repeat_ref (rfl) ⟨_,e,rfl⟩ (λs'=>typeIs_int s' k t) noFill_list_mul F.fills_int_mul F.slot_int_rmul repeat_list F.slot_int_index.lookup
  (call_meets F.slot_int_rmul (typeIs_int s k t) F.entry_int_rmul (F.args_int_rmul_2 _ _) (int___rmul___int_list k t l ao.toArray n)
   ⟨e,rfl,⟨_,e,rfl⟩,call_meets F.slot_list_mul ⟨_,e,rfl⟩ F.entry_list_mul (F.args_list_mul_2 _ _) (AutoListH.list___mul___list_int_3 l ao.toArray n k t UG UE BJ) ⟨e,?_⟩⟩)
 rw[UH];exact⟨.ref _,_,I.Hq (r.rep k.toNat) (by rw[len_rep,Nat.mul_comm];exact hz),rfl,q _ I.fresh⟩
end
end L2
namespace Hu
open PySem PySem.W PySem.Calls PyProof.Rows
theorem UI{h:Heap}:∀(ns:List Int) (vs:List Value),WellAll P h vs (ns.map WData.int)->IntsAre vs ns:=by
 intro ns
 induction ns with
 |nil=>
  intro vs w;cases w;exact .nil
 |cons n ns ih=>
  intro vs w;cases w with
  |cons a b=>
   cases a;exact .cons _ _<|ih _ b
theorem UJ{l:OpenLaw}{n:Nat}(hn:l.most=some n){P:Params}{h:Heap}{args:List WData}{vals:List Value}
  (mL:l.row.toRowW.claim.pre args=true) (yp:WellAll P h vals args):
  ∃a vs ns,vals=[Value.ref a]/\args=[WData.list<|ns.map WData.int]/\h.get? a=some {cls:=.type "list",data:=.seq vs.toArray}/\IntsAre vs ns/\ns.length<=n:=by
 obtain⟨d,r,rfl,h1,h2⟩:=hasAllW_cons ((pre_splitW mL).1);obtain rfl:=hasAllW_nil h2;obtain⟨xs,rfl,h3⟩:=hasW_list h1;obtain⟨ns,rfl⟩:=items_int h3;have hlen:ns.length<=n:=by
  have h4:=by
   have h4:=(holds_andW ((pre_splitW mL).2)).1;rw[hn] at h4;exact h4
  have h5:=condW_of h4 (w_not<|w_lt w_lit<|w_len_list<|w_arg rfl);refine Nat.le_of_not_lt λq=>?_
  first
   | (rw[zqT q'] at h5;exact absurd h5 (rfl))
   | (simp at h5;omega)
 cases yp with
 |cons w1 w2=>
  cases w2;cases w1 with
  |list ho om=>exact⟨_,_,ns,rfl,rfl,ho,UI ns _ om,hlen⟩
theorem UL(l:OpenLaw)(args:List WData):l.row.toRowW.claim.post args (.bool true) args=true:=
 postW_of
  (show WShape.has [] (.bool true) .bool=true by first|rfl|decide|simp)
  (show(WTm.eq .res<|.lit<|.bool true).value [] {args:=args,res:=some (.bool true),after:=args}=some (.bool<|true==true) from w_eq_bool (w_res rfl) w_lit) rfl
theorem UM{l:OpenLaw}{n:Nat}{q:Program}{loose:List Str}{XP:(Str->Option Value)->Heap->Prop}{YP:World->Heap->Prop}{d:DefRec}
  (hn:l.most=some n) (uU:d.params.defaults=[])
  (call:∀(w:World) (s₀ s₁:Shared) (mg mb:Str->Option Value) (fa:Addr) (o:Obj) (pm cd doc:Value) (a:Addr) (vs:List Value) (ns:List Int),
   Ground q loose [] XP w s₀ mg mb s₁.heap->YP w s₁.heap->
   s₁.heap.get? fa=some o->o.data=.func (docDef d.name d.params d.body d.scope pm cd doc)->s₁.heap.CodeRec cd d.name->mg d.name=some (.ref fa)->
   s₁.heap.get? a=some {cls:=.type "list",data:=.seq vs.toArray}->IntsAre vs ns->ns.length<=n->s₁.gens= #[]->
   codeAny (model l.prog w) callerA (.call (.ref fa) ⟨[.ref a],[]⟩) (λr s'=>r=.ok (.ret (.bool true))/\OldK s₁.heap s'.heap/\s'.os=s₁.os/\AllBare s'.gens) s₁):
  WalkO q loose XP YP l.row.toRowW d [] (λf vs=>PySem.call f vs):=by
 intro w s₀ s₁ mg mb G Y fa o pm cd doc dV kV ho hd lF hD qh hg args vals as mL aix hrd yp hlo;obtain rfl:dV=.none:=Dflts.none hD uU;obtain rfl:kV=.none:=Dflts.noKw hD;obtain⟨a,vs,ns,rfl,rfl,BL,hints,hlen⟩:=UJ hn mL yp;refine enter_call<|codeAny_mono (call w s₀ s₁ mg mb fa o pm cd doc a vs ns G Y ho (fd_plain hd) lF qh BL hints hlen hg) λr s' hq=>?_;obtain⟨rfl,h2,h3,h4⟩:=hq;exact⟨.inl ⟨.bool true,.bool true,[],rfl,λ_=>rfl,.bool true,UL l _,λ_=>⟨List.Pairwise.nil,λ_ hm=>(nomatch hm)⟩⟩,h2,h3,h4⟩
section
variable {prog:Program}{w:World}{A:Around}{E:Value->Shared->Prop}{s:Shared}{K:Frag}
end
end Hu
namespace L2
open PySem PySem.Spec PyProof.Rows
theorem Hv:∀{vs:List Value}{ns:List Int},IntsAre vs ns->Vals (ns.map V.int) vs
 |_,_,.nil=>.nil
 |_,_,.cons n t h=>.cons ⟨t,rfl⟩ (Hv h)
def BM(H:Hp):Prop:= ∀b,H b=none\/∃o xs,H b=some (.cj o<|.lst xs)
theorem UN{K:Frag}{mg mb:Str->Option Value}{CX:cU}{k:Nat}{fa a:Addr}{fd:FuncData}{x:Str}{sp:Sp}{s₁:Shared}{vs:List Value}{ns:List Int}
  (KX:K.In s₁.heap) (yq:s₁.heap.Ns mainGlobals mg) (hb:s₁.heap.Ns builtinsNs mb) (UO:∀x:Str,x≠"__name__"->mb x=bootBuiltins x) (UP:s₁.heap.NoLimit) (hg:s₁.gens= #[])
  (ha:s₁.heap.get? a=some {cls:=.type "list",data:=.seq vs.toArray}) (hi:IntsAre vs ns) (hl:ns.length<=sizeLine) (hr:dO k callerA)
  (F:∀base:Heap,K.In base->base.Ns mainGlobals mg->dz P w K mg base CX k fa fd [x] sp) (UQ:∀(s:Shared) (u:Value),BindsTo s fd ⟨[u],[]⟩ [(x,u)])
  (oh:∀H:Hp,BM H->aB K H a (ns.map V.int)->sp [.ref a] H (λv _=>v=.bl true) λ_ _ _=>False)
  (BN:∀H e s',CX [] H s₁ (λ_ _ _=>False) e s'->False):
  codeAny (model P w) callerA (.call (.ref fa) ⟨[.ref a],[]⟩) (λr s'=>r=.ok (.ret<|.bool true)/\OldK s₁.heap s'.heap/\s'.os=s₁.os/\AllBare s'.gens) s₁:=by
 have rv:=Hv hi;have core:∀H:Hp,BM H->aB K H a (ns.map V.int)->bC P w H s₁.heap->(∀b,H b≠none->b=a)->(H a≠none->K.lookup a=none)->
   codeAny (model P w) callerA (.call (.ref fa) ⟨[.ref a],[]⟩) (λr s'=>r=.ok (.ret<|.bool true)/\OldK s₁.heap s'.heap/\s'.os=s₁.os/\AllBare s'.gens) s₁:=by
  intro H hO hS aF hA hK;have oo:∀{b:Addr}{o:Obj},s₁.heap.get? b=some o->H b=none->(mG s₁.heap H).get? b=some o:=λe n=>Ru e n;have uQ:∀{b:Addr}{o:Obj}{es:Array DictEntry}{ep:Nat},s₁.heap.get? b=some o->o.data=.dict es ep->H b=none:=λ{b o es ep} e d=>by
   cases q:H b with
   |none=>rfl
   |some u=>
    have e':=hA b (by lia)
    subst e';rw[ha] at e;cases e;cases d
  have yr:∀{b:Addr}{m:Str->Option Value},s₁.heap.Ns b m->(mG s₁.heap H).Ns b m:=λ{b m} ⟨o,es,ep,e,d,r⟩=>⟨o,es,ep,oo e<|uQ e d,d,r⟩;have Hw:=λb o e=>oo (KX b o e) (by
   cases q:H b with
   |none=>rfl
   |some u=>
    have e':b=a:=hA b (by lia)
    subst e';rw[hK (by lia)] at e;cases e)
  have hM:Mod K mg (mG s₁.heap H):=⟨Hw,yr yq,⟨mb,yr hb,UO⟩,let ⟨mc,h1,h2⟩:=UP;⟨mc,yr h1,h2⟩⟩;have e0:oa P w K mg (mG s₁.heap H) callerA [] s₁ H:=⟨rfl,hM,λb o e=>Rv e,zbk<|Rt _ _,trivial,λb hb=>absurd (show b∈ ([]:List Addr) from hb) (by simp),aF,.of_eq hg⟩
  refine codeAny_mono ((F _ Hw<|yr yq).run callerA [] s₁ H ⟨[.ref a],[]⟩ [.ref a] [.ref a] _ _ hr e0 (UQ s₁<|.ref a) (.cons rfl .nil)<|oh H hO hS) λr s' h=>?_;cases r with
  |error e=>exact(BN H e s' h).elim
  |ok fl=>
   cases fl with
   |next=>exact False.elim h
   |brk=>exact False.elim h
   |cont=>exact False.elim h
   |ret u=>
    obtain⟨v,H',os,bare,un,UR,r',q⟩:=h;subst q;obtain rfl:u=Value.bool true:=r';refine⟨rfl,OldK.of_keep λb o e=>?_,os,bare⟩;cases q:H b with
    |none=>exact un.keep b o e q (by intro z;exact absurd (show b∈ ([]:List Addr) from z) (by simp)) (by simp)
    |some u=>
     rcases hO b with z|⟨ob,xs,z⟩
     ·rw[q] at z;cases z
     ·obtain⟨e1,_⟩:=aF b _ z;obtain⟨e2,_⟩:=UR b _ (un.h9 b ob _ z);rw[e] at e1;cases e1;exact e2
 cases hk:K.lookup a with
 |some o=>
  have e:=KX a o hk;rw[ha] at e;cases e;refine core (λ_=>none) (λ_=>.inl rfl) (.inr ⟨_,vs.toArray,_,hk,rfl,rfl,rfl,by rw[zak,hi.length];exact hl,by lia⟩) (λb u z=>by lia) (λb z=>absurd rfl z) λz=>absurd rfl z
 |none=>
  refine core (λb=>if b=a then some (.cj {cls:=.type "list",data:=.seq vs.toArray}<|.lst<|ns.map V.int) else none) (λb=>?_) (.inl<|.inr ⟨{cls:=.type "list",data:=.seq vs.toArray},if_pos rfl⟩) (λb u z=>?_) (λb z=>?_) λ_=>hk
  ·by_cases hb:b=a
   ·exact .inr ⟨_,_,if_pos hb⟩
   ·exact .inl (if_neg hb)
  ·by_cases hb:b=a
   ·cases ((if_pos hb).symm.trans z);subst hb;exact⟨ha,by rw[zaf];exact hl,vs,_,rv,ha⟩
   ·cases ((if_neg hb).symm.trans z)
  ·by_cases hb:b=a
   ·exact hb
   ·exact absurd (if_neg hb) z
theorem US{l:PySem.W.OpenLaw}{n k:Nat}{q:Program}{loose:List Str}{XP:(Str->Option Value)->Heap->Prop}{YP:World->Heap->Prop}{d:DefRec}{K:Params->Frag}{CX:World->cU}{sp:World->Sp}{x:Str}
  (hn:l.most=some n) (jK:n<=sizeLine) (uU:d.params.defaults=[]) (hr:dO k callerA)
  (hY:∀(w:World) (h:Heap),YP w h->(K w.params).In h)
  (F:∀(w:World) (mg:Str->Option Value) (fa:Addr) (h:Heap),(K w.params).In h->h.Ns mainGlobals mg->mg d.name=some (.ref fa)->
   ∃fd:FuncData,(∀(s:Shared) (u:Value),BindsTo s fd ⟨[u],[]⟩ [(x,u)])/\
    ∀base:Heap,(K w.params).In base->base.Ns mainGlobals mg->dz l.prog w (K w.params) mg base (CX w) k fa fd [x] (sp w))
  (oh:∀(w:World) (H:Hp) (a:Addr) (ns:List Int),ns.length<=n->BM H->aB (K w.params) H a (ns.map V.int)->sp w [.ref a] H (λv _=>v=.bl true) λ_ _ _=>False)
  (BN:∀(w:World) (H:Hp) (s:Shared) (e:Value) (s':Shared),CX w [] H s (λ_ _ _=>False) e s'->False):
  PySem.W.WalkO q loose XP YP l.row.toRowW d [] (λf vs=>PySem.call f vs):=by
 refine Hu.UM hn uU λw s₀ s₁ mg mb fa o pm cd doc a vs ns G Y ho hd lF qh BL hints hlen hg=>?_;have KX:=hY w _ Y;obtain⟨fd,hb,hF⟩:=F w mg fa _ KX G.T.g qh;exact UN KX G.T.g G.T.b G.T.builtins G.T.nolimit hg BL hints (zaq hlen jK) hr hF hb (λH hO hS=>oh w H a ns hlen hO hS) λH e s'=>BN w H s₁ e s'
end L2
namespace L2
open PySem PySem.Spec PyProof.Rows
def inClass(s:Stmt)(j:Nat):Stmt:=match s with
 |.ClassDef _ _ _ body _ _ _ _ _ _ _=>body.getD j (.Pass ⟨0,0,0,0⟩)
 |_=>.Pass ⟨0,0,0,0⟩
def jj(s:Stmt):Arguments:=match s with
 |.FunctionDef _ a _ _ _ _ _ _ _ _=>a
 |_=> {posonlyargs:=[],args:=[],vararg:=none,kwonlyargs:=[],kw_defaults:=[],kwarg:=none,defaults:=[]}
def gQ(s:Stmt):List Stmt:=match s with
 |.FunctionDef _ _ b _ _ _ _ _ _ _=>b
 |_=>[]
def gz(s:Stmt):Scope:=match s with
 |.FunctionDef _ _ _ _ _ _ sc _ _ _=>sc
 |_=> {kind:=.function,names:=[],isGenerator:=false,isCoroutine:=false}
abbrev uV:cU:=λ_ _ _ _ _ _=>False
abbrev E0:XK:=λ_ _ _=>False
structure qj (K:Frag) (x qual:Str) (st:Stmt) (f:Addr) (fd:FuncData):Prop where
 ex:∃(oc:Value) (od:Option Addr) (kV doc pm:Value) (an:Option Addr) (bL ct:Value) (ji:Array (Option Value)),
  fd=PySem.W.fnOf x qual (jj st) (gQ st) (gz st) .none kV doc pm an bL ct/\K.lookup f=some ⟨oc,od,.func fd,ji⟩/\PySem.W.codeIn K bL qual=true
 kp:PySem.W.keepIn K (.ref f)=true
section
variable {P:Program}{w:World}{K:Frag}{mg:Str->Option Value}{base:Heap}
theorem qj.binds{st:Stmt}{f:Addr}{fd:FuncData}{ps:List Str}(F:qj K x qual st f fd)
  (h:∀(kV doc pm:Value) (an:Option Addr) (bL ct:Value) (us:List Value),us.length=ps.length->bindArgs (PySem.W.fnOf x qual (jj st) (gQ st) (gz st) .none kV doc pm an bL ct) ⟨us,[]⟩=pure (ps.zip us)):Binds K fd ps []:=by
 obtain⟨oc,od,kV,doc,pm,an,bL,ct,ji,rfl,lk,lF⟩:=F.ex;exact .all<|h kV doc pm an bL ct
theorem Hx{st:Stmt}{f:Addr}{oc:Value}{od an:Option Addr}{ji:Array (Option Value)}{kV doc pm bL ct:Value}(l:K.lookup f=some ⟨oc,od,.func<|PySem.W.fnOf x qual (jj st) (gQ st) (gz st) .none kV doc pm an bL ct,ji⟩)
  (c:PySem.W.codeIn K bL qual=true) (k:PySem.W.keepIn K (.ref f)=true):qj K x qual st f (PySem.W.fnOf x qual (jj st) (gQ st) (gz st) .none kV doc pm an bL ct):=⟨⟨oc,od,kV,doc,pm,an,bL,ct,ji,rfl,l,c⟩,k⟩
end
theorem iy{B:Prop}(h:B):if false=true then A else B:=by lia
theorem fU{B:Prop}(h:A):if true=true then A else B:=by lia
theorem fV{B:Prop}[Decidable c](h1:c->A)(h2:¬c->B):if c then A else B:=by lia
def aC(H H':Hp):Prop:= ∀b o,H b=some o->H' b=some o
theorem aC.refl(H:Hp):aC H H:=λ_ _ h=>h
theorem aC.trans(a:aC H H1)(b:aC H1 H2):aC H H2:=λc o h=>b c o (a c o h)
theorem aC.free(e:aC H H'){l:Addr}(h:H' l=Option.none):H l=Option.none:=by
 cases q:H l with
 |none=>rfl
 |some o=>
  rw[e l o q] at h;cases h
theorem aC.seq{K:Frag}{H H':Hp}{a:Addr}{xs:List V}(e:aC H H')(h:aB K H a xs):aB K H' a xs:=by
 rcases h with(h|⟨o,h⟩)|h
 ·exact .inl (.inl<|e _ _ h)
 ·exact .inl (.inr ⟨o,e _ _ h⟩)
 ·exact .inr h
section
variable {κ:Type} [DecidableEq κ]
def c5(kvs:List (κ×V))(k:κ):Option V:=(kvs.find? λkv=>decide (kv.1=k)).map (·.2)
def putK(kvs:List (κ×V))(k:κ)(v:V):List (κ×V):=
 if (kvs.any λkv=>decide (kv.1=k))=true then kvs.map (λkv=>if kv.1=k then (kv.1,v) else kv) else kvs++[(k,v)]
def fX(kvs:List (κ×V))(k:κ):List (κ×V):=kvs.filter λkv=>decide (kv.1≠k)
theorem gR{r:List (κ×V)}{k:κ}(e:p.1=k):c5 (p::r) k=some p.2:=by simp[c5,zaO,e]
theorem e9{r:List (κ×V)}{k:κ}(e:¬p.1=k):c5 (p::r) k=c5 r k:=by simp[c5,zaO,e]
theorem uW(k:κ):∀kvs:List (κ×V),(kvs.any λkv=>decide (kv.1=k))=(c5 kvs k).isSome
 |[]=>rfl
 |p::r=>by
  rw[zbl];by_cases e:p.1=k
  ·simp only[gR e,zqT e,Bool.true_or,Option.isSome_some]
  ·rw[e9 e,zqF e];exact uW k r
theorem Hy(k j:κ)(y:V):∀kvs:List (κ×V),c5 (kvs.map λkv=>if kv.1=k then (kv.1,y) else kv) j=(c5 kvs j).map λx=>if j=k then y else x
 |[]=>rfl
 |p::r=>by
  have ih:=Hy k j y r;rw[zat];by_cases h:p.1=k
  ·rw[if_pos h];by_cases e:p.1=j
   ·rw[gR (p:=(p.1,y)) e,gR e,zaV,if_pos<|e.symm.trans h]
   ·rw[e9 (p:=(p.1,y)) e,e9 e,ih]
  ·rw[if_neg h];by_cases e:p.1=j
   ·rw[gR e,gR e,zaV,if_neg<|λz=>h<|e.trans z]
   ·rw[e9 e,e9 e,ih]
theorem Hz(k j:κ)(y:V):∀kvs:List (κ×V),c5 kvs k=none->c5 (kvs++[(k,y)]) j=if j=k then some y else c5 kvs j
 |[],_=>by
  by_cases e:k=j
  ·rw[if_pos e.symm];exact gR e
  ·rw[if_neg<|λz=>e z.symm];exact e9 e
 |p::r,hn=>by
  rw[zaW];have hk:¬p.1=k:=λz=>by rw[gR z] at hn;cases hn
  rw[e9 hk] at hn;by_cases e:p.1=j
  ·rw[gR e,gR e,if_neg<|λz=>hk<|e.trans z]
  ·rw[e9 e,e9 e,(Hz k j y r hn)]
theorem UT(kvs:List (κ×V))(k j:κ)(y:V):c5 (putK kvs k y) j=if j=k then some y else c5 kvs j:=by
 unfold putK;by_cases a:(kvs.any λkv=>decide (kv.1=k))=true
 ·rw[if_pos a,Hy];rw[uW] at a;by_cases e:j=k
  ·obtain⟨x,hx⟩:=Option.isSome_iff_exists.mp a;rw[if_pos e,e,hx,zaV,if_pos rfl]
  ·rw[if_neg e];cases c5 kvs j with
   |none=>rfl
   |some x=>rw[zaV,if_neg e]
 ·rw[if_neg a];refine Hz k j y kvs ?_;rw[uW] at a;cases q:c5 kvs k with
  |none=>rfl
  |some x=>rw[q] at a;exact(a rfl).elim
theorem yt(kvs:List (κ×V))(k:κ)(v:V):(putK kvs k v).length<=kvs.length+1:=by
 unfold putK
 split
 ·rw[zaf];omega
 ·rw[zqA,zaw,zbb];omega
theorem yu{k:κ}(v:V)(h:c5 kvs k=none):putK kvs k v=kvs++[(k,v)]:=by
 unfold putK;rw[uW,h];exact if_neg (by simp)
theorem gL.uX{u:Option Value}(r:gL o u):o.isSome=u.isSome:=by
 cases o with
 |none=>cases u with
  |none=>rfl
  |some _=>exact(show False from r).elim
 |some _=>cases u with
  |none=>exact(show False from r).elim
  |some _=>rfl
theorem KV.val(r:KV kvs vs)(k:κ):gL (c5 kvs k) (valueAt vs k):=by
 induction r with
 |nil=>exact True.intro
 | @cons p q ps qs h t ih=>
  obtain⟨h1,h2⟩:=h;by_cases e:p.1=k
  ·have e':=h1.symm.trans e;have b:valueAt (q::qs) k=some q.2:=by simp[valueAt,zaO,e']
   rw[gR e,b];exact h2
  ·have e':¬q.1=k:=λz=>e (h1.trans z);have b:valueAt (q::qs) k=valueAt qs k:=by simp[valueAt,zaO,e']
   rw[e9 e,b];exact ih
theorem KV.any{vs:List (κ×Value)}(r:KV kvs vs)(k:κ):(kvs.any λkv=>decide (kv.1=k))=vs.any λkv=>decide (kv.1=k):=by
 induction r with
 |nil=>rfl
 |cons h t ih=>rw[zbl,zbl,ih,h.1]
theorem KV.BO(r:KV kvs vs)(k:κ){y:V}{u:Value}(ry:RelV y u):
  KV (kvs.map λkv=>if kv.1=k then (kv.1,y) else kv) (vs.map λkv=>if kv.1=k then (kv.1,u) else kv):=by
 induction r with
 |nil=>exact .nil
 | @cons p q ps qs h t ih=>
  rw[zat,zat];refine .cons ?_ ih;obtain⟨h1,h2⟩:=h;by_cases e:p.1=k
  ·rw[if_pos e,if_pos<|h1.symm.trans e];exact⟨h1,ry⟩
  ·rw[if_neg e,if_neg<|λz=>e<|h1.trans z];exact⟨h1,h2⟩
theorem KV.put{vs:List (κ×Value)}(r:KV kvs vs)(k:κ){y:V}{u:Value}(ry:RelV y u):KV (putK kvs k y) (stored vs k u):=by
 unfold putK stored;rw[r.any k];by_cases e:(vs.any λkv=>decide (kv.1=k))=true
 ·rw[if_pos e,if_pos e];exact r.BO k ry
 ·rw[if_neg e,if_neg e];exact Paired.snoc r ⟨rfl,ry⟩
theorem KV.drop(r:KV kvs vs)(k:κ):KV (fX kvs k) (without vs k):=by
 unfold fX without
 induction r with
 |nil=>exact .nil
 | @cons p q ps qs h t ih=>
  obtain⟨h1,h2⟩:=h;rw[List.filter_cons,List.filter_cons];by_cases e:p.1=k
  ·have a:¬decide (p.1≠k)=true:=by lia
   have b:¬decide (q.1≠k)=true:=by lia
   rw[if_neg a,if_neg b];exact ih
  ·have a:decide (p.1≠k)=true:=by lia
   have b:decide (q.1≠k)=true:=by lia
   rw[if_pos a,if_pos b];exact .cons ⟨h1,h2⟩ ih
theorem KV.length{vs:List (κ×Value)}(r:KV kvs vs):kvs.length=vs.length:=Paired.length r
theorem HA(kvs:List (κ×V))(k:κ):(fX kvs k).length<=kvs.length:=List.length_filter_le _ _
end
theorem qk{w:World}{k:Key}{u:Value}(r:RelV (kV k) u):(eO P w).is k u=true:=by
 cases k with
 |inl i=>obtain⟨t,e⟩:=(show ∃t,u=Value.int i t from r);subst e;exact FW P w i t
 |inr x=>obtain⟨t,e⟩:=(show ∃t,u=Value.str x t from r);subst e;exact FX P w x t
theorem HB{w:World}:∀{ks:List Key}{us:List Value},Vals (ks.map kV) us->ItemsAre (eO P w) ks us
 |[],_,r=>by cases r;exact .nil
 |k::ks,_,r=>by
  cases r with
  |cons h t=>exact .cons (qk h) (HB t)
abbrev KT(H:Hp):List (List Key×V)->List (List Key×Addr×Value)->Prop:=Paired λp q=>p.1=q.1/\H q.2.1=some (.tup<|p.1.map kV)/\RelV p.2 q.2.2
theorem KT.val{xs:List (List Key×Addr×Value)}(r:KT H kvs xs)(k:List Key):gL (c5 kvs k) ((atKey xs k).map (·.2)):=by
 induction r with
 |nil=>exact True.intro
 | @cons p q ps qs h t ih=>
  obtain⟨h1,_,h2⟩:=h;by_cases e:p.1=k
  ·have e':=h1.symm.trans e;have b:atKey (q::qs) k=some q.2:=by simp[atKey,zaO,e']
   rw[gR e,b];exact h2
  ·have e':¬q.1=k:=λz=>e (h1.trans z);have b:atKey (q::qs) k=atKey qs k:=by simp[atKey,zaO,e']
   rw[e9 e,b];exact ih
theorem KT.BO{xs:List (List Key×Addr×Value)}(r:KT H kvs xs)(k:List Key){y:V}{u:Value}(ry:RelV y u):
  KT H (kvs.map λkv=>if kv.1=k then (kv.1,y) else kv) (xs.map<|putAt k u):=by
 induction r with
 |nil=>exact .nil
 | @cons p q ps qs h t ih=>
  rw[zat];refine .cons ?_ ih;obtain⟨h1,h2,h3⟩:=h;unfold putAt;by_cases e:p.1=k
  ·rw[if_pos e,if_pos<|h1.symm.trans e];exact⟨h1,h2,ry⟩
  ·rw[if_neg e,if_neg<|λz=>e<|h1.trans z];exact⟨h1,h2,h3⟩
theorem KT.put{xs:List (List Key×Addr×Value)}(r:KT H kvs xs)(k:List Key){b:Addr}{y:V}{u:Value}(hb:H b=some (.tup<|k.map kV))(ry:RelV y u):
  KT H (putK kvs k y) (storedH xs k b u):=by
 have e:(kvs.any λkv=>decide (kv.1=k))=(atKey xs k).isSome:=by
  rw[uW,(r.val k).uX,Option.isSome_map]
 unfold putK storedH;rw[e];by_cases q:(atKey xs k).isSome=true
 ·rw[if_pos q,if_pos q];exact r.BO k ry
 ·rw[if_neg q,if_neg q];exact Paired.snoc r ⟨rfl,hb,ry⟩
theorem KT.keeps{kvs:List (List Key×V)}{xs:List (List Key×Addr×Value)}(r:KT H kvs xs)(ht:∀b ys,H b=some (.tup ys)->H' b=some (.tup ys)):KT H' kvs xs:=
 Paired.dw r λ_ _ z=>⟨z.1,ht _ _ z.2.1,z.2.2⟩
section
variable {P:Program}{w:World}{H:Hp}{h:Heap}{a:Addr}
theorem HC(ok:bC P w H h)(e:Rd H a u):cK P w H h a u:=e.ok ok
theorem sC(ok:bC P w H h)(e:Rd H a (.dK kvs)):kvs.length<=sizeLine/\(a==sysModules)=false/\∃vs,KV kvs vs/\h.DictOf (eO P w) a vs:=
 show cK P w H h a (.dK kvs) from HC ok e
theorem yv(ok:bC P w H h)(e:H a=some (.dK kvs)):kvs.length<=sizeLine/\(a==sysModules)=false/\∃vs,KV kvs vs/\h.DictOf (eO P w) a vs:=sC ok (.inl e)
theorem uY(ok:bC P w H h)(e:H a=some (.tup<|ks.map kV)):(tupleKind<|eO P w).is h ks a:=by
 obtain⟨_,ao,r,o,h1,h2,n,h3⟩:=(show cK P w H h a (.tup<|ks.map kV) from ok a _ e)
 exact⟨o,ao.toArray,n,h1,h2,h3,by simpa using HB r⟩
theorem sD(ok:bC P w H h)(e:Rd H a (.dT kvs)):kvs.length<=sizeLine/\(a==sysModules)=false/\
  ∃xs,KT H kvs xs/\h.DictOfH (tupleKind<|eO P w) a xs:=by
 obtain⟨z,y,xs,r,o,es,ep,h1,h2,h3,h4,h5⟩:=(show cK P w H h a (.dT kvs) from HC ok e)
 refine⟨z,y,xs,r,o,es,ep,h1,h2,h3,h4,λx hx=>?_,h5⟩;have all:∀{l:List (List Key×V)}{m:List (List Key×Addr×Value)},KT H l m->∀x∈m,(tupleKind<|eO P w).is h x.1 x.2.1:=by
  intro l m q
  induction q with
  |nil=>intro x hx;exact nomatch hx
  | @cons p q ps qs hq t ih=>
   intro x hx;rcases zac.mp hx with e|hx
   ·exact uY ok (by lia)
   ·exact ih x hx
 exact all r x hx
theorem UU(ok:bC P w H h)(e:H a=some (.dT kvs)):kvs.length<=sizeLine/\(a==sysModules)=false/\
  ∃xs,KT H kvs xs/\h.DictOfH (tupleKind<|eO P w) a xs:=sD ok (.inl e)
end
def eF(H:Hp)(a:Addr)(y:V)(r:Option V):Prop:=
 (∃kvs k,Rd H a (.dK kvs)/\y=kV k/\r=c5 kvs k)\/∃kvs k b,Rd H a (.dT kvs)/\y=.ref b/\H b=some (.tup<|k.map kV)/\r=c5 kvs k
def kr(H:Hp)(a:Addr)(y v:V)(H':Hp):Prop:=
 (∃kvs k,H a=some (.dK kvs)/\y=kV k/\kvs.length<sizeLine/\H'=upd H a (.dK<|putK kvs k v))\/
 ∃kvs k b,H a=some (.dT kvs)/\y=.ref b/\H b=some (.tup<|k.map kV)/\kvs.length<sizeLine/\H'=upd H a (.dT<|putK kvs k v)
theorem eF.k{a:Addr}{kvs:List (Key×V)}{k:Key}(e:H a=some (.dK kvs)):eF H a (kV k) (c5 kvs k):=.inl ⟨kvs,k,.inl e,rfl,rfl⟩
theorem kr.k{a:Addr}{kvs:List (Key×V)}{k:Key}{v:V}(e:H a=some (.dK kvs))(hl:kvs.length<sizeLine):kr H a (kV k) v (upd H a<|.dK<|putK kvs k v):=.inl ⟨kvs,k,e,rfl,hl,rfl⟩
section
variable {X:Cx}{pins:List (Addr×Obj)}{σ:St}{H:Hp}{s:Shared}{a:Addr}{y v:V}{u r:Value}{o:Option V}{A:Around}{E:Value->Shared->Prop}
theorem Inv.big(I:Inv X pins σ H s):sysModules<s.heap.objs.size:=by
 exact Nat.lt_trans (by decide) ((I.mod.glob.keeps I.bk).lt)
theorem UW(hu:A.units+1<cLine)(I:Inv X pins σ H s)(g:eF H a y (some v))(ry:RelV y u)(h:∀w' s',Inv X pins σ H s'->RelV v w'->Q w' s'):
  wpAny (model X.prog X.w) A (getItem (.ref a) u) Q E s:=by
 rcases g with⟨kvs,k,e,ey,l⟩|⟨kvs,k,b,e,ey,eb,l⟩
 ·subst ey;obtain⟨z,hd,vs,rel,dd⟩:=sC I.aF e;obtain⟨w',hw,gO⟩:=gL.some_of (l▸rel.val k)
  exact wpAny_getItem_of (qk ry) dd.mapOf hw<|h w' _ (I.tok _) gO
 ·subst ey;cases (show u=Value.ref b from ry)
  obtain⟨z,hd,xs,rel,dd⟩:=sD I.aF e;obtain⟨w',hw,gO⟩:=gL.some_of (l▸rel.val k)
  obtain⟨p,hp,e_⟩:=Option.map_eq_some_iff.mp hw;refine wpAny_getItem_heap (tupleKind_room_in1 hu) (uY I.aF eb) dd hp ?_;rw[e_];exact h w' _ (I.tok _) gO
theorem UX(hu:A.units+1<cLine)(I:Inv X pins σ H s)(g:eF H a y o)(ry:RelV y u)(h:∀s',Inv X pins σ H s'->Q (.bool o.isSome) s'):
  wpAny (model X.prog X.w) A (compareOp .In u<|.ref a) Q E s:=by
 rcases g with⟨kvs,k,e,ey,l⟩|⟨kvs,k,b,e,ey,eb,l⟩
 ·subst ey;obtain⟨z,hd,vs,rel,dd⟩:=sC I.aF e;refine wpAny_in_of (qk ry) hd dd.mapOf ?_;rw[<-(rel.val k).uX,<-l];exact h _<|I.tok _
 ·subst ey;cases (show u=Value.ref b from ry)
  obtain⟨z,hd,xs,rel,dd⟩:=sD I.aF e;refine wpAny_in_heap (tupleKind_room_in1 hu) (uY I.aF eb) hd dd ?_;have q:=(rel.val k).uX;rw[Option.isSome_map] at q;rw[<-q,<-l];exact h _<|I.tok _
theorem UY(hu:A.units+1<cLine)(I:Inv X pins σ H s)(g:eF H a y o)(ry:RelV y u)(h:∀s',Inv X pins σ H s'->Q (.bool<|!o.isSome) s'):
  wpAny (model X.prog X.w) A (compareOp .NotIn u<|.ref a) Q E s:=by
 rcases g with⟨kvs,k,e,ey,l⟩|⟨kvs,k,b,e,ey,eb,l⟩
 ·subst ey;obtain⟨z,hd,vs,rel,dd⟩:=sC I.aF e;refine wpAny_notIn_of (qk ry) hd dd.mapOf ?_;rw[<-(rel.val k).uX,<-l];exact h _<|I.tok _
 ·subst ey;cases (show u=Value.ref b from ry)
  obtain⟨z,hd,xs,rel,dd⟩:=sD I.aF e;refine wpAny_notIn_heap (tupleKind_room_in1 hu) (uY I.aF eb) hd dd ?_;have q:=(rel.val k).uX;rw[Option.isSome_map] at q;rw[<-q,<-l];exact h _<|I.tok _
theorem yw{t':Nat}{ob:HO}(I:Inv X pins σ H s)(mu:uH (H a))(hs:Heap.SameBut a s.heap h')(he:∃q,h'.get? a=some q)(new:cK X.prog X.w (upd H a ob) h' a ob):
  Inv X pins σ (upd H a ob) {s with heap:=h',toks:=t'}:=
 I.write mu (.inl rfl) (λb q hb z=>(hs.2 b hb).trans z) he new
theorem BP{w:World}{H':Hp}{h':Heap}{kvs:List (Key×V)}{vs:List (Key×Value)}(z:kvs.length<=sizeLine)(hd:(a==sysModules)=false)(rel:KV kvs vs)(dd:h'.DictOf (eO P w) a vs):
  cK P w H' h' a (.dK kvs):=⟨z,hd,vs,rel,dd⟩
theorem UZ(hu:A.units+1<cLine)(I:Inv X pins σ H s)(g:kr H a y v H')(ry:RelV y u)(rv:RelV v r)(h:∀s',Inv X pins σ H' s'->Q () s'):
  wpAny (model X.prog X.w) A (setItem (.ref a) u r) Q E s:=by
 rcases g with⟨kvs,k,e,ey,l,eH⟩|⟨kvs,k,b,e,ey,eb,l,eH⟩
 ·subst ey eH;obtain⟨z,hd,vs,rel,dd⟩:=yv I.aF e;have hz:=rel.length▸z
  have hl:(putK kvs k v).length<=sizeLine:=by have:=yt kvs k v;omega
  refine wpAny_setItem_pairs (qk ry) dd λh' lK hs=>h _ ?_;have he:∃q,h'.get? a=some q:=let ⟨q,_,_,hq,_⟩:=lK;⟨q,hq⟩;exact yw I (e▸True.intro) hs he<|BP hl hd (rel.put k rv) lK
 ·subst ey eH;cases (show u=Value.ref b from ry)
  obtain⟨z,hd,xs,rel,dd⟩:=UU I.aF e;have hz:xs.length<=sizeLine:=by rw[<-Paired.length rel];exact z
  have hl:(putK kvs k v).length<=sizeLine:=by have:=yt kvs k v;omega
  refine wpAny_setItem_heap (tupleKind_room_in1 hu) (uY I.aF eb) dd λh' lK hs=>h _ ?_;obtain⟨q,es,ep,hq,h2,h3,h4,_,h5⟩:=lK;refine yw I (e▸True.intro) hs ⟨q,hq⟩ ⟨hl,hd,_,(rel.put k eb rv).keeps λc ys ec=>?_,q,es,ep,hq,h2,h3,h4,h5⟩
  rw[az<|cy ec e<|λz=>nomatch z];exact ec
end
section
variable {X:Cx}{pins:List (Addr×Obj)}{σ:St}{H:Hp}{s:Shared}{a:Addr}{kvs:List (Key×V)}{k:Key}{u:Value}{A:Around}{E:Value->Shared->Prop}
theorem U0{Q:Value->Shared->Prop}(I:Inv X pins σ H s)(e:H a=some (.dK kvs))(ry:RelV (kV k) u)(l:c5 kvs k=some v)(hm:more=[]\/∃x,more=[x])
  (h:∀w' s',Inv X pins σ (upd H a<|.dK<|fX kvs k) s'->RelV v w'->Q w' s'):wpAny (model X.prog X.w) A (call (.builtin "dict.pop") (.ref a::u::more)) Q E s:=by
 obtain⟨z,hd,vs,rel,dd⟩:=yv I.aF e;obtain⟨w',hw,gO⟩:=gL.some_of (l▸rel.val k)
 have hp:(keyPart u).isSome=true:=by
  cases k with
  |inl i=>obtain⟨t,q⟩:=(show ∃t,u=Value.int i t from ry);subst q;rfl
  |inr x=>obtain⟨t,q⟩:=(show ∃t,u=Value.str x t from ry);subst q;rfl
 have ha:argsOk "dict.pop" ⟨.ref a::u::more,[]⟩:=by
  rcases hm with q|⟨x,q⟩
  ·subst q;exact PySem.F.args_dict_pop_2 _ _
  ·subst q;exact PySem.F.args_dict_pop_3 _ _ _
 refine call_meetsIn PySem.F.slot_dict_pop dd.typeIs PySem.F.entry_dict_pop ha (meets_dict_pop_there (eO X.prog X.w) a (qk ry) more hm hp)
  ⟨vs,w',dd,rel.length▸z,hw,λh' lK hs=>h w' _ ?_ gO⟩
 have he:∃q,h'.get? a=some q:=let ⟨q,_,_,hq,_⟩:=lK;⟨q,hq⟩;exact yw I (e▸True.intro) hs he<|BP (zaq (HA kvs k) z) hd (rel.drop k) lK
end
def BQ(i:Expr):Prop:= ∀ov iv,subscripted i false ov iv=operate [ov,iv] (getItem ov iv)
theorem U1{A:Around}{E:Value->Shared->Prop}{s:Shared}{env:Env}{value slice:Expr}{pos:Pos}{T id:String}{Q:Value->Shared->Prop}
  (hl:typeLookup (.type T) "__getitem__"=pure (some<|.builtin id)) (hs:BQ slice)
  (h:wpAny (model prog w) A (eval value env) (λo s₁=>wpAny (model prog w) A (eval slice env) (λi s₂=>s₂.TypeIs o T/\wpAny (model prog w) A (getItem o i) Q E s₂) E s₁) E s):
  wpAny (model prog w) A (eval (.Subscript value slice pos) env) Q E s:=by
 refine Subscript_<|wpAny_mono h (λo s₁ h₁=>wpAny_mono h₁ (λi s₂ h₂=>?_) λ_ _ x=>x) λ_ _ x=>x;obtain⟨hT,h₂⟩:=h₂;refine wpAny_bind (wpAny_bind<|wpAny_specialOf hT hl ?_);have fin:wpAny (model prog w) A (subscripted slice false o i) (λr s₃=>wpAny (model prog w) A (letTemporaryGo value o r>>=λ_=>pure r) Q E s₃) E s₂:=by
  rw[hs o i];exact wpAny_operating<|wpAny_mono h₂ (λr s₃ h₃=>wpAny_bind<|wpAny_letTemporaryGo<|wpAny_pure h₃) λ_ _ x=>x
 first
  |exact wpAny_pure (wpAny_bind fin)
  |exact wpAny_bind (wpAny_pure<|wpAny_bind fin)
  |exact wpAny_bind fin
theorem U2{σ:St}{H:Hp}{s:Shared}{a:Addr}{y:V}{o:Option V}(I:Inv X pins σ H s)(g:eF H a y o):s.TypeIs (.ref a) "dict":=by
 rcases g with⟨kvs,k,e,_,_⟩|⟨kvs,k,b,e,_,_,_⟩
 ·obtain⟨_,_,vs,_,dd⟩:=sC I.aF e;exact dd.typeIs
 ·obtain⟨_,_,xs,_,dd⟩:=sD I.aF e;exact dd.typeIs
def HD(td ty:TE):TE:=λσ H Q=>td σ H λx H1=>ty σ H1 λy H2=>∃a v,x=.ref a/\eF H2 a y (some v)/\Q v H2
def BR(ty td:TE):TE:=λσ H Q=>ty σ H λy H1=>td σ H1 λx H2=>∃a o,x=.ref a/\eF H2 a y o/\Q (.bl o.isSome) H2
def BS(ty td:TE):TE:=λσ H Q=>ty σ H λy H1=>td σ H1 λx H2=>∃a o,x=.ref a/\eF H2 a y o/\Q (.bl<|!o.isSome) H2
def HE(td ty tv:TE):TS:=λD σ H=>tv σ H λv H1=>td σ H1 λx H2=>ty σ H2 λy H3=>∃a H4,x=.ref a/\kr H3 a y v H4/\D.nx σ H4
section
variable {X:Cx}{o i e value:Expr}{pos pos' Tj:Pos}{td ty tv:TE}
theorem U3(hu:X.A.units+1<cLine)(ho:PE X o td)(hi:PE X i ty)(hs:BQ i):PE X (.Subscript o i pos) (HD td ty):=by
 intro pins s σ H Q I h;refine U1 PySem.F.slot_dict_getitem.lookup hs<|aK (ho pins s σ H _ I h) λu s1 ⟨x,H1,I1,rx,q1⟩=>aK (hi pins s1 σ H1 _ I1 q1) λiv s2 ⟨y,H2,I2,ry,a,v,ex,g,q2⟩=>?_;subst ex;obtain rfl:u=Value.ref a:=rx;exact⟨U2 I2 g,UW hu I2 g ry λw' s3 I3 gO=>⟨v,H2,I3,gO,q2⟩⟩
theorem U4(hu:X.A.units+1<cLine)(hi:PE X i ty)(ho:PE X o td):PC X .In i o (BR ty td):=by
 intro pins s σ H Q I h;refine aK (hi pins s σ H _ I h) λiv s1 ⟨y,H1,I1,ry,q1⟩=>aK (ho pins s1 σ H1 _ I1 q1) λu s2 ⟨x,H2,I2,rx,a,ov,ex,g,q2⟩=>?_;subst ex;obtain rfl:u=Value.ref a:=rx;exact UX hu I2 g ry λs3 I3=>⟨.bl ov.isSome,H2,I3,rfl,q2⟩
theorem U5(hu:X.A.units+1<cLine)(hi:PE X i ty)(ho:PE X o td):PC X .NotIn i o (BS ty td):=by
 intro pins s σ H Q I h;refine aK (hi pins s σ H _ I h) λiv s1 ⟨y,H1,I1,ry,q1⟩=>aK (ho pins s1 σ H1 _ I1 q1) λu s2 ⟨x,H2,I2,rx,a,ov,ex,g,q2⟩=>?_;subst ex;obtain rfl:u=Value.ref a:=rx;exact UY hu I2 g ry λs3 I3=>⟨.bl<|!ov.isSome,H2,I3,rfl,q2⟩
theorem U6(hu:X.A.units+1<cLine)(ho:PE X o td)(hi:PE X i ty)(hv:PE X value tv)(hs:swapsWith value (some<|.Subscript o i pos') pos.line X.env=pure false):
  PS X (.Assign [.Subscript o i pos'] value pos) (HE td ty tv):=by
 intro pins s σ H D I h;refine wpAny_Assign_Subscript (aK (hv pins s σ H _ I h) λr s1 ⟨v,H1,I1,rv,q1⟩=>aK (ho pins s1 σ H1 _ I1 q1) λu s2 ⟨x,H2,I2,rx,q2⟩=>aK (hi pins s2 σ H2 _ I2 q2) λiv s3 ⟨y,H3,I3,ry,a,H4,ex,g,q3⟩=>?_) hs;subst ex;obtain rfl:u=Value.ref a:=rx;exact UZ hu I3 g ry rv λs4 I4=>⟨σ,H4,I4,q3⟩
end
theorem HF{w:World}{H:Hp}(h:Heap)(hb:sysModules<h.objs.size):cK P w H (h.push {cls:=.type "dict",data:=.dict #[]}) h.objs.size (.dK []):=
 ⟨zqZ _,beq_eq_false_iff_ne.mpr<|Ne.symm<|zao hb,[],.nil,Heap.DictOf.new h⟩
def U7:TE:=λ_ H Q=>∀p,H p=none->Q (.ref p) (upd H p<|.dT [])
def yx(H:Hp)(a:Addr):Prop:=(∃kvs,Rd H a<|.dK kvs)\/∃kvs,Rd H a (.dT kvs)
theorem U8{σ:St}{H:Hp}{s:Shared}{a:Addr}(I:Inv X pins σ H s)(d:yx H a):
  s.TypeIs (.ref a) "dict"/\(∀b,Value.ref a=.ref b->∃ob,s.heap.get? b=some ob/\ob.dict=none)/\(a==sysModules)=false:=by
 rcases d with⟨kvs,e⟩|⟨kvs,e⟩
 ·obtain⟨_,hd,vs,_,dd⟩:=sC I.aF e;refine⟨dd.typeIs,λb q=>?_,hd⟩;cases q;obtain⟨ob,_,_,h1,h2,_⟩:=dd;exact⟨ob,h1,h2.2.1⟩
 ·obtain⟨_,hd,xs,_,dd⟩:=sD I.aF e;refine⟨dd.typeIs,λb q=>?_,hd⟩;cases q;obtain⟨ob,_,_,h1,h2,_⟩:=dd;exact⟨ob,h1,h2.2.1⟩
def U9(td ty tx:TE):TE:=λσ H Q=>td σ H λx H1=>∃a,x=.ref a/\yx H1 a/\ty σ H1 λy H2=>tx σ H2 λz H3=>∃o,eF H3 a y o/\Q (o.getD z) H3
end L2
set_option maxHeartbeats 4000000
namespace L2
open PySem PySem.Spec PyProof.Rows
section
variable {X:Cx}{pins:List (Addr×Obj)}{σ:St}{H:Hp}{s:Shared}{a:Addr}{o:HO}
theorem Inv.U_(I:Inv X pins σ H s)(hn:H a=none)(h0:X.s₀.heap.objs.size<=a)(hL:a≠X.env.locals)(hC:∀x c,X.env.cells.lookup x=some c->c≠a)
  (hp:∀p∈X.pn++pins,p.1≠a) (new:cK X.prog X.w (upd H a o) s.heap a o):Inv X pins σ (upd H a o) s:=by
 have Va:∀b u,X.s₀.heap.get? b=some u->b≠a:=λb u e=>zao (zaA (Heap.lt_size e) h0);have uZ:∀b u,H b=some u->b≠a:=λb u e=>aM e hn;refine⟨I.ok,I.os,I.bare,⟨I.base.keep,I.base.slot,λb u e n hx=>?_,I.base.there,λb xs e=>?_,λb u xs e=>?_,λb ps e=>?_⟩,I.loc,I.cell,?_,λx c e=>?_,λp q=>?_,λb u e=>?_,I.len⟩
 ·rw[az<|Va b u e];exact I.base.free b u e n hx
 ·have z:=I.base.dD b xs e;rw[az<|uZ b _ z];exact z
 ·have z:=I.base.h9 b u xs e;rw[az<|uZ b _ z];exact z
 ·obtain⟨m,z⟩:=I.base.iq b ps e;exact⟨m,by rw[az<|uZ b _ z];exact z⟩
 ·rw[az<|Ne.symm hL];exact I.free
 ·rw[az<|hC x c e];exact I.jg x c e
 ·obtain⟨z1,z2,z3⟩:=I.pin p q;exact⟨z1,by rw[az<|hp p q];exact z2,z3⟩
 ·by_cases hb:b=a
  ·subst hb;rw[ay] at e;cases e;exact new
  ·rw[az hb] at e;exact(I.aF b u e).nZ (λ_ _ _ q=>q) (λc q=>by rw[az<|uZ c _ q];exact q) λc xs q=>by rw[az<|uZ c _ q];exact q
end
def d9(cells:List (Str×Addr)):List (Str×NameKind)->List (Str×Addr)->List (Str×Addr)
 |[],acc=>acc
 |(n,k)::r,acc=>d9 cells r (if k=.free then (n,(cells.lookup n).getD 0)::acc else acc)
theorem HG(env:Env):∀(names:List (Str×NameKind)) (acc:List (Str×Addr)),(∀y∈names,y.2=.free->∃c,env.cells.lookup y.1=some c)->
  (forIn names acc (fun(x:Str×NameKind) (cs:List (Str×Addr))=>match x with
   |(name,kind)=>if (kind==NameKind.free)=true then do let a <-cellOf env name;pure (ForInStep.yield ((name,a)::cs)) else pure (ForInStep.yield cs)):Sem (List (Str×Addr)))=pure (d9 env.cells names acc)
 |[],acc,_=>rfl
 |(n,k)::r,acc,h=>by
  have hr:=λBU=>HG env r BU λy hy=>h y (zav _ hy);by_cases hk:k=.free
  ·subst hk;obtain⟨c,e⟩:=h (n,.free) zau rfl;have e':cellOf env n=pure c:=by unfold cellOf;rw[e]
   have ec:d9 env.cells ((n,.free)::r) acc=d9 env.cells r ((n,c)::acc):=by simp[d9,e]
   rw[ec,<-hr]
   simp[e']
  ·have hb:=by simpa using hk
   have ec:d9 env.cells ((n,k)::r) acc=d9 env.cells r acc:=by simp[d9,hk]
   rw[ec,<-hr]
   simp[hb]
theorem Vb{env:Env}(h:∀y∈scope.names,y.2=.free->∃c,env.cells.lookup y.1=some c):closureFor scope env=pure (d9 env.cells scope.names []):=by
 have:=HG env scope.names [] h
 simp only[closureFor]
 rw[<-this]
 simp
theorem HH:∀(names:List (Str×NameKind)) (acc:List (Str×Addr)) (x:Str) (c:Addr),(d9 cells names acc).lookup x=some c->(acc.lookup x=some c)\/((x,.free)∈names/\(cells.lookup x).getD 0=c)
 |[],acc,x,c,h=>.inl h
 |(n,k)::r,acc,x,c,h=>by
  rcases HH r _ x c h with z|⟨z1,z2⟩
  ·by_cases hk:k=.free
   ·subst hk
    simp at z
    rw[zbc] at z;by_cases hx:x==n
    ·simp only[hx] at z
     have Vc:=eq_of_beq hx;subst Vc;exact .inr ⟨zau,zap z⟩
    ·have mM:(x==n)=false:=by lia
     simp only[mM] at z
     exact .inl z
   ·simp only[if_neg hk] at z
    exact .inl z
  ·exact .inr ⟨zav _ z1,z2⟩
theorem BV:∀(names:List (Str×NameKind)) (acc:List (Str×Addr)) (x:Str),((x,NameKind.free)∈names\/∃c,acc.lookup x=some c)->∃c,(d9 cells names acc).lookup x=some c
 |[],acc,x,h=>by
  rcases h with h|h
  ·cases h
  ·exact h
 |(n,k)::r,acc,x,h=>by
  refine BV r _ x ?_;rcases h with h|⟨c,h⟩
  ·rcases zac.mp h with e|h
   ·cases e;refine .inr ?_
    simp
   ·exact .inl h
  ·refine .inr ?_;by_cases hk:k=.free
   ·simp only[if_pos hk,zbc]
    cases hx:x==n
    ·exact⟨c,h⟩
    ·exact⟨_,rfl⟩
   ·simp only[if_neg hk];exact⟨c,h⟩
theorem HI{env:Env}:∀(names:List (Str×NameKind)) (x:Str),
  (names.map fun(n,k)=>if (k==NameKind.free && env.scope.kind==.function && env.kindOf n==some .cell) then (n,NameKind.cell) else (n,k)).lookup x=
   (names.lookup x).map λk=>if (k==NameKind.free && env.scope.kind==.function && env.kindOf x==some .cell) then NameKind.cell else k
 |[],_=>rfl
 |(n,k)::r,x=>by
  have ih:=HI (env:=env) r x;show List.lookup x ((if (k==NameKind.free && env.scope.kind==.function && env.kindOf n==some .cell)=true then (n,NameKind.cell) else (n,k))::_)=_
  cases hx:x==n with
  |true=>
   have e:=eq_of_beq hx;subst e;by_cases hc:(k==NameKind.free && env.scope.kind==.function && env.kindOf x==some .cell)=true
   ·rw[if_pos hc];simp only[zbc,beq_self_eq_true,zaV];rw[if_pos hc]
   ·rw[if_neg hc];simp only[zbc,beq_self_eq_true,zaV];rw[if_neg hc]
  |false=>
   by_cases hc:(k==NameKind.free && env.scope.kind==.function && env.kindOf n==some .cell)=true
   ·rw[if_pos hc];simp only[zbc,hx];exact ih
   ·rw[if_neg hc];simp only[zbc,hx];exact ih
section
variable {prog:Program}{w:World}{A:Around}{R:Result->Shared->Prop}{s:Shared}
theorem Vd{target iter:Expr}{ifs:List Expr}{scope:Scope}{pos:Pos}{it acc:Value}{env:Env}(I:Nat->Shared->Prop)
  (turn:∀n s,I n s->wpAny (model prog w) A (pyNext it) (λr s₁=>match r with
   |none=>R (.ok .next) s₁
   |some v=>wpAny (model prog w) A (letOwnedTupleGo target it v) (λ_ HJ=>wpAny (model prog w) A (assign target env v) (λ_ s₂=>
     wpAny (model prog w) A (forIn ifs true λc r=>if r=true then do let ok <-isTrue c env (eval c env);pure (ForInStep.yield ok) else pure (ForInStep.yield r)) (λok s₃=>
      if ok=true then wpAny (model prog w) A (eval elt env) (λx s₄=>
       wpAny (model prog w) A (call (.builtin "list.append") [acc,x]) (λ_ s₅=>∃m,m<n/\I m s₅) (λ_ _=>False) s₄) (λ_ _=>False) s₃
      else ∃m,m<n/\I m s₃) (λ_ _=>False) s₂) (λ_ _=>False) HJ) (λ_ _=>False) s₁) (λ_ _=>False) s)
  (n:Nat) (h:I n s):codeAny (model prog w) A (.compLoop (.ListComp elt [⟨target,iter,ifs,0⟩] scope pos) 0 it acc env) R s:=by
 refine codeAny_loop rfl I (λn s hI=>wpAny_noted (wpAny_bind<|wpAny_standAt<|wpAny_bind<|wpAny_mono (turn n s hI) (λr s₁ h₁=>?_) λ_ _ h'=>h'.elim)) n h;cases r with
 |none=>exact wpAny_pure h₁
 |some v=>
  refine wpAny_bind<|wpAny_mono h₁ (λ_ HJ Ve=>wpAny_bind<|wpAny_mono Ve (λ_ s₂ h₂=>wpAny_bind<|wpAny_mono h₂ (λok s₃ h₃=>?_) λ_ _ h'=>h'.elim) λ_ _ h'=>h'.elim) λ_ _ h'=>h'.elim;cases ok with
  |false=>exact wpAny_pure ⟨rfl,h₃⟩
  |true=>
   exact wpAny_bind<|wpAny_bind<|wpAny_mono h₃ (λx s₄ h₄=>wpAny_bind<|wpAny_mono h₄ (λ_ s₅ h₅=>wpAny_pure<|wpAny_pure ⟨rfl,h₅⟩) λ_ _ h'=>h'.elim) λ_ _ h'=>h'.elim
end
def iz(X:Cx)(scope:Scope)(N:List Str)(ex:List Addr)(C:Addr)(s:Shared)(H:Hp):Cx where
 prog:=X.prog
 w:=X.w
 K:=X.K
 mg:=X.mg
 base:=X.base
 A:=X.A
 N:=N
 s₀:=s
 H₀:=H
 env:=compEnvC scope (d9 X.env.cells scope.names []) C X.env
 outer:=X.stack
 stack:=X.stack
 ex:=ex
 fn:=λ_=>false
 calm:=X.calm
 pn:=[]
 xe:=λ_ _=>False
structure ku (X:Cx) (scope:Scope) (ln:List Str) (fv:List (Str×Nat)):Prop where
 kind:scope.kind=.function
 HK:∀y∈scope.names,y.2≠ .cell
 locals:∀y∈scope.names,y.2=.local->scope.names.lookup y.1=some .local
 free:∀y∈scope.names,y.2=.free->(X.env.kindOf y.1=some .cell\/X.env.kindOf y.1=some .free)
 Vf:∀p∈fv,X.N[p.2]?=some p.1/\scope.names.lookup p.1=some .free
def cC(σ:St)(fv:List (Str×Nat)):St:=fv.map λp=>(σ[p.2]?).join
def jk(K:Frag):Option Nat->V->Hp->(List V->Prop)->Prop
 |none,x,_,Q=>Q [x]
 |some n,x,H,Q=>if n=102 then ∃a xs,x=.ref a/\aB K H a xs/\xs.length=2/\Q xs else ∃a xs,x=.ref a/\aL K H a xs/\xs.length=n/\Q xs
theorem Vg{K:Frag}{n:Nat}{x:V}{H:Hp}{P Q:List V->Prop}(h:jk K (some n) x H P)(k:∀xs,P xs->Q xs):jk K (some n) x H Q:=by
 by_cases e:n=102
 ·have h:if n=102 then ∃a xs,x=.ref a/\aB K H a xs/\xs.length=2/\P xs else ∃a xs,x=.ref a/\aL K H a xs/\xs.length=n/\P xs:=h
  show if n=102 then ∃a xs,x=.ref a/\aB K H a xs/\xs.length=2/\Q xs else ∃a xs,x=.ref a/\aL K H a xs/\xs.length=n/\Q xs
  rw[if_pos e] at h⊢;obtain⟨a,xs,e1,e2,e3,q⟩:=h;exact⟨a,xs,e1,e2,e3,k _ q⟩
 ·have h:if n=102 then ∃a xs,x=.ref a/\aB K H a xs/\xs.length=2/\P xs else ∃a xs,x=.ref a/\aL K H a xs/\xs.length=n/\P xs:=h
  show if n=102 then ∃a xs,x=.ref a/\aB K H a xs/\xs.length=2/\Q xs else ∃a xs,x=.ref a/\aL K H a xs/\xs.length=n/\Q xs
  rw[if_neg e] at h⊢;obtain⟨a,xs,e1,e2,e3,q⟩:=h;exact⟨a,xs,e1,e2,e3,k _ q⟩
def kx:Option TT->TT
 |none=>λ_ H k=>k true H
 |some t=>t
def ql(K:Frag)(wi:TI)(tk:Option Nat)(fv:List (Str×Nat))(tc:Option TT)(te:TE):TE:=λσ H Q=>
 wi σ H λJ H1=>∃W:Nat->Nat->List V->Hp->Prop,(∃m,W 0 m [] H1)/\∀i m ys H2,W i m ys H2->
  (J.stop i H2/\∀p,H2 p=none->Q (.ref p) (upd H2 p<|.lst ys))\/
  (J.go i H2/\∀x H3,J.fM i H2 x H3->jk K tk x H3 λxs=>
   kx tc (xs.map some++cC σ fv) H3 λb H5=>
    if b=true then te (xs.map some++cC σ fv) H5 λy H6=>ys.length<sizeLine/\∃m',m'<m/\W (i+1) m' (ys++[y]) H6
    else ∃m',m'<m/\W (i+1) m' ys H5)
section
variable {X:Cx}{pins:List (Addr×Obj)}{σ:St}{H:Hp}{s₂ s₃:Shared}{scope:Scope}{ln:List Str}{fv:List (Str×Nat)}{fp:List Addr}{h₁:Heap}{D C:Addr}{m:Str->Option Value}{t:Nat}
theorem ku.cells(S:ku X scope ln fv)(I:Inv X pins σ H s₂){x:Str}{c:Addr}(h:(d9 X.env.cells scope.names []).lookup x=some c):X.env.cells.lookup x=some c/\(x,NameKind.free)∈scope.names:=by
 rcases HH _ _ _ _ h with z|⟨z1,z2⟩
 ·cases z
 ·obtain⟨c',e⟩:=I.ok.has x (S.free _ z1 rfl);rw[e] at z2;subst z2;exact⟨e,z1⟩
theorem ku.HL(S:ku X scope ln fv)(I:Inv X pins σ H s₂):closureFor scope X.env=pure (d9 X.env.cells scope.names []):=
 Vb λy hy hk=>I.ok.has y.1 (S.free y hy hk)
theorem Vh(S:ku X scope ln fv)(I:Inv X pins σ H s₂)(f2:∀b∈fp,jJ X pins H b)(u0:∀b∈fp,∃o,s₂.heap.get? b=some o)
  (os:s₃.os=s₂.os) (gens:s₃.gens=s₂.gens) (k3:∀b o,s₂.heap.get? b=some o->s₃.heap.get? b=some o) (hD:D=s₂.heap.objs.size) (h3:s₃.heap.objs.size=s₂.heap.objs.size+1) (hC:C=s₃.heap.objs.size)
  (k4:∀b o,s₃.heap.get? b=some o->h₁.get? b=some o) (yq:h₁.Ns C m):
  Inv (iz X scope (ln++fv.map (·.1)) (D::fp) C s₃ H) [] (ln.map (λ_=>none)++cC σ fv) H {s₃ with heap:=h₁,toks:=t}:=by
 have cl:∀{x c},(d9 X.env.cells scope.names []).lookup x=some c->X.env.cells.lookup x=some c:=λh=>(S.cells I h).1;have Vj:∀{x c},(d9 X.env.cells scope.names []).lookup x=some c->c<s₂.heap.objs.size:=λh=>by
  obtain⟨v,q⟩:=I.cell _ _ (cl h);exact q.lt
 have Vk:∀b∈fp,b<s₂.heap.objs.size:=λb hb=>by obtain⟨o,e⟩:=u0 b hb;exact Heap.lt_size e
 have Vl:∀b∈D::fp,b<=s₂.heap.objs.size:=λb hb=>by
  rcases zac.mp hb with e|hb
  ·rw[e,hD];exact zqR _
  ·exact Nat.le_of_lt (Vk b hb)
 have HM:∀x,(relabel scope X.env).names.lookup x=(scope.names.lookup x).map λk=>if (k==NameKind.free && X.env.scope.kind==.function && X.env.kindOf x==some .cell) then NameKind.cell else k:=λx=>HI scope.names x
 have Vm:∀x,scope.names.lookup x=some .free->((relabel scope X.env).names.lookup x=some .cell\/(relabel scope X.env).names.lookup x=some .free):=λx e=>by
  rw[HM,e]
  simp only[zaV]
  split
  ·exact .inl rfl
  ·exact .inr rfl
 have Vn:∀x,((relabel scope X.env).names.lookup x=some .cell\/(relabel scope X.env).names.lookup x=some .free)->(x,NameKind.free)∈scope.names:=λx e=>by
  rw[HM] at e;cases q:scope.names.lookup x with
  |none=>rw[q] at e;rcases e with e|e<;>cases e
  |some k=>
   rw[q] at e;have hm:=PySem.mem_of_lookup q
   simp only[zaV] at e
   by_cases hk:k=.free
   ·rw[hk] at hm;exact hm
   ·have hb:(k==NameKind.free)=false:=by lia
    simp only[hb,Bool.false_and,zbC,if_false] at e
    rcases e with e|e
    ·exact absurd (zap e) (S.HK _ hm)
    ·exact absurd (zap e) hk
 refine⟨⟨I.ok.mod,S.kind,I.ok.glob,I.ok.blt,zbk hC.symm,λx y c h1 h2=>I.ok.inj x y c (cl h1) (cl h2),λx hx=>BV _ _ x (.inl (Vn x hx)),λx c h _=>(by cases h),I.ok.hd,I.ok.frames,.inl rfl,λb hb=>⟨?_,λx c e=>?_⟩,λb o e=>⟨k3 b o (I.bs b o e).1,(I.bs b o e).2⟩,?_,λb o e hb=>?_,λb hb hf=>?_,?_,I.xS⟩,
  rfl,?_,Un.kept λb u e=>k4 b u e,⟨m,yq,λi x v e1 e2 e3=>?_⟩,λx c e=>?_,I.aF.fresh ?_,λx c e=>I.jg x c (cl e),λp hp=>absurd (show p∈ ([]:List (Addr×Obj)) from hp) (by simp),I.aF.kept λb u e=>k4 b u (k3 b u e),?_⟩
 ·have:=Vl b hb;rw[hC,h3];exact zao (Nat.lt_succ_of_le this)
 ·rcases zac.mp hb with z|z
  ·rw[z,hD];exact zao (Vj e)
  ·exact(f2 b z).2.2.2.2.1 x c (cl e)
 ·show X.base.objs.size<=s₃.heap.objs.size;have:=zaq I.ok.pX I.sz;lia
 ·have e2:=(I.bs b o e).1;rcases zac.mp hb with z|z
  ·have:=Heap.lt_size e2;rw[z,hD] at this;exact zaQ _ this
  ·rcases (f2 b z).2.2.2.1 with q|q
   ·exact I.ok.xO b o e q
   ·exact absurd (zaA (Heap.lt_size (I.ok.bs b o e).1) q) (zaQ _)
 ·have BW:=hf;rcases zac.mp hb with z|z
  ·rcases zac.mp (I.xR b BW) with q|q
   ·have:=I.lt;rw[<-q,z,hD] at this;exact zaQ _ this
   ·exact I.FZ (by lia) q
  ·rcases zac.mp (I.xR b BW) with q|q
   ·exact(f2 b z).2.1 q
   ·exact(f2 b z).2.2.1 q
 ·exact PySem.Heap.FunFrames.of_keeps (λb o e _=>⟨o,k3 b o e,rfl⟩) I.stack
 ·rw[gens];exact I.bare
 ·have hi:ln.length<=i:=by
   by_cases hi:i<ln.length
   ·exfalso
    rw[zay (by simpa using hi),zan] at e2
    cases q:ln[i]? with
    |none=>rw[q] at e2;cases e2
    |some y=>rw[q] at e2;cases e2
   ·lia
  have qm:(ln++fv.map (·.1))[i]?=some x:=e1;rw[zaL hi,zan] at qm;rw[zaL (by simpa using hi),zaf] at e2
  unfold cC at e2;rw[zan] at e2;cases q:fv[i - ln.length]? with
  |none=>rw[q] at qm;cases qm
  |some p=>
   rw[q] at qm e2;have ex:p.1=x:=zap qm;have ev:(σ[p.2]?).join=some v:=zap e2;obtain⟨g1,g2⟩:=S.Vf p (zal q);rw[ex] at g1 g2;have Vo:σ[p.2]?=some (some v):=by
    cases z:σ[p.2]? with
    |none=>rw[z] at ev;cases ev
    |some o=>rw[z] at ev;rw[show o=some v from ev]
   have hk:=S.free _ (PySem.mem_of_lookup g2) rfl;obtain⟨m2,jK,hl⟩:=I.loc;obtain⟨u,r,l⟩:=hl p.2 x v g1 Vo (by rcases hk with k|k;exact .inr (.inl k);exact .inr (.inr k))
   refine⟨u,r,.inr ?_⟩;rcases l with⟨k,_⟩|⟨_,c,ec,z⟩
   ·rcases hk with k'|k'<;>(rw[k] at k';cases k')
   ·refine⟨Vm x g2,c,?_,?_⟩
    ·obtain⟨c',e'⟩:=BV scope.names [] x (.inl<|PySem.mem_of_lookup g2);have:=cl e';rw[ec] at this;cases this;exact e'
    ·obtain⟨o,ho,hd⟩:=z;exact⟨o,k4 c o<|k3 c o ho,hd⟩
 ·obtain⟨v,o,ho,hd⟩:=I.cell x c (cl e);exact⟨v,o,k4 c o<|k3 c o ho,hd⟩
 ·rw[hC,h3];exact Nat.le_succ _
 ·show(ln.map (λ_=>none)++cC σ fv).length=(ln++fv.map (·.1)).length
  simp[cC]
end
structure HN (Φ:Cx->Prop) (P:Program) (w:World) (K:Frag) (tg:Expr) (J:It) (fp:List Addr) (it:Addr) (tn:Nat->Heap->Prop):Prop where
 mem:it∈fp
 obj:∀i h,tn i h->∀b∈fp,∃o,h.get? b=some o/\∀v,o.data≠ .cell v
 keep:∀i h h',tn i h->(∀b∈fp,∀o,h.get? b=some o->h'.get? b=some o)->tn i h'
 item:∀(X:Cx),X.prog=P->X.w=w->X.K=K->Φ X->∀(i:Nat) (pins:List (Addr×Obj)) (s:Shared) (σ:St) (H:Hp) (E:Value->Shared->Prop),Inv X pins σ H s->(∀b∈fp,jJ X pins H b)->tn i s.heap->J.go i H->
  wpAny (model P w) X.A (pyNext (.ref it)) (λr s1=>∃u,r=some u/\
   wpAny (model P w) X.A (letOwnedTupleGo tg (.ref it) u) (λ_ s2=>∃x H',Inv X pins σ H' s2/\RelV x u/\J.fM i H x H'/\tn (i+1) s2.heap/\∀b∈fp,H' b=none) E s1) E s
 done:∀(X:Cx),X.prog=P->X.w=w->X.K=K->Φ X->∀(i:Nat) (pins:List (Addr×Obj)) (s:Shared) (σ:St) (H:Hp) (E:Value->Shared->Prop),Inv X pins σ H s->(∀b∈fp,jJ X pins H b)->tn i s.heap->J.stop i H->
  wpAny (model P w) X.A (pyNext<|.ref it) (λr s1=>r=none/\Inv X pins σ H s1) E s
 self:∀(A:Around) (i:Nat) (s:Shared) (Q:Value->Shared->Prop) (E:Value->Shared->Prop),tn i s.heap->Q (.ref it) s->wpAny (model P w) A (pyIter<|.ref it) Q E s
def BX(Φ:Cx->Prop)(X:Cx)(tg iter:Expr)(wi:TI):Prop:=
 ∀(pins:List (Addr×Obj)) (s:Shared) (σ:St) (H:Hp) (R:It->Hp->Prop),Inv X pins σ H s->wi σ H R->
  wpAny (model X.prog X.w) X.A (eval iter X.env) (λv s1=>wpAny (model X.prog X.w) X.A (pyIter v) (λpZ s2=>
   ∃(it:Addr) (fp:List Addr) (tn:Nat->Heap->Prop) (J:It) (H':Hp),pZ=.ref it/\Inv X pins σ H' s2/\HN Φ X.prog X.w X.K tg J fp it tn/\tn 0 s2.heap/\(∀b∈fp,jJ X pins H' b)/\R J H') X.xe s1) X.xe s
abbrev Calm(X:Cx):Prop:=X.calm=true
theorem PI.p{tg iter:Expr}{wi:TI}(h:PI X tg iter wi):BX Calm X tg iter wi:=λpins s σ H R I q=>
 aK (h pins s σ H R I q) λv s1 h1=>aK h1 λpZ s2 ⟨it,fp,tn,J,H',e,I',T,st,f,r⟩=>⟨it,fp,tn,J,H',e,I',⟨T.mem,T.obj,T.keep,T.item,T.done,T.self⟩,st,f,r⟩
section
variable {X:Cx}{pins:List (Addr×Obj)}{σ:St}{H:Hp}{s₂:Shared}{scope:Scope}{ln:List Str}{fv:List (Str×Nat)}{elt tg iter:Expr}{ifs:List Expr}{pos:Pos}
 {J:It}{fp:List Addr}{it:Addr}{tn:Nat->Heap->Prop}{tk:Option Nat}{tc:Option TT}{te:TE}{Qv:VK}{RR:Value->Addr->Result->Shared->Prop}{E:Value->Shared->Prop}
def BY(Ψ:Hp->Prop)(X:Cx)(scope:Scope)(ln:List Str)(fv:List (Str×Nat))(tg:Expr)(tk:Option Nat):Prop:=
 ∀(ex:List Addr) (C:Addr) (s:Shared) (H:Hp),Ψ H->∃g,PG (iz X scope (ln++fv.map (·.1)) ex C s H) tg g/\
  ∀(x:V) (pre φ:St) (H':Hp) (Q:St->Hp->Prop),pre.length=ln.length->jk X.K tk x H' (λxs=>xs.length=ln.length->Q (xs.map some++φ) H')->g x (pre++φ) H' Q
def u1(X:Cx)(scope:Scope)(ln:List Str)(fv:List (Str×Nat))(tg:Expr)(tk:Option Nat):Prop:=
 ∀(ex:List Addr) (C:Addr) (s:Shared) (H:Hp),∃g,PG (iz X scope (ln++fv.map (·.1)) ex C s H) tg g/\
  ∀(x:V) (pre φ:St) (H':Hp) (Q:St->Hp->Prop),pre.length=ln.length->jk X.K tk x H' (λxs=>xs.length=ln.length->Q (xs.map some++φ) H')->g x (pre++φ) H' Q
def u_(X:Cx)(scope:Scope)(N:List Str)(ifs:List Expr)(tc:Option TT):Prop:=
 match tc with
 |none=>ifs=[]
 |some t=>∃c,ifs=[c]/\∀(ex:List Addr) (C:Addr) (s:Shared) (H:Hp),PT (iz X scope N ex C s H) c t
theorem HP(S:ku X scope ln fv)(hc:∀Xc:Cx,Xc.A=X.A->Xc.calm=X.calm->Xc.H₀=H->Φ Xc)(hΨ:Ψ H)(hg:BY Ψ X scope ln fv tg tk)(ht:u_ X scope (ln++fv.map (·.1)) ifs tc)
  (he:∀(ex:List Addr) (C:Addr) (s:Shared) (H:Hp),PE (iz X scope (ln++fv.map (·.1)) ex C s H) elt te)
  (I:Inv X pins σ H s₂) (T:HN Φ X.prog X.w X.K tg J fp it tn) (st:tn 0 s₂.heap) (f2:∀b∈fp,jJ X pins H b)
  (h:∃W:Nat->Nat->List V->Hp->Prop,(∃m,W 0 m [] H)/\∀i m ys H2,W i m ys H2->
   (J.stop i H2/\∀p,H2 p=none->Qv (.ref p) (upd H2 p<|.lst ys))\/
   (J.go i H2/\∀x H3,J.fM i H2 x H3->jk X.K tk x H3 λxs=>
    kx tc (xs.map some++cC σ fv) H3 λb H5=>
     if b=true then te (xs.map some++cC σ fv) H5 λy H6=>ys.length<sizeLine/\∃m',m'<m/\W (i+1) m' (ys++[y]) H6
     else ∃m',m'<m/\W (i+1) m' ys H5))
  (Vp:∀D C H' s' m,Inv X pins σ H' s'->s'.heap.Ns C m->H' C=none->C≠X.env.locals->X.s₀.heap.objs.size<=C->(∀x c,X.env.cells.lookup x=some c->c≠C)->(∀p∈X.pn++pins,p.1≠C)->Qv (.ref D) H'->RR (.ref D) C (.ok .next) s'):
  wpAny (model X.prog X.w) X.A (newList []) (λacc s₃=>wpAny (model X.prog X.w) X.A (newFunctionEnv scope X.env.globals (d9 X.env.cells scope.names []) [] X.env.qual none .none (some X.env)) (λHQ s₄=>
   codeAny (model X.prog X.w) X.A (.compStart (.ListComp elt [⟨tg,iter,ifs,0⟩] scope pos) 0 (.ref it) acc {HQ with scope:=relabel scope X.env}) (RR acc HQ.locals) s₄) E s₃) E s₂:=by
 obtain⟨W,⟨m0,w0⟩,turn⟩:=h;refine wpAny_newObj_type<|wpAny_newFunctionEnv S.HK (by intro y hy;simp at hy) (λh₁ yy yz=>?_) S.kind
 dsimp only at yy yz⊢
 generalize yA:({s₂ with heap:=s₂.heap.push {cls:=.type "list",dict:=none,data:=.seq ([]:List Value).toArray}}:Shared)=s₃
 have va:s₂.heap.push {cls:=.type "list",dict:=none,data:=.seq ([]:List Value).toArray}=s₃.heap:=by rw[<-yA]
 rw[va] at yy yz⊢;have HR:s₃.os=s₂.os:=by rw[<-yA]
 have Vq:s₃.gens=s₂.gens:=by rw[<-yA]
 have qo:s₃.heap.objs.size=s₂.heap.objs.size+1:=by rw[<-va,Heap.size_push]
 have k3:∀b o,s₂.heap.get? b=some o->s₃.heap.get? b=some o:=λb o e=>by rw[<-va];exact Heap.get?_push_of_some _ e
 have k4:=λb o e=>yz.extBut b o (zao<|Heap.lt_size e) (Heap.get?_push_of_some _ e);have gD:s₃.heap.get? s₂.heap.objs.size=some {cls:=.type "list",dict:=none,data:=.seq ([]:List Value).toArray}:=by rw[<-va];exact Heap.get?_push_size _ rfl
 generalize eD:s₂.heap.objs.size=D at gD;generalize eC:s₃.heap.objs.size=C at yy yz⊢;have yB:D≠C:=by rw[<-eD,<-eC,qo];exact zao (Nat.lt_succ_self _)
 have u0:∀b∈fp,∃o,s₂.heap.get? b=some o:=λb hb=>by obtain⟨o,e,_⟩:=T.obj 0 _ st b hb;exact⟨o,e⟩
 have HS:∀b∈fp,b≠D:=λb hb=>by obtain⟨o,e⟩:=u0 b hb;rw[<-eD];exact zao (Heap.lt_size e)
 have Vr:∀b∈fp,b≠C:=λb hb=>by
  obtain⟨o,e⟩:=u0 b hb;have:=Heap.lt_size e;rw[<-eC,qo];exact zao (zbD this)
 generalize eX:iz X scope (ln++fv.map (·.1)) (D::fp) C s₃ H=Xc;have I4:∀t,Inv Xc [] (ln.map (λ_=>none)++cC σ fv) H {s₃ with heap:=h₁,toks:=t}:=λt=>by
  rw[<-eX];exact Vh S I f2 u0 HR Vq k3 eD.symm qo eC.symm k4 yy
 have xL:Xc.env.locals=C:=by rw[<-eX];rfl
 have yC:Xc.ex=D::fp:=by rw[<-eX];rfl
 have Vs:Xc.fs=bG X.stack:=by rw[<-eX];rfl
 have xP:Xc.prog=X.prog:=by rw[<-eX];rfl
 have xw:Xc.w=X.w:=by rw[<-eX];rfl
 have xK:Xc.K=X.K:=by rw[<-eX];rfl
 have xA:Xc.A=X.A:=by rw[<-eX];rfl
 have xc:Φ Xc:=hc Xc xA (by rw[<-eX];rfl) (by rw[<-eX];rfl)
 have HU:Xc.pn=[]:=by rw[<-eX];rfl
 have BZ:Xc.xe=λ_ _=>False:=by rw[<-eX];rfl
 have HV:Xc.env.cells=d9 X.env.cells scope.names []:=by rw[<-eX];rfl
 have B0:Xc.env=compEnvC scope (d9 X.env.cells scope.names []) C X.env:=by rw[<-eX];rfl
 have cD:∀x c,Xc.env.cells.lookup x=some c->c≠D:=λx c e=>by
  rw[HV] at e;obtain⟨v,q⟩:=I.cell x c (S.cells I e).1;rw[<-eD];exact zao q.lt
 have cF:∀x c,Xc.env.cells.lookup x=some c->∀b∈fp,c≠b:=λx c e b hb=>by
  rw[HV] at e;exact(f2 b hb).2.2.2.2.1 x c (S.cells I e).1
 have sF:∀b∈D::fp,b∉Xc.fs:=λb hb hf=>by
  have:=(I4 0).ok.xQ b (by rw[yC];exact hb)
  exact this hf
 have p3:∀{H':Hp}{oD:Obj},(∀b∈fp,H' b=none)->∀b∈fp,jJ Xc [(D,oD)] H' b:=λhn b hb=>
  ⟨hn b hb,by rw[xL];exact Vr b hb,sF b (zav _ hb),.inl (by rw[yC];exact zav _ hb),λx c e=>cF x c e b hb,λp hp=>by
   rw[HU] at hp;rcases zag.mp (show p∈ [(D,_)] from hp) with rfl
   exact(HS b hb).symm⟩
 have loop:∀s₄:Shared,s₄={s₃ with heap:=h₁,toks:=s₃.toks+([]:List (Str×Value)).length}->
   codeAny (model X.prog X.w) X.A (.compLoop (.ListComp elt [⟨tg,iter,ifs,0⟩] scope pos) 0 (.ref it) (.ref D)<|compEnvC scope (d9 X.env.cells scope.names []) C X.env) (RR (.ref D) C) s₄:=by
  rintro s₄ rfl;refine Vd (λn s'=>∃i pre ys ao nn H',Inv Xc [(D,{cls:=.type "list",data:=.seq (List.toArray ao) nn})] (pre++cC σ fv) H' s'/\pre.length=ln.length/\tn i s'.heap/\(∀b∈fp,H' b=none)/\Vals ys ao/\ys.length<=sizeLine/\W i n ys H') ?_ m0
   ⟨0,ln.map<|λ_=>none,[],[],0,H,(I4 _).r_<|λp hp=>?_,by simp,T.keep 0 _ _ st<|λb _ o e=>k4 b o<|k3 b o e,λb hb=>(f2 b hb).1,.nil,zqZ _,w0⟩
  rotate_left
  ·have sE:=zag.mp hp;subst sE;refine⟨k4 _ _ gD,I.aF.fresh<|zbk eD,by rw[xL];exact yB,sF D zau,λv z=>by cases z⟩
  rintro n s' ⟨i,pre,ys,ao,nn,H',I',mL,kj,HW,hv,hz,w'⟩;have aiA:=I'.pin (D,_) (zax _ zau);rcases turn i n ys H' w' with⟨stop,qn⟩|⟨go,step⟩
  ·have td:=T.done Xc xP xw xK xc i _ s' _ H' (λ_ _=>False) I' (p3 HW) kj stop;rw[xA] at td;refine aK td λr s1 ⟨hr,I1⟩=>?_;subst hr;have B1:=I1.pin (D,_) (zax _ zau);have b1:=I1.base;rw[Vs,yC] at b1;have HX:Xc.s₀=s₃:=by rw[<-eX];rfl
   have Vt:Xc.H₀=H:=by rw[<-eX];rfl
   rw[HX,Vt] at b1;have nD:∀b o,s₂.heap.get? b=some o->b∉fp->b∉D::fp:=λb o e hb hm=>by
    rcases zac.mp hm with z|z
    ·have:=Heap.lt_size e;rw[z,eD] at this;exact zaQ _ this
    ·exact hb z
   have un:Un (bG X.stack) fp H H' s₂.heap s1.heap:=⟨λb o e nb hb hx=>b1.keep b o (k3 b o e) nb hb (nD b o e hx),λb o e nb hb hx=>b1.slot b o (k3 b o e) nb hb (nD b o e hx),λb o e nb hx=>b1.free b o (k3 b o e) nb (nD b o e hx),
    λb o e hx=>b1.there b o (k3 b o e) (nD b o e hx),b1.dD,b1.h9,b1.iq⟩
   have Vu:s1.os=s₂.os:=by rw[I1.os,HX,HR]
   have HY:=I1.aF;rw[xP,xw] at HY;have J1:Inv X pins σ H' s1:=I.Bh Vu un HY I1.bare λb hb=>⟨(f2 b hb).2.2.2.1,(f2 b hb).2.1,(f2 b hb).2.2.2.2.1,(f2 b hb).2.2.2.2.2⟩;have Vv:∀x c,X.env.cells.lookup x=some c->c≠D:=λx c e=>by
    obtain⟨v,q⟩:=I.cell x c e;rw[<-eD];exact zao q.lt
   have Vw:∀x c,X.env.cells.lookup x=some c->c≠C:=λx c e=>by
    obtain⟨v,q⟩:=I.cell x c e;rw[<-eC,qo];exact zao (zbD q.lt)
   have pD:∀p∈X.pn++pins,p.1≠D:=λp hp=>by rw[<-eD];exact zao (Heap.lt_size (I.pin p hp).1)
   have pC:∀p∈X.pn++pins,p.1≠C:=λp hp=>by
    rw[<-eC,qo];exact zao (zbD<|Heap.lt_size (I.pin p hp).1)
   have lD:D≠X.env.locals:=by rw[<-eD];exact Nat.ne_of_gt I.lt
   have lC:C≠X.env.locals:=by
    rw[<-eC,qo];exact Nat.ne_of_gt (zbD I.lt)
   have J2:Inv X pins σ (upd H' D<|.lst ys) s1:=Inv.U_ J1 B1.2.1 (by rw[<-eD];exact I.sz) lD Vv pD ⟨hz,ao,nn,hv,B1.1⟩
   obtain⟨mC,HZ,_⟩:=I1.loc;rw[xL] at HZ;have fC:H' C=none:=by have:=I1.free;rw[xL] at this;exact this
   exact Vp D C _ s1 mC J2 HZ (by rw[az<|Ne.symm yB];exact fC) lC (by rw[<-eC,qo];exact Nat.le_succ_of_le I.sz) Vw pC<|qn D B1.2.1
  ·have ti:=T.item Xc xP xw xK xc i _ s' _ H' (λ_ _=>False) I' (p3 HW) kj go;rw[xA] at ti;refine aK ti λr s4 ⟨u,hr,h4⟩=>?_;subst hr;refine aK h4 λ_ s5 ⟨x,H5,I5,r5,y5,p9,Bp⟩=>?_;have uM:=I5.pinned (p3 Bp) (T.obj _ _ p9);obtain⟨g,pg,gq⟩:=hg (D::fp) C s₃ H hΨ;rw[eX] at pg;have rd:=step x H5 y5;have H_:=pg _ s5 _ H5 x u (λσ6 H6=>∃xs:List V,σ6=xs.map some++cC σ fv/\xs.length=ln.length/\H6=H5/\
     kx tc (xs.map some++cC σ fv) H5 λb H5=>
     if b=true then te (xs.map some++cC σ fv) H5 λy H6=>ys.length<sizeLine/\∃m',m'<n/\W (i+1) m' (ys++[y]) H6
     else ∃m',m'<n/\W (i+1) m' ys H5) uM r5 (gq x pre (cC σ fv) H5 _ mL (by
      cases tk with
      |none=>exact λhl=>⟨_,rfl,hl,rfl,rd⟩
      |some k=>exact Vg rd λxs rd hl=>⟨xs,rfl,hl,rfl,rd⟩))
   rw[xA,xP,xw,BZ,B0] at H_;refine aK H_ λ_ s6 ⟨σ6,H6,I6,xs,e6,lL,eH,Ia⟩=>?_;subst e6 eH;have Ib:∀{H7:Hp}{σ7:St}{s7:Shared},Inv Xc ([(D,{cls:=.type "list",data:=.seq (List.toArray ao) nn})]++sj fp s5.heap) σ7 H7 s7->tn (i+1) s7.heap/\(∀b∈fp,H7 b=none)/\s7.heap.get? D=some {cls:=.type "list",data:=.seq (List.toArray ao) nn}/\H7 D=none:=λ{H7 σ7 s7} I7=>by
    refine⟨T.keep _ _ _ p9 λb hb o e=>(I7.pin (b,o)<|zax _<|zax _<|xZ hb e).1,λb hb=>?_,?_,?_⟩
    ·obtain⟨o,e,d⟩:=T.obj _ _ p9 b hb;exact(I7.pin (b,o)<|zax _<|zax _<|xZ hb e).2.1
    ·exact(I7.pin (D,_)<|zax _<|zaR _ zau).1
    ·exact(I7.pin (D,_)<|zax _<|zaR _ zau).2.1
   have tests:wpAny (model X.prog X.w) X.A (forIn ifs true λc r=>if r=true then do let ok <-isTrue c (compEnvC scope (d9 X.env.cells scope.names []) C X.env) (eval c<|compEnvC scope (d9 X.env.cells scope.names []) C X.env);pure (ForInStep.yield ok) else pure (ForInStep.yield r))
     (λok s7=>∃H7,Inv Xc ([(D,{cls:=.type "list",data:=.seq (List.toArray ao) nn})]++sj fp s5.heap) (xs.map some++cC σ fv) H7 s7/\
      if ok=true then te (xs.map some++cC σ fv) H7 λy H6=>ys.length<sizeLine/\∃m',m'<n/\W (i+1) m' (ys++[y]) H6
      else ∃m',m'<n/\W (i+1) m' ys H7) (λ_ _=>False) s6:=by
    cases tc with
    |none=>
     have sG:ifs=[]:=ht;subst sG;exact wpAny_tests_nil ⟨_,I6,Ia⟩
    |some t=>
     obtain⟨c,sG,pt⟩:=(show ∃c,ifs=[c]/\∀(ex:List Addr) (C:Addr) (s:Shared) (H:Hp),PT (iz X scope (ln++fv.map (·.1)) ex C s H) c t from ht)
     subst sG;have Ic:=pt (D::fp) C s₃ H;rw[eX] at Ic;have q:=Ic _ s6 _ _ _ I6 Ia;rw[xA,xP,xw,BZ,B0] at q;exact wpAny_tests_one<|aK q λb s7 ⟨H7,I7,q7⟩=>⟨H7,I7,q7⟩
   refine aK tests λok s7 ⟨H7,I7,q7⟩=>?_;cases ok with
   |false=>
    simp only[zbC,if_false] at q7⊢
    obtain⟨m',hm,w7⟩:=q7;obtain⟨t7,f7,d7,n7⟩:=Ib I7;refine⟨m',hm,i+1,xs.map some,ys,ao,nn,H7,I7.r_<|λp hp=>?_,by simpa using lL,t7,f7,hv,hz,w7⟩
    exact I7.pin p<|zax _<|zaR _ hp
   |true=>
    simp only[if_true] at q7⊢
    have q:=he (D::fp) C s₃ H;rw[eX] at q;have q:=q _ s7 _ H7 _ I7 q7;rw[xA,xP,xw,BZ,B0] at q;refine aK q λuy s8 ⟨y,H8,I8,r8,bE,m',hm,w8⟩=>?_;obtain⟨t8,f8,d8,n8⟩:=Ib I8;have hl:=hv.length;refine call_meets F.slot_list_append ⟨_,d8,rfl⟩ F.entry_list_append (F.args_list_append_2 _ _) (PySem.list_append D ao.toArray nn uy (by rw[zak];lia)) ⟨d8,?_⟩
    have I9:=λt=>
     (I8.r_ (pins':=[])<|λp hp=>absurd hp (by simp)).turned (it:=D) (t':=t) (λb o hb e=>(Heap.get?_update_other s8.heap (Obj.mapSeq (·.push uy))<|Ne.symm hb).trans e) n8 (by rw[xL];exact yB) (.inl (by rw[yC];exact zau)) cD
      (λp hp=>by rw[HU] at hp;exact absurd hp (by simp))
    have g9:=PySem.IsL.update d8 (·.push uy);obtain⟨n9,Vx⟩:∃n9,(s8.heap.update D (Obj.mapSeq (·.push uy))).get? D=some {cls:=.type "list",data:=.seq (ao++[uy]).toArray n9}:=
     ⟨_,by rw[show(ao++[uy]).toArray=ao.toArray.push uy by simp];exact g9⟩
    refine⟨m',hm,i+1,xs.map some,ys++[y],ao++[uy],n9,H8,(I9 _).r_<|λp hp=>?_,by simpa using lL,?_,f8,hv.append<|.cons r8 .nil,?_,w8⟩
    ·have sE:=zag.mp hp;subst sE;exact⟨Vx,n8,by rw[xL];exact yB,sF D zau,λv z=>by cases z⟩
    ·exact T.keep _ _ _ t8 λb hb o e=>(Heap.get?_update_other s8.heap (Obj.mapSeq (·.push uy))<|Ne.symm<|HS b hb).trans e
    ·rw[zqA,zbm];lia
 have Vy:tn 0 h₁:=T.keep 0 _ _ st λb _ o e=>k4 b o (k3 b o e);have e4:({s₂ with heap:=h₁,toks:=s₂.toks+([]:List (Str×Value)).length}:Shared)={s₃ with heap:=h₁,toks:=s₃.toks+([]:List (Str×Value)).length}:=by rw[<-yA]
 exact codeAny_compStart_list (loop _ e4)<|T.self X.A 0 _ _ _ Vy<|loop _ e4
end
section
variable {X:Cx}{scope:Scope}{ln:List Str}{fv:List (Str×Nat)}{elt tg iter:Expr}{ifs:List Expr}{pos:Pos}{wi:TI}{tk:Option Nat}{tc:Option TT}{te:TE}
theorem Vz{Ψ:Hp->Prop}(S:ku X scope ln fv)(hc:∀H,Ψ H->∀Xc:Cx,Xc.A=X.A->Xc.calm=X.calm->Xc.H₀=H->Φ Xc)(hΨ:∀pins σ H s,Inv X pins σ H s->Ψ H)(hi:BX Φ X tg iter wi)(hg:BY Ψ X scope ln fv tg tk)(ht:u_ X scope (ln++fv.map (·.1)) ifs tc)
  (he:∀(ex:List Addr) (C:Addr) (s:Shared) (H:Hp),PE (iz X scope (ln++fv.map (·.1)) ex C s H) elt te) (hs:∀x,foldedSetIterable iter X.env x=pure x:=by intro _;rfl):
  PE X (.ListComp elt [⟨tg,iter,ifs,0⟩] scope pos) (ql X.K wi tk fv tc te):=by
 intro pins s σ H Q I h;refine wpAny_comprehension_free rfl hs (S.HL I) S.kind S.locals<|aK (hi pins s σ H _ I h) λv s1 h1=>aK h1 λpZ s2 h2=>?_;obtain⟨it,fp,tn,J,H2,e,I2,T,uL,f2,hW⟩:=h2;subst e;refine HP S (hc H2<|hΨ _ _ _ _ I2) (hΨ _ _ _ _ I2) hg ht he I2 T uL f2 hW ?_;intro D C H' s' m I' ns hn hL h0 yD hp q;exact⟨m,ns,λh' sb=>⟨.ref D,H',I'.turned (λb o hb e=>sb.extBut b o hb e) hn hL (.inr h0) yD hp,rfl,q⟩⟩
theorem VA{Ψ:Hp->Prop}{i:Nat}{y:Str}{py vb:Pos}(hN:X.N.Nodup)(d_:X.N[i]?=some y)(hy:Loc X.env.scope y)(B2:swapsWith (.ListComp elt [⟨tg,iter,ifs,0⟩] scope pos) (some<|.Name y py) vb.line X.env=pure true)
  (S:ku X scope ln fv) (hc:∀H,Ψ H->∀Xc:Cx,Xc.A=X.A->Xc.calm=X.calm->Xc.H₀=H->Φ Xc) (hΨ:∀pins σ H s,Inv X pins σ H s->Ψ H) (hi:BX Φ X tg iter wi) (hg:BY Ψ X scope ln fv tg tk) (ht:u_ X scope (ln++fv.map (·.1)) ifs tc)
  (he:∀(ex:List Addr) (C:Addr) (s:Shared) (H:Hp),PE (iz X scope (ln++fv.map (·.1)) ex C s H) elt te) (hs:∀x,foldedSetIterable iter X.env x=pure x:=by intro _;rfl)
  (hf:X.fn y=true\/X.env.scope.names.lookup y=some .local:=by first|exact .inl rfl|exact .inr rfl|assumption):
  PS X (.Assign [.Name y py] (.ListComp elt [⟨tg,iter,ifs,0⟩] scope pos) vb) (lH (ql X.K wi tk fv tc te)<|fB i):=by
 intro pins s σ H D I h;rw[exec_Assign_Name_used _ _ _ _ B2];refine wpAny_bind<|wpAny_standAt<|wpAny_bind ?_
 refine wpAny_bind (wpAny_mono (wpAny_comprehension_free rfl hs (S.HL I) S.kind S.locals
  (aK (hi pins s σ H _ I h) λv s1 h1=>aK h1 λpZ s2 h2=>?_)) (λ_ s' hq=>wpAny_pure (wpAny_pure hq)) λ_ _ e=>e)
 obtain⟨it,fp,tn,J,H2,e,I2,T,uL,f2,hW⟩:=h2;subst e;refine HP (Qv:=λx H1=>fB i x σ H1 D.nx) S (hc H2<|hΨ _ _ _ _ I2) (hΨ _ _ _ _ I2) hg ht he I2 T uL f2 hW ?_;intro Da C H' s' m I' ns hn hL h0 yD hp q;refine wpAny_assign_Name<|F3 I' hN d_ hy (v:=.ref Da) rfl (λs4 I4 ⟨a,sb,ha⟩=>?_) hf;have VB:C≠a:=by
  rcases ha with z|z
  ·rw[z];exact hL
  ·exact Ne.symm (yD _ _ z)
 exact⟨m,ns.sameBut sb VB,λh' VC=>⟨_,H',I4.turned (λb o hb e=>VC.extBut b o hb e) hn hL (.inr h0) yD hp,q⟩⟩
theorem VD(S:ku X scope ln fv)(hc:X.calm=true)(hi:PI X tg iter wi)(hg:u1 X scope ln fv tg tk)(ht:u_ X scope (ln++fv.map (·.1)) ifs tc)
  (he:∀(ex:List Addr) (C:Addr) (s:Shared) (H:Hp),PE (iz X scope (ln++fv.map (·.1)) ex C s H) elt te) (hs:∀x,foldedSetIterable iter X.env x=pure x:=by intro _;rfl):
  PE X (.ListComp elt [⟨tg,iter,ifs,0⟩] scope pos) (ql X.K wi tk fv tc te):=
 Vz S (λ_ _ Xc _ e _=>e.trans hc) (λ_ _ _ _ _=>trivial) hi.p (λex C s H _=>hg ex C s H) ht he hs
theorem VE{py vb:Pos}(hN:X.N.Nodup)(d_:X.N[i]?=some y)(hy:Loc X.env.scope y)(B2:swapsWith (.ListComp elt [⟨tg,iter,ifs,0⟩] scope pos) (some<|.Name y py) vb.line X.env=pure true)
  (S:ku X scope ln fv) (hc:X.calm=true) (hi:PI X tg iter wi) (hg:u1 X scope ln fv tg tk) (ht:u_ X scope (ln++fv.map (·.1)) ifs tc)
  (he:∀(ex:List Addr) (C:Addr) (s:Shared) (H:Hp),PE (iz X scope (ln++fv.map (·.1)) ex C s H) elt te) (hs:∀x,foldedSetIterable iter X.env x=pure x:=by intro _;rfl)
  (hf:X.fn y=true\/X.env.scope.names.lookup y=some .local:=by first|exact .inl rfl|exact .inr rfl|assumption):
  PS X (.Assign [.Name y py] (.ListComp elt [⟨tg,iter,ifs,0⟩] scope pos) vb) (lH (ql X.K wi tk fv tc te)<|fB i):=
 VA hN d_ hy B2 S (λ_ _ Xc _ e _=>e.trans hc) (λ_ _ _ _ _=>trivial) hi.p (λex C s H _=>hg ex C s H) ht he hs hf
end
section
variable {X:Cx}{scope:Scope}{fv:List (Str×Nat)}
theorem VF(hl:scope.names.lookup x=some .local)(yE:(x::fv.map (·.1)).Nodup):u1 X scope [x] fv (.Name x px) none:=by
 intro ex C s H;have VG:Loc (iz X scope ([x]++fv.map (·.1)) ex C s H).env.scope x:=.inl (lookup_relabel_local hl);refine⟨fB 0,xW yE rfl VG<|.inr<|lookup_relabel_local hl,λv pre φ H' Q hp h=>?_⟩;obtain⟨a,rfl⟩:∃a,pre=[a]:=by
  match pre,hp with
  |[a],_=>exact⟨a,rfl⟩
 exact h rfl
theorem VH{k:Nat}(hc:X.calm=true)(hx:scope.names.lookup x=some .local)(hy:scope.names.lookup y=some .local)(yE:(x::y::fv.map (·.1)).Nodup):u1 X scope [x,y] fv (.Tuple [.Name x px,.Name y py] k pos) (some 2):=by
 intro ex C s H;generalize eX:iz X scope ([x,y]++fv.map (·.1)) ex C s H=Xc;have xN:Xc.N=x::y::fv.map (·.1):=eX▸rfl
 have xc:Xc.calm=true:=eX▸hc
 have lx:Xc.env.scope.names.lookup x=some .local:=eX▸lookup_relabel_local hx
 have ly:Xc.env.scope.names.lookup y=some .local:=eX▸lookup_relabel_local hy
 have p1:PG Xc (.Name x px) (fB 0):=xW (by lia) (xN▸rfl) (.inl lx) (.inr lx)
 have p2:PG Xc (.Name y py) (fB 1):=xW (by lia) (xN▸rfl) (.inl ly) (.inr ly)
 have xK:Xc.K=X.K:=eX▸rfl
 refine⟨Gu Xc.K 2<|xX (fB 0)<|xX (fB 1) Bl,Gv xc<|Bm p1<|Bm p2 Gr,λv pre φ H' Q hp h=>?_⟩;obtain⟨a,b,rfl⟩:∃a b,pre=[a,b]:=by
  match pre,hp with
  |[a,b],_=>exact⟨a,b,rfl⟩
 obtain⟨a',xs,rfl,e2,e3,q⟩:=h;obtain⟨v1,v2,rfl⟩:∃v1 v2,xs=[v1,v2]:=by
  match xs,e3 with
  |[v1,v2],_=>exact⟨v1,v2,rfl⟩
 exact⟨a',_,rfl,by lia,rfl,v1,_,rfl,v2,_,rfl,rfl,q rfl⟩
theorem bA.imp{r r':R2}(h:bA X f r)(i:∀x y H Q,r' x y H Q->r x y H Q):bA X f r':=λpins s σ H x y v u Q I rx ry q=>h pins s σ H x y v u Q I rx ry (i _ _ _ _ q)
theorem dZ.imp{r r':List V->Hp->VK->Prop}(h:dZ X f r)(i:∀xs H Q,r' xs H Q->r xs H Q):dZ X f r':=λpins s σ H xs us Q I rv q=>h pins s σ H xs us Q I rv (i _ _ _ q)
def Ie(K:Frag):R2:=λx y H Q=>match x,y with
 |.int i,.int j=>Q (.int<|i+j) H
 |.str i,.str j=>i.length+j.length<=sizeLine/\Q (.str<|i++j) H
 |.ref l,.ref b=>Hs (.ref l) (.ref b) H Q\/Hh K (.ref l) (.ref b) H Q
 |_,_=>False
theorem VI:bA X (binaryOp .Add) (Ie X.K):=by
 refine bA.imp ((Sk.or SQ).or<|UC.or TX) λx y H Q h=>?_;cases x<;>cases y<;>first
  |exact False.elim h
  |exact .inl (.inl ⟨_,_,rfl,rfl,h⟩)
  |exact .inl (.inr ⟨_,_,rfl,rfl,h⟩)
  |exact .inr h
def lM(C:Int->Int->Prop)(g:Int->Int->V):R2:=λx y H Q=>match x,y with
 |.int i,.int j=>C i j/\Q (g i j) H
 |_,_=>False
theorem B3{g:Int->Int->V}(x y:V)(H:Hp)(Q:VK)(h:lM C g x y H Q):rI C g x y H Q:=by
 cases x<;>cases y<;>first
  |exact False.elim h
  |exact⟨_,_,rfl,rfl,h⟩
theorem vc(x y:V)(H:Hp)(Q:VK)(h:lM (λ_ _=>True) g x y H Q):mH g x y H Q:=by
 cases x<;>cases y<;>first
  |exact False.elim h
  |exact⟨_,_,rfl,rfl,h.2⟩
def Ig:R2:=λx y H Q=>match x,y with
 |.int i,.int j=>uN i j/\Q (.int<|i*j) H
 |.ref l,.int k=>Ht (.ref l) (.int k) H Q
 |_,_=>False
theorem VJ:bA X (binaryOp .Mult) Ig:=by
 refine bA.imp (Sm.or UD) λx y H Q h=>?_;cases x<;>cases y<;>first
  |exact False.elim h
  |exact .inl ⟨_,_,rfl,rfl,h⟩
  |exact .inr h
def iV(K:Frag):Operator->R2
 |.Add=>Ie K
 |.Sub=>lM (λ_ _=>True) λi j=>.int (i - j)
 |.Mult=>Ig
 |.FloorDiv=>lM Bt λi j=>.int (i / j)
 |.Mod=>lM (λ_ j=>0<j) λi j=>.int (i % j)
 |.Pow=>lM GK λi j=>.int (i ^ j.toNat)
 |_=>λ_ _ _ _=>False
theorem VL(op:Operator):bA X (binaryOp op) (iV X.K op):=by
 cases op<;>first
  |exact VI
  |exact bA.imp Sl vc
  |exact VJ
  |exact bA.imp Sn B3
  |exact bA.imp So B3
  |exact bA.imp Sq B3
  |exact λ_ _ _ _ _ _ _ _ _ _ _ _ h=>False.elim h
mutual
def Is(H:Hp):PyData->V->Prop
 |.none,v=>v=.au
 |.bool b,v=>v=.bl b
 |.int i,v=>v=.int i
 |.str x,v=>v=.str x
 |.list xs,v=>∃a vs,v=.ref a/\H a=some (.lst vs)/\IsL H xs vs
 |.tuple xs,v=>∃a vs,v=.ref a/\H a=some (.tup vs)/\IsL H xs vs
 |.dict _,_=>False
def IsL(H:Hp):List PyData->List V->Prop
 |[],vs=>vs=[]
 |d::ds,vs=>∃v r,vs=v::r/\Is H d v/\IsL H ds r
end
mutual
theorem Is.reads{pins:List (Addr×Obj)}{σ:St}{H:Hp}{s:Shared}(I:Inv X pins σ H s):∀(d:PyData) (v:V) (u:Value),Is H d v->RelV v u->∃as,Reads s.heap u d as
 |.none,v,u,h,r=>by rw[show v=.au from h] at r;rw[show u=.none from r];exact⟨_,.none⟩
 |.bool b,v,u,h,r=>by rw[show v=.bl b from h] at r;rw[show u=.bool b from r];exact⟨_,.bool b⟩
 |.int i,v,u,h,r=>by rw[show v=.int i from h] at r;obtain⟨t,e⟩:=r;rw[e];exact⟨_,.int i t⟩
 |.str x,v,u,h,r=>by rw[show v=.str x from h] at r;obtain⟨t,e⟩:=r;rw[e];exact⟨_,.str x t⟩
 |.list xs,v,u,h,r=>by
  obtain⟨a,vs,e,hH,hl⟩:=(show ∃a vs,v=.ref a/\H a=some (.lst vs)/\IsL H xs vs by simpa only[Is] using h)
  rw[e] at r;rw[show u=.ref a from r]
  obtain⟨_,ao,n,hv,hg⟩:=I.aF a _ hH;obtain⟨as,q⟩:=IsL.reads I xs vs ao hl hv;exact⟨_,.list hg rfl rfl (by simpa using q)⟩
 |.tuple xs,v,u,h,r=>by
  obtain⟨a,vs,e,hH,hl⟩:=(show ∃a vs,v=.ref a/\H a=some (.tup vs)/\IsL H xs vs by simpa only[Is] using h)
  rw[e] at r;rw[show u=.ref a from r]
  obtain⟨_,ao,hv,o,hg,hc,n,hd⟩:=I.aF a _ hH;obtain⟨as,q⟩:=IsL.reads I xs vs ao hl hv;exact⟨_,.tuple hg hc hd (by simpa using q)⟩
 |.dict _,v,u,h,r=>by simp only[Is] at h
theorem IsL.reads{pins:List (Addr×Obj)}{σ:St}{H:Hp}{s:Shared}(I:Inv X pins σ H s):∀(ds:List PyData) (vs:List V) (us:List Value),IsL H ds vs->Vals vs us->∃as,ReadsAll s.heap us ds as
 |[],vs,us,h,r=>by
  rw[show vs=[] from h] at r
  cases r;exact⟨_,.nil⟩
 |d::ds,vs,us,h,r=>by
  obtain⟨v,q,e,h1,h2⟩:=(show ∃v r,vs=v::r/\Is H d v/\IsL H ds r by simpa only[IsL] using h)
  rw[e] at r;cases r with
  |cons r1 r2=>
   obtain⟨as,q1⟩:=Is.reads I d v _ h1 r1;obtain⟨bs,q2⟩:=IsL.reads I ds q _ h2 r2;exact⟨_,.cons q1 q2⟩
end
def VM:V->Bool
 |.nY _=>false
 |.gK _=>false
 |_=>true
def VN:R2:=λx y H Q=>∃a b xs,x=.ref a/\y=.ref b/\H a=some (.lst xs)/\H b=some (.lst xs)/\xs.all VM=true/\Q (.bl true) H
def mP(neg:Bool):R2:=λx y H Q=>match lI x y with
 |true=>Q (.bl<|neg ^^ decide (x=y)) H
 |false=>∃d e,Is H d x/\Is H e y/\SeqAt.shaped d=true/\SeqAt.shaped e=true/\Q (.bl<|neg ^^ PyData.eqv d e) H
def VO:R2:=λx y H Q=>mP false x y H Q\/VN x y H Q
theorem VP(hu:X.A.units+64<cLine):bA X (compareOp .Eq) (mP false):=by
 intro pins s σ H x y v u Q I rx ry h;unfold mP at h;by_cases hs:lI x y=true
 ·rw[hs] at h
  simp at h
  exact Sw pins s σ H x y v u Q I rx ry ⟨hs,h⟩
 ·rw[show lI x y=false by lia] at h
  obtain⟨d,e,h1,h2,h3,h4,q⟩:=h;rw[zaH] at q;obtain⟨as,r1⟩:=Is.reads I d x v h1 rx;obtain⟨bs,r2⟩:=Is.reads I e y u h2 ry;exact eq_dataH r1 r2 h3 h4 hu ⟨.bl _,H,I,rfl,q⟩
theorem VQ(hu:X.A.units+64<cLine):bA X (compareOp .NotEq) (mP true):=by
 intro pins s σ H x y v u Q I rx ry h;unfold mP at h;by_cases hs:lI x y=true
 ·rw[hs] at h
  simp at h
  exact Sx pins s σ H x y v u Q I rx ry ⟨hs,h⟩
 ·rw[show lI x y=false by lia] at h
  obtain⟨d,e,h1,h2,h3,h4,q⟩:=h;rw[zaM] at q;obtain⟨as,r1⟩:=Is.reads I d x v h1 rx;obtain⟨bs,r2⟩:=Is.reads I e y u h2 ry;exact ne_dataH r1 r2 h3 h4 hu ⟨.bl _,H,I,rfl,q⟩
def aiB(K:Frag)(H:Hp)(a:Addr):Prop:=(∃xs,aB K H a xs)\/(∃xs,aL K H a xs)\/∃kvs,H a=some (.dK kvs)
def yF(K:Frag)(neg:Bool):R2:=λx y H Q=>match y with
 |.str j=>∃i,x=.str i/\Q (.bl (if neg then !(!(Builtin.Str.occurrences j i 0 j.length 1).isEmpty) else !(Builtin.Str.occurrences j i 0 j.length 1).isEmpty)) H
 |.ref p=>match x with
  |.ref _=>False
  |x=>BF K neg x (.ref p) H Q
 |_=>False
theorem VR(hu:X.A.units+64<cLine):bA X (compareOp .In) (yF X.K false):=by
 intro pins s σ H x y v u Q I rx ry h;cases y with
 |str j=>
  obtain⟨i,e,q⟩:=h;exact SE pins s σ H x _ v u Q I rx ry ⟨i,j,e,rfl,q⟩
 |ref p=>
  cases x with
  |ref a=>exact False.elim h
  |_=>exact Ui pins s σ H _ _ v u Q I rx ry h
 |_=>exact False.elim h
theorem VS(hu:X.A.units+64<cLine):bA X (compareOp .NotIn) (yF X.K true):=by
 intro pins s σ H x y v u Q I rx ry h;cases y with
 |str j=>
  obtain⟨i,e,q⟩:=h;exact SI pins s σ H x _ v u Q I rx ry ⟨i,j,e,rfl,q⟩
 |ref p=>
  cases x with
  |ref a=>exact False.elim h
  |_=>exact Uj pins s σ H _ _ v u Q I rx ry h
 |_=>exact False.elim h
theorem VT{A:Around}{E:Value->Shared->Prop}{s:Shared}{Q:Value->Shared->Prop}{v:Value}{d:Bool}(hv:∀id,v≠ .builtin id)(h:Q (.bool<|v==.bool d) s):wpAny M A (compareOp .Is v<|.bool d) Q E s:=by
 cases v<;>first|exact wpAny_pure h|exact absurd rfl (hv _)
theorem VU{A:Around}{E:Value->Shared->Prop}{s:Shared}{Q:Value->Shared->Prop}{v:Value}{d:Bool}(hv:∀id,v≠ .builtin id)(h:Q (.bool<|!(v==.bool d)) s):wpAny M A (compareOp .IsNot v<|.bool d) Q E s:=by
 cases v<;>first|exact wpAny_pure h|exact absurd rfl (hv _)
def Ih:R2:=λx y H Q=>match y with
 |.bl b=>Q (.bl<|decide<|x=.bl b) H
 |_=>y=.au/\Q (.bl<|decide<|x=.au) H
def Ii:R2:=λx y H Q=>match y with
 |.bl b=>Q (.bl<|!decide (x=.bl b)) H
 |_=>y=.au/\Q (.bl<|!decide (x=.au)) H
theorem VW:bA X (compareOp .Is) Ih:=by
 intro pins s σ H x y v u Q I rx ry h;cases y with
 |bl b=>
  cases ry;have nb:∀id,v≠ .builtin id:=λid z=>by
   subst z;cases x<;>first
    | (obtain⟨t,e⟩:=rx;cases e)
    | (cases rx)
  refine VT nb<|cB I (show Q (.bl<|decide<|x=.bl b) H from h) ?_
  cases x<;>first
   | (cases rx;rfl)
   | (obtain⟨t,rfl⟩:=rx;rfl)
   | (cases rx;rename_i a;cases a<;>cases b<;>rfl)
 |_=>exact SF pins s σ H x _ v u Q I rx ry h
theorem VX:bA X (compareOp .IsNot) Ii:=by
 intro pins s σ H x y v u Q I rx ry h;cases y with
 |bl b=>
  cases ry;have nb:∀id,v≠ .builtin id:=λid z=>by
   subst z;cases x<;>first
    | (obtain⟨t,e⟩:=rx;cases e)
    | (cases rx)
  refine VU nb<|cB I (show Q (.bl<|!decide (x=.bl b)) H from h) ?_
  cases x<;>first
   | (cases rx;rfl)
   | (obtain⟨t,rfl⟩:=rx;rfl)
   | (cases rx;rename_i a;cases a<;>cases b<;>rfl)
 |_=>exact SH pins s σ H x _ v u Q I rx ry h
def cN(K:Frag):CmpOp->R2
 |.Eq=>mP false
 |.NotEq=>mP true
 |.Lt=>lM (λ_ _=>True) λi j=>.bl (decide<|i<j)
 |.LtE=>lM (λ_ _=>True) λi j=>.bl (decide<|i<=j)
 |.Gt=>lM (λ_ _=>True) λi j=>.bl (decide<|j<i)
 |.GtE=>lM (λ_ _=>True) λi j=>.bl (decide<|j<=i)
 |.In=>yF K false
 |.NotIn=>yF K true
 |.Is=>Ih
 |.IsNot=>Ii
theorem sI(hu:X.A.units+64<cLine)(op:CmpOp):bA X (compareOp op) (cN X.K op):=by
 cases op with
 |Eq=>exact VP hu
 |NotEq=>exact VQ hu
 |Lt=>exact bA.imp Sy vc
 |LtE=>exact bA.imp Sz vc
 |Gt=>exact bA.imp SA vc
 |GtE=>exact bA.imp SD vc
 |In=>exact VR hu
 |NotIn=>exact VS hu
 |Is=>exact VW
 |IsNot=>exact VX
inductive Ty where|int|str|bool|list|tuple|dict
 deriving DecidableEq
def Ty.nm:Ty->String
 |.int=> "int" |.str=> "str" |.bool=> "bool" |.list=> "list" |.tuple=> "tuple" |.dict=> "dict"
def cb(T:Ty)(x:V)(H:Hp)(Q:Bool->Prop):Prop:=match x with
 |.au=>Q false
 |.bl _=>Q (T==.bool ||T==.int)
 |.int _=>Q (T==.int)
 |.str _=>Q (T==.str)
 |.ref a=>match H a with
  |some (.lst _)=>Q (T==.list)
  |some (.cj _<|.lst _)=>Q (T==.list)
  |some (.tup _)=>Q (T==.tuple)
  |some (.dK _)=>Q (T==.dict)
  |some (.dT _)=>Q (T==.dict)
  |_=>False
 |_=>False
theorem ot(K:Frag)(S T:Ty):kitOne K (.type S.nm) (.type T.nm)=some (S==T ||(S==.bool && T==.int)):=by
 cases S<;>cases T<;>rfl
theorem VY(K:Frag)(T:Ty):kitOne K (.type "NoneType") (.type T.nm)=some false:=by
 cases T<;>rfl
theorem VZ(hc:X.calm=true):dZ X (.builtin "sum") (λxs H Q=>∃(p:Addr) (ns:List Int),xs=[.ref p]/\aB X.K H p (ns.map V.int)/\Q (.int ns.sum) H):=by
 intro pins s σ H xs us Q I r h;obtain⟨p,ns,rfl,hq,q⟩:=h;obtain⟨u,rfl,ru⟩:=vals1 r;cases ru;obtain⟨ao,rv,pl,hz⟩:=I.list hq;have hi:=intsAre_of rv;obtain⟨xs,hx⟩:=hi.allInts.items;refine sum_intListG (I.ok.hd hc) (hx ▸ pl.isList) λh' tk t' hk=>?_;have e1:ns=xs.toList.map (·.1):=by
  rw[<-nums_intItems,<-hx];exact(show numsOf ao.toArray.toList=ns from hi.numsOf).symm
 have e2:preSum (numAt xs) xs.size=ns.sum:=by
  rw[preSum_eq,zaG (by simp),e1]
 rw[e2];exact⟨.int ns.sum,H,I.kept hk,⟨t',rfl⟩,q⟩
theorem Ij:∀{ts:List Str}{us:List Value},Vals (ts.map V.str) us->∃l:List (Str×Tok),us=strValues l/\l.map (·.1)=ts
 |[],_,.nil=>⟨[],rfl,rfl⟩
 |x::ts,_,.cons ⟨t,e⟩ r=>by
  obtain⟨l,e1,e2⟩:=Ij r;subst e e1;exact⟨(x,t)::l,rfl,by simp[e2]⟩
def rJoin(K:Frag):V->List V->Hp->VK->Prop:=λx vs H Q=>∃(sep:Str) (p:Addr) (ts:List Str),x=.str sep/\vs=[.ref p]/\aB K H p (ts.map V.str)/\JoinOk sep ts=true/\Q (.str<|Txt.join sep ts) H
theorem V0:qg X "str.join" (rJoin X.K):=by
 intro pins s σ H x vs v us Q I rx rv h;obtain⟨sep,p,ts,rfl,rfl,hq,hj,q⟩:=h;obtain⟨t,rfl⟩:=rx;obtain⟨u,rfl,ru⟩:=vals1 rv;cases ru;obtain⟨ao,rv,pl,hz⟩:=I.list hq;obtain⟨l,rfl,e2⟩:=Ij rv;exact SC.join pl.isList e2 hj λt' k=>⟨.str _,H,I.tok k,⟨t',rfl⟩,q⟩
def V1:V->List V->Hp->VK->Prop:=λx vs H Q=>∃z y,x=.str z/\vs=[.str y]/\z.length<=sizeLine/\Q (.str<|Txt.lstripChars z y) H
theorem V2:qg X "str.lstrip" V1:=by
 intro pins s σ H x vs v us Q I rx rv h;obtain⟨z,y,rfl,rfl,hz,q⟩:=h;obtain⟨t,rfl⟩:=rx;obtain⟨u,rfl,⟨t2,rfl⟩⟩:=vals1 rv;exact call_gives F.slot_str_lstrip (typeIs_str _ _ _) F.entry_str_lstrip (F.args_str_lstrip_2 _ _) (gives_str_lstrip_chars z y t t2)<|post_val_or_made (λ_=>fits_stripped _ _ _ hz) λt' k=>⟨.str _,H,I.tok k,⟨t',rfl⟩,q⟩
def V3:V->List V->Hp->VK->Prop:=λx vs H Q=>∃z y i,x=.str z/\vs=[.str y,.int i]/\Q (.bl<|decide (fromIndex z.length i+y.length<=z.length) && Builtin.Str.subAt z y (fromIndex z.length i)) H
theorem V4:qg X "str.startswith" V3:=by
 intro pins s σ H x vs v us Q I rx rv h;obtain⟨z,y,i,rfl,rfl,q⟩:=h;obtain⟨t,rfl⟩:=rx;obtain⟨u,w,rfl,⟨t2,rfl⟩,⟨t3,rfl⟩⟩:=vals2 rv;exact call_gives F.slot_str_startswith (typeIs_str _ _ _) F.entry_str_startswith (F.args_str_startswith_3 _ _ _) (gives_str_startswith_from z y i t t2 t3) ⟨.bl _,H,I,rfl,q⟩
def mQ{α:Type}(xs:List α)(lo hi:Option Int):List α:=(xs.drop<|HT.bh xs.length 0 lo).take (HT.bh xs.length xs.length hi - HT.bh xs.length 0 lo)
def mR(z:Str)(lo hi:Option Int):Str:=⟨(mQ z.cps.toList lo hi).toArray⟩
theorem V_(z:Str)(lo hi:Option Int):((Builtin.Str.strSliceIndices lo hi 1 z.length).filterMap (z.cps[·]?))=mQ z.cps.toList lo hi:=by
 obtain⟨h1,h2,h3⟩:=BD lo hi z.length;have e0:Builtin.Str.strSliceIndices lo hi 1 z.length=sliceRange (sliceBounds lo hi none z.length).1 (sliceBounds lo hi none z.length).2.1 (sliceBounds lo hi none z.length).2.2:=rfl;have hz:z.cps.toList.length=z.length:=rfl
 rw[e0,h1,h2,h3,sliceRange_one,pick_run];unfold mQ;rw[hz]
def yG(K:Frag)(neg:Bool):R2:=λx y H Q=>∃p xs d es,y=.ref p/\aB K H p xs/\Is H d x/\IsL H es xs/\SeqAt.shaped d=true/\d.depth<=60/\(∀e∈es,SeqAt.shaped e=true)/\Q (.bl<|neg ^^ es.any λe=>PyData.eqv e d) H
open Classical in
end
def qp:HO:=.ext λ_=>True
structure yH (ob:Obj) (cls:Value) (vs:Array Value):Prop where
 cls:ob.cls=cls
 data:ob.data=.fields vs
 aiC:vs[2]?=some .none
 dict:ob.dict=none
def ExcAt(H:Hp)(ea D:Addr):Prop:= ∃ob vs,H ea=some (.cj ob qp)/\yH ob (.ref D) vs
structure Wa (K:Frag) (D:Addr):Prop where
 Ik:PySem.W.findIn K (.ref D) "__getattribute__"=some (some<|.builtin "BaseException.__getattribute__")
 hgn:PySem.W.findIn K (.ref D) "__getattr__"=some none
 hk:(PySem.W.clsIn K D).isSome=true
 ha:PySem.W.findIn K (.ref D) "__class__"=some (some<|.builtin "object.__class__")
 hn:specialIn K (.builtin "object.__class__") "__get__"=some (some<|.builtin "getset_descriptor.__get__")
 eQ:takesIn K (.builtin "object.__class__")=some true
 hm:mroIn K D (.type "object")=some true
 hb:mroIn K D (.type "BaseException")=some true
def cV:V->Value
 |.ref a=>.ref a
 |.ty n=>.type n
 |_=>.none
def Il(K:Frag):List V->Hp->VK->Prop
 |[.ref ea,c],H,Q=>∃D b,ExcAt H ea D/\Wa K D/\((∃C,c=.ref C)\/∃n,c=.ty n)/\kitOne K (.ref D) (cV c)=some b/\Q (.bl b) H
 |_,_,_=>False
def Wb(sp:Sp)(hv:Option Addr)(t:TA):TE:=λσ H Q=>t σ H λvs H1=>(∃ea D,hv=some ea/\ExcAt H1 ea D)/\sp vs H1 Q E0
def B4(C:Addr)(E:XK)(t:TA):TS:=λ_ σ H=>t σ H λvs H1=>vs.length<=sizeLine/\E (.ref C) none H1
def Im(K:Frag)(C:Addr)(i n:Nat)(th:Addr->TS)(D:Ends):XK:=λcls _ H'=>exmOne K cls (.ref C)=some true/\
 ∀(ea:Addr) (ob:Obj) (vs:Array Value) (σ':St),H' ea=none->σ'.length=n->yH ob cls vs->th ea {nx:=λ_ _=>False,rt:=D.rt} (σ'.set i<|some<|.ref ea) (upd H' ea<|.cj ob qp)
def yI(K:Frag)(C:Addr)(i n:Nat)(tb:XK->TS)(th:Addr->TS):TS:=λD σ H=>tb (Im K C i n th D) {nx:=D.nx,rt:=D.rt} σ H
def Wc(K:Frag)(C:Addr)(i:Nat)(th:Addr->TS)(D:Ends)(σ:St):XK:=λcls _ H'=>exmOne K cls (.ref C)=some true/\
 ∀(ea:Addr) (ob:Obj) (vs:Array Value),H' ea=none->yH ob cls vs->th ea {nx:=λ_ _=>False,rt:=D.rt} (σ.set i<|some<|.ref ea) (upd H' ea<|.cj ob qp)
def Wd(K:Frag)(C:Addr)(i k:Nat)(sp:Sp)(ta:TA)(th:Addr->TS):TS:=λD σ H=>ta σ H λvs H1=>sp vs H1 (λv H2=>D.nx (σ.set k<|some v) H2) (Wc K C i th D σ)
inductive mS where|len|min|max|sum|int|list|tuple|abs
 deriving DecidableEq
inductive iW where|append|pop|extend|join|lstrip|starts|reverse|clear|index|find|count|Io|B5
 deriving DecidableEq
inductive IK where|list|tup|fA|sJ|zip|We|txt|Wf|Wg
 deriving DecidableEq
inductive RE where
 |v (i:Nat)|c (x:V)|g (j:Nat)
 |bin (op:Operator) (a b:RE)|neg (a:RE)
 |cmp (op:CmpOp) (a b:RE)|lN (op cM:CmpOp) (a b d:RE)|Ip (op cM Iq:CmpOp) (a b d f:RE)
 |and (as:List RE)|or (as:List RE)|not (a:RE)|jm (t a b:RE)
 |call (j:Nat) (as:List RE)|blt (b:mS) (as:List RE)|gA (T:Ty) (a:RE)
 |bK (m:iW) (o:RE) (as:List RE)
 |ix (a b:RE)|sl (a:RE) (lo hi:Option RE)
 |tup (as:List RE)|lst (as:List RE)
 |comp (tk:Option Nat) (fv:List (Str×Nat)) (k:IK) (ao:List RE) (cond:Option RE) (elt:RE)
 |Ir (a c:RE)|Wh (j:Nat) (a:RE)|yJ|same (a b:RE)
 |Wi|dc (a b:RE)|ve (a b:RE)|vg (a b:RE)|Wj (o a b:RE)|inD (a b:RE)|Iu (a b:RE)
 |xt (T:Frag->TA->TE) (as:List RE)|xm (T:Frag->TE->TA->TE) (o:RE) (as:List RE)
 |fld (o:RE) (f:Str)|aR (j:Nat) (m:Str) (o:RE) (as:List RE)|make (j:Nat) (as:List RE)
structure aV where
 K:Frag
 fs:Nat->Sp
 gv:Nat->V
 E:XK
 sd:Addr->List (Key×V)->Prop
 ms:Nat->Addr×Sp
 kt:Nat->Addr×Sp
 ex:Nat->Addr
 hs:Nat->Sp
 hv:Option Addr
abbrev aV.calm(Γ:aV):aV:={Γ with E:=E0}
inductive RS where
 |asg (i:Nat) (e:RE)|sL (i:Nat) (e:RE)|set (o ix e:RE)
 |drop (e:RE)|ret (e:RE)|Wk
 |ite (c:RE) (t e:List RS)
 |iA (i:Nat) (k:IK) (ao:List RE) (body:List RS)
 |lO (is:List Nat) (k:IK) (ao:List RE) (body:List RS)
 |qq (c:RE) (body:List RS)
 |pass|brk|cont|never
 |Wl (o lo hi e:RE)|bT (o:RE) (f:Str) (e:RE)
 |Wm (is:List Nat) (e:RE)|dput (o i e:RE)|eR (j:Nat) (as:List RE)|B6 (n i j:Nat) (body su:List RS)|Wn (k i j f:Nat) (as:List RE) (su:List RS)
 |xs (T:aV->TS)
def jP(K:Frag)(x:V)(H:Hp)(Q:Bool->Prop):Prop:=match x with
 |.au=>Q false
 |.bl b=>Q b
 |.int i=>Q (i !=0)
 |.str y=>y.length<=sizeLine/\Q ((y.length:Int) !=0)
 |.ref p=>(∃xs,aB K H p xs/\Q (!xs.isEmpty))\/(∃xs,aL K H p xs/\Q (!xs.isEmpty))\/∃kvs,H p=some (.dK kvs)/\Q (!kvs.isEmpty)
 |_=>False
theorem Iw{K:Frag}{x:V}{H:Hp}{Q:Bool->Prop}(h:jP K x H Q):∃k,GP K x H k/\Q k:=by
 cases x with
 |au=>exact⟨_,rfl,h⟩
 |bl b=>exact⟨_,rfl,h⟩
 |int i=>exact⟨_,rfl,h⟩
 |str y=>exact⟨_,⟨h.1,rfl⟩,h.2⟩
 |ref p=>
  rcases h with⟨xs,h1,h2⟩|⟨xs,h1,h2⟩|⟨xs,h1,h2⟩
  ·exact⟨_,.inl ⟨xs,h1,rfl⟩,h2⟩
  ·exact⟨_,.inr<|.inl ⟨xs,h1,rfl⟩,h2⟩
  ·exact⟨_,.inr<|.inr ⟨xs,h1,rfl⟩,h2⟩
 |_=>exact False.elim h
def gB(K:Frag)(t:TE):TT:=λσ H Q=>t σ H λx H1=>jP K x H1 λb=>Q b H1
def B7(K:Frag)(t:TE):TE:=λσ H Q=>t σ H λx H1=>jP K x H1 λb=>Q (.bl<|!b) H1
def Iy:V->Hp->VK->Prop:=λx H Q=>match x with|.int i=>Q (.int<|-i) H|_=>False
def qi(K:Frag)(x:V)(H:Hp)(Q:Nat->Prop):Prop:=match x with
 |.str y=>y.length<=sizeLine/\Q y.length
 |.ref p=>(∃xs,aB K H p xs/\Q xs.length)\/∃xs,aL K H p xs/\Q xs.length
 |_=>False
def signs(x:Str):List V:=x.cps.toList.map λc=>V.str ⟨#[c]⟩
def Iz:TE:=λ_ H Q=>∀p,H p=none->Q (.ref p) (upd H p<|.dK [])
def ou(K:Frag):mS->List V->Hp->VK->Prop
 |.len,[x],H,Q=>qi K x H λn=>Q (.int n) H
 |.min,[.int i,.int j],H,Q=>Q (.int (if j<i then j else i)) H
 |.min,[.ref p],H,Q=>∃ns:List Int,aB K H p (ns.map V.int)/\ns≠ []/\∀m:Int,m∈ns->(∀n∈ns,m<=n)->Q (.int m) H
 |.sum,[.ref p],H,Q=>∃ns:List Int,aB K H p (ns.map V.int)/\Q (.int ns.sum) H
 |.int,[.int i],H,Q=>Q (.int i) H
 |.int,[.bl k],H,Q=>Q (.int (if k then 1 else 0)) H
 |.list,[.ref p],H,Q=>∃ys,(aB K H p ys\/aL K H p ys)/\∀l,H l=none->Q (.ref l) (upd H l<|.lst ys)
 |.list,[.str x],H,Q=>x.length<=sizeLine/\∀l,H l=none->Q (.ref l) (upd H l<|.lst<|signs x)
 |_,_,_,_=>False
def ox(T:Ty):List V->Hp->VK->Prop
 |[x,.ty n],H,Q=>n=T.nm/\cb T x H λb=>Q (.bl b) H
 |_,_,_=>False
def B8(K:Frag):iW->V->List V->Hp->VK->Prop
 |.append,.ref l,[y],H,Q=>∃xs,H l=some (.lst xs)/\xs.length<sizeLine/\Q .au (upd H l<|.lst<|xs++[y])
 |.pop,.ref l,[],H,Q=>∃xs y,H l=some (.lst xs)/\xs[xs.length - 1]?=some y/\Q y (upd H l<|.lst xs.dropLast)
 |.extend,.ref l,[.ref b],H,Q=>∃xs zs,H l=some (.lst xs)/\H b=some (.lst zs)/\xs.length+zs.length<=sizeLine/\Q .au (upd H l<|.lst<|xs++zs)
 |.join,.str sep,[.ref p],H,Q=>∃ts:List Str,aB K H p (ts.map V.str)/\JoinOk sep ts=true/\Q (.str<|Txt.join sep ts) H
 |.lstrip,.str z,[.str y],H,Q=>z.length<=sizeLine/\Q (.str<|Txt.lstripChars z y) H
 |.starts,.str z,[.str y,.int i],H,Q=>Q (.bl<|decide (fromIndex z.length i+y.length<=z.length) && Builtin.Str.subAt z y (fromIndex z.length i)) H
 |.clear,.ref l,[],H,Q=>∃xs,H l=some (.lst xs)/\Q .au (upd H l<|.lst [])
 |.B5,.ref l,[y],H,Q=>∃xs,aB K H l xs/\iU y=true/\xs.all iU=true/\gP y xs=true/\Q (.int (xs.findIdx (λz=>iu z y):Nat)) H
 |_,_,_,_,_=>False
def yK:iW->String
 |.join|.lstrip|.starts|.find|.count=> "str"
 |_=> "list"
def sM(K:Frag)(m:iW)(to:TE)(t:TA):TE:=λσ H Q=>to σ H λx H1=>sy K (yK m) x H1/\t σ H1 λxs H2=>B8 K m x xs H2 Q
def sN(K:Frag):V->Option Int->Option Int->Hp->VK->Prop:=λx lo hi H Q=>match x with
 |.str z=>z.length<=sizeLine/\Q (.str<|mR z lo hi) H
 |.ref a=>(∃xs,aB K H a xs/\∀p,H p=none->Q (.ref p) (upd H p<|.lst<|gw xs lo hi))\/
  (∃xs,aL K H a xs/\ ¬(HT.bh xs.length 0 lo=0/\HT.bh xs.length xs.length hi=xs.length)/\∀p,H p=none->Q (.ref p) (upd H p<|.tup<|gw xs lo hi))
 |_=>False
def qr(kvs:List (Key×V))(k:Key):Option V:=(kvs.find? λkv=>decide (kv.1=k)).map (·.2)
def IA(sd:Addr->List (Key×V)->Prop):R2:=λx y H Q=>∃p kvs k v,x=.ref p/\y=kV k/\sd p kvs/\qr kvs k=some v/\Q v H
def oy(K:Frag)(sd:Addr->List (Key×V)->Prop):R2:=λx y H Q=>Hk K x y H Q\/Hl K x y H Q\/Hn x y H Q\/IA sd x y H Q
def Wo(r r' r2:R2)(ta tb tc td:TE):TT:=λσ H Q=>ta σ H λx H1=>tb σ H1 λy H2=>r x y H2 λz H3=>∃k,z=.bl k/\
 (if k=true then tc σ H3 λw H4=>r' y w H4 λz2 H5=>∃k2,z2=.bl k2/\(if k2=true then td σ H5 λu H6=>r2 w u H6 λz3 H7=>∃k3,z3=.bl k3/\Q k3 H7 else Q false H5) else Q false H3)
def Wq(K:Frag)(a b:Addr):It:=
  ⟨λi H=>∃xs ys,aB K H a xs/\aB K H b ys/\i<xs.length/\i<ys.length,
   λi H x H'=>∃T,H T=none/\x=.ref T/\∀xs ys u v,aB K H a xs->aB K H b ys->xs[i]?=some u->ys[i]?=some v->H'=upd H T (.tup [u,v]),
   λi H=>∃xs ys,aB K H a xs/\aB K H b ys/\i=min xs.length ys.length⟩
def Wr(K:Frag)(a:Addr):It:=
  ⟨λi H=>∃xs,aB K H a xs/\i<xs.length,
   λi H x H'=>∃T,H T=none/\x=.ref T/\∀xs u,aB K H a xs->xs[i]?=some u->H'=upd H T (.tup [.int (i:Nat),u]),
   λi H=>∃xs,aB K H a xs/\i=xs.length⟩
def Ws(K:Frag)(ta:TA):TI:=λσ H R=>ta σ H λvs H1=>∃a,vs=[.ref a]/\(∃xs,aB K H1 a xs)/\R (Wr K a) H1
def Wt(K:Frag)(ta:TA):TI:=λσ H R=>ta σ H λvs H1=>∃a b,vs=[.ref a,.ref b]/\(∃xs,aB K H1 a xs)/\(∃ys,aB K H1 b ys)/\R (Wq K a b) H1
def Wu(K:Frag)(a b:Addr):It:=
  ⟨λi H=>∃xs ys,aL K H a xs/\aL K H b ys/\i<xs.length/\i<ys.length,
   λi H x H'=>∃T,H T=none/\x=.ref T/\∀xs ys u v,aL K H a xs->aL K H b ys->xs[i]?=some u->ys[i]?=some v->H'=upd H T (.tup [u,v]),
   λi H=>∃xs ys,aL K H a xs/\aL K H b ys/\i=min xs.length ys.length⟩
def Wv(K:Frag)(ta:TA):TI:=λσ H R=>ta σ H λvs H1=>∃a b,vs=[.ref a,.ref b]/\(∃xs,aL K H1 a xs)/\(∃ys,aL K H1 b ys)/\R (Wu K a b) H1
def Ww(z:Str):It:=⟨λi _=>i<z.length,λi H x H'=>H'=H/\∃c,z.cps[i]?=some c/\x=.str ⟨#[c]⟩,λi _=>i=z.length⟩
def Wx(ta:TE):TI:=λσ H R=>ta σ H λx H1=>∃z,x=.str z/\R (Ww z) H1
def Wy(lo c:Int)(n:Nat):It:=⟨λi _=>i<n,λi H x H'=>H'=H/\x=.int (lo+i*c),λi _=>n<=i⟩
def Wz(ta:TA):TI:=λσ H R=>ta σ H λvs H1=>∃(i j c:Int) (n:Nat),vs=[.int i,.int j,.int c]/\c≠0/\Builtin.Range.small i j c=true/\Builtin.divisionGoesByPylong (j - i) c=false/\Builtin.Range.rangeSize i j c=n/\R (Wy i c n) H1
mutual
def af(Γ:aV):RE->TE
 |.v i=>Bi i
 |.c x=>tC x
 |.g j=>tC (Γ.gv j)
 |.bin op a b=>fO (iV Γ.K op) (af Γ a) (af Γ b)
 |.neg a=>GI Iy (af Γ a)
 |.cmp op a b=>fO (cN Γ.K op) (af Γ a) (af Γ b)
 |.lN op cM a b d=>sq (cN Γ.K op) (cN Γ.K cM) (af Γ a) (af Γ b) (af Γ d)
 |.Ip _ _ _ _ _ _ _=>λ_ _ _=>False
 |.and as=>IB Γ as
 |.or as=>IC Γ as
 |.not a=>B7 Γ.K (af Γ a)
 |.jm t a b=>Gh (a_ Γ t) (af Γ a) (af Γ b)
 |.call j as=>Bv (Γ.fs j) [] Γ.E (bw Γ as)
 |.blt b as=>jN (ou Γ.K b) (bw Γ as)
 |.gA T a=>jN (ox T) (e8 (af Γ a)<|e8 (tC<|.ty T.nm) jM)
 |.bK m o as=>sM Γ.K m (af Γ o) (bw Γ as)
 |.ix a b=>fO (oy Γ.K Γ.sd) (af Γ a) (af Γ b)
 |.sl a lo hi=>BA (sN Γ.K) (af Γ a) (oz Γ lo) (oz Γ hi)
 |.tup as=>GY (bw Γ as)
 |.lst as=>GZ (bw Γ as)
 |.comp tk fv k ao cond elt=>ql Γ.K (jn Γ k ao) tk fv (yL Γ.calm cond) (af Γ.calm elt)
 |.Ir a c=>jN (Il Γ.K) (e8 (af Γ a)<|e8 (af Γ c) jM)
 |.yJ=>Iz
 |.same a b=>fO VO (af Γ a) (af Γ b)
 |.inD a b=>fO (yG Γ.K false) (af Γ a) (af Γ b)
 |.Iu a b=>fO (yG Γ.K true) (af Γ a) (af Γ b)
 |.Wi=>U7
 |.dc a b=>HD (af Γ a) (af Γ b)
 |.ve a b=>BR (af Γ a) (af Γ b)
 |.vg a b=>BS (af Γ a) (af Γ b)
 |.Wj o a b=>U9 (af Γ o) (af Γ a) (af Γ b)
 |.xt T as=>T Γ.K (bw Γ as)
 |.xm T o as=>T Γ.K (af Γ o) (bw Γ as)
 |.Wh j a=>Wb (Γ.hs j) Γ.hv (e8 (af Γ a) jM)
 |.fld o f=>yb Γ.K (af Γ o) f
 |.aR j m o as=>mJ (Γ.ms j).1 m (Γ.ms j).2 [] Γ.E (af Γ o) (bw Γ as)
 |.make j as=>yf (Γ.kt j).1 (Γ.kt j).2 [] Γ.E (bw Γ as)
def a_(Γ:aV):RE->TT
 |.not a=>Gd (a_ Γ a)
 |.inD a b=>n_ (fO (yG Γ.K false) (af Γ a)<|af Γ b)
 |.Iu a b=>n_ (fO (yG Γ.K true) (af Γ a)<|af Γ b)
 |.ve a b=>tB (BR (af Γ a)<|af Γ b)
 |.vg a b=>tB (BS (af Γ a)<|af Γ b)
 |.and as=>ID Γ as
 |.or as=>IE Γ as
 |.cmp op a b=>n_ (fO (cN Γ.K op) (af Γ a)<|af Γ b)
 |.lN op cM a b d=>n_ (sq (cN Γ.K op) (cN Γ.K cM) (af Γ a) (af Γ b)<|af Γ d)
 |.Ip op cM Iq a b d f=>Wo (cN Γ.K op) (cN Γ.K cM) (cN Γ.K Iq) (af Γ a) (af Γ b) (af Γ d) (af Γ f)
 |.v i=>gB Γ.K (Bi i)
 |.call j as=>gB Γ.K (Bv (Γ.fs j) [] Γ.E<|bw Γ as)
 |.gA T a=>gB Γ.K (jN (ox T)<|e8 (af Γ a)<|e8 (tC<|.ty T.nm) jM)
 |.Ir a c=>gB Γ.K (jN (Il Γ.K)<|e8 (af Γ a)<|e8 (af Γ c) jM)
 |.bK m o as=>gB Γ.K (sM Γ.K m (af Γ o)<|bw Γ as)
 |.ix a b=>gB Γ.K (fO (oy Γ.K Γ.sd) (af Γ a)<|af Γ b)
 |.bin op a b=>gB Γ.K (fO (iV Γ.K op) (af Γ a)<|af Γ b)
 |.fld o f=>gB Γ.K (yb Γ.K (af Γ o) f)
 |.xt T as=>gB Γ.K (T Γ.K<|bw Γ as)
 |.xm T o as=>gB Γ.K (T Γ.K (af Γ o)<|bw Γ as)
 |.aR j m o as=>gB Γ.K (mJ (Γ.ms j).1 m (Γ.ms j).2 [] Γ.E (af Γ o)<|bw Γ as)
 |_=>λ_ _ _=>False
def bw(Γ:aV):List RE->TA
 |[]=>jM
 |a::r=>e8 (af Γ a) (bw Γ r)
def IB(Γ:aV):List RE->TE
 |[]=>λ_ _ _=>False
 |[a]=>af Γ a
 |a::r=>Ge (af Γ a) (IB Γ r)
def IC(Γ:aV):List RE->TE
 |[]=>λ_ _ _=>False
 |[a]=>af Γ a
 |a::r=>Gf (af Γ a) (IC Γ r)
def ID(Γ:aV):List RE->TT
 |[]=>λ_ _ _=>False
 |[a]=>a_ Γ a
 |a::r=>Ga (a_ Γ a) (ID Γ r)
def IE(Γ:aV):List RE->TT
 |[]=>λ_ _ _=>False
 |[a]=>a_ Γ a
 |a::r=>Gb (a_ Γ a) (IE Γ r)
def oz(Γ:aV):Option RE->TO
 |none=>Hf
 |some a=>yi (af Γ a)
def yL(Γ:aV):Option RE->Option TT
 |none=>none
 |some a=>some (a_ Γ a)
def jn(Γ:aV)(k:IK):List RE->TI
 |[]=>λ_ _ _=>False
 |a::r=>match k with
  |.list=>Bn Γ.K (af Γ a)
  |.tup=>R9 Γ.K (af Γ a)
  |.fA=>GC (e8 (af Γ a)<|bw Γ r)
  |.sJ=>GD (e8 (af Γ a)<|bw Γ r)
  |.zip=>Wt Γ.K (e8 (af Γ a)<|bw Γ r)
  |.We=>Ws Γ.K (e8 (af Γ a)<|bw Γ r)
  |.txt=>Wx (af Γ a)
  |.Wf=>Wv Γ.K (e8 (af Γ a)<|bw Γ r)
  |.Wg=>Wz (e8 (af Γ a)<|bw Γ r)
end
structure df where
 N:List Str
 sc:Scope
 fn:List Str
 gn:List Str
 bl:List Str
 mn:List Str
 kn:List Str
 en:List Str
 hn:List Str
 md:Nat
def B9(sc:Scope)(x:Str):Bool:=match sc.names.lookup x with
 |some .local=>true|some .cell=>true|some .free=>true|_=>false
def loc(sc:Scope)(x:Str):Bool:=match sc.names.lookup x with
 |some .local=>true|some .cell=>true|_=>false
def oA(sc:Scope)(x:Str):Bool:=match sc.names.lookup x with
 |some .globalImplicit=>true|_=>false
theorem WA{x:Str}(h:B9 sc x=true):xJ sc x:=by
 unfold B9 at h;unfold xJ;cases e:sc.names.lookup x with
 |none=>rw[e] at h;cases h
 |some k=>rw[e] at h;cases k<;>first|exact .inl rfl|exact .inr (.inl rfl)|exact .inr (.inr rfl)|cases h
theorem B_{x:Str}(h:loc sc x=true):Loc sc x:=by
 unfold loc at h;unfold Loc;cases e:sc.names.lookup x with
 |none=>rw[e] at h;cases h
 |some k=>rw[e] at h;cases k<;>first|exact .inl rfl|exact .inr rfl|cases h
theorem WB{x:Str}(h:oA sc x=true):sc.names.lookup x=some .globalImplicit:=by
 unfold oA at h;cases e:sc.names.lookup x with
 |none=>rw[e] at h;cases h
 |some k=>rw[e] at h;cases k<;>first|rfl|cases h
structure vh where
 elt:Expr
 tg:Expr
 iter:Expr
 ifs:List Expr
 sc:Scope
def mS.nm:mS->Str
 |.len=> "len" |.min=> "min" |.max=> "max" |.sum=> "sum" |.int=> "int" |.list=> "list" |.tuple=> "tuple" |.abs=> "abs"
def iW.nm:iW->Str
 |.append=> "append" |.pop=> "pop" |.extend=> "extend" |.join=> "join" |.lstrip=> "lstrip" |.starts=> "startswith" |.reverse=> "reverse" |.clear=> "clear" |.index=> "index" |.find=> "find" |.count=> "count" |.Io=> "count" |.B5=> "index"
def oB:Expr->Bool
 |.Call (.Name _ _) [] [] _=>false
 |_=>true
def noStar:Expr->Bool
 |.Starred ..=>false
 |_=>true
def vi:Expr->Bool
 |.Set ..=>false
 |_=>true
def Ca(IF sc:Scope):Scope:=
 {IF with names:=IF.names.map fun(n,k)=>if (k==.free && sc.kind==.function && sc.names.lookup n==some .cell) then (n,.cell) else (n,k)}
def Cb(tk:Option Nat)(tg:Expr):Option (List Str):=match tk,tg with
 |none,.Name x _=>some [x]
 |some 2,.Tuple [.Name x _,.Name y _] _ _=>some [x,y]
 |_,_=>none
def IG(S:df)(c:vh)(ln:List Str)(fv:List (Str×Nat)):df:={S with N:=ln++fv.map (·.1),sc:=Ca c.sc S.sc,en:=[],md:=if S.md=0 then 0 else 2}
def Cc(S:df)(c:vh)(ln:List Str)(fv:List (Str×Nat)):Bool:=
 decide (c.sc.kind=.function) && c.sc.names.all (λy=>decide<|y.2≠ .cell) && c.sc.names.all (λy=>decide (y.2≠ .local)||decide (c.sc.names.lookup y.1=some .local))
 && c.sc.names.all (λy=>decide (y.2≠ .free)||decide (S.sc.names.lookup y.1=some .cell)||decide (S.sc.names.lookup y.1=some .free))
 && fv.all (λp=>decide (S.N[p.2]?=some p.1) && decide (c.sc.names.lookup p.1=some .free))
 && ln.all (λx=>decide<|c.sc.names.lookup x=some .local) && decide ((ln++fv.map (·.1)).Nodup) && vi c.iter
end L2
namespace L2
open PySem PySem.Spec PyProof.Rows
end L2
namespace L2
open PySem PySem.Spec PyProof.Rows
inductive b_ (J:Shared->Prop) {α:Type}:Sem α->Prop
 |pure (a:α):b_ J (.pure a)
 |raise (e:Value):b_ J (.raise e)
 |unsupported (w:String):b_ J (.unsupported w)
 |rule {t:String}{k:Unit->Sem α}:b_ J (k ())->b_ J (.rule t k)
 |load {a:Addr}{p:Option Value}{k:Obj->Sem α}:(∀o,b_ J<|k o)->b_ J (.load a p k)
 |update {a:Addr}{p:Option Value}{f:Obj->Obj}{k:Unit->Sem α}:(∀s,J s->J {s with heap:=s.heap.update a f})->b_ J (k ())->b_ J (.update a p f k)
 |alloc {o:Obj}{k:Addr->Sem α}:(∀s,J s->J {s with heap:=s.heap.push o})->(∀a,b_ J<|k a)->b_ J (.alloc o k)
 |stack {k:List (Code×Pos)->Sem α}:(∀t,b_ J<|k t)->b_ J (.stack k)
theorem WC{J:Shared->Prop}{α:Type}{t:Sem α}(kt:b_ J t):∀{Q:α->Pos->Shared->Prop}{E:Value->Pos->Shared->Prop}{p:Pos}{s:Shared},J s->Sem.wp M Γ t Q E p s->
  Sem.wp M Γ t (λa p s=>Q a p s/\J s) (λe p s=>E e p s/\J s) p s:=by
 induction kt with
 |pure a=>intro Q E p s j h;exact⟨h,j⟩
 |raise e=>intro Q E p s j h;exact⟨h,j⟩
 |unsupported w=>intro Q E p s j h;exact h.elim
 |rule _ ih=>intro Q E p s j h;exact ih j h
 |load _ ih=>intro Q E p s j h;obtain⟨o,e,h⟩:=h;exact⟨o,e,ih o j h⟩
 |update f _ ih=>intro Q E p s j h;exact⟨h.1,ih (f _ j) h.2⟩
 |alloc f _ ih=>intro Q E p s j h;exact ih _ (f _ j) h
 |stack _ ih=>intro Q E p s j h;exact ih _ j h
theorem vj{A:Around}{J:Shared->Prop}{α:Type}{t:Sem α}{Q:α->Shared->Prop}{E:Value->Shared->Prop}{s:Shared}(k:b_ J t)(j:J s)(h:wpAny M A t Q E s):
  wpAny M A t (λa s=>Q a s/\J s) (λe s=>E e s/\J s) s:=λΓ p hΓ=>WC k j (h Γ p hΓ)
def eS(e:Addr)(s:Shared):Prop:= ∃o vs,s.heap.get? e=some o/\o.data=.fields vs/\vs[2]?=some .none/\o.dict=none
theorem WD(f:Array Value->Array Value)(o:Obj):(Obj.mapFields f o).dict=o.dict:=by
 unfold Obj.mapFields
 split<;>rfl
theorem WE{i:Nat}{v:Value}(hi:i≠2)(s:Shared)(j:eS e s):eS e {s with heap:=s.heap.update a (Obj.mapFields (·.setIfInBounds i v))}:=by
 obtain⟨o,vs,h1,h2,h3,h4⟩:=j;by_cases z:a=e
 ·subst z;have d:=Obj.data_mapFields h2 (·.setIfInBounds i v);exact⟨_,_,Heap.get?_update_self _ h1<|Obj.isFreed_of_fields d,d,by rw[Array.getElem?_setIfInBounds_ne hi];exact h3,(WD _ _).trans h4⟩
 ·exact⟨o,vs,(Heap.get?_update_other _ _ z).trans h1,h2,h3,h4⟩
theorem WG{f:Obj->Obj}(hf:∀o,(f o).data=o.data/\(f o).dict=o.dict)(s:Shared)(j:eS e s):eS e {s with heap:=s.heap.update a f}:=by
 obtain⟨o,vs,h1,h2,h3,h4⟩:=j;by_cases z:a=e
 ·subst z;exact⟨_,vs,Heap.get?_update_self _ h1<|Obj.isFreed_of_fields<|(hf o).1.trans h2,(hf o).1.trans h2,h3,(hf o).2.trans h4⟩
 ·exact⟨o,vs,(Heap.get?_update_other _ _ z).trans h1,h2,h3,h4⟩
theorem WH{ob:Obj}(s:Shared)(j:eS e s):eS e {s with heap:=s.heap.push ob}:=by
 obtain⟨o,vs,h1,h2,h3,h4⟩:=j;exact⟨o,vs,Heap.get?_push_of_some _ h1,h2,h3,h4⟩
theorem b_.bind{α β:Type}{t:Sem α}{f:α->Sem β}(kt:b_ J t)(h:∀a,b_ J<|f a):b_ J (t>>=f):=by
 induction kt with
 |pure a=>exact h a
 |raise e=>exact .raise e
 |unsupported w=>exact .unsupported w
 |rule _ ih=>exact .rule ih
 |load _ ih=>exact .load ih
 |update g _ ih=>exact .update g ih
 |alloc g _ ih=>exact .alloc g ih
 |stack _ ih=>exact .stack ih
section
variable {e:Addr}
theorem Cd{a:Addr}:b_ (eS e) (load a):=.load λo=>.pure o
theorem Ce{i:Nat}(hi:i≠2):b_ (eS e) (setField v i x):=by
 unfold setField
 split
 ·refine Cd.bind λo=>?_
  split
  ·split
   ·exact .update (λs j=>WE hi s j) (.pure ())
   ·exact .unsupported _
  ·exact .unsupported _
 ·exact .unsupported _
theorem WI:b_ (eS e) (fieldsOf v):=by
 unfold fieldsOf
 split
 ·refine Cd.bind λo=>?_
  split
  ·exact .pure _
  ·exact .unsupported _
 ·exact .unsupported _
theorem yM{i:Nat}:b_ (eS e) (field v i):=by
 refine WI.bind λvs=>?_
 split
 ·exact .pure _
 ·exact .unsupported _
theorem Cf{f:Option Addr}:b_ (eS e) (setFlight v f):=by
 refine yM.bind λtb=>?_
 split
 ·exact Ce (by lia)
 ·exact .pure _
theorem Cg:b_ (eS e) stack:=.stack λt=>.pure t
theorem WJ{vs:List Value}:b_ (eS e) (newFields ty vs):=by
 show b_ (eS e) (if vs.toArray.size>sizeLine+2 then (unsupported "record:memory" >>=_) else _)
 split
 ·exact .unsupported _
 ·exact b_.bind (.alloc (λs j=>WH s j) λa=>.pure a) λa=>.pure _
theorem WK{b:Bool}:b_ (eS e) (entryPlaceOf f b):=by
 refine Cg.bind λaiE=>?_
 split
 ·exact .pure _
 ·exact .pure _
theorem IH:∀l:List Env,b_ (eS e) (readyFrames l)
 |[]=>.pure _
 |env::outer=>by
  unfold readyFrames
  split
  ·refine Cd.bind λo=>?_
   split
   ·exact .pure _
   ·refine b_.bind ?_ λim=>b_.bind ?_ λbk=>b_.bind (.update (λs j=>WG (by lia) s j)<|.pure ()) λ_=>IH outer
    ·unfold behindIsImport
     split
     ·exact .pure _
     ·split
      ·exact .pure _
      ·exact yM.bind λ_=>.pure _
    ·unfold keptBack
     split
     ·split
      ·exact .pure _
      ·exact b_.bind (Cg.bind λ_=>.pure _) λ_=>.pure _
     ·exact .pure _
  ·exact .unsupported _
theorem WL:b_ (eS e) (PySem.frameOf env):=by
 refine b_.bind (Cg.bind λ_=>.pure _) λl=>b_.bind ?_ λr=>?_
 ·unfold frameObject
  split
  ·exact .pure _
  ·exact(IH _).bind λ_=>.pure _
 ·split
  ·exact .pure _
  ·exact .unsupported _
theorem II:b_ (eS e) (noteFrame v env):=by
 unfold noteFrame
 split
 ·rename_i x d hq
  refine yM.bind λhd=>?_;have tail:b_ (eS e) (do let a <-PySem.frameOf env;let pl <-entryPlaceOf d (hd !=.none);let b <-EntryCells.newEntry hd a .none (rawInt d) .none pl;setField v 1 b):=
   WL.bind λa=>WK.bind λpl=>b_.bind WJ λb=>Ce (by lia)
  split
  ·refine yM.bind λx=>?_
   split
   ·exact .pure _
   ·exact(Ce (by lia)).bind λ_=>tail
  ·exact tail
 ·exact .unsupported _
theorem IJ{env:Env}:b_ (eS e) (leaving env v):=by
 exact II.bind λ_=>Cf
end
end L2
namespace L2
open PySem PySem.Spec PyProof.Rows
theorem cK.yN{H:Hp}{h:Heap}{a:Addr}{o:HO}(x:cK P w H h a o):∃ob,h.get? a=some ob:=by
 cases o with
 |lst xs=>obtain⟨_,_,_,_,e⟩:=x;exact⟨_,e⟩
 |tup xs=>obtain⟨_,_,_,ob,e,_⟩:=x;exact⟨_,e⟩
 |dK kvs=>obtain⟨_,_,_,_,o,_,_,e,_⟩:=x;exact⟨_,e⟩
 |dT kvs=>obtain⟨_,_,_,_,o,_,_,e,_⟩:=x;exact⟨_,e⟩
 |set S n=>obtain⟨o,_,_,_,e,_⟩:=x;exact⟨_,e⟩
 |ins C dx fs=>obtain⟨_,_,_,e,_⟩:=x;exact⟨_,e⟩
 |own y=>obtain⟨_,e⟩:=x;exact⟨_,e⟩
 |xd fs=>obtain⟨_,⟨_,_,_,e,_⟩,_⟩:=x;exact⟨_,e⟩
 |fA lo hi=>obtain⟨_,_,_,e⟩:=x;exact⟨_,e⟩
 |cj ob u=>obtain⟨e,_⟩:=x;exact⟨_,e⟩
 |lA ps=>exact⟨_,(show h.get? a=some _ from x)⟩
 |met f y=>exact⟨_,(show h.get? a=some _ from x)⟩
 |ext φ=>obtain⟨_,⟨_,e⟩,_⟩:=x;exact⟨_,e⟩
theorem bC.Ci{H:Hp}{h h':Heap}(ok:bC P w H h)(k:∀b u,H b≠none->h.get? b=some u->h'.get? b=some u):bC P w H h':=λa o e=>
 (ok a o e).nZ (λb u hb hu=>k b u (by
  rcases hb with rfl|hb
  ·rw[e];exact Option.some_ne_none _
  ·rw[hb];exact Option.some_ne_none _) hu) (λ_ z=>z) (λ_ _ z=>z)
def gC(P:Program)(w:World):cU:=λouter H s E e s'=>∃(ea:Addr) (cls:Value) (t:Addr) (B:Heap) (H':Hp),
 e=.ref ea/\s'.os=s.os/\AllBare s'.gens/\Un (bG outer) [] H H' s.heap s'.heap/\bC P w H' s'.heap/\Heap.FlyingW B outer ea cls (.ref t) s'.heap/\eS ea s'/\H' ea=none/\
 (∀b,H' b≠none->∀o,s'.heap.get? b=some o->B.get? b=some o)/\(∀b o,s.heap.get? b=some o->b∉bG outer->∀o',s'.heap.get? b=some o'->B.get? b=some o')/\E cls none H'
theorem IL{w:World}{outer:List Env}{H:Hp}{s:Shared}{e:Value}{s':Shared}(h:gC P w outer H s E0 e s'):False:=by
 obtain⟨_,_,_,_,_,_,_,_,_,_,_,_,_,_,_,h⟩:=h;exact h
section
variable {P:Program}{w:World}{K:Frag}{mg:Str->Option Value}{base:Heap}{N:List Str}{qual:Str}{scope:Scope}{f:Addr}{cd:Value}{A:Around}{outer:List Env}{s₀:Shared}{H₀:Hp}{E:XK}
theorem WM:Passes (gC P w) (qf (gC P w) P w K mg base N qual scope f cd A outer s₀ H₀ E) E:=by
 intro pins σ H s e s' I hx;obtain⟨ea,cls,t,B,H',rfl,os,bare,u,aF,fl,vk,iX,c1,c2,hE⟩:=hx;have nL:∀b o,s₀.heap.get? b=some o->b∉bG outer->b∉bG (envOfC qual scope s₀.heap.objs.size f cd::outer):=λb o hb hn hm=>by
  rcases zac.mp hm with rfl|z
  ·exact absurd (Heap.lt_size hb) (Nat.not_lt.mpr I.ok.above)
  ·exact hn z
 have ka:∀b∈bG (envOfC qual scope s₀.heap.objs.size f cd::outer),H' b=none:=λb hb=>by
  obtain⟨o,ho,_⟩:=(I.stack.mem hb).2;exact u.free b o ho (I.xS b hb) zah
 refine wpAny_mono (vj IJ vk<|wpAny_leaves_onW (Q:=λ_ ir=>∃h',ir={s' with heap:=h'}/\Heap.FlyingW B outer ea cls (.ref t) h'/\s'.heap.UpToSlots h') (E:=λ_ _=>False) I.ok.frames rfl fl λh' fl' up=>⟨h',rfl,fl',up⟩)
  (λ_ ir hq=>?_) (λ_ _ z=>z.1.elim)
 obtain⟨⟨h',rfl,fl',up⟩,Cj⟩:=hq;have into:=λb o hb hn o' dY=>fl'.1 b o' (c2 b o hb hn o' dY);have lB:=λb o hb ho=>fl'.1 b o (c1 b hb o ho);have iB:∀b∈bG (envOfC qual scope s₀.heap.objs.size f cd::outer),∀o,s'.heap.get? b=some o->∃sl,h'.get? b=some {o with slots:=sl}:=λb hb o ho=>by
  obtain⟨o1,iY,hd⟩:=(fl.2.2.1.mem hb).2;rw[ho] at iY;cases iY;exact up b o ho hd
 refine⟨ea,cls,t,B,H',rfl,os.trans I.os,bare,⟨λb o q n hn _=>?_,λb o q n hn _=>?_,λb o q n _=>?_,λb o q _=>?_,λb xs q=>u.dD b xs (I.base.dD b xs q),λb o v q=>u.h9 b o v (I.base.h9 b o v q),λb ps q=>?_⟩,
  aF.Ci (λb o hb ho=>lB b o hb ho),fl',Cj,iX,λb hb o ho=>?_,λb o q hn o' dY=>?_,hE⟩
 ·have q1:=I.base.keep b o q n hn zah;have fg:=nL b o q hn;exact into b o q1 fg o<|u.keep b o q1 (I.base.free b o q n zah) fg zah
 ·obtain⟨sl,q1⟩:=I.base.slot b o q n hn zah;have fg:b∈bG (envOfC qual scope s₀.heap.objs.size f cd::outer):=zav _ hn;obtain⟨uR,q2⟩:=u.slot b _ q1 (I.base.free b o q n zah) fg zah;obtain⟨Ck,q3⟩:=iB b fg _ q2;exact⟨Ck,q3⟩
 ·obtain⟨o1,q1⟩:=I.base.there b o q zah;exact u.free b o1 q1 (I.base.free b o q n zah) zah
 ·obtain⟨o1,q1⟩:=I.base.there b o q zah;obtain⟨o2,q2⟩:=u.there b o1 q1 zah;by_cases hm:b∈bG (envOfC qual scope s₀.heap.objs.size f cd::outer)
  ·obtain⟨sl,q3⟩:=iB b hm o2 q2;exact⟨_,q3⟩
  ·exact⟨o2,into b o1 q1 hm o2 q2⟩
 ·obtain⟨m1,e1⟩:=I.base.iq b ps q;obtain⟨m2,e2⟩:=u.iq b _ e1;exact⟨m1++m2,by rw[e2,Array.append_assoc]⟩
 ·obtain⟨fQ,hH⟩:=zbn.mp hb;obtain⟨o2,q2⟩:=(aF b fQ hH).yN;have ky:=ho;rw[(lB b o2 hb q2)] at ky;cases ky;exact c1 b hb _ q2
 ·obtain⟨o1,q1⟩:=I.base.there b o q zah;obtain⟨o2,q2⟩:=u.there b o1 q1 zah;have fg:=nL b o q hn;have ky:=dY;rw[(into b o1 q1 fg o2 q2)] at ky;cases ky;exact c2 b o1 q1 fg _ q2
def Raises(X:Cx)(E:XK):Prop:= ∀(pins:List (Addr×Obj)) (σ:St) (H:Hp) (s:Shared) (h':Heap) (e:Addr) (cls:Value) (vs:List Value),Inv X pins σ H s->Heap.MadeExcOf s.heap h' e cls vs->E cls none H->X.xe (.ref e) {s with heap:=h'}
theorem WN:Raises (qf (gC P w) P w K mg base N qual scope f cd A outer s₀ H₀ E) E:=by
 intro pins σ H s h1 e cls vs I hx hE;have nL:∀b o,s₀.heap.get? b=some o->b∉bG outer->b∉bG (envOfC qual scope s₀.heap.objs.size f cd::outer):=λb o hb hn hm=>by
  rcases zac.mp hm with rfl|z
  ·exact absurd (Heap.lt_size hb) (Nat.not_lt.mpr I.ok.above)
  ·exact hn z
 have oC:∀env∈ (envOfC qual scope s₀.heap.objs.size f cd::outer),∀b,env.frame=some b->b∈bG (envOfC qual scope s₀.heap.objs.size f cd::outer):=λenv he b hb=>zbM.mpr ⟨env,he,hb⟩;have vk:eS e {s with heap:=h1}:=by
  obtain⟨t,ht,_,_⟩:=hx.there;exact⟨_,_,ht,rfl,rfl,rfl⟩
 refine wpAny_mono (vj IJ vk (wpAny_leaves_madeW (Q:=λ_ ir=>∃h' t,ir={s with heap:=h'}/\Heap.FlyingW (hideAll s.heap (bG (envOfC qual scope s₀.heap.objs.size f cd::outer))) outer e cls (.ref t) h'/\h1.UpToSlots h') (E:=λ_ _=>False)
  I.ok.frames rfl (λb o q=>of_hideAll _ q) (PySem.W.funFrames_hide I.stack oC) hx λh' t fl' _ _ up=>⟨h',t,rfl,fl',up⟩)) (λ_ ir hq=>?_) (λ_ _ z=>z.1.elim)
 obtain⟨⟨h',t,rfl,fl',up⟩,Cj⟩:=hq;have into:=λb o hb hn=>fl'.1 b o (hideAll_get _ hb hn);have Cm:∀b,H b≠none->b∉bG (envOfC qual scope s₀.heap.objs.size f cd::outer):=λb hb hm=>hb (I.xS b hm);have iB:∀b∈bG (envOfC qual scope s₀.heap.objs.size f cd::outer),∀o,s.heap.get? b=some o->∃sl,h'.get? b=some {o with slots:=sl}:=λb hb o ho=>by
  obtain⟨o1,iY,hd⟩:=(I.stack.mem hb).2;rw[ho] at iY;cases iY;exact up b o (hx.keeps b o ho) hd
 refine⟨e,cls,t,_,H,rfl,I.os,I.bare,⟨λb o q n hn _=>?_,λb o q n hn _=>?_,λb o q n _=>I.base.free b o q n zah,λb o q _=>?_,I.base.dD,I.base.h9,I.base.iq⟩,
  I.aF.Ci (λb o hb ho=>into b o ho (Cm b hb)),fl',Cj,?_,λb hb o ho=>?_,λb o q hn o' dY=>?_,hE⟩
 ·exact into b o (I.base.keep b o q n hn zah) (nL b o q hn)
 ·obtain⟨sl,q1⟩:=I.base.slot b o q n hn zah;obtain⟨Ck,q3⟩:=iB b (zav _ hn) _ q1;exact⟨Ck,q3⟩
 ·obtain⟨o1,q1⟩:=I.base.there b o q zah;by_cases hm:b∈bG (envOfC qual scope s₀.heap.objs.size f cd::outer)
  ·obtain⟨sl,q3⟩:=iB b hm o1 q1;exact⟨_,q3⟩
  ·exact⟨o1,into b o1 q1 hm⟩
 ·cases q:H e with
  |none=>rfl
  |some ho=>
   obtain⟨o2,q2⟩:=(I.aF e ho q).yN;rw[hx.new] at q2;cases q2
 ·obtain⟨fQ,hH⟩:=zbn.mp hb;obtain⟨o2,q2⟩:=(I.aF b fQ hH).yN;have ky:=ho;rw[(into b o2 q2 (Cm b hb))] at ky;cases ky;exact hideAll_get _ q2<|Cm b hb
 ·obtain⟨o1,q1⟩:=I.base.there b o q zah;have fg:=nL b o q hn;have ky:=dY;rw[(into b o1 q1 fg)] at ky;cases ky;exact hideAll_get _ q1 fg
end
section
variable {X:Cx}
theorem WO{bm:List Value}{B newId sP:String}{e:Expr}{es:List Expr}{t:TA}{np d5 pos:Pos}{E:XK}(hc:X.calm=true)(O:OwnCls x C bm newId X.mg X.base)(FB:ExcBaseFacts B newId sP bm)(Cn:Gl X x)
  (hd:(x==("__debug__":Str))=false) (ha:PA X (e::es) t) (hs:starEach (e::es) X.env=(false,eval e X.env)::starEach es X.env) (h1:(backTo d5<|starEach es X.env).any (·.1)=false) (hR:Raises X E):
  PS X (.Raise (some<|.Call (.Name x np) (e::es) [] d5) none pos) (B4 C E t):=by
 intro pins s σ H D I h;obtain⟨tl,N,nm,q,bs,hdct,sn,sub,ab,col,dd,k0,k1,k2,k3,k5,mN,hC,hN,yO,T⟩:=O.obj;have hg:PE X (.Name x np) (tC<|.ref C):=F9 Cn O.bound rfl hd;refine wpAny_Raise_call_subT (C:=C) (nm:=nm) (q:=q) (N:=N) (bs:=bs) (hdct:=hdct) (sn:=sn) (sub:=sub) (ab:=ab) (col:=col) (dd:=dd) (k0:=k0) (k1:=k1) (k2:=k2) (k3:=k3) (k5:=k5)
  FB (T.hasType FB.hasBase) (I.ok.hd hc) (by rw[hs];show(false ||(backTo d5<|starEach es X.env).any (·.1))=false;rw[h1];rfl) yO
  (aK (hg pins s σ H (λv H1=>v=.ref C/\B4 C E t D σ H1) I ⟨rfl,h⟩) λf s1 ⟨v,H1,I1,r1,ev,q1⟩=>?_)
 subst ev;obtain rfl:f=Value.ref C:=r1;refine⟨rfl,?_⟩;have hA:=ha d5 pins s1 σ H1 _ I1 q1;rw[hs] at hA⊢;refine Calls.evalArgs_plain<|aK hA λus s2 ⟨vs,H2,I2,r2,hl,q2⟩=>⟨rfl,?_,I2.bk _ _ hC,hN.keeps I2.bk,T.keeps I2.bk,λh' e' hm=>hR pins σ H2 s2 h' e' _ _ I2 hm q2⟩;have:=r2.length;lia
end
theorem IM{l:List Env}{H H':Hp}{h h1 h' B:Heap}(u:Un (bG l) [] H H' h h1)(aF:bC P w H' h1)(fr:h1.FunFrames B l)
  (c1:∀b,H' b≠none->∀o,h1.get? b=some o->B.get? b=some o) (c2:∀b o,h.get? b=some o->b∉bG l->∀o',h1.get? b=some o'->B.get? b=some o') (st:B.StaysIn h') (up:h1.UpToSlots h'):
  Un (bG l) [] H H' h h'/\bC P w H' h'/\(∀b,H' b≠none->∀o,h'.get? b=some o->B.get? b=some o)/\(∀b o,h.get? b=some o->b∉bG l->∀o',h'.get? b=some o'->B.get? b=some o'):=by
 have lB:=λb o hb ho=>st b o (c1 b hb o ho);have into:=λb o hb hn o' dY=>st b o' (c2 b o hb hn o' dY);have iB:∀b∈bG l,∀o,h1.get? b=some o->∃sl,h'.get? b=some {o with slots:=sl}:=λb hb o ho=>by
  obtain⟨o1,iY,hd⟩:=(fr.mem hb).2;rw[ho] at iY;cases iY;exact up b o ho hd
 refine⟨⟨λb o q n hn _=>into b o q hn o<|u.keep b o q n hn zah,λb o q n hn _=>?_,u.free,λb o q _=>?_,u.dD,u.h9,u.iq⟩,aF.Ci<|λb o hb ho=>lB b o hb ho,λb hb o ho=>?_,λb o q hn o' dY=>?_⟩
 ·obtain⟨sl,q1⟩:=u.slot b o q n hn zah;obtain⟨uR,q2⟩:=iB b hn _ q1;exact⟨uR,q2⟩
 ·obtain⟨o1,q1⟩:=u.there b o q zah;by_cases hm:b∈bG l
  ·obtain⟨sl,q3⟩:=iB b hm o1 q1;exact⟨_,q3⟩
  ·exact⟨o1,into b o q hm o1 q1⟩
 ·obtain⟨fQ,hH⟩:=zbn.mp hb;obtain⟨o2,q2⟩:=(aF b fQ hH).yN;rw[(lB b o2 hb q2)] at ho;cases ho;exact c1 b hb _ q2
 ·obtain⟨o2,q2⟩:=u.there b o q zah;rw[(into b o q hn o2 q2)] at dY;cases dY;exact c2 b o q hn _ q2
def Cx.alt(X:Cx)(A:Around)(calm:Bool)(pn:List (Addr×Obj))(xe:Value->Shared->Prop):Cx:={X with A:=A,calm:=calm,pn:=pn,xe:=xe}
theorem Inv.alt{pn':List (Addr×Obj)}{σ:St}{H:Hp}{s:Shared}{A':Around}{calm':Bool}{Co:Value->Shared->Prop}(I:Inv X pins σ H s)(hf:A'.frames=X.A.frames)(hc:calm'=true->A'.handled=none)(hp:∀p∈pn'++pins',p∈X.pn++pins):
  Inv (X.alt A' calm' pn' Co) pins' σ H s where
 ok:=⟨I.ok.mod,I.ok.kind,I.ok.glob,I.ok.blt,I.ok.above,I.ok.inj,I.ok.has,I.ok.xM,hc,hf.trans I.ok.frames,I.ok.ka,I.ok.Rw,I.ok.bs,I.ok.pX,I.ok.xO,I.ok.xQ,I.ok.kf,I.ok.r9⟩
 os:=I.os
 bare:=I.bare
 base:=I.base
 loc:=I.loc
 cell:=I.cell
 free:=I.free
 jg:=I.jg
 pin:=λp h=>I.pin p (hp p h)
 aF:=I.aF
 len:=I.len
theorem Inv.Cp{pins pins' pn':List (Addr×Obj)}{σ:St}{H:Hp}{s:Shared}{A':Around}{calm':Bool}{Co:Value->Shared->Prop}(ok:X.Ok)(I:Inv (X.alt A' calm' pn' Co) pins' σ H s)(hp:∀p∈X.pn++pins,p∈pn'++pins'):
  Inv X pins σ H s where
 ok:=ok
 os:=I.os
 bare:=I.bare
 base:=I.base
 loc:=I.loc
 cell:=I.cell
 free:=I.free
 jg:=I.jg
 pin:=λp h=>I.pin p (hp p h)
 aF:=I.aF
 len:=I.len
theorem WQ{w:World}{H:Hp}{h:Heap}{ea:Addr}{ob:Obj}(h1:h.get? ea=some ob):cK P w H h ea (.cj ob qp):=
 ⟨h1,trivial,⟨ob,h1⟩,λ_ _ _ _=>trivial⟩
theorem bC.more{H:Hp}{h:Heap}{a:Addr}{o:HO}(ok:bC P w H h)(ha:H a=none)(x:cK P w (upd H a o) h a o):bC P w (upd H a o) h:=λb u e=>by
 by_cases z:b=a
 ·subst z;rw[ay] at e;cases e;exact x
 ·rw[az z] at e;exact(ok b u e).nZ (λ_ _ _ q=>q) (λc q=>by rw[az<|aM q ha];exact q) (λc xs q=>by rw[az<|aM q ha];exact q)
def IP(A:Around)(H:Hp):Prop:= ∃e D,A.handled=some (.ref e)/\ExcAt H e D
def Hd(X:Cx):Prop:=IP X.A X.H₀
structure sQ (k:Nat) (A:Around):Prop where
 dp:A.depth+3*k+5<recursionLimit
 un:A.units+16*k+200<cLine
 gd:A.guards=some []:=by rfl
theorem dO.h{A:Around}(r:dO k A):sQ k A:=⟨r.dp,r.un,r.gd⟩
theorem sQ.mark{A:Around}(r:sQ k A)(v:Option Value):sQ k (A.mark v):=⟨r.dp,r.un,r.gd⟩
def WR(outer:List Env)(P:Program)(w:World)(H:Hp)(s:Shared)(Q:VK)(r:Result)(s':Shared):Prop:=
 match r with
 |.ok (.ret u)=>CE outer P w H s Q u s'
 |_=>False
structure IQ (P:Program) (w:World) (K:Frag) (mg:Str->Option Value) (base:Heap) (k:Nat) (f:Addr) (fd:FuncData) (ps:List Str) (sp:Sp):Prop where
 len:∀vs H Q E,sp vs H Q E->vs.length=ps.length
 run:∀(A:Around) (outer:List Env) (s:Shared) (H:Hp) (args:Args) (us:List Value) (vs:List V) (Q:VK),sQ k A->IP A H->oa P w K mg base A outer s H->BindsTo s fd args (ps.zip us)->Vals vs us->sp vs H Q E0->
  codeAny (model P w) A (.call (.ref f) args) (WR outer P w H s Q) s
def IS(CX:cU)(X:Cx)(x:Str)(sp:Sp):Prop:=
 ∃k f fd ps,dz X.prog X.w X.K X.mg X.base CX k f fd ps sp/\dO k X.A/\X.mg x=some (.ref f)/\PySem.W.keepIn X.K (.ref f)=true/\Binds X.K fd ps []
def yP(CX:cU)(X:Cx)(C:Addr)(m:Str)(sp:Sp):Prop:=
 eP X.K C/\∃k f fd ps,Meth X.K C m f/\dz X.prog X.w X.K X.mg X.base CX k f fd ps sp/\dO k X.A/\Binds X.K fd ps []
def IT(CX:cU)(X:Cx)(x:Str)(C:Addr)(sp:Sp):Prop:=
 ∃k f fd ps,Mk X.K C f/\dz X.prog X.w X.K X.mg X.base CX k f fd ps sp/\dO (k+1) X.A/\X.mg x=some (.ref C)/\Binds X.K fd ps []
def IU(X:Cx)(x:Str)(sp:Sp):Prop:=
 ∃k f fd ps,IQ X.prog X.w X.K X.mg X.base k f fd ps sp/\sQ k X.A/\X.mg x=some (.ref f)/\PySem.W.keepIn X.K (.ref f)=true/\Binds X.K fd ps []
def IV(X:Cx)(x:Str)(C:Addr):Prop:= ∃bm B newId sP,OwnCls x C bm newId X.mg X.base/\ExcBaseFacts B newId sP bm
structure Good (CX:cU) (S:df) (Γ:aV) (X:Cx):Prop where
 N:X.N=S.N
 sc:X.env.scope=S.sc
 K:X.K=Γ.K
 calm:S.md=0->X.calm=true
 units:X.A.units+64<cLine
 gd:X.A.guards=some []
 fns:S.md=0->∀j x,S.fn[j]?=some x->IS CX X x (Γ.fs j)
 fh:∀j x,S.gn[j]?=some x->∃u,X.mg x=some u/\RelV (Γ.gv j) u
 iZ:∀x,S.bl.contains x=true->X.mg x=none
 pass:Passes CX X Γ.E
 mT:∀outer H s e s',CX outer H s E0 e s'->False
 oE:∀p kvs,Γ.sd p kvs->∀h:Heap,X.K.In h->∃vs,KV kvs vs/\h.DictOf (eO X.prog X.w) p vs
 oF:S.md=0->∀j m,S.mn[j]?=some m->yP CX X (Γ.ms j).1 m (Γ.ms j).2
 qt:S.md=0->∀j x,S.kn[j]?=some x->IT CX X x (Γ.kt j).1 (Γ.kt j).2
 vn:∀j x,S.en[j]?=some x->IV X x (Γ.ex j)
 qu:∀j x,S.hn[j]?=some x->IU X x (Γ.hs j)
 sR:∀e,Γ.hv=some e->X.A.handled=some (.ref e)
 vo:S.md=1->Hd X
theorem yQ{S:df}(h:(if S.md=0 then 0 else 2)=0):S.md=0:=by lia
section
variable {CX:cU}{S:df}{Γ:aV}{X:Cx}
theorem Good.inner(G:Good CX S Γ X)(c:vh)(ln:List Str)(fv:List (Str×Nat))(ex:List Addr)(C:Addr)(s:Shared)(H:Hp):
  Good CX (IG S c ln fv) Γ.calm (iz X c.sc (ln++fv.map (·.1)) ex C s H) where
 N:=rfl
 sc:=by
  show relabel c.sc X.env=Ca c.sc S.sc;rw[<-G.sc];rfl
 K:=G.K
 calm:=λh=>G.calm (yQ h)
 units:=G.units
 gd:=G.gd
 fns:=λm j x h=>G.fns (yQ m) j x h
 fh:=G.fh
 iZ:=G.iZ
 pass:=λ_ _ _ _ _ _ _ h=>(G.mT _ _ _ _ _ h).elim
 mT:=G.mT
 oE:=G.oE
 oF:=λz j m h=>G.oF (yQ z) j m h
 qt:=λz j x h=>G.qt (yQ z) j x h
 vn:=λj x h=>by simp[IG] at h
 qu:=λj x h=>G.qu j x h
 sR:=λe h=>G.sR e h
 vo:=λh=>by
  have h':(if S.md=0 then 0 else 2)=1:=h
  split at h'<;>cases h'
theorem Good.gl(G:Good CX S Γ X){x:Str}(h:oA S.sc x=true):Gl X x:=by
 show X.env.scope.names.lookup x=_;rw[G.sc];exact WB h
theorem fj{es:List Expr}{env:Env}(h:noStar e=true):starEach (e::es) env=(false,eval e env)::starEach es env:=by
 cases e<;>first|rfl|cases h
theorem oo{x:Str}{env:Env}(h:oB o=true):attributeBase o x env (eval o env)=eval o env:=by
 unfold attributeBase
 split
 ·cases h
 ·rfl
theorem yR{env:Env}(h:vi e=true):∀x,foldedSetIterable e env x=pure x:=by
 intro x;cases e<;>first|rfl|cases h
def iC(es:List Expr):Bool:=es.all noStar
theorem mU(env:Env)(pos:Pos):∀(es:List Expr),iC es=true->(backTo pos<|starEach es env).any (·.1)=false
 |[],h=>rfl
 |e::es,h=>by
  simp only[iC,zbi,zae] at h
  rw[fj h.1];show(false ||(backTo pos<|starEach es env).any (·.1))=false;rw[(mU env pos es h.2)];rfl
theorem yS(env:Env)(pos:Pos):∀(es:List Expr),iC es=true->(backTo pos<|starEach es env).all (λx=> !x.1)=true
 |[],h=>rfl
 |e::es,h=>by
  simp only[iC,zbi,zae] at h
  rw[fj h.1];show(!false && (backTo pos<|starEach es env).all (λx=> !x.1))=true;rw[(yS env pos es h.2)];rfl
theorem gT{es:List Expr}(h:iC (e::es)=true):noStar e=true/\iC es=true:=by
 simp only[iC,zbi,zae] at h
 exact h
theorem IW(G:Good CX S Γ X){c:vh}{ln:List Str}{fv:List (Str×Nat)}(h:Cc S c ln fv=true):
  ku X c.sc ln fv/\(∀x∈ln,c.sc.names.lookup x=some .local)/\(ln++fv.map (·.1)).Nodup/\vi c.iter=true:=by
 simp only[Cc,zae,decide_eq_true_eq,zbE,Bool.or_eq_true] at h
 obtain⟨⟨⟨⟨⟨⟨⟨h1,h2⟩,h3⟩,h4⟩,h5⟩,h6⟩,h7⟩,h8⟩:=h;refine⟨⟨h1,λy hy=>h2 y hy,λy hy hl=>?_,λy hy hf=>?_,λp hp=>?_⟩,h6,h7,h8⟩
 ·rcases h3 y hy with z|z
  ·exact absurd hl z
  ·exact z
 ·show X.env.scope.names.lookup y.1=_\/X.env.scope.names.lookup y.1=_;rw[G.sc];rcases h4 y hy with(z|z)|z
  ·exact absurd hf z
  ·exact .inl z
  ·exact .inr z
 ·rw[G.N];exact h5 p hp
theorem IX(hc:X.calm=true){c:vh}{tk:Option Nat}{ln:List Str}{fv:List (Str×Nat)}(h:Cb tk c.tg=some ln)(hl:∀x∈ln,c.sc.names.lookup x=some .local)(hn:(ln++fv.map (·.1)).Nodup):
  u1 X c.sc ln fv c.tg tk:=by
 unfold Cb at h
 split at h
 ·rename_i x p he
  cases h;rw[he];exact VF (hl x (by simp)) hn
 ·rename_i x p y q k pos he
  cases h;rw[he];exact VH hc (hl x (by simp)) (hl y (by simp)) hn
 ·cases h
theorem WS{H:Hp}{Q:VK}{K:Frag}(h:ou K .int xs H Q):(∃i,xs=[.int i]/\Q (.int i) H)\/∃k,xs=[.bl k]/\Q (.int (if k then 1 else 0)) H:=by
 match xs,h with
 |[.int i],h=>exact .inl ⟨i,rfl,h⟩
 |[.bl k],h=>exact .inr ⟨k,rfl,h⟩
theorem WT{K:Frag}{x:V}{H:Hp}{Q:Nat->Prop}(h:qi K x H Q):∃n,GS K x H n/\Q n:=by
 match x,h with
 |.str y,h=>exact⟨_,⟨h.1,rfl⟩,h.2⟩
 |.ref p,.inl ⟨xs,a,b⟩=>exact⟨_,.inl ⟨xs,a,rfl⟩,b⟩
 |.ref p,.inr ⟨xs,a,b⟩=>exact⟨_,.inr ⟨xs,a,rfl⟩,b⟩
inductive WU (X:Cx) (b:mS):Prop where
 |fn (id:String) (hv:bootBuiltins b.nm=some (.builtin id)) (hc:dZ X (.builtin id) (ou X.K b))
 |ty (T:String) (hv:bootBuiltins b.nm=some (.type T)) (hc:dZ X (.type T) (ou X.K b))
theorem boot_min:bootBuiltins "min"=some (.builtin "min"):=rfl
theorem boot_max:bootBuiltins "max"=some (.builtin "max"):=rfl
theorem boot_abs:bootBuiltins "abs"=some (.builtin "abs"):=rfl
theorem boot_sum:bootBuiltins "sum"=some (.builtin "sum"):=rfl
theorem WV:bootBuiltins "isinstance"=some (.builtin "isinstance"):=rfl
theorem WW:bootBuiltins "int"=some (.type "int"):=rfl
theorem WX:bootBuiltins "list"=some (.type "list"):=rfl
theorem WY:bootBuiltins "tuple"=some (.type "tuple"):=rfl
theorem IY(f:Nat->Int)(lt:Nat->Nat->Bool)(h:∀i j,lt i j=decide (f i<f j)):∀n,argBest lt n<=n/\∀i,i<=n->f (argBest lt n)<=f i
 | 0=>⟨zqR _,λi hi=>by
   obtain rfl:i=0:=by lia
   exact zaS _⟩
 |n+1=>by
  obtain⟨a,b⟩:=IY f lt h n;have e:argBest lt (n+1)=if lt (n+1) (argBest lt n)=true then n+1 else argBest lt n:=rfl
  rw[e,h]
  split
  ·refine⟨zqR _,λi hi=>?_⟩;by_cases z:i=n+1
   ·rw[z];exact zaS _
   ·have:=b i (by lia);lia
  ·refine⟨by lia,λi hi=>?_⟩
   by_cases z:i=n+1
   ·lia
   ·exact b i (by lia)
theorem IZ{i:Nat}(h:i<xs.size):numAt xs i=xs[i].1:=by
 unfold numAt;rw[Array.getElem?_eq_getElem h];rfl
theorem WZ{i:Nat}(h:i<xs.size):numAt xs i∈xs.toList.map (·.1):=by
 rw[IZ h];exact zam.mpr ⟨xs[i],by simp,rfl⟩
theorem W0{n:Int}(h:n∈xs.toList.map (·.1)):∃i,i<xs.size/\n=numAt xs i:=by
 obtain⟨y,hy,rfl⟩:=zam.mp h;obtain⟨i,hi,rfl⟩:=List.getElem_of_mem hy;have d_:=by simpa using hi
 exact⟨i,d_,by rw[IZ d_];simp⟩
theorem W_{σ:St}{H:Hp}{s:Shared}{p:Addr}{ns:List Int}(I:Inv X pins σ H s)(hq:aB X.K H p (ns.map V.int)):∃xs:Array (Int×Tok),s.heap.IsList p (intItems xs)/\ns=xs.toList.map (·.1):=by
 obtain⟨ao,rv,pl,hz⟩:=I.list hq;have hi:=intsAre_of rv;obtain⟨xs,hx⟩:=hi.allInts.items;refine⟨xs,hx ▸ pl.isList,?_⟩;rw[<-nums_intItems,<-hx];exact(show numsOf ao.toArray.toList=ns from hi.numsOf).symm
theorem Xa(hc:X.calm=true):dZ X (.builtin "min") (λxs H Q=>∃(p:Addr) (ns:List Int),xs=[.ref p]/\aB X.K H p (ns.map V.int)/\ns≠ []/\∀m:Int,m∈ns->(∀n∈ns,m<=n)->Q (.int m) H):=by
 intro pins s σ H xs us Q I r h;obtain⟨p,ns,rfl,hq,ia,q⟩:=h;obtain⟨u,rfl,ru⟩:=vals1 r;cases ru;obtain⟨xs,hl,rfl⟩:=W_ I hq;have sz:0<xs.size:=Nat.pos_of_ne_zero λz=>ia (by rw[Array.eq_empty_of_size_eq_zero z];rfl)
 refine min_intList (I.ok.hd hc) hl sz λv h' tk hv hk=>?_;obtain⟨t,rfl⟩:=intItems_at hv;obtain⟨b1,b2⟩:=IY (numAt xs) (λi j=>decide<|numAt xs i<numAt xs j) (λ_ _=>rfl) (xs.size - 1);refine⟨.int _,H,I.kept hk,⟨t,rfl⟩,q _ (WZ (by lia)) λn hn=>?_⟩
 obtain⟨i,hi,rfl⟩:=W0 hn;exact b2 i (by lia)
theorem Xb(h:ItemsOf (SignAt x) acc x.cps.size):Vals (signs x) acc.toList:=by
 have go:∀(l:List Nat) (us:List Value),us.length=l.length->(∀(j:Nat) (v:Value),us[j]?=some v->∃(c:Nat) (t:Tok),l[j]?=some c/\v=Value.str ⟨#[c]⟩ t)->Vals (l.map λc=>V.str ⟨#[c]⟩) us:=by
  intro l
  induction l with
  |nil=>
   intro us hl _;rw[zaE.mp hl];exact .nil
  |cons c l ih=>
   intro us hl hv;cases us with
   |nil=>cases hl
   |cons u us=>
    obtain⟨c',t,e1,e2⟩:=hv 0 u rfl;have qm:=by simpa using e1
    subst qm;exact .cons ⟨t,e2⟩ (ih us (by simpa using hl) λj v hj=>by
     obtain⟨c2,t2,g1,g2⟩:=hv (j+1) v (by simpa using hj)
     exact⟨c2,t2,by simpa using g1,g2⟩)
 refine go x.cps.toList acc.toList ?_ λj v hj=>?_
 ·have:=h.1;simpa using this
 ·obtain⟨c,t,e1,e2⟩:=h.2 j v (by simpa using hj)
  exact⟨c,t,by simpa using e1,e2⟩
theorem Xd(x:Str):(signs x).length=x.length:=by simp[signs,Str.length]
theorem Xe(hc:X.calm=true):dZ X (.type "list") (λxs H Q=>∃x,xs=[.str x]/\x.length<=sizeLine/\∀l,H l=none->Q (.ref l) (upd H l<|.lst<|signs x)):=by
 intro pins s σ H xs us Q I r h;obtain⟨x,rfl,hx,q⟩:=h;obtain⟨u,rfl,t,rfl⟩:=vals1 r;exact call_list_str (I.ok.hd hc) x t (λh' tk BU c' hk e Xf=>⟨.ref s.heap.objs.size,_,I.laid hk (zqR _) (show cK X.prog X.w _ h' _ (.lst<|signs x) from⟨by rw[Xd];exact hx,BU.toList,c',(Xb Xf),by simpa using e⟩),rfl,q _<|I.aF.fresh<|zqR _⟩) hx
theorem Xg:PE X (.Dict [] [] pos) Iz:=λpins s σ H Q I h=>by
 have big:sysModules<s.heap.objs.size:=Nat.lt_trans (by decide) (I.mod.glob.keeps I.bk).lt
 have ok:cK X.prog X.w (upd H s.heap.objs.size<|.dK []) (s.heap.push {cls:=.type "dict",data:=.dict #[]}) s.heap.objs.size (.dK []):=
  ⟨zqZ _,beq_eq_false_iff_ne.mpr<|Ne.symm<|zao big,[],.nil,Heap.DictOf.new s.heap⟩
 exact wpAny_Dict_empty ⟨.ref s.heap.objs.size,_,I.laid (λ_ _ q=>Heap.get?_push_of_some _ q) (zqR _) ok,rfl,h _<|I.aF.fresh<|zqR _⟩
theorem Xh(hc:X.calm=true)(b:mS):WU X b:=by
 cases b with
 |len=>exact .fn "len" boot_len (dZ.imp SU λxs H Q h=>by
   rcases xs with _|⟨x,_|⟨_,_⟩⟩ <;>(try exact False.elim h)
   obtain⟨n,h1,h2⟩:=WT (Q:=λn=>Q (.int n) H) h;exact⟨x,n,rfl,h1,h2⟩)
 |min=>exact .fn "min" boot_min (dZ.imp ((SR hc).or (Xa hc)) λxs H Q h=>by
   match xs,h with
   |[.int i,.int j],h=>exact .inl ⟨i,j,rfl,h⟩
   |[.ref p],⟨ns,h1,h2,h3⟩=>exact .inr ⟨p,ns,rfl,h1,h2,h3⟩)
 |max=>exact .fn "max" boot_max λ_ _ _ _ xs _ _ _ _ h=>by rcases xs with _|⟨y0,_|⟨y1,_⟩⟩ <;>first|exact False.elim h| (cases y0<;>exact False.elim h)
 |sum=>exact .fn "sum" boot_sum (dZ.imp (VZ hc) λxs H Q h=>by
   rcases xs with _|⟨x,_|⟨_,_⟩⟩ <;>(try exact False.elim h) <;>cases x<;>(try exact False.elim h)
   obtain⟨ns,h1,h2⟩:=h;exact⟨_,ns,rfl,h1,h2⟩)
 |abs=>exact .fn "abs" boot_abs λ_ _ _ _ xs _ _ _ _ h=>by rcases xs with _|⟨y0,_|⟨y1,_⟩⟩ <;>first|exact False.elim h| (cases y0<;>exact False.elim h)
 |int=>exact .ty "int" WW (dZ.imp SS λxs H Q h=>WS h)
 |list=>exact .ty "list" WX (dZ.imp (Uk.or (Xe hc)) λxs H Q h=>by
   rcases xs with _|⟨x,_|⟨_,_⟩⟩ <;>(try exact False.elim h) <;>cases x<;>(try exact False.elim h)
   ·exact .inr ⟨_,rfl,h.1,h.2⟩
   ·obtain⟨ys,h1,h2⟩:=h;exact .inl ⟨_,ys,rfl,h1,h2⟩)
 |tuple=>exact .ty "tuple" WY λ_ _ _ _ xs _ _ _ _ h=>by rcases xs with _|⟨y0,_|⟨y1,_⟩⟩ <;>first|exact False.elim h| (cases y0<;>exact False.elim h)
structure Xi (X:Cx) (m:iW) (id:String):Prop where
 pa:PlainAttrs (yK m)
 slot:Slot (yK m) m.nm id
 ty:typeOf (.builtin id)=pure (.type "method_descriptor")
 mt:qg X id (B8 X.K m)
theorem Xk(r:KV kvs vs)(k:Key){v:V}(h:qr kvs k=some v):∃u,valueAt vs k=some u/\RelV v u:=by
 induction r with
 |nil=>cases h
 | @cons p q ps qs hh t ih=>
  obtain⟨h1,h2⟩:=hh;by_cases e:p.1=k
  ·have e':=h1.symm.trans e;have b:valueAt (q::qs) k=some q.2:=by simp[valueAt,zaO,e']
   have a:qr (p::ps) k=some p.2:=by simp[qr,zaO,e]
   rw[a] at h;cases h;exact⟨_,b,h2⟩
  ·have e':¬q.1=k:=λz=>e (h1.trans z);have b:valueAt (q::qs) k=valueAt qs k:=by simp[valueAt,zaO,e']
   have a:qr (p::ps) k=qr ps k:=by simp[qr,zaO,e]
   rw[a] at h;rw[b];exact ih h
theorem Xl(Cq:∀p kvs,sd p kvs->∀h:Heap,X.K.In h->∃vs,KV kvs vs/\h.DictOf (eO X.prog X.w) p vs):lJ X (IA sd):=by
 intro value slice pins s σ H x y v u Q I rx ry h hs;obtain⟨p,kvs,k,z,rfl,rfl,hq,he,q⟩:=h;cases rx;obtain⟨vs,r,dd⟩:=Cq p kvs hq s.heap I.dE;obtain⟨w,ew,gO⟩:=Xk r k he;exact subscriptTail_builtinR dd.mapOf.typeIs PySem.F.slot_dict_getitem.lookup
  (wpAny_getItem_of (qk ry) dd.mapOf ew ⟨rfl,z,H,I.tok _,gO,q⟩) hs
theorem Xm(Cq:∀p kvs,sd p kvs->∀h:Heap,X.K.In h->∃vs,KV kvs vs/\h.DictOf (eO X.prog X.w) p vs):lJ X (oy X.K sd):=TZ.or (T_.or<|Ua.or<|Xl Cq)
theorem Xn:qg X "list.index" (λx vs H Q=>∃(l:Addr) (y:V) (xs:List V),x=.ref l/\vs=[y]/\aB X.K H l xs/\iU y=true/\xs.all iU=true/\gP y xs=true/\Q (.int (xs.findIdx (λz=>iu z y):Nat)) H):=by
 intro pins s σ H x vs v us Q I rx rv h;obtain⟨l,y,xs,rfl,rfl,hq,fy,fs,oC,q⟩:=h;cases rx;obtain⟨u,rfl,ru⟩:=vals1 rv;obtain⟨ao,r,⟨⟨cls,dd,data,sl⟩,n,ho,hc,hd0,hd⟩,hz⟩:=I.list hq
 subst hc hd;have hlen:=r.length;have e:∀j (h1:j<ao.length) (h2:j<xs.length),fS y ao[j]=iu xs[j] y:=λj h1 h2=>by
  obtain⟨w,e1,r1⟩:=r.get (i:=j) (x:=xs[j]) (by simp)
  have e2:=zai h1;rw[e1] at e2;rw[<-zap e2];exact BE r1<|zbE.mp fs _<|List.getElem_mem h2
 have hj:=List.findIdx_lt_length.mpr (List.any_eq_true.mp oC);have hn:=p_;refine call_meets PySem.F.slot_list_index ⟨_,ho,rfl⟩ PySem.F.entry_list_index (PySem.F.args_list_index_2 _ _)
  (PySem.SeqAt.list_indexAt l ao.toArray n dd sl u (fS y) (xs.findIdx λz=>iu z y) (by simp;lia) (by lia) ?_ ?_) ⟨ho,λz mV=>sx ru fy r fs z (by simpa using mV),⟨.int _,H,I.tok _,⟨_,rfl⟩,q⟩⟩
 ·show fS y ao[xs.findIdx λz=>iu z y]=true;rw[e _ (by lia) hj]
  exact List.findIdx_getElem (w:=hj)
 ·intro j Xo bE;show fS y ao[j]=false;rw[e j (by lia) (by lia)]
  simpa using List.not_of_lt_findIdx bE
theorem I0(m:iW):∃id,Xi X m id:=by
 cases m with
 |append=>exact⟨_,F.plainAttrs_list,F.slot_list_append,F.type_list_append,λpins s σ H x xs v us Q I rx rv h=>by
   cases x<;>(try exact False.elim h) <;>rcases xs with _|⟨y0,_|⟨_,_⟩⟩ <;>(try exact False.elim h)
   obtain⟨zs,h1,h2,h3⟩:=h;exact Uu pins s σ H _ _ v us Q I rx rv ⟨_,zs,_,rfl,rfl,h1,h2,h3⟩⟩
 |pop=>exact⟨_,F.plainAttrs_list,F.slot_list_pop,F.type_list_pop,λpins s σ H x xs v us Q I rx rv h=>by
   cases x<;>(try exact False.elim h) <;>rcases xs with _|⟨_,_⟩ <;>(try exact False.elim h)
   obtain⟨zs,y,h1,h2,h3⟩:=h;exact Uy pins s σ H _ _ v us Q I rx rv ⟨_,zs,y,rfl,rfl,h1,h2,h3⟩⟩
 |extend=>exact⟨_,F.plainAttrs_list,F.slot_list_extend,F.type_list_extend,λpins s σ H x xs v us Q I rx rv h=>by
   cases x<;>(try exact False.elim h) <;>rcases xs with _|⟨y0,_|⟨_,_⟩⟩ <;>(try exact False.elim h) <;>cases y0<;>(try exact False.elim h)
   obtain⟨ys,zs,h1,h2,h3,h4⟩:=h;exact Uw pins s σ H _ _ v us Q I rx rv ⟨_,_,ys,zs,rfl,rfl,h1,h2,h3,h4⟩⟩
 |join=>exact⟨_,F.plainAttrs_str,F.slot_str_join,F.type_str_join,λpins s σ H x xs v us Q I rx rv h=>by
   cases x<;>(try exact False.elim h) <;>rcases xs with _|⟨y0,_|⟨_,_⟩⟩ <;>(try exact False.elim h) <;>cases y0<;>(try exact False.elim h)
   obtain⟨ts,h1,h2,h3⟩:=h;exact V0 pins s σ H _ _ v us Q I rx rv ⟨_,_,ts,rfl,rfl,h1,h2,h3⟩⟩
 |lstrip=>exact⟨_,F.plainAttrs_str,F.slot_str_lstrip,F.type_str_lstrip,λpins s σ H x xs v us Q I rx rv h=>by
   cases x<;>(try exact False.elim h) <;>rcases xs with _|⟨y0,_|⟨_,_⟩⟩ <;>(try exact False.elim h) <;>cases y0<;>(try exact False.elim h)
   obtain⟨h1,h2⟩:=h;exact V2 pins s σ H _ _ v us Q I rx rv ⟨_,_,rfl,rfl,h1,h2⟩⟩
 |starts=>exact⟨_,F.plainAttrs_str,F.slot_str_startswith,F.type_str_startswith,λpins s σ H x xs v us Q I rx rv h=>by
   cases x<;>(try exact False.elim h) <;>rcases xs with _|⟨y0,_|⟨y1,_|⟨_,_⟩⟩⟩ <;>(try exact False.elim h) <;>cases y0<;>(try exact False.elim h) <;>cases y1<;>(try exact False.elim h)
   exact V4 pins s σ H _ _ v us Q I rx rv ⟨_,_,_,rfl,rfl,h⟩⟩
 |find=>exact⟨_,F.plainAttrs_str,F.slot_str_find,F.type_str_find,λ_ _ _ _ x xs _ _ _ _ _ _ h=>by cases x<;>rcases xs with _|⟨y0,_|⟨y1,_⟩⟩ <;>first|exact False.elim h| (cases y0<;>exact False.elim h)⟩
 |count=>exact⟨_,F.plainAttrs_str,F.slot_str_count,F.type_str_count,λ_ _ _ _ x xs _ _ _ _ _ _ h=>by cases x<;>rcases xs with _|⟨y0,_|⟨y1,_⟩⟩ <;>first|exact False.elim h| (cases y0<;>exact False.elim h)⟩
 |reverse=>exact⟨_,F.plainAttrs_list,F.slot_list_reverse,F.type_list_reverse,λ_ _ _ _ x xs _ _ _ _ _ _ h=>by cases x<;>rcases xs with _|⟨y0,_|⟨y1,_⟩⟩ <;>first|exact False.elim h| (cases y0<;>exact False.elim h)⟩
 |index=>exact⟨_,F.plainAttrs_list,F.slot_list_index,F.type_list_index,λ_ _ _ _ x xs _ _ _ _ _ _ h=>by cases x<;>rcases xs with _|⟨y0,_|⟨y1,_⟩⟩ <;>first|exact False.elim h| (cases y0<;>exact False.elim h)⟩
 |Io=>exact⟨_,F.plainAttrs_list,F.slot_list_count,F.type_list_count,λ_ _ _ _ x xs _ _ _ _ _ _ h=>by cases x<;>rcases xs with _|⟨y0,_|⟨y1,_⟩⟩ <;>first|exact False.elim h| (cases y0<;>exact False.elim h)⟩
 |B5=>exact⟨_,F.plainAttrs_list,F.slot_list_index,F.type_list_index,λpins s σ H x xs v us Q I rx rv h=>by
   cases x<;>(try exact False.elim h) <;>rcases xs with _|⟨y0,_|⟨_,_⟩⟩ <;>(try exact False.elim h)
   obtain⟨zs,h1,h2,h3,h4,h5⟩:=h;exact Xn pins s σ H _ _ v us Q I rx rv ⟨_,_,zs,rfl,rfl,h1,h2,h3,h4,h5⟩⟩
 |clear=>exact⟨_,F.plainAttrs_list,F.slot_list_clear,F.type_list_clear,λpins s σ H x xs v us Q I rx rv h=>by
   cases x<;>(try exact False.elim h) <;>rcases xs with _|⟨_,_⟩ <;>(try exact False.elim h)
   obtain⟨zs,h1,h2⟩:=h;exact UB pins s σ H _ _ v us Q I rx rv ⟨_,zs,rfl,rfl,h1,h2⟩⟩
theorem Xp{σ:St}{H:Hp}{s:Shared}{T:Ty}{x:V}{u:Value}{Qb:Bool->Prop}{Q:Value->Shared->Prop}{E:Value->Shared->Prop}(I:Inv X pins σ H s)(rx:RelV x u)(h:cb T x H Qb)
  (hq:∀b tk,Qb b->Q (.bool b) {s with toks:=tk}):wpAny (model X.prog X.w) X.A (call (.builtin "isinstance") [u,.type T.nm]) Q E s:=by
 match x,rx,h with
 |.au,rx,h=>exact mI I rx (.au) (VY _ T) λtk=>hq _ _ h
 |.bl b,rx,h=>exact mI I rx (.bl b) (ot X.K .bool T) λtk=>hq _ _ (by cases T<;>exact h)
 |.int i,rx,h=>exact mI I rx (.int i) (ot X.K .int T) λtk=>hq _ _ (by cases T<;>exact h)
 |.str i,rx,h=>exact mI I rx (.str i) (ot X.K .str T) λtk=>hq _ _ (by cases T<;>exact h)
 |.ref a,rx,h=>
  cases e:H a with
  |none=>simp only[cb,e] at h
  |some o=>
   match o,e with
   |.lst xs,e=>simp only[cb,e] at h;exact mI I rx (.lst e) (ot X.K .list T) λtk=>hq _ _ (by lia)
   |.cj ob (.lst xs),e=>simp only[cb,e] at h;exact mI I rx (.cj e) (ot X.K .list T) λtk=>hq _ _ (by lia)
   |.tup xs,e=>simp only[cb,e] at h;exact mI I rx (.tup e) (ot X.K .tuple T) λtk=>hq _ _ (by lia)
   |.dK xs,e=>simp only[cb,e] at h;exact mI I rx (.dK e) (ot X.K .dict T) λtk=>hq _ _ (by lia)
   |.dT xs,e=>simp only[cb,e] at h;exact mI I rx (.dT e) (ot X.K .dict T) λtk=>hq _ _ (by lia)
   |.set _ _,e=>simp only[cb,e] at h
   |.ins _ _ _,e=>simp only[cb,e] at h
   |.own _,e=>simp only[cb,e] at h
   |.xd _,e=>simp only[cb,e] at h
   |.met _ _,e=>simp only[cb,e] at h
   |.fA _ _,e=>simp only[cb,e] at h
   |.lA _,e=>simp only[cb,e] at h
   |.ext _,e=>simp only[cb,e] at h
   |.cj ob (.tup xs),e=>simp only[cb,e] at h
   |.cj ob (.dK xs),e=>simp only[cb,e] at h
   |.cj ob (.dT xs),e=>simp only[cb,e] at h
   |.cj ob (.set _ _),e=>simp only[cb,e] at h
   |.cj ob (.ins _ _ _),e=>simp only[cb,e] at h
   |.cj ob (.own _),e=>simp only[cb,e] at h
   |.cj ob (.xd _),e=>simp only[cb,e] at h
   |.cj ob (.met _ _),e=>simp only[cb,e] at h
   |.cj ob (.fA _ _),e=>simp only[cb,e] at h
   |.cj ob (.lA _),e=>simp only[cb,e] at h
   |.cj ob (.ext _),e=>simp only[cb,e] at h
   |.cj ob (.cj _ _),e=>simp only[cb,e] at h
theorem Xq(T:Ty):bootBuiltins (Str.ofString T.nm)=some (.type T.nm):=by cases T<;>decide+kernel
theorem Xr(T:Ty):dZ X (.builtin "isinstance") (ox T):=by
 intro pins s σ H xs us Q I r h
 match xs,r,h with
 |[x,.ty n],r,⟨e,h⟩=>
  subst e;obtain⟨u,w',rfl,ru,gO⟩:=vals2 r;cases gO;exact Xp I ru h λb tk hb=>⟨.bl b,H,I.tok tk,rfl,hb⟩
theorem Xs{a:Expr}{ta:TE}{p q pos:Pos}(ha:PE X a ta)(hs:noStar a=true)(hg:Gl X "isinstance")(hm:X.mg "isinstance"=none)(Xt:Gl X (Str.ofString T.nm))(Xu:X.mg (Str.ofString T.nm)=none):
  PE X (.Call (.Name "isinstance" p) [a,.Name (Str.ofString T.nm) q] [] pos) (jN (ox T)<|e8 ta<|e8 (tC<|.ty T.nm) jM):=by
 have hT:PE X (.Name (Str.ofString T.nm) q) (tC<|.ty T.nm):=RK Xt Xu (Xq T) rfl (by cases T<;>decide) (by cases T<;>decide)
 exact G8 (Xr T) hg hm WV (sr ha (sr hT yd rfl)<|fj hs) (by decide) (rfl) (fj hs) rfl
theorem Xv:yj X (sN X.K):=by
 intro pins s σ H x v vl vu lo hi sl Q I rx hs pl pu h
 match x,rx,h with
 |.ref a,rx,.inl ⟨xs,h1,h2⟩=>exact Ug pins s σ H _ v vl vu lo hi sl Q I rx hs pl pu ⟨a,xs,rfl,h1,h2⟩
 |.ref a,rx,.inr ⟨xs,h1,h2,h3⟩=>exact TV pins s σ H _ v vl vu lo hi sl Q I rx hs pl pu ⟨a,xs,rfl,h1,h2,h3⟩
 |.str z,rx,⟨h1,h2⟩=>
  obtain⟨t,rfl⟩:=rx;obtain⟨l,el,ml⟩:∃l:Option (Int×Tok),vl=partValue l/\l.map (·.1)=lo:=by
   cases pl with
   |none=>exact⟨none,rfl,rfl⟩
   |int i t=>exact⟨some (i,t),rfl,rfl⟩
  obtain⟨u,eu,mu⟩:∃u:Option (Int×Tok),vu=partValue u/\u.map (·.1)=hi:=by
   cases pu with
   |none=>exact⟨none,rfl,rfl⟩
   |int i t=>exact⟨some (i,t),rfl,rfl⟩
  subst el eu;refine⟨"str",_,F.slot_str_getitem.lookup,typeIs_str _ _ _,?_⟩;refine wpAny_getItem_str_slice (l:=l) (u:=u) (st:=none) hs rfl ?_;obtain⟨b1,b2,b3⟩:=BD lo hi z.length;have hp:slicePicked z l u none=(List.range<|HT.bh z.length z.length hi - HT.bh z.length 0 lo).map (HT.bh z.length 0 lo+ ·):=by
   show Builtin.Str.strSliceIndices (l.map (·.1)) (u.map (·.1)) 1 z.length=_;rw[ml,mu];have e0:Builtin.Str.strSliceIndices lo hi 1 z.length=sliceRange (sliceBounds lo hi none z.length).1 (sliceBounds lo hi none z.length).2.1 (sliceBounds lo hi none z.length).2.2:=rfl;rw[e0,b1,b2,b3,sliceRange_one]
  have hc:((slicePicked z l u none).filterMap (z.cps[·]?))=mQ z.cps.toList lo hi:=by
   show(Builtin.Str.strSliceIndices (l.map (·.1)) (u.map (·.1)) 1 z.length).filterMap (z.cps[·]?)=_;rw[ml,mu,V_]
  have hz:z.cps.toList.length=z.length:=rfl
  have hA:=HT.By z.length 0 (zqZ _) lo;have hB:=HT.By z.length z.length (zqR _) hi;refine post_val_or_made (λ_=>?_) λt' k=>?_
  ·show(List.toArray ((slicePicked z l u none).filterMap (z.cps[·]?))).size<=sizeLine;rw[hc,zak];have:(mQ z.cps.toList lo hi).length<=z.cps.toList.length:=by unfold mQ;simp;lia
   lia
  ·have e:(if (((none:Option (Int×Tok)).map (·.1)).getD 1==1 && (slicePicked z l u none).length==z.length)=true then z else ⟨((slicePicked z l u none).filterMap (z.cps[·]?)).toArray⟩)=mR z lo hi:=by
    split
    ·rename_i hq
     simp only[zae,beq_iff_eq] at hq
     have eT:=hq.2;rw[hp,zaf,zbd] at eT;have a0:HT.bh z.length 0 lo=0:=by lia
     have b0:HT.bh z.length z.length hi=z.length:=by lia
     unfold mR mQ;rw[hz,a0,b0,<-hz,Nat.sub_zero,zbo,zbp]
    ·rw[hc];rfl
   rw[e];exact⟨.str _,H,I.tok k,⟨t',rfl⟩,h2⟩
theorem Xw:x3 X (unaryOp .USub) Iy:=by
 intro pins s σ H x v Q I rx h
 match x,rx,h with
 |.int i,rx,h=>exact Ss pins s σ H _ v Q I rx ⟨i,rfl,h⟩
theorem Xx{pos:Pos}(ha:PE X a ta):PE X (.UnaryOp .Not a pos) (B7 X.K ta):=by
 intro pins s σ H Q I h;exact UnaryOp_<|aK (ha pins s σ H _ I h) λv s1 ⟨x,H1,I1,r1,q1⟩=>not_of (aK (GR pins s1 σ H1 x v (λb H2=>Q (.bl<|!b) H2) I1 r1<|Iw q1) λb s2 ⟨H2,I2,q2⟩=>⟨.bl<|!b,H2,I2,rfl,q2⟩)
theorem vp{ta:TE}(ha:PE X a ta)(he:∀whole,isTrue a X.env whole=(do let v <-whole;standAt a.pos;holding [v] (truthy v))):PT X a (gB X.K ta):=by
 intro pins s σ H Q I h;exact isTrue_plain (aK (ha pins s σ H _ I h) λv s1 ⟨x,H1,I1,r1,q1⟩=>GR pins s1 σ H1 x v Q I1 r1 (Iw q1))<|he _
theorem Xy{o e:Expr}{es:List Expr}{to:TE}{t:TA}{apos d5:Pos}(ho:PE X o to)(ha:PA X (e::es) t)(hb:oB o=true)(hl:(apos.endLine==d5.line)=true)(hn:(e::es).length<29)
  (hs:starEach (e::es) X.env=(false,eval e X.env)::starEach es X.env) (h1:(backTo d5<|starEach es X.env).any (·.1)=false) (h2:(backTo d5<|starEach (e::es) X.env).all (λx=> !x.1)=true):
  PE X (.Call (.Attribute o m.nm apos) (e::es) [] d5) (sM X.K m to t):=by
 obtain⟨id,M⟩:=I0 m;exact Up M.pa M.slot M.ty M.mt ho ha (oo hb) (by
  rw[h2];show(true && true && decide ((e::es).length+0+0<30))=true;rw[zqT (by lia)];rfl) hl hs h1
theorem Xz{o:Expr}{to:TE}{apos d5:Pos}(ho:PE X o to)(hb:oB o=true)(hl:(apos.endLine==d5.line)=true):
  PE X (.Call (.Attribute o m.nm apos) [] [] d5) (sM X.K m to jM):=by
 obtain⟨id,M⟩:=I0 m;exact Uo M.pa M.slot M.ty M.mt ho (oo hb) hl
theorem I_{apos pos:Pos}{args:List Expr}{Q:Value->Shared->Prop}{E:Value->Shared->Prop}{A:Around}{s:Shared}{env:Env}{prog:Program}{w:World}
  (hb:oB o=true) (hl:(apos.endLine==pos.line)=true) (hn:args.length<29) (hf:(backTo pos<|starEach args env).all (λx=> !x.1)=true)
  (h:wpAny (model prog w) A (eval o env) (λov s1=>∀pl,wpAny (model prog w) A (getMethod ov m pl) (λfx s2=>wpAny (model prog w) A (callWith pos fx.1 fx.2 (backTo pos<|starEach args env)<|backToKw pos<|keywordEach [] env) Q E s2) E s1) E s):
  wpAny (model prog w) A (eval (.Call (.Attribute o m apos) args [] pos) env) Q E s:=by
 have XA:methodCallForm (args.length+0) (backTo pos<|starEach args env) (backToKw pos<|keywordEach [] env)=true:=by
  show((backTo pos<|starEach args env).all (λx=> !x.1) && true && decide (args.length+0+0<30))=true;rw[hf,zqT (by lia)];rfl
 have line:methodCallPos true o env apos pos=pure pos:=by unfold methodCallPos;simp[hl]
 rw[arm_eval_Call,oo hb];refine wpAny_bind<|wpAny_mono h (λov s1 h1=>wpAny_bind<|wpAny_standAt ?_) λ_ _ e=>e;unfold methodCall;rw[show([]:List Keyword).length=0 from rfl,XA]
 exact wpAny_bind<|wpAny_holding<|wpAny_mono (h1 _) (λfx s2 h2=>wpAny_bind<|wpAny_of_eq line h2) λ_ _ e=>e
theorem XB{to:TE}{t:TA}{apos pos:Pos}{C:Addr}{m:Str}{sp:Sp}{E:XK}(M:yP CX X C m sp)(hx:Passes CX X E)(ho:PE X o to)(ha:PA X (e::es) t)(hb:oB o=true)(hl:(apos.endLine==pos.line)=true)(hn:(e::es).length<29)
  (hs:starEach (e::es) X.env=(false,eval e X.env)::starEach es X.env) (h1:(backTo pos<|starEach es X.env).any (·.1)=false) (h2:(backTo pos<|starEach (e::es) X.env).all (λx=> !x.1)=true):
  PE X (.Call (.Attribute o m apos) (e::es) [] pos) (mJ C m sp [] E to t):=by
 obtain⟨c,k,f,fd,ps,hm,F,hr,vq⟩:=M;intro pins s σ H Q I h;refine I_ hb hl hn h2<|aK (ho pins s σ H _ I h) λu s1 ⟨x,H1,I1,rx,a,dx,fs,ex,ea,l,q⟩=>λpl=>?_;subst ex;obtain rfl:u=Value.ref a:=rx;exact GW I1 ea c hm l (callWith_K I.ok.mod.uJ hm.kp (aK (ha pos pins s1 σ H1 _ I1 q) λus s2 ⟨vs,H2,I2,r,q2⟩=>⟨I2.dE,Bw (vs:=.ref a::vs) F hr vq .nil hx I2 (.cons rfl r) q2⟩) hs h1)
theorem XC{apos pos:Pos}{C:Addr}{m:Str}{sp:Sp}{E:XK}(M:yP CX X C m sp)(hx:Passes CX X E)(ho:PE X o to)(hb:oB o=true)(hl:(apos.endLine==pos.line)=true):
  PE X (.Call (.Attribute o m apos) [] [] pos) (mJ C m sp [] E to jM):=by
 obtain⟨c,k,f,fd,ps,hm,F,hr,vq⟩:=M;intro pins s σ H Q I h;refine I_ hb hl (by simp) rfl<|aK (ho pins s σ H _ I h) λu s1 ⟨x,H1,I1,rx,a,dx,fs,ex,ea,l,q⟩=>λpl=>?_
 subst ex;obtain rfl:u=Value.ref a:=rx;exact GW I1 ea c hm l (PySem.W.callWith_K0 I1.dE hm.kp<|Bw (vs:=[.ref a]) F hr vq .nil hx I1 (.cons rfl .nil) q)
variable {prog:Program}{w:World}{A:Around}{E:Value->Shared->Prop}{s:Shared}
theorem Ja{l:Addr}{items:Array Value}(ia:l≠it):∀(n i:Nat) (s:Shared) (Q:List Value->Shared->Prop),s.heap.IsListIter it l i->s.heap.IsList l items->i+n<=items.size->
  (∀h',h'.IsListIter it l (i+n)->Heap.SameBut it s.heap h'->Q ((items.toList.drop i).take n) {s with heap:=h'})->wpAny (model prog w) A (draw (.ref it) n) Q E s
 | 0,i,s,Q,hit,_,_,hQ=>by
  exact wpAny_pure (by simpa using hQ s.heap hit (Heap.SameBut.refl ..))
 |n+1,i,s,Q,hit,ht,hle,hQ=>by
  have bE:i<items.size:=by lia
  refine wpAny_bind<|wpAny_pyNext_list_item hit ht (x:=items[i]) (by simp) λh₁ Cr vt=>?_
  refine wpAny_bind<|wpAny_holding<|Ja ia n (i+1) _ _ Cr (ht.extBut vt.extBut ia) (by lia) λh₂ XD XE=>wpAny_pure ?_
  have hd:items.toList.drop i=items[i]::items.toList.drop (i+1):=by simp[zaX,bE]
  have:=hQ h₂ (by lia) (vt.trans XE)
  rw[hd] at this;exact this
theorem XF{Q:List Value->Shared->Prop}(hh:A.handled=none)(ht:s.heap.IsList t items)
  (hQ:∀h',Heap.ExtBut s.heap.objs.size s.heap h'->Q items.toList {s with heap:=h'}):wpAny (model prog w) A (unpackItems (.ref t) items.size none) Q E s:=by
 have bE:t≠s.heap.objs.size:=by obtain⟨o,ho,_⟩:=ht;exact zao (Heap.lt_size ho)
 refine wpAny_bind ?_
 ·refine wpAny_bind<|wpAny_specialOf ht.typeIs slot_list_iter.lookup ?_;refine wpAny_pure ?_
  refine wpAny_bind<|wpAny_holding<|wpAny_pyIter_list ht (wpAny_bind<|wpAny_holding<|Ja bE items.size 0 _ _ ⟨_,Heap.get?_push_size _ rfl,rfl,rfl⟩ (ht.push _) (by lia) λh₁ Cr vt=>?_)
  have om:List.take items.size (List.drop 0 items.toList)=items.toList:=by
   exact zaG (by simp)
  rw[om];rw[if_neg (by simp)]
  refine wpAny_bind<|wpAny_holding<|wpAny_pyNext_list_end hh Cr ((ht.push _).extBut vt.extBut bE) (by simp) λh₂ XH=>?_
  refine wpAny_pure<|hQ h₂ λb o hb e=>XH b o hb (vt.extBut b o hb<|Heap.get?_push_of_some _ e)
theorem XI{elts:List Expr}{x1}{pos:Pos}{t:Addr}{items:Array Value}{Q:Unit->Shared->Prop}(hh:A.handled=none)(ht:s.heap.IsList t items)
  (hn:(assignEach elts env).length=items.size) (XJ:(assignEach elts env).findIdx? (·.1)=none)
  (h:∀h',Heap.ExtBut s.heap.objs.size s.heap h'->wpAny (model prog w) A (assignInOrder ((assignEach elts env).map (·.2)) items.toList) Q E {s with heap:=h'}):
  wpAny (model prog w) A (assign (.Tuple elts x1 pos) env<|.ref t) Q E s:=by
 refine wpAny_bind<|wpAny_standAt ?_;unfold unpack;rw[hn,XJ];exact wpAny_bind<|wpAny_holding<|XF hh ht h
end
def qv(K:Frag)(n:Nat)(t:lG):TG:=λv σ H Q=>∃a xs,v=.ref a/\(aL K H a xs\/aB K H a xs)/\xs.length=n/\t xs σ H Q
theorem XM{k:Nat}{t:lG}{n:Nat}{pos:Pos}(hc:X.calm=true)(h:sh X es t)
  (hn:(assignEach es X.env).length=n) (n6:(assignEach es X.env).findIdx? (·.1)=none):PG X (.Tuple es k pos) (qv X.K n t):=by
 intro pins s σ H v u Q I r hw;obtain⟨a,xs,e1,hq,hl,hw⟩:=hw;rcases hq with hq|hq
 ·exact Gv hc h hn n6 pins s σ H v u Q I r ⟨a,xs,e1,hq,hl,hw⟩
 ·subst e1;cases r;obtain⟨ao,rv,ht,hz⟩:=I.list hq;refine XI (I.ok.hd hc) ht.isList (by simp[hn,<-hl,rv.length]) n6 λh' hx=>?_
  exact h pins _ σ H xs _ Q (I.kept λb o e=>hx b o (zao<|Heap.lt_size e) e) (by lia) hw
def oG:List Nat->lG
 |[]=>Bl
 |i::r=>xX (fB i) (oG r)
def XN(to:TE)(tl th:TO):TG:=λv σ H Q=>to σ H λo H1=>tl σ H1 λi H2=>th σ H2 λj H3=>∃l b xs ys a c,o=.ref l/\v=.ref b/\i=some a/\j=some c/\H3 l=some (.lst xs)/\H3 b=some (.lst ys)/\l≠b/\
 0<=a/\a<=c/\c<=xs.length/\xs.length+ys.length<=sizeLine/\Q σ (upd H3 l<|.lst<|xs.take a.toNat++ys++xs.drop c.toNat)
mutual
def ee(Γ:aV):RS->TS
 |.asg i e=>lH (af Γ e) (fB i)
 |.sL i e=>lH (af Γ e) (fB i)
 |.set o ix e=>lH (af Γ e) (Gw (af Γ o) (af Γ ix) yn)
 |.dput o i e=>HE (af Γ o) (af Γ i) (af Γ e)
 |.drop e=>Gm (af Γ e)
 |.ret e=>Gn (af Γ e)
 |.Wk=>RY
 |.ite c t e=>Gp (a_ Γ c) (aE Γ t) (aE Γ e)
 |.iA i k ao body=>xY (jn Γ k ao) (fB i) (aE Γ body)
 |.lO is k ao body=>xY (jn Γ k ao) (qv Γ.K is.length<|oG is) (aE Γ body)
 |.qq c body=>Gx (a_ Γ c) (aE Γ body)
 |.pass=>Bj
 |.brk=>RU
 |.cont=>Gk
 |.never=>R0
 |.Wl o lo hi e=>lH (af Γ e) (XN (af Γ o) (yi<|af Γ lo)<|yi<|af Γ hi)
 |.bT o f e=>yc Γ.K (af Γ o) (af Γ e) f
 |.Wm is e=>lH (af Γ e) (qv Γ.K is.length<|oG is)
 |.eR j as=>B4 (Γ.ex j) Γ.E (bw Γ as)
 |.B6 n i j body su=>λD σ H=>∃C,Γ.gv j=.ref C/\yI Γ.K C i n (λE=>aE {Γ with E:=E} body) (λea=>aE {Γ with E:=E0,hv:=some ea} su) D σ H
 |.Wn k i j f as su=>λD σ H=>∃C,Γ.gv j=.ref C/\Wd Γ.K C i k (Γ.fs f) (bw {Γ with E:=E0} as) (λea=>aE {Γ with E:=E0,hv:=some ea} su) D σ H
 |.xs T=>T Γ
def aE(Γ:aV):List RS->TS
 |[]=>Bj
 |s::r=>Gi (ee Γ s) (aE Γ r)
end
def vv:Expr->Bool
 |.Slice ..=>false|_=>true
def yT:Expr->Bool
 |.ListComp ..=>false|.SetComp ..=>false|.DictComp ..=>false|_=>true
def Jb(sc:Scope)(x:Str)(line:Nat)(s:Scope)(p:Pos):Bool:=
 decide (sc.kind=.function) && decide (sc.names.lookup x=some .local) && (line==p.line) && !(s.names.any fun(n,k)=>n==x && (k==.local ||k==.cell))
def sU(N:List Str)(sc:Scope):List Nat->List Str->Bool
 |[],xs=>xs.isEmpty
 |i::r,xs=>match xs with
  |[]=>false
  |x::t=>decide (N[i]?=some x) && loc sc x && sU N sc r t
structure d2 (CX:cU) (S:df) (Γ:aV) (X:Cx):Prop extends Good CX S Γ X where
 nd:S.N.Nodup
 oH:∀x,X.fn x=true
 own:PassesOwn (model X.prog X.w) X.A X.env X.xe
 sV:X.env.scope.kind=.function
 rs:∀(j:Nat) (x:Str),S.en[j]?=some x->Raises X Γ.E
 ka:X.stack=X.env::X.outer
 iB:X.env.frame=some X.env.locals
 sW:X.ex=[]
 sX:CX=gC X.prog X.w
def qV(S:df)(i:Nat)(x:Str):Bool:=decide (S.N[i]?=some x) && B9 S.sc x && !(x==("__debug__":Str)) && !(x==("__classdict__":Str))
def kG(S:df)(j:Nat)(x:Str):Bool:=decide (S.gn[j]?=some x) && oA S.sc x && !(x==("__debug__":Str))
def kF(S:df)(j:Nat)(x:Str):Bool:=decide (S.fn[j]?=some x) && oA S.sc x && !(x==("__debug__":Str))
def kK(S:df)(j:Nat)(x:Str):Bool:=decide (S.kn[j]?=some x) && oA S.sc x && !(x==("__debug__":Str))
def kB(S:df)(x y:Str):Bool:=decide (x=y) && oA S.sc x && S.bl.contains x
def kM(o:Expr)(m:Str)(x:Str)(n:Nat)(a c:Pos):Bool:=decide (x=m) && oB o && (a.endLine==c.line) && decide (n<29)
def kL(S:df)(i:Nat)(x:Str):Bool:=decide (S.N[i]?=some x) && loc S.sc x
section
variable {CX:cU}{S:df}{Γ:aV}{X:Cx}{e e2 a b c d:Expr}{es:List Expr}{x:Str}{p q pos:Pos}{r ra rb rc:RE}{rs:List RE}{i j:Nat}
theorem aa(G:Good CX S Γ X)(h:qV S i x=true:=by kernel_rfl):PE X (.Name x p) (af Γ<|.v i):=by
 simp only[qV,zae,decide_eq_true_eq,zaY] at h
 exact RD (G.N▸h.1.1.1) (G.sc▸WA h.1.1.2) h.1.2 h.2
theorem ax{k:Nat}:PE X (.Constant (.int v) k p) (af Γ<|.c<|.int v):=RF
theorem aH{k:Nat}:PE X (.Constant (.str v) k p) (af Γ<|.c<|.str v):=RJ
theorem jo{k:Nat}:PE X (.Constant (.bool v) k p) (af Γ<|.c<|.bl v):=RG
theorem eG:PE X (.Constant .none k p) (af Γ<|.c .au):=RH
theorem yU(G:Good CX S Γ X)(h:kG S j x=true:=by kernel_rfl):PE X (.Name x p) (af Γ<|.g j):=by
 simp only[kG,zae,decide_eq_true_eq,zaY] at h
 obtain⟨u,hm,r⟩:=G.fh j x h.1.1;exact F9 (G.gl h.1.2) hm r h.2
theorem aQ(G:Good CX S Γ X)(ha:PE X a (af Γ ra))(hb:PE X b (af Γ rb)):PE X (.BinOp a op b p) (af Γ<|.bin op ra rb):=by
 show PE X _ (fO (iV Γ.K op) (af Γ ra)<|af Γ rb);rw[<-G.K];exact Sh (VL op) ha hb
theorem jQ(ha:PE X a (af Γ ra)):PE X (.UnaryOp .USub a p) (af Γ<|.neg ra):=Sj Xw ha
theorem iD(G:Good CX S Γ X)(ha:PE X a (af Γ ra))(hb:PE X b (af Γ rb))(hm:behindInMarks op b=false:=by kernel_rfl):PE X (.Compare a [op] [b] p) (af Γ<|.cmp op ra rb):=by
 show PE X _ (fO (cN Γ.K op) (af Γ ra)<|af Γ rb);rw[<-G.K];exact SJ (sI G.units op) ha hb hm
theorem XO(G:Good CX S Γ X)(ha:PE X a (af Γ ra))(hb:PE X b (af Γ rb))(hc:PE X c (af Γ rc))(hm:lastMarks [op,cM] [b,c]=false:=by kernel_rfl):PE X (.Compare a [op,cM] [b,c] p) (af Γ<|.lN op cM ra rb rc):=by
 show PE X _ (sq (cN Γ.K op) (cN Γ.K cM) (af Γ ra) (af Γ rb)<|af Γ rc);rw[<-G.K];exact SM (sI G.units op) (sI G.units cM) ha hb hc hm
theorem jR(h:PE X e (af Γ r)):PE X (.BoolOp .And [e] p) (af Γ<|.and [r]):=Gg h
theorem iE(h:PE X e (af Γ r))(t:PE X (.BoolOp .And (e2::es) p) (af Γ<|.and (r2::rs))):PE X (.BoolOp .And (e::e2::es) p) (af Γ<|.and (r::r2::rs)):=RM h t
theorem XQ(h:PE X e (af Γ r)):PE X (.BoolOp .Or [e] p) (af Γ<|.or [r]):=Gg h
theorem XR(h:PE X e (af Γ r))(t:PE X (.BoolOp .Or (e2::es) p) (af Γ<|.or (r2::rs))):PE X (.BoolOp .Or (e::e2::es) p) (af Γ<|.or (r::r2::rs)):=RN h t
theorem Cs(G:Good CX S Γ X)(ha:PE X a (af Γ ra)):PE X (.UnaryOp .Not a p) (af Γ<|.not ra):=by
 show PE X _ (B7 Γ.K<|af Γ ra);rw[<-G.K];exact Xx ha
theorem oI(hc:PT X c (a_ Γ rc))(ha:PE X a (af Γ ra))(hb:PE X b (af Γ rb)):PE X (.IfExp c a b p) (af Γ<|.jm rc ra rb):=RO hc ha hb
theorem XS:PE X (.Dict [] [] p) (af Γ .yJ):=Xg
theorem aj:PA X [] (bw Γ []):=yd
theorem ai(h:PE X e (af Γ r))(t:PA X es (bw Γ rs))(hs:noStar e=true:=by kernel_rfl):PA X (e::es) (bw Γ (r::rs)):=sr h t (fj hs)
theorem aS(G:Good CX S Γ X)(hA:PA X (e::es) (bw Γ (r::rs)))(h:kF S j x=true:=by kernel_rfl)(hn:iC (e::es)=true:=by kernel_rfl)(hq:S.md=0:=by rfl):PE X (.Call (.Name x p) (e::es) [] pos) (af Γ<|.call j (r::rs)):=by
 simp only[kF,zae,decide_eq_true_eq,zaY] at h
 obtain⟨k,f,fd,ps,F,hr,hm,hk,hb⟩:=G.fns hq j x h.1.1;exact Ts F hr (G.gl h.1.2) hm hk hb .nil G.pass hA h.2 (fj (gT hn).1)<|mU _ _ es (gT hn).2
theorem qw(G:Good CX S Γ X)(hA:PA X (e::es) (bw Γ (r::rs)))(h:kK S j x=true:=by kernel_rfl)(hn:iC (e::es)=true:=by kernel_rfl)(hq:S.md=0:=by rfl):PE X (.Call (.Name x p) (e::es) [] pos) (af Γ<|.make j (r::rs)):=by
 simp only[kK,zae,decide_eq_true_eq,zaY] at h
 obtain⟨k,f,fd,ps,M,F,hr,hm,hb⟩:=G.qt hq j x h.1.1;exact Tu M F hr (G.gl h.1.2) hm hb .nil G.pass hA h.2 (fj (gT hn).1)<|mU _ _ es (gT hn).2
theorem cp{t:mS}(G:Good CX S Γ X)(hA:PA X (e::es) (bw Γ (r::rs)))(h:kB S x t.nm=true:=by kernel_rfl)(hn:iC (e::es)=true:=by kernel_rfl)(hq:S.md=0:=by rfl):PE X (.Call (.Name x p) (e::es) [] pos) (af Γ<|.blt t (r::rs)):=by
 simp only[kB,zae,decide_eq_true_eq] at h
 obtain⟨⟨rfl,h2⟩,h3⟩:=h;have n1:t.nm≠"__name__":=by cases t<;>decide
 have n2:(t.nm==("__debug__":Str))=false:=by cases t<;>decide
 show PE X _ (jN (ou Γ.K t)<|bw Γ (r::rs));rw[<-G.K];cases Xh (G.calm hq) t with
 |fn id hv hc=>exact G8 hc (G.gl h2) (G.iZ _ h3) hv hA n1 n2 (fj (gT hn).1) (mU _ _ es (gT hn).2)
 |ty T hv hc=>exact G9 hc (G.gl h2) (G.iZ _ h3) hv hA n1 n2 (fj (gT hn).1) (mU _ _ es (gT hn).2)
theorem kz{T:Ty}{y:Str}(G:Good CX S Γ X)(ha:PE X a (af Γ ra))(h:kB S x "isinstance"=true:=by kernel_rfl)(h2:kB S y (Str.ofString T.nm)=true:=by kernel_rfl)(hs:noStar a=true:=by kernel_rfl):PE X (.Call (.Name x p) [a,.Name y q] [] pos) (af Γ<|.gA T ra):=by
 simp only[kB,zae,decide_eq_true_eq] at h h2
 obtain⟨⟨rfl,g2⟩,g3⟩:=h;obtain⟨⟨rfl,k2⟩,k3⟩:=h2;exact Xs ha hs (G.gl g2) (G.iZ _ g3) (G.gl k2)<|G.iZ _ k3
theorem XT{o:Expr}{ro:RE}{ap:Pos}(G:Good CX S Γ X)(ho:PE X o (af Γ ro))(h:kM o m.nm x 0 ap pos=true:=by kernel_rfl):PE X (.Call (.Attribute o x ap) [] [] pos) (af Γ<|.bK m ro []):=by
 simp only[kM,zae,decide_eq_true_eq] at h
 obtain⟨⟨⟨rfl,h2⟩,h3⟩, -⟩:=h;show PE X _ (sM Γ.K m (af Γ ro) jM);rw[<-G.K];exact Xz ho h2 h3
theorem cO{m:iW}{o:Expr}{ro:RE}{ap:Pos}(G:Good CX S Γ X)(ho:PE X o (af Γ ro))(hA:PA X (e::es) (bw Γ (r::rs)))(h:kM o m.nm x (es.length+1) ap pos=true:=by kernel_rfl)(hn:iC (e::es)=true:=by kernel_rfl):PE X (.Call (.Attribute o x ap) (e::es) [] pos) (af Γ<|.bK m ro (r::rs)):=by
 simp only[kM,zae,decide_eq_true_eq] at h
 obtain⟨⟨⟨rfl,h2⟩,h3⟩,h4⟩:=h;show PE X _ (sM Γ.K m (af Γ ro)<|bw Γ (r::rs));rw[<-G.K];exact Xy ho hA h2 h3 h4 (fj (gT hn).1) (mU _ _ es (gT hn).2)<|yS _ _ (e::es) hn
theorem bf{ro:RE}(G:Good CX S Γ X)(ho:PE X a (af Γ ro))(h:oB a=true:=by kernel_rfl):PE X (.Attribute a f p) (af Γ<|.fld ro f):=by
 show PE X _ (yb Γ.K (af Γ ro) f);rw[<-G.K];exact Tn ho<|oo h
theorem dr{o:Expr}{ro:RE}{ap:Pos}(G:Good CX S Γ X)(ho:PE X o (af Γ ro))(h:(kM o m m 0 ap pos && decide (S.mn[j]?=some m))=true:=by kernel_rfl)(hq:S.md=0:=by rfl):PE X (.Call (.Attribute o m ap) [] [] pos) (af Γ<|.aR j m ro []):=by
 simp only[kM,zae,decide_eq_true_eq] at h
 obtain⟨⟨⟨⟨-,h2⟩,h3⟩, -⟩,h5⟩:=h;exact XC (G.oF hq j _ h5) G.pass ho h2 h3
theorem eh{o:Expr}{ro:RE}{ap:Pos}(G:Good CX S Γ X)(ho:PE X o (af Γ ro))(hA:PA X (e::es) (bw Γ (r::rs)))(h:(kM o m m (es.length+1) ap pos && decide (S.mn[j]?=some m))=true:=by kernel_rfl)(hn:iC (e::es)=true:=by kernel_rfl)(hq:S.md=0:=by rfl):PE X (.Call (.Attribute o m ap) (e::es) [] pos) (af Γ<|.aR j m ro (r::rs)):=by
 simp only[kM,zae,decide_eq_true_eq] at h
 obtain⟨⟨⟨⟨-,h2⟩,h3⟩,h4⟩,h5⟩:=h;exact XB (G.oF hq j _ h5) G.pass ho hA h2 h3 h4 (fj (gT hn).1) (mU _ _ es (gT hn).2)<|yS _ _ (e::es) hn
theorem XU(h:vv b=true):Hj b:=λo i=>by cases b<;>first|rfl|cases h
theorem aJ(G:Good CX S Γ X)(ha:PE X a (af Γ ra))(hb:PE X b (af Γ rb))(h:vv b=true:=by kernel_rfl):PE X (.Subscript a b p) (af Γ<|.ix ra rb):=by
 show PE X _ (fO (oy Γ.K Γ.sd) (af Γ ra)<|af Γ rb);rw[<-G.K];exact TY (Xm G.oE) ha hb<|XU h
theorem XW(h:vv b=true):BQ b:=λov iv=>by cases b<;>first|rfl|cases h
theorem eU(G:Good CX S Γ X)(ha:PE X a (af Γ ra))(hb:PE X b (af Γ rb))(h:vv b=true:=by kernel_rfl):PE X (.Subscript a b p) (af Γ<|.dc ra rb):=
 U3 (by have:=G.units;lia) ha hb (XW h)
theorem XX(G:Good CX S Γ X)(ha:PE X a (af Γ ra))(hb:PE X b (af Γ rb))(hm:behindInMarks .In b=false:=by kernel_rfl):PT X (.Compare a [.In] [b] p) (a_ Γ<|.ve ra rb):=
 F_ (U4 (by have:=G.units;lia) ha hb) hm
theorem XY(G:Good CX S Γ X)(ha:PE X a (af Γ ra))(hb:PE X b (af Γ rb))(hm:behindInMarks .NotIn b=false:=by kernel_rfl):PT X (.Compare a [.NotIn] [b] p) (a_ Γ<|.vg ra rb):=
 F_ (U5 (by have:=G.units;lia) ha hb) hm
theorem kA{lo hi:Option Expr}{rl rh:Option RE}(G:Good CX S Γ X)(ha:PE X a (af Γ ra))(hl:PO X lo (oz Γ rl))(hh:PO X hi (oz Γ rh)):PE X (.Subscript a (.Slice lo hi none q) p) (af Γ<|.sl ra rl rh):=by
 show PE X _ (BA (sN Γ.K) (af Γ ra) (oz Γ rl)<|oz Γ rh);rw[<-G.K];exact TR Xv ha hl hh
theorem yV:PO X none (oz Γ none):=TN
theorem gE(ha:PE X a (af Γ ra)):PO X (some a) (oz Γ<|some ra):=TQ ha
theorem dQ(hA:PA X es (bw Γ rs)):PE X (.Tuple es k p) (af Γ<|.tup rs):=Tq hA
theorem cE(hA:PA X es (bw Γ rs)):PE X (.List es p) (af Γ<|.lst rs):=Tr hA
def yW(CX:cU)(S:df)(Γ:aV)(cond:Option RE)(ifs:List Expr):Prop:=match cond with
 |none=>ifs=[]
 |some r=>∃e0,ifs=[e0]/\∀X,Good CX S Γ X->PT X e0 (a_ Γ r)
theorem qx:yW CX S Γ none []:=rfl
theorem Ct(h:∀X,Good CX S Γ X->PT X e (a_ Γ r)):yW CX S Γ (some r) [e]:=⟨e,rfl,h⟩
def kC(S:df)(tk:Option Nat)(tg iter:Expr)(sc:Scope)(k:IK)(ln:List Str)(fv:List (Str×Nat)):Bool:=decide (Cb tk tg=some ln) && (decide (k≠ .zip)||tk.isSome) && Cc S ⟨.Constant .none 0 ⟨0,0,0,0⟩,tg,iter,[],sc⟩ ln fv
abbrev cS(S:df)(sc:Scope)(ln:List Str)(fv:List (Str×Nat)):df:={S with N:=ln++fv.map (·.1),sc:=Ca sc S.sc,en:=[],md:=if S.md=0 then 0 else 2}
theorem qy{k:IK}{ao:List RE}{cond:Option RE}{elt:RE}{el tg iter:Expr}{ifs:List Expr}{sc:Scope}{ln:List Str}(G:Good CX S Γ X)(h:kC S tk tg iter sc k ln fv=true)(hi:PI X tg iter (jn Γ k ao))
  (hc:yW CX (cS S sc ln fv) Γ.calm cond ifs) (he:∀X,Good CX (cS S sc ln fv) Γ.calm X->PE X el (af Γ.calm elt)) (hq:S.md=0:=by rfl):PE X (.ListComp el [⟨tg,iter,ifs,0⟩] sc p) (af Γ<|.comp tk fv k ao cond elt):=by
 simp only[kC,zae,decide_eq_true_eq] at h
 obtain⟨⟨h1,h2⟩,h3⟩:=h;obtain⟨o1,o2,o3,o4⟩:=IW G h3;show PE X _ (ql Γ.K (jn Γ k ao) tk fv (yL Γ.calm cond)<|af Γ.calm elt);rw[<-G.K];refine VD o1 (G.calm hq) hi (IX (G.calm hq) h1 o2 o3) ?_ (λex C s H=>he _<|G.inner ⟨.Constant .none 0 ⟨0,0,0,0⟩,tg,iter,[],sc⟩ ln fv ex C s H)<|yR o4;cases cond with
 |none=>exact hc
 |some r=>
  obtain⟨e0,q,hq⟩:=hc;exact⟨e0,q,λex C s H=>hq _<|G.inner ⟨.Constant .none 0 ⟨0,0,0,0⟩,tg,iter,[],sc⟩ ln fv ex C s H⟩
theorem dF(h:PT X a (a_ Γ ra)):PT X (.UnaryOp .Not a p) (a_ Γ<|.not ra):=RL h
theorem sY(h:PT X e (a_ Γ r)):PW X (.BoolOp .And [e] p) (a_ Γ<|.and [r]):=pw_and1 h
theorem sZ(h:PT X e (a_ Γ r))(t:PW X (.BoolOp .And (e2::es) p) (a_ Γ<|.and (r2::rs))):PW X (.BoolOp .And (e::e2::es) p) (a_ Γ<|.and (r::r2::rs)):=pw_and h t
theorem kD(h:PT X e (a_ Γ r)):PW X (.BoolOp .Or [e] p) (a_ Γ<|.or [r]):=pw_or1 h
theorem iG(h:PT X e (a_ Γ r))(t:PW X (.BoolOp .Or (e2::es) p) (a_ Γ<|.or (r2::rs))):PW X (.BoolOp .Or (e::e2::es) p) (a_ Γ<|.or (r::r2::rs)):=pw_or h t
theorem aT(G:Good CX S Γ X)(ha:PE X a (af Γ ra))(hb:PE X b (af Γ rb))(hm:behindInMarks op b=false:=by kernel_rfl):PT X (.Compare a [op] [b] p) (a_ Γ<|.cmp op ra rb):=by
 show PT X _ (n_<|fO (cN Γ.K op) (af Γ ra)<|af Γ rb);rw[<-G.K];exact SK (sI G.units op) ha hb hm
theorem XZ(G:Good CX S Γ X)(ha:PE X a (af Γ ra))(hb:PE X b (af Γ rb))(hc:PE X c (af Γ rc))(hm:lastMarks [op,cM] [b,c]=false:=by kernel_rfl):PT X (.Compare a [op,cM] [b,c] p) (a_ Γ<|.lN op cM ra rb rc):=by
 show PT X _ (n_<|sq (cN Γ.K op) (cN Γ.K cM) (af Γ ra) (af Γ rb)<|af Γ rc);rw[<-G.K];exact SN (sI G.units op) (sI G.units cM) ha hb hc hm
theorem X0(G:Good CX S Γ X)(h:PE X (.Name x p) (af Γ<|.v i)):PT X (.Name x p) (a_ Γ<|.v i):=by
 show PT X _ (gB Γ.K<|af Γ<|.v i);rw[<-G.K];exact vp h λ_=>rfl
theorem fY(G:Good CX S Γ X)(h:PE X (.Call a es [] p) (af Γ<|.call j rs)):PT X (.Call a es [] p) (a_ Γ<|.call j rs):=by
 show PT X _ (gB Γ.K<|af Γ<|.call j rs);rw[<-G.K];exact vp h λ_=>rfl
theorem vw(G:Good CX S Γ X)(h:PE X (.Call a es [] p) (af Γ<|.gA T ra)):PT X (.Call a es [] p) (a_ Γ<|.gA T ra):=by
 exact vp h λ_=>rfl
theorem X1{ro:RE}(G:Good CX S Γ X)(h:PE X (.Call a es [] p) (af Γ<|.bK m ro rs)):PT X (.Call a es [] p) (a_ Γ<|.bK m ro rs):=by
 show PT X _ (gB Γ.K<|af Γ<|.bK m ro rs);rw[<-G.K];exact vp h λ_=>rfl
theorem Cu{ro:RE}(G:Good CX S Γ X)(h:PE X (.Call a es [] p) (af Γ<|.aR j m ro rs)):PT X (.Call a es [] p) (a_ Γ<|.aR j m ro rs):=by
 show PT X _ (gB Γ.K<|af Γ<|.aR j m ro rs);rw[<-G.K];exact vp h λ_=>rfl
theorem gU(G:Good CX S Γ X)(ha:PE X a (af Γ ra)):PI X tg a (jn Γ .list [ra]):=by
 show PI X tg a (Bn Γ.K<|af Γ ra);rw[<-G.K];exact R_ ha
theorem qz{tg:Expr}(G:Good CX S Γ X)(ha:PE X a (af Γ ra))(h:kB S x "range"=true:=by kernel_rfl)(hs:noStar a=true:=by kernel_rfl):PI X tg (.Call (.Name x p) [a] [] pos) (jn Γ .fA [ra]):=by
 simp only[kB,zae,decide_eq_true_eq] at h
 obtain⟨⟨rfl,h2⟩,h3⟩:=h;exact Sa (G.gl h2) (G.iZ _ h3) (sr ha yd<|fj hs)<|fj hs
theorem Jc{tg:Expr}(G:Good CX S Γ X)(ha:PE X a (af Γ ra))(hb:PE X b (af Γ rb))(h:kB S x "range"=true:=by kernel_rfl)(hs:noStar a=true:=by kernel_rfl)(ko:noStar b=true:=by kernel_rfl):PI X tg (.Call (.Name x p) [a,b] [] pos) (jn Γ .sJ [ra,rb]):=by
 simp only[kB,zae,decide_eq_true_eq] at h
 obtain⟨⟨rfl,h2⟩,h3⟩:=h;exact Sb (G.gl h2) (G.iZ _ h3) (sr ha (sr hb yd<|fj ko)<|fj hs) (by rw[fj hs,fj ko];rfl)<|fj ko
end
section
variable {CX:cU}{S:df}{Γ:aV}{X:Cx}{e a b c v:Expr}{es:List Expr}{x:Str}{p q pos:Pos}{r ra rb rc:RE}{i j:Nat}{st:Stmt}{Jd:List Stmt}{s:RS}{ss t u:List RS}
theorem Cv{t:Option Expr}{l:Nat}{env:Env}(h:yT v=true):swapsWith v t l env=pure false:=by
 cases v<;>first|rfl|cases h
theorem X3{x:Str}{p:Pos}{l:Nat}{env:Env}(h:env.kindOf x=some .cell):swapsWith v (some<|.Name x p) l env=pure false:=by
 cases v<;>first
  |rfl
  |(unfold swapsWith;simp only[h];have q:(some NameKind.cell==some NameKind.local)=false:=rfl;simp only[q,Bool.and_false,Bool.false_and])
theorem Je{i:Expr}{p:Pos}{l:Nat}{env:Env}:swapsWith v (some<|.Subscript o i p) l env=pure false:=by
 cases v<;>rfl
theorem X4{i:Expr}{p:Pos}{env:Env}:swappedStores [.Subscript o i p] v env=pure none:=rfl
theorem d2.name(G:d2 CX S Γ X)(h:kL S i x=true):PG X (.Name x p) (fB i):=by
 simp only[kL,zae,decide_eq_true_eq] at h
 exact xW (G.N▸G.nd) (G.N▸h.1) (G.sc▸B_ h.2)<|.inl<|G.oH x
theorem aq:eE X [] (aE Γ []):=Gj
theorem ah(h:PS X st (ee Γ s))(t:eE X Jd (aE Γ ss)):eE X (st::Jd) (aE Γ (s::ss)):=RT h t
theorem aP(G:d2 CX S Γ X)(he:PE X v (af Γ r))(h:kL S i x=true:=by kernel_rfl)(hc:(yT v ||decide (S.sc.names.lookup x=some .cell))=true:=by kernel_rfl):PS X (.Assign [.Name x p] v q) (ee Γ<|.asg i r):=by
 simp only[kL,zae,decide_eq_true_eq,Bool.or_eq_true] at h hc
 refine R4 (G.N▸G.nd) (G.N▸h.1) (G.sc▸B_ h.2) he ?_<|.inl<|G.oH x
 rcases hc with h4|h4
 ·exact Cv h4
 ·exact X3 (by show X.env.scope.names.lookup x=_;rw[G.sc];exact h4)
theorem Cw{k:IK}{ao:List RE}{cond:Option RE}{elt:RE}{el tg iter:Expr}{ifs:List Expr}{sc:Scope}{ln:List Str}{pc:Pos}(G:d2 CX S Γ X)(h0:kL S i x=true)(hs:Jb S.sc x p.line sc pc=true)(h:kC S tk tg iter sc k ln fv=true)(hi:PI X tg iter (jn Γ k ao))
  (hc:yW CX (cS S sc ln fv) Γ.calm cond ifs) (he:∀X,Good CX (cS S sc ln fv) Γ.calm X->PE X el (af Γ.calm elt)) (hq:S.md=0:=by rfl):PS X (.Assign [.Name x p] (.ListComp el [⟨tg,iter,ifs,0⟩] sc pc) q) (ee Γ<|.sL i<|.comp tk fv k ao cond elt):=by
 simp only[kC,kL,Jb,zae,decide_eq_true_eq,beq_iff_eq,zaY] at h h0 hs
 obtain⟨⟨h1,h2⟩,h3⟩:=h;obtain⟨o1,o2,o3,o4⟩:=IW G.toGood h3;show PS X _ (lH (ql Γ.K (jn Γ k ao) tk fv (yL Γ.calm cond)<|af Γ.calm elt)<|fB i);rw[<-G.K];refine VE (G.N▸G.nd) (G.N▸h0.1) (G.sc▸B_ h0.2) ?_ o1 (G.calm hq) hi (IX (G.calm hq) h1 o2 o3) ?_ (λex C s H=>he _<|G.toGood.inner ⟨.Constant .none 0 ⟨0,0,0,0⟩,tg,iter,[],sc⟩ ln fv ex C s H) (yR o4)<|.inl<|G.oH x
 ·have e1:X.env.kindOf x=some .local:=by show X.env.scope.names.lookup x=_;rw[G.sc];exact hs.1.1.2
  have e2:X.env.blockKind=.function:=by unfold Env.blockKind;rw[G.sV];rfl
  unfold swapsWith
  simp only[e1,e2,hs.1.2,hs.2]
  show pure (true && true && (pc.line==pc.line) && !false)=pure true;rw[beq_self_eq_true];rfl
 ·cases cond with
  |none=>exact hc
  |some r=>
   obtain⟨e0,q,hq⟩:=hc;exact⟨e0,q,λex C s H=>hq _<|G.toGood.inner ⟨.Constant .none 0 ⟨0,0,0,0⟩,tg,iter,[],sc⟩ ln fv ex C s H⟩
theorem qA(he:PE X v (af Γ r))(ha:PE X a (af Γ ra))(hb:PE X b (af Γ rb))(h:vv b=true:=by kernel_rfl):PS X (.Assign [.Subscript a b p] v q) (ee Γ<|.set ra rb r):=
 R3 he (R1 ha hb set_list (by intro w;cases b<;>first|rfl|cases h)) (by exact Je (o:=a) (i:=b) (p:=p) (l:=q.line) (env:=X.env)) X4 rfl
theorem s_(G:d2 CX S Γ X)(he:PE X v (af Γ r))(ha:PE X a (af Γ ra))(hb:PE X b (af Γ rb)):PS X (.Assign [.Subscript a b p] v q) (ee Γ<|.dput ra rb r):=
 U6 (by have:=G.toGood.units;lia) ha hb he (by exact Je)
theorem cH(G:d2 CX S Γ X)(ho:PE X a (af Γ ra))(he:PE X v (af Γ r))(h:yT v=true:=by kernel_rfl):PS X (.Assign [.Attribute a f p] v q) (ee Γ<|.bT ra f r):=by
 show PS X _ (yc Γ.K (af Γ ra) (af Γ r) f);rw[<-G.K];exact GX ho he<|Cv h
theorem cq(he:PE X v (af Γ r))(h:yT v=true:=by kernel_rfl):PS X (.Expr v p) (ee Γ<|.drop r):=RW he (Cv h)
theorem aY(he:PE X v (af Γ r)):PS X (.Return (some v) p) (ee Γ<|.ret r):=RX he
theorem aX(hc:PT X c (a_ Γ rc))(ha:eE X as (aE Γ t))(hb:eE X bs (aE Γ u)):PS X (.If c as bs p) (ee Γ<|.ite rc t u):=RZ hc ha hb
theorem yX(G:d2 CX S Γ X)(hc:PT X c (a_ Γ rc))(ha:eE X as (aE Γ t)):PS X (.While c as [] p) (ee Γ<|.qq rc t):=R5 G.own hc ha
theorem mW{iter:Expr}{as:List Stmt}(G:d2 CX S Γ X)(hi:PI X (.Name x p) iter (jn Γ k ao))(ha:eE X as (aE Γ t))(h:kL S i x=true:=by kernel_rfl)(hs:vi iter=true:=by kernel_rfl)(hq:S.md=0:=by rfl):PS X (.For (.Name x p) iter as [] q) (ee Γ<|.iA i k ao t):=
 GF G.own (G.calm hq) hi (G.name h) ha (yR hs)
theorem Jf(G:d2 CX S Γ X):∀(is:List Nat) (xs:List (Str×Pos)),sU S.N S.sc is (xs.map (·.1))=true->
  sh X (xs.map λy=>.Name y.1 y.2) (oG is)/\(assignEach (xs.map λy=>Expr.Name y.1 y.2) X.env).length=is.length/\(assignEach (xs.map λy=>Expr.Name y.1 y.2) X.env).findIdx? (·.1)=none
 |[],xs,h=>by
  simp only[sU,List.isEmpty_iff,List.map_eq_nil_iff] at h
  subst h;exact⟨Gr,rfl,rfl⟩
 |i::r,[],h=>by cases h
 |i::r,y::t,h=>by
  simp only[zat,sU,zae] at h
  obtain⟨i1,i2,i3⟩:=Jf G r t h.2;refine⟨Bm (G.name (by simp only[kL,zae];exact h.1)) i1 rfl,?_,?_⟩
  ·show(assignEach _ X.env).length+1=r.length+1;rw[i2]
  ·show List.findIdx? (·.1) ((false,assign (.Name y.1 y.2) X.env)::assignEach _ X.env)=none;rw[List.findIdx?_cons,i3];rfl
theorem qB{k:IK}{ao:List RE}{iter:Expr}{as:List Stmt}{kt}{tp:Pos}(xs:List (Str×Pos))(G:d2 CX S Γ X)(hi:PI X (.Tuple (xs.map λy=>.Name y.1 y.2) kt tp) iter (jn Γ k ao))(ha:eE X as (aE Γ t))(h:sU S.N S.sc is (xs.map (·.1))=true:=by kernel_rfl)(hs:vi iter=true:=by kernel_rfl)(hq:S.md=0:=by rfl):
  PS X (.For (.Tuple (xs.map λy=>.Name y.1 y.2) kt tp) iter as [] q) (ee Γ<|.lO is k ao t):=by
 obtain⟨i1,i2,i3⟩:=Jf G is xs h;show PS X _ (xY (jn Γ k ao) (qv Γ.K is.length<|oG is)<|aE Γ t);rw[<-G.K];exact GF G.own (G.calm hq) hi (XM (G.calm hq) i1 i2 i3) ha<|yR hs
def kX(S:df)(j:Nat)(x:Str):Bool:=decide (S.en[j]?=some x) && oA S.sc x && !(x==("__debug__":Str))
theorem fF{np d5:Pos}(G:d2 CX S Γ X)(hA:PA X (e::es) (bw Γ (r::rs)))(h:kX S j x=true:=by kernel_rfl)(hn:iC (e::es)=true:=by kernel_rfl)(hq:S.md=0:=by rfl):PS X (.Raise (some<|.Call (.Name x np) (e::es) [] d5) none pos) (ee Γ<|.eR j (r::rs)):=by
 simp only[kX,zae,decide_eq_true_eq,zaY] at h
 obtain⟨bm,B,newId,sP,O,FB⟩:=G.vn j x h.1.1;exact WO (G.calm hq) O FB (G.gl h.1.2) h.2 hA (fj (gT hn).1) (mU _ _ es (gT hn).2)<|G.rs j x h.1.1
abbrev tS(S:df):df:={S with en:=[]}
abbrev hS(S:df):df:={S with en:=[],md:=2}
theorem d2.X5(G:d2 CX S Γ X)(pn:List (Addr×Obj))(xe:Value->Shared->Prop)(E:XK)(ho:PassesOwn (model X.prog X.w) X.A X.env xe)(hp:Passes (gC X.prog X.w) (X.alt X.A X.calm pn xe) E):
  d2 CX (tS S) {Γ with E:=E} (X.alt X.A X.calm pn xe):=
 {N:=G.N,sc:=G.sc,K:=G.K,calm:=G.calm,units:=G.units,gd:=G.gd,fns:=G.fns,fh:=G.fh,iZ:=G.iZ,pass:=G.sX▸hp,mT:=G.mT,oE:=G.oE,oF:=G.oF,qt:=G.qt,
  vn:=λ_ _ h=>(by simp at h),qu:=G.qu,sR:=G.sR,vo:=G.vo,nd:=G.nd,oH:=G.oH,own:=ho,sV:=G.sV,rs:=λ_ _ h=>(by simp at h),ka:=G.ka,iB:=G.iB,sW:=G.sW,sX:=G.sX}
theorem d2.held(G:d2 CX S Γ X)(ea:Addr)(pn:List (Addr×Obj)):
  d2 CX (hS S) {Γ with E:=E0,hv:=some ea} (X.alt (X.A.mark<|some<|.ref ea) false pn λ_ _=>False):=
 {N:=G.N,sc:=G.sc,K:=G.K,calm:=λh=>(nomatch h),units:=G.units,gd:=G.gd,fns:=λh=>(nomatch h),fh:=G.fh,iZ:=G.iZ,pass:=λ_ _ _ _ _ _ _ h=>(G.mT _ _ _ _ _ h).elim,mT:=G.mT,oE:=G.oE,oF:=λh=>(nomatch h),qt:=λh=>(nomatch h),
  vn:=λ_ _ h=>(by simp at h),qu:=λj x h=>(by
   obtain⟨k,f,fd,ps,F,r,m⟩:=G.qu j x h;exact⟨k,f,fd,ps,F,r.mark _,m⟩),
  sR:=λe h=>(by cases h;rfl),vo:=λh=>(nomatch h),nd:=G.nd,oH:=G.oH,own:=PassesOwn.never,sV:=G.sV,rs:=λ_ _ h=>(by simp at h),ka:=G.ka,iB:=G.iB,sW:=G.sW,sX:=G.sX}
theorem X6:PS X (.Continue p) (ee Γ .cont):=RV
end
section
variable {P:Program}{w:World}{K:Frag}{mg:Str->Option Value}{base:Heap}
def lP(P:Program)(w:World)(K:Frag)(mg:Str->Option Value)(base:Heap)(k:Nat)(x:Str)(sp:Sp):Prop:=
 ∃f fd ps,dz P w K mg base (gC P w) k f fd ps sp/\mg x=some (.ref f)/\PySem.W.keepIn K (.ref f)=true/\Binds K fd ps []
theorem lP.mono{x:Str}{sp:Sp}(h:lP P w K mg base j x sp)(hk:j<=k):lP P w K mg base k x sp:=by
 obtain⟨f,fd,ps,F,r⟩:=h;exact⟨f,fd,ps,F.mono hk,r⟩
def oJ(tab:List (Str×Sp))(j:Nat):Sp:=match tab[j]? with
 |some p=>p.2
 |none=>λ_ _ _ _=>False
def yY(tab:List (Str×V))(j:Nat):V:=match tab[j]? with
 |some p=>p.2
 |none=>.au
structure Cy (mg:Str->Option Value) (p:Str×V):Prop where
 ex:∃u,mg p.1=some u/\RelV p.2 u
def lQ(tab:List (Str×Addr×Sp))(j:Nat):Addr×Sp:=match tab[j]? with
 |some p=>p.2
 |none=>(0,λ_ _ _ _=>False)
def yZ(tab:List (Str×Addr))(j:Nat):Addr:=match tab[j]? with
 |some p=>p.2
 |none=>0
abbrev aN(K:Frag)(tab:List (Str×Sp))(gt:List (Str×V))(dk:List (Addr×List (Key×V)):=[])(mt kt:List (Str×Addr×Sp):=[])(et:List (Str×Addr):=[])(ht:List (Str×Sp):=[])(E:XK:=E0):aV:=
 {K:=K,fs:=oJ tab,gv:=yY gt,E:=E,sd:=λp kvs=>(p,kvs)∈dk,ms:=lQ mt,kt:=lQ kt,ex:=yZ et,hs:=oJ ht,hv:=none}
def lR(P:Program)(w:World)(K:Frag)(mg:Str->Option Value)(base:Heap)(k:Nat)(p:Str×Addr×Sp):Prop:=
 eP K p.2.1/\∃f fd ps,Meth K p.2.1 p.1 f/\dz P w K mg base (gC P w) k f fd ps p.2.2/\Binds K fd ps []
def qC(P:Program)(w:World)(K:Frag)(mg:Str->Option Value)(base:Heap)(k:Nat)(p:Str×Addr×Sp):Prop:=
 ∃j f fd ps,j+1<=k/\Mk K p.2.1 f/\dz P w K mg base (gC P w) j f fd ps p.2.2/\mg p.1=some (.ref p.2.1)/\Binds K fd ps []
theorem lR.mono{p:Str×Addr×Sp}(h:lR P w K mg base j p)(hk:j<=k):lR P w K mg base k p:=by
 obtain⟨c,f,fd,ps,m,F,b⟩:=h;exact⟨c,f,fd,ps,m,F.mono hk,b⟩
theorem qC.mono{p:Str×Addr×Sp}(h:qC P w K mg base j p)(hk:j<=k):qC P w K mg base k p:=by
 obtain⟨i,f,fd,ps,m,r⟩:=h;exact⟨i,f,fd,ps,zaq m hk,r⟩
def Jg(P:Program)(w:World)(K:Frag)(q:Addr×List (Key×V)):Prop:= ∀h:Heap,K.In h->∃vs,KV q.2 vs/\h.DictOf (eO P w) q.1 vs
abbrev y3(N:List Str)(sc:Scope)(tab:List Str)(gt:List Str)(bl:List Str)(mn kn:List Str:=[])(en hn:List Str:=[])(md:Nat:=0):df:={N:=N,sc:=sc,fn:=tab,gn:=gt,bl:=bl,mn:=mn,kn:=kn,en:=en,hn:=hn,md:=md}
def y4(mg:Str->Option Value)(base:Heap)(p:Str×Addr):Prop:= ∃bm B newId sP,OwnCls p.1 p.2 bm newId mg base/\ExcBaseFacts B newId sP bm
def Cz(P:Program)(w:World)(K:Frag)(mg:Str->Option Value)(base:Heap)(k:Nat)(x:Str)(sp:Sp):Prop:=
 ∃f fd ps,IQ P w K mg base k f fd ps sp/\mg x=some (.ref f)/\PySem.W.keepIn K (.ref f)=true/\Binds K fd ps []
theorem X7{st:Stmt}{f:Addr}{fd:FuncData}{N ps:List Str}{k:Nat}{sp:Sp}(F:qj K x qual st f fd)(S:uP N ps (gz st))
  (tab:List (Str×Sp)) (gt:List (Str×V)) (bl:List Str) (mt kt:List (Str×Addr×Sp)) (et:List (Str×Addr)) (ht:List (Str×Sp)) (body:List RS)
  (hm:∀{CX:cU}{Γ:aV}{X:Cx},d2 CX (y3 N (gz st) (tab.map (·.1)) (gt.map (·.1)) bl (mt.map (·.1)) (kt.map (·.1)) (et.map (·.1)) (ht.map (·.1))) Γ X->eE X (gQ st) (aE Γ body))
  (CA:∀p∈tab,lP P w K mg base k p.1 p.2) (CC:∀p∈gt,Cy mg p) (CF:∀y∈bl,mg y=none) (dk:List (Addr×List (Key×V))) (CG:∀q∈dk,Jg P w K q)
  (CH:∀p∈mt,lR P w K mg base k p) (CI:∀p∈kt,qC P w K mg base k p) (het:∀p∈et,y4 mg base p) (CJ:∀p∈ht,Cz P w K mg base k p.1 p.2)
  (len:∀vs H Q E,sp vs H Q E->vs.length=ps.length)
  (CK:∀vs H Q E,sp vs H Q E->aE (aN K tab gt dk mt kt et ht E) body {nx:=λ_ H'=>Q .au H',rt:=Q} (start N vs) H):dz P w K mg base (gC P w) (k+1) f fd ps sp:=by
 obtain⟨oc,od,kV,doc,pm,an,bL,ct,ji,rfl,lk,lF⟩:=F.ex;refine Tx lk lF S len λA outer s H vs Q E hr oh=>⟨_,hm (CX:=gC P w) ?_,CK vs H Q E oh⟩;refine {N:=rfl,sc:=rfl,K:=rfl,calm:=λ_=>rfl,units:=hr.units,gd:=hr.gd,fns:=λ_ j y hj=>?_,fh:=λj y hj=>?_,iZ:=λy hy=>?_,pass:=WM,mT:=λ_ _ _ _ _ h=>IL h,oE:=λp kvs h=>CG _ h,oF:=λ_ j y hj=>?_,qt:=λ_ j y hj=>?_,vn:=λj y hj=>?_,qu:=λj y hj=>?_,sR:=λ_ h=>(nomatch h),vo:=λh=>(nomatch h),nd:=S.nd,oH:=λ_=>rfl,own:=PassesOwn.leaving,sV:=S.kind,rs:=λ_ _ _=>WN,ka:=rfl,iB:=rfl,sW:=rfl,sX:=rfl}
 ·have bu:=hj;rw[zan] at bu;cases q:tab[j]? with
  |none=>rw[q] at bu;cases bu
  |some p=>
   rw[q] at bu;have e:=zap bu;obtain⟨f',qD,jS,F',m',k',b'⟩:=CA p (zal q);have es:oJ tab j=p.2:=by unfold oJ;rw[q]
   show IS (gC P w) _ y (oJ tab j);rw[es,<-e];exact⟨k,f',qD,jS,F',hr,m',k',b'⟩
 ·have bu:=hj;rw[zan] at bu;cases q:gt[j]? with
  |none=>rw[q] at bu;cases bu
  |some p=>
   rw[q] at bu;have e:p.1=y:=zap bu;obtain⟨u,h1,h2⟩:=(CC p<|zal q).ex;have es:yY gt j=p.2:=by unfold yY;rw[q]
   show ∃u,mg y=some u/\RelV (yY gt j) u;rw[es,<-e];exact⟨u,h1,h2⟩
 ·exact CF y (by simpa using hy)
 ·have bu:=hj;rw[zan] at bu;cases q:mt[j]? with
  |none=>rw[q] at bu;cases bu
  |some p=>
   rw[q] at bu;have e:p.1=y:=zap bu;obtain⟨c,f',qD,jS,m',F',b'⟩:=CH p (zal q);have es:lQ mt j=p.2:=by unfold lQ;rw[q]
   show yP (gC P w) _ (lQ mt j).1 y (lQ mt j).2;rw[es,<-e];exact⟨c,k,f',qD,jS,m',F',hr,b'⟩
 ·have bu:=hj;rw[zan] at bu;cases q:kt[j]? with
  |none=>rw[q] at bu;cases bu
  |some p=>
   rw[q] at bu;have e:p.1=y:=zap bu;obtain⟨i,f',qD,jS,hi,m',F',g',b'⟩:=CI p (zal q);have es:lQ kt j=p.2:=by unfold lQ;rw[q]
   show IT (gC P w) _ y (lQ kt j).1 (lQ kt j).2;rw[es,<-e];exact⟨i,f',qD,jS,m',F',hr.mono hi,g',b'⟩
 ·have bu:=hj;rw[zan] at bu;cases q:et[j]? with
  |none=>rw[q] at bu;cases bu
  |some p=>
   rw[q] at bu;have e:=zap bu;have es:yZ et j=p.2:=by unfold yZ;rw[q]
   show IV _ y (yZ et j);rw[es,<-e];exact het p<|zal q
 ·have bu:=hj;rw[zan] at bu;cases q:ht[j]? with
  |none=>rw[q] at bu;cases bu
  |some p=>
   rw[q] at bu;have e:p.1=y:=zap bu;obtain⟨f',qD,jS,F',m',k',b'⟩:=CJ p (zal q);have es:oJ ht j=p.2:=by unfold oJ;rw[q]
   show IU _ y (oJ ht j);rw[es,<-e];exact⟨k,f',qD,jS,F',hr.h,m',k',b'⟩
variable {x qual:Str}{st:Stmt}{f:Addr}{fd:FuncData}{N ps:List Str}{k:Nat}{sp:Sp}
theorem dz.top{k:Nat}(F:dz P w K mg base (gC P w) k f fd ps sp):dz P w K mg base uV k f fd ps (λvs H Q _=>sp vs H Q E0):=
 ⟨λvs H Q E h=>F.len vs H Q E0 h,λA outer s H args us vs Q E hr e0 hb hv hs=>codeAny_mono (F.run A outer s H args us vs Q E0 hr e0 hb hv hs) λr s' h=>by
  cases r with
  |error e=>exact(IL h).elim
  |ok fl=>cases fl<;>exact h⟩
end
section
variable {Γ:aV}{D:Ends}{σ:St}{H:Hp}{r:List RS}{Q:VK}
theorem Jh{e:RE}(h:af Γ e σ H λx H1=>aE Γ r D (σ.set i<|some x) H1):aE Γ (.asg i e::r) D σ H:=h
theorem Ji{as:List RE}(h:bw Γ as σ H λvs H1=>ou Γ.K b vs H1 Q):af Γ (.blt b as) σ H Q:=h
theorem Jj{Q:List V->Hp->Prop}(h:af Γ a σ H λx H1=>Q [x] H1):bw Γ [a] σ H Q:=h
end
end L2
variable {H H' H1 H2:L2.Hp}{σ:L2.St}{v:L2.V}{Γ:L2.aV}{a o:L2.RE}{Q:L2.VK}{xs ys vs:List L2.V}{j i n:Nat}{L C z mk:PySem.Addr}{as:List L2.RE}{r:List Nat}{body:List L2.RS}{s y:PySem.Str}{fv:List (PySem.Str×Nat)}{D:L2.Ends}
namespace L2.B
open PySem PySem.Spec PyProof.Rows
def jq:List Str:=["thing"]
noncomputable def Jk:List RS:=
 [.ret<|.and [(.gA .int<|.v 0),(.not<|.gA .bool<|.v 0)]]
def ag:List Str:=[]
def Jl:List Str:=["isinstance","int","bool"]
def CM:List Str:=["thing","words"]
noncomputable def CO:List RS:=
 [.ret<|.and [(.gA .str<|.v 0),(.cmp .In (.v 0)<|.v 1)]]
def Jm:List Str:=["isinstance","str"]
noncomputable def CQ:List RS:=
 [.ret<|.and [(.gA .str<|.v 0),(.cmp .Eq (.bK .lstrip (.v 0) [.g 0])<|.c<|.str "")]]
def X8:List Str:=["SIGNS"]
noncomputable def Jn:List RS:=
 [.ite (.not<|.call 0 [.v 0]) [.eR 0 [(.c<|.str "a text is a str of signs from the blank to the tilde, and line feeds")]] []]
def X9:List Str:=["is_text"]
def X_:List Str:=["BadText"]
noncomputable def y6:List RS:=
 [.ite (.or [(.not (.gA .tuple (.v 0))),(.cmp .NotEq (.blt .len [.v 0]) (.c (.int 2)))]) [.ret (.c (.bl false))] [],
 .ite (.call 0 [(.ix (.v 0)<|.c<|.int 0),(.tup [(.c<|.str "keep")])]) [.ret<|.and [(.call 1 [(.ix (.v 0)<|.c<|.int 1)]),(.cmp .GtE (.ix (.v 0)<|.c<|.int 1)<|.c<|.int 1)]] [],
 .ret (.and [(.call 0 [(.ix (.v 0) (.c (.int 0))),(.tup [(.c (.str "cut")),(.c (.str "put"))])]),(.call 2 [(.ix (.v 0) (.c (.int 1)))]),(.cmp .NotEq (.ix (.v 0) (.c (.int 1))) (.c (.str "")))])]
def Ya:List Str:=["is_word","is_whole","is_text"]
def Jo:List Str:=["isinstance","tuple","len"]
def Jp:List Str:=["word","ahead"]
noncomputable def Jq:List RS:=
 [.ret<|.and [(.cmp .NotEq (.v 0)<|.v 1),(.not<|.and [(.cmp .Eq (.v 1)<|.c<|.str "cut"),(.cmp .Eq (.v 0)<|.c<|.str "put")])]]
def Jr:List Str:=["change","ahead","part"]
noncomputable def Js:List RS:=
 [.ite (.not (.gA .list (.v 0))) [.eR 0 [(.c (.str "a change is a list"))]] [],
 .asg 1 (.c<|.str ""),
 .iA 2 .list [.v 0] [.ite (.not (.call 0 [.v 2])) [.eR 0 [(.c (.str "a part is a keep of 1 sign or more, or a cut or put of a text that is not empty"))]] [],
  .ite (.not<|.call 1 [(.ix (.v 2)<|.c<|.int 0),.v 1]) [.eR 0 [(.c<|.str "neighbours have two words, and no put stands right behind a cut")]] [],
  .asg 1 (.ix (.v 2) (.c (.int 0)))]]
def Yb:List Str:=["is_part","may_follow"]
def Jt:List Str:=["isinstance","list"]
def Ju:List Str:=["BadChange"]
def Jv:List Str:=["part"]
noncomputable def Jw:List RS:=
 [.ret<|.jm (.cmp .Eq (.ix (.v 0)<|.c<|.int 0)<|.c<|.str "keep") (.ix (.v 0)<|.c<|.int 1)<|.blt .len [(.ix (.v 0)<|.c<|.int 1)]]
def jr:List Str:=["len"]
def Jx:List Str:=["change","over","gives"]
noncomputable def Jy:List RS:=
 [.drop (.call 0 [.v 0]),
 .asg 1 (.blt .sum [(.comp none [] .list [.v 0] (some<|.cmp .NotEq (.ix (.v 0)<|.c<|.int 0)<|.c<|.str "put")<|.call 1 [.v 0])]),
 .asg 2 (.blt .sum [(.comp none [] .list [.v 0] (some<|.cmp .NotEq (.ix (.v 0)<|.c<|.int 0)<|.c<|.str "cut")<|.call 1 [.v 0])]),
 .ret (.tup [.v 1,.v 2])]
def Yc:List Str:=["need_change","part_size"]
def Yd:List Str:=["sum"]
def Jz:List Str:=["change","size"]
noncomputable def JA:List RS:=
 [.ite (.and [(.cmp .Gt (.blt .len [.v 0]) (.c (.int 0))),(.cmp .Eq (.ix (.ix (.v 0) (.neg (.c (.int 1)))) (.c (.int 0))) (.c (.str "keep")))]) [.asg 1 (.bin .Add (.v 1) (.ix (.bK .pop (.v 0) []) (.c (.int 1))))] [],
 .drop (.bK .append (.v 0) [(.tup [(.c (.str "keep")),.v 1])])]
def JB:List Str:=["change","puts","cuts","put","cut"]
noncomputable def JC:List RS:=
 [.asg 3 (.bK .join (.c (.str "")) [.v 1]),
 .asg 4 (.bK .join (.c<|.str "") [.v 2]),
 .ite (.cmp .NotEq (.v 3)<|.c<|.str "") [.drop<|.bK .append (.v 0) [(.tup [(.c<|.str "put"),.v 3])]] [],
 .ite (.cmp .NotEq (.v 4) (.c (.str ""))) [.drop (.bK .append (.v 0) [(.tup [(.c (.str "cut")),.v 4])])] []]
def JD:List Str:=["parts","change","puts","cuts","word","what"]
noncomputable def JE:List RS:=
 [.asg 1 (.lst []),
 .asg 2 (.lst []),
 .asg 3 (.lst []),
 .lO [4,5] .list [.v 0] [.ite (.cmp .Eq (.v 4) (.c (.str "put"))) [.drop (.bK .append (.v 2) [.v 5])] [.ite (.cmp .Eq (.v 4) (.c (.str "cut"))) [.drop (.bK .append (.v 3) [.v 5])] [.ite (.cmp .Gt (.v 5) (.c (.int 0))) [.drop (.call 0 [.v 1,.v 2,.v 3]),
     .asg 2 (.lst []),
     .asg 3 (.lst []),
     .drop (.call 1 [.v 1,.v 5])] []]]],
 .drop (.call 0 [.v 1,.v 2,.v 3]),
 .ret (.v 1)]
def Ye:List Str:=["add_texts","add_keep"]
def JF:List Str:=["text","change","place","pieces","word","what"]
noncomputable def JG:List RS:=
 [.drop (.call 0 [.v 0]),
 .ite (.cmp .NotEq (.ix (.call 1 [.v 1])<|.c<|.int 0)<|.blt .len [.v 0]) [.eR 0 [(.c<|.str "the change is over a text of another number of signs")]] [],
 .asg 2 (.c<|.int 0),
 .asg 3 (.lst []),
 .lO [4,5] .list [.v 1] [.ite (.cmp .Eq (.v 4) (.c (.str "put"))) [.drop (.bK .append (.v 3) [.v 5])] [.ite (.cmp .Eq (.v 4) (.c (.str "keep"))) [.drop (.bK .append (.v 3) [(.sl (.v 0) (some (.v 2)) (some (.bin .Add (.v 2) (.v 5))))]),
    .asg 2 (.bin .Add (.v 2) (.v 5))] [.ite (.not (.bK .starts (.v 0) [.v 5,.v 2])) [.eR 0 [(.c (.str "what is cut is not what stands there"))]] [.asg 2 (.bin .Add (.v 2) (.blt .len [.v 5]))]]]],
 .ret (.bK .join (.c (.str "")) [.v 3])]
def Yf:List Str:=["need_text","sizes"]
def vx:List Str:=["BadFit"]
def JH:List Str:=["_law_script","_law_k"]
noncomputable def JI:List RS:=
 [.ite (.cmp .Lt (.v 1) (.blt .len [.v 0])) [.ret (.ix (.v 0) (.v 1))] [],
 .ret (.c (.int 0))]
def JJ:List Str:=["_law_cell","_law_k","_law_number"]
noncomputable def JK:List RS:=
 [.asg 2 (.bin .Mod (.bin .Add (.bin .Add (.bin .Mult (.v 0) (.c (.int 48271))) (.bin .Mult (.c (.int 7919)) (.v 1))) (.c (.int 11))) (.c (.int 1000003))),
 .ret (.bin .Mod (.bin .Mult (.bin .Mod (.bin .Mult (.v 2) (.v 2)) (.c (.int 1000003))) (.v 2)) (.c (.int 1000003)))]
def CT:List Str:=["_law_cell","_law_size_here","_law_some"]
noncomputable def JL:List RS:=
 [.asg 2 (.c (.str " !\"#$&'()*+,-./0123456789:;<=>?@ABCDEFGHIJKLMNOPQRSTUVWXYZ[\\]^_`")),
 .asg 2 (.bin .Add (.v 2)<|.c<|.str "abcdefghijklmnopqrstuvwxyz{|}~\n"),
 .ite (.cmp .Eq (.bin .Mod (.v 0)<|.c<|.int 3)<|.c<|.int 0) [.asg 2<|.c<|.str "ab\n"] [],
 .ret (.bK .join (.c (.str "")) [(.comp none [("_law_some",2),("_law_cell",0)] .fA [.v 1] none (.ix (.v 1) (.bin .Mod (.bin .FloorDiv (.call 0 [.v 2,.v 0]) (.c (.int 7))) (.blt .len [.v 1]))))])]
def Yg:List Str:=["_law_mixed"]
def Yh:List Str:=["range","len"]
def CU:List Str:=["_law_cell","_law_text_here","_law_many","_law_parts_here","_law_at","_law_k","_law_number","_law_size_here","_law_left"]
noncomputable def JM:List RS:=
 [.asg 3 (.lst []),
 .asg 4 (.c<|.int 0),
 .iA 5 .fA [.v 2] [.asg 6 (.call 0 [.v 0,(.bin .Add (.c (.int 50)) (.v 5))]),
  .asg 7 (.ix (.lst [(.c<|.int 1),(.c<|.int 2),(.c<|.int 0),(.c<|.int 3),(.c<|.int 5),(.c<|.int 40)])<|.bin .Mod (.bin .FloorDiv (.v 6)<|.c<|.int 4)<|.c<|.int 6),
  .asg 8 (.blt .min [.v 7,(.bin .Sub (.blt .len [.v 1])<|.v 4)]),
  .ite (.cmp .Eq (.bin .Mod (.v 6)<|.c<|.int 4)<|.c<|.int 3) [.drop<|.bK .append (.v 3) [(.tup [(.c<|.str "put"),(.call 1 [.v 6,.v 7])])]] [.ite (.cmp .Eq (.bin .Mod (.v 6)<|.c<|.int 4)<|.c<|.int 2) [.drop<|.bK .append (.v 3) [(.tup [(.c<|.str "cut"),(.sl (.v 1) (some<|.v 4)<|some<|.bin .Add (.v 4)<|.v 8)])]] [.drop<|.bK .append (.v 3) [(.tup [(.c<|.str "keep"),.v 8])]]],
  .ite (.cmp .Lt (.bin .Mod (.v 6) (.c (.int 4))) (.c (.int 3))) [.asg 4 (.bin .Add (.v 4) (.v 8))] []],
 .ret (.bin .Add (.v 3) (.lst [(.tup [(.c (.str "keep")),(.bin .Sub (.blt .len [.v 1]) (.v 4))])]))]
def Yi:List Str:=["_law_mixed","_law_text"]
def Yj:List Str:=["range","min","len"]
def JN:List Str:=["_law_parts_here","_law_rows","_law_word","_law_thing","_law_found","_law_put","_law_cut","_law_keep","_law_some"]
noncomputable def JO:List RS:=
 [.asg 1 (.lst [(.lst [(.c (.str "")),(.c (.str "")),(.c (.int 0))])]),
 .lO [2,3] .list [.v 0] [.ite (.cmp .Eq (.v 2) (.c (.str "keep"))) [.set (.ix (.v 1) (.neg (.c (.int 1)))) (.c (.int 2)) (.bin .Add (.ix (.ix (.v 1) (.neg (.c (.int 1)))) (.c (.int 2))) (.v 3))] [.ite (.cmp .NotEq (.v 3) (.c (.str ""))) [.ite (.cmp .Gt (.ix (.ix (.v 1) (.neg (.c (.int 1)))) (.c (.int 2))) (.c (.int 0))) [.drop (.bK .append (.v 1) [(.lst [(.c (.str "")),(.c (.str "")),(.c (.int 0))])])] [],
    .set (.ix (.v 1) (.neg (.c (.int 1)))) (.blt .int [(.cmp .Eq (.v 2) (.c (.str "cut")))]) (.bin .Add (.ix (.ix (.v 1) (.neg (.c (.int 1)))) (.blt .int [(.cmp .Eq (.v 2) (.c (.str "cut")))])) (.v 3))] []]],
 .asg 4 (.lst []),
 .lO [5,6,7] .list [.v 1] [.asg 8 (.lst [(.tup [(.c (.str "put")),.v 5]),(.tup [(.c (.str "cut")),.v 6]),(.tup [(.c (.str "keep")),.v 7])]),
  .asg 4 (.bin .Add (.v 4) (.comp none [] .list [.v 8] (some (.and [(.cmp .NotEq (.ix (.v 0) (.c (.int 1))) (.c (.str ""))),(.cmp .NotEq (.ix (.v 0) (.c (.int 1))) (.c (.int 0)))])) (.v 0)))],
 .ret (.v 4)]
def Yk:List Str:=["int"]
def JP:List Str:=["_law_cell","_law_text_here","_law_many"]
noncomputable def JQ:List RS:=
 [.ret<|.call 0 [(.call 1 [.v 0,.v 1,.v 2])]]
def Yl:List Str:=["_law_neat","_law_parts"]
def CW:List Str:=["_law_text_here","_law_change_here","_law_found_here","_law_at","_law_word_here","_law_thing"]
noncomputable def JR:List RS:=
 [.asg 2 (.c (.str "")),
 .asg 3 (.c<|.int 0),
 .lO [4,5] .list [.v 1] [.ite (.cmp .Eq (.v 4) (.c (.str "put"))) [.asg 2 (.bin .Add (.v 2) (.v 5))] [.ite (.cmp .Eq (.v 4) (.c (.str "cut"))) [.asg 3 (.bin .Add (.v 3) (.blt .len [.v 5]))] [.asg 2 (.bin .Add (.v 2) (.sl (.v 0) (some (.v 3)) (some (.bin .Add (.v 3) (.v 5))))),
    .asg 3 (.bin .Add (.v 3) (.v 5))]]],
 .ret (.v 2)]
def JS:List Str:=["thing","least","most"]
noncomputable def JT:List RS:=
 [.ret<|.and [(.call 0 [.v 0]),(.lN .LtE .LtE (.v 1) (.v 0)<|.v 2)]]
def Ym:List Str:=["is_whole"]
def CY:List Str:=["_law_found_here"]
def JV:List Str:=["self","change"]
noncomputable def JW:List RS:=
 [.bT (.v 0) "parts" (.blt .list [.v 1]),
 .bT (.v 0) "passed_by" (.c<|.int 0),
 .bT (.v 0) "offset" (.c (.int 0))]
def tj:List Str:=["list"]
def ib:List Str:=["self"]
noncomputable def JX:List RS:=
 [.ret<|.jm (.cmp .Lt (.fld (.v 0) "passed_by")<|.blt .len [(.fld (.v 0) "parts")]) (.ix (.ix (.fld (.v 0) "parts")<|.fld (.v 0) "passed_by")<|.c<|.int 0)<|.c<|.str ""]
noncomputable def JY:List RS:=
 [.ret<|.bin .Sub (.call 0 [(.ix (.fld (.v 0) "parts")<|.fld (.v 0) "passed_by")])<|.fld (.v 0) "offset"]
def JZ:List Str:=["part_size"]
def J0:List Str:=["self","size","part","begin","end"]
noncomputable def CZ:List RS:=
 [.asg 2 (.ix (.fld (.v 0) "parts") (.fld (.v 0) "passed_by")),
 .asg 3 (.fld (.v 0) "offset"),
 .asg 4 (.bin .Add (.v 3)<|.v 1),
 .bT (.v 0) "offset" (.v 4),
 .ite (.cmp .Eq (.aR 0 "left" (.v 0) []) (.c (.int 0))) [.bT (.v 0) "passed_by" (.bin .Add (.fld (.v 0) "passed_by") (.c (.int 1))),
  .bT (.v 0) "offset" (.c (.int 0))] [],
 .ret (.tup [(.ix (.v 2) (.c (.int 0))),(.jm (.cmp .Eq (.ix (.v 2) (.c (.int 0))) (.c (.str "keep"))) (.v 1) (.sl (.ix (.v 2) (.c (.int 1))) (some (.v 3)) (some (.v 4))))])]
def Yn:List Str:=["left"]
def J3:List Str:=["walk","putting","keeping","part"]
noncomputable def J4:List RS:=
 [.asg 3 (.aR 0 "take" (.v 0) [(.aR 1 "left" (.v 0) [])]),
 .drop (.bK .append (.v 1) [.v 3]),
 .drop (.bK .append (.v 2) [(.tup [(.c (.str "keep")),(.call 0 [.v 3])])])]
def Yo:List Str:=["take","left"]
def J5:List Str:=["first","second","ones","others"]
noncomputable def J6:List RS:=
 [.ite (.and [(.cmp .Eq (.ix (.v 0) (.c (.int 0))) (.c (.str "cut"))),(.cmp .Eq (.ix (.v 1) (.c (.int 0))) (.c (.str "cut")))]) [.ite (.cmp .NotEq (.ix (.v 0) (.c (.int 1))) (.ix (.v 1) (.c (.int 1)))) [.eR 0 [(.c (.str "both changes cut a sign, and tell it otherwise"))]] []] [.ite (.cmp .Eq (.ix (.v 1) (.c (.int 0))) (.c (.str "keep"))) [.drop (.bK .append (.v 2) [.v 0]),
   .ite (.cmp .Eq (.ix (.v 0) (.c (.int 0))) (.c (.str "keep"))) [.drop (.bK .append (.v 3) [.v 1])] []] [.drop (.bK .append (.v 3) [.v 1])]]]
def J7:List Str:=["one","other","first","second","ones","others","size"]
noncomputable def J8:List RS:=
 [.ite (.cmp .NotEq (.ix (.call 0 [.v 0]) (.c (.int 0))) (.ix (.call 0 [.v 1]) (.c (.int 0)))) [.eR 0 [(.c (.str "the changes are over unlike numbers of signs"))]] [],
 .asg 2 (.make 0 [.v 0]),
 .asg 3 (.make 0 [.v 1]),
 .asg 4 (.lst []),
 .asg 5 (.lst []),
 .qq (.or [(.cmp .NotEq (.aR 0 "word" (.v 2) []) (.c (.str ""))),(.cmp .NotEq (.aR 0 "word" (.v 3) []) (.c (.str "")))]) [.ite (.cmp .Eq (.aR 0 "word" (.v 2) []) (.c (.str "put"))) [.drop (.call 1 [.v 2,.v 4,.v 5])] [.ite (.cmp .Eq (.aR 0 "word" (.v 3) []) (.c (.str "put"))) [.drop (.call 1 [.v 3,.v 5,.v 4])] [.asg 6 (.blt .min [(.aR 1 "left" (.v 2) []),(.aR 1 "left" (.v 3) [])]),
    .drop (.call 2 [(.aR 2 "take" (.v 2) [.v 6]),(.aR 2 "take" (.v 3) [.v 6]),.v 4,.v 5])]]],
 .ret (.tup [(.call 3 [.v 4]),(.call 3 [.v 5])])]
def Yp:List Str:=["sizes","put_first","share","neat"]
def J9:List Str:=["min"]
def Yq:List Str:=["word","left","take"]
def J_:List Str:=["Walk"]
def Ka:List Str:=["given","text"]
noncomputable def Kb:List RS:=
 [.ite (.cmp .Eq (.ix (.v 0) (.c (.int 0))) (.c (.str "keep"))) [.ret (.lst [(.tup [(.c (.str "cut")),.v 1])])] [],
 .ite (.cmp .NotEq (.ix (.v 0)<|.c<|.int 1)<|.v 1) [.eR 0 [(.c<|.str "what the first change puts is cut otherwise")]] [],
 .ret (.lst [])]
def Kc:List Str:=["walk","part","parts","place","size","given"]
noncomputable def Kd:List RS:=
 [.asg 2 (.lst []),
 .asg 3 (.c<|.int 0),
 .qq (.cmp .Lt (.v 3) (.call 0 [.v 1])) [.ite (.cmp .Eq (.aR 0 "word" (.v 0) []) (.c (.str "cut"))) [.drop (.bK .append (.v 2) [(.aR 1 "take" (.v 0) [(.aR 2 "left" (.v 0) [])])]),
   .cont] [],
  .asg 4 (.blt .min [(.aR 2 "left" (.v 0) []),(.bin .Sub (.call 0 [.v 1])<|.v 3)]),
  .asg 5 (.aR 1 "take" (.v 0) [.v 4]),
  .ite (.cmp .Eq (.ix (.v 1)<|.c<|.int 0)<|.c<|.str "keep") [.drop<|.bK .append (.v 2) [.v 5]] [.drop<|.bK .extend (.v 2) [(.call 1 [.v 5,(.sl (.ix (.v 1)<|.c<|.int 1) (some<|.v 3)<|some<|.bin .Add (.v 3)<|.v 4)])]],
  .asg 3 (.bin .Add (.v 3) (.v 4))],
 .ret (.v 2)]
def Yr:List Str:=["part_size","cut_behind"]
def Ke:List Str:=["word","take","left"]
def Kf:List Str:=["one","other","walk","parts","part"]
noncomputable def Kg:List RS:=
 [.ite (.cmp .NotEq (.ix (.call 0 [.v 0]) (.c (.int 1))) (.ix (.call 0 [.v 1]) (.c (.int 0)))) [.eR 0 [(.c (.str "the other change is over another number of signs than the first one gives"))]] [],
 .asg 2 (.make 0 [.v 0]),
 .asg 3 (.lst []),
 .iA 4 .list [.v 1] [.ite (.cmp .Eq (.ix (.v 4)<|.c<|.int 0)<|.c<|.str "put") [.drop<|.bK .append (.v 3) [.v 4]] [.drop<|.bK .extend (.v 3) [(.call 1 [.v 2,.v 4])]]],
 .qq (.cmp .NotEq (.aR 0 "word" (.v 2) [])<|.c<|.str "") [.drop<|.bK .append (.v 3) [(.aR 1 "take" (.v 2) [(.aR 2 "left" (.v 2) [])])]],
 .ret (.call 2 [.v 3])]
def Ys:List Str:=["sizes","parts_behind","neat"]
structure oK (K:Frag) (C:Addr):Prop where
 cl:eP K C
 vy:d0 K C "parts"
 qE:d0 K C "passed_by"
 vz:d0 K C "offset"
end L2.B
namespace L2
open PySem PySem.Spec PyProof.Rows
section
variable {X:Cx}
end
def vA:List (TE×TE)->St->Hp->(List (V×V)->Hp->Prop)->Prop
 |[],_,H,Q=>Q [] H
 |(tk,tv)::r,σ,H,Q=>tk σ H λx H1=>tv σ H1 λy H2=>vA r σ H2 λps H3=>Q ((x,y)::ps) H3
abbrev VV:List (V×V)->List (Value×Value)->Prop:=Paired λp q=>RelV p.1 q.1/\RelV p.2 q.2
def oM(X:Cx)(pos:Pos)(keys:List (Option Expr))(values:List Expr)(mX:List (TE×TE)):Prop:=
 ∀(pins:List (Addr×Obj)) (s:Shared) (σ:St) (H:Hp) (Q:List (V×V)->Hp->Prop),Inv X pins σ H s->vA mX σ H Q->
  wpAny (model X.prog X.w) X.A (evalPairs<|pairTrees keys values X.env pos) (λvs s'=>∃ps H',Inv X pins σ H' s'/\VV ps vs/\Q ps H') X.xe s
theorem Yt{pos:Pos}:oM X pos [] [] []:=λpins s σ H Q I h=>pairTrees_nil_walk ⟨[],H,I,.nil,h⟩
theorem Yu{k v:Expr}{ks:List (Option Expr)}{vs:List Expr}{tk tv:TE}{mX:List (TE×TE)}(hk:PE X k tk)(hv:PE X v tv)(hr:oM X pos ks vs mX):
  oM X pos (some k::ks) (v::vs) ((tk,tv)::mX):=λpins s σ H Q I h=>
 pairTrees_cons_walk (aK (hk pins s σ H _ I h) λu s1 ⟨x,H1,I1,rx,q1⟩=>aK (hv pins s1 σ H1 _ I1 q1) λw2 s2 ⟨y,H2,I2,ry,q2⟩=>
  aK (hr pins s2 σ H2 _ I2 q2) λws s3 ⟨ps,H3,I3,rel,q3⟩=>⟨(x,y)::ps,H3,I3,.cons ⟨rx,ry⟩ rel,q3⟩)
def jT(kvs more:List (Key×V)):List (Key×V):=more.foldl (λacc kv=>putK acc kv.1 kv.2) kvs
theorem KV.merge:∀{more:List (Key×V)}{rs:List (Key×Value)}{kvs:List (Key×V)}{vs:List (Key×Value)},KV more rs->KV kvs vs->KV (jT kvs more) (merged vs rs):=by
 intro more rs kvs vs r
 induction r generalizing kvs vs with
 |nil=>intro q;exact q
 | @cons p q ps qs h t ih=>
  intro r0;have e:KV (putK kvs p.1 p.2) (stored vs q.1 q.2):=by
   have:=r0.put p.1 h.2;rw[<-h.1];exact this
  exact ih e
theorem Kh:∀(more kvs:List (Key×V)),(jT kvs more).length<=kvs.length+more.length
 |[],kvs=>by show kvs.length<=kvs.length+0;omega
 |p::r,kvs=>by
  have h1:=Kh r (putK kvs p.1 p.2);have h2:=yt kvs p.1 p.2;show(jT (putK kvs p.1 p.2) r).length<=_;rw[zaw];omega
theorem Ki:∀{kvs:List (Key×V)}{ws:List (Value×Value)},VV (kvs.map λkv=>(kV kv.1,kv.2)) ws->∃rs,Carries (eO P w) ws rs/\KV kvs rs
 |[],_,r=>by cases r;exact⟨[],True.intro,.nil⟩
 |p::kvs,_,r=>by
  cases r with
  | @cons a b as bs h t=>
   obtain⟨rs,c,q⟩:=Ki t;obtain⟨b1,b2⟩:=b;exact⟨(p.1,b2)::rs,⟨qk h.1,rfl,c⟩,.cons ⟨rfl,h.2⟩ q⟩
def C0(mX:List (TE×TE)):TE:=λσ H Q=>∀p,H p=none->vA mX σ (upd H p<|.dK []) λps H2=>H2 p=some (.dK [])/\∃kvs:List (Key×V),ps=kvs.map (λkv=>(kV kv.1,kv.2))/\kvs.length<=15/\Q (.ref p) (upd H2 p<|.dK<|jT [] kvs)
theorem Yv{keys:List (Option Expr)}{values:List Expr}{mX:List (TE×TE)}(h:oM X pos keys values mX)(om:keys.all (·.isSome)=true)(hl:keys.length=values.length)(h0:keys≠ [])
  (Yw:keys.length<=15):PE X (.Dict keys values pos) (C0 mX):=by
 intro pins s σ H Q I q;refine wpAny_Dict_walk (knd:=eO X.prog X.w) om hl h0 Yw<|aK (h pins _ σ _ _ (I.laid (λ_ _ q=>Heap.get?_push_of_some _ q) (zqR _) (HF s.heap I.big))<|q _ (I.aF.fresh (zqR s.heap.objs.size))) λws s2 ⟨ps,H2,I2,rel,e,kvs,ep,lk,q2⟩=>?_;subst ep;obtain⟨rs,c,rk⟩:=Ki rel;obtain⟨z,hd,vs0,r0,dd⟩:=yv I2.aF e;cases r0;refine⟨rs,c,dd,λh' lK hs=>⟨.ref s.heap.objs.size,_,?_,rfl,q2⟩⟩;have hz:(jT [] kvs).length<=sizeLine:=by
  have h1:=Kh kvs [];rw[zbb] at h1;rw[sizeLine_eq];omega
 have he:∃q,h'.get? s.heap.objs.size=some q:=let ⟨q,_,_,hq,_⟩:=lK;⟨q,hq⟩;exact yw I2 (e▸True.intro) hs he<|BP hz hd (rk.merge .nil) lK
def qF:List (Key×V)->List V
 |[]=>[]
 |kv::r=>kV kv.1::kv.2::qF r
def qG:List (V×V)->List V
 |[]=>[]
 |p::r=>p.1::p.2::qG r
def tm:Frag->TA->TE:=λ_ t σ H Q=>∀p,H p=none->t σ (upd H p<|.dK []) λvs H2=>H2 p=some (.dK [])/\∃kvs:List (Key×V),vs=qF kvs/\kvs.length<=15/\Q (.ref p) (upd H2 p<|.dK<|jT [] kvs)
def oN(Γ:aV):List RE->List (TE×TE)
 |a::b::r=>(af Γ a,af Γ b)::oN Γ r
 |_=>[]
theorem C1{σ:St}:∀(rs:List RE) (H:Hp) (Q:List V->Hp->Prop),rs.length % 2=0->bw Γ rs σ H Q=vA (oN Γ rs) σ H λps H2=>Q (qG ps) H2
 |[],H,Q,_=>rfl
 |[a],H,Q,e=>absurd e (by simp)
 |a::b::r,H,Q,e=>by
  have e':r.length % 2=0:=by
   have:(r.length+1+1) % 2=0:=e;lia
  show(af Γ a σ H λx H1=>af Γ b σ H1 λy H2=>bw Γ r σ H2 λvs H3=>Q (x::y::vs) H3)=af Γ a σ H λx H1=>af Γ b σ H1 λy H2=>vA (oN Γ r) σ H2 λps H3=>Q (x::y::qG ps) H3
  congr 1
  funext x H1
  congr 1
  funext y H2
  exact C1 r H2 (λvs H3=>Q (x::y::vs) H3) e'
theorem y7:∀(ps:List (V×V)) (kvs:List (Key×V)),qG ps=qF kvs↔ps=kvs.map λkv=>(kV kv.1,kv.2)
 |[],[]=>⟨λ_=>rfl,λ_=>rfl⟩
 |[],kv::r=>⟨nofun,nofun⟩
 |p::ps,[]=>⟨nofun,nofun⟩
 |p::ps,kv::r=>by
  constructor
  ·intro h;have h1:=(zbj h).1;have h2:=(zbj (zbj h).2).1;rw[((y7 ps r).mp (zbj (zbj h).2).2),zat,<-h1,<-h2]
  ·intro h;obtain⟨h1,h2⟩:=zbj h;show p.1::p.2::qG ps=kV kv.1::kv.2::qF r;rw[(y7 ps r).mpr h2,h1]
theorem Yx{K:Frag}(rs:List RE)(e:rs.length % 2=0):tm K (bw Γ rs)=C0 (oN Γ rs):=by
 funext σ H Q
 apply propext
 constructor
 ·intro h p hp;have:=h p hp;rw[C1 rs _ _ e] at this;have e2:(fun(ps:List (V×V)) (H2:Hp)=>H2 p=some (.dK [])/\∃kvs:List (Key×V),qG ps=qF kvs/\kvs.length<=15/\Q (.ref p) (upd H2 p<|.dK<|jT [] kvs))=λps H2=>H2 p=some (.dK [])/\∃kvs:List (Key×V),ps=kvs.map (λkv=>(kV kv.1,kv.2))/\kvs.length<=15/\Q (.ref p) (upd H2 p<|.dK<|jT [] kvs):=by
   simp only[y7]
  rw[e2] at this;exact this
 ·intro h p hp;have:=h p hp;rw[C1 rs _ _ e];have e2:(fun(ps:List (V×V)) (H2:Hp)=>H2 p=some (.dK [])/\∃kvs:List (Key×V),qG ps=qF kvs/\kvs.length<=15/\Q (.ref p) (upd H2 p<|.dK<|jT [] kvs))=λps H2=>H2 p=some (.dK [])/\∃kvs:List (Key×V),ps=kvs.map (λkv=>(kV kv.1,kv.2))/\kvs.length<=15/\Q (.ref p) (upd H2 p<|.dK<|jT [] kvs):=by
   simp only[y7]
  rw[e2];exact this
section
variable {CX:cU}{S:df}{Γ:aV}{X:Cx}{pos:Pos}{k v:Expr}{ks:List (Option Expr)}{vs:List Expr}{rk rv:RE}{rs:List RE}
theorem Yy:oM X pos [] [] (oN Γ []):=Yt
theorem y8(hk:PE X k (af Γ rk))(hv:PE X v (af Γ rv))(h:oM X pos ks vs (oN Γ rs)):oM X pos (some k::ks) (v::vs) (oN Γ (rk::rv::rs)):=Yu hk hv h
def Kj(keys:List (Option Expr))(values:List Expr)(rs:List RE):Bool:=keys.all (·.isSome) && decide (keys.length=values.length) && decide (keys.length≠0) && decide (keys.length<=15) && decide (rs.length % 2=0)
theorem Yz(hp:oM X pos ks vs (oN Γ rs))(h:Kj ks vs rs=true:=by kernel_rfl):PE X (.Dict ks vs pos) (af Γ<|.xt tm rs):=by
 simp only[Kj,zae,decide_eq_true_eq] at h
 obtain⟨⟨⟨⟨h1,h2⟩,h3⟩,h4⟩,h5⟩:=h;show PE X _ (tm Γ.K<|bw Γ rs);rw[Yx rs h5];exact Yv hp h1 h2 (λz=>h3 (z▸rfl)) h4
variable {a:Expr}{p q:Pos}{ra r:RE}
theorem YA{o:Expr}{f:Str}{p:Pos}{l:Nat}{env:Env}:swapsWith v (some<|.Attribute o f p) l env=pure false:=by
 cases v<;>rfl
theorem YB(G:d2 CX S Γ X)(ho:PE X a (af Γ ra))(he:PE X v (af Γ r)):PS X (.Assign [.Attribute a f p] v q) (ee Γ<|.bT ra f r):=by
 show PS X _ (yc Γ.K (af Γ ra) (af Γ r) f);rw[<-G.K];exact GX ho he (by exact YA)
end
end L2
namespace L2
open PySem PySem.Spec PyProof.Rows PySem.W
end L2
namespace L2
open PySem PySem.Spec PyProof.Rows
section
variable {X:Cx}
theorem YC{body:List Stmt}{b₀:Stmt}{C2:List Stmt}{tb:XK->TS}{th:Addr->TS}{np y9 pos:Pos}(n6:X.stack=X.env::X.outer)(vm:X.env.frame=some X.env.locals)(hex:X.ex=[])
  (Cn:Gl X x) (hd:(x==("__debug__":Str))=false) (qh:X.mg x=some (.ref C))
  (hb:∀(pn:List (Addr×Obj)) (xe:Value->Shared->Prop) (E:XK),PassesOwn (model X.prog X.w) X.A X.env xe->Passes (gC X.prog X.w) (X.alt X.A X.calm pn xe) E->eE (X.alt X.A X.calm pn xe) body (tb E))
  (hh:∀(ea:Addr) (pn:List (Addr×Obj)),eE (X.alt (X.A.mark<|some<|.ref ea) false pn λ_ _=>False) (b₀::C2)<|th ea):
  PS X (.Try body [.ExceptHandler (some<|.Name x np) none (b₀::C2) y9] [] [] pos) (yI X.K C X.N.length X.N.length tb th):=by
 intro pins s σ H D I h;refine wpAny_Try_except ?_;have P1:Passes (gC X.prog X.w) (X.alt X.A X.calm (X.pn++pins) λe s₁=>wpAny (model X.prog X.w) X.A (noteFrame e X.env) (λ_ s₂=>wpAny (model X.prog X.w) X.A (setFlight e none) (λ_ s₃=>wpAny (model X.prog X.w) X.A (handleBy e X.env [.ExceptHandler (some<|.Name x np) none (b₀::C2) y9]) (SP X pins D) X.xe s₃) X.xe s₂) X.xe s₁) (Im X.K C X.N.length X.N.length th D):=by
  intro pins' σ' H1 s1 e' s' I1 hx;obtain⟨ea,cls,t,B,H',rfl,os,bare,u,aF,fl,vk,iX,c1,c2,hm,YD⟩:=hx;have YE:X.A.frames=some (X.env::X.outer):=by rw[I.ok.frames,n6]
  refine wpAny_mono (vj II vk<|wpAny_looks_onW (Q:=λ_ ir=>∃h',ir={s' with heap:=h'}/\Heap.HeldW B (X.env::X.outer) ea cls (.ref t) X.env.locals h'/\s'.heap.UpToSlots h') (E:=λ_ _=>False) YE vm (n6▸fl) λh4 C3 C4=>⟨h4,rfl,C3,C4⟩)
   (λ_ s4 hq=>?_) (λ_ _ z=>z.1.elim)
  obtain⟨⟨h4,rfl,C3,C4⟩,YF⟩:=hq;refine wpAny_mono (vj Cf YF<|wpAny_landsW (Q:=λ_ ir=>∃h',ir={s' with heap:=h'}/\Heap.FlyingW B (X.env::X.outer) ea cls (.ref t) h'/\h4.UpToSlots h') (E:=λ_ _=>False) C3 λh5 tq C5=>⟨h5,rfl,tq,C5⟩)
   (λ_ s5 hq=>?_) (λ_ _ z=>z.1.elim)
  obtain⟨⟨h5,rfl,YG,C5⟩,YH⟩:=hq;have tq:Heap.FlyingW B X.stack ea cls (.ref t) h5:=by lia
  obtain⟨u5,Kk,YI,YJ⟩:=IM u aF fl.2.2.1 c1 c2 tq.1 (C4.trans C5);obtain⟨oe,ws,YK,YL,aiH,aiI⟩:=tq.first
  have I5:=I1.Bh (s':={s' with heap:=h5}) (ch:=[]) os u5 Kk bare (λb z=>absurd z zah)
  refine wpAny_handleBy_cons (codeAny_handlers_test ?_) (by intro q;cases q)
  have uM:Inv (X.alt (X.A.mark<|some<|.ref ea) false (X.pn++pins) λ_ _=>False) [] σ' H' {s' with heap:=h5}:=I5.alt rfl (λz=>nomatch z) (λp hp=>zab.mpr<|.inl (by rw[zaa] at hp;exact hp))
  refine xU uM Cn qh ?_ hd;have LT:PySem.W.Looks (model X.prog X.w) h5 (typeOf<|.ref ea) cls:=by
   subst YL;exact(PySem.W.Looks.ld YK).andThen .now
  refine(PySem.W.exm_one I5.dE LT hm).here ?_;refine codeAny_handlers_suite ?_;refine wpAny_mono (vj Cf YH<|lands_againW (Q:=λ_ ir=>∃h',ir={s' with heap:=h'}/\Heap.FlyingW B X.stack ea cls (.ref t) h'/\h5.UpToSlots h') (E:=λ_ _=>False) tq λh6 tu C6=>⟨h6,rfl,tu,C6⟩)
   (λ_ s6 hq=>?_) (λ_ _ z=>z.1.elim)
  obtain⟨⟨h6,rfl,tu,C6⟩,YM⟩:=hq;obtain⟨u6,YN,c16,YO⟩:=IM u5 Kk tq.2.2.1 YI YJ tu.1 C6;obtain⟨tw,Km,y_,YQ,C7,_⟩:=tu.first
  have YR:yH tw cls Km:=by
   obtain⟨o',bH,q1,q2,q3,q4⟩:=YM;have lS:=q1;rw[y_] at lS;cases lS;rw[C7] at q2;cases q2;exact⟨YQ,C7,q3,q4⟩
  have ne1:s1.heap.get? ea=none:=by
   cases q:s1.heap.get? ea with
   |none=>rfl
   |some o1=>
    by_cases Kn:ea∈bG X.stack
    ·obtain⟨o2,fQ,hd2⟩:=(tu.2.2.1.mem Kn).2;rw[y_] at fQ;cases fQ;exact(hd2 _ C7).elim
    ·have:=YO ea o1 q Kn tw y_;rw[tu.2.1] at this;cases this
  have u7:Un (bG X.stack) [] H1 (upd H' ea (.cj tw qp)) s1.heap h6:=⟨u6.keep,u6.slot,λb o q n hx=>by
    rw[az (λz=>by lia)];exact u6.free b o q n hx,u6.there,λb xs q=>by
    have q':=u6.dD b xs q;rw[az<|aM q' iX];exact q',λb o v q=>by
    have q':=u6.h9 b o v q;rw[az<|aM q' iX];exact q',λb ps q=>by
    obtain⟨more,q'⟩:=u6.iq b ps q;exact⟨more,by rw[az (aM q' iX)];exact q'⟩⟩
  have YS:=YN.more iX (WQ y_);have I7:=I1.Bh (s':={s' with heap:=h6}) (ch:=[]) os u7 YS bare (λb z=>absurd z zah)
  have I8:Inv (X.alt (X.A.mark<|some<|.ref ea) false (X.pn++pins) λ_ _=>False) [] σ' (upd H' ea<|.cj tw qp) {s' with heap:=h6}:=I7.alt rfl (λz=>nomatch z) (λp hp=>zab.mpr<|.inl (by rw[zaa] at hp;exact hp))
  refine wpAny_mono (hh ea (X.pn++pins) [] _ _ _ {nx:=λ_ _=>False,rt:=D.rt} I8 (by have z:=YD ea tw Km σ' iX I1.len YR;rw[List.set_eq_of_length_le (show σ'.length<=X.N.length from zbk I1.len)] at z;exact z)) (λf jU hs=>?_) λ_ _ z=>z.elim
  cases f with
  |next=>obtain⟨_,_,_,z⟩:=hs;exact z.elim
  |brk=>obtain⟨_,_,_,z⟩:=hs;exact z.elim
  |cont=>obtain⟨_,_,_,z⟩:=hs;exact z.elim
  |ret v=>
   obtain⟨v',YT,tD,YU,r,q⟩:=hs;have YV:=YU.Cp I.ok (λp hp=>by simpa using hp)
   exact⟨v',_,tD,YV,r,q⟩
 refine wpAny_mono (hb _ _ _ PassesOwn.looking P1 [] s σ H {nx:=D.nx,rt:=D.rt} (I.alt rfl I.ok.hd (λp hp=>by simpa using hp)) h) (λf s1 hs=>?_) λe' s' hx=>hx
 cases f with
 |next=>
  obtain⟨σ',H',I',q⟩:=hs;exact Gj pins s1 σ' H' D (I'.Cp I.ok (λp hp=>by simpa using hp)) q
 |brk=>obtain⟨_,_,_,z⟩:=hs;exact z.elim
 |cont=>obtain⟨_,_,_,z⟩:=hs;exact z.elim
 |ret v=>
  obtain⟨v',σ',H',I',r,q⟩:=hs;exact⟨v',σ',H',I'.Cp I.ok (λp hp=>by simpa using hp),r,q⟩
variable {CX:cU}{S:df}{Γ:aV}{e:Expr}{es:List Expr}{x:Str}{p q pos:Pos}{r:RE}{rs:List RE}{i j:Nat}
theorem YW{body su:List Stmt}{b₀:Stmt}{rb vB:List RS}(G:d2 CX S Γ X)(h:kG S j x=true)(hn:decide (S.N.length=n)=true)
  (hb:∀{Γ:aV}{X:Cx},d2 CX (tS S) Γ X->eE X body (aE Γ rb)) (hs:∀{Γ:aV}{X:Cx},d2 CX (hS S) Γ X->eE X (b₀::su) (aE Γ vB)):
  PS X (.Try body [.ExceptHandler (some<|.Name x np) none (b₀::su) y9] [] [] pos) (ee Γ<|.B6 n n j rb vB):=by
 simp only[kG,zae,decide_eq_true_eq,zaY] at h hn
 obtain⟨u,hm,hu⟩:=G.fh j x h.1.1;intro pins s σ H D I q;obtain⟨C,e,q⟩:=(show ∃C,Γ.gv j=.ref C/\yI Γ.K C n n (λE=>aE {Γ with E:=E} rb) (λea=>aE {Γ with E:=E0,hv:=some ea} vB) D σ H from q)
 rw[e] at hu;subst hu;have hl:=G.N▸hn
 have q':yI X.K C X.N.length X.N.length (λE=>aE {Γ with E:=E} rb) (λea=>aE {Γ with E:=E0,hv:=some ea} vB) D σ H:=by rw[G.K,hl];exact q
 exact YC G.ka G.iB G.sW (G.gl h.1.2) h.2 hm
  (λpn xe E ho hp=>hb<|G.X5 pn xe E ho hp) (λea pn=>hs<|G.held ea pn) pins s σ H D I q'
end
end L2
open PySem PySem.Spec PyProof.Rows
namespace L2
def C8(K:Frag):List V->Hp->VK->Prop:=λxs H Q=>∃p kvs,xs=[.ref p]/\H p=some (.dK kvs)/\∀l,H l=none->Q (.ref l) (upd H l<|.dK kvs)
section
variable {X:Cx}
theorem YY:dZ X (.type "dict") (C8 X.K):=by
 intro pins s σ H xs us Q I r h;obtain⟨p,kvs,rfl,hp,q⟩:=h;obtain⟨u,rfl,ru⟩:=vals1 r;cases ru;obtain⟨hz,hd,vs,kv,dd⟩:=yv I.aF hp;have hl:=kv.length;refine kt_call_dict hd dd (by lia) λh' hm hs=>?_
 have new:cK X.prog X.w (upd H s.heap.objs.size<|.dK kvs) h' s.heap.objs.size (.dK kvs):=⟨hz,(HF (P:=X.prog) (w:=X.w) (H:=H) s.heap I.big).2.1,vs,kv,hm⟩;exact⟨.ref s.heap.objs.size,_,I.laid (λb o e=>(hs.2 b<|zao<|Heap.lt_size e).trans<|Heap.get?_push_of_some _ e) (zqR _) new,rfl,q _<|I.aF.fresh<|zqR _⟩
end
theorem YZ:bootBuiltins "dict"=some (.type "dict"):=rfl
def C9:Frag->TA->TE:=λK t=>jN (C8 K) t
section
variable {CX:cU}{S:df}{Γ:aV}{X:Cx}{e:Expr}{es:List Expr}{x:Str}{p pos:Pos}{r:RE}{rs:List RE}
theorem Y0(G:Good CX S Γ X)(hA:PA X (e::es) (bw Γ (r::rs)))(h:kB S x "dict"=true:=by kernel_rfl)(hn:iC (e::es)=true:=by kernel_rfl)(hq:S.md=0:=by rfl):PE X (.Call (.Name x p) (e::es) [] pos) (af Γ<|.xt C9 (r::rs)):=by
 simp only[kB,zae,decide_eq_true_eq] at h
 obtain⟨⟨rfl,h2⟩,h3⟩:=h;exact G9 YY (G.gl h2) (G.iZ _ h3) YZ hA (by decide) (rfl) (fj (gT hn).1)<|mU _ _ es (gT hn).2
end
end L2
namespace L2
open PySem PySem.Spec PyProof.Rows PySem.W
def Ko(a:Addr):List V->Hp->VK->Prop
 |[y]=>λH Q=>∃kvs k v,H a=some (.dK kvs)/\y=kV k/\c5 kvs k=some v/\Q v (upd H a<|.dK<|fX kvs k)
 |_=>λ_ _=>False
def za:Frag->TE->TA->TE:=λ_ to ta σ H Q=>to σ H λx H1=>∃a,x=.ref a/\yx H1 a/\ta σ H1 λys H2=>Ko a ys H2 Q
section
variable {CX:cU}{S:df}{Γ:aV}{X:Cx}{e o:PySem.Expr}{x:Str}{ap pos:Pos}{r ro:RE}
theorem Y1(G:Good CX S Γ X)(ho:PE X o (af Γ ro))(he:PE X e (af Γ r))(h:kM o "pop" x 1 ap pos=true:=by kernel_rfl)(hn:iC [e]=true:=by kernel_rfl):PE X (.Call (.Attribute o x ap) [e] [] pos) (af Γ<|.xm za ro [r]):=by
 simp only[kM,zae,decide_eq_true_eq] at h
 obtain⟨⟨⟨rfl,h2⟩,h3⟩,h4⟩:=h;intro pins s σ H Q I q;have Y2:((backTo pos<|starEach [e] X.env).all (λx=> !x.1) && (backToKw pos<|keywordEach [] X.env).all (λx=>x.1.isSome) && decide (([e]:List PySem.Expr).length+([]:List Keyword).length+(if ([]:List Keyword).isEmpty then 0 else 1) <30))=true:=by rw[yS _ _ [e] hn];rfl
 have tr:backTo pos (starEach [e] X.env)=[(false,eval e X.env)]:=by rw[fj (gT hn).1];rfl
 refine wpAny_Call_method (oo h2) Y2 h3 PySem.F.plainAttrs_dict PySem.F.slot_dict_pop PySem.F.type_dict_pop<|aK (ho pins s σ H _ I q) λu s1 w=>?_;obtain⟨x,H1,I1,rx,a,ex,d,q1⟩:=w;subst ex;cases (show u=Value.ref a from rx)
 obtain⟨t1,t2,_⟩:=U8 I1 d;refine⟨t1,t2,?_⟩;rw[tr];refine Calls.callWith_builtin rfl<|Calls.evalArgs_plain<|Calls.spliced_cons<|aK (he pins s1 σ H1 _ I1 q1) λiv s2 w2=>Calls.spliced_nil ?_;obtain⟨y,H2,I2,ry,kvs,k,v,ea,ey,l,q2⟩:=w2;subst ey;exact U0 I2 ea ry l (.inl rfl) λw' s3 I3 gO=>⟨v,_,I3,gO,q2⟩
end
end L2
namespace L2.fZ
open PySem PySem.Spec PyProof.Rows L2.B
def bg(i:Nat):Stmt:=(PySem.Challenge.pw_inkloom_k37_whole_behind_each_letter.main.body).getD i (.Pass ⟨0,0,0,0⟩)
structure lU (K:Frag) (C:Addr):Prop where
 cl:eP K C
 js:d0 K C "signs"
 tE:d0 K C "serials"
 vC:d0 K C "changes"
 C_:d0 K C "makers"
structure ic (K:Frag) (C:Addr):Prop where
 cl:eP K C
 js:d0 K C "signs"
 lV:d0 K C "known"
 tF:d0 K C "serial"
 iH:d0 K C "flying"
 jV:d0 K C "delayed"
 qH:d0 K C "early"
structure iI (K:Frag) (C:Addr):Prop where
 cl:eP K C
 vD:d0 K C "number"
 kE:d0 K C "stand_now"
def Kq:Stmt:=bg 10
abbrev mY(s:Stmt)(k:Nat):Stmt:=(gQ s).getD k (.Pass ⟨0,0,0,0⟩)
abbrev mZ(b:List RS)(k:Nat):RS:=b.getD k (.ret<|.c .au)
abbrev MX(N:List Str)(s:Stmt)(f g l mn kn en hn:List Str)(b:List RS)(md:Nat):Prop:= ∀{CX:cU}{Γ:aV}{X:Cx},d2 CX (y3 N (gz s) f g l mn kn en hn md) Γ X->eE X (gQ s) (aE Γ b)
abbrev MY(N:List Str)(s:Stmt)(f g l mn kn en hn:List Str)(b:List RS)(md k:Nat):Prop:= ∀{CX:cU}{Γ:aV}{X:Cx},d2 CX (y3 N (gz s) f g l mn kn en hn md) Γ X->PS X (mY s k) (ee Γ<|mZ b k)
theorem Y3:MX jq Kq ag ag Jl ag ag ag ag Jk 0:=λG=>have g:=G.toGood;(ah (aY<|iE (kz g<|aa g)<|jR<|Cs g<|kz g<|aa g) aq)
def Kr:Stmt:=bg 11
theorem Y4:MX JS Kr Ym ag ag ag ag ag ag JT 0:=λG=>have g:=G.toGood;(ah (aY<|iE (aS g<|ai (aa g) aj)<|jR<|XO g (aa g) (aa g)<|aa g) aq)
def Ks:Stmt:=bg 12
theorem Y5:MX CM Ks ag ag Jm ag ag ag ag CO 0:=λG=>have g:=G.toGood;(ah (aY<|iE (kz g<|aa g)<|jR<|iD g (aa g)<|aa g) aq)
def Kt:Stmt:=bg 13
theorem Y6:MX jq Kt ag X8 Jm ag ag ag ag CQ 0:=λG=>have g:=G.toGood;(ah (aY<|iE (kz g<|aa g)<|jR<|iD g (cO g (aa g)<|ai (yU g) aj) aH) aq)
def Ku:Stmt:=bg 14
theorem Y7:MX jq Ku X9 ag ag ag ag X_ ag Jn 0:=λG=>have g:=G.toGood;(ah (aX (dF<|fY g<|aS g<|ai (aa g) aj) (ah (fF G<|ai aH aj) aq) aq) aq)
def Kv:Stmt:=bg 16
theorem Y8:MX jq Kv Ya ag Jo ag ag ag ag y6 0:=λG=>have g:=G.toGood;(ah (aX (PW.pt<|iG (dF<|vw g<|kz g<|aa g)<|kD<|aT g (cp g<|ai (aa g) aj) ax) (ah (aY jo) aq) aq)<|ah (aX (fY g<|aS g<|ai (aJ g (aa g) ax)<|ai (dQ<|ai aH aj) aj) (ah (aY<|iE (aS g<|ai (aJ g (aa g) ax) aj)<|jR<|iD g (aJ g (aa g) ax) ax) aq) aq)<|ah (aY<|iE (aS g<|ai (aJ g (aa g) ax)<|ai (dQ<|ai aH<|ai aH aj) aj)<|iE (aS g<|ai (aJ g (aa g) ax) aj)<|jR<|iD g (aJ g (aa g) ax) aH) aq)
def Kw:Stmt:=bg 17
theorem Y9:MX Jp Kw ag ag ag ag ag ag ag Jq 0:=λG=>have g:=G.toGood;(ah (aY<|iE (iD g (aa g)<|aa g)<|jR<|Cs g<|iE (iD g (aa g) aH)<|jR<|iD g (aa g) aH) aq)
def Kx:Stmt:=bg 18
theorem Y_:MX Jr Kx Yb ag Jt ag ag Ju ag Js 0:=λG=>have g:=G.toGood;(ah (aX (dF<|vw g<|kz g<|aa g) (ah (fF G<|ai aH aj) aq) aq)<|ah (aP G aH)<|ah (mW G (gU g<|aa g)<|ah (aX (dF<|fY g<|aS g<|ai (aa g) aj) (ah (fF G<|ai aH aj) aq) aq)<|ah (aX (dF<|fY g<|aS g<|ai (aJ g (aa g) ax)<|ai (aa g) aj) (ah (fF G<|ai aH aj) aq) aq)<|ah (aP G<|aJ g (aa g) ax) aq) aq)
noncomputable def Ky:List RS:=
 [.B6 1 1 0 [.drop (.call 0 [.v 0])] [.ret (.c (.bl false))],
 .ret (.c (.bl true))]
def Za:List Str:=["need_change"]
def Kz:Stmt:=bg 19
theorem Zb:MX jq Kz Za Ju ag ag ag ag ag Ky 0:=λG=>have g:=G.toGood;(ah (YW G (rfl) (rfl) (λG=>(λg=>(ah (cq<|aS g<|ai (aa g) aj) aq)) G.toGood)<|λG=>(λg=>(ah (aY jo) aq)) G.toGood)<|ah (aY jo) aq)
def KA:Stmt:=bg 20
theorem Zc:MX Jv KA ag ag jr ag ag ag ag Jw 0:=λG=>have g:=G.toGood;(ah (aY<|oI (aT g (aJ g (aa g) ax) aH) (aJ g (aa g) ax)<|cp g<|ai (aJ g (aa g) ax) aj) aq)
def KC:Stmt:=bg 21
theorem Zd:MX Jx KC Yc ag Yd ag ag ag ag Jy 0:=λG=>have g:=G.toGood;(ah (cq<|aS g<|ai (aa g) aj)<|ah (aP G<|cp g<|ai (qy (ln:=["part"]) g (rfl) (gU g<|aa g) (Ct λ_ g=>(aT g (aJ g (aa g) ax) aH))<|λ_ g=>(aS g<|ai (aa g) aj)) aj)<|ah (aP G<|cp g<|ai (qy (ln:=["part"]) g (rfl) (gU g<|aa g) (Ct λ_ g=>(aT g (aJ g (aa g) ax) aH))<|λ_ g=>(aS g<|ai (aa g) aj)) aj)<|ah (aY<|dQ<|ai (aa g)<|ai (aa g) aj) aq)
def KD:Stmt:=inClass (bg 22) 0
theorem Ze:MX JV KD ag ag tj ag ag ag ag JW 0:=λG=>have g:=G.toGood;(ah (cH G (aa g)<|cp g<|ai (aa g) aj)<|ah (cH G (aa g) ax)<|ah (cH G (aa g) ax) aq)
def KG:Stmt:=inClass (bg 22) 1
theorem Zf:MX ib KG ag ag jr ag ag ag ag JX 0:=λG=>have g:=G.toGood;(ah (aY<|oI (aT g (bf g<|aa g)<|cp g<|ai (bf g<|aa g) aj) (aJ g (aJ g (bf g<|aa g)<|bf g<|aa g) ax) aH) aq)
def KH:Stmt:=inClass (bg 22) 2
theorem Zg:MX ib KH JZ ag ag ag ag ag ag JY 0:=λG=>have g:=G.toGood;(ah (aY<|aQ g (aS g<|ai (aJ g (bf g<|aa g)<|bf g<|aa g) aj)<|bf g<|aa g) aq)
def KI:Stmt:=inClass (bg 22) 3
theorem Zh:MX J0 KI ag ag ag Yn ag ag ag CZ 0:=λG=>have g:=G.toGood;(ah (aP G<|aJ g (bf g<|aa g)<|bf g<|aa g)<|ah (aP G<|bf g<|aa g)<|ah (aP G<|aQ g (aa g)<|aa g)<|ah (cH G (aa g)<|aa g)<|ah (aX (aT g (dr g<|aa g) ax) (ah (cH G (aa g)<|aQ g (bf g<|aa g) ax)<|ah (cH G (aa g) ax) aq) aq)<|ah (aY<|dQ<|ai (aJ g (aa g) ax)<|ai (oI (aT g (aJ g (aa g) ax) aH) (aa g)<|kA g (aJ g (aa g) ax) (gE<|aa g)<|gE<|aa g) aj) aq)
def KJ:Stmt:=bg 23
theorem Zi:MX Jz KJ ag ag jr ag ag ag ag JA 0:=λG=>have g:=G.toGood;(ah (aX (PW.pt<|sZ (aT g (cp g<|ai (aa g) aj) ax)<|sY<|aT g (aJ g (aJ g (aa g)<|jQ ax) ax) aH) (ah (aP G<|aQ g (aa g)<|aJ g (XT g<|aa g) ax) aq) aq)<|ah (cq<|cO g (aa g)<|ai (dQ<|ai aH<|ai (aa g) aj) aj) aq)
def KL:Stmt:=bg 24
theorem Zj:MX JB KL ag ag ag ag ag ag ag JC 0:=λG=>have g:=G.toGood;(ah (aP G<|cO g aH<|ai (aa g) aj)<|ah (aP G<|cO g aH<|ai (aa g) aj)<|ah (aX (aT g (aa g) aH) (ah (cq<|cO g (aa g)<|ai (dQ<|ai aH<|ai (aa g) aj) aj) aq) aq)<|ah (aX (aT g (aa g) aH) (ah (cq<|cO g (aa g)<|ai (dQ<|ai aH<|ai (aa g) aj) aj) aq) aq) aq)
def KN:Stmt:=bg 25
theorem Zk:MX JD KN Ye ag ag ag ag ag ag JE 0:=λG=>have g:=G.toGood;(ah (aP G<|cE aj)<|ah (aP G<|cE aj)<|ah (aP G<|cE aj)<|ah (qB [(_,_),(_,_)] G (gU g<|aa g)<|ah (aX (aT g (aa g) aH) (ah (cq<|cO g (aa g)<|ai (aa g) aj) aq)<|ah (aX (aT g (aa g) aH) (ah (cq<|cO g (aa g)<|ai (aa g) aj) aq)<|ah (aX (aT g (aa g) ax) (ah (cq<|aS g<|ai (aa g)<|ai (aa g)<|ai (aa g) aj)<|ah (aP G<|cE aj)<|ah (aP G<|cE aj)<|ah (cq<|aS g<|ai (aa g)<|ai (aa g) aj) aq) aq) aq) aq) aq)<|ah (cq<|aS g<|ai (aa g)<|ai (aa g)<|ai (aa g) aj)<|ah (aY<|aa g) aq)
def KO:Stmt:=bg 26
theorem Zl:MX JF KO Yf ag jr ag ag vx ag JG 0:=λG=>have g:=G.toGood;(ah (cq<|aS g<|ai (aa g) aj)<|ah (aX (aT g (aJ g (aS g<|ai (aa g) aj) ax)<|cp g<|ai (aa g) aj) (ah (fF G<|ai aH aj) aq) aq)<|ah (aP G ax)<|ah (aP G<|cE aj)<|ah (qB [(_,_),(_,_)] G (gU g<|aa g)<|ah (aX (aT g (aa g) aH) (ah (cq<|cO g (aa g)<|ai (aa g) aj) aq)<|ah (aX (aT g (aa g) aH) (ah (cq<|cO g (aa g)<|ai (kA g (aa g) (gE<|aa g)<|gE<|aQ g (aa g)<|aa g) aj)<|ah (aP G<|aQ g (aa g)<|aa g) aq)<|ah (aX (dF<|X1 g<|cO g (aa g)<|ai (aa g)<|ai (aa g) aj) (ah (fF G<|ai aH aj) aq)<|ah (aP G<|aQ g (aa g)<|cp g<|ai (aa g) aj) aq) aq) aq) aq)<|ah (aY<|cO g aH<|ai (aa g) aj) aq)
def KP:Stmt:=bg 28
theorem Zm:MX Ka KP ag ag ag ag ag vx ag Kb 0:=λG=>have g:=G.toGood;(ah (aX (aT g (aJ g (aa g) ax) aH) (ah (aY<|cE<|ai (dQ<|ai aH<|ai (aa g) aj) aj) aq) aq)<|ah (aX (aT g (aJ g (aa g) ax)<|aa g) (ah (fF G<|ai aH aj) aq) aq)<|ah (aY<|cE aj) aq)
def KQ:Stmt:=bg 29
theorem Zn:MX Kc KQ Yr ag J9 Ke ag ag ag Kd 0:=λG=>have g:=G.toGood;(ah (aP G<|cE aj)<|ah (aP G ax)<|ah (yX G (aT g (aa g)<|aS g<|ai (aa g) aj)<|ah (aX (aT g (dr g<|aa g) aH) (ah (cq<|cO g (aa g)<|ai (eh g (aa g)<|ai (dr g<|aa g) aj) aj)<|ah X6 aq) aq)<|ah (aP G<|cp g<|ai (dr g<|aa g)<|ai (aQ g (aS g<|ai (aa g) aj)<|aa g) aj)<|ah (aP G<|eh g (aa g)<|ai (aa g) aj)<|ah (aX (aT g (aJ g (aa g) ax) aH) (ah (cq<|cO g (aa g)<|ai (aa g) aj) aq)<|ah (cq<|cO g (aa g)<|ai (aS g<|ai (aa g)<|ai (kA g (aJ g (aa g) ax) (gE<|aa g)<|gE<|aQ g (aa g)<|aa g) aj) aj) aq)<|ah (aP G<|aQ g (aa g)<|aa g) aq)<|ah (aY<|aa g) aq)
def KR:Stmt:=bg 30
theorem Zo:MX Kf KR Ys ag ag Ke J_ vx ag Kg 0:=λG=>have g:=G.toGood;(ah (aX (aT g (aJ g (aS g<|ai (aa g) aj) ax)<|aJ g (aS g<|ai (aa g) aj) ax) (ah (fF G<|ai aH aj) aq) aq)<|ah (aP G<|qw g<|ai (aa g) aj)<|ah (aP G<|cE aj)<|ah (mW G (gU g<|aa g)<|ah (aX (aT g (aJ g (aa g) ax) aH) (ah (cq<|cO g (aa g)<|ai (aa g) aj) aq)<|ah (cq<|cO g (aa g)<|ai (aS g<|ai (aa g)<|ai (aa g) aj) aj) aq) aq)<|ah (yX G (aT g (dr g<|aa g) aH)<|ah (cq<|cO g (aa g)<|ai (eh g (aa g)<|ai (dr g<|aa g) aj) aj) aq)<|ah (aY<|aS g<|ai (aa g) aj) aq)
def KS:Stmt:=bg 32
theorem Zp:MX J3 KS JZ ag ag Yo ag ag ag J4 0:=λG=>have g:=G.toGood;(ah (aP G<|eh g (aa g)<|ai (dr g<|aa g) aj)<|ah (cq<|cO g (aa g)<|ai (aa g) aj)<|ah (cq<|cO g (aa g)<|ai (dQ<|ai aH<|ai (aS g<|ai (aa g) aj) aj) aj) aq)
def KU:Stmt:=bg 33
theorem Zq:MX J5 KU ag ag ag ag ag vx ag J6 0:=λG=>have g:=G.toGood;(ah (aX (PW.pt<|sZ (aT g (aJ g (aa g) ax) aH)<|sY<|aT g (aJ g (aa g) ax) aH) (ah (aX (aT g (aJ g (aa g) ax)<|aJ g (aa g) ax) (ah (fF G<|ai aH aj) aq) aq) aq)<|ah (aX (aT g (aJ g (aa g) ax) aH) (ah (cq<|cO g (aa g)<|ai (aa g) aj)<|ah (aX (aT g (aJ g (aa g) ax) aH) (ah (cq<|cO g (aa g)<|ai (aa g) aj) aq) aq) aq)<|ah (cq<|cO g (aa g)<|ai (aa g) aj) aq) aq) aq)
def KW:Stmt:=bg 34
theorem Zr:MX J7 KW Yp ag J9 Yq J_ vx ag J8 0:=λG=>have g:=G.toGood;(ah (aX (aT g (aJ g (aS g<|ai (aa g) aj) ax)<|aJ g (aS g<|ai (aa g) aj) ax) (ah (fF G<|ai aH aj) aq) aq)<|ah (aP G<|qw g<|ai (aa g) aj)<|ah (aP G<|qw g<|ai (aa g) aj)<|ah (aP G<|cE aj)<|ah (aP G<|cE aj)<|ah (yX G (PW.pt<|iG (aT g (dr g<|aa g) aH)<|kD<|aT g (dr g<|aa g) aH)<|ah (aX (aT g (dr g<|aa g) aH) (ah (cq<|aS g<|ai (aa g)<|ai (aa g)<|ai (aa g) aj) aq)<|ah (aX (aT g (dr g<|aa g) aH) (ah (cq<|aS g<|ai (aa g)<|ai (aa g)<|ai (aa g) aj) aq)<|ah (aP G<|cp g<|ai (dr g<|aa g)<|ai (dr g<|aa g) aj)<|ah (cq<|aS g<|ai (eh g (aa g)<|ai (aa g) aj)<|ai (eh g (aa g)<|ai (aa g) aj)<|ai (aa g)<|ai (aa g) aj) aq) aq) aq)<|ah (aY<|dQ<|ai (aS g<|ai (aa g) aj)<|ai (aS g<|ai (aa g) aj) aj) aq)
def KY:List Str:=["self","text","hands"]
noncomputable def KZ:List RS:=
 [.drop (.call 0 [.v 1]),
 .ite (.not<|.call 1 [.v 2,(.c<|.int 1),.g 0]) [.eR 0 [(.c<|.str "there are 1 to 8 hands")]] [],
 .bT (.v 0) "signs" (.v 1),
 .bT (.v 0) "serials" (.comp none [] .fA [.v 2] none<|.c<|.int 0),
 .bT (.v 0) "changes" (.lst []),
 .bT (.v 0) "makers" (.lst [])]
def Zs:List Str:=["need_text","is_between"]
def Dc:List Str:=["MOST_HANDS"]
def zb:List Str:=["range"]
def K0:List Str:=["NoHand"]
def K1:Stmt:=inClass (bg 37) 0
theorem Zt:MX KY K1 Zs Dc zb ag ag K0 ag KZ 0:=λG=>have g:=G.toGood;(ah (cq<|aS g<|ai (aa g) aj)<|ah (aX (dF<|fY g<|aS g<|ai (aa g)<|ai ax<|ai (yU g) aj) (ah (fF G<|ai aH aj) aq) aq)<|ah (cH G (aa g)<|aa g)<|ah (YB G (aa g)<|qy (ln:=["hand"]) g (rfl) (qz g<|aa g) qx<|λ_ g=>ax)<|ah (cH G (aa g)<|cE aj)<|ah (cH G (aa g)<|cE aj) aq)
noncomputable def K2:List RS:=
 [.ret<|.fld (.v 0) "signs"]
def K3:Stmt:=inClass (bg 37) 1
theorem Zu:MX ib K3 ag ag ag ag ag ag ag K2 0:=λG=>have g:=G.toGood;(ah (aY<|bf g<|aa g) aq)
noncomputable def K4:List RS:=
 [.ret<|.blt .len [(.fld (.v 0) "changes")]]
def K5:Stmt:=inClass (bg 37) 2
theorem Zv:MX ib K5 ag ag jr ag ag ag ag K4 0:=λG=>have g:=G.toGood;(ah (aY<|cp g<|ai (bf g<|aa g) aj) aq)
def K6:List Str:=["self","number"]
noncomputable def K7:List RS:=
 [.ite (.not (.call 0 [.v 1,(.c (.int 1)),(.aR 0 "many" (.v 0) [])])) [.eR 0 [(.c (.str "no change of that number was taken"))]] [],
 .ret (.blt .list [(.ix (.fld (.v 0) "changes") (.bin .Sub (.v 1) (.c (.int 1))))])]
def K8:List Str:=["is_between"]
def K9:List Str:=["many"]
def Zw:List Str:=["NoLetter"]
def K_:Stmt:=inClass (bg 37) 3
theorem Zx:MX K6 K_ K8 ag tj K9 ag Zw ag K7 0:=λG=>have g:=G.toGood;(ah (aX (dF<|fY g<|aS g<|ai (aa g)<|ai ax<|ai (dr g<|aa g) aj) (ah (fF G<|ai aH aj) aq) aq)<|ah (aY<|cp g<|ai (aJ g (bf g<|aa g)<|aQ g (aa g) ax) aj) aq)
def zc:List Str:=["self","hand","number"]
noncomputable def La:List RS:=
 [.ret<|.tup [(.c<|.str "took"),.v 1,.v 2,(.ix (.fld (.v 0) "makers")<|.bin .Sub (.v 2)<|.c<|.int 1),(.aR 0 "change" (.v 0) [.v 2])]]
def Dd:List Str:=["change"]
def Lb:Stmt:=inClass (bg 37) 4
theorem Zy:MX zc Lb ag ag ag Dd ag ag ag La 0:=λG=>have g:=G.toGood;(ah (aY<|dQ<|ai aH<|ai (aa g)<|ai (aa g)<|ai (aJ g (bf g<|aa g)<|aQ g (aa g) ax)<|ai (eh g (aa g)<|ai (aa g) aj) aj) aq)
def oO:List Str:=["self","letter"]
noncomputable def Lc:List RS:=
 [.ite (.or [(.cmp .NotEq (.blt .len [.v 1]) (.c (.int 5))),(.not (.call 0 [(.ix (.v 1) (.c (.int 0))),(.tup [(.c (.str "ask"))])])),(.not (.aR 0 "is_known" (.v 0) [(.ix (.v 1) (.c (.int 1))),(.ix (.v 1) (.c (.int 3)))]))]) [.ret (.c (.bl false))] [],
 .ret (.and [(.call 1 [(.ix (.v 1) (.c (.int 2)))]),(.cmp .GtE (.ix (.v 1) (.c (.int 2))) (.c (.int 1))),(.call 2 [(.ix (.v 1) (.c (.int 4)))])])]
def Zz:List Str:=["is_word","is_whole","is_change"]
def Ld:List Str:=["is_known"]
def Le:Stmt:=inClass (bg 37) 5
theorem ZA:MX oO Le Zz ag jr Ld ag ag ag Lc 0:=λG=>have g:=G.toGood;(ah (aX (PW.pt<|iG (aT g (cp g<|ai (aa g) aj) ax)<|iG (dF<|fY g<|aS g<|ai (aJ g (aa g) ax)<|ai (dQ<|ai aH aj) aj)<|kD<|dF<|Cu g<|eh g (aa g)<|ai (aJ g (aa g) ax)<|ai (aJ g (aa g) ax) aj) (ah (aY jo) aq) aq)<|ah (aY<|iE (aS g<|ai (aJ g (aa g) ax) aj)<|iE (iD g (aJ g (aa g) ax) ax)<|jR<|aS g<|ai (aJ g (aa g) ax) aj) aq)
noncomputable def Lf:List RS:=
 [.ret<|.and [(.cmp .Eq (.blt .len [.v 1])<|.c<|.int 3),(.call 0 [(.ix (.v 1)<|.c<|.int 0),(.tup [(.c<|.str "again")])]),(.aR 0 "is_known" (.v 0) [(.ix (.v 1)<|.c<|.int 1),(.ix (.v 1)<|.c<|.int 2)])]]
def ZC:List Str:=["is_word"]
def Lg:Stmt:=inClass (bg 37) 6
theorem ZD:MX oO Lg ZC ag jr Ld ag ag ag Lf 0:=λG=>have g:=G.toGood;(ah (aY<|iE (iD g (cp g<|ai (aa g) aj) ax)<|iE (aS g<|ai (aJ g (aa g) ax)<|ai (dQ<|ai aH aj) aj)<|jR<|eh g (aa g)<|ai (aJ g (aa g) ax)<|ai (aJ g (aa g) ax) aj) aq)
noncomputable def Lh:List RS:=
 [.ret<|.and [(.call 0 [.v 1,(.c<|.int 0),(.bin .Sub (.blt .len [(.fld (.v 0) "serials")])<|.c<|.int 1)]),(.call 0 [.v 2,(.c<|.int 0),(.aR 0 "many" (.v 0) [])])]]
def Li:Stmt:=inClass (bg 37) 7
theorem ZE:MX zc Li K8 ag jr K9 ag ag ag Lh 0:=λG=>have g:=G.toGood;(ah (aY<|iE (aS g<|ai (aa g)<|ai ax<|ai (aQ g (cp g<|ai (bf g<|aa g) aj) ax) aj)<|jR<|aS g<|ai (aa g)<|ai ax<|ai (dr g<|aa g) aj) aq)
noncomputable def Lj:List RS:=
 [.ite (.not (.gA .tuple (.v 1))) [.eR 0 [(.c (.str "a letter is a tuple"))]] [],
 .ite (.aR 0 "is_again" (.v 0) [.v 1]) [.ret<|.comp none [("self",0),("letter",1)] .sJ [(.bin .Add (.ix (.v 1)<|.c<|.int 2)<|.c<|.int 1),(.bin .Add (.aR 1 "many" (.v 0) [])<|.c<|.int 1)] none<|.aR 2 "took" (.v 1) [(.ix (.v 2)<|.c<|.int 1),.v 0]] [],
 .ite (.not<|.aR 3 "is_ask" (.v 0) [.v 1]) [.eR 0 [(.c<|.str "this is no letter to the server of these hands")]] [],
 .ite (.cmp .NotEq (.ix (.v 1)<|.c<|.int 2)<|.bin .Add (.ix (.fld (.v 0) "serials")<|.ix (.v 1)<|.c<|.int 1)<|.c<|.int 1) [.ret<|.lst []] [],
 .ret (.aR 4 "take_in" (.v 0) [(.ix (.v 1) (.c (.int 1))),(.ix (.v 1) (.c (.int 3))),(.ix (.v 1) (.c (.int 4)))])]
def ZF:List Str:=["isinstance","tuple","range"]
def ZG:List Str:=["is_again","many","took","is_ask","take_in"]
def De:List Str:=["BadLetter"]
def Lk:Stmt:=inClass (bg 37) 8
theorem ZH:MX oO Lk ag ag ZF ZG ag De ag Lj 0:=λG=>have g:=G.toGood;(ah (aX (dF<|vw g<|kz g<|aa g) (ah (fF G<|ai aH aj) aq) aq)<|ah (aX (Cu g<|eh g (aa g)<|ai (aa g) aj) (ah (aY<|qy (ln:=["number"]) g (rfl) (Jc g (aQ g (aJ g (aa g) ax) ax)<|aQ g (dr g<|aa g) ax) qx<|λ_ g=>(eh g (aa g)<|ai (aJ g (aa g) ax)<|ai (aa g) aj)) aq) aq)<|ah (aX (dF<|Cu g<|eh g (aa g)<|ai (aa g) aj) (ah (fF G<|ai aH aj) aq) aq)<|ah (aX (aT g (aJ g (aa g) ax)<|aQ g (aJ g (bf g<|aa g)<|aJ g (aa g) ax) ax) (ah (aY<|cE aj) aq) aq)<|ah (aY<|eh g (aa g)<|ai (aJ g (aa g) ax)<|ai (aJ g (aa g) ax)<|ai (aJ g (aa g) ax) aj) aq)
def Ll:List Str:=["self","hand","number","change","taken"]
noncomputable def Lm:List RS:=
 [.iA 4 .list [(.sl (.fld (.v 0) "changes") (some (.v 2)) none)] [.asg 3 (.ix (.call 0 [.v 4,.v 3]) (.c (.int 1)))],
 .bT (.v 0) "signs" (.call 1 [(.fld (.v 0) "signs"),.v 3]),
 .set (.fld (.v 0) "serials") (.v 1) (.bin .Add (.ix (.fld (.v 0) "serials")<|.v 1)<|.c<|.int 1),
 .drop (.bK .append (.fld (.v 0) "changes") [(.blt .list [.v 3])]),
 .drop (.bK .append (.fld (.v 0) "makers") [.v 1]),
 .ret (.comp none [("self",0)] .fA [(.blt .len [(.fld (.v 0) "serials")])] none (.aR 0 "took" (.v 1) [.v 0,(.aR 1 "many" (.v 1) [])]))]
def Ln:List Str:=["passed","done"]
def ZI:List Str:=["list","range","len"]
def ZJ:List Str:=["took","many"]
def Lo:Stmt:=inClass (bg 37) 9
theorem ZK:MX Ll Lo Ln ag ZI ZJ ag ag ag Lm 0:=λG=>have g:=G.toGood;(ah (mW G (gU g<|kA g (bf g<|aa g) (gE<|aa g) yV)<|ah (aP G<|aJ g (aS g<|ai (aa g)<|ai (aa g) aj) ax) aq)<|ah (cH G (aa g)<|aS g<|ai (bf g<|aa g)<|ai (aa g) aj)<|ah (qA (aQ g (aJ g (bf g<|aa g)<|aa g) ax) (bf g<|aa g)<|aa g)<|ah (cq<|cO g (bf g<|aa g)<|ai (cp g<|ai (aa g) aj) aj)<|ah (cq<|cO g (bf g<|aa g)<|ai (aa g) aj)<|ah (aY<|qy (ln:=["other"]) g (rfl) (qz g<|cp g<|ai (bf g<|aa g) aj) qx<|λ_ g=>(eh g (aa g)<|ai (aa g)<|ai (dr g<|aa g) aj)) aq)
def Lp:List Str:=["self","text"]
noncomputable def Lq:List RS:=
 [.bT (.v 0) "signs" (.v 1),
 .bT (.v 0) "known" (.c<|.int 0),
 .bT (.v 0) "serial" (.c<|.int 0),
 .bT (.v 0) "flying" (.c .au),
 .bT (.v 0) "delayed" (.c .au),
 .bT (.v 0) "early" .yJ]
def Lr:Stmt:=inClass (bg 39) 0
theorem ZL:MX Lp Lr ag ag ag ag ag ag ag Lq 0:=λG=>have g:=G.toGood;(ah (cH G (aa g)<|aa g)<|ah (cH G (aa g) ax)<|ah (cH G (aa g) ax)<|ah (cH G (aa g) eG)<|ah (cH G (aa g) eG)<|ah (cH G (aa g) XS) aq)
def Ls:List Str:=["stand","other"]
noncomputable def Lu:List RS:=
 [.asg 1 (.make 0 [(.fld (.v 0) "signs")]),
 .bT (.v 1) "known" (.fld (.v 0) "known"),
 .bT (.v 1) "serial" (.fld (.v 0) "serial"),
 .bT (.v 1) "flying" (.fld (.v 0) "flying"),
 .bT (.v 1) "delayed" (.fld (.v 0) "delayed"),
 .bT (.v 1) "early" (.xt C9 [(.fld (.v 0) "early")]),
 .ret (.v 1)]
def ZM:List Str:=["dict"]
def Lv:List Str:=["Stand"]
def Lw:Stmt:=bg 40
theorem ZN:MX Ls Lw ag ag ZM ag Lv ag ag Lu 0:=λG=>have g:=G.toGood;(ah (aP G<|qw g<|ai (bf g<|aa g) aj)<|ah (cH G (aa g)<|bf g<|aa g)<|ah (cH G (aa g)<|bf g<|aa g)<|ah (cH G (aa g)<|bf g<|aa g)<|ah (cH G (aa g)<|bf g<|aa g)<|ah (cH G (aa g)<|Y0 g<|ai (bf g<|aa g) aj)<|ah (aY<|aa g) aq)
noncomputable def Lx:List RS:=
 [.ret<|.jm (.cmp .Is (.v 0)<|.c .au) (.c .au)<|.blt .list [.v 0]]
def Ly:Stmt:=bg 41
theorem ZO:MX Dd Ly ag ag tj ag ag ag ag Lx 0:=λG=>have g:=G.toGood;(ah (aY<|oI (aT g (aa g) eG) eG<|cp g<|ai (aa g) aj) aq)
def Lz:List Str:=["stand","change","pair"]
noncomputable def LA:List RS:=
 [.ite (.cmp .IsNot (.fld (.v 0) "flying") (.c .au)) [.asg 2 (.call 0 [.v 1,(.fld (.v 0) "flying")]),
  .asg 1 (.ix (.v 2)<|.c<|.int 0),
  .bT (.v 0) "flying" (.ix (.v 2) (.c (.int 1)))] [],
 .ite (.cmp .IsNot (.fld (.v 0) "delayed") (.c .au)) [.asg 2 (.call 0 [.v 1,(.fld (.v 0) "delayed")]),
  .asg 1 (.ix (.v 2)<|.c<|.int 0),
  .bT (.v 0) "delayed" (.ix (.v 2) (.c (.int 1)))] [],
 .bT (.v 0) "signs" (.call 1 [(.fld (.v 0) "signs"),.v 1]),
 .ret (.v 1)]
def LB:Stmt:=bg 42
theorem ZP:MX Lz LB Ln ag ag ag ag ag ag LA 0:=λG=>have g:=G.toGood;(ah (aX (aT g (bf g<|aa g) eG) (ah (aP G<|aS g<|ai (aa g)<|ai (bf g<|aa g) aj)<|ah (aP G<|aJ g (aa g) ax)<|ah (cH G (aa g)<|aJ g (aa g) ax) aq) aq)<|ah (aX (aT g (bf g<|aa g) eG) (ah (aP G<|aS g<|ai (aa g)<|ai (bf g<|aa g) aj)<|ah (aP G<|aJ g (aa g) ax)<|ah (cH G (aa g)<|aJ g (aa g) ax) aq) aq)<|ah (cH G (aa g)<|aS g<|ai (bf g<|aa g)<|ai (aa g) aj)<|ah (aY<|aa g) aq)
def LC:List Str:=["self","number","text"]
noncomputable def LD:List RS:=
 [.ite (.not (.call 0 [.v 1,(.c (.int 0)),(.bin .Sub (.g 0) (.c (.int 1)))])) [.eR 0 [(.c (.str "hands are numbered from 0 to 7"))]] [],
 .drop (.call 1 [.v 2]),
 .bT (.v 0) "number" (.v 1),
 .bT (.v 0) "stand_now" (.make 0 [.v 2])]
def ZQ:List Str:=["is_between","need_text"]
def LF:Stmt:=inClass (bg 43) 0
theorem ZR:MX LC LF ZQ Dc ag ag Lv K0 ag LD 0:=λG=>have g:=G.toGood;(ah (aX (dF<|fY g<|aS g<|ai (aa g)<|ai ax<|ai (aQ g (yU g) ax) aj) (ah (fF G<|ai aH aj) aq) aq)<|ah (cq<|aS g<|ai (aa g) aj)<|ah (cH G (aa g)<|aa g)<|ah (cH G (aa g)<|qw g<|ai (aa g) aj) aq)
noncomputable def LG:List RS:=
 [.ret<|.fld (.fld (.v 0) "stand_now") "signs"]
def LH:Stmt:=inClass (bg 43) 1
theorem ZS:MX ib LH ag ag ag ag ag ag ag LG 0:=λG=>have g:=G.toGood;(ah (aY<|bf g<|bf g<|aa g) aq)
noncomputable def LI:List RS:=
 [.ret<|.fld (.fld (.v 0) "stand_now") "known"]
def LJ:Stmt:=inClass (bg 43) 2
theorem ZT:MX ib LJ ag ag ag ag ag ag ag LI 0:=λG=>have g:=G.toGood;(ah (aY<|bf g<|bf g<|aa g) aq)
noncomputable def LK:List RS:=
 [.ret<|.call 0 [(.fld (.fld (.v 0) "stand_now") "flying")]]
def LL:List Str:=["copied"]
def LM:Stmt:=inClass (bg 43) 3
theorem ZU:MX ib LM LL ag ag ag ag ag ag LK 0:=λG=>have g:=G.toGood;(ah (aY<|aS g<|ai (bf g<|bf g<|aa g) aj) aq)
noncomputable def LN:List RS:=
 [.ret<|.call 0 [(.fld (.fld (.v 0) "stand_now") "delayed")]]
def LO:Stmt:=inClass (bg 43) 4
theorem ZV:MX ib LO LL ag ag ag ag ag ag LN 0:=λG=>have g:=G.toGood;(ah (aY<|aS g<|ai (bf g<|bf g<|aa g) aj) aq)
def LP:List Str:=["self","stand"]
noncomputable def LQ:List RS:=
 [.ret<|.tup [(.c<|.str "ask"),(.fld (.v 0) "number"),(.fld (.v 1) "serial"),(.fld (.v 1) "known"),(.blt .list [(.fld (.v 1) "flying")])]]
def LR:Stmt:=inClass (bg 43) 5
theorem ZW:MX LP LR ag ag tj ag ag ag ag LQ 0:=λG=>have g:=G.toGood;(ah (aY<|dQ<|ai aH<|ai (bf g<|aa g)<|ai (bf g<|aa g)<|ai (bf g<|aa g)<|ai (cp g<|ai (bf g<|aa g) aj) aj) aq)
def zd:List Str:=["self","stand","change"]
noncomputable def LS:List RS:=
 [.bT (.v 1) "serial" (.bin .Add (.fld (.v 1) "serial") (.c (.int 1))),
 .bT (.v 1) "flying" (.v 2),
 .ret (.lst [(.aR 0 "ask" (.v 0) [.v 1])])]
def ZX:List Str:=["ask"]
def LU:Stmt:=inClass (bg 43) 6
theorem ZY:MX zd LU ag ag ag ZX ag ag ag LS 0:=λG=>have g:=G.toGood;(ah (cH G (aa g)<|aQ g (bf g<|aa g) ax)<|ah (cH G (aa g)<|aa g)<|ah (aY<|cE<|ai (eh g (aa g)<|ai (aa g) aj) aj) aq)
def LV:List Str:=["self","change","stand","signs"]
noncomputable def LW:List RS:=
 [.asg 2 (.fld (.v 0) "stand_now"),
 .asg 3 (.call 0 [(.fld (.v 2) "signs"),.v 1]),
 .ite (.cmp .IsNot (.fld (.v 2) "delayed")<|.c .au) [.bT (.v 2) "delayed"<|.call 1 [(.fld (.v 2) "delayed"),.v 1]] [.ite (.cmp .IsNot (.fld (.v 2) "flying")<|.c .au) [.bT (.v 2) "delayed"<|.blt .list [.v 1]] []],
 .bT (.v 2) "signs" (.v 3),
 .ret (.jm (.cmp .Is (.fld (.v 2) "flying") (.c .au)) (.aR 0 "take_off" (.v 0) [.v 2,(.blt .list [.v 1])]) (.lst []))]
def ZZ:List Str:=["done","then"]
def LX:List Str:=["take_off"]
def LY:Stmt:=inClass (bg 43) 7
theorem Z0:MX LV LY ZZ ag tj LX ag ag ag LW 0:=λG=>have g:=G.toGood;(ah (aP G<|bf g<|aa g)<|ah (aP G<|aS g<|ai (bf g<|aa g)<|ai (aa g) aj)<|ah (aX (aT g (bf g<|aa g) eG) (ah (cH G (aa g)<|aS g<|ai (bf g<|aa g)<|ai (aa g) aj) aq)<|ah (aX (aT g (bf g<|aa g) eG) (ah (cH G (aa g)<|cp g<|ai (aa g) aj) aq) aq) aq)<|ah (cH G (aa g)<|aa g)<|ah (aY<|oI (aT g (bf g<|aa g) eG) (eh g (aa g)<|ai (aa g)<|ai (cp g<|ai (aa g) aj) aj)<|cE aj) aq)
noncomputable def LZ:List RS:=
 [.ite (.or [(.not (.gA .tuple (.v 1))),(.cmp .NotEq (.blt .len [.v 1]) (.c (.int 5))),(.not (.call 0 [(.ix (.v 1) (.c (.int 0))),(.tup [(.c (.str "took"))])]))]) [.eR 0 [(.c (.str "a took letter is a tuple of five"))]] [],
 .ite (.or [(.not<|.call 1 [(.ix (.v 1)<|.c<|.int 1)]),(.cmp .NotEq (.ix (.v 1)<|.c<|.int 1)<|.fld (.v 0) "number")]) [.eR 0 [(.c<|.str "this letter is not for this hand")]] [],
 .ite (.or [(.not<|.call 1 [(.ix (.v 1)<|.c<|.int 2)]),(.cmp .Lt (.ix (.v 1)<|.c<|.int 2)<|.c<|.int 1),(.not<|.call 2 [(.ix (.v 1)<|.c<|.int 3),(.c<|.int 0),(.bin .Sub (.g 0)<|.c<|.int 1)])]) [.eR 0 [(.c<|.str "no hand's change is taken with this number")]] [],
 .ite (.not (.call 3 [(.ix (.v 1) (.c (.int 4)))])) [.eR 0 [(.c (.str "what was taken is a change"))]] []]
def Z1:List Str:=["is_word","is_whole","is_between","is_change"]
def L0:Stmt:=inClass (bg 43) 8
theorem Z2:MX oO L0 Z1 Dc Jo ag ag De ag LZ 0:=λG=>have g:=G.toGood;(ah (aX (PW.pt<|iG (dF<|vw g<|kz g<|aa g)<|iG (aT g (cp g<|ai (aa g) aj) ax)<|kD<|dF<|fY g<|aS g<|ai (aJ g (aa g) ax)<|ai (dQ<|ai aH aj) aj) (ah (fF G<|ai aH aj) aq) aq)<|ah (aX (PW.pt<|iG (dF<|fY g<|aS g<|ai (aJ g (aa g) ax) aj)<|kD<|aT g (aJ g (aa g) ax)<|bf g<|aa g) (ah (fF G<|ai aH aj) aq) aq)<|ah (aX (PW.pt<|iG (dF<|fY g<|aS g<|ai (aJ g (aa g) ax) aj)<|iG (aT g (aJ g (aa g) ax) ax)<|kD<|dF<|fY g<|aS g<|ai (aJ g (aa g) ax)<|ai ax<|ai (aQ g (yU g) ax) aj) (ah (fF G<|ai aH aj) aq) aq)<|ah (aX (dF<|fY g<|aS g<|ai (aJ g (aa g) ax) aj) (ah (fF G<|ai aH aj) aq) aq) aq)
noncomputable def L4:List RS:=
 [.ite (.cmp .Is (.fld (.v 1) "flying") (.c .au)) [.eR 0 [(.c (.str "nothing is in flight"))]] [],
 .asg 2 (.fld (.v 1) "delayed"),
 .bT (.v 1) "flying" (.c .au),
 .bT (.v 1) "delayed" (.c .au),
 .ret (.jm (.cmp .Is (.v 2) (.c .au)) (.lst []) (.aR 0 "take_off" (.v 0) [.v 1,.v 2]))]
def L5:Stmt:=inClass (bg 43) 9
theorem Z3:MX zd L5 ag ag ag LX ag De ag L4 0:=λG=>have g:=G.toGood;(ah (aX (aT g (bf g<|aa g) eG) (ah (fF G<|ai aH aj) aq) aq)<|ah (aP G<|bf g<|aa g)<|ah (cH G (aa g) eG)<|ah (cH G (aa g) eG)<|ah (aY<|oI (aT g (aa g) eG) (cE aj)<|eh g (aa g)<|ai (aa g)<|ai (aa g) aj) aq)
def L6:List Str:=["self","letter","stand","posted","told","taken"]
noncomputable def ze:List RS:=
 [.drop (.aR 0 "need_took" (.v 0) [.v 1]),
 .asg 2 (.call 0 [(.fld (.v 0) "stand_now")]),
 .asg 3 (.lst []),
 .asg 4 (.lst []),
 .ite (.and [(.cmp .Gt (.ix (.v 1)<|.c<|.int 2)<|.fld (.v 2) "known"),(.vg (.ix (.v 1)<|.c<|.int 2)<|.fld (.v 2) "early")]) [.dput (.fld (.v 2) "early") (.ix (.v 1)<|.c<|.int 2)<|.tup [(.ix (.v 1)<|.c<|.int 3),(.blt .list [(.ix (.v 1)<|.c<|.int 4)])]] [],
 .qq (.ve (.bin .Add (.fld (.v 2) "known") (.c (.int 1))) (.fld (.v 2) "early")) [.bT (.v 2) "known" (.bin .Add (.fld (.v 2) "known") (.c (.int 1))),
  .asg 5 (.xm za (.fld (.v 2) "early") [(.fld (.v 2) "known")]),
  .ite (.cmp .Eq (.ix (.v 5) (.c (.int 0))) (.fld (.v 0) "number")) [.drop (.bK .extend (.v 3) [(.aR 1 "land" (.v 0) [.v 2])])] [.drop (.bK .append (.v 4) [(.call 1 [.v 2,(.ix (.v 5) (.c (.int 1)))])])]],
 .bT (.v 0) "stand_now" (.v 2),
 .ret (.tup [.v 3,.v 4])]
def Z4:List Str:=["twin_of","let_in"]
def Z5:List Str:=["need_took","land"]
def L7:Stmt:=inClass (bg 43) 10
theorem Z6:MX L6 L7 Z4 ag tj Z5 ag ag ag ze 0:=λG=>have g:=G.toGood;(ah (cq<|eh g (aa g)<|ai (aa g) aj)<|ah (aP G<|aS g<|ai (bf g<|aa g) aj)<|ah (aP G<|cE aj)<|ah (aP G<|cE aj)<|ah (aX (PW.pt<|sZ (aT g (aJ g (aa g) ax)<|bf g<|aa g)<|sY<|XY g (aJ g (aa g) ax)<|bf g<|aa g) (ah (s_ G (dQ<|ai (aJ g (aa g) ax)<|ai (cp g<|ai (aJ g (aa g) ax) aj) aj) (bf g<|aa g)<|aJ g (aa g) ax) aq) aq)<|ah (yX G (XX g (aQ g (bf g<|aa g) ax)<|bf g<|aa g)<|ah (cH G (aa g)<|aQ g (bf g<|aa g) ax)<|ah (aP G<|Y1 g (bf g<|aa g)<|bf g<|aa g)<|ah (aX (aT g (aJ g (aa g) ax)<|bf g<|aa g) (ah (cq<|cO g (aa g)<|ai (eh g (aa g)<|ai (aa g) aj) aj) aq)<|ah (cq<|cO g (aa g)<|ai (aS g<|ai (aa g)<|ai (aJ g (aa g) ax) aj) aj) aq) aq)<|ah (cH G (aa g)<|aa g)<|ah (aY<|dQ<|ai (aa g)<|ai (aa g) aj) aq)
def L8:List Str:=["self","again"]
noncomputable def L9:List RS:=
 [.asg 1 (.tup [(.c (.str "again")),(.fld (.v 0) "number"),(.aR 0 "seen" (.v 0) [])]),
 .ret (.jm (.cmp .Is (.fld (.fld (.v 0) "stand_now") "flying") (.c .au)) (.lst [.v 1]) (.lst [.v 1,(.aR 1 "ask" (.v 0) [(.fld (.v 0) "stand_now")])]))]
def Z7:List Str:=["seen","ask"]
def L_:Stmt:=inClass (bg 43) 11
theorem Z8:MX L8 L_ ag ag ag Z7 ag ag ag L9 0:=λG=>have g:=G.toGood;(ah (aP G<|dQ<|ai aH<|ai (bf g<|aa g)<|ai (dr g<|aa g) aj)<|ah (aY<|oI (aT g (bf g<|bf g<|aa g) eG) (cE<|ai (aa g) aj)<|cE<|ai (aa g)<|ai (eh g (aa g)<|ai (bf g<|aa g) aj) aj) aq)
def Ma:Stmt:=bg 45
theorem Z9:MX JH Ma ag ag jr ag ag ag ag JI 0:=λG=>have g:=G.toGood;(ah (aX (aT g (aa g)<|cp g<|ai (aa g) aj) (ah (aY<|aJ g (aa g)<|aa g) aq) aq)<|ah (aY ax) aq)
def CY:List Str:=["_law_found"]
def Mb:Stmt:=bg 46
theorem Z_:MX CY Mb ag ag Jl ag ag ag ag Jk 0:=λG=>have g:=G.toGood;(ah (aY<|iE (kz g<|aa g)<|jR<|Cs g<|kz g<|aa g) aq)
def Mc:Stmt:=bg 47
theorem aaa:MX JJ Mc ag ag ag ag ag ag ag JK 0:=λG=>have g:=G.toGood;(ah (aP G<|aQ g (aQ g (aQ g (aQ g (aa g) ax)<|aQ g ax<|aa g) ax) ax)<|ah (aY<|aQ g (aQ g (aQ g (aQ g (aa g)<|aa g) ax)<|aa g) ax) aq)
def CT:List Str:=["_law_cell","_law_size","_law_some"]
def Md:Stmt:=bg 48
theorem aab:MX CT Md Yg ag Yh ag ag ag ag JL 0:=λG=>have g:=G.toGood;(ah (aP G aH)<|ah (aP G<|aQ g (aa g) aH)<|ah (aX (aT g (aQ g (aa g) ax) ax) (ah (aP G aH) aq) aq)<|ah (aY<|cO g aH<|ai (qy (ln:=["_law_k"]) g (rfl) (qz g<|aa g) qx<|λ_ g=>(aJ g (aa g)<|aQ g (aQ g (aS g<|ai (aa g)<|ai (aa g) aj) ax)<|cp g<|ai (aa g) aj)) aj) aq)
def CU:List Str:=["_law_cell","_law_text_here","_law_many","_law_parts_here","_law_at","_law_k","_law_number","_law_size","_law_left"]
def Me:Stmt:=bg 49
theorem aac:MX CU Me Yi ag Yj ag ag ag ag JM 0:=λG=>have g:=G.toGood;(ah (aP G<|cE aj)<|ah (aP G ax)<|ah (mW G (qz g<|aa g)<|ah (aP G<|aS g<|ai (aa g)<|ai (aQ g ax<|aa g) aj)<|ah (aP G<|aJ g (cE<|ai ax<|ai ax<|ai ax<|ai ax<|ai ax<|ai ax aj)<|aQ g (aQ g (aa g) ax) ax)<|ah (aP G<|cp g<|ai (aa g)<|ai (aQ g (cp g<|ai (aa g) aj)<|aa g) aj)<|ah (aX (aT g (aQ g (aa g) ax) ax) (ah (cq<|cO g (aa g)<|ai (dQ<|ai aH<|ai (aS g<|ai (aa g)<|ai (aa g) aj) aj) aj) aq)<|ah (aX (aT g (aQ g (aa g) ax) ax) (ah (cq<|cO g (aa g)<|ai (dQ<|ai aH<|ai (kA g (aa g) (gE<|aa g)<|gE<|aQ g (aa g)<|aa g) aj) aj) aq)<|ah (cq<|cO g (aa g)<|ai (dQ<|ai aH<|ai (aa g) aj) aj) aq) aq)<|ah (aX (aT g (aQ g (aa g) ax) ax) (ah (aP G<|aQ g (aa g)<|aa g) aq) aq) aq)<|ah (aY<|aQ g (aa g)<|cE<|ai (dQ<|ai aH<|ai (aQ g (cp g<|ai (aa g) aj)<|aa g) aj) aj) aq)
def Mf:Stmt:=bg 50
theorem aad:MX JN Mf ag ag Yk ag ag ag ag JO 0:=λG=>have g:=G.toGood;(ah (aP G<|cE<|ai (cE<|ai aH<|ai aH<|ai ax aj) aj)<|ah (qB [(_,_),(_,_)] G (gU g<|aa g)<|ah (aX (aT g (aa g) aH) (ah (qA (aQ g (aJ g (aJ g (aa g)<|jQ ax) ax)<|aa g) (aJ g (aa g)<|jQ ax) ax) aq)<|ah (aX (aT g (aa g) aH) (ah (aX (aT g (aJ g (aJ g (aa g)<|jQ ax) ax) ax) (ah (cq<|cO g (aa g)<|ai (cE<|ai aH<|ai aH<|ai ax aj) aj) aq) aq)<|ah (qA (aQ g (aJ g (aJ g (aa g)<|jQ ax)<|cp g<|ai (iD g (aa g) aH) aj)<|aa g) (aJ g (aa g)<|jQ ax)<|cp g<|ai (iD g (aa g) aH) aj) aq) aq) aq) aq)<|ah (aP G<|cE aj)<|ah (qB [(_,_),(_,_),(_,_)] G (gU g<|aa g)<|ah (aP G<|cE<|ai (dQ<|ai aH<|ai (aa g) aj)<|ai (dQ<|ai aH<|ai (aa g) aj)<|ai (dQ<|ai aH<|ai (aa g) aj) aj)<|ah (aP G<|aQ g (aa g)<|qy (ln:=["_law_part"]) g (rfl) (gU g<|aa g) (Ct λ_ g=>(PW.pt<|sZ (aT g (aJ g (aa g) ax) aH)<|sY<|aT g (aJ g (aa g) ax) ax))<|λ_ g=>(aa g)) aq)<|ah (aY<|aa g) aq)
def Mg:Stmt:=bg 51
theorem aae:MX JP Mg Yl ag ag ag ag ag ag JQ 0:=λG=>have g:=G.toGood;(ah (aY<|aS g<|ai (aS g<|ai (aa g)<|ai (aa g)<|ai (aa g) aj) aj) aq)
def CW:List Str:=["_law_text_here","_law_change_here","_law_found","_law_at","_law_word","_law_thing"]
def Mh:Stmt:=bg 52
theorem aaf:MX CW Mh ag ag jr ag ag ag ag JR 0:=λG=>have g:=G.toGood;(ah (aP G aH)<|ah (aP G ax)<|ah (qB [(_,_),(_,_)] G (gU g<|aa g)<|ah (aX (aT g (aa g) aH) (ah (aP G<|aQ g (aa g)<|aa g) aq)<|ah (aX (aT g (aa g) aH) (ah (aP G<|aQ g (aa g)<|cp g<|ai (aa g) aj) aq)<|ah (aP G<|aQ g (aa g)<|kA g (aa g) (gE<|aa g)<|gE<|aQ g (aa g)<|aa g)<|ah (aP G<|aQ g (aa g)<|aa g) aq) aq) aq)<|ah (aY<|aa g) aq)
def Mi:List Str:=["_law_script","_law_size","_law_text_here","_law_hands","_law_some"]
noncomputable def Mj:List RS:=
 [.asg 1 (.bin .Mod (.call 0 [.v 0,(.c (.int 0))]) (.c (.int 25))),
 .asg 2 (.call 1 [(.call 0 [.v 0,(.c<|.int 1)]),.v 1]),
 .asg 3 (.bin .Add (.c<|.int 1)<|.bin .Mod (.call 0 [.v 0,(.c<|.int 2)])<|.c<|.int 4),
 .sL 4 (.comp none [("_law_text_here",2)] .fA [.v 3] none<|.make 0 [.v 0,.v 1]),
 .ret (.xt tm [(.c (.str "server")),(.make 1 [.v 2,.v 3]),(.c (.str "hands")),.v 4,(.c (.str "post")),(.lst []),(.c (.str "first")),.v 2])]
def aag:List Str:=["_law_cell_at","_law_text"]
def aah:List Str:=["Hand","Server"]
def Ml:Stmt:=bg 53
theorem aai:MX Mi Ml aag ag zb ag aah ag ag Mj 0:=λG=>have g:=G.toGood;(ah (aP G<|aQ g (aS g<|ai (aa g)<|ai ax aj) ax)<|ah (aP G<|aS g<|ai (aS g<|ai (aa g)<|ai ax aj)<|ai (aa g) aj)<|ah (aP G<|aQ g ax<|aQ g (aS g<|ai (aa g)<|ai ax aj) ax)<|ah (Cw (ln:=["_law_k"]) G (rfl) (rfl) (rfl) (qz g<|aa g) qx<|λ_ g=>(qw g<|ai (aa g)<|ai (aa g) aj))<|ah (aY<|Yz<|y8 aH (qw g<|ai (aa g)<|ai (aa g) aj)<|y8 aH (aa g)<|y8 aH (cE aj)<|y8 aH (aa g) Yy) aq)
def Mm:List Str:=["_law_room_here","_law_letter","_law_told_here"]
noncomputable def vE:List RS:=
 [.ite (.cmp .NotEq (.ix (.v 1) (.c (.int 0))) (.c (.str "took"))) [.dput (.v 0) (.c (.str "post")) (.bin .Add (.dc (.v 0) (.c (.str "post"))) (.aR 0 "came" (.dc (.v 0) (.c (.str "server"))) [.v 1])),
  .ret (.lst [])] [],
 .asg 2 (.aR 1 "came" (.ix (.dc (.v 0)<|.c<|.str "hands")<|.ix (.v 1)<|.c<|.int 1) [.v 1]),
 .dput (.v 0) (.c<|.str "post") (.bin .Add (.dc (.v 0)<|.c<|.str "post")<|.ix (.v 2)<|.c<|.int 0),
 .ret (.ix (.v 2) (.c (.int 1)))]
def aaj:List Str:=["came","came"]
def Mn:Stmt:=bg 54
theorem aak:MX Mm Mn ag ag ag aaj ag ag ag vE 0:=λG=>have g:=G.toGood;(ah (aX (aT g (aJ g (aa g) ax) aH) (ah (s_ G (aQ g (eU g (aa g) aH)<|eh g (eU g (aa g) aH)<|ai (aa g) aj) (aa g) aH)<|ah (aY<|cE aj) aq) aq)<|ah (aP G<|eh g (aJ g (eU g (aa g) aH)<|aJ g (aa g) ax)<|ai (aa g) aj)<|ah (s_ G (aQ g (eU g (aa g) aH)<|aJ g (aa g) ax) (aa g) aH)<|ah (aY<|aJ g (aa g) ax) aq)
def Df:List Str:=["_law_letter"]
noncomputable def Dg:List RS:=
 [.ite (.gA .list (.ix (.v 0) (.neg (.c (.int 1))))) [.ret (.bin .Add (.sl (.v 0) none (some (.neg (.c (.int 1))))) (.tup [(.blt .list [(.ix (.v 0) (.neg (.c (.int 1))))])]))] [],
 .ret (.v 0)]
def Mo:Stmt:=bg 55
theorem aal:MX Df Mo ag ag Jt ag ag ag ag Dg 0:=λG=>have g:=G.toGood;(ah (aX (vw g<|kz g<|aJ g (aa g)<|jQ ax) (ah (aY<|aQ g (kA g (aa g) yV<|gE<|jQ ax)<|dQ<|ai (cp g<|ai (aJ g (aa g)<|jQ ax) aj) aj) aq) aq)<|ah (aY<|aa g) aq)
def Mp:List Str:=["_law_text_here","_law_change_here","_law_at","_law_word","_law_thing"]
noncomputable def Mq:List RS:=
 [.asg 2 (.c (.int 0)),
 .lO [3,4] .list [.v 1] [.ite (.and [(.cmp .Eq (.v 3) (.c (.str "cut"))),(.cmp .NotEq (.sl (.v 0) (some (.v 2)) (some (.bin .Add (.v 2) (.blt .len [.v 4])))) (.v 4))]) [.ret (.c (.bl false))] [],
  .ite (.cmp .NotEq (.v 3) (.c (.str "put"))) [.asg 2 (.bin .Add (.v 2) (.jm (.cmp .Eq (.v 3) (.c (.str "keep"))) (.v 4) (.blt .len [.v 4])))] []],
 .ret (.cmp .Eq (.v 2) (.blt .len [.v 0]))]
def Mr:Stmt:=bg 56
theorem aam:MX Mp Mr ag ag jr ag ag ag ag Mq 0:=λG=>have g:=G.toGood;(ah (aP G ax)<|ah (qB [(_,_),(_,_)] G (gU g<|aa g)<|ah (aX (PW.pt<|sZ (aT g (aa g) aH)<|sY<|aT g (kA g (aa g) (gE<|aa g)<|gE<|aQ g (aa g)<|cp g<|ai (aa g) aj)<|aa g) (ah (aY jo) aq) aq)<|ah (aX (aT g (aa g) aH) (ah (aP G<|aQ g (aa g)<|oI (aT g (aa g) aH) (aa g)<|cp g<|ai (aa g) aj) aq) aq) aq)<|ah (aY<|iD g (aa g)<|cp g<|ai (aa g) aj) aq)
def Ms:List Str:=["_law_room_here","_law_found","_law_number","_law_change_here"]
noncomputable def Mt:List RS:=
 [.asg 1 (.lst [(.dc (.v 0) (.c (.str "first")))]),
 .iA 2 .sJ [(.c (.int 1)),(.bin .Add (.aR 0 "many" (.dc (.v 0) (.c (.str "server"))) []) (.c (.int 1)))] [.asg 3 (.aR 1 "change" (.dc (.v 0) (.c (.str "server"))) [.v 2]),
  .ite (.not<|.call 0 [(.ix (.v 1)<|.neg<|.c<|.int 1),.v 3]) [.ret<|.c .au] [],
  .drop (.bK .append (.v 1) [(.call 1 [(.ix (.v 1) (.neg (.c (.int 1)))),.v 3])])],
 .ret (.v 1)]
def aan:List Str:=["_law_fits","_law_done"]
def aao:List Str:=["many","change"]
def Mu:Stmt:=bg 57
theorem aap:MX Ms Mu aan ag zb aao ag ag ag Mt 0:=λG=>have g:=G.toGood;(ah (aP G<|cE<|ai (eU g (aa g) aH) aj)<|ah (mW G (Jc g ax<|aQ g (dr g<|eU g (aa g) aH) ax)<|ah (aP G<|eh g (eU g (aa g) aH)<|ai (aa g) aj)<|ah (aX (dF<|fY g<|aS g<|ai (aJ g (aa g)<|jQ ax)<|ai (aa g) aj) (ah (aY eG) aq) aq)<|ah (cq<|cO g (aa g)<|ai (aS g<|ai (aJ g (aa g)<|jQ ax)<|ai (aa g) aj) aj) aq)<|ah (aY<|aa g) aq)
def Mv:List Str:=["_law_hand","_law_cell","_law_found","_law_k","_law_turn"]
noncomputable def Mw:List RS:=
 [.asg 2 (.lst [.c .au,.c .au,.c .au,.c .au]),
 .iA 3 .fA [(.c (.int 4))] [.asg 4 (.bin .Mod (.bin .Add (.v 1) (.bin .Mult (.v 3) (.bin .Add (.c (.int 1)) (.bin .Mult (.c (.int 2)) (.bin .Mod (.bin .FloorDiv (.v 1) (.c (.int 4))) (.c (.int 2))))))) (.c (.int 4))),
  .ite (.cmp .Eq (.v 4) (.c (.int 0))) [.set (.v 2) (.c (.int 0)) (.aR 0 "seen" (.v 0) [])] [.ite (.cmp .Eq (.v 4) (.c (.int 1))) [.set (.v 2) (.c (.int 1)) (.aR 1 "flight" (.v 0) [])] [.ite (.cmp .Eq (.v 4) (.c (.int 2))) [.set (.v 2) (.c (.int 2)) (.aR 2 "waiting" (.v 0) [])] [.set (.v 2) (.c (.int 3)) (.aR 3 "text" (.v 0) [])]]]],
 .ret (.v 2)]
def aaq:List Str:=["seen","flight","waiting","text"]
def Mx:Stmt:=bg 58
theorem aar:MX Mv Mx ag ag zb aaq ag ag ag Mw 0:=λG=>have g:=G.toGood;(ah (aP G<|cE<|ai eG<|ai eG<|ai eG<|ai eG aj)<|ah (mW G (qz g ax)<|ah (aP G<|aQ g (aQ g (aa g)<|aQ g (aa g)<|aQ g ax<|aQ g ax<|aQ g (aQ g (aa g) ax) ax) ax)<|ah (aX (aT g (aa g) ax) (ah (qA (dr g<|aa g) (aa g) ax) aq)<|ah (aX (aT g (aa g) ax) (ah (qA (dr g<|aa g) (aa g) ax) aq)<|ah (aX (aT g (aa g) ax) (ah (qA (dr g<|aa g) (aa g) ax) aq)<|ah (qA (dr g<|aa g) (aa g) ax) aq) aq) aq) aq)<|ah (aY<|aa g) aq)
def lW:List Str:=["_law_room_here","_law_cell","_law_many","_law_some","_law_told_here","_law_last","_law_texts_here","_law_seen","_law_flight","_law_waiting","_law_mine","_law_text_here","_law_change_here"]
noncomputable def f9:List RS:=
 [.asg 2 (.blt .len [(.dc (.v 0) (.c (.str "hands")))]),
 .sL 3 (.comp none [("_law_many",2),("_law_cell",1)] .fA [.v 2] none<|.bin .Mod (.bin .Add (.v 2)<|.v 0)<|.v 1),
 .sL 4 (.comp none [("_law_room_here",0),("_law_cell",1)] .list [.v 3] none<|.call 0 [(.ix (.dc (.v 1)<|.c<|.str "hands")<|.v 0),(.bin .Add (.bin .FloorDiv (.v 2)<|.c<|.int 4)<|.v 0)]),
 .asg 5 (.aR 0 "text" (.dc (.v 0)<|.c<|.str "server") []),
 .asg 6 (.call 1 [.v 0]),
 .ite (.or [(.cmp .Is (.v 6)<|.c .au),(.cmp .NotEq (.ix (.v 6)<|.neg<|.c<|.int 1)<|.v 5),(.cmp .NotEq (.aR 0 "text" (.dc (.v 0)<|.c<|.str "server") [])<|.v 5)]) [.ret<|.c<|.bl false] [],
 .lO [7,8,9,10] .list [.v 4] [.ite (.or [(.not (.call 2 [.v 7])),(.not (.lN .LtE .Lt (.c (.int 0)) (.v 7) (.blt .len [.v 6])))]) [.ret (.c (.bl false))] [],
  .asg 11 (.ix (.v 6)<|.v 7),
  .iA 12 .list [(.lst [.v 8,.v 9])] [.ite (.cmp .IsNot (.v 12) (.c .au)) [.ite (.not (.call 3 [.v 11,.v 12])) [.ret (.c (.bl false))] [],
    .asg 11 (.call 4 [.v 11,.v 12])] []],
  .ite (.or [(.cmp .NotEq (.v 11) (.v 10)),(.and [(.cmp .Is (.v 8) (.c .au)),(.cmp .IsNot (.v 9) (.c .au))])]) [.ret (.c (.bl false))] []],
 .ret (.c (.bl true))]
def m3:List Str:=["_law_told","_law_texts","_law_whole","_law_fits","_law_done"]
def m4:List Str:=["len","range"]
def lX:List Str:=["text"]
def f_:Stmt:=bg 59
theorem aas:MY lW f_ m3 ag m4 lX ag ag ag f9 0 0:=by
 intro CX Γ X G;have g:=G.toGood;show PS X (.Assign [.Name "_law_many" _] _ _) (ee Γ<|.asg 2 _)
 with_reducible exact(aP G<|cp g<|ai (eU g (aa g) aH) aj)
theorem aat:MY lW f_ m3 ag m4 lX ag ag ag f9 0 1:=λG=>have g:=G.toGood;(Cw (ln:=["_law_k"]) G (rfl) (rfl) (rfl) (qz g<|aa g) qx<|λ_ g=>(aQ g (aQ g (aa g)<|aa g)<|aa g))
theorem aau:MY lW f_ m3 ag m4 lX ag ag ag f9 0 2:=λG=>have g:=G.toGood;(Cw (ln:=["_law_k"]) G (rfl) (rfl) (rfl) (gU g<|aa g) qx<|λ_ g=>(aS g<|ai (aJ g (eU g (aa g) aH)<|aa g)<|ai (aQ g (aQ g (aa g) ax)<|aa g) aj))
theorem aav:MY lW f_ m3 ag m4 lX ag ag ag f9 0 3:=by
 intro CX Γ X G;have g:=G.toGood;show PS X (.Assign [.Name "_law_last" _] _ _) (ee Γ<|.asg 5 _)
 with_reducible exact(aP G<|dr g<|eU g (aa g) aH)
theorem aaw:MY lW f_ m3 ag m4 lX ag ag ag f9 0 4:=by
 intro CX Γ X G;have g:=G.toGood;show PS X (.Assign [.Name "_law_texts_here" _] _ _) (ee Γ<|.asg 6 _)
 with_reducible exact(aP G<|aS g<|ai (aa g) aj)
theorem aax:MY lW f_ m3 ag m4 lX ag ag ag f9 0 5:=λG=>have g:=G.toGood;(aX (PW.pt<|iG (aT g (aa g) eG)<|iG (aT g (aJ g (aa g)<|jQ ax)<|aa g)<|kD<|aT g (dr g<|eU g (aa g) aH)<|aa g) (ah (aY jo) aq) aq)
theorem aay:MY lW f_ m3 ag m4 lX ag ag ag f9 0 6:=λG=>have g:=G.toGood;(qB [(_,_),(_,_),(_,_),(_,_)] G (gU g<|aa g)<|ah (aX (PW.pt<|iG (dF<|fY g<|aS g<|ai (aa g) aj)<|kD<|dF<|XZ g ax (aa g)<|cp g<|ai (aa g) aj) (ah (aY jo) aq) aq)<|ah (aP G<|aJ g (aa g)<|aa g)<|ah (mW G (gU g<|cE<|ai (aa g)<|ai (aa g) aj)<|ah (aX (aT g (aa g) eG) (ah (aX (dF<|fY g<|aS g<|ai (aa g)<|ai (aa g) aj) (ah (aY jo) aq) aq)<|ah (aP G<|aS g<|ai (aa g)<|ai (aa g) aj) aq) aq) aq)<|ah (aX (PW.pt<|iG (aT g (aa g)<|aa g)<|kD<|PW.pt<|sZ (aT g (aa g) eG)<|sY<|aT g (aa g) eG) (ah (aY jo) aq) aq) aq)
theorem aaz:MY lW f_ m3 ag m4 lX ag ag ag f9 0 7:=by
 intro CX Γ X G;show PS X (.Return (some _) _) (ee Γ<|.ret _)
 with_reducible exact(aY jo)
theorem aaA:MX lW f_ m3 ag m4 lX ag ag ag f9 0:=by
 intro CX Γ X G;have e:gQ f_=[mY f_ 0,mY f_ 1,mY f_ 2,mY f_ 3,mY f_ 4,mY f_ 5,mY f_ 6,mY f_ 7]:=rfl
 have e2:f9=[mZ f9 0,mZ f9 1,mZ f9 2,mZ f9 3,mZ f9 4,mZ f9 5,mZ f9 6,mZ f9 7]:=rfl
 rw[e,e2]
 with_reducible exact ah (aas G) (ah (aat G)<|ah (aau G)<|ah (aav G)<|ah (aaw G)<|ah (aax G)<|ah (aay G)<|ah (aaz G)<|aq)
def My:List Str:=["_law_room_here","_law_cell","_law_stays","_law_at","_law_letter","_law_before","_law_change_here"]
noncomputable def zf:List RS:=
 [.asg 3 (.bin .Mod (.v 1) (.blt .len [(.dc (.v 0) (.c (.str "post")))])),
 .asg 4 (.ix (.dc (.v 0)<|.c<|.str "post")<|.v 3),
 .ite (.not<|.v 2) [.dput (.v 0) (.c<|.str "post")<|.bin .Add (.sl (.dc (.v 0)<|.c<|.str "post") none<|some<|.v 3)<|.sl (.dc (.v 0)<|.c<|.str "post") (some<|.bin .Add (.v 3)<|.c<|.int 1) none] [],
 .asg 5 (.c<|.str ""),
 .ite (.cmp .Eq (.ix (.v 4)<|.c<|.int 0)<|.c<|.str "took") [.asg 5<|.aR 0 "text" (.ix (.dc (.v 0)<|.c<|.str "hands")<|.ix (.v 4)<|.c<|.int 1) []] [],
 .iA 6 .list [(.call 0 [.v 0,(.call 1 [.v 4])])] [.ite (.not (.call 2 [.v 5,.v 6])) [.ret (.c (.bl false))] [],
  .asg 5 (.call 3 [.v 5,.v 6])],
 .ret (.or [(.cmp .NotEq (.ix (.v 4) (.c (.int 0))) (.c (.str "took"))),(.cmp .Eq (.v 5) (.aR 0 "text" (.ix (.dc (.v 0) (.c (.str "hands"))) (.ix (.v 4) (.c (.int 1)))) []))])]
def aaB:List Str:=["_law_came","_law_copied","_law_fits","_law_done"]
def Mz:Stmt:=bg 60
theorem aaC:MX My Mz aaB ag jr lX ag ag ag zf 0:=λG=>have g:=G.toGood;(ah (aP G<|aQ g (aa g)<|cp g<|ai (eU g (aa g) aH) aj)<|ah (aP G<|aJ g (eU g (aa g) aH)<|aa g)<|ah (aX (dF<|X0 g<|aa g) (ah (s_ G (aQ g (kA g (eU g (aa g) aH) yV<|gE<|aa g)<|kA g (eU g (aa g) aH) (gE<|aQ g (aa g) ax) yV) (aa g) aH) aq) aq)<|ah (aP G aH)<|ah (aX (aT g (aJ g (aa g) ax) aH) (ah (aP G<|dr g<|aJ g (eU g (aa g) aH)<|aJ g (aa g) ax) aq) aq)<|ah (mW G (gU g<|aS g<|ai (aa g)<|ai (aS g<|ai (aa g) aj) aj)<|ah (aX (dF<|fY g<|aS g<|ai (aa g)<|ai (aa g) aj) (ah (aY jo) aq) aq)<|ah (aP G<|aS g<|ai (aa g)<|ai (aa g) aj) aq)<|ah (aY<|XR (iD g (aJ g (aa g) ax) aH)<|XQ<|iD g (aa g)<|dr g<|aJ g (eU g (aa g) aH)<|aJ g (aa g) ax) aq)
def MA:List Str:=["_law_room_here","_law_cell","_law_kind","_law_hand","_law_more"]
noncomputable def MB:List RS:=
 [.asg 2 (.bin .Mod (.v 1) (.c (.int 8))),
 .asg 3 (.ix (.dc (.v 0)<|.c<|.str "hands")<|.bin .Mod (.bin .FloorDiv (.v 1)<|.c<|.int 8)<|.blt .len [(.dc (.v 0)<|.c<|.str "hands")]),
 .asg 4 (.bin .FloorDiv (.v 1)<|.c<|.int 64),
 .ite (.cmp .Eq (.v 2)<|.c<|.int 7) [.dput (.v 0) (.c<|.str "post")<|.bin .Add (.dc (.v 0)<|.c<|.str "post")<|.aR 0 "nudge" (.v 3) []] [.ite (.or [(.cmp .Lt (.v 2)<|.c<|.int 3),(.cmp .Eq (.dc (.v 0)<|.c<|.str "post")<|.lst [])]) [.dput (.v 0) (.c<|.str "post")<|.bin .Add (.dc (.v 0)<|.c<|.str "post")<|.aR 1 "do" (.v 3) [(.call 0 [(.bin .FloorDiv (.v 4)<|.c<|.int 9),(.aR 2 "text" (.v 3) []),(.bin .Mod (.v 4)<|.c<|.int 9)])]] [.ret<|.call 1 [.v 0,(.bin .FloorDiv (.v 1)<|.c<|.int 8),(.cmp .Eq (.v 2)<|.c<|.int 3)]]],
 .ret (.c (.bl true))]
def aaD:List Str:=["_law_change","_law_handed"]
def aaE:List Str:=["nudge","do","text"]
def MC:Stmt:=bg 61
theorem aaF:MX MA MC aaD ag jr aaE ag ag ag MB 0:=λG=>have g:=G.toGood;(ah (aP G<|aQ g (aa g) ax)<|ah (aP G<|aJ g (eU g (aa g) aH)<|aQ g (aQ g (aa g) ax)<|cp g<|ai (eU g (aa g) aH) aj)<|ah (aP G<|aQ g (aa g) ax)<|ah (aX (aT g (aa g) ax) (ah (s_ G (aQ g (eU g (aa g) aH)<|dr g<|aa g) (aa g) aH) aq)<|ah (aX (PW.pt<|iG (aT g (aa g) ax)<|kD<|aT g (eU g (aa g) aH)<|cE aj) (ah (s_ G (aQ g (eU g (aa g) aH)<|eh g (aa g)<|ai (aS g<|ai (aQ g (aa g) ax)<|ai (dr g<|aa g)<|ai (aQ g (aa g) ax) aj) aj) (aa g) aH) aq)<|ah (aY<|aS g<|ai (aa g)<|ai (aQ g (aa g) ax)<|ai (iD g (aa g) ax) aj) aq) aq)<|ah (aY jo) aq)
def MD:List Str:=["_law_script","_law_room_here","_law_cell"]
noncomputable def ME:List RS:=
 [.asg 1 (.call 0 [.v 0]),
 .iA 2 .list [(.sl (.v 0) (some<|.c<|.int 3)<|some<|.c<|.int 19)] [.ite (.or [(.not<|.call 1 [.v 1,.v 2]),(.not<|.call 2 [.v 1,(.bin .FloorDiv (.v 2)<|.c<|.int 5)])]) [.ret<|.c<|.bl false] []],
 .ret (.call 2 [.v 1,(.c (.int 0))])]
def aaG:List Str:=["_law_room","_law_deed","_law_stands"]
def MF:Stmt:=bg 62
theorem aaH:MX MD MF aaG ag ag ag ag ag ag ME 0:=λG=>have g:=G.toGood;(ah (aP G<|aS g<|ai (aa g) aj)<|ah (mW G (gU g<|kA g (aa g) (gE ax)<|gE ax)<|ah (aX (PW.pt<|iG (dF<|fY g<|aS g<|ai (aa g)<|ai (aa g) aj)<|kD<|dF<|fY g<|aS g<|ai (aa g)<|ai (aQ g (aa g) ax) aj) (ah (aY jo) aq) aq) aq)<|ah (aY<|aS g<|ai (aa g)<|ai ax aj) aq)
end L2.fZ
namespace L2.B
def dR(H H':Hp):Prop:= ∀b xs,H b=some (.tup xs)->H' b=some (.tup xs)
theorem bM(h:aC H H'):dR H H':=λb xs e=>h b _ e
theorem dR.trans(a:dR H H1)(b:dR H1 H2):dR H H2:=λc xs e=>b c xs (a c xs e)
theorem sameNew{o:HO}(h:H p=none):aC H (upd H p o):=λb u e=>by rw[az<|aM e h];exact e
def aW(c:Addr)(H H':Hp):Prop:= ∀b o,H b=some o->b≠c->H' b=some o
theorem aW.upd{o:HO}:aW c H (upd H c o):=λb u e n=>by rw[az n];exact e
theorem aW.trans(a:aW c H H1)(b:aW c H1 H2):aW c H H2:=λd o e n=>b d o (a d o e n) n
theorem sameBut(a:aC H H1)(b:aW c H1 H2):aW c H H2:=λd o e n=>b d o (a d o e) n
theorem m5(a:aC H H1)(hc:H c=none)(b:aW c H1 H2):aC H H2:=λd o e=>b d o (a d o e) (aM e hc)
theorem aW.dD(h:aW c H H')(hc:H c=some (.lst xs)):dR H H':=λb ys e=>h b _ e (λz=>by lia)
theorem iF{A B:Prop}(q:B)(h:c=false:=by first|rfl|decide):if c=true then A else B:=by lia
theorem iT{A B:Prop}(q:A)(h:c=true:=by first|rfl|decide):if c=true then A else B:=by lia
inductive Pt where|keep (n:Int)|put (s:Str)|cut (s:Str)
 deriving DecidableEq
def Pt.word:Pt->Str|.keep _=> "keep" |.put _=> "put" |.cut _=> "cut"
def Pt.val:Pt->V|.keep n=>.int n|.put s=>.str s|.cut s=>.str s
def i4(H:Hp)(v:V)(p:Pt):Prop:= ∃a,v=.ref a/\H a=some (.tup [.str p.word,p.val])
abbrev aG(H:Hp):List V->List Pt->Prop:=Paired (i4 H)
theorem i4.mono(t:dR H H')(h:i4 H v p):i4 H' v p:=by
 obtain⟨a,e,h⟩:=h;exact⟨a,e,t _ _ h⟩
theorem aG.mono(t:dR H H'):∀{vs:List V}{ps:List Pt},aG H vs ps->aG H' vs ps
 |_,_,.nil=>.nil
 |_,_,.cons h r=>.cons (h.mono t) (aG.mono t r)
theorem aG.get:∀{vs:List V}{ps:List Pt}{i:Nat}{v:V},aG H vs ps->vs[i]?=some v->∃p,ps[i]?=some p/\i4 H v p
 |_,_,i,v,.nil,e=>by simp at e
 |_,_,0,v,.cons h r,e=>by simp at e;subst e;exact⟨_,rfl,h⟩
 |_,_,i+1,v,.cons h r,e=>by
  obtain⟨p,a,b⟩:=aG.get r (by simpa using e)
  exact⟨p,by simpa using a,b⟩
theorem aG.snoc{p:Pt}(h:aG H vs ps)(q:i4 H v p):aG H (vs++[v]) (ps++[p]):=Paired.snoc h q
theorem aG.dropLast:∀{vs:List V}{ps:List Pt},aG H vs ps->aG H vs.dropLast ps.dropLast
 |_,_,.nil=>.nil
 |_,_,.cons h .nil=>.nil
 |_,_,.cons h (.cons h2 r)=>.cons h (aG.dropLast<|.cons h2 r)
inductive lY (vs:List V)(H:Hp)(Q:VK)(E:XK):Prop|i(i:_)(_:vs=[.int i])(_:Q (.bl true) H)
def oP(w a:Str):Bool:=w !=a && !(a=="cut" && w=="put")
inductive MG (vs:List V)(H:Hp)(Q:VK)(E:XK):Prop|i(w a:_)(_:vs=[.str w,.str a])(_:Q (.bl<|oP w a) H)
theorem aaI{K:Frag}(vs:List V)(H:Hp)(Q:VK)(E:XK)(h:MG vs H Q E):aE (aN K [] [] (E:=E)) Jq {nx:=λ_ H'=>Q .au H',rt:=Q} (start Jp vs) H:=by
 obtain⟨w,a,rfl,q⟩:=h;refine⟨_,rfl,_,rfl,_,rfl,?_⟩;unfold oP at q;refine fV (λh=>?_)<|λh=>?_
 ·rw[zaM,h_] at h;have e:(w !=a)=true:=h;rw[e] at q;refine⟨_,rfl,_,rfl,?_⟩;refine fV (λh2=>?_)<|λh2=>?_
  ·rw[zaH,h_] at h2;rw[h2] at q;refine⟨_,rfl,?_⟩;show Q (.bl<|!(false ^^ decide (V.str w=V.str "put"))) H;rw[zaH,h_];exact q
  ·have e2:(a=="cut")=false:=by lia
   rw[e2] at q;exact q
 ·have e:(w !=a)=false:=by lia
  rw[e] at q;exact q
def qI:Pt->Int|.keep n=>n|.put s=>s.length|.cut s=>s.length
def qJ:Pt->Prop|.keep _=>True|.put s=>s.length<=1000000|.cut s=>s.length<=1000000
theorem cP(h:n<=1000000):n<=sizeLine:=zaq h (by decide)
theorem dg(h:n<=1000000):n<sizeLine:=Nat.lt_of_le_of_lt h (by decide)
inductive oQ (vs:List V)(H:Hp)(Q:VK)(E:XK):Prop|i(v p:_)(_:vs=[v])(_:i4 H v p)(_:qJ p)(_:Q (.int<|qI p) H)
theorem aaJ{K:Frag}(vs:List V)(H:Hp)(Q:VK)(E:XK)(h:oQ vs H Q E):aE (aN K [] [] (E:=E)) Jw {nx:=λ_ H'=>Q .au H',rt:=Q} (start Jv vs) H:=by
 obtain⟨v,p,rfl,⟨a,rfl,ha⟩,ho,q⟩:=h;refine⟨_,rfl,.inr<|.inl ⟨_,_,_,_,rfl,rfl,aL.of ha,rfl,_,rfl,?_⟩⟩;cases p with
 |keep n=>exact fU ⟨_,rfl,.inr<|.inl ⟨_,_,_,_,rfl,rfl,aL.of ha,rfl,q⟩⟩
 |put s=>exact iy ⟨_,rfl,.inr<|.inl ⟨_,_,_,_,rfl,rfl,aL.of ha,rfl,cP ho,q⟩⟩
 |cut s=>exact iy ⟨_,rfl,.inr<|.inl ⟨_,_,_,_,rfl,rfl,aL.of ha,rfl,cP ho,q⟩⟩
def cell(ns:List Int)(k:Nat):Int:=ns.getD k 0
inductive vF (K:Frag)(vs:List V)(H:Hp)(Q:VK)(E:XK):Prop|i(a:Addr)(ns:List Int)(k:Int)(_:vs=[.ref a,.int k])(_:aB K H a (ns.map V.int))(_:0<=k)(_:Q (.int<|cell ns k.toNat) H)
theorem aaK{K:Frag}(vs:List V)(H:Hp)(Q:VK)(E:XK)(h:vF K vs H Q E):aE (aN K [] [] (E:=E)) JI {nx:=λ_ H'=>Q .au H',rt:=Q} (start JH vs) H:=by
 obtain⟨a,ns,k,rfl,ha,hk,q⟩:=h;refine⟨_,rfl,_,rfl,.inl ⟨_,ha,trivial,_,rfl,?_⟩⟩;rw[zaf];refine fV (λh=>?_)<|λh=>?_
 ·refine⟨_,rfl,_,rfl,.inl ⟨_,_,_,_,rfl,rfl,ha,?_,q⟩⟩;have e:=fE (xs:=ns.map V.int) (j:=k.toNat) (v:=.int (cell ns k.toNat)) (by
   have:k.toNat<ns.length:=by lia
   simp[cell,this])
  rw[show((k.toNat:Nat):Int)=k by lia] at e
  exact e
 ·have e:cell ns k.toNat=0:=by
   have z:ns[k.toNat]?=none:=List.getElem?_eq_none_iff.mpr (by lia)
   unfold cell;rw[zaN,z];rfl
  rw[e] at q;exact q
theorem Dh:(0:Int) <1000003:=by decide
def mixed(c k:Int):Int:=let n:=(c*48271+7919*k+11) % 1000003;n*n % 1000003*n % 1000003
inductive Di (vs:List V)(H:Hp)(Q:VK)(E:XK):Prop|i(c k:_)(_:vs=[.int c,.int k])(_:Q (.int<|mixed c k) H)
theorem aaL{K:Frag}(vs:List V)(H:Hp)(Q:VK)(E:XK)(h:Di vs H Q E):aE (aN K [] [] (E:=E)) JK {nx:=λ_ H'=>Q .au H',rt:=Q} (start JJ vs) H:=by
 obtain⟨c,k,rfl,q⟩:=h
 refine⟨_,rfl,.inr ⟨by lia,by lia⟩,_,rfl,.inl ⟨by lia,by lia⟩,Dh,?_⟩
 refine⟨_,rfl,_,rfl,.inl ⟨by lia,by lia⟩,Dh,_,rfl,.inl ⟨by lia,by lia⟩,Dh,?_⟩
 exact q
theorem aaM(c k:Int):0<=mixed c k/\mixed c k<1000003:=⟨zaI _ (by lia),zaJ _ (by lia)⟩
def SG:Str:=" !\"#$&'()*+,-./0123456789:;<=>?@ABCDEFGHIJKLMNOPQRSTUVWXYZ[\\]^_`abcdefghijklmnopqrstuvwxyz{|}~\n"
def good(x:Str):Prop:=x.length<=1000000/\∀c∈x.cps.toList,SG.cps.contains c=true
theorem takeWhile_all{α:Type}(p:α->Bool):∀l:List α,(∀c∈l,p c=true)->l.takeWhile p=l
 |[],_=>rfl
 |c::l,h=>by rw[List.takeWhile_cons,h c zau,takeWhile_all p l λd hd=>h d (zav _ hd)];rfl
theorem aaN(x y:Str)(h:∀c∈x.cps.toList,y.cps.contains c=true):Txt.lstripChars x y="":=by
 have e0:stripLo y.cps.contains true x=x.length:=by
  unfold stripLo;rw[takeWhile_all _ _ h]
  simp[Str.length]
 unfold Txt.lstripChars Txt.stripBy stripSame stripped;rw[e0]
 split
 ·rename_i hq
  simp at hq
  have:=Array.eq_empty_of_size_eq_zero hq.1;obtain⟨c⟩:=x;subst this
  rfl
 ·show(⟨x.cps.extract x.length x.length⟩:Str)=_;have:x.cps.extract x.length x.length= #[]:=by simp[Str.length]
  rw[this];rfl
theorem vG{a:Addr}{T:Ty}{k:Bool->Prop}(h:H a=some (.tup xs))(q:k (T==.tuple)):cb T (.ref a) H k:=by
 show(match H a with|some (.lst _)=>k (T==.list)|some (.cj _<|.lst _)=>k (T==.list)|some (.tup _)=>k (T==.tuple)|some (.dK _)=>k (T==.dict)|some (.dT _)=>k (T==.dict)|_=>False)
 rw[h];exact q
theorem MH{a:Addr}{T:Ty}{k:Bool->Prop}(h:H a=some (.lst xs))(q:k (T==.list)):cb T (.ref a) H k:=by
 show(match H a with|some (.lst _)=>k (T==.list)|some (.cj _<|.lst _)=>k (T==.list)|some (.tup _)=>k (T==.tuple)|some (.dK _)=>k (T==.dict)|some (.dT _)=>k (T==.dict)|_=>False)
 rw[h];exact q
abbrev gS:List (Str×V):=[("SIGNS",.str SG)]
inductive aaO (vs:List V)(H:Hp)(Q:VK)(E:XK):Prop|i(x:_)(_:vs=[.str x])(_:good x)(_:Q (.bl true) H)
theorem aaP{K:Frag}(vs:List V)(H:Hp)(Q:VK)(E:XK)(h:aaO vs H Q E):aE (aN K [] gS (E:=E)) CQ {nx:=λ_ H'=>Q .au H',rt:=Q} (start jq vs) H:=by
 obtain⟨x,rfl,hx,q⟩:=h;refine⟨_,rfl,rfl,_,rfl,fU ⟨_,rfl,rfl,cP hx.1,?_⟩⟩;rw[aaN x SG hx.2];exact q
def ba:Pt->Prop|.keep n=>1<=n|.put s=>good s/\s≠"" |.cut s=>good s/\s≠""
inductive lZ (K:Frag)(vs:List V)(H:Hp)(Q:VK)(E:XK):Prop|i(w p xs:_)(_:vs=[.str w,.ref p])(_:aL K H p xs)(_:xs.all iU=true)(_:Q (.bl<|gP (.str w) xs) H)
theorem aaQ{K:Frag}(vs:List V)(H:Hp)(Q:VK)(E:XK)(h:lZ K vs H Q E):aE (aN K [] [] (E:=E)) CO {nx:=λ_ H'=>Q .au H',rt:=Q} (start CM vs) H:=by
 obtain⟨w,p,xs,rfl,hp,hf,q⟩:=h;exact⟨_,rfl,rfl,_,rfl,fU ⟨_,rfl,_,rfl,p,xs,rfl,.inr hp,rfl,hf,q⟩⟩
inductive Dj (vs:List V)(H:Hp)(Q:VK)(E:XK):Prop|i(v p:_)(_:vs=[v])(_:i4 H v p)(_:ba p)(_:∀H',aC H H'->Q (.bl true) H')
def chainOk:Str->List Pt->Bool
 |_,[]=>true
 |a,p::r=>oP p.word a && chainOk p.word r
def qK(a:Str)(ps:List Pt):Nat->Str
 | 0=>a
 |i+1=>match ps[i]? with|some p=>p.word|none=> ""
theorem MI:∀(ps:List Pt) (a:Str) (i:Nat) (p:Pt),chainOk a ps=true->ps[i]?=some p->oP p.word (qK a ps i)=true
 |[],_,_,_,_,h=>by simp at h
 |q::r,a,0,p,h,e=>by
  simp only[chainOk,zae] at h
  simp at e;subst e;exact h.1
 |q::r,a,i+1,p,h,e=>by
  simp only[chainOk,zae] at h
  have ih:=MI r q.word i p h.2 (by simpa using e);cases i with
  |zero=>simpa[qK] using ih
  |succ i=>simpa[qK] using ih
abbrev aaR:List (Str×Sp):=[("is_part",Dj),("may_follow",MG)]
inductive zg (vs:List V)(H:Hp)(Q:VK)(E:XK):Prop|i(a xs ps:_)(_:vs=[.ref a])(_:H a=some (.lst xs))(_:aG H xs ps)(_:(∀p∈ps,ba p))(_:chainOk "" ps=true)(_:∀H',aC H H'->Q .au H')
theorem aaS{K:Frag}{et:List (Str×Addr)}(vs:List V)(H:Hp)(Q:VK)(E:XK)(h:zg vs H Q E):aE (aN K aaR [] (et:=et) (E:=E)) Js {nx:=λ_ H'=>Q .au H',rt:=Q} (start Jr vs) H:=by
 obtain⟨a,xs,ps,rfl,ha,cv,aF,bZ,q⟩:=h;refine⟨_,rfl,rfl,MH ha ⟨_,rfl,a,rfl,⟨_,aB.of ha⟩,iR (λi σ H2=>∃v,σ=[some (.ref a),some (.str (qK "" ps i)),v]/\aC H H2) ⟨none,rfl,aC.refl _⟩
  (λi σ H2 _ ⟨_,_,s2⟩=>aB.of (s2 _ _ ha)) ?_ ?_⟩⟩
 ·rintro i x σ H2 hi ⟨v,rfl,s2⟩;obtain⟨p,hp,kH⟩:=cv.get hi;obtain⟨b,rfl,hb⟩:=kH.mono (bM s2);refine⟨_,rfl,_,p,rfl,⟨b,rfl,hb⟩,aF p<|zal hp,λH3 s3=>⟨_,rfl,.inr<|.inl ⟨_,_,_,_,rfl,rfl,aL.of<|s3 _ _ hb,rfl,_,rfl,p.word,_,rfl,?_⟩⟩⟩;show(λc H1=>if (!c)=true then _ else _) (oP p.word<|qK "" ps i) H3
  rw[(MI ps "" i p bZ hp)];refine⟨_,rfl,.inr<|.inl ⟨_,_,_,_,rfl,rfl,aL.of<|s3 _ _ hb,rfl,some<|.ref b,?_,s2.trans s3⟩⟩;show[some<|V.ref a,some<|V.str p.word,some<|V.ref b]=_;have e2:qK "" ps (i+1)=p.word:=by simp only[qK,hp]
  rw[e2]
 ·rintro σ H2 ⟨v,rfl,s2⟩;exact q H2 s2
def overOf(ps:List Pt):List Int:=(ps.filter λp=>decide (p.word≠ ("put":Str))).map qI
def vH(ps:List Pt):List Int:=(ps.filter λp=>decide (p.word≠ ("cut":Str))).map qI
abbrev MJ:List (Str×Sp):=[("need_change",zg),("part_size",oQ)]
inductive m6 (vs:List V)(H:Hp)(Q:VK)(E:XK):Prop|i(a xs ps:_)(_:vs=[.ref a])(_:H a=some (.lst xs))(_:aG H xs ps)(_:(∀p∈ps,ba p))(_:chainOk "" ps=true)(_:ps.length<=1000000)(_:∀t H',aC H H'->H' t=some (.tup [.int (overOf ps).sum,.int (vH ps).sum])->Q (.ref t) H')
theorem qL(h:ba p):qJ p:=by
 cases p with
 |keep n=>trivial
 |put s=>exact h.1.1
 |cut s=>exact h.1.1
theorem aaT{α:Type}(p:α->Bool)(l:List α)(i:Nat)(v:α)(h:l[i]?=some v):(l.take<|i+1).filter p=(l.take i).filter p++(if p v then [v] else []):=by
 rw[zbq,h];cases hp:p v<;>simp[hp]
theorem aaU{K:Frag}(vs:List V)(H:Hp)(Q:VK)(E:XK)(h:m6 vs H Q E):aE (aN K MJ [] (E:=E)) Jy {nx:=λ_ H'=>Q .au H',rt:=Q} (start Jx vs) H:=by
 obtain⟨a,xs,ps,rfl,ha,cv,aF,bZ,hlen,q⟩:=h;refine⟨_,rfl,a,xs,ps,rfl,ha,cv,aF,bZ,λH1 s1=>?_⟩;have hl:=Paired.length cv;have comp:∀(w:Str) (H1:Hp) (Q1:VK) (σ:St),aC H H1->σ[0]?=some (some<|.ref a)->
   (∀b H2,aC H H2->H2 b=some (.lst<|((ps.filter λp=>decide (p.word≠w)).map qI).map V.int)->Q1 (.ref b) H2)->
   af (aN K MJ []) (.comp none [] .list [.v 0] (some<|.cmp .NotEq (.ix (.v 0)<|.c<|.int 0)<|.c<|.str w)<|.call 1 [.v 0]) σ H1 Q1:=by
  intro w H1 Q1 σ s1 hσ hq;refine⟨_,hσ,a,rfl,⟨_,aB.of<|s1 _ _ ha⟩,λi m ys H2=>m=xs.length - i/\i<=xs.length/\aC H H2/\ys=(((ps.take i).filter λp=>decide (p.word≠w)).map qI).map V.int,⟨_,rfl,zqZ _,s1,rfl⟩,?_⟩;rintro i m ys H2 ⟨rfl,hi,s2,rfl⟩;by_cases bE:i<xs.length
  ·refine .inr ⟨⟨xs,xs[i],aB.of<|s2 _ _ ha,by simp⟩,?_⟩
   rintro x H3 ⟨rfl,hx⟩;obtain⟨p,hp,kH⟩:=cv.get (hx xs (aB.of<|s2 _ _ ha));obtain⟨b,rfl,hb⟩:=kH.mono (bM s2);refine⟨_,rfl,.inr<|.inl ⟨_,_,_,_,rfl,rfl,aL.of hb,rfl,_,rfl,?_⟩⟩;have tf:=aaT (λp=>decide<|p.word≠w) ps i p hp;have hc:((ps.take i).filter λp=>decide (p.word≠w)).length<=1000000:=zaq (List.length_filter_le _ _) (zaq (List.length_take_le _ _) (by lia))
   refine fV (λh=>?_)<|λh=>?_
   ·have e:decide (p.word≠w)=true:=by lia
    refine⟨_,rfl,_,p,rfl,⟨b,rfl,hb⟩,qL<|aF p<|zal hp,?_,xs.length - (i+1),by lia,rfl,bE,s2,?_⟩
    ·rw[zaf,zaf];exact dg hc
    ·rw[tf,e];simp
   ·have e:=by simpa using h
    refine⟨xs.length - (i+1),by lia,rfl,bE,s2,?_⟩
    rw[tf,e];simp
  ·have jt:i=xs.length:=by lia
   subst jt;refine .inl ⟨⟨xs,aB.of<|s2 _ _ ha,zqR _⟩,λp hp=>?_⟩;have e:ps.take xs.length=ps:=zaG (by lia)
   rw[e];exact hq p _ (s2.trans<|sameNew hp) ay
 exact Jh<|Ji<|Jj<|comp "put" H1 _ _ s1 rfl λb1 H2 s2 e2=>⟨_,aB.of e2,Jh<|Ji<|Jj<|comp "cut" H2 _ _ s2 rfl λb2 H3 s3 e3=>⟨_,aB.of e3,⟨_,rfl,_,rfl,e7,λt ht=>q t _ (s3.trans<|sameNew ht) ay⟩⟩⟩
def cat(ts:List Str):Str:=Txt.join "" ts
def sz(ts:List Str):Nat:=(ts.map Str.length).sum
theorem ofString_empty:(Str.ofString "")=⟨#[]⟩:=rfl
theorem tG(ts:List Str):(cat ts).cps.toList=(ts.map λt=>t.cps.toList).flatten:=by
 have e:(Str.ofString "").cps= #[]:=rfl;cases ts with
 |nil=>rfl
 |cons t r=>
  show(r.foldl (λacc p=>acc++(Str.ofString "").cps++p.cps) t.cps).toList=_;rw[e];have go:∀(r:List Str) (acc:Array Nat),(r.foldl (λacc p=>acc++ #[]++p.cps) acc).toList=acc.toList++(r.map λt=>t.cps.toList).flatten:=by
   intro r
   induction r with
   |nil=>intro acc;simp
   |cons q r ih=>
    intro acc;show(r.foldl (λacc p=>acc++ #[]++p.cps)<|acc++ #[]++q.cps).toList=_;rw[ih];simp
  rw[go];simp
theorem iJ(h:x.cps.toList=y.cps.toList):x=y:=by
 obtain⟨x⟩:=x;obtain⟨y⟩:=y;exact congrArg Str.mk<|Array.toList_inj.mp h
theorem app_list(x y:Str):(x++y).cps.toList=x.cps.toList++y.cps.toList:=by
 show(x.cps++y.cps).toList=_
 simp
theorem Dk(a b:List Str):cat (a++b)=cat a++cat b:=iJ (by rw[app_list,tG,tG,tG];simp)
theorem Dl(x:Str):cat [x]=x:=iJ (by rw[tG];simp)
theorem len_list(x:Str):x.length=x.cps.toList.length:=rfl
theorem Dm(ts:List Str):(cat ts).length=sz ts:=by
 rw[len_list,tG,List.length_flatten];rw[List.map_map]
 congr 1
theorem MK(x:Str):x++(Str.ofString "")=x:=rfl
theorem tH(x:Str):(Str.ofString "")++x=x:=iJ (by rw[app_list];simp[ofString_empty])
theorem ML(a b:List Str):sz (a++b)=sz a+sz b:=by simp[sz]
theorem joinOk_of(h:sz ts<=1000000):JoinOk "" ts=true:=by
 have go:∀(l:List Str) (n:Nat),l.foldl (· + ·.length+(Str.ofString "").length) n=n+sz l:=by
  intro l
  induction l with
  |nil=>intro n;rfl
  |cons t r ih=>
   intro n;show r.foldl _ (n+t.length+0)=_;rw[ih];show n+t.length+0+sz r=n+(t.length+sz r);lia
 unfold JoinOk;have e:ts.toArray.foldl (· + ·.length+(Str.ofString "").length) 0=sz ts:=by
  rw[List.foldl_toArray,go,Nat.zero_add]
 rw[e];show(!decide (sz ts>sizeLine))=true;rw[zqF (by have:=cP h;lia)]
 rfl
def txt(mk:Str->Pt)(x:Str):List Pt:=if x="" then [] else [mk x]
def dS(ch:List Pt)(cQ c6:List Str):List Pt:=ch++txt .put (cat cQ)++txt .cut (cat c6)
inductive MM (vs:List V)(H:Hp)(Q:VK)(E:XK):Prop|i(c p q xs ps cQ c6:_)(_:vs=[.ref c,.ref p,.ref q])(_:H c=some (.lst xs))(_:aG H xs ps)(_:H p=some (.lst<|cQ.map .str))(_:H q=some (.lst<|c6.map .str))(_:sz cQ<=1000000)(_:sz c6<=1000000)(_:ps.length<=900000)(_:∀H' bB,aW c H H'->H' c=some (.lst bB)->aG H' bB (dS ps cQ c6)->Q .au H')
theorem aaV{K:Frag}(vs:List V)(H:Hp)(Q:VK)(E:XK)(h:MM vs H Q E):aE (aN K [] [] (E:=E)) JC {nx:=λ_ H'=>Q .au H',rt:=Q} (start JB vs) H:=by
 obtain⟨c,p,q,xs,ps,cQ,c6,rfl,hc,cv,hp,hq,vI,Dp,hl,k⟩:=h;refine⟨rfl,_,rfl,cQ,aB.of hp,joinOk_of vI,⟨rfl,_,rfl,c6,aB.of hq,joinOk_of Dp,?_⟩⟩;have MN:∀(i:Nat) (w x:Str) (mk:Str->Pt) (H1:Hp) (gF:List V) (l7:List Pt) (σ:St) (D:Ends),(∀y,(mk y).word=w/\(mk y).val=.str y)->H1 c=some (.lst gF)->aG H1 gF l7->l7.length<=950000->σ[0]?=some (some<|.ref c)->σ[i]?=some (some<|.str x)->
   (∀H2 gV,aW c H1 H2->H2 c=some (.lst gV)->aG H2 gV (l7++txt mk x)->D.nx σ H2)->
   ee (aN K [] []) (.ite (.cmp .NotEq (.v i)<|.c<|.str "") [.drop<|.bK .append (.v 0) [(.tup [(.c<|.str w),.v i])]] []) D σ H1:=by
  intro i w x mk H1 gF l7 σ D ju gb tI c7 h0 hi kk;have aaW:=Paired.length tI;refine⟨_,hi,_,rfl,fV (λh=>?_)<|λh=>?_⟩
  ·have ne:x≠"":=by lia
   refine⟨_,h0,.inl ⟨rfl,_,aB.of gb⟩,_,hi,e7,λt ht=>?_⟩;have vJ:=aM gb ht;refine⟨gF,(by rw[az vJ];exact gb),dg (by lia),kk _ (gF++[.ref t]) ((sameBut (sameNew ht) aW.upd)) ay ?_⟩
   have tt:dR H1 (upd (upd H1 t<|.tup [.str w,.str x]) c<|.lst<|gF++[.ref t]):=(sameBut (sameNew ht) aW.upd).dD gb;unfold txt;rw[if_neg ne];refine aG.snoc (tI.mono tt) ⟨t,rfl,?_⟩;rw[az vJ.symm,ay,(ju x).1,(ju x).2]
  ·have e:x="":=by lia
   refine kk H1 gF (λb o e _=>e) gb ?_;unfold txt;rw[if_pos e,zaa];exact tI
 refine MN 3 "put" (cat cQ) .put H xs ps _ _ (λ_=>⟨rfl,rfl⟩) hc cv (by lia) rfl rfl λH2 gV b2 c4 m8=>?_
 have l2:(ps++txt .put (cat cQ)).length<=950000:=by
  rw[zqA];have:(txt .put<|cat cQ).length<=1:=by unfold txt;split<;>simp
  lia
 exact MN 4 "cut" (cat c6) .cut H2 gV _ _ _ (λ_=>⟨rfl,rfl⟩) c4 m8 l2 rfl rfl λH3 jW b3 kI tJ=>k H3 jW (b2.trans b3) kI tJ
def eI(ch:List Pt)(n:Int):List Pt:=match ch.getLast? with
 |some (.keep m)=>ch.dropLast++[.keep<|n+m]
 |_=>ch++[.keep n]
inductive MO (vs:List V)(H:Hp)(Q:VK)(E:XK):Prop|i(c n xs ps:_)(_:vs=[.ref c,.int n])(_:H c=some (.lst xs))(_:aG H xs ps)(_:ps.length<=900000)(_:∀H' bB,aW c H H'->H' c=some (.lst bB)->aG H' bB (eI ps n)->Q .au H')
theorem aG.last(h:aG H xs ps)(hn:xs.length≠0):∃v p,xs[xs.length - 1]?=some v/\gN xs (-1)=some v/\ps.getLast?=some p/\i4 H v p:=by
 obtain⟨p,hp,pv⟩:=h.get (i:=xs.length - 1) (v:=xs[xs.length - 1]) (by simp)
 refine⟨xs[xs.length - 1],p,by simp,?_,?_,pv⟩
 ·unfold gN iS;have:¬(0:Int)<= -1:=by lia
  rw[if_neg this,if_pos (by lia)]
  have e:((-1:Int)+(xs.length:Int)).toNat=xs.length - 1:=by lia
  rw[e];simp
 ·rw[List.getLast?_eq_getElem?,<-Paired.length h];exact hp
theorem aaX{K:Frag}(vs:List V)(H:Hp)(Q:VK)(E:XK)(h:MO vs H Q E):aE (aN K [] [] (E:=E)) JA {nx:=λ_ H'=>Q .au H',rt:=Q} (start Jz vs) H:=by
 obtain⟨c,n,xs,ps,rfl,hc,cv,hl,k⟩:=h;have hlen:=Paired.length cv;have fin:∀(m:Int) (H1:Hp) (gF:List V) (l7:List Pt),aW c H H1->H1 c=some (.lst gF)->aG H1 gF l7->l7.length<=900000->eI ps n=l7++[.keep m]->
   aE (aN K [] []) [.drop<|.bK .append (.v 0) [(.tup [(.c<|.str "keep"),.v 1])]] {nx:=λ_ H'=>Q .au H',rt:=Q} [some<|.ref c,some<|.int m] H1:=by
  intro m H1 gF l7 b1 gb tI c7 e;have aaW:=Paired.length tI;refine⟨_,rfl,.inl ⟨rfl,_,aB.of gb⟩,_,rfl,e7,λt ht=>?_⟩;have vJ:=aM gb ht;refine⟨gF,(by rw[az vJ];exact gb),dg (by lia),k _ (gF++[.ref t]) (b1.trans<|sameBut (sameNew ht) aW.upd) ay ?_⟩
  rw[e];refine aG.snoc (tI.mono<|(sameBut (sameNew ht) aW.upd).dD gb) ⟨t,rfl,?_⟩;rw[az vJ.symm,ay];rfl
 refine⟨_,rfl,.inl ⟨_,aB.of hc,trivial,_,rfl,fV (λh=>?_)<|λh=>?_⟩⟩
 ·have hn:xs.length≠0:=by
   lia
  obtain⟨v,p,e1,e2,e3,a,rfl,ha⟩:=cv.last hn;refine⟨_,rfl,.inl ⟨_,_,_,_,rfl,rfl,aB.of hc,e2,.inr<|.inl ⟨_,_,_,_,rfl,rfl,aL.of ha,rfl,_,rfl,?_⟩⟩⟩;cases p with
  |keep m=>
   have iK:upd H c (.lst xs.dropLast) a=some (.tup [.str "keep",.int m]):=by rw[az<|cy ha hc (by lia)];exact ha
   refine⟨_,rfl,_,rfl,.inl ⟨rfl,_,aB.of hc⟩,xs,_,hc,e1,.inr<|.inl ⟨_,_,_,_,rfl,rfl,aL.of iK,rfl,?_⟩⟩
   ·refine fin (n+m) _ xs.dropLast ps.dropLast aW.upd ay (cv.dropLast.mono<|aW.upd.dD hc) (by rw[zbN];lia) ?_
    unfold eI;rw[e3]
  |put s=>exact fin n H xs ps (λb o e _=>e) hc cv hl (by unfold eI;rw[e3])
  |cut s=>exact fin n H xs ps (λb o e _=>e) hc cv hl (by unfold eI;rw[e3])
 ·have e0:ps=[]:=by
   exact zaE.mp (by lia)
  exact fin n H xs ps (λb o e _=>e) hc cv hl (by rw[e0];rfl)
abbrev NS:=List Pt×List Str×List Str
def dA:NS->Pt->NS
 |(ch,p,c),.put s=>(ch,p++[s],c)
 |(ch,p,c),.cut s=>(ch,p,c++[s])
 |(ch,p,c),.keep n=>if 0<n then (eI (dS ch p c) n,[],[]) else (ch,p,c)
def jv(ps:List Pt):List Pt:=let s:=ps.foldl dA ([],[],[]);dS s.1 s.2.1 s.2.2
def dt:Pt->Nat|.keep _=>0|.put s=>s.length|.cut s=>s.length
def aA(ps:List Pt):Nat:=(ps.map dt).sum
theorem Dq(ps:List Pt)(i:Nat):aA (ps.take i)<=aA ps:=by
 have:aA ps=aA (ps.take i)+aA (ps.drop i):=by
  unfold aA;rw[<-zbF,<-zar,zbG]
 lia
theorem MP{ps:List Pt}{p:Pt}(h:ps[i]?=some p):aA (ps.take<|i+1)=aA (ps.take i)+dt p:=by
 rw[zbq,h]
 simp[aA]
theorem MQ{α β:Type}{f:β->α->β}{b:β}{l:List α}{i:Nat}{p:α}(h:l[i]?=some p):(l.take<|i+1).foldl f b=f ((l.take i).foldl f b) p:=by
 rw[zbq,h,List.foldl_append]
 rfl
theorem MR(mk:Str->Pt)(x:Str):(txt mk x).length<=1:=by unfold txt;split<;>simp
theorem zh(ch:List Pt)(p c:List Str):(dS ch p c).length<=ch.length+2:=by
 unfold dS;have:=MR .put (cat p);have:=MR .cut (cat c)
 simp
 lia
theorem MT(ch:List Pt)(n:Int):(eI ch n).length<=ch.length+1:=by
 unfold eI
 split
 ·simp only[zqA,zbN,zbm];lia
 ·simp
abbrev aaY:List (Str×Sp):=[("add_texts",MM),("add_keep",MO)]
inductive qM (vs:List V)(H:Hp)(Q:VK)(E:XK):Prop|i(a xs ps:_)(_:vs=[.ref a])(_:H a=some (.lst xs))(_:aG H xs ps)(_:ps.length<=100000)(_:aA ps<=100000)(_:∀b H' ys,aC H H'->H b=none->H' b=some (.lst ys)->aG H' ys (jv ps)->Q (.ref b) H')
theorem aaZ{K:Frag}(vs:List V)(H:Hp)(Q:VK)(E:XK)(h:qM vs H Q E):aE (aN K aaY [] (E:=E)) JE {nx:=λ_ H'=>Q .au H',rt:=Q} (start JD vs) H:=by
 obtain⟨a,xs,ps,rfl,ha,cv,hl,ht,k⟩:=h;have hlen:=Paired.length cv;refine⟨zqZ _,λc hc=>⟨zqZ _,λp0 qN=>⟨zqZ _,λq0 tK=>?_⟩⟩⟩;have Dr:c≠p0:=λz=>by rw[<-z,ay] at qN;cases qN
 have MU:c≠q0:=λz=>by rw[<-z,az Dr,ay] at tK;cases tK
 have MV:p0≠q0:=λz=>by rw[<-z,ay] at tK;cases tK
 have s0:aC H (upd (upd (upd H c<|.lst []) p0<|.lst []) q0<|.lst []):=(sameNew hc).trans ((sameNew qN).trans<|sameNew tK);have fp0:H p0=none:=(sameNew hc).free qN;have fq0:H q0=none:=((sameNew hc).trans<|sameNew qN).free tK;refine⟨_,rfl,a,rfl,⟨_,aB.of (s0 _ _ ha)⟩,iR (K:=K) (a:=a) (xs:=xs) (λi σ H2=>qX8 λp q ch cQ c6 m_ w x=>qA16 (σ=[some (.ref a),some (.ref c),some (.ref p),some (.ref q),w,x]) (H p=none) (H q=none) (p≠c) (q≠c) (p≠q) (aC H H2) (H2 c=some (.lst m_)) (aG H2 m_ ch) (H2 p=some (.lst (cQ.map .str))) (H2 q=some (.lst (c6.map .str))) ((ps.take i).foldl dA ([],[],[])=(ch,cQ,c6)) (ch.length<=3*i) (cQ.length<=i) (c6.length<=i) (sz cQ+sz c6<=aA (ps.take i)))
  ⟨p0,q0,[],[],[],[],none,none,rfl,fp0,fq0,Dr.symm,MU.symm,MV,s0,(by rw[az MU,az Dr,ay]),.nil,(by rw[az MV,ay];rfl),ay,rfl,by simp,by simp,by simp,by simp[sz]⟩
  (λi σ H2 _ ⟨_,_,_,_,_,_,_,_,_,_,_,_,_,_,s2,_,_,_,_,_,_,_,_,_⟩=>aB.of (s2 _ _ ha)) ?_ ?_⟩
 ·rintro i x σ H2 hi ⟨p,q,ch,cQ,c6,m_,w,x',rfl,fp,fq,pc,qc,pq,s2,tL,bZ,oS,oU,ef,l1,l2,l3,l4⟩;obtain⟨pt,gc,kH⟩:=cv.get hi;obtain⟨b,rfl,hb⟩:=kH.mono (bM s2);have d_:i<ps.length:=(zad.mp gc).1;have oV:(ps.take<|i+1).foldl dA ([],[],[])=dA (ch,cQ,c6) pt:=by rw[MQ gc,ef]
  have et:=MP gc;have tb:=Dq ps i;refine⟨b,_,rfl,.inl<|aL.of hb,rfl,_,_,rfl,_,_,rfl,rfl,?_⟩;cases pt with
  |put s=>
   refine⟨_,rfl,_,rfl,_,rfl,.inl ⟨rfl,_,aB.of oS⟩,_,rfl,_,oS,dg (by rw[zaf];lia),?_⟩
   have bt:aW p H2 (upd H2 p<|.lst<|cQ.map V.str++[.str s]):=aW.upd;refine⟨p,q,ch,cQ++[s],c6,m_,_,_,rfl,fp,fq,pc,qc,pq,m5 s2 fp bt,bt _ _ tL pc.symm,bZ.mono<|bt.dD oS,(by rw[ay,zar];rfl),bt _ _ oU pq.symm,oV,by lia,by simp;lia,by lia,?_⟩
   rw[ML,et];show sz cQ+(s.length+0)+sz c6<=aA (ps.take i)+s.length;lia
  |cut s=>
   refine⟨_,rfl,_,rfl,_,rfl,_,rfl,_,rfl,.inl ⟨rfl,_,aB.of oU⟩,_,rfl,_,oU,dg (by rw[zaf];lia),?_⟩
   have bt:aW q H2 (upd H2 q<|.lst<|c6.map V.str++[.str s]):=aW.upd;refine⟨p,q,ch,cQ,c6++[s],m_,_,_,rfl,fp,fq,pc,qc,pq,m5 s2 fq bt,bt _ _ tL qc.symm,bZ.mono<|bt.dD oU,bt _ _ oS pq,(by rw[ay,zar];rfl),oV,by lia,by lia,by simp;lia,?_⟩
   rw[ML,et];show sz cQ+(sz c6+(s.length+0))<=aA (ps.take i)+s.length;lia
  |keep n=>
   refine⟨_,rfl,_,rfl,_,rfl,_,rfl,_,rfl,trivial,_,rfl,?_⟩;refine fV (λh=>?_)<|λh=>?_
   ·have hn:0<n:=of_decide_eq_true h;have e2:dA (ch,cQ,c6) (.keep n)=(eI (dS ch cQ c6) n,[],[]):=if_pos hn;refine⟨_,rfl,_,rfl,_,rfl,c,p,q,m_,ch,cQ,c6,rfl,tL,bZ,oS,oU,by lia,by lia,by lia,λH3 jW b3 zi Ds=>?_⟩
    have s3:aC H H3:=m5 s2 hc b3;refine⟨zqZ _,λp1 eJ=>⟨zqZ _,λq1 eV=>?_⟩⟩;have Dt:c≠p1:=aM zi eJ;have jX:upd H3 p1 (.lst []) c=some (.lst jW):=by rw[az Dt];exact zi
    have Du:c≠q1:=aM jX eV;have MW:p1≠q1:=λz=>by rw[<-z,ay] at eV;cases eV
    have ng:upd (upd H3 p1<|.lst []) q1 (.lst []) c=some (.lst jW):=by rw[az Du];exact jX
    have s5:aC H3 (upd (upd H3 p1<|.lst []) q1<|.lst []):=(sameNew eJ).trans (sameNew eV);refine⟨_,rfl,_,rfl,c,n,jW,_,rfl,ng,Ds.mono<|bM s5,?_,λH6 xs6 b6 iL zj=>?_⟩
    ·have:=zh ch cQ c6;lia
    ·refine⟨p1,q1,_,[],[],xs6,_,_,rfl,s3.free eJ,(s3.trans<|sameNew eJ).free eV,Dt.symm,Du.symm,MW,m5 (s3.trans s5) hc b6,iL,zj,b6 _ _ (by rw[az MW,ay];rfl) Dt.symm,b6 _ _ (by rw[ay];rfl) Du.symm,oV.trans e2,?_,by simp,by simp,by simp[sz]⟩
     have:=zh ch cQ c6;have:=MT (dS ch cQ c6) n;lia
   ·have hn:¬0<n:=λz=>h (zqT z);have e2:dA (ch,cQ,c6) (.keep n)=(ch,cQ,c6):=if_neg hn;refine⟨p,q,ch,cQ,c6,m_,_,_,rfl,fp,fq,pc,qc,pq,s2,tL,bZ,oS,oU,oV.trans e2,by lia,by lia,by lia,by lia⟩
 ·rintro σ H2 ⟨p,q,ch,cQ,c6,m_,w,x',rfl,fp,fq,pc,qc,pq,s2,tL,bZ,oS,oU,ef,l1,l2,l3,l4⟩;have e:ps.take xs.length=ps:=zaG (by lia)
  rw[e] at ef l4;refine⟨_,rfl,_,rfl,_,rfl,c,p,q,m_,ch,cQ,c6,rfl,tL,bZ,oS,oU,by lia,by lia,by lia,λH3 jW b3 zi Ds=>?_⟩
  refine⟨_,rfl,k c H3 jW (m5 s2 hc b3) hc zi ?_⟩;unfold jv;rw[ef];exact Ds
def A1:Str:=" !\"#$&'()*+,-./0123456789:;<=>?@ABCDEFGHIJKLMNOPQRSTUVWXYZ[\\]^_`"
def A2:Str:="abcdefghijklmnopqrstuvwxyz{|}~\n"
def A3:Str:="ab\n"
def zk(al:Str):Prop:=0<al.length/\al.length<=1000/\∀c∈al.cps.toList,SG.cps.contains c=true
theorem MZ(h:(decide (0<al.length) && decide (al.length<=1000) && al.cps.toList.all λc=>SG.cps.contains c)=true):zk al:=by
 simp only[zae,decide_eq_true_eq,zbE] at h
 exact⟨h.1.1,h.1.2,h.2⟩
theorem aa3:zk (A1++A2):=MZ (by decide+kernel)
theorem nh:zk A3:=MZ (by decide+kernel)
theorem aa4:A1.length+A2.length<=sizeLine:=by decide+kernel
abbrev M0:List (Str×Sp):=[("_law_mixed",Di)]
inductive zl (vs:List V)(H:Hp)(Q:VK)(E:XK):Prop|i(c n:_)(_:vs=[.int c,.int n])(_:0<=n)(_:n<=1000)(_:∀x H',good x->x.length=n.toNat->aC H H'->Q (.str x) H')
def Dv(t:Str):Prop:=t.length=1/\∀c∈t.cps.toList,SG.cps.contains c=true
theorem zm:∀(ts:List Str),(∀t∈ts,Dv t)->sz ts=ts.length
 |[],_=>rfl
 |t::r,h=>by
  show t.length+sz r=r.length+1;rw[(h t zau).1,zm r λq hq=>h q (zav _ hq)];lia
theorem aa5(h:∀t∈ts,Dv t)(hl:ts.length<=1000):good (cat ts):=by
 refine⟨by rw[Dm,zm ts h];lia,λc hc=>?_⟩
 rw[tG,zbH] at hc;obtain⟨l,hl,hc⟩:=hc;obtain⟨t,ht,rfl⟩:=zam.mp hl;exact(h t ht).2 c hc
theorem aa6{K:Frag}(vs:List V)(H:Hp)(Q:VK)(E:XK)(h:zl vs H Q E):aE (aN K M0 [] (E:=E)) JL {nx:=λ_ H'=>Q .au H',rt:=Q} (start CT vs) H:=by
 obtain⟨c,n,rfl,vK,fg,k⟩:=h;have fin:∀(al:Str),zk al->aE (aN K M0 [] (E:=E)) [.ret<|.bK .join (.c<|.str "") [(.comp none [("_law_some",2),("_law_cell",0)] .fA [.v 1] none<|.ix (.v 1)<|.bin .Mod (.bin .FloorDiv (.call 0 [.v 2,.v 0])<|.c<|.int 7)<|.blt .len [.v 1])]]
   {nx:=λ_ H'=>Q .au H',rt:=Q} [some<|.int c,some<|.int n,some<|.str al] H:=by
  intro al ho;refine⟨rfl,_,rfl,n,rfl,by lia,by lia,λi m ys H2=>m=n.toNat - i/\i<=n.toNat/\H2=H/\∃ts:List Str,ys=ts.map V.str/\ts.length=i/\∀t∈ts,Dv t,⟨_,rfl,zqZ _,rfl,[],rfl,rfl,λt ht=>by cases ht⟩,?_⟩
  rintro i m ys H2 ⟨rfl,hi,rfl,ts,rfl,hl,zo⟩;by_cases bE:i<n.toNat
  ·refine .inr ⟨bE,?_⟩;rintro x H3 ⟨rfl,rfl⟩;refine⟨_,rfl,_,rfl,_,rfl,_,_,rfl,⟨by decide,by decide⟩,_,rfl,cP (by have:=ho.2.1;lia),(by have:=ho.1;lia),?_⟩
   have hj0:0<=mixed c (0+(i:Int)) / 7 % (al.length:Int):=zaI _ (by have:=ho.1;lia)
   have hj1:mixed c (0+(i:Int)) / 7 % (al.length:Int) < (al.length:Int):=zaJ _ (by have:=ho.1;lia)
   obtain⟨j,ej⟩:∃j,j=mixed c (0+(i:Int)) / 7 % (al.length:Int):=⟨_,rfl⟩;have M1:j.toNat<al.cps.toList.length:=by rw[<-len_list];lia
   refine .inr<|.inr<|.inl ⟨al,j,al.cps.toList[j.toNat],rfl,(by rw[ej]),cP (by have:=ho.2.1;lia),?_,?_,n.toNat - (i+1),by lia,rfl,bE,rfl,ts++[⟨#[al.cps.toList[j.toNat]]⟩],(by rw[zar];rfl),by simp[hl],?_⟩
   ·have e:=fE (xs:=al.cps.toList) (j:=j.toNat) (v:=al.cps.toList[j.toNat]) (by simp[M1])
    rw[show((j.toNat:Nat):Int)=j by lia] at e
    exact e
   ·rw[zaf];exact dg (by lia)
   ·intro t ht;rcases zab.mp ht with z|z
    ·exact zo t z
    ·rw[zag.mp z];refine⟨rfl,λd hd=>?_⟩;have:=by simpa using hd
     rw[this];exact ho.2.2 _<|List.getElem_mem M1
  ·have jt:i=n.toNat:=by lia
   refine .inl ⟨by show n.toNat<=i;lia,λp hp=>?_⟩
   refine⟨ts,aB.of ay,joinOk_of (by rw[zm ts zo];lia),?_⟩
   exact k (cat ts) _ (aa5 zo (by lia)) (by rw[Dm,zm ts zo,hl,jt])<|sameNew hp
 refine⟨_,rfl,aa4,_,rfl,(by lia),_,rfl,?_⟩
 refine fV (λh=>?_)<|λh=>?_
 ·exact fin A3 nh
 ·exact fin (A1++A2) aa3
def eW:Pt->Prop|.keep n=>0<=n|.put s=>good s/\s.length<=100000|.cut s=>good s/\s.length<=100000
abbrev Row:=Str×Str×Int
def kJ(r:Row):List V:=[.str r.1,.str r.2.1,.int r.2.2]
def M3(H:Hp)(v:V)(r:Row):Prop:= ∃b,v=.ref b/\H b=some (.lst<|kJ r)
abbrev ni(H:Hp):List V->List Row->Prop:=Paired (M3 H)
theorem ni.mono:∀{vs:List V}{ps:List Row},ni H vs ps->(∀v∈vs,∀b,v=.ref b->∀o,H b=some o->H' b=some o)->ni H' vs ps
 |_,_,.nil,_=>.nil
 |_,_,.cons ⟨b,e,h⟩ r,k=>.cons ⟨b,e,k _ zau b e _ h⟩ (ni.mono r λv hv=>k v (zav _ hv))
theorem ni.get:∀{vs:List V}{ps:List Row}{i:Nat}{v:V},ni H vs ps->vs[i]?=some v->∃p,ps[i]?=some p/\M3 H v p
 |_,_,i,v,.nil,e=>by simp at e
 |_,_,0,v,.cons h r,e=>by simp at e;subst e;exact⟨_,rfl,h⟩
 |_,_,i+1,v,.cons h r,e=>by
  obtain⟨p,a,b⟩:=ni.get r (by simpa using e)
  exact⟨p,by simpa using a,b⟩
def bz:List Row×Row->Pt->List Row×Row
 |(pre,r),.keep n=>(pre,(r.1,r.2.1,r.2.2+n))
 |(pre,r),.put s=>if s="" then (pre,r) else if 0<r.2.2 then (pre++[r],(Str.ofString ""++s,"",0)) else (pre,(r.1++s,r.2.1,r.2.2))
 |(pre,r),.cut s=>if s="" then (pre,r) else if 0<r.2.2 then (pre++[r],("",Str.ofString ""++s,0)) else (pre,(r.1,r.2.1++s,r.2.2))
def eK(r:Row):List Pt:=txt .put r.1++txt .cut r.2.1++(if r.2.2=0 then [] else [.keep r.2.2])
def cR(rows:List Row):List Pt:=(rows.map eK).flatten
def tM(ps:List Pt):List Row:=let s:=ps.foldl bz ([],("","",0));s.1++[s.2]
def i5(ps:List Pt):List Pt:=cR (tM ps)
structure jY (H H2:Hp) (R:Addr) (rs:List V) (b:Addr) (pre:List Row) (r:Row):Prop where
 same:aC H H2
 lst:H2 R=some (.lst<|rs++[.ref b])
 fr:H R=none
 rows:ni H2 rs pre
 last:H2 b=some (.lst<|kJ r)
 fb:H b=none
 bG:∀v∈rs,∀x,v=.ref x->H x=none/\x≠b/\x≠R
 ne:b≠R
theorem vL(xs:List V)(v:V):gN (xs++[v]) (-1)=some v:=yk xs v
theorem jY.set{rs:List V}{pre:List Row}{r r':Row}(S:jY H H2 R rs b pre r):jY H (upd H2 b<|.lst<|kJ r') R rs b pre r' where
 same:=m5 S.same S.fb aW.upd
 lst:=by rw[az S.ne.symm];exact S.lst
 fr:=S.fr
 rows:=S.rows.mono λv hv x e o h=>by rw[az (S.bG v hv x e).2.1];exact h
 last:=ay
 fb:=S.fb
 bG:=S.bG
 ne:=S.ne
theorem jY.grow{rs:List V}{pre:List Row}{r r':Row}(S:jY H H2 R rs b pre r)(ht:H2 t=none):
  jY H (upd (upd H2 t<|.lst<|kJ r') R<|.lst<|rs++[.ref b]++[.ref t]) R (rs++[.ref b]) t (pre++[r]) r':=by
 have zq:t≠R:=λz=>by rw[z,S.lst] at ht;cases ht
 have kk:∀x o,H2 x=some o->x≠R->upd (upd H2 t<|.lst<|kJ r') R (.lst<|rs++[.ref b]++[.ref t]) x=some o:=λx o e n=>by rw[az n,az<|aM e ht];exact e
 exact {
  same:=λx o e=>kk x o (S.same x o e) (aM e S.fr)
  lst:=ay
  fr:=S.fr
  rows:=Paired.snoc (S.rows.mono λv hv x e o h=>kk x o h (S.bG v hv x e).2.2) ⟨b,rfl,kk b _ S.last S.ne⟩
  last:=by rw[az zq,ay]
  fb:=S.same.free ht
  bG:=λv hv x e=>by
   rcases zab.mp hv with z|z
   ·obtain⟨h1,h2,h3⟩:=S.bG v z x e;refine⟨h1,λq=>?_,h3⟩;obtain⟨i,hi⟩:=zbe z;obtain⟨p,_,y,e',hy⟩:=S.rows.get hi;rw[e] at e';cases e';rw[q,ht] at hy;cases hy
   ·rw[zag.mp z] at e;cases e;exact⟨S.fb,(aM S.last ht),S.ne⟩
  ne:=zq}
abbrev Dn(Q:VK):Ends:={nx:=λ_ H'=>Q .au H',rt:=Q}
abbrev bQ(sp:Sp)(Γ:XK->aV)(b:List RS)(N:List Str):Prop:= ∀vs H Q E,sp vs H Q E->aE (Γ E) b (Dn Q) (start N vs) H
inductive M4 (vs:List V)(H:Hp)(Q:VK)(E:XK):Prop|i(a xs ps:_)(_:vs=[.ref a])(_:H a=some (.lst xs))(_:aG H xs ps)(_:ps.length<=100000)(_:aA ps<=100000)(_:∀b H' ys,aC H H'->H b=none->H' b=some (.lst ys)->aG H' ys (i5 ps)->Q (.ref b) H')
theorem zr{K:Frag}{R b:Addr}{rs:List V}{pre:List Row}{r r':Row}{a:Addr}{w:Str}{x4 x5 x6 x7 x8:Option V}(S:jY H H2 R rs b pre r)(i:Nat)(hi:i<2)
  (hw:(if (w=="cut")=true then 1 else 0:Int)=(i:Int)) (o:Str) (ho:(kJ r)[i]?=some (.str o)) (hr:(kJ r).set i (.str<|o++s)=kJ r') (hs:o.length+s.length<=sizeLine)
  (k:∀H3,jY H H3 R rs b pre r'->D.nx [some<|.ref a,some<|.ref R,some<|.str w,some<|.str s,x4,x5,x6,x7,x8] H3):
  ee (aN K [] [] (E:=E)) (.set (.ix (.v 1)<|.neg<|.c<|.int 1) (.blt .int [(.cmp .Eq (.v 2)<|.c<|.str "cut")])<|.bin .Add (.ix (.ix (.v 1)<|.neg<|.c<|.int 1)<|.blt .int [(.cmp .Eq (.v 2)<|.c<|.str "cut")])<|.v 3) D
   [some<|.ref a,some<|.ref R,some<|.str w,some<|.str s,x4,x5,x6,x7,x8] H2:=by
 have lb:aB K H2 b (kJ r):=aB.of S.last;have ei:(if (false ^^ decide (V.str w=V.str "cut"))=true then 1 else 0:Int)=(i:Int):=by lia
 refine⟨_,rfl,.inl ⟨_,_,_,_,rfl,rfl,aB.of S.lst,vL _ _,_,rfl,?_⟩⟩;show oy K (aN K [] []).sd (.ref b) (.int (if (false ^^ decide (V.str w=V.str "cut"))=true then 1 else 0)) H2 _
 rw[ei];refine .inl ⟨b,_,_,_,rfl,rfl,lb,fE ho,_,rfl,hs,_,rfl,.inl ⟨_,_,_,_,rfl,rfl,aB.of S.lst,vL _ _,_,rfl,?_⟩⟩;show yn (.ref b) (.int (if (false ^^ decide (V.str w=V.str "cut"))=true then 1 else 0)) (.str<|o++s) H2 _
 rw[ei];refine⟨b,kJ r,(i:Int),i,rfl,rfl,S.last,?_,?_⟩
 ·unfold iS;rw[if_pos (by lia),if_pos (by show(i:Int) < ((3:Nat):Int);lia)]
  simp
 ·rw[hr];exact k _ S.set
theorem aa_{rows:List Row}{r:Row}(h:rows[i]?=some r):cR (rows.take<|i+1)=cR (rows.take i)++eK r:=by
 unfold cR;rw[zbq,h]
 simp
theorem M5{K:Frag}{R b:Addr}{rs:List V}{pre:List Row}{r:Row}{a:Addr}{w:Str}{x4 x5 x6 x7 x8:Option V}(S:jY H H2 R rs b pre r)(p:Pt)(hp:(p=.put s/\w="put")\/(p=.cut s/\w="cut"))
  (hs:s.length<=100000) (h1:r.1.length<=100000) (h2:r.2.1.length<=100000) (hn:rs.length<=100000)
  (k:∀H3 du b',jY H H3 R du b' (bz (pre,r) p).1 (bz (pre,r) p).2->du.length<=rs.length+1->D.nx [some<|.ref a,some<|.ref R,some<|.str w,some<|.str s,x4,x5,x6,x7,x8] H3):
  aE (aN K [] [] (E:=E)) [.ite (.cmp .NotEq (.v 3) (.c (.str ""))) [.ite (.cmp .Gt (.ix (.ix (.v 1) (.neg (.c (.int 1)))) (.c (.int 2))) (.c (.int 0))) [.drop (.bK .append (.v 1) [(.lst [(.c (.str "")),(.c (.str "")),(.c (.int 0))])])] [],
    .set (.ix (.v 1) (.neg (.c (.int 1)))) (.blt .int [(.cmp .Eq (.v 2) (.c (.str "cut")))]) (.bin .Add (.ix (.ix (.v 1) (.neg (.c (.int 1)))) (.blt .int [(.cmp .Eq (.v 2) (.c (.str "cut")))])) (.v 3))] []] D
   [some<|.ref a,some<|.ref R,some<|.str w,some<|.str s,x4,x5,x6,x7,x8] H2:=by
 refine⟨_,rfl,_,rfl,?_⟩;refine fV (λh=>?_)<|λh=>?_
 ·have ne:s≠"":=by lia
  refine⟨_,rfl,.inl ⟨_,_,_,_,rfl,rfl,aB.of S.lst,vL _ _,.inl ⟨_,_,_,_,rfl,rfl,aB.of S.last,rfl,trivial,_,rfl,?_⟩⟩⟩;have line:∀n:Nat,n<=100000->n+s.length<=sizeLine:=λn hn=>cP (by lia)
  have e0:(Str.ofString "").length=0:=rfl;refine fV (λh=>?_)<|λh=>?_
  ·have hk:0<r.2.2:=of_decide_eq_true h;refine⟨_,rfl,.inl ⟨rfl,_,aB.of S.lst⟩,xH,λt ht=>?_⟩;have zq:R≠t:=aM S.lst ht;refine⟨_,(by rw[az zq];exact S.lst),dg (by rw[zqA,zbm];lia),?_⟩
   have S':=S.grow (r':=((Str.ofString "",Str.ofString "",0):Row)) ht;rcases hp with⟨rfl,rfl⟩|⟨rfl,rfl⟩
   ·have es:bz (pre,r) (.put s)=(pre++[r],((Str.ofString ""++s,Str.ofString "",0):Row)):=by show(if s="" then _ else if 0<r.2.2 then _ else _)=_;rw[if_neg ne,if_pos hk]
    rw[es] at k;exact zr S' 0 (by lia) rfl "" rfl rfl (line _ (by rw[e0];lia)) λH3 S3=>k H3 _ t S3 (by simp)
   ·have es:bz (pre,r) (.cut s)=(pre++[r],((Str.ofString "",Str.ofString ""++s,0):Row)):=by show(if s="" then _ else if 0<r.2.2 then _ else _)=_;rw[if_neg ne,if_pos hk]
    rw[es] at k;exact zr S' 1 (by lia) rfl "" rfl rfl (line _ (by rw[e0];lia)) λH3 S3=>k H3 _ t S3 (by simp)
  ·have hk:=λz=>h (zqT z);rcases hp with⟨rfl,rfl⟩|⟨rfl,rfl⟩
   ·have es:bz (pre,r) (.put s)=(pre,(r.1++s,r.2.1,r.2.2)):=by show(if s="" then _ else if 0<r.2.2 then _ else _)=_;rw[if_neg ne,if_neg hk]
    rw[es] at k;exact zr S 0 (by lia) rfl r.1 rfl rfl (line _ h1) λH3 S3=>k H3 _ b S3 (by lia)
   ·have es:bz (pre,r) (.cut s)=(pre,(r.1,r.2.1++s,r.2.2)):=by show(if s="" then _ else if 0<r.2.2 then _ else _)=_;rw[if_neg ne,if_neg hk]
    rw[es] at k;exact zr S 1 (by lia) rfl r.2.1 rfl rfl (line _ h2) λH3 S3=>k H3 _ b S3 (by lia)
 ·have e:s="":=by simpa using h
  have es:bz (pre,r) p=(pre,r):=by
   rcases hp with⟨rfl,rfl⟩|⟨rfl,rfl⟩
   ·show(if s="" then _ else _)=_;rw[if_pos e]
   ·show(if s="" then _ else _)=_;rw[if_pos e]
  rw[es] at k;exact k H2 rs b S (by lia)
theorem kN(x y:Str):(x++y).length=x.length+y.length:=by rw[len_list,app_list,zqA,<-len_list,<-len_list]
theorem aba(pre:List Row)(r:Row)(p:Pt)(n:Nat)(h1:r.1.length<=n)(h2:r.2.1.length<=n):(bz (pre,r) p).2.1.length<=n+dt p/\(bz (pre,r) p).2.2.1.length<=n+dt p:=by
 have e0:(Str.ofString "").length=0:=rfl;cases p with
 |keep m=>exact⟨by show r.1.length<=n+0;lia,by show r.2.1.length<=n+0;lia⟩
 |put s=>
  show(if s="" then (pre,r) else if 0<r.2.2 then (pre++[r],((Str.ofString ""++s,Str.ofString "",0):Row)) else (pre,(r.1++s,r.2.1,r.2.2))).2.1.length<=n+s.length/\
   (if s="" then (pre,r) else if 0<r.2.2 then (pre++[r],((Str.ofString ""++s,Str.ofString "",0):Row)) else (pre,(r.1++s,r.2.1,r.2.2))).2.2.1.length<=n+s.length
  split
  ·exact⟨by lia,by lia⟩
  ·split
   ·exact⟨by rw[kN];lia,by lia⟩
   ·exact⟨by rw[kN];lia,by lia⟩
 |cut s=>
  show(if s="" then (pre,r) else if 0<r.2.2 then (pre++[r],((Str.ofString "",Str.ofString ""++s,0):Row)) else (pre,(r.1,r.2.1++s,r.2.2))).2.1.length<=n+s.length/\
   (if s="" then (pre,r) else if 0<r.2.2 then (pre++[r],((Str.ofString "",Str.ofString ""++s,0):Row)) else (pre,(r.1,r.2.1++s,r.2.2))).2.2.1.length<=n+s.length
  split
  ·exact⟨by lia,by lia⟩
  ·split
   ·exact⟨by lia,by rw[kN];lia⟩
   ·exact⟨by lia,by rw[kN];lia⟩
theorem M6{x:V}(h:cN Γ.K op x v H Q):af Γ (.c v) σ H λy H2=>cN Γ.K op x y H2 Q:=h
theorem M7{K:Frag}{x y:V}(hs:lI x y=true)(q:Q (.bl<|true ^^ decide (x=y)) H):cN K .NotEq x y H Q:=by
 show mP true x y H Q;unfold mP;rw[hs];exact q
theorem abb{K:Frag}{l t1 t2 t3:Addr}{r:Row}{Q1:VK}(hl:H1 l=some (.lst [.ref t1,.ref t2,.ref t3]))(h1:H1 t1=some (.tup [.str "put",.str r.1]))(h2:H1 t2=some (.tup [.str "cut",.str r.2.1]))(h3:H1 t3=some (.tup [.str "keep",.int r.2.2]))
  (hσ:σ[8]?=some (some<|.ref l)) (k:∀p ys,H1 p=none->aG H1 ys (eK r)->ys.length<=3->Q1 (.ref p) (upd H1 p<|.lst ys)):
  af (aN K [] [] (E:=E)) (.comp none [] .list [.v 8] (some<|.and [(.cmp .NotEq (.ix (.v 0)<|.c<|.int 1)<|.c<|.str ""),(.cmp .NotEq (.ix (.v 0)<|.c<|.int 1)<|.c<|.int 0)])<|.v 0) σ H1 Q1:=by
 have dP:aB K H1 l [.ref t1,.ref t2,.ref t3]:=aB.of hl
 let qO:Nat->List Pt:=λi=>match i with| 0=>[]| 1=>txt .put r.1| 2=>txt .put r.1++txt .cut r.2.1|_=>eK r
 refine⟨_,hσ,l,rfl,⟨_,dP⟩,λi m ys H2=>m=3 - i/\i<=3/\H2=H1/\aG H1 ys (qO i)/\ys.length<=i,⟨_,rfl,zqZ _,rfl,.nil,zqR _⟩,?_⟩;rintro i m ys H2 ⟨rfl,hi,rfl,gW,Dw⟩;have small:ys.length<sizeLine:=dg (by lia)
 have go:∀(t:Addr) (p:Pt) (j:Nat),H2 t=some (.tup [.str p.word,p.val])->i=j->j<3->(qO (j+1)=qO j++[p]/\p.val≠ .str ""/\p.val≠ .int 0\/qO (j+1)=qO j/\(p.val=.str ""\/p.val=.int 0))->
   (∃s,p.val=.str s)\/(∃n,p.val=.int n)->
   kx (yL (aN K [] [] (E:=E)).calm<|some<|.and [(.cmp .NotEq (.ix (.v 0)<|.c<|.int 1)<|.c<|.str ""),(.cmp .NotEq (.ix (.v 0)<|.c<|.int 1)<|.c<|.int 0)]) ([V.ref t].map some++cC σ []) H2 λb H5=>
    if b=true then af (aN K [] [] (E:=E)).calm (.v 0) ([V.ref t].map some++cC σ []) H5 λy H6=>ys.length<sizeLine/\∃m',m'<3 - i/\m'=3 - (i+1)/\i+1<=3/\H6=H2/\aG H2 (ys++[y]) (qO<|i+1)/\(ys++[y]).length<=i+1
    else ∃m',m'<3 - i/\m'=3 - (i+1)/\i+1<=3/\H5=H2/\aG H2 ys (qO<|i+1)/\ys.length<=i+1:=by
  intro t p j ht ej hj hc hv;subst ej;have sc1:lI p.val (.str "")=true:=by rcases hv with⟨s,e⟩|⟨n,e⟩ <;>rw[e] <;>rfl
  have sc2:lI p.val (.int 0)=true:=by rcases hv with⟨s,e⟩|⟨n,e⟩ <;>rw[e] <;>rfl
  refine⟨_,rfl,.inr<|.inl ⟨_,_,_,_,rfl,rfl,aL.of ht,rfl,M6<|M7 sc1 ⟨_,rfl,?_⟩⟩⟩;by_cases q1:p.val=.str ""
  ·rw[zqT q1];rcases hc with⟨_,z,_⟩|⟨e,_⟩
   ·exact absurd q1 z
   ·exact⟨3 - (i+1),by lia,rfl,by lia,rfl,by rw[e];exact gW,by lia⟩
  ·rw[zqF q1];refine⟨_,rfl,.inr<|.inl ⟨_,_,_,_,rfl,rfl,aL.of ht,rfl,M6<|M7 sc2 ⟨_,rfl,?_⟩⟩⟩;by_cases q2:p.val=.int 0
   ·rw[zqT q2];rcases hc with⟨_,_,z⟩|⟨e,_⟩
    ·exact absurd q2 z
    ·exact⟨3 - (i+1),by lia,rfl,by lia,rfl,by rw[e];exact gW,by lia⟩
   ·rw[zqF q2];rcases hc with⟨e,_,_⟩|⟨_,z⟩
    ·refine⟨_,rfl,small,3 - (i+1),by lia,rfl,by lia,rfl,?_,by simp;lia⟩
     rw[e];exact aG.snoc gW ⟨t,rfl,ht⟩
    ·rcases z with z|z
     ·exact absurd z q1
     ·exact absurd z q2
 have tx:∀(mk:Str->Pt) (x:Str) (l:List Pt),(mk x).val=.str x->(l++txt mk x=l++[mk x]/\(mk x).val≠ .str ""/\(mk x).val≠ .int 0\/l++txt mk x=l/\((mk x).val=.str ""\/(mk x).val=.int 0)):=by
  intro mk x l hv;unfold txt;by_cases e:x=""
  ·rw[if_pos e];exact .inr ⟨by simp,.inl (by rw[hv,e])⟩
  ·rw[if_neg e];exact .inl ⟨rfl,by lia,by rw[hv];exact λz=>by cases z⟩
 by_cases bE:i<3
 ·refine .inr ⟨⟨_,[V.ref t1,V.ref t2,V.ref t3][i],dP,by simp[bE]⟩,?_⟩
  rintro x H3 ⟨rfl,hx⟩;have mM:=hx _ dP;have:i=0\/i=1\/i=2:=by lia
  rcases this with rfl|rfl|rfl
  ·have ex:x=.ref t1:=by simpa using mM.symm
   subst ex;exact go t1 (.put r.1) 0 h1 rfl (by lia) (tx .put r.1 [] rfl)<|.inl ⟨_,rfl⟩
  ·have ex:x=.ref t2:=by simpa using mM.symm
   subst ex;exact go t2 (.cut r.2.1) 1 h2 rfl (by lia) (tx .cut r.2.1 _ rfl)<|.inl ⟨_,rfl⟩
  ·have ex:x=.ref t3:=by simpa using mM.symm
   subst ex;refine go t3 (.keep r.2.2) 2 h3 rfl (by lia) ?_<|.inr ⟨_,rfl⟩
   by_cases e:r.2.2=0
   ·refine .inr ⟨?_,.inr (by show V.int r.2.2=_;rw[e])⟩
    show eK r=txt .put r.1++txt .cut r.2.1;unfold eK;rw[if_pos e,zaa]
   ·refine .inl ⟨?_,?_,?_⟩
    ·show eK r=txt .put r.1++txt .cut r.2.1++[.keep r.2.2];unfold eK;rw[if_neg e]
    ·intro z;have z':V.int r.2.2=V.str "":=z;cases z'
    ·intro z;have z':V.int r.2.2=V.int 0:=z
     injection z' with z'
     exact e z'
 ·have jt:i=3:=by lia
  subst jt;refine .inl ⟨⟨_,dP,by simp⟩,λp hp=>?_⟩
  exact k p ys hp gW Dw
theorem abe{K:Frag}(vs:List V)(H:Hp)(Q:VK)(E:XK)(h:M4 vs H Q E):aE (aN K [] [] (E:=E)) JO {nx:=λ_ H'=>Q .au H',rt:=Q} (start JN vs) H:=by
 obtain⟨a,xs,ps,rfl,ha,cv,hl,ht,k⟩:=h;have hlen:=Paired.length cv;refine⟨xH,λb0 Dx=>⟨jH,λR hR=>?_⟩⟩;have M8:b0≠R:=λz=>by rw[<-z,ay] at hR;cases hR
 have fR:H R=none:=(sameNew Dx).free hR;have S0:jY H (upd (upd H b0<|.lst [.str "",.str "",.int 0]) R<|.lst [.ref b0]) R [] b0 [] ((Str.ofString "",Str.ofString "",0):Row):=
  {same:=(sameNew Dx).trans (sameNew hR),lst:=ay,fr:=fR,rows:=.nil,last:=(by rw[az M8,ay];rfl),fb:=Dx,bG:=(λv hv=>by cases hv),ne:=M8}
 refine⟨_,rfl,a,rfl,⟨_,aB.of (S0.same _ _ ha)⟩,iR (K:=K) (a:=a) (xs:=xs) (λi σ H2=>qX6 λu v rs b pre r=>qA6 (σ=[some (.ref a),some (.ref R),u,v,none,none,none,none,none]) (jY H H2 R rs b pre r) ((ps.take i).foldl bz ([],((Str.ofString "",Str.ofString "",0):Row))=(pre,r)) (rs.length<=i) (r.1.length<=aA (ps.take i)) (r.2.1.length<=aA (ps.take i)))
  ⟨none,none,[],b0,[],_,rfl,S0,rfl,zqR _,zqZ _,zqZ _⟩ (λi σ H2 _ ⟨_,_,_,_,_,_,_,S,_,_,_,_⟩=>aB.of (S.same _ _ ha)) ?_ ?_⟩
 ·rintro i x σ H2 hi ⟨u,v,rs,b,pre,r,rfl,S,ef,l1,l2,l3⟩;obtain⟨pt,gc,kH⟩:=cv.get hi;obtain⟨t,rfl,hb⟩:=kH.mono (bM S.same);have d_:i<ps.length:=(zad.mp gc).1;have oV:(ps.take<|i+1).foldl bz ([],((Str.ofString "",Str.ofString "",0):Row))=bz (pre,r) pt:=by rw[MQ gc,ef]
  have et:=MP gc;have tb:=Dq ps i;have tb1:=Dq ps (i+1);have sl:=aba pre r pt _ l2 l3;refine⟨t,_,rfl,.inl<|aL.of hb,rfl,_,_,rfl,_,_,rfl,rfl,?_⟩;refine⟨_,rfl,_,rfl,?_⟩;cases pt with
  |keep n=>
   refine⟨_,rfl,.inl ⟨_,_,_,_,rfl,rfl,aB.of S.lst,vL _ _,.inl ⟨_,_,_,_,rfl,rfl,aB.of S.last,rfl,_,rfl,_,rfl,.inl ⟨_,_,_,_,rfl,rfl,aB.of S.lst,vL _ _,b,kJ r,2,2,rfl,rfl,S.last,rfl,?_⟩⟩⟩⟩;refine⟨_,_,rs,b,pre,(r.1,r.2.1,r.2.2+n),rfl,S.set (r':=(r.1,r.2.1,r.2.2+n)),oV,by lia,?_,?_⟩
   ·show r.1.length<=_;lia
   ·show r.2.1.length<=_;lia
  |put s=>
   refine M5 S (.put s) (.inl ⟨rfl,rfl⟩) ?_ (by lia) (by lia) (by lia) λH3 du b' S' hr'=>⟨_,_,du,b',_,_,rfl,S',oV,by lia,by lia,by lia⟩
   have:dt (.put s)=s.length:=rfl;lia
  |cut s=>
   refine M5 S (.cut s) (.inr ⟨rfl,rfl⟩) ?_ (by lia) (by lia) (by lia) λH3 du b' S' hr'=>⟨_,_,du,b',_,_,rfl,S',oV,by lia,by lia,by lia⟩
   have:dt (.cut s)=s.length:=rfl;lia
 ·rintro σ Hm ⟨u,v,rs,b,pre,r,rfl,S,ef,l1,l2,l3⟩;have e:ps.take xs.length=ps:=zaG (by lia)
  rw[e] at ef;have abg:tM ps=pre++[r]:=by
   show(ps.foldl bz ([],((Str.ofString "",Str.ofString "",0):Row))).1++[(ps.foldl bz ([],((Str.ofString "",Str.ofString "",0):Row))).2]=_;rw[ef]
  have M9:ni Hm (rs++[.ref b]) (tM ps):=by rw[abg];exact Paired.snoc S.rows ⟨b,rfl,S.last⟩
  have vM:=Paired.length M9;refine⟨zqZ _,λf0 Dy=>?_⟩;refine⟨_,rfl,R,rfl,⟨_,aB.of (sameNew Dy _ _ S.lst)⟩,iR (K:=K) (a:=R) (xs:=rs++[.ref b]) (λi σ H2=>qX6 λf ys p5 p6 p7 p8=>qA6 (σ=[some (.ref a),some (.ref R),u,v,some (.ref f),p5,p6,p7,p8]) (aC Hm H2) (H f=none) (H2 f=some (.lst ys)) (aG H2 ys (cR ((tM ps).take i))) (ys.length<=3*i))
   ⟨f0,[],none,none,none,none,rfl,sameNew Dy,S.same.free Dy,ay,.nil,zqR _⟩ (λi σ H2 _ ⟨_,_,_,_,_,_,_,s2,_,_,_,_⟩=>aB.of (s2 _ _ S.lst)) ?_ ?_⟩
  ·rintro i x σ H2 hi ⟨f,ys,p5,p6,p7,p8,rfl,s2,ff,Dz,gW,Dw⟩;obtain⟨row,abh,w,rfl,hw⟩:=M9.get hi;have h2w:=s2 _ _ hw;have d_:i< (rs++[V.ref b]).length:=(zad.mp hi).1;have hrs:rs.length<=100000:=by lia
   have zt:i<=100000:=by simp only[zqA,zbm] at d_;lia
   refine⟨w,_,rfl,.inr<|aB.of h2w,rfl,_,_,rfl,_,_,rfl,_,_,rfl,rfl,?_⟩;refine⟨_,rfl,e7,λt1 fG=>⟨_,rfl,e7,λt2 l8=>⟨_,rfl,e7,λt3 nk=>⟨xH,λl dP=>?_⟩⟩⟩⟩;have c1:t1≠t2:=λz=>by rw[<-z,ay] at l8;cases l8
   have M_:t1≠t3:=λz=>by rw[<-z,az c1,ay] at nk;cases nk
   have Na:t2≠t3:=λz=>by rw[<-z,ay] at nk;cases nk
   have c1l:t1≠l:=λz=>by rw[<-z,az M_,az c1,ay] at dP;cases dP
   have c2l:t2≠l:=λz=>by rw[<-z,az Na,ay] at dP;cases dP
   have c3l:t3≠l:=λz=>by rw[<-z,ay] at dP;cases dP
   have s3:=((sameNew (o:=.tup [.str "put",.str row.1]) fG).trans<|sameNew (o:=.tup [.str "cut",.str row.2.1]) l8).trans ((sameNew (o:=.tup [.str "keep",.int row.2.2]) nk).trans<|sameNew (o:=.lst [.ref t1,.ref t2,.ref t3]) dP);refine⟨_,rfl,abb (r:=row) (l:=l) (t1:=t1) (t2:=t2) (t3:=t3) ay (by rw[az c1l,az M_,az c1,ay]) (by rw[az c2l,az Na,ay]) (by rw[az c3l,ay]) rfl λp zs hp Nb DA=>?_⟩
   generalize va:upd (upd (upd (upd H2 t1<|.tup [.str "put",.str row.1]) t2<|.tup [.str "cut",.str row.2.1]) t3<|.tup [.str "keep",.int row.2.2]) l (.lst [.ref t1,.ref t2,.ref t3])=H3 at s3 hp Nb;have Nc:=s3 _ _ Dz;have h4f:upd H3 p (.lst zs) f=some (.lst ys):=by rw[az<|aM Nc hp];exact Nc
   refine .inl ⟨f,p,ys,zs,rfl,rfl,h4f,ay,cP (by lia),λq hq=>?_⟩
   have s5:aC Hm (upd (upd H3 p<|.lst zs) q<|.lst<|ys++zs):=s2.trans (s3.trans<|(sameNew hp).trans<|sameNew hq);have t5:dR H3 (upd (upd H3 p<|.lst zs) q<|.lst<|ys++zs):=bM ((sameNew hp).trans<|sameNew hq);refine⟨q,ys++zs,_,_,_,_,rfl,s5,S.same.free<|(s2.trans<|s3.trans<|sameNew hp).free hq,ay,?_,by rw[zqA];lia⟩
   rw[aa_ abh];have app:∀{vs:List V}{as:List Pt}{ws:List V}{bs:List Pt}{G:Hp},aG G vs as->aG G ws bs->aG G (vs++ws) (as++bs):=λ{vs as ws bs G} h1 h2=>by
    induction h1 with
    |nil=>exact h2
    |cons a _ ih=>exact .cons a ih
   exact app ((gW.mono<|bM s3).mono t5)<|Nb.mono t5
  ·rintro σ H2 ⟨f,ys,p5,p6,p7,p8,rfl,s2,ff,Dz,gW,Dw⟩;have e2:(tM ps).take (rs++[V.ref b]).length=tM ps:=zaG (by lia)
   rw[e2] at gW;exact⟨_,rfl,k f H2 ys (S.same.trans s2) ff Dz gW⟩
theorem zu(a b:List Row):cR (a++b)=cR a++cR b:=by simp[cR]
theorem vN(r:Row):cR [r]=eK r:=by simp[cR]
theorem DB{r:Row}(h:0<r.2.2):eK r=txt .put r.1++txt .cut r.2.1++[.keep r.2.2]:=by
 unfold eK;rw[if_neg (by lia)]
theorem Nd{r:Row}(h:r.2.2=0):eK r=txt .put r.1++txt .cut r.2.1:=by
 unfold eK;rw[if_pos h,zaa]
def Nf:Pt->Bool|.keep _=>true|_=>false
theorem abn{n:Int}(h:∀p,ch.getLast?=some p->Nf p=false):eI ch n=ch++[.keep n]:=by
 unfold eI
 split
 ·rename_i m e
  have:=h _ e;cases this
 ·rfl
theorem abo(ch:List Pt)(m n:Int):eI (ch++[.keep m]) n=ch++[.keep<|n+m]:=by
 unfold eI
 simp
theorem txt_nil(mk:Str->Pt):txt mk ""=[]:=if_pos rfl
theorem jZ{mk:Str->Pt}{x:Str}(h:x≠""):txt mk x=[mk x]:=if_neg h
theorem abp{r:Row}(h:pre≠ []->r.1≠""\/r.2.1≠""):∀p,(cR pre++txt .put r.1++txt .cut r.2.1).getLast?=some p->Nf p=false:=by
 intro p hp;by_cases h2:r.2.1=""
 ·rw[h2,txt_nil] at hp;by_cases h1:r.1=""
  ·rw[h1,txt_nil] at hp;by_cases mL:pre=[]
   ·rw[mL] at hp
    simp[cR] at hp
   ·rcases h mL with z|z
    ·exact absurd h1 z
    ·exact absurd h2 z
  ·rw[jZ h1] at hp
   simp at hp;subst hp;rfl
 ·rw[jZ h2] at hp
  simp at hp;subst hp;rfl
def Rel(s:NS)(t:List Row×Row):Prop:=
 (∀x∈t.1,0<x.2.2)/\(t.1≠ []->t.2.1≠""\/t.2.2.1≠"")/\0<=t.2.2.2/\
  ((t.2.2.2=0/\s.1=cR t.1/\cat s.2.1=t.2.1/\cat s.2.2=t.2.2.1)\/(0<t.2.2.2/\s.1=cR (t.1++[t.2])/\cat s.2.1=""/\cat s.2.2=""))
theorem oW(a:List Str)(s:Str):cat (a++[s])=cat a++s:=by rw[Dk,Dl]
theorem abq{s:NS}{t:List Row×Row}{p:Pt}(R:Rel s t)(hp:eW p):Rel (dA s p) (bz t p):=by
 obtain⟨ch,pu,cu⟩:=s;obtain⟨pre,r⟩:=t;obtain⟨r1,r2,r3,r4⟩:=R
 simp only at r1 r2 r3 r4
 cases p with
 |keep n=>
  have vK:0<=n:=hp;by_cases hn:0<n
  ·have e1:dA (ch,pu,cu) (.keep n)=(eI (dS ch pu cu) n,[],[]):=if_pos hn;rw[e1];refine⟨r1,r2,by show 0<=r.2.2+n;lia,.inr ⟨by show 0<r.2.2+n;lia,?_,rfl,rfl⟩⟩
   show eI (dS ch pu cu) n=cR (pre++[(r.1,r.2.1,r.2.2+n)]);rw[zu,vN,DB (by show 0<r.2.2+n;lia)]
   rcases r4 with⟨k0,e2,e3,e4⟩|⟨k0,e2,e3,e4⟩
   ·have ea:dS ch pu cu=cR pre++txt .put r.1++txt .cut r.2.1:=by unfold dS;rw[e2,e3,e4]
    rw[ea,abn<|abp r2];rw[k0,Int.zero_add];simp
   ·have ea:dS ch pu cu=cR pre++(txt .put r.1++txt .cut r.2.1)++[.keep r.2.2]:=by
     unfold dS;rw[e2,e3,e4,txt_nil,txt_nil,zaa,zaa,zu,vN,DB k0];simp
    rw[ea,abo];rw[Int.add_comm n];simp
  ·have e0:n=0:=by lia
   have e1:dA (ch,pu,cu) (.keep n)=(ch,pu,cu):=if_neg hn;have e2:bz (pre,r) (.keep n)=(pre,r):=by show(pre,(r.1,r.2.1,r.2.2+n))=_;rw[e0,Int.add_zero]
   rw[e1,e2];exact⟨r1,r2,r3,r4⟩
 |put x=>
  show Rel (ch,pu++[x],cu) (bz (pre,r)<|.put x);by_cases hx:x=""
  ·have e2:bz (pre,r) (.put x)=(pre,r):=if_pos hx;rw[e2];refine⟨r1,r2,r3,?_⟩;have e:cat (pu++[x])=cat pu:=by rw[oW,hx];exact MK _
   show _\/_
   simp only[e]
   exact r4
  ·by_cases hk:0<r.2.2
   ·have e2:bz (pre,r) (.put x)=(pre++[r],((Str.ofString ""++x,Str.ofString "",0):Row)):=by show(if x="" then _ else if 0<r.2.2 then _ else _)=_;rw[if_neg hx,if_pos hk]
    rw[e2];rcases r4 with⟨k0,_⟩|⟨_,e5,e3,e4⟩
    ·lia
    ·refine⟨λy hy=>?_,λ_=>.inl (by rw[tH];exact hx),zaS _,.inl ⟨rfl,e5,?_,e4⟩⟩
     ·rcases zab.mp hy with z|z
      ·exact r1 y z
      ·rw[zag.mp z];exact hk
     ·show cat (pu++[x])=_;rw[oW,e3]
   ·have e2:bz (pre,r) (.put x)=(pre,(r.1++x,r.2.1,r.2.2)):=by show(if x="" then _ else if 0<r.2.2 then _ else _)=_;rw[if_neg hx,if_neg hk]
    rw[e2];rcases r4 with⟨k0,e5,e3,e4⟩|⟨k0,_⟩
    ·refine⟨r1,λ_=>.inl ?_,r3,.inl ⟨k0,e5,?_,e4⟩⟩
     ·intro z;have:=congrArg Str.length z;rw[kN] at this;have l0:(Str.ofString "").length=0:=rfl;rw[l0] at this;have oX:x.length=0:=by lia
      exact hx<|iJ (by rw[len_list] at oX;rw[zaE.mp oX];rfl)
     ·show cat (pu++[x])=_;rw[oW,e3]
    ·lia
 |cut x=>
  show Rel (ch,pu,cu++[x]) (bz (pre,r)<|.cut x);by_cases hx:x=""
  ·have e2:bz (pre,r) (.cut x)=(pre,r):=if_pos hx;rw[e2];refine⟨r1,r2,r3,?_⟩;have e:cat (cu++[x])=cat cu:=by rw[oW,hx];exact MK _
   show _\/_
   simp only[e]
   exact r4
  ·by_cases hk:0<r.2.2
   ·have e2:bz (pre,r) (.cut x)=(pre++[r],((Str.ofString "",Str.ofString ""++x,0):Row)):=by show(if x="" then _ else if 0<r.2.2 then _ else _)=_;rw[if_neg hx,if_pos hk]
    rw[e2];rcases r4 with⟨k0,_⟩|⟨_,e5,e3,e4⟩
    ·lia
    ·refine⟨λy hy=>?_,λ_=>.inr (by rw[tH];exact hx),zaS _,.inl ⟨rfl,e5,e3,?_⟩⟩
     ·rcases zab.mp hy with z|z
      ·exact r1 y z
      ·rw[zag.mp z];exact hk
     ·show cat (cu++[x])=_;rw[oW,e4]
   ·have e2:bz (pre,r) (.cut x)=(pre,(r.1,r.2.1++x,r.2.2)):=by show(if x="" then _ else if 0<r.2.2 then _ else _)=_;rw[if_neg hx,if_neg hk]
    rw[e2];rcases r4 with⟨k0,e5,e3,e4⟩|⟨k0,_⟩
    ·refine⟨r1,λ_=>.inr ?_,r3,.inl ⟨k0,e5,e3,?_⟩⟩
     ·intro z;have:=congrArg Str.length z;rw[kN] at this;have l0:(Str.ofString "").length=0:=rfl;rw[l0] at this;have oX:x.length=0:=by lia
      exact hx<|iJ (by rw[len_list] at oX;rw[zaE.mp oX];rfl)
     ·show cat (cu++[x])=_;rw[oW,e4]
    ·lia
theorem Ng:∀(ps:List Pt) (s:NS) (t:List Row×Row),Rel s t->(∀p∈ps,eW p)->Rel (ps.foldl dA s) (ps.foldl bz t)
 |[],s,t,R,_=>R
 |p::r,s,t,R,h=>Ng r _ _ (abq R<|h p zau) λq hq=>h q (zav _ hq)
theorem abr(ps:List Pt)(h:∀p∈ps,eW p):Rel (ps.foldl dA ([],[],[])) (ps.foldl bz ([],((Str.ofString "",Str.ofString "",0):Row))):=
 Ng ps _ _ ⟨nofun,λz=>absurd rfl z,zaS _,.inl ⟨rfl,rfl,rfl,rfl⟩⟩ h
theorem vO(ps:List Pt)(h:∀p∈ps,eW p):jv ps=i5 ps:=by
 obtain⟨r1,r2,r3,r4⟩:=abr ps h;show dS _ _ _=cR (_++[_]);unfold dS;rcases r4 with⟨k0,e5,e3,e4⟩|⟨k0,e5,e3,e4⟩
 ·rw[e5,e3,e4,zu,vN,Nd k0];simp
 ·rw[e5,e3,e4,txt_nil,txt_nil];simp
def sg(x:Str):Prop:= ∀c∈x.cps.toList,SG.cps.contains c=true
theorem zv(a:sg x)(b:sg y):sg (x++y):=λc hc=>by
 rw[app_list] at hc;rcases zab.mp hc with z|z
 ·exact a c z
 ·exact b c z
theorem oY:sg (Str.ofString ""):=λc hc=>by cases hc
def kO(r:Row):Nat:=r.1.length+r.2.1.length
structure RI (n:Nat) (t:List Row×Row):Prop where
 pos:∀x∈t.1,0<x.2.2
 nn:0<=t.2.2.2
 s1:∀x∈t.1++[t.2],sg x.1/\sg x.2.1
 tl:∀x∈ (t.1++[t.2]).tail,x.1≠""\/x.2.1≠""
 aA:((t.1++[t.2]).map kO).sum=n
theorem Nh{x:Str}(h:x≠""):x++y≠"":=λz=>by
 have:=congrArg Str.length z;rw[kN] at this;have l0:(Str.ofString "").length=0:=rfl;have oX:x.length=0:=by lia
 exact h<|iJ (by rw[zaE.mp oX];rfl)
theorem Ni{α:Type}(l:List α)(a:α):(l++[a]).tail=if l=[] then [] else l.tail++[a]:=by
 cases l with
 |nil=>rfl
 |cons b r=>simp
theorem DC{pre:List Row}{r r':Row}(I:RI n (pre,r))(h0:0<=r'.2.2)(h1:sg r'.1/\sg r'.2.1)(h2:(r.1≠""->r'.1≠"")/\(r.2.1≠""->r'.2.1≠""))(h3:kO r'=kO r+m):RI (n+m) (pre,r'):=by
 refine⟨I.pos,h0,λx hx=>?_,λx hx=>?_,?_⟩
 ·rcases zab.mp hx with z|z
  ·exact I.s1 x (zaR _ z)
  ·rw[zag.mp z];exact h1
 ·have t1:=I.tl
  rw[Ni] at hx t1;by_cases hp:pre=[]
  ·rw[if_pos hp] at hx;cases hx
  ·rw[if_neg hp] at hx t1;rcases zab.mp hx with z|z
   ·exact t1 x (zaR _ z)
   ·rw[zag.mp z];rcases t1 r (by simp) with q|q
    ·exact .inl (h2.1 q)
    ·exact .inr (h2.2 q)
 ·have:=I.aA
  simp at this⊢
  lia
theorem Nj{pre:List Row}{r r':Row}(I:RI n (pre,r))(hk:0<r.2.2)(h0:0<=r'.2.2)(h1:sg r'.1/\sg r'.2.1)(h2:r'.1≠""\/r'.2.1≠"")(h3:kO r'=m):RI (n+m) (pre++[r],r'):=by
 refine⟨λx hx=>?_,h0,λx hx=>?_,λx hx=>?_,?_⟩
 ·rcases zab.mp hx with z|z
  ·exact I.pos x z
  ·rw[zag.mp z];exact hk
 ·rcases zab.mp hx with z|z
  ·exact I.s1 x z
  ·rw[zag.mp z];exact h1
 ·have t1:=I.tl
  rw[Ni,if_neg (by simp)] at hx
  rcases zab.mp hx with z|z
  ·exact t1 x z
  ·rw[zag.mp z];exact h2
 ·have:=I.aA
  simp at this⊢
  lia
theorem abt(I:RI n t)(hp:eW p):RI (n+dt p) (bz t p):=by
 obtain⟨pre,r⟩:=t;have hs:=I.s1 r (by simp)
 have Nk:=I.nn;have e0:(Str.ofString "").length=0:=rfl;cases p with
 |keep m=>exact DC I (by have:0<=m:=hp;lia) hs ⟨λz=>z,λz=>z⟩ rfl
 |put x=>
  have gx:=hp.1.2;by_cases hx:x=""
  ·have e2:bz (pre,r) (.put x)=(pre,r):=if_pos hx;have e3:dt (.put x)=0:=hx▸rfl
   rw[e2,e3];exact I
  ·by_cases hk:0<r.2.2
   ·have e2:bz (pre,r) (.put x)=(pre++[r],((Str.ofString ""++x,Str.ofString "",0):Row)):=by show(if x="" then _ else if 0<r.2.2 then _ else _)=_;rw[if_neg hx,if_pos hk]
    rw[e2];refine Nj I hk (zaS _) ⟨zv oY gx,oY⟩ (.inl (by rw[tH];exact hx)) ?_
    show(Str.ofString ""++x).length+(Str.ofString "").length=x.length;rw[kN];lia
   ·have e2:bz (pre,r) (.put x)=(pre,(r.1++x,r.2.1,r.2.2)):=by show(if x="" then _ else if 0<r.2.2 then _ else _)=_;rw[if_neg hx,if_neg hk]
    rw[e2];refine DC I Nk ⟨zv hs.1 gx,hs.2⟩ ⟨Nh,λz=>z⟩ ?_;show(r.1++x).length+r.2.1.length=r.1.length+r.2.1.length+x.length;rw[kN];lia
 |cut x=>
  have gx:=hp.1.2;by_cases hx:x=""
  ·have e2:bz (pre,r) (.cut x)=(pre,r):=if_pos hx;have e3:dt (.cut x)=0:=hx▸rfl
   rw[e2,e3];exact I
  ·by_cases hk:0<r.2.2
   ·have e2:bz (pre,r) (.cut x)=(pre++[r],((Str.ofString "",Str.ofString ""++x,0):Row)):=by show(if x="" then _ else if 0<r.2.2 then _ else _)=_;rw[if_neg hx,if_pos hk]
    rw[e2];refine Nj I hk (zaS _) ⟨oY,zv oY gx⟩ (.inr (by rw[tH];exact hx)) ?_
    show(Str.ofString "").length+(Str.ofString ""++x).length=x.length;rw[kN,e0];lia
   ·have e2:bz (pre,r) (.cut x)=(pre,(r.1,r.2.1++x,r.2.2)):=by show(if x="" then _ else if 0<r.2.2 then _ else _)=_;rw[if_neg hx,if_neg hk]
    rw[e2];refine DC I Nk ⟨hs.1,zv hs.2 gx⟩ ⟨λz=>z,Nh⟩ ?_;show r.1.length+(r.2.1++x).length=r.1.length+r.2.1.length+x.length;rw[kN];lia
theorem DD:∀(ps:List Pt) (n:Nat) (t:List Row×Row),RI n t->(∀p∈ps,eW p)->RI (n+aA ps) (ps.foldl bz t)
 |[],n,t,I,_=>I
 |p::r,n,t,I,h=>by
  have:=DD r _ _ (abt I<|h p zau) λq hq=>h q (zav _ hq);have e:n+dt p+aA r=n+aA (p::r):=by show _=n+(dt p+aA r);lia
  rw[e] at this;exact this
theorem Nl{r:Row}{a:Str}{rest:List Pt}(ha:a=""\/(a="keep"/\(r.1≠""\/r.2.1≠"")))(hk:0<r.2.2)(h:chainOk "keep" rest=true):chainOk a (eK r++rest)=true:=by
 rw[DB hk];by_cases h1:r.1="" <;>by_cases h2:r.2.1=""
 ·rw[h1,h2];rcases ha with rfl|⟨_,z|z⟩
  ·exact h
  ·exact absurd h1 z
  ·exact absurd h2 z
 ·rw[h1,jZ h2];rcases ha with rfl|⟨rfl,_⟩ <;>exact h
 ·rw[h2,jZ h1];rcases ha with rfl|⟨rfl,_⟩ <;>exact h
 ·rw[jZ h1,jZ h2];rcases ha with rfl|⟨rfl,_⟩ <;>exact h
theorem chain_last{r:Row}{a:Str}(ha:a=""\/(a="keep"/\(r.1≠""\/r.2.1≠"")))(hk:0<=r.2.2):chainOk a (eK r)=true:=by
 by_cases h0:0<r.2.2
 ·have:=Nl (rest:=[]) ha h0 rfl;rw[zaa] at this;exact this
 ·rw[Nd (by lia)]
  by_cases h1:r.1="" <;>by_cases h2:r.2.1=""
  ·rw[h1,h2];rfl
  ·rw[h1,jZ h2];rcases ha with rfl|⟨rfl,_⟩ <;>rfl
  ·rw[h2,jZ h1];rcases ha with rfl|⟨rfl,_⟩ <;>rfl
  ·rw[jZ h1,jZ h2];rcases ha with rfl|⟨rfl,_⟩ <;>rfl
theorem Nm:∀(pre:List Row) (r:Row) (a:Str),(∀x∈pre,0<x.2.2)->0<=r.2.2->(a=""\/(a="keep"/\∀x,(pre++[r]).head?=some x->x.1≠""\/x.2.1≠""))->(∀x∈ (pre++[r]).tail,x.1≠""\/x.2.1≠"")->
  chainOk a (cR<|pre++[r])=true
 |[],r,a,_,hk,ha,_=>by
  rw[zbB,vN];exact chain_last (ha.imp id λ⟨x,y⟩=>⟨x,y r rfl⟩) hk
 |q::pre,r,a,hp,hk,ha,ht=>by
  exact Nl (ha.imp id λ⟨x,y⟩=>⟨x,y q rfl⟩) (hp q zau) (Nm pre r "keep" (λx hx=>hp x<|zav _ hx) hk (.inr ⟨rfl,λx hx=>ht x (List.mem_of_mem_head? hx)⟩) λx hx=>ht x (List.mem_of_mem_tail hx))
theorem abu{r:Row}{p:Pt}(hs:sg r.1/\sg r.2.1)(hl:kO r<=1000000)(hk:0<=r.2.2)(h:p∈eK r):ba p:=by
 unfold eK txt at h;unfold kO at hl;rcases zab.mp h with h|h
 ·rcases zab.mp h with h|h
  ·split at h
   ·cases h
   ·rename_i ne
    rw[zag.mp h];exact⟨⟨by lia,hs.1⟩,ne⟩
  ·split at h
   ·cases h
   ·rename_i ne
    rw[zag.mp h];exact⟨⟨by lia,hs.2⟩,ne⟩
 ·split at h
  ·cases h
  ·rw[zag.mp h];show 1<=r.2.2;lia
theorem abv(r:Row):aA (eK r)=kO r:=by
 have t1:∀(mk:Str->Pt) (x:Str),(∀y,dt (mk y)=y.length)->aA (txt mk x)=x.length:=by
  intro mk x h;unfold txt;by_cases e:x=""
  ·rw[e];rfl
  ·rw[if_neg e];show dt (mk x)+0=_;rw[h,Nat.add_zero]
 have ta:∀a b:List Pt,aA (a++b)=aA a+aA b:=λa b=>by simp[aA]
 unfold eK kO;rw[ta,ta,t1 .put _ λ_=>rfl,t1 .cut _ λ_=>rfl]
 split
 ·rfl
 ·rfl
theorem DE:∀rows:List Row,aA (cR rows)=(rows.map kO).sum
 |[]=>rfl
 |r::rows=>by
  have e:cR (r::rows)=eK r++cR rows:=rfl
  have ta:∀a b:List Pt,aA (a++b)=aA a+aA b:=λa b=>by simp[aA]
  rw[e,ta,abv,DE rows];rfl
theorem abw{l:List Row}{x:Row}(h:x∈l):kO x<= (l.map kO).sum:=by
 induction l with
 |nil=>cases h
 |cons a l ih=>
  rw[zat,zbr];rcases zac.mp h with rfl|h
  ·lia
  ·lia
theorem oZ(ps:List Pt)(h:∀p∈ps,eW p)(ht:aA ps<=100000):chainOk "" (i5 ps)=true/\(∀p∈i5 ps,ba p)/\aA (i5 ps)<=100000:=by
 have I:=DD ps 0 ([],((Str.ofString "",Str.ofString "",0):Row)) ⟨nofun,zaS _,(λx hx=>by rw[zag.mp hx];exact⟨oY,oY⟩),nofun,rfl⟩ h
 rw[Nat.zero_add] at I;have e:i5 ps=cR ((ps.foldl bz ([],((Str.ofString "",Str.ofString "",0):Row))).1++[(ps.foldl bz ([],((Str.ofString "",Str.ofString "",0):Row))).2]):=rfl;rw[e];generalize ps.foldl bz ([],((Str.ofString "",Str.ofString "",0):Row))=t at I;refine⟨Nm t.1 t.2 "" I.pos I.nn (.inl rfl) I.tl,λp hp=>?_,by rw[DE,I.aA];exact ht⟩
 unfold cR at hp;rw[zbH] at hp;obtain⟨l,hl,hp⟩:=hp;obtain⟨x,hx,rfl⟩:=zam.mp hl;have hle:=abw hx;rw[I.aA] at hle;refine abu (I.s1 x hx) (by lia) ?_ hp
 rcases zab.mp hx with z|z
 ·have:=I.pos x z;lia
 ·rw[zag.mp z];exact I.nn
theorem zw(ps:List Pt):(jv ps).length<=3*ps.length+2:=by
 have go:∀(l:List Pt) (s:NS),(l.foldl dA s).1.length<=s.1.length+3*l.length:=by
  intro l
  induction l with
  |nil=>intro s;simp
  |cons p l ih=>
   intro s;have h1:=ih (dA s p);have h2:(dA s p).1.length<=s.1.length+3:=by
    obtain⟨ch,pu,cu⟩:=s;cases p with
    |keep n=>
     by_cases hn:0<n
     ·have e1:dA (ch,pu,cu) (.keep n)=(eI (dS ch pu cu) n,[],[]):=if_pos hn;have:=zh ch pu cu;have:=MT (dS ch pu cu) n;lia
     ·have e1:dA (ch,pu,cu) (.keep n)=(ch,pu,cu):=if_neg hn;lia
    |put x=>show ch.length<=ch.length+3;lia
    |cut x=>show ch.length<=ch.length+3;lia
   rw[List.foldl_cons,zaw];lia
 have h1:=go ps ([],[],[]);have h2:=zh (ps.foldl dA ([],[],[])).1 (ps.foldl dA ([],[],[])).2.1 (ps.foldl dA ([],[],[])).2.2;show(dS _ _ _).length<=_
 simp at h1
 lia
def abx:Pt->PyData|.keep n=>.int n|.put s=>.str s|.cut s=>.str s
def toD(p:Pt):PyData:=.tuple [.str p.word,abx p]
def jw:Pt->Prop|.keep _=>True|.put s=>sg s|.cut s=>sg s
theorem Nn(h:sg x):PyData.strOk x=true:=by
 have small:∀c,SG.cps.contains c=true->c<0x110000:=by
  have all:SG.cps.toList.all (λc=>decide<|c<0x110000)=true:=rfl
  intro c hc;have hm:c∈SG.cps.toList:=by simpa using hc
  exact of_decide_eq_true<|zbE.mp all c hm
 unfold PyData.strOk;rw[Array.all_eq_true'];intro c hc;exact zqT<|small c<|h c (by simpa using hc)
theorem toD_ok(h:jw p):(toD p).canLay0=true/\(toD p).depth=1:=by
 cases p with
 |keep n=>exact⟨(by show(PyData.strOk (Str.ofString "keep") && (true && true))=true;decide+kernel),rfl⟩
 |put s=>
  refine⟨?_,rfl⟩;show(PyData.strOk (Str.ofString "put") && (PyData.strOk s && true))=true;rw[Nn h];decide+kernel
 |cut s=>
  refine⟨?_,rfl⟩;show(PyData.strOk (Str.ofString "cut") && (PyData.strOk s && true))=true;rw[Nn h];decide+kernel
theorem Np:∀(ps:List Pt),(∀p∈ps,jw p)->PyData.canLayAll0 (ps.map toD)=true/\PyData.depthAll (ps.map toD)<=1
 |[],_=>⟨rfl,zqZ _⟩
 |p::r,h=>by
  obtain⟨a,b⟩:=toD_ok (h p zau);obtain⟨c,d⟩:=Np r λq hq=>h q (zav _ hq);refine⟨?_,?_⟩
  ·show((toD p).canLay0 && PyData.canLayAll0 (r.map toD))=true;rw[a,c];rfl
  ·show max (toD p).depth (PyData.depthAll<|r.map toD)<=1;lia
theorem DF:∀{vs:List V}{ps:List Pt},aG H vs ps->IsL H (ps.map toD) vs
 |_,_,.nil=>rfl
 |_,_,.cons (a:=v) (b:=p) ⟨a,e,h⟩ r=>by
  refine⟨v,_,rfl,⟨a,_,e,h,.str p.word,[p.val],rfl,rfl,p.val,[],rfl,?_,rfl⟩,DF r⟩;cases p<;>rfl
theorem Nq(h:ba p):jw p:=by
 cases p with
 |keep n=>trivial
 |put s=>exact h.1.2
 |cut s=>exact h.1.2
def Pt.zx:Pt->Pt|.keep n=>.keep n|.put s=>.cut s|.cut s=>.put s
def zy(ps:List Pt):List Pt:=ps.map Pt.zx
theorem aby(ps:List Pt)(h:∀p∈ps,eW p):RI (aA ps) (ps.foldl bz ([],((Str.ofString "",Str.ofString "",0):Row))):=by
 have I:=DD ps 0 ([],((Str.ofString "",Str.ofString "",0):Row)) ⟨nofun,zaS _,(λx hx=>by rw[zag.mp hx];exact⟨oY,oY⟩),nofun,rfl⟩ h
 rwa [Nat.zero_add] at I
theorem abz(h:ba p)(ht:dt p<=100000):eW p:=by
 cases p with
 |keep n=>exact Int.le_trans (by lia) (show(1:Int)<=n from h)
 |put s=>exact⟨h.1,ht⟩
 |cut s=>exact⟨h.1,ht⟩
theorem zz{p:Pt}(h:p∈ps):dt p<=aA ps:=by
 induction ps with
 |nil=>cases h
 |cons q ps ih=>
  have e:aA (q::ps)=dt q+aA ps:=rfl
  rcases zac.mp h with rfl|h
  ·lia
  ·lia
theorem Nr(h:∀p∈ps,ba p)(ht:aA ps<=100000):∀p∈ps,eW p:=λp hp=>abz (h p hp) (zaq (zz hp) ht)
inductive Run:List Nat->List Pt->List Nat->Prop
 |nil:Run [] [] []
 |keep {a l r:List Nat}{n:Int}{ps:List Pt}:n=a.length->Run l ps r->Run (a++l) (.keep n::ps) (a++r)
 |put {s:Str}{l r:List Nat}{ps:List Pt}:Run l ps r->Run l (.put s::ps) (s.cps.toList++r)
 |cut {s:Str}{l r:List Nat}{ps:List Pt}:Run l ps r->Run (s.cps.toList++l) (.cut s::ps) r
theorem Run.zx{ps:List Pt}(h:Run l ps r):Run r (zy ps) l:=by
 induction h with
 |nil=>exact .nil
 |keep e _ ih=>exact .keep e ih
 |put _ ih=>exact .cut ih
 |cut _ ih=>exact .put ih
theorem Run.app{ps qs:List Pt}(h:Run l ps r)(h':Run l' qs r'):Run (l++l') (ps++qs) (r++r'):=by
 induction h with
 |nil=>exact h'
 |keep e _ ih=>rw[zaj,zaj];exact .keep e ih
 |put _ ih=>rw[zaj];exact .put ih
 |cut _ ih=>rw[zaj];exact .cut ih
theorem Run.over(h:Run l ps r):(overOf ps).sum=l.length:=by
 induction h with
 |nil=>rfl
 | @keep a l r n ps e _ ih=>
  have e2:overOf (.keep n::ps)=n::overOf ps:=rfl;rw[e2,zbr,ih,e]
  simp
 | @put s l r ps _ ih=>
  have e2:overOf (.put s::ps)=overOf ps:=rfl;rw[e2,ih]
 | @cut s l r ps _ ih=>
  have e2:overOf (.cut s::ps)=(s.length:Int)::overOf ps:=rfl;rw[e2,zbr,ih,len_list]
  simp
def qP(r:Row)(l q:List Nat):Prop:= ∃k:List Nat,r.2.2=k.length/\l=r.2.1.cps.toList++k/\q=r.1.cps.toList++k
inductive nr:List Row->List Nat->List Nat->Prop
 |nil:nr [] [] []
 |snoc {rs:List Row}{r:Row}{l q l' q':List Nat}:nr rs l q->qP r l' q'->nr (rs++[r]) (l++l') (q++q')
theorem Nt:Run [] (txt .put s) s.cps.toList:=by
 by_cases h:s=""
 ·rw[h];exact .nil
 ·rw[jZ h];have:=Run.put (s:=s) Run.nil
  rwa [zaa] at this
theorem abA:Run s.cps.toList (txt .cut s) []:=by
 have:=(Nt (s:=s)).zx;have e:zy (txt .put s)=txt .cut s:=by
  unfold txt;split<;>rfl
 rwa [e] at this
theorem qP.run{r:Row}{l q:List Nat}(h:qP r l q):Run l (eK r) q:=by
 obtain⟨k,hk,rfl,rfl⟩:=h;have h3:Run k (if r.2.2=0 then [] else [.keep r.2.2]) k:=by
  split
  ·rename_i h
   have:k=[]:=zaE.mp (by lia)
   rw[this];exact .nil
  ·have:=Run.keep hk Run.nil
   rwa [zaa] at this
 have:=((Nt (s:=r.1)).app<|abA (s:=r.2.1)).app h3
 simpa[eK] using this
theorem nr.run{l q:List Nat}(h:nr rs l q):Run l (cR rs) q:=by
 induction h with
 |nil=>exact .nil
 |snoc _ h2 ih=>rw[zu,vN];exact ih.app h2.run
def One:Pt->List Nat->List Nat->Prop
 |.keep n,l,q=>l=q/\n=l.length
 |.put s,l,q=>l=[]/\q=s.cps.toList
 |.cut s,l,q=>l=s.cps.toList/\q=[]
theorem DG{l q:List Nat}{ps:List Pt}(h:Run l (p::ps) q):∃l1 l2 q1 q2,l=l1++l2/\q=q1++q2/\Run l2 ps q2/\
  One p l1 q1:=by
 cases h with
 |keep e h=>exact⟨_,_,_,_,rfl,rfl,h,rfl,e⟩
 |put h=>exact⟨[],_,_,_,rfl,rfl,h,rfl,rfl⟩
 |cut h=>exact⟨_,_,[],_,rfl,rfl,h,rfl,rfl⟩
theorem abB{r:Row}{p:Pt}{l0 q0 l1 q1 l2 q2:List Nat}(h0:nr pre l0 q0)(h1:qP r l1 q1)
  (hp:One p l2 q2):
  ∃qQ qR kP lS,nr (bz (pre,r) p).1 qQ qR/\qP (bz (pre,r) p).2 kP lS/\l0++l1++l2=qQ++kP/\q0++q1++q2=qR++lS:=by
 cases p with
 |keep n=>
  obtain⟨rfl,rfl⟩:=hp;obtain⟨k,hk,rfl,rfl⟩:=h1;refine⟨l0,q0,_,_,h0,⟨k++l2,?_,rfl,rfl⟩,by simp[bz],by simp[bz]⟩
  show r.2.2+(l2.length:Int)=_;rw[hk];simp
 |put s=>
  obtain⟨rfl,rfl⟩:=hp;by_cases hs:s=""
  ·have e:bz (pre,r) (.put s)=(pre,r):=by simp only[bz,if_pos hs]
   rw[e];refine⟨l0,q0,l1,q1,h0,h1,by simp,?_⟩
   rw[hs];rw[ofString_empty];simp
  ·by_cases hk:0<r.2.2
   ·have e:bz (pre,r) (.put s)=(pre++[r],((Str.ofString ""++s,"",0):Row)):=by simp only[bz,if_neg hs,if_pos hk]
    rw[e];refine⟨_,_,[],s.cps.toList,h0.snoc h1,⟨[],rfl,rfl,?_⟩,rfl,rfl⟩
    rw[tH];simp
   ·have e:bz (pre,r) (.put s)=(pre,(r.1++s,r.2.1,r.2.2)):=by simp only[bz,if_neg hs,if_neg hk]
    rw[e];obtain⟨k,vP,rfl,rfl⟩:=h1;have:k=[]:=zaE.mp (by lia)
    subst this;refine⟨l0,q0,r.2.1.cps.toList,r.1.cps.toList++s.cps.toList,h0,⟨[],vP,by simp,by simp[app_list]⟩,by simp,by simp⟩
 |cut s=>
  obtain⟨rfl,rfl⟩:=hp;by_cases hs:s=""
  ·have e:bz (pre,r) (.cut s)=(pre,r):=by simp only[bz,if_pos hs]
   rw[e];refine⟨l0,q0,l1,q1,h0,h1,?_,by simp⟩
   rw[hs];rw[ofString_empty];simp
  ·by_cases hk:0<r.2.2
   ·have e:bz (pre,r) (.cut s)=(pre++[r],(("",Str.ofString ""++s,0):Row)):=by simp only[bz,if_neg hs,if_pos hk]
    rw[e];refine⟨_,_,s.cps.toList,[],h0.snoc h1,⟨[],rfl,?_,rfl⟩,rfl,rfl⟩
    rw[tH];simp
   ·have e:bz (pre,r) (.cut s)=(pre,(r.1,r.2.1++s,r.2.2)):=by simp only[bz,if_neg hs,if_neg hk]
    rw[e];obtain⟨k,vP,rfl,rfl⟩:=h1;have:k=[]:=zaE.mp (by lia)
    subst this;refine⟨l0,q0,r.2.1.cps.toList++s.cps.toList,r.1.cps.toList,h0,⟨[],vP,by simp[app_list],by simp⟩,by simp,by simp⟩
theorem Nu:∀(ps:List Pt) (pre:List Row) (r:Row) (l0 q0 l1 q1 l2 q2:List Nat),nr pre l0 q0->qP r l1 q1->Run l2 ps q2->
  ∃qQ qR kP lS,nr (ps.foldl bz (pre,r)).1 qQ qR/\qP (ps.foldl bz (pre,r)).2 kP lS/\l0++l1++l2=qQ++kP/\q0++q1++q2=qR++lS
 |[],pre,r,l0,q0,l1,q1,l2,q2,h0,h1,h2=>by
  cases h2;exact⟨l0,q0,l1,q1,h0,h1,by simp,by simp⟩
 |p::ps,pre,r,l0,q0,l1,q1,l2,q2,h0,h1,h2=>by
  obtain⟨a,b,c,d,rfl,rfl,h3,h4⟩:=DG h2;obtain⟨qQ,qR,kP,lS,g0,g1,e1,e2⟩:=abB h0 h1 h4;obtain⟨abC,abD,abE,abF,f0,f1,e3,e4⟩:=Nu ps _ _ qQ qR kP lS b d g0 g1 h3;refine⟨abC,abD,abE,abF,f0,f1,?_,?_⟩
  ·rw[<-e3,<-e1];simp
  ·rw[<-e4,<-e2];simp
theorem tN{l q:List Nat}(h:Run l ps q):Run l (i5 ps) q:=by
 obtain⟨l0,q0,l1,q1,h0,h1,e1,e2⟩:=Nu ps [] ("","",0) [] [] [] [] l q .nil ⟨[],rfl,rfl,rfl⟩ h;have:=(h0.snoc h1).run;rw[<-e1,<-e2] at this;exact this
inductive qS (vs:List V)(H:Hp)(Q:VK)(E:XK):Prop|i(x:_)(_:vs=[.str x])(_:good x)(_:Q .au H)
theorem zA{a b c:List Nat}(h:x.cps.toList=a++(b++c))(n:Int)(hn:n=b.length):mR x (some (a.length:Int)) (some<|(a.length:Int)+n)=⟨b.toArray⟩:=by
 have e1:(a.length:Int)+n=((a.length+b.length:Nat):Int):=by lia
 unfold mR mQ;rw[e1,HT.mK,HT.mK,h];have l1:(a++(b++c)).length=a.length+(b.length+c.length):=by simp
 rw[l1];have m1:min a.length (a.length+(b.length+c.length))=a.length:=by lia
 have m2:min (a.length+b.length) (a.length+(b.length+c.length))=a.length+b.length:=by lia
 rw[m1,m2,List.drop_left,show a.length+b.length - a.length=b.length by lia,List.take_left]
theorem abG{a c:List Nat}(h:x.cps.toList=a++(s.cps.toList++c)):(decide (fromIndex x.length (a.length:Int)+s.length<=x.length) && Builtin.Str.subAt x s (fromIndex x.length (a.length:Int)))=true:=by
 have e:fromIndex x.length (a.length:Int)=a.length:=rfl
 have hl:x.length=a.length+(s.length+c.length):=by rw[len_list x,h,len_list s];simp
 rw[e,zae];refine⟨by lia,?_⟩
 unfold Builtin.Str.subAt;rw[beq_iff_eq]
 apply Array.toList_inj.mp
 rw[Array.toList_extract,h,len_list s]
 simp
theorem zB(x:Str):(⟨x.cps.toList.toArray⟩:Str)=x:=rfl
abbrev abH:List (Str×Sp):=[("need_text",qS),("sizes",m6)]
inductive qT (vs:List V)(H:Hp)(Q:VK)(E:XK):Prop|i(x a xs ps r:_)(_:vs=[.str x,.ref a])(_:good x)(_:H a=some (.lst xs))(_:aG H xs ps)(_:(∀p∈ps,ba p))(_:chainOk "" ps=true)(_:ps.length<=100000)(_:Run x.cps.toList ps r)(_:r.length<=1000000)(_:∀H',aC H H'->Q (.str ⟨r.toArray⟩) H')
theorem abI{K:Frag}{et:List (Str×Addr)}(vs:List V)(H:Hp)(Q:VK)(E:XK)(h:qT vs H Q E):aE (aN K abH [] (et:=et) (E:=E)) JG {nx:=λ_ H'=>Q .au H',rt:=Q} (start JF vs) H:=by
 obtain⟨x,a,xs,ps,r,rfl,hx,ha,cv,aF,bZ,hl,hr,vM,q⟩:=h;have hlen:=Paired.length cv;refine⟨_,rfl,x,rfl,hx,?_⟩;refine⟨_,rfl,a,xs,ps,rfl,ha,cv,aF,bZ,by lia,λt H1 s1 ht=>?_⟩
 refine .inr<|.inl ⟨_,_,_,_,rfl,rfl,aL.of ht,rfl,_,rfl,cP hx.1,_,rfl,?_⟩;rw[hr.over,<-len_list,zaM,zqT rfl];refine⟨zqZ _,λpc Nv=>?_⟩;have s2:aC H (upd H1 pc<|.lst []):=s1.trans (sameNew Nv);have Nw:H pc=none:=s1.free Nv;refine⟨_,rfl,a,rfl,⟨_,aB.of (s2 _ _ ha)⟩,iR (K:=K) (a:=a) (xs:=xs) (λi σ H2=>qX7 λl1 l2 q1 q2 ts w v=>qA8 (σ=[some (.str x),some (.ref a),some (.int ((l1.length:Nat):Int)),some (.ref pc),w,v]) (aC H H2) (H2 pc=some (.lst (ts.map V.str))) (x.cps.toList=l1++l2) (r=q1++q2) (Run l2 (ps.drop i) q2) ((cat ts).cps.toList=q1) (ts.length<=i))
  ⟨[],x.cps.toList,[],r,[],none,none,rfl,s2,ay,rfl,rfl,hr,rfl,zqR _⟩
  (λi σ H2 _ ⟨_,_,_,_,_,_,_,_,s3,_,_,_,_,_,_⟩=>aB.of (s3 _ _ ha)) ?_ ?_⟩
 ·rintro i y σ H2 hi ⟨l1,l2,q1,q2,ts,w,v,rfl,s3,hp,e1,e2,dU,ec,tl⟩;obtain⟨pt,gc,kH⟩:=cv.get hi;obtain⟨b,rfl,hb⟩:=kH.mono (bM s3);have d_:i<ps.length:=(zad.mp gc).1;have ed:ps.drop i=pt::ps.drop (i+1):=by
   rw[zaX d_]
   congr 1
   exact zap<|(zai d_).symm.trans gc
  rw[ed] at dU;obtain⟨la,lb,qa,qb,rfl,rfl,qU,one⟩:=DG dU;refine⟨b,_,rfl,.inl<|aL.of hb,rfl,_,_,rfl,_,_,rfl,rfl,?_⟩;have bt:∀o,aW pc H2 (upd H2 pc o):=λo=>aW.upd;cases pt with
  |put s=>
   obtain⟨rfl,rfl⟩:=one;refine⟨_,rfl,_,rfl,_,rfl,.inl ⟨rfl,_,aB.of hp⟩,_,rfl,_,hp,dg (by rw[zaf];lia),?_⟩
   refine⟨l1,lb,q1++s.cps.toList,qb,ts++[s],_,_,rfl,m5 s3 Nw<|bt _,(by rw[ay,zar];rfl),by simpa using e1,by rw[e2];simp,qU,by rw[Dk,Dl,app_list,ec],by simp;lia⟩
  |keep n=>
   obtain⟨rfl,hn⟩:=one;refine⟨_,rfl,_,rfl,_,rfl,_,rfl,_,rfl,.inl ⟨rfl,_,aB.of hp⟩,?_⟩;refine⟨_,rfl,_,rfl,_,rfl,_,rfl,_,rfl,_,rfl,cP hx.1,?_⟩;rw[zA e1 n hn];refine⟨_,hp,dg (by rw[zaf];lia),?_⟩
   refine⟨_,rfl,_,rfl,?_⟩;refine⟨l1++la,lb,q1++la,qb,ts++[⟨la.toArray⟩],some<|.str "keep",some<|.int n,?_,m5 s3 Nw<|bt _,(by rw[ay,zar];rfl),by rw[e1];simp,by rw[e2];simp,qU,by rw[Dk,Dl,app_list,ec],by simp;lia⟩
   rw[zqA,hn,zaP]
   rfl
  |cut s=>
   obtain⟨rfl,rfl⟩:=one;refine⟨_,rfl,_,rfl,_,rfl,_,rfl,_,rfl,rfl,_,rfl,_,rfl,?_⟩;show(λc H1=>if (!c)=true then _ else _) (decide (fromIndex x.length (l1.length:Int)+s.length<=x.length) && Builtin.Str.subAt x s (fromIndex x.length (l1.length:Int))) H2
   rw[abG e1];refine⟨_,rfl,_,rfl,cP (aF _<|zal gc).1.1,?_⟩;refine⟨l1++s.cps.toList,lb,q1,qb,ts,some<|.str "cut",some<|.str s,?_,s3,hp,by rw[e1];simp,e2,qU,ec,by lia⟩
   rw[zqA,<-len_list,zaP]
   rfl
 ·rintro σ H2 ⟨l1,l2,q1,q2,ts,w,v,rfl,s3,hp,e1,e2,dU,ec,tl⟩;rw[hlen,zbs] at dU;cases dU;rw[zaa] at e2;subst e2;have hsz:sz ts<=1000000:=by
   have:=Dm ts;rw[len_list,ec] at this;lia
  have er:(⟨r.toArray⟩:Str)=cat ts:=iJ (by rw[ec])
  refine⟨rfl,_,rfl,ts,aB.of hp,joinOk_of hsz,?_⟩;have k:=q H2 s3;rw[er] at k;exact k
theorem abJ(j:Int)(h0:0<=j)(h1:j<6):∃n:Int,gN [V.int 1,V.int 2,V.int 0,V.int 3,V.int 5,V.int 40] j=some (.int n)/\0<=n/\n<=40:=by
 obtain rfl|rfl|rfl|rfl|rfl|rfl:j=0\/j=1\/j=2\/j=3\/j=4\/j=5:=by lia
 all_goals exact⟨_,rfl,by lia,by lia⟩
theorem DH(a b:List Pt):aA (a++b)=aA a+aA b:=by simp[aA]
abbrev abK:List (Str×Sp):=[("_law_mixed",Di),("_law_text",zl)]
theorem tO(ps:List Pt)(h:∀p∈ps,eW p):aA (i5 ps)=aA ps:=by
 have e:i5 ps=cR ((ps.foldl bz ([],((Str.ofString "",Str.ofString "",0):Row))).1++[(ps.foldl bz ([],((Str.ofString "",Str.ofString "",0):Row))).2]):=rfl;rw[e,DE,(aby ps h).aA]
inductive At where|K|P (c:Nat)|C (c:Nat)
 deriving DecidableEq
abbrev Form:=List Nat×List Nat×List (List Nat×List Nat)
def nb:List At->Form
 |[]=>([],[],[])
 |.P c::xs=>(c::(nb xs).1,(nb xs).2.1,(nb xs).2.2)
 |.C c::xs=>((nb xs).1,c::(nb xs).2.1,(nb xs).2.2)
 |.K::xs=>([],[],((nb xs).1,(nb xs).2.1)::(nb xs).2.2)
def fit:List Nat->List At->Prop
 |l,[]=>l=[]
 |l,.P _::xs=>fit l xs
 |[],.K::_=>False
 |_::l,.K::xs=>fit l xs
 |[],.C _::_=>False
 |a::l,.C c::xs=>a=c/\fit l xs
abbrev Sg:=Sum Nat Nat
def res(i:Nat):List At->List Sg
 |[]=>[]
 |.P c::xs=>.inr c::res i xs
 |.K::xs=>.inl i::res (i+1) xs
 |.C _::xs=>res (i+1) xs
theorem qW:∀(xs:List At) (i j:Nat),Sum.inl j∈res i xs->i<=j
 |[],i,j,h=>by cases h
 |.P c::xs,i,j,h=>by
  rcases zac.mp h with z|z
  ·cases z
  ·exact qW xs i j z
 |.K::xs,i,j,h=>by
  rcases zac.mp h with z|z
  ·cases z;exact zqR _
  ·have:=qW xs (i+1) j z;lia
 |.C c::xs,i,j,h=>by have:=qW xs (i+1) j h;lia
def out:List Nat->List At->List Nat
 |l,[]=>[]
 |l,.P c::xs=>c::out l xs
 |[],.K::xs=>out [] xs
 |a::l,.K::xs=>a::out l xs
 |[],.C _::xs=>out [] xs
 |_::l,.C _::xs=>out l xs
inductive cw:List At->List At->List At->Prop
 |nil:cw [] [] []
 |p {c xs ys zs}:cw xs ys zs->cw xs (.P c::ys) (.P c::zs)
 |c {c xs ys zs}:cw xs ys zs->cw (.C c::xs) ys (.C c::zs)
 |kk {xs ys zs}:cw xs ys zs->cw (.K::xs) (.K::ys) (.K::zs)
 |kc {c xs ys zs}:cw xs ys zs->cw (.K::xs) (.C c::ys) (.C c::zs)
 |pk {c xs ys zs}:cw xs ys zs->cw (.P c::xs) (.K::ys) (.P c::zs)
 |pc {c xs ys zs}:cw xs ys zs->cw (.P c::xs) (.C c::ys) zs
def sb(r:List Sg)(k:Nat):Sg->Sg
 |.inr c=>.inr c
 |.inl j=>r.getD (j - k) (.inr 0)
def sub(r:List Sg)(k:Nat)(t:List Sg):List Sg:=t.map (sb r k)
theorem zC(x:Sg)(r:List Sg)(k:Nat)(t:List Sg)(h:∀j,Sum.inl j∈t->k+1<=j):sub (x::r) k t=sub r (k+1) t:=by
 refine List.map_congr_left λy hy=>?_;cases y with
 |inr c=>rfl
 |inl j=>
  have:=h j hy
  simp only[sb]
  rw[show j - k=(j - (k+1))+1 by lia,List.getD_cons_succ]
theorem abL{xs ys zs:List At}(h:cw xs ys zs):∀(l:List Nat) (i k:Nat),fit l xs->fit (out l xs) ys->fit l zs/\out l zs=out (out l xs) ys/\res i zs=sub (res i xs) k (res k ys):=by
 induction h with
 |nil=>intro l i k h1 h2;exact⟨h1,rfl,rfl⟩
 | @p c xs ys zs _ ih=>
  intro l i k h1 h2;obtain⟨a,b,d⟩:=ih l i k h1 h2;refine⟨a,?_,?_⟩
  ·show c::out l zs=c::out (out l xs) ys;rw[b]
  ·show Sum.inr c::res i zs=_;rw[d];rfl
 | @c c xs ys zs _ ih=>
  intro l i k h1 h2;cases l with
  |nil=>exact h1.elim
  |cons a l=>
   obtain⟨rfl,h1⟩:=h1;obtain⟨e1,e2,e3⟩:=ih l (i+1) k h1 h2;exact⟨⟨rfl,e1⟩,e2,e3⟩
 | @kk xs ys zs _ ih=>
  intro l i k h1 h2;cases l with
  |nil=>exact h1.elim
  |cons a l=>
   obtain⟨e1,e2,e3⟩:=ih l (i+1) (k+1) h1 h2;refine⟨e1,?_,?_⟩
   ·show a::out l zs=a::out (out l xs) ys;rw[e2]
   ·show Sum.inl i::res (i+1) zs=sub (Sum.inl i::res (i+1) xs) k (Sum.inl k::res (k+1) ys);rw[e3];show _=sb (Sum.inl i::res (i+1) xs) k (Sum.inl k)::sub (Sum.inl i::res (i+1) xs) k (res (k+1) ys);rw[zC _ _ _ _ λj hj=>qW ys (k+1) j hj]
    simp only[sb]
    rw[zaK,List.getD_cons_zero]
 | @kc c xs ys zs _ ih=>
  intro l i k h1 h2;cases l with
  |nil=>exact h1.elim
  |cons a l=>
   obtain⟨rfl,h2⟩:=h2;obtain⟨e1,e2,e3⟩:=ih l (i+1) (k+1) h1 h2;refine⟨⟨rfl,e1⟩,e2,?_⟩;show res (i+1) zs=sub (Sum.inl i::res (i+1) xs) k (res (k+1) ys);rw[e3,zC _ _ _ _ λj hj=>qW ys (k+1) j hj]
 | @pk c xs ys zs _ ih=>
  intro l i k h1 h2;obtain⟨e1,e2,e3⟩:=ih l i (k+1) h1 h2;refine⟨e1,?_,?_⟩
  ·show c::out l zs=c::out (out l xs) ys;rw[e2]
  ·show Sum.inr c::res i zs=sub (Sum.inr c::res i xs) k (Sum.inl k::res (k+1) ys);rw[e3];show _=sb (Sum.inr c::res i xs) k (Sum.inl k)::sub (Sum.inr c::res i xs) k (res (k+1) ys);rw[zC _ _ _ _ λj hj=>qW ys (k+1) j hj]
   simp only[sb]
   rw[zaK,List.getD_cons_zero]
 | @pc c xs ys zs _ ih=>
  intro l i k h1 h2;obtain⟨_,h2⟩:=h2;obtain⟨e1,e2,e3⟩:=ih l i (k+1) h1 h2;refine⟨e1,e2,?_⟩;show res i zs=sub (Sum.inr c::res i xs) k (res (k+1) ys);rw[e3,zC _ _ _ _ λj hj=>qW ys (k+1) j hj]
def l9:Nat->List Nat->List Nat->List (List Nat×List Nat)->List Sg
 |i,p,q,[]=>p.map .inr
 |i,p,q,(p',q')::r=>p.map .inr++ .inl (i+q.length)::l9 (i+q.length+1) p' q' r
theorem abM(c:Nat):∀(r:List (List Nat×List Nat)) (i:Nat) (p q:List Nat),l9 (i+1) p q r=l9 i p (c::q) r
 |[],i,p,q=>rfl
 |(p',q')::r,i,p,q=>by
  simp only[l9,zaw]
  rw[show i+1+q.length=i+(q.length+1) by lia]
theorem abN(c:Nat):∀(r:List (List Nat×List Nat)) (i:Nat) (p q:List Nat),l9 i (c::p) q r=.inr c::l9 i p q r
 |[],i,p,q=>rfl
 |(p',q')::r,i,p,q=>rfl
theorem vQ:∀(xs:List At) (i:Nat),res i xs=l9 i (nb xs).1 (nb xs).2.1 (nb xs).2.2
 |[],i=>rfl
 |.P c::xs,i=>by
  show Sum.inr c::res i xs=l9 i (c::(nb xs).1) _ _;rw[vQ xs i,abN];rfl
 |.C c::xs,i=>by
  show res (i+1) xs=l9 i (nb xs).1 (c::(nb xs).2.1) _;rw[vQ xs<|i+1,abM c];rfl
 |.K::xs,i=>by
  show Sum.inl i::res (i+1) xs=Sum.inl (i+0)::l9 (i+0+1) _ _ _;rw[vQ xs<|i+1];rfl
theorem abO{xs ys:List At}(h:nb xs=nb ys)(i:Nat):res i xs=res i ys:=by rw[vQ,vQ,h]
def jx:List Nat->List Nat->List (List Nat×List Nat)->Form->Form
 |p,q,[],F=>(p++F.1,q++F.2.1,F.2.2)
 |p,q,(a,b)::r,F=>(p,q,((jx a b r F).1,(jx a b r F).2.1)::(jx a b r F).2.2)
theorem abP(c:Nat)(p q:List Nat)(r:List (List Nat×List Nat))(F:Form):jx (c::p) q r F=(c::(jx p q r F).1,(jx p q r F).2.1,(jx p q r F).2.2):=by
 cases r<;>rfl
theorem abQ(c:Nat)(p q:List Nat)(r:List (List Nat×List Nat))(F:Form):jx p (c::q) r F=((jx p q r F).1,c::(jx p q r F).2.1,(jx p q r F).2.2):=by
 cases r<;>rfl
theorem nu:∀(xs ys:List At),nb (xs++ys)=jx (nb xs).1 (nb xs).2.1 (nb xs).2.2 (nb ys)
 |[],ys=>rfl
 |.K::xs,ys=>by
  simp only[zaW,nb,nu xs ys];rfl
 |.P c::xs,ys=>by
  simp only[zaW,nb,nu xs ys,abP]
 |.C c::xs,ys=>by
  simp only[zaW,nb,nu xs ys,abQ]
theorem DI{xs bB ys c8:List At}(h:nb xs=nb bB)(h':nb ys=nb c8):nb (xs++ys)=nb (bB++c8):=by rw[nu,nu,h,h']
theorem DJ:∀(p:List Nat),nb (p.map .P)=(p,[],[])
 |[]=>rfl
 |c::p=>by simp only[zat,nb,DJ p]
theorem DK:∀(p:List Nat),nb (p.map .C)=([],p,[])
 |[]=>rfl
 |c::p=>by simp only[zat,nb,DK p]
theorem abR(p q:List Nat):nb (q.map .C++p.map .P)=nb (p.map .P++q.map .C):=by
 rw[nu,nu,DJ,DK]
 simp[jx]
def rK(n:Nat):List At:=List.replicate n .K
theorem abS(n:Nat)(xs:List At):nb (rK (n+1)++xs)=([],[],List.replicate n ([],[])++((nb xs).1,(nb xs).2.1)::(nb xs).2.2):=by
 induction n with
 |zero=>rfl
 |succ n ih=>
  have e:rK (n+1+1)++xs=.K::(rK (n+1)++xs):=rfl;rw[e]
  simp only[nb,ih]
  rfl
theorem DL:∀(a l:List Nat) (xs:List At),fit (a++l) (rK a.length++xs)↔fit l xs
 |[],l,xs=>Iff.rfl
 |c::a,l,xs=>DL a l xs
theorem DM:∀(a l:List Nat) (xs:List At),out (a++l) (rK a.length++xs)=a++out l xs
 |[],l,xs=>rfl
 |c::a,l,xs=>by
  show c::out (a++l) (rK a.length++xs)=_;rw[DM a l xs];rfl
theorem qX:∀(s l:List Nat) (xs:List At),fit l (s.map .P++xs)↔fit l xs
 |[],l,xs=>Iff.rfl
 |c::s,l,xs=>qX s l xs
theorem zD:∀(s l:List Nat) (xs:List At),out l (s.map .P++xs)=s++out l xs
 |[],l,xs=>rfl
 |c::s,l,xs=>by
  show c::out l (s.map .P++xs)=_;rw[zD s l xs];rfl
theorem DN:∀(s l:List Nat) (xs:List At),fit (s++l) (s.map .C++xs)↔fit l xs
 |[],l,xs=>Iff.rfl
 |c::s,l,xs=>by
  show c=c/\fit (s++l) (s.map .C++xs)↔_;rw[DN s l xs];simp
theorem zE:∀(s l:List Nat) (xs:List At),out (s++l) (s.map .C++xs)=out l xs
 |[],l,xs=>rfl
 |c::s,l,xs=>zE s l xs
inductive cW:List At->List At->List At->List At->Prop
 |nil:cW [] [] [] []
 |p1 {c xs ys os ts}:cW xs ys os ts->cW (.P c::xs) ys (.P c::os) (.K::ts)
 |p2 {c xs ys os ts}:cW xs ys os ts->cW xs (.P c::ys) (.K::os) (.P c::ts)
 |kk {xs ys os ts}:cW xs ys os ts->cW (.K::xs) (.K::ys) (.K::os) (.K::ts)
 |kc {c xs ys os ts}:cW xs ys os ts->cW (.K::xs) (.C c::ys) os (.C c::ts)
 |ck {c xs ys os ts}:cW xs ys os ts->cW (.C c::xs) (.K::ys) (.C c::os) ts
 |cc {c xs ys os ts}:cW xs ys os ts->cW (.C c::xs) (.C c::ys) os ts
theorem cW.fits{xs ys os ts:List At}(h:cW xs ys os ts):∀l,fit l xs->fit l ys->fit (out l xs) ts/\fit (out l ys) os/\out (out l xs) ts=out (out l ys) os:=by
 induction h with
 |nil=>intro l h1 h2;cases h1;exact⟨rfl,rfl,rfl⟩
 | @p1 c xs ys os ts _ ih=>
  intro l h1 h2;obtain⟨a,b,d⟩:=ih l h1 h2;exact⟨a,b,by show c::_=c::_;rw[d]⟩
 | @p2 c xs ys os ts _ ih=>
  intro l h1 h2;obtain⟨a,b,d⟩:=ih l h1 h2;exact⟨a,b,by show c::_=c::_;rw[d]⟩
 | @kk xs ys os ts _ ih=>
  intro l h1 h2;cases l with
  |nil=>exact h1.elim
  |cons x l=>
   obtain⟨a,b,d⟩:=ih l h1 h2;exact⟨a,b,by show x::_=x::_;rw[d]⟩
 | @kc c xs ys os ts _ ih=>
  intro l h1 h2;cases l with
  |nil=>exact h1.elim
  |cons x l=>
   obtain⟨rfl,h2⟩:=h2;obtain⟨a,b,d⟩:=ih l h1 h2;exact⟨⟨rfl,a⟩,b,d⟩
 | @ck c xs ys os ts _ ih=>
  intro l h1 h2;cases l with
  |nil=>exact h1.elim
  |cons x l=>
   obtain⟨rfl,h1⟩:=h1;obtain⟨a,b,d⟩:=ih l h1 h2;exact⟨a,⟨rfl,b⟩,d⟩
 | @cc c xs ys os ts _ ih=>
  intro l h1 h2;cases l with
  |nil=>exact h1.elim
  |cons x l=>
   obtain⟨rfl,h1⟩:=h1;obtain⟨_,h2⟩:=h2;exact ih l h1 h2
end L2.B
variable {ps other c:List L2.B.Pt}{ts:List L2.B.At}{tx:List (List Nat)}{C' d' CB:PySem.Addr}{cA:Nat}
namespace L2.B
def bj:Pt->List At
 |.keep n=>rK n.toNat
 |.put s=>s.cps.toList.map .P
 |.cut s=>s.cps.toList.map .C
def av(ps:List Pt):List At:=(ps.map bj).flatten
theorem dh(p:Pt)(ps:List Pt):av (p::ps)=bj p++av ps:=rfl
theorem eY(ps qs:List Pt):av (ps++qs)=av ps++av qs:=by simp[av]
theorem gX(p:Pt):av [p]=bj p:=by simp[av]
def gY:Pt->Prop|.keep n=>0<=n|_=>True
theorem vR(h:eW p):gY p:=by cases p<;>first|exact h|trivial
theorem o5(h:ba p):gY p:=by
 cases p with
 |keep n=>exact Int.le_trans (by lia) (show(1:Int)<=n from h)
 |_=>trivial
theorem Run.fits(h:Run l ps r):fit l (av ps)/\out l (av ps)=r:=by
 induction h with
 |nil=>exact⟨rfl,rfl⟩
 | @keep a l r n ps e _ ih=>
  rw[dh];have e1:bj (.keep n)=rK a.length:=by show rK n.toNat=_;rw[e];simp
  rw[e1];exact⟨(DL a l _).mpr ih.1,by rw[DM,ih.2]⟩
 | @put s l r ps _ ih=>
  rw[dh];exact⟨(qX _ l _).mpr ih.1,by show out l (s.cps.toList.map .P++_)=_;rw[zD,ih.2]⟩
 | @cut s l r ps _ ih=>
  rw[dh];exact⟨(DN _ l _).mpr ih.1,by show out _ (s.cps.toList.map .C++_)=_;rw[zE,ih.2]⟩
theorem Nx:∀(n:Nat) (l:List Nat) (xs:List At),fit l (rK n++xs)->∃a b,l=a++b/\a.length=n
 | 0,l,xs,h=>⟨[],l,rfl,rfl⟩
 |n+1,[],xs,h=>(show False from h).elim
 |n+1,c::l,xs,h=>by
  obtain⟨a,b,e,hl⟩:=Nx n l xs h;exact⟨c::a,b,e▸rfl,by simp[hl]⟩
theorem vS:∀(s l:List Nat) (xs:List At),fit l (s.map .C++xs)->∃b,l=s++b
 |[],l,xs,h=>⟨l,rfl⟩
 |c::s,[],xs,h=>(show False from h).elim
 |c::s,d::l,xs,h=>by
  obtain⟨e,h⟩:=(show d=c/\fit l (s.map .C++xs) from h)
  obtain⟨b,e2⟩:=vS s l xs h;exact⟨b,by rw[e,e2];rfl⟩
theorem o6:∀(ps:List Pt) (l:List Nat),(∀p∈ps,gY p)->fit l (av ps)->Run l ps (out l<|av ps)
 |[],l,_,h=>by
  have:=h;subst this;exact .nil
 |.keep n::ps,l,hn,h=>by
  rw[dh] at h⊢;obtain⟨a,b,rfl,ha⟩:=Nx _ _ _ h;have vK:0<=n:=hn _ (.head _);have e1:bj (.keep n)=rK a.length:=by show rK n.toNat=_;rw[ha]
  rw[e1] at h⊢;rw[DM];exact .keep (by lia)<|o6 ps b (λp hp=>hn p<|.tail _ hp)<|(DL a b _).mp h
 |.put s::ps,l,hn,h=>by
  show Run l _ (out l<|s.cps.toList.map .P++_);rw[zD];exact .put<|o6 ps l (λp hp=>hn p<|.tail _ hp)<|(qX _ l _).mp h
 |.cut s::ps,l,hn,h=>by
  obtain⟨b,rfl⟩:=vS _ _ _ h;show Run _ _ (out _<|s.cps.toList.map .C++_);rw[zE];exact .cut<|o6 ps b (λp hp=>hn p<|.tail _ hp)<|(DN _ b _).mp h
def kQ(s:NS):List At:=av s.1++((cat s.2.1).cps.toList.map .P++(cat s.2.2).cps.toList.map .C)
theorem Ny(mk:Str->Pt)(f:Nat->At)(h:∀s,bj (mk s)=s.cps.toList.map f)(x:Str):av (txt mk x)=x.cps.toList.map f:=by
 by_cases hx:x=""
 ·rw[hx];rfl
 ·rw[jZ hx,gX,h]
theorem Nz(ch:List Pt)(p c:List Str):av (dS ch p c)=kQ (ch,p,c):=by
 unfold dS kQ;rw[eY,eY,Ny .put .P<|λ_=>rfl,Ny .cut .C<|λ_=>rfl,zaj]
theorem NA(m n:Nat):rK m++rK n=rK (m+n):=by unfold rK;rw[List.replicate_append_replicate]
theorem abT(ch:List Pt)(n:Int)(hn:0<=n)(h:∀p∈ch,gY p):av (eI ch n)=av ch++rK n.toNat:=by
 unfold eI
 split
 ·rename_i m e
  have hm:=List.mem_of_getLast? e;have zF:0<=m:=h _ hm;have ec:ch=ch.dropLast++[.keep m]:=by
   have ia:ch≠ []:=by intro z;rw[z] at hm;cases hm
   rw[List.getLast?_eq_some_getLast ia] at e;rw[<-(zap e),List.dropLast_concat_getLast]
  conv=>rhs;rw[ec]
  rw[eY,eY,gX,gX,zaj];show _++rK (n+m).toNat=_++(rK m.toNat++rK n.toNat);rw[NA,show(n+m).toNat=m.toNat+n.toNat by lia]
 ·rw[eY,gX];rfl
theorem NB{mk:Str->Pt}(h:∀s,gY<|mk s)(x:Str):∀p∈txt mk x,gY p:=by
 intro p hp;unfold txt at hp
 split at hp
 ·cases hp
 ·rw[zag.mp hp];exact h x
theorem NC(p c:List Str)(h:∀p∈ch,gY p):∀q∈dS ch p c,gY q:=by
 intro q hq;rcases zab.mp hq with z|z
 ·rcases zab.mp z with z|z
  ·exact h q z
  ·exact NB (mk:=.put) (λ_=>trivial) _ q z
 ·exact NB (mk:=.cut) (λ_=>trivial) _ q z
theorem abU{n:Int}(hn:0<=n)(h:∀p∈ch,gY p):∀q∈eI ch n,gY q:=by
 intro q hq;unfold eI at hq
 split at hq
 ·rename_i m e
  rcases zab.mp hq with z|z
  ·exact h q ((List.dropLast_sublist ch).subset z)
  ·rw[zag.mp z];have zF:0<=m:=h _ (List.mem_of_getLast? e);show 0<=n+m;lia
 ·rcases zab.mp hq with z|z
  ·exact h q z
  ·rw[zag.mp z];exact hn
theorem abV(s:NS)(p:Pt)(hp:gY p)(h:∀q∈s.1,gY q):nb (kQ<|dA s p)=nb (kQ s++bj p)/\∀q∈ (dA s p).1,gY q:=by
 obtain⟨ch,pu,cu⟩:=s;cases p with
 |put x=>
  refine⟨?_,h⟩;show nb (av ch++((cat<|pu++[x]).cps.toList.map .P++(cat cu).cps.toList.map .C))=nb (av ch++((cat pu).cps.toList.map .P++(cat cu).cps.toList.map .C)++x.cps.toList.map .P);rw[oW,app_list,zar,zaj,zaj,zaj];exact DI rfl<|DI rfl ((abR _ _).symm)
 |cut x=>
  refine⟨?_,h⟩;show nb (av ch++((cat pu).cps.toList.map .P++(cat<|cu++[x]).cps.toList.map .C))=nb (av ch++((cat pu).cps.toList.map .P++(cat cu).cps.toList.map .C)++x.cps.toList.map .C);rw[oW,app_list,zar,zaj,zaj]
 |keep n=>
  have vK:=hp;by_cases hn:0<n
  ·have e:dA (ch,pu,cu) (.keep n)=(eI (dS ch pu cu) n,[],[]):=if_pos hn;rw[e];refine⟨?_,abU vK<|NC _ _ h⟩;show nb (av (eI (dS ch pu cu) n)++[])=nb (kQ (ch,pu,cu)++rK n.toNat);rw[zaa,abT _ _ vK<|NC _ _ h,Nz]
  ·have e:dA (ch,pu,cu) (.keep n)=(ch,pu,cu):=if_neg hn;rw[e];refine⟨?_,h⟩;show _=nb (kQ (ch,pu,cu)++rK n.toNat);rw[show n.toNat=0 by lia]
   show _=nb (_++[]);rw[zaa]
theorem ND:∀(ps:List Pt) (s:NS),(∀p∈ps,gY p)->(∀q∈s.1,gY q)->nb (kQ<|ps.foldl dA s)=nb (kQ s++av ps)
 |[],s,_,_=>by show nb (kQ s)=nb (kQ s++[]);rw[zaa]
 |p::ps,s,h,hs=>by
  obtain⟨a,b⟩:=abV s p (h p<|.head _) hs;show nb (kQ<|ps.foldl dA<|dA s p)=_;rw[ND ps _ (λq hq=>h q<|.tail _ hq) b,dh,<-zaj];exact DI a rfl
theorem qY(ps:List Pt)(h:∀p∈ps,gY p):nb (av<|jv ps)=nb (av ps):=by
 unfold jv
 rw[Nz];exact (ND ps ([],[],[]) h nofun)
theorem i6(h:s≠""):∃c r,s.cps.toList=c::r:=by
 cases e:s.cps.toList with
 |nil=>exact absurd (iJ (e▸rfl)) h
 |cons c r=>exact⟨c,r,rfl⟩
theorem tP(s:Str)(xs:List At):nb (s.cps.toList.map .P++xs)=(s.cps.toList++(nb xs).1,(nb xs).2.1,(nb xs).2.2):=by
 rw[nu,DJ];rfl
theorem qZ(s:Str)(xs:List At):nb (s.cps.toList.map .C++xs)=((nb xs).1,s.cps.toList++(nb xs).2.1,(nb xs).2.2):=by
 rw[nu,DK];rfl
theorem q8{n:Int}(h:1<=n)(xs:List At):nb (rK n.toNat++xs)=([],[],List.replicate (n.toNat - 1) ([],[])++((nb xs).1,(nb xs).2.1)::(nb xs).2.2):=by
 obtain⟨m,e⟩:∃m,n.toNat=m+1:=⟨n.toNat - 1,by lia⟩
 rw[e,abS];rfl
theorem NF(h:oP "put" w=true):w≠"put"/\w≠"cut":=by
 refine⟨λz=>?_,λz=>?_⟩ <;>subst z<;>exact absurd h (by decide)
theorem abW(h:oP "cut" w=true):w≠"cut":=by
 intro z;subst z;exact absurd h (by decide)
theorem NG(h:oP "keep" w=true):w≠"keep":=by
 intro z;subst z;exact absurd h (by decide)
theorem o7{ps:List Pt}{w:Str}(hc:chainOk w ps=true)(ho:∀p∈ps,ba p)(hw:w="put"\/w="cut"):(nb<|av ps).1=[]:=by
 cases ps with
 |nil=>rfl
 |cons p ps=>
  simp only[chainOk,zae] at hc
  have hp:=ho p (.head _);cases p with
  |keep n=>show(nb<|rK n.toNat++_).1=_;rw[q8 hp]
  |put s=>
   obtain⟨a,b⟩:=NF hc.1;rcases hw with z|z
   ·exact absurd z a
   ·exact absurd z b
  |cut s=>
   show(nb<|s.cps.toList.map .C++_).1=_;rw[qZ];exact o7 hc.2 (λq hq=>ho q<|.tail _ hq)<|.inr rfl
theorem DO(hc:chainOk "cut" ps=true)(ho:∀p∈ps,ba p):(nb<|av ps).2.1=[]:=by
 cases ps with
 |nil=>rfl
 |cons p ps=>
  simp only[chainOk,zae] at hc
  have hp:=ho p (.head _);cases p with
  |keep n=>show(nb<|rK n.toNat++_).2.1=_;rw[q8 hp]
  |put s=>exact absurd rfl (NF hc.1).2
  |cut s=>exact absurd rfl (abW hc.1)
theorem NH(hc:chainOk "keep" ps=true)(ho:∀p∈ps,ba p)(h1:(nb<|av ps).1=[])(h2:(nb<|av ps).2.1=[]):ps=[]:=by
 cases ps with
 |nil=>rfl
 |cons p ps=>
  simp only[chainOk,zae] at hc
  have hp:=ho p (.head _);cases p with
  |keep n=>exact absurd rfl (NG hc.1)
  |put s=>
   obtain⟨c,r,e⟩:=i6 hp.2;have gG:(nb<|s.cps.toList.map .P++av ps).1=[]:=h1;rw[e] at gG;cases gG
  |cut s=>
   obtain⟨c,r,e⟩:=i6 hp.2;have q9:(nb<|s.cps.toList.map .C++av ps).2.1=[]:=h2;rw[e] at q9;cases q9
theorem NI{a b:List Nat×List Nat}{r s:List (List Nat×List Nat)}:∀{m n:Nat},List.replicate m (([],[]):List Nat×List Nat)++a::r=List.replicate n ([],[])++b::s->(m=n/\a=b/\r=s)\/(m<n/\a=([],[])/\r≠ [])\/(n<m/\b=([],[])/\s≠ [])
 | 0,0,h=>by
  injection h with h1 h2
  exact .inl ⟨rfl,h1,h2⟩
 | 0,n+1,h=>by
  injection h with h1 h2
  exact .inr<|.inl ⟨by lia,h1,by rw[h2];simp⟩
 |m+1,0,h=>by
  injection h with h1 h2
  exact .inr<|.inr ⟨by lia,h1.symm,by rw[<-h2];simp⟩
 |m+1,n+1,h=>by
  injection h with _ h2
  rcases NI h2 with⟨x,y⟩|⟨x,y⟩|⟨x,y⟩
  ·exact .inl ⟨by lia,y⟩
  ·exact .inr (.inl ⟨by lia,y⟩)
  ·exact .inr (.inr ⟨by lia,y⟩)
theorem NJ(q:Pt)(qs:List Pt)(ho:∀p∈q::qs,ba p)(h:([],[],[])=nb (av (q::qs))):False:=by
 have hq:=ho q (.head _);have h0:=h;cases q with
 |keep n=>
  have h1:([],[],[])=nb (rK n.toNat++av qs):=h0;rw[q8 hq] at h1;have:=congrArg (λx=>x.2.2) h1
  simp at this
 |put s=>
  obtain⟨c,r,e⟩:=i6 hq.2;have h1:([],[],[])=nb (s.cps.toList.map .P++av qs):=h0;rw[tP,e] at h1;have:=congrArg (λx=>x.1) h1
  simp at this
 |cut s=>
  obtain⟨c,r,e⟩:=i6 hq.2;have h1:([],[],[])=nb (s.cps.toList.map .C++av qs):=h0;rw[qZ,e] at h1;have:=congrArg (λx=>x.2.1) h1
  simp at this
theorem DP:∀(ps qs:List Pt) (w v:Str),chainOk w ps=true->chainOk v qs=true->(∀p∈ps,ba p)->(∀p∈qs,ba p)->nb (av ps)=nb (av qs)->ps=qs
 |[],[],_,_,_,_,_,_,_=>rfl
 |[],q::qs,_,_,_,_,_,ho,h=>(NJ q qs ho h).elim
 |p::ps,[],_,_,_,_,ho,_,h=>(NJ p ps ho h.symm).elim
 |p::ps,q::qs,w,v,hw,hv,ho,dY,h=>by
  simp only[chainOk,zae] at hw hv
  have hp:=ho p (.head _);have hq:=dY q (.head _);have oT:=λx hx=>ho x (.tail _ hx);have nA:=λx hx=>dY x (.tail _ hx);have fin:p=q->nb (av ps)=nb (av qs)->p::ps=q::qs:=λe1 e2=>by
   rw[e1,DP ps qs p.word q.word hw.2 hv.2 oT nA e2]
  cases p with
  |keep n=>
   have h':nb (rK n.toNat++av ps)=nb (bj q++av qs):=h;rw[q8 hp] at h';cases q with
   |keep m=>
    have h2:_=nb (rK m.toNat++av qs):=h';rw[q8 hq] at h2;have fg:(1:Int)<=n:=hp;have DQ:(1:Int)<=m:=hq;rcases NI (congrArg (λx=>x.2.2) h2) with⟨e1,e2,e3⟩|⟨e1,e2,e3⟩|⟨e1,e2,e3⟩
    ·refine fin (by congr 1;lia) ?_
     have tQ:=congrArg Prod.fst e2
     exact Prod.ext tQ<|Prod.ext (congrArg Prod.snd e2) e3
    ·have:=NH hw.2 oT (congrArg Prod.fst e2) (congrArg Prod.snd e2);rw[this] at e3;exact absurd rfl e3
    ·have:=NH hv.2 nA (congrArg Prod.fst e2) (congrArg Prod.snd e2);rw[this] at e3;exact absurd rfl e3
   |put s=>
    obtain⟨c,r,e⟩:=i6 hq.2;have h2:_=nb (s.cps.toList.map .P++av qs):=h';rw[tP,e] at h2;have:=congrArg (λx=>x.1) h2
    simp at this
   |cut s=>
    obtain⟨c,r,e⟩:=i6 hq.2;have h2:_=nb (s.cps.toList.map .C++av qs):=h';rw[qZ,e] at h2;have:=congrArg (λx=>x.2.1) h2
    simp at this
  |put x=>
   obtain⟨c0,r0,e0⟩:=i6 hp.2;have h':nb (x.cps.toList.map .P++av ps)=nb (bj q++av qs):=h;rw[tP] at h';have k1:=o7 hw.2 oT (.inl rfl);cases q with
   |keep m=>
    have h2:_=nb (rK m.toNat++av qs):=h';rw[q8 hq,e0] at h2;have:=congrArg (λx=>x.1) h2
    simp at this
   |put s=>
    have h2:_=nb (s.cps.toList.map .P++av qs):=h';rw[tP,k1,o7 hv.2 nA<|.inl rfl,zaa,zaa] at h2
    refine fin (by rw[iJ (congrArg (λx=>x.1) h2)]) ?_
    exact Prod.ext (by rw[k1,o7 hv.2 nA<|.inl rfl]) (congrArg (λx=>x.2) h2)
   |cut s=>
    have h2:_=nb (s.cps.toList.map .C++av qs):=h';rw[qZ,o7 hv.2 nA<|.inr rfl,e0] at h2;have:=congrArg (λx=>x.1) h2
    simp at this
  |cut x=>
   obtain⟨c0,r0,e0⟩:=i6 hp.2;have h':nb (x.cps.toList.map .C++av ps)=nb (bj q++av qs):=h;have k1:=o7 hw.2 oT (.inr rfl);have k2:=DO hw.2 oT;rw[qZ] at h';cases q with
   |keep m=>
    exfalso
    have h2:_=nb (rK m.toNat++av qs):=h';rw[q8 hq,e0] at h2;have:=congrArg (λx=>x.2.1) h2
    simp at this
   |put s=>
    exfalso
    obtain⟨c,r,e⟩:=i6 hq.2;have h2:_=nb (s.cps.toList.map .P++av qs):=h';rw[tP,k1,e] at h2;have:=congrArg (λx=>x.1) h2
    simp at this
   |cut s=>
    have h2:_=nb (s.cps.toList.map .C++av qs):=h';rw[qZ,k2,DO hv.2 nA,zaa,zaa] at h2
    refine fin (by rw[iJ (congrArg (λx=>x.2.1) h2)]) ?_
    exact Prod.ext (by rw[k1,o7 hv.2 nA<|.inr rfl])<|Prod.ext (by rw[k2,DO hv.2 nA]) (congrArg (λx=>x.2.2) h2)
theorem iM{r:List (Str×V)}:((k,v)::r).lookup k=some v:=by simp
theorem cL{j:Str}{r:List (Str×V)}(h:¬k=j):((j,v)::r).lookup k=r.lookup k:=by
 have:(k==j)=false:=by lia
 simp[List.lookup,this]
theorem l_{w:V}{r:List (Str×V)}:aI k v ((k,w)::r)=(k,v)::r:=by simp[aI]
theorem d3{j:Str}{w:V}{r:List (Str×V)}(h:¬j=k):aI k v ((j,w)::r)=(j,w)::aI k v r:=by simp[aI,h]
theorem abX{P Q:Bool->Prop}(h:cb T v H P)(i:∀b,P b->Q b):cb T v H Q:=by
 cases v with
 |ref a=>
  unfold cb at h⊢
  simp only at h⊢
  split at h
  all_goals first|exact i _ h|exact h.elim
 |au=>exact i _ h
 |bl b=>exact i _ h
 |int _=>exact i _ h
 |str _=>exact i _ h
 |_=>exact False.elim h
theorem abY(h:cb T v H P)(s:aC H H'):cb T v H' P:=by
 cases v with
 |ref a=>
  unfold cb at h⊢
  simp only at h⊢
  cases e:H a with
  |none=>rw[e] at h;exact h.elim
  |some o=>rw[e] at h;rw[s _ _ e];exact h
 |au=>exact h
 |bl b=>exact h
 |int _=>exact h
 |str _=>exact h
 |_=>exact False.elim h
def j4(T:Ty)(v:V)(H:Hp):Prop:=cb T v H λb=>b=false
theorem j4.same(h:j4 T v H)(s:aC H H'):j4 T v H':=abY h s
theorem j4.go{Q:Bool->Prop}(h:j4 T v H)(q:Q false):cb T v H Q:=abX h λb e=>e▸q
def abZ(x:Str):Bool:=x.cps.toList.all λc=>SG.cps.contains c
theorem NK{α:Type}(p:α->Bool):∀l:List α,l.all p=false->(l.takeWhile p).length<l.length
 |[],h=>by cases h
 |c::l,h=>by
  rw[List.takeWhile_cons];cases hc:p c with
  |false=>simp
  |true=>
   rw[zbi,hc] at h;have:=NK p l h
   simp;lia
theorem ab0(x y:Str)(h:(x.cps.toList.all λc=>y.cps.contains c)=false):Txt.lstripChars x y≠"":=by
 have lt:=NK _ _ h;have e0:stripLo y.cps.contains true x=(x.cps.toList.takeWhile y.cps.contains).length:=by
  unfold stripLo;rw[if_pos rfl]
 intro z;have z2:=congrArg Str.length z;unfold Txt.lstripChars Txt.stripBy stripSame stripped at z2;have hx:x.cps.size=x.cps.toList.length:=rfl
 split at z2
 ·have:x.cps.size=0:=z2;lia
 ·have z3:(x.cps.extract (x.cps.toList.takeWhile y.cps.contains).length x.cps.size).size=0:=z2;rw[Array.size_extract] at z3;lia
def tU(v:V)(H:Hp):Prop:=(∃x,v=.str x/\x.length<=1000000/\abZ x=false)\/j4 .str v H
theorem tU.same(h:tU v H)(s:aC H H'):tU v H':=by
 rcases h with h|h
 ·exact .inl h
 ·exact .inr (h.same s)
def tW(v:V)(H:Hp):Prop:=(∃b,v=.bl b)\/j4 .int v H
theorem tW.same(h:tW v H)(s:aC H H'):tW v H':=by
 rcases h with h|h
 ·exact .inl h
 ·exact .inr (h.same s)
inductive vT (vs:List V)(H:Hp)(Q:VK)(E:XK):Prop|i(v:_)(_:vs=[v])(_:((∃i,v=.int i/\Q (.bl true) H)\/(tW v H/\Q (.bl false) H)))
theorem ab1{K:Frag}:bQ (vT) (λE=>aN K [] [] (E:=E)) Jk jq:=by
 intro vs H Q E h;obtain⟨v,rfl,⟨i,rfl,q⟩|⟨⟨b,rfl⟩|hn,q⟩⟩:=h
 ·exact⟨_,rfl,rfl,_,rfl,fU ⟨_,rfl,rfl,q⟩⟩
 ·exact⟨_,rfl,rfl,_,rfl,fU ⟨_,rfl,rfl,q⟩⟩
 ·exact⟨_,rfl,rfl,hn.go ⟨_,rfl,iy q⟩⟩
theorem ab2{E:XK}(h:lY vs H Q E):vT vs H Q E:=by
 obtain⟨i,rfl,q⟩:=h;exact⟨_,rfl,.inl ⟨i,rfl,q⟩⟩
inductive DR (vs:List V)(H:Hp)(Q:VK)(E:XK):Prop|i(v:_)(_:vs=[v])(_:((∃x,v=.str x/\good x/\Q (.bl true) H)\/(tU v H/\Q (.bl false) H)))
theorem ab3{K:Frag}:bQ (DR) (λE=>aN K [] gS (E:=E)) CQ jq:=by
 intro vs H Q E h;obtain⟨v,rfl,⟨x,rfl,hx,q⟩|⟨⟨x,rfl,hl,hx⟩|hn,q⟩⟩:=h
 ·exact aaP _ _ _ _ ⟨x,rfl,hx,q⟩
 ·refine⟨_,rfl,rfl,_,rfl,fU ⟨_,rfl,rfl,cP hl,?_⟩⟩;show Q (.bl<|false ^^ decide (V.str (Txt.lstripChars x SG)=V.str "")) H;rw[zqF<|λz=>ab0 x SG hx (by lia)]
  exact q
 ·exact⟨_,rfl,rfl,hn.go ⟨_,rfl,iy q⟩⟩
abbrev ab4:List (Str×Sp):=[("is_text",DR)]
inductive NL (C:Addr)(vs:List V)(H:Hp)(Q:VK)(E:XK):Prop|i(v:_)(_:vs=[v])(_:((∃x,v=.str x/\good x/\Q .au H)\/(tU v H/\E (.ref C) none H)))
theorem ab5{K:Frag}:bQ (NL C) (λE=>aN K ab4 [] (et:=[("BadText",C)]) (E:=E)) Jn jq:=by
 intro vs H Q E h;obtain⟨v,rfl,⟨x,rfl,hx,q⟩|⟨hn,q⟩⟩:=h
 ·exact⟨_,rfl,_,rfl,.inl ⟨x,rfl,hx,q⟩⟩
 ·exact⟨_,rfl,_,rfl,.inr ⟨hn,jH,q⟩⟩
theorem ab6{E:XK}(h:qS vs H Q E):NL C vs H Q E:=by
 obtain⟨x,rfl,hx,q⟩:=h;exact⟨_,rfl,.inl ⟨x,rfl,hx,q⟩⟩
inductive DS (K:Frag)(vs:List V)(H:Hp)(Q:VK)(E:XK):Prop|i(v p xs:_)(_:vs=[v,.ref p])(_:aL K H p xs)(_:xs.all iU=true)(_:((∃w,v=.str w/\Q (.bl<|gP (.str w) xs) H)\/(j4 .str v H/\Q (.bl false) H)))
theorem ab7{K:Frag}:bQ (DS K) (λE=>aN K [] [] (E:=E)) CO CM:=by
 intro vs H Q E h;obtain⟨v,p,xs,rfl,hp,hf,⟨w,rfl,q⟩|⟨hn,q⟩⟩:=h
 ·exact aaQ _ _ _ _ ⟨w,p,xs,rfl,hp,hf,q⟩
 ·exact⟨_,rfl,rfl,hn.go ⟨_,rfl,iy q⟩⟩
theorem ab8{K:Frag}{E:XK}(h:lZ K vs H Q E):DS K vs H Q E:=by
 obtain⟨w,p,xs,rfl,hp,hf,q⟩:=h;exact⟨_,p,xs,rfl,hp,hf,.inl ⟨w,rfl,q⟩⟩
def ab9(v:V)(H:Hp):Prop:=j4 .tuple v H\/∃a xs,v=.ref a/\H a=some (.tup xs)/\xs.length<=1000000/\(xs.length≠2\/∃w t,xs=[w,t]/\
 (j4 .str w H\/(∃s,w=.str s/\s≠"keep"/\s≠"cut"/\s≠"put")\/(w=.str "keep"/\(tW t H\/∃n,t=.int n/\n<1))\/((w=.str "cut"\/w=.str "put")/\(tU t H\/t=.str ""))))
abbrev zG(K:Frag):List (Str×Sp):=[("is_word",DS K),("is_whole",vT),("is_text",DR)]
inductive NM (vs:List V)(H:Hp)(Q:VK)(E:XK):Prop|i(v:_)(_:vs=[v])(_:((∃p,i4 H v p/\ba p/\∀H',aC H H'->Q (.bl true) H')\/(ab9 v H/\∀H',aC H H'->Q (.bl false) H')))
theorem NN(s t:Str):gP (.str s) [.str t]=(t==s):=by
 show(iu (.str t) (.str s)||false)=_;rw[zbz];rfl
theorem ab_{K:Frag}:bQ (NM) (λE=>aN K (zG K) [] (E:=E)) y6 jq:=by
 intro vs H Q E h;have two:∀(a:Addr) (w t:V) (Q1:VK) (H1:Hp) (σ:St),σ[0]?=some (some<|.ref a)->H1 a=some (.tup [w,t])->
   (∀(tt:Addr) H2,aC H1 H2->∀b:Bool,(b=true->w=.str "cut"\/w=.str "put")->(b=false->w≠ .str "cut"/\w≠ .str "put")->Q1 (.bl b) H2)->(j4 .str w H1\/∃s,w=.str s)->
   af (aN K (zG K) [] (E:=E)) (.call 0 [(.ix (.v 0)<|.c<|.int 0),(.tup [(.c<|.str "cut"),(.c<|.str "put")])]) σ H1 Q1:=by
  intro a w t Q1 H1 σ h0 ha q hw;refine⟨_,h0,.inr<|.inl ⟨_,_,_,_,rfl,rfl,aL.of ha,rfl,e7,λt ht=>?_⟩⟩;have s2:=sameNew (o:=.tup [V.str "cut",V.str "put"]) ht;refine⟨w,t,_,rfl,aL.of ay,rfl,?_⟩;rcases hw with hw|⟨s,rfl⟩
  ·refine .inr ⟨hw.same s2,q t _ s2 false (λz=>by cases z) λ_=>⟨?_,?_⟩⟩
   ·rintro rfl;cases (show true=false from hw)
   ·rintro rfl;cases (show true=false from hw)
  ·refine .inl ⟨s,rfl,q t _ s2 _ (λz=>?_) λz=>?_⟩
   ·have z':((Str.ofString "cut"==s)||((Str.ofString "put"==s)||false))=true:=z
    simp at z'
    rcases z' with z'|z'<;>subst z'
    ·exact .inl rfl
    ·exact .inr rfl
   ·have z':((Str.ofString "cut"==s)||((Str.ofString "put"==s)||false))=false:=z
    simp at z'
    exact⟨λy=>z'.1 (by injection y with y;exact y.symm),λy=>z'.2 (by injection y with y;exact y.symm)⟩
 obtain⟨v,rfl,⟨p,⟨a,rfl,ha⟩,hp,q⟩|⟨hn|⟨a,xs,rfl,ha,hl,hb⟩,q⟩⟩:=h
 ·refine⟨_,rfl,rfl,vG ha ⟨_,rfl,.inr ⟨_,aL.of ha,_,rfl,?_⟩⟩⟩;refine⟨_,rfl,.inr<|.inl ⟨_,_,_,_,rfl,rfl,aL.of ha,rfl,jH,λt1 fG=>?_⟩⟩;have s1:=sameNew (o:=.tup [V.str "keep"]) fG;refine⟨.str p.word,t1,[.str "keep"],rfl,aL.of ay,rfl,.inl ⟨p.word,rfl,?_⟩⟩;have eo:=s1 _ _ ha;generalize upd H t1 (.tup [V.str "keep"])=H1 at s1 eo;have fin:∀(s:Str),good s->s≠""->H1 a=some (.tup [.str p.word,.str s])->p.word="put"\/p.word="cut"->aE (aN K (zG K) [] (E:=E)) (y6.drop 2) (Dn Q) (start jq [.ref a]) H1:=by
   intro s gs ns hs hw;refine two a (.str p.word) (.str s) _ H1 _ rfl hs (λtt H2 s2 b tX q_=>?_)<|.inr ⟨_,rfl⟩;have eb:b=true:=by
    cases b with
    |true=>rfl
    |false=>
     obtain⟨z1,z2⟩:=q_ rfl;rcases hw with z|z
     ·exact absurd (congrArg V.str z) z2
     ·exact absurd (congrArg V.str z) z1
   subst eb;have bR:=s2 _ _ hs;refine⟨_,rfl,fU ⟨_,rfl,.inr<|.inl ⟨_,_,_,_,rfl,rfl,aL.of bR,rfl,.str s,rfl,.inl ⟨s,rfl,gs,_,rfl,?_⟩⟩⟩⟩;refine fU ⟨_,rfl,.inr<|.inl ⟨_,_,_,_,rfl,rfl,aL.of bR,rfl,?_⟩⟩;show Q (.bl<|true ^^ decide (V.str s=V.str "")) _;rw[zqF<|λz=>ns (by injection z)]
   exact q _<|s1.trans s2
  cases p with
  |keep n=>
   refine⟨_,rfl,.inr<|.inl ⟨_,_,_,_,rfl,rfl,aL.of eo,rfl,.int n,rfl,.inl ⟨n,rfl,_,rfl,?_⟩⟩⟩;refine fU ⟨_,rfl,.inr<|.inl ⟨_,_,_,_,rfl,rfl,aL.of eo,rfl,trivial,?_⟩⟩;show Q (.bl<|decide<|1<=n) H1;rw[zqT (show(1:Int)<=n from hp)]
   exact q _ s1
  |put s=>
   exact fin s hp.1 hp.2 eo<|.inl rfl
  |cut s=>
   exact fin s hp.1 hp.2 eo<|.inr rfl
 ·exact⟨_,rfl,rfl,hn.go<|q _<|aC.refl _⟩
 ·refine⟨_,rfl,rfl,vG ha ⟨_,rfl,.inr ⟨_,aL.of ha,_,rfl,?_⟩⟩⟩;show if (true ^^ decide (V.int (xs.length:Int)=V.int 2))=true then _ else _
  rcases hb with hb|⟨w,t,rfl,hb⟩
  ·rw[zqF<|λz=>hb (by injection z with z;lia)]
   exact q _<|aC.refl _
  ·refine⟨_,rfl,.inr<|.inl ⟨_,_,_,_,rfl,rfl,aL.of ha,rfl,jH,λt1 fG=>?_⟩⟩;have s1:=sameNew (o:=.tup [V.str "keep"]) fG;refine⟨w,t1,[.str "keep"],rfl,aL.of ay,rfl,?_⟩;have eo:=s1 _ _ ha;generalize upd H t1 (.tup [V.str "keep"])=H1 at s1 eo;have no:(j4 .str w H1\/∃s,w=.str s)->w≠ .str "cut"->w≠ .str "put"->aE (aN K (zG K) [] (E:=E)) (y6.drop 2) (Dn Q) (start jq [.ref a]) H1:=by
    intro hw n1 n2;refine two a w t _ H1 _ rfl eo (λtt H2 s2 b tX q_=>?_) hw;have eb:b=false:=by
     cases b with
     |false=>rfl
     |true=>rcases tX rfl with z|z;exact absurd z n1;exact absurd z n2
    subst eb;exact⟨_,rfl,iy<|q _<|s1.trans s2⟩
   rcases hb with hb|⟨s,rfl,n0,n1,n2⟩|⟨rfl,hb⟩|⟨hw,hb⟩
   ·refine .inr ⟨hb.same s1,no (.inl<|hb.same s1) ?_ ?_⟩
    ·rintro rfl;cases (show true=false from hb)
    ·rintro rfl;cases (show true=false from hb)
   ·refine .inl ⟨s,rfl,?_⟩;rw[NN,beq_eq_false_iff_ne.mpr<|Ne.symm n0];exact no (.inr ⟨s,rfl⟩) (λz=>n1 (by injection z))<|λz=>n2 (by injection z)
   ·refine .inl ⟨_,rfl,?_⟩;rw[show gP (.str "keep") [.str "keep"]=true by decide]
    refine⟨_,rfl,.inr<|.inl ⟨_,_,_,_,rfl,rfl,aL.of eo,rfl,t,rfl,?_⟩⟩;rcases hb with hb|⟨n,rfl,hn⟩
    ·exact .inr ⟨hb.same s1,_,rfl,iy<|q _ s1⟩
    ·refine .inl ⟨n,rfl,_,rfl,fU ⟨_,rfl,.inr<|.inl ⟨_,_,_,_,rfl,rfl,aL.of eo,rfl,trivial,?_⟩⟩⟩;show Q (.bl<|decide<|1<=n) H1;rw[zqF (by lia)]
     exact q _ s1
   ·have hws:∃s,w=.str s/\(Str.ofString "keep"==s)=false:=by
     rcases hw with rfl|rfl
     ·exact⟨_,rfl,by decide⟩
     ·exact⟨_,rfl,by decide⟩
    obtain⟨s,rfl,hk⟩:=hws;refine .inl ⟨s,rfl,?_⟩;rw[NN,hk];refine two a (.str s) t _ H1 _ rfl eo (λtt H2 s2 b tX q_=>?_)<|.inr ⟨s,rfl⟩;have eb:b=true:=by
     cases b with
     |true=>rfl
     |false=>
      obtain⟨z1,z2⟩:=q_ rfl;rcases hw with z|z
      ·exact absurd z z1
      ·exact absurd z z2
    subst eb;have gZ:=s2 _ _ eo;refine⟨_,rfl,fU ⟨_,rfl,.inr<|.inl ⟨_,_,_,_,rfl,rfl,aL.of gZ,rfl,t,rfl,?_⟩⟩⟩;rcases hb with hb|rfl
    ·exact .inr ⟨hb.same<|s1.trans s2,_,rfl,iy<|q _<|s1.trans s2⟩
    ·refine .inl ⟨_,rfl,⟨by decide,λc hc=>by cases hc⟩,_,rfl,fU ⟨_,rfl,.inr<|.inl ⟨_,_,_,_,rfl,rfl,aL.of gZ,rfl,?_⟩⟩⟩
     exact q _<|s1.trans s2
theorem acb{E:XK}(h:Dj vs H Q E):NM vs H Q E:=by
 obtain⟨v,p,rfl,hp,ho,q⟩:=h;exact⟨_,rfl,.inl ⟨p,hp,ho,q⟩⟩
end L2.B
namespace L2
section
variable {Γ:aV}{D:Ends}{σ:St}{H:Hp}{r:List RS}{Q:VK}{QA:List V->Hp->Prop}{QT:Bool->Hp->Prop}
theorem ae(h:σ[i]?=some (some v))(q:Q v H):af Γ (.v i) σ H Q:=⟨_,h,q⟩
theorem aw(q:Q v H):af Γ (.c v) σ H Q:=q
theorem DT(q:Q (Γ.gv j) H):af Γ (.g j) σ H Q:=q
theorem bI{b:RE}(h:af Γ a σ H λx H1=>af Γ b σ H1 λy H2=>iV Γ.K op x y H2 Q):af Γ (.bin op a b) σ H Q:=h
theorem o8{b:RE}(h:af Γ a σ H λx H1=>af Γ b σ H1 λy H2=>cN Γ.K op x y H2 Q):af Γ (.cmp op a b) σ H Q:=h
theorem bp(h:af Γ a σ H λx H1=>af Γ b σ H1 λy H2=>oy Γ.K Γ.sd x y H2 Q):af Γ (.ix a b) σ H Q:=h
theorem acd(h:bw Γ as σ H λvs H1=>Γ.fs j (vs++[]) H1 Q Γ.E):af Γ (.call j as) σ H Q:=h
theorem bN(sp:Sp)(hs:Γ.fs j=sp)(h:bw Γ as σ H λvs H1=>sp vs H1 Q Γ.E):af Γ (.call j as) σ H Q:=by
 subst hs;refine acd ?_;have e:(fun(vs:List V) (H1:Hp)=>Γ.fs j (vs++[]) H1 Q Γ.E)=λvs H1=>Γ.fs j vs H1 Q Γ.E:=by
  funext vs H1;rw[zaa]
 rw[e];exact h
theorem NO(h:bw Γ as σ H λvs H1=>ou Γ.K b vs H1 Q):af Γ (.blt b as) σ H Q:=h
theorem ma(h:bw Γ as σ H λxs H1=>xs.length<=sizeLine/\∀p,H1 p=none->Q (.ref p) (upd H1 p<|.tup xs)):af Γ (.tup as) σ H Q:=h
theorem fH(h:bw Γ as σ H λxs H1=>xs.length<=sizeLine/\∀p,H1 p=none->Q (.ref p) (upd H1 p<|.lst xs)):af Γ (.lst as) σ H Q:=h
theorem aO(q:QA [] H):bw Γ [] σ H QA:=q
theorem aD(h:af Γ a σ H λx H1=>bw Γ as σ H1 λxs H2=>QA (x::xs) H2):bw Γ (a::as) σ H QA:=h
theorem bD(h:af Γ e σ H λx H1=>aE Γ r D (σ.set i<|some x) H1):aE Γ (.asg i e::r) D σ H:=h
theorem fk(h:af Γ e σ H λ_ H1=>aE Γ r D σ H1):aE Γ (.drop e::r) D σ H:=h
theorem bS(h:af Γ e σ H D.rt):aE Γ (.ret e::r) D σ H:=h
end
end L2
namespace L2.B
theorem Paired.app{R:α->β->Prop}:∀{xs bB:List α}{ys c8:List β},Paired R xs ys->Paired R bB c8->Paired R (xs++bB) (ys++c8)
 |_,_,_,_,.nil,s=>s
 |_,_,_,_,.cons r t,s=>.cons r (Paired.app t s)
theorem Run.good(h:Run l ps r)(hl:∀c∈l,SG.cps.contains c=true)(hp:∀p∈ps,jw p):∀c∈r,SG.cps.contains c=true:=by
 induction h with
 |nil=>exact hl
 |keep e _ ih=>
  intro c hc;rcases zab.mp hc with z|z
  ·exact hl c (zab.mpr<|.inl z)
  ·exact ih (λd hd=>hl d<|zab.mpr<|.inr hd) (λp h=>hp p<|.tail _ h) c z
 |put _ ih=>
  intro c hc;rcases zab.mp hc with z|z
  ·exact(hp _ (.head _):sg _) c z
  ·exact ih hl (λp h=>hp p<|.tail _ h) c z
 |cut _ ih=>exact ih (λd hd=>hl d<|zab.mpr<|.inr hd) (λp h=>hp p<|.tail _ h)
theorem Run.len(h:Run l ps r):r.length<=l.length+aA ps:=by
 induction h with
 |nil=>simp
 | @keep a l r n ps e _ ih=>
  have:aA (.keep n::ps)=0+aA ps:=rfl
  simp;lia
 | @put s l r ps _ ih=>
  have:aA (.put s::ps)=s.length+aA ps:=rfl
  have e:=len_list s
  simp only[zqA];lia
 | @cut s l r ps _ ih=>
  have:aA (.cut s::ps)=s.length+aA ps:=rfl
  simp;lia
theorem DU(k:Nat)(n:Int)(m:Nat)(hn:n=m):mR x (some (k:Int)) (some<|(k:Int)+n)=⟨((x.cps.toList.drop k).take m).toArray⟩:=by
 have e1:(k:Int)+n=((k+m:Nat):Int):=by lia
 unfold mR mQ;rw[e1,HT.mK,HT.mK]
 by_cases h:k<=x.cps.toList.length
 ·rw[show min k x.cps.toList.length=k by lia]
  by_cases h2:k+m<=x.cps.toList.length
  ·rw[show min (k+m) x.cps.toList.length=k+m by lia,Nat.add_sub_cancel_left]
  ·rw[zaG (by rw[zaz];lia),zaG (by rw[zaz];lia)]
 ·rw[show min k x.cps.toList.length=x.cps.toList.length by lia,zbs,List.drop_of_length_le (by lia),zbt,zbt]
inductive rf (vs:List V)(H:Hp)(Q:VK)(E:XK):Prop|i(x a xs ps r:_)(_:vs=[.str x,.ref a])(_:good x)(_:H a=some (.lst xs))(_:aG H xs ps)(_:(∀p∈ps,qJ p))(_:Run x.cps.toList ps r)(_:r.length<=1000000)(_:Q (.str ⟨r.toArray⟩) H)
theorem ace{K:Frag}:bQ (rf) (λE=>aN K [] [] (E:=E)) JR CW:=by
 intro vs H Q E h;obtain⟨x,a,xs,ps,r,rfl,hx,ha,cv,aF,hr,vM,q⟩:=h;have hlen:=Paired.length cv;refine⟨_,rfl,a,rfl,⟨_,aB.of ha⟩,iR (K:=K) (a:=a) (xs:=xs) (λi σ H2=>qX6 λl1 l2 q1 q2 w v=>qA5 (σ=[some (.str x),some (.ref a),some (.str ⟨q1.toArray⟩),some (.int ((l1.length:Nat):Int)),w,v]) (H2=H) (x.cps.toList=l1++l2) (r=q1++q2) (Run l2 (ps.drop i) q2))
  ⟨[],x.cps.toList,[],r,none,none,rfl,rfl,rfl,rfl,hr⟩ (λi σ H2 _ ⟨_,_,_,_,_,_,_,e,_,_,_⟩=>e ▸ aB.of ha) ?_ ?_⟩
 ·rintro i y σ H2 hi ⟨l1,l2,q1,q2,w,v,rfl,rfl,e1,e2,dU⟩;obtain⟨pt,gc,b,rfl,hb⟩:=cv.get hi;have d_:i<ps.length:=(zad.mp gc).1;have ed:ps.drop i=pt::ps.drop (i+1):=by
   rw[zaX d_]
   congr 1
   exact zap<|(zai d_).symm.trans gc
  rw[ed] at dU;obtain⟨la,lb,qa,qb,rfl,rfl,qU,one⟩:=DG dU;have hpo:=aF pt (zal gc);have NP:q1.length+qa.length<=1000000:=by rw[e2] at vM;simp at vM;lia
  refine⟨b,_,rfl,.inl<|aL.of hb,rfl,_,_,rfl,_,_,rfl,rfl,?_⟩;cases pt with
  |put s=>
   obtain⟨rfl,rfl⟩:=one;refine⟨_,rfl,_,rfl,_,rfl,_,rfl,cP (by exact NP),?_⟩
   refine⟨l1,lb,q1++s.cps.toList,qb,some<|.str "put",some<|.str s,?_,rfl,e1,by rw[e2];simp,qU⟩
   rw[show(⟨q1.toArray⟩++s:Str)=⟨(q1++s.cps.toList).toArray⟩ from iJ (by rw[app_list])]
   rfl
  |cut s=>
   obtain⟨rfl,rfl⟩:=one;refine⟨_,rfl,_,rfl,_,rfl,_,rfl,_,rfl,_,rfl,cP hpo,?_⟩;refine⟨l1++s.cps.toList,lb,q1,qb,some<|.str "cut",some<|.str s,?_,rfl,by rw[e1];simp,e2,qU⟩
   rw[zqA,<-len_list,zaP]
   rfl
  |keep n=>
   obtain⟨rfl,hn⟩:=one;refine⟨_,rfl,_,rfl,_,rfl,_,rfl,?_⟩;refine⟨_,rfl,_,rfl,_,rfl,_,rfl,_,rfl,_,rfl,_,rfl,cP hx.1,?_⟩;rw[zA e1 n hn];refine⟨cP (by exact NP),?_⟩
   refine⟨_,rfl,_,rfl,?_⟩;refine⟨l1++la,lb,q1++la,qb,some<|.str "keep",some<|.int n,?_,rfl,by rw[e1];simp,by rw[e2];simp,qU⟩
   rw[show(⟨q1.toArray⟩++ ⟨la.toArray⟩:Str)=⟨(q1++la).toArray⟩ from iJ (by rw[app_list]),zqA,hn,zaP]
   rfl
 ·rintro σ H2 ⟨l1,l2,q1,q2,w,v,rfl,rfl,e1,e2,dU⟩;rw[hlen,zbs] at dU;cases dU;rw[zaa] at e2;subst e2;exact⟨_,rfl,q⟩
def aZ:Pt->Nat|.keep n=>n.toNat|.put s=>s.length|.cut s=>s.length
def cI:Pt->Nat->Pt
 |.keep n,o=>.keep (n - o)
 |.put s,o=>.put ⟨(s.cps.toList.drop o).toArray⟩
 |.cut s,o=>.cut ⟨(s.cps.toList.drop o).toArray⟩
def aU:Pt->Nat->Pt
 |.keep _,o=>.keep o
 |.put s,o=>.put ⟨(s.cps.toList.take o).toArray⟩
 |.cut s,o=>.cut ⟨(s.cps.toList.take o).toArray⟩
theorem NQ(p:Pt)(o:Nat):(cI p o).word=p.word:=by cases p<;>rfl
theorem acg(p:Pt)(o:Nat):(aU p o).word=p.word:=by cases p<;>rfl
theorem j5(h:ba p):qI p=(aZ p:Int)/\1<=aZ p:=by
 cases p with
 |keep n=>
  have h1:(1:Int)<=n:=h;exact⟨by show n=(n.toNat:Int);lia,by show 1<=n.toNat;lia⟩
 |put s=>
  obtain⟨c,r,e⟩:=i6 h.2;exact⟨rfl,by show 1<=s.length;rw[len_list,e];simp⟩
 |cut s=>
  obtain⟨c,r,e⟩:=i6 h.2;exact⟨rfl,by show 1<=s.length;rw[len_list,e];simp⟩
theorem kR(l:List Nat):(⟨l.toArray⟩:Str).length=l.length:=rfl
theorem me(p:Pt)(o:Nat)(h:o<=aZ p):aZ (cI p o)=aZ p - o:=by
 cases p with
 |keep n=>
  show(n - (o:Int)).toNat=n.toNat - o;lia
 |put s=>show(⟨(s.cps.toList.drop o).toArray⟩:Str).length=s.length - o;rw[kR,zaz,<-len_list]
 |cut s=>show(⟨(s.cps.toList.drop o).toArray⟩:Str).length=s.length - o;rw[kR,zaz,<-len_list]
theorem vU(p:Pt)(o:Nat)(h:o<=aZ p):aZ (aU p o)=o:=by
 cases p with
 |keep n=>show((o:Int)).toNat=o;lia
 |put s=>
  have h':o<=s.length:=h;rw[len_list] at h';show(⟨(s.cps.toList.take o).toArray⟩:Str).length=o;rw[kR,zaB];lia
 |cut s=>
  have h':o<=s.length:=h;rw[len_list] at h';show(⟨(s.cps.toList.take o).toArray⟩:Str).length=o;rw[kR,zaB];lia
theorem drop_zero(p:Pt):cI p 0=p:=by
 cases p with
 |keep n=>show Pt.keep (n - ((0:Nat):Int))=_;rw[show n - ((0:Nat):Int)=n by lia]
 |put s=>show Pt.put ⟨(s.cps.toList.drop 0).toArray⟩=_;rw[zbo]
 |cut s=>show Pt.cut ⟨(s.cps.toList.drop 0).toArray⟩=_;rw[zbo]
theorem drop_drop(p:Pt)(a b:Nat):cI (cI p a) b=cI p (a+b):=by
 cases p with
 |keep n=>show Pt.keep (n - (a:Int) - (b:Int))=Pt.keep (n - ((a+b:Nat):Int));lia
 |put s=>show Pt.put ⟨((s.cps.toList.drop a).drop b).toArray⟩=Pt.put ⟨(s.cps.toList.drop<|a+b).toArray⟩;rw[List.drop_drop]
 |cut s=>show Pt.cut ⟨((s.cps.toList.drop a).drop b).toArray⟩=Pt.cut ⟨(s.cps.toList.drop<|a+b).toArray⟩;rw[List.drop_drop]
theorem take_all(p:Pt)(h:gY p):aU p (aZ p)=p:=by
 cases p with
 |keep n=>
  have h':0<=n:=h;show Pt.keep ((n.toNat:Nat):Int)=_;rw[show((n.toNat:Nat):Int)=n by lia]
 |put s=>show Pt.put ⟨(s.cps.toList.take s.length).toArray⟩=_;rw[len_list,zbp]
 |cut s=>show Pt.cut ⟨(s.cps.toList.take s.length).toArray⟩=_;rw[len_list,zbp]
theorem zH(p:Pt)(o:Nat)(h:o<=aZ p):bj p=bj (aU p o)++bj (cI p o):=by
 cases p with
 |keep n=>
  have h':o<=n.toNat:=h;show rK n.toNat=rK ((o:Nat):Int).toNat++rK (n - (o:Int)).toNat;rw[NA];congr 1;lia
 |put s=>
  show s.cps.toList.map At.P=(s.cps.toList.take o).map At.P++(s.cps.toList.drop o).map At.P;rw[<-zar,zbG]
 |cut s=>
  show s.cps.toList.map At.C=(s.cps.toList.take o).map At.C++(s.cps.toList.drop o).map At.C;rw[<-zar,zbG]
theorem zI(h:good s)(l:List Nat)(hl:l.length<=s.length)(hm:∀c∈l,c∈s.cps.toList):good ⟨l.toArray⟩:=
 ⟨by exact zaq hl h.1,λc hc=>h.2 c<|hm c hc⟩
theorem zJ(h:l≠ []):(⟨l.toArray⟩:Str)≠"":=λz=>h (by have:=congrArg (λs=>s.cps.toList) z;exact this)
theorem DV{o:Nat}(h:ba p)(ho:o<aZ p):ba (cI p o):=by
 cases p with
 |keep n=>
  have h':o<n.toNat:=ho;show(1:Int)<=n - (o:Int);lia
 |put s=>
  have h':o<s.cps.toList.length:=by exact ho
  exact⟨zI h.1 _ (by rw[zaz,<-len_list];lia) λc hc=>zbu hc,zJ (by intro z;have:=congrArg List.length z;rw[zaz] at this;have t2:s.cps.toList.length - o=0:=this;lia)⟩
 |cut s=>
  have h':o<s.cps.toList.length:=by exact ho
  exact⟨zI h.1 _ (by rw[zaz,<-len_list];lia) λc hc=>zbu hc,zJ (by intro z;have:=congrArg List.length z;rw[zaz] at this;have t2:s.cps.toList.length - o=0:=this;lia)⟩
theorem zK{o:Nat}(h:ba p)(ho:1<=o)(h1:o<=aZ p):ba (aU p o):=by
 cases p with
 |keep n=>show(1:Int)<= (o:Int);lia
 |put s=>
  have h':o<=s.cps.toList.length:=by exact h1
  exact⟨zI h.1 _ (by rw[zaB,<-len_list];lia) λc hc=>zbP hc,zJ (by intro z;have:=congrArg List.length z;rw[zaB] at this;have t2:min o s.cps.toList.length=0:=this;lia)⟩
 |cut s=>
  have h':o<=s.cps.toList.length:=by exact h1
  exact⟨zI h.1 _ (by rw[zaB,<-len_list];lia) λc hc=>zbP hc,zJ (by intro z;have:=congrArg List.length z;rw[zaB] at this;have t2:min o s.cps.toList.length=0:=this;lia)⟩
def wf(L:Addr)(i o:Int):List (Str×V):=[("parts",.ref L),("passed_by",.int i),("offset",.int o)]
theorem zL{i o:Int}:(wf L i o).lookup ("parts":Str)=some (.ref L):=iM
theorem vV{i o:Int}:(wf L i o).lookup ("passed_by":Str)=some (.int i):=rfl
theorem NR{i o:Int}:(wf L i o).lookup ("offset":Str)=some (.int o):=rfl
theorem zM{i o:Int}{m:Str}(h1:¬m="parts")(h2:¬m="passed_by")(h3:¬m="offset"):(wf L i o).lookup m=none:=(cL h1).trans ((cL h2).trans<|(cL h3).trans rfl)
theorem NT{i o k:Int}:aI "offset" (.int k) (wf L i o)=wf L i k:=rfl
theorem ach{i o k:Int}:aI "passed_by" (.int k) (wf L i o)=wf L k o:=rfl
theorem aci:aI "offset" (.int 0) (aI "passed_by" (.int 0)<|aI "parts" (.ref L) [])=wf L 0 0:=rfl
def bO(C:Addr)(H:Hp)(w L:Addr)(rs:List Pt):Prop:= ∃(dx:Addr) (xs:List V) (ps:List Pt) (i o:Nat),H w=some (.ins C dx<|wf L i o)/\H L=some (.lst xs)/\aG H xs ps/\(∀p∈ps,ba p)/\ps.length<=100000/\
 ((ps.drop i=[]/\rs=[])\/∃p t,ps.drop i=p::t/\o<aZ p/\rs=cI p o::t)
theorem bO.keep{rs:List Pt}(h:bO C H w L rs)(k:∀b o,H b=some o->b=w\/b=L\/(∃xs,o=.tup xs)->H' b=some o):bO C H' w L rs:=by
 obtain⟨dx,xs,ps,i,o,h1,h2,h3,h4⟩:=h;exact⟨dx,xs,ps,i,o,k _ _ h1<|.inl rfl,k _ _ h2<|.inr<|.inl rfl,h3.mono λb ys e=>k _ _ e (.inr<|.inr ⟨ys,rfl⟩),h4⟩
theorem bO.same{rs:List Pt}(h:bO C H w L rs)(s:aC H H'):bO C H' w L rs:=h.keep λb o e _=>s b o e
theorem bO.but{c:Addr}{rs:List Pt}(h:bO C H w L rs)(b:aW c H H')(hc:H c=some (.lst xs))(hn:c≠L):bO C H' w L rs:=by
 refine h.keep λd o e z=>b d o e ?_;obtain⟨dx,_,_,_,_,h1,_⟩:=h;rcases z with rfl|rfl|⟨ys,rfl⟩
 ·exact cy h1 hc (by lia)
 ·exact hn.symm
 ·exact cy e hc (by lia)
theorem bO.ok(h:bO C H w L rs):∀p∈rs,ba p:=by
 obtain⟨dx,xs,ps,i,o,h1,h2,h3,h4,h5,⟨_,rfl⟩|⟨p,t,e,ho,rfl⟩⟩:=h
 ·intro p hp;cases hp
 ·have hm:=λq hq=>h4 q (zbu (by rw[e];exact hq))
  intro q hq;rcases zac.mp hq with rfl|hq
  ·exact DV (hm p<|.head _) ho
  ·exact hm q (.tail _ hq)
def o9:List Pt->Str
 |[]=> ""
 |p::_=>p.word
inductive kS (C:Addr)(vs:List V)(H:Hp)(Q:VK)(E:XK):Prop|i(w dx a:Addr)(xs:List V)(ps:List Pt)(_:vs=[.ref w,.ref a])(_:H w=some (.ins C dx []))(_:H a=some (.lst xs))(_:aG H xs ps)(_:(∀p∈ps,ba p))(_:ps.length<=100000)(_:∀L H',H L=none->L≠w->aW w H H'->bO C H' w L ps->Q .au H')
theorem acj{K:Frag}(T:oK K C):bQ (kS C) (λE=>aN K [] [] (E:=E)) JW JV:=by
 intro vs H Q E h;obtain⟨w,dx,a,xs,ps,rfl,hw,ha,cv,aF,hl,k⟩:=h;refine⟨_,rfl,xs,.inl<|aB.of ha,λL hL=>?_⟩;have nw:=aM hw hL;refine⟨_,rfl,w,C,dx,[],rfl,(by rw[az nw];exact hw),T.cl,T.vy,(by simp),?_⟩
 refine⟨_,rfl,w,C,dx,_,rfl,ay,T.cl,T.qE,(by show 1<1000;decide),?_⟩
 refine⟨_,rfl,w,C,dx,_,rfl,ay,T.cl,T.vz,(by show 2<1000;decide),?_⟩
 rw[xI,xI];have b:aW w H (upd (upd H L<|.lst xs) w<|.ins C dx<|aI "offset" (.int 0)<|aI "passed_by" (.int 0)<|aI "parts" (.ref L) []):=λc o e n=>by rw[az n,az<|aM e hL];exact e
 refine k L _ hL nw.symm b ⟨dx,xs,ps,0,0,?_,?_,cv.mono ?_,aF,hl,?_⟩
 ·rw[ay];rfl
 ·rw[az nw.symm,ay]
 ·intro c ys e;exact b c _ e<|cy e hw (by lia)
 ·cases ps with
  |nil=>exact .inl ⟨rfl,rfl⟩
  |cons p t=>exact .inr ⟨p,t,rfl,(j5<|aF p<|.head _).2,by rw[drop_zero]⟩
theorem DW(h:ps.drop i=p::t):ps[i]?=some p/\ps.drop (i+1)=t/\i<ps.length:=by
 have hl:i<ps.length:=by
  rcases Nat.lt_or_ge i ps.length with z|z
  ·exact z
  ·rw[List.drop_of_length_le z] at h;cases h
 refine⟨?_,?_,hl⟩
 ·have:=congrArg List.head? h;rw[List.head?_drop] at this
  simpa using this
 ·rw[<-List.drop_drop,h];rfl
theorem aG.at(h:aG H xs ps)(e:ps[i]?=some p):∃a,xs[i]?=some (.ref a)/\H a=some (.tup [.str p.word,p.val]):=by
 have hi:i<xs.length:=by rw[(Paired.length h)];exact(zad.mp e).1
 obtain⟨q,hq,a,ea,ha⟩:=h.get (i:=i) (v:=xs[i]) (by simp)
 rw[e] at hq;cases hq;exact⟨a,by rw[<-ea];simp,ha⟩
inductive o_ (C:Addr)(vs:List V)(H:Hp)(Q:VK)(E:XK):Prop|i(w L:Addr)(rs:List Pt)(_:vs=[.ref w])(_:bO C H w L rs)(_:Q (.str<|o9 rs) H)
theorem ack{K:Frag}(T:oK K C):bQ (o_ C) (λE=>aN K [] [] (E:=E)) JX ib:=by
 intro vs H Q E h;obtain⟨w,L,rs,rfl,⟨dx,xs,ps,i,o,h1,h2,h3,h4,h5,h6⟩,q⟩:=h;have hl:=Paired.length h3;refine⟨_,rfl,w,C,dx,_,_,rfl,h1,T.cl,T.qE,vV,_,rfl,w,C,dx,_,_,rfl,h1,T.cl,T.vy,zL,.inl ⟨_,aB.of h2,trivial,_,rfl,?_⟩⟩;rcases h6 with⟨e,rfl⟩|⟨p,t,e,ho,rfl⟩
 ·have:ps.length<=i:=by
   rcases Nat.lt_or_ge i ps.length with z|z
   ·rw[zaX z] at e;cases e
   ·exact z
  exact iF q<|zqF (by lia)
 ·obtain⟨e1,e2,e3⟩:=DW e;obtain⟨a,ea,ha⟩:=h3.at e1;refine iT ?_<|zqT (by lia)
  refine⟨_,rfl,w,C,dx,_,_,rfl,h1,T.cl,T.vy,zL,_,rfl,w,C,dx,_,_,rfl,h1,T.cl,T.qE,vV,.inl ⟨_,_,_,_,rfl,rfl,aB.of h2,fE ea,.inr<|.inl ⟨_,_,_,_,rfl,rfl,aL.of ha,rfl,?_⟩⟩⟩;rw[show o9 (cI p o::t)=p.word from NQ p o] at q
  exact q
inductive zN (C:Addr)(vs:List V)(H:Hp)(Q:VK)(E:XK):Prop|i(w L dx:Addr)(xs:List V)(ps:List Pt)(i o:Nat)(p:Pt)(_:vs=[.ref w])(_:H w=some (.ins C dx<|wf L i o))(_:H L=some (.lst xs))(_:aG H xs ps)(_:ps[i]?=some p)(_:ba p)(_:Q (.int<|(aZ p:Int) - (o:Int)) H)
theorem acm{K:Frag}(T:oK K C):bQ (zN C) (λE=>aN K [("part_size",oQ)] [] (E:=E)) JY ib:=by
 intro vs H Q E h;obtain⟨w,L,dx,xs,ps,i,o,p,rfl,h1,h2,h3,e1,hp,q⟩:=h;obtain⟨a,ea,ha⟩:=h3.at e1;refine⟨_,rfl,w,C,dx,_,_,rfl,h1,T.cl,T.vy,zL,_,rfl,w,C,dx,_,_,rfl,h1,T.cl,T.qE,vV,.inl ⟨_,_,_,_,rfl,rfl,aB.of h2,fE ea,⟨_,p,rfl,⟨a,rfl,ha⟩,qL hp,⟨_,rfl,w,C,dx,_,_,rfl,h1,T.cl,T.vz,NR,trivial,?_⟩⟩⟩⟩;rw[(j5 hp).1];exact q
inductive mf (C:Addr)(vs:List V)(H:Hp)(Q:VK)(E:XK):Prop|i(w L:Addr)(p:Pt)(t:List Pt)(_:vs=[.ref w])(_:bO C H w L (p::t))(_:Q (.int (aZ p:Int)) H)
theorem acn(h:mf C vs H Q E):zN C vs H Q E:=by
 obtain⟨w,L,p,t,rfl,⟨dx,xs,ps,i,o,h1,h2,h3,h4,h5,⟨_,e⟩|⟨p',t',e,ho,e'⟩⟩,q⟩:=h
 ·cases e
 ·cases e';obtain⟨e1,_,_⟩:=DW e;refine⟨w,L,dx,xs,ps,i,o,p',rfl,h1,h2,h3,e1,h4 _<|zal e1,?_⟩;rw[me p' o (by lia)] at q
  rw[show((aZ p':Int) - (o:Int))=((aZ p' - o:Nat):Int) by lia]
  exact q
def dW(p:Pt)(t:List Pt)(k:Nat):List Pt:=if k=aZ p then t else cI p k::t
inductive nB (C:Addr)(vs:List V)(H:Hp)(Q:VK)(E:XK):Prop|i(w L:Addr)(p:Pt)(t:List Pt)(k:Nat)(_:vs=[.ref w,.int (k:Int)])(_:bO C H w L (p::t))(_:1<=k)(_:k<=aZ p)(_:∀r H',aW w H H'->H' r=some (.tup [.str (aU p k).word,(aU p k).val])->H r=none->bO C H' w L (dW p t k)->Q (.ref r) H')
theorem aco{K:Frag}(T:oK K C):bQ (nB C) (λE=>aN K [] [] [] [("left",C,zN C)] (E:=E)) CZ J0:=by
 intro vs H Q E h;obtain⟨w,L,p,t,k,rfl,⟨dx,xs,ps,i,o,h1,h2,h3,h4,h5,⟨_,e⟩|⟨p',t',e,ho,e'⟩⟩,hk1,hk2,q⟩:=h
 ·cases e
 cases e';obtain⟨e1,e2,e3⟩:=DW e;obtain⟨a,ea,ha⟩:=h3.at e1;have hp:=h4 _ (zal e1);rw[me p' o (by lia)] at hk2
 have NU:w≠L:=cy h1 h2 (by intro z;cases z)
 have nwa:a≠w:=cy ha h1 (by intro z;cases z)
 refine⟨_,rfl,w,C,dx,_,_,rfl,h1,T.cl,T.vy,zL,_,rfl,w,C,dx,_,_,rfl,h1,T.cl,T.qE,vV,.inl ⟨_,_,_,_,rfl,rfl,aB.of h2,fE ea,?_⟩⟩;refine⟨_,rfl,w,C,dx,_,_,rfl,h1,T.cl,T.vz,NR,?_⟩;refine⟨_,rfl,_,rfl,?_⟩;refine⟨_,rfl,_,rfl,w,C,dx,_,rfl,h1,T.cl,T.vz,(by show 3<1000;decide),?_⟩
 rw[NT]
 have tup:∀(fs:List (Str×V)),dR H (upd H w<|.ins C dx fs):=λfs b ys eb=>by rw[az<|cy eb h1 (by intro z;cases z)];exact eb
 refine⟨_,rfl,w,dx,_,rfl,ay,zM (by decide+kernel) (by decide+kernel) (by decide+kernel),w,L,dx,xs,ps,i,o+k,p',rfl,ay,(by rw[az NU.symm];exact h2),h3.mono<|tup _,e1,hp,?_⟩
 have fin:∀(i' o':Nat),((ps.drop i'=[]/\dW (cI p' o) t k=[])\/∃p t',ps.drop i'=p::t'/\o'<aZ p/\dW (cI p' o) t k=cI p o'::t')->
   aE (aN K [] [] [] [("left",C,zN C)] (E:=E)) (CZ.drop 5) (Dn Q) [some<|.ref w,some<|.int (k:Int),some<|.ref a,some<|.int (o:Int),some<|.int ((o+k:Nat):Int)] (upd H w<|.ins C dx<|wf L (i':Int) (o':Int)):=by
  intro i' o' hr;have iK:upd H w (.ins C dx<|wf L (i':Int) (o':Int)) a=some (.tup [.str p'.word,p'.val]):=by rw[az nwa];exact ha
  have done:∀v:V,v=(aU (cI p' o) k).val->∀r,upd H w (.ins C dx<|wf L (i':Int) (o':Int)) r=none->Q (.ref r) (upd (upd H w<|.ins C dx<|wf L (i':Int) (o':Int)) r<|.tup [.str p'.word,v]):=by
   rintro v rfl r j6;have NV:r≠w:=λz=>by rw[z,ay] at j6;cases j6
   have NW:H r=none:=by rw[az NV] at j6;exact j6
   have bt:aW w H (upd (upd H w<|.ins C dx<|wf L (i':Int) (o':Int)) r<|.tup [.str p'.word,(aU (cI p' o) k).val]):=λb ob eb vW=>by rw[az<|aM eb NW,az vW];exact eb
   refine q r _ bt (by rw[ay,acg,NQ]) NW ⟨dx,xs,ps,i',o',?_,bt _ _ h2 NU.symm,h3.mono λb ys eb=>bt b _ eb (cy eb h1 (by intro z;cases z)),h4,h5,hr⟩
   rw[az NV.symm,ay]
  refine⟨_,rfl,.inr<|.inl ⟨_,_,_,_,rfl,rfl,aL.of iK,rfl,?_⟩⟩;refine⟨_,rfl,.inr<|.inl ⟨_,_,_,_,rfl,rfl,aL.of iK,rfl,_,rfl,?_⟩⟩;rw[zaH,h_];cases p' with
  |keep n=>exact fU ⟨_,rfl,e7,done _ rfl⟩
  |put s=>
   refine iy ⟨_,rfl,.inr<|.inl ⟨_,_,_,_,rfl,rfl,aL.of iK,rfl,_,rfl,_,rfl,_,rfl,_,rfl,cP hp.1.1,e7,done _ ?_⟩⟩;show V.str (mR s (some (o:Int))<|some ((o+k:Nat):Int))=V.str ⟨((s.cps.toList.drop o).take k).toArray⟩;rw[zaP,DU o (k:Int) k rfl]
  |cut s=>
   refine iy ⟨_,rfl,.inr<|.inl ⟨_,_,_,_,rfl,rfl,aL.of iK,rfl,_,rfl,_,rfl,_,rfl,_,rfl,cP hp.1.1,e7,done _ ?_⟩⟩;show V.str (mR s (some (o:Int))<|some ((o+k:Nat):Int))=V.str ⟨((s.cps.toList.drop o).take k).toArray⟩;rw[zaP,DU o (k:Int) k rfl]
 refine⟨_,rfl,?_⟩;rw[zaH];by_cases hz:k=aZ p' - o
 ·refine iT ?_ (zqT (by congr 1;lia))
  refine⟨_,rfl,w,C,dx,_,_,rfl,ay,T.cl,T.qE,vV,_,rfl,w,C,dx,_,rfl,ay,T.cl,T.qE,(by show 3<1000;decide),?_⟩
  rw[xI,ach];refine⟨_,rfl,w,C,dx,_,rfl,ay,T.cl,T.vz,(by show 3<1000;decide),?_⟩
  rw[xI,NT]
  refine fin (i+1) 0 ?_;have er:dW (cI p' o) t k=t:=if_pos (by rw[me p' o (by lia)];exact hz)
  rw[er,e2];cases t with
  |nil=>exact .inl ⟨rfl,rfl⟩
  |cons p2 t2=>
   have hm:ba p2:=h4 p2 (zbu (by rw[e];exact .tail _ (.head _)))
   exact .inr ⟨p2,t2,rfl,(j5 hm).2,by rw[drop_zero]⟩
 ·refine iF ?_ (zqF (by lia))
  refine fin i (o+k)<|.inr ⟨p',t,e,by lia,?_⟩
  have er:dW (cI p' o) t k=cI (cI p' o) k::t:=if_neg (by rw[me p' o (by lia)];exact hz)
  rw[er,drop_drop]
theorem cw.app{xs ys zs bB c8 cx:List At}(h:cw xs ys zs)(h':cw bB c8 cx):cw (xs++bB) (ys++c8) (zs++cx):=by
 induction h with
 |nil=>exact h'
 |p _ ih=>exact .p ih
 |c _ ih=>exact .c ih
 |kk _ ih=>exact .kk ih
 |kc _ ih=>exact .kc ih
 |pk _ ih=>exact .pk ih
 |pc _ ih=>exact .pc ih
theorem NX:∀s:List Nat,cw [] (s.map .P) (s.map .P)
 |[]=>.nil
 |c::s=>.p (NX s)
theorem DX:∀s:List Nat,cw (s.map .C) [] (s.map .C)
 |[]=>.nil
 |c::s=>.c (DX s)
theorem NY:∀n:Nat,cw (rK n) (rK n) (rK n)
 | 0=>.nil
 |n+1=>.kk (NY n)
theorem NZ:∀s:List Nat,cw (rK s.length) (s.map .C) (s.map .C)
 |[]=>.nil
 |c::s=>.kc (NZ s)
theorem N1:∀s:List Nat,cw (s.map .P) (rK s.length) (s.map .P)
 |[]=>.nil
 |c::s=>.pk (N1 s)
theorem N2:∀s:List Nat,cw (s.map .P) (s.map .C) []
 |[]=>.nil
 |c::s=>.pc (N2 s)
def dB:List At->Nat
 |[]=>0
 |.P _::xs=>dB xs
 |.K::xs=>dB xs+1
 |.C _::xs=>dB xs+1
def fh:List At->Nat
 |[]=>0
 |.P _::xs=>fh xs+1
 |.K::xs=>fh xs+1
 |.C _::xs=>fh xs
def cnt:List At->Nat
 |[]=>0
 |.K::xs=>cnt xs
 |.P _::xs=>cnt xs+1
 |.C _::xs=>cnt xs+1
theorem mh:∀(xs:List At) (l:List Nat),fit l xs->l.length=dB xs
 |[],l,h=>by cases h;rfl
 |.P c::xs,l,h=>mh xs l h
 |.K::xs,[],h=>h.elim
 |.K::xs,a::l,h=>by simp[dB,mh xs l h]
 |.C c::xs,[],h=>h.elim
 |.C c::xs,a::l,h=>by simp[dB,mh xs l h.2]
theorem zO:∀(xs:List At) (l:List Nat),fit l xs->(out l xs).length=fh xs
 |[],l,h=>rfl
 |.P c::xs,l,h=>by simp[out,fh,zO xs l h]
 |.K::xs,[],h=>h.elim
 |.K::xs,a::l,h=>by simp[out,fh,zO xs l h]
 |.C c::xs,[],h=>h.elim
 |.C c::xs,a::l,h=>zO xs l h.2
theorem vX:∀(xs ys:List At),dB (xs++ys)=dB xs+dB ys
 |[],ys=>by simp[dB]
 |.P c::xs,ys=>vX xs ys
 |.K::xs,ys=>by simp only[zaW,dB,vX xs ys];lia
 |.C c::xs,ys=>by simp only[zaW,dB,vX xs ys];lia
theorem zP:∀(xs ys:List At),cnt (xs++ys)=cnt xs+cnt ys
 |[],ys=>by simp[cnt]
 |.K::xs,ys=>zP xs ys
 |.P c::xs,ys=>by simp only[zaW,cnt,zP xs ys];lia
 |.C c::xs,ys=>by simp only[zaW,cnt,zP xs ys];lia
theorem cw.cnt{xs ys zs:List At}(h:cw xs ys zs):cnt zs<=B.cnt xs+B.cnt ys:=by
 induction h<;>simp only[B.cnt] <;>lia
theorem pf{ys:List At}:∀(xs:List At) (l:List Nat),fit l (xs++ys)->∃l1 l2,l=l1++l2/\fit l1 xs/\fit l2 ys/\out l (xs++ys)=out l1 xs++out l2 ys
 |[],l,h=>⟨[],l,rfl,rfl,h,rfl⟩
 |.P c::xs,l,h=>by
  obtain⟨l1,l2,rfl,a,b,d⟩:=pf xs l h;exact⟨l1,l2,rfl,a,b,by show c::out _ (xs++ys)=c::(out l1 xs++out l2 ys);rw[d]⟩
 |.K::xs,[],h=>(show False from h).elim
 |.K::xs,e::l,h=>by
  obtain⟨l1,l2,rfl,a,b,d⟩:=pf xs l h;exact⟨e::l1,l2,rfl,a,b,by show e::out _ (xs++ys)=e::(out l1 xs++out l2 ys);rw[d]⟩
 |.C c::xs,[],h=>(show False from h).elim
 |.C c::xs,e::l,h=>by
  obtain⟨h0,h⟩:=(show e=c/\fit l (xs++ys) from h)
  obtain⟨l1,l2,rfl,a,b,d⟩:=pf xs l h;exact⟨e::l1,l2,rfl,⟨h0,a⟩,b,d⟩
theorem N3{a b:List Nat}{ys zs:List At}(h:fit (a++b) (ys++zs))(hl:a.length=dB ys):fit a ys/\fit b zs:=by
 obtain⟨l1,l2,e,h1,h2,_⟩:=pf ys _ h;have:=mh _ _ h1;obtain⟨rfl,rfl⟩:=List.append_inj e (by lia)
 exact⟨h1,h2⟩
theorem vY(n:Nat):dB (rK n)=n:=by
 induction n with
 |zero=>rfl
 |succ n ih=>show dB (rK n)+1=_;rw[ih]
theorem nC(s:List Nat):dB (s.map .C)=s.length:=by
 induction s with
 |nil=>rfl
 |cons c s ih=>show dB (s.map .C)+1=_;rw[ih];rfl
theorem acr(n:Nat):fh (rK n)=n:=by
 induction n with
 |zero=>rfl
 |succ n ih=>show fh (rK n)+1=_;rw[ih]
theorem acs(s:List Nat):fh (s.map .P)=s.length:=by
 induction s with
 |nil=>rfl
 |cons c s ih=>show fh (s.map .P)+1=_;rw[ih];rfl
theorem N4:∀(xs:List At) (l:List Nat),fit l xs->out l xs=[]->∀x∈xs,∃c,x=.C c
 |[],l,_,_,x,hx=>by cases hx
 |.P c::xs,l,h,e,x,hx=>by cases e
 |.K::xs,[],h,_,_,_=>h.elim
 |.K::xs,a::l,h,e,x,hx=>by cases e
 |.C c::xs,[],h,_,_,_=>h.elim
 |.C c::xs,a::l,h,e,x,hx=>by
  rcases zac.mp hx with rfl|hx
  ·exact⟨c,rfl⟩
  ·exact N4 xs l h.2 e x hx
theorem cW.app{xs ys os bB c8 ye N5:List At}(h:cW xs ys os ts)(h':cW bB c8 ye N5):cW (xs++bB) (ys++c8) (os++ye) (ts++N5):=by
 induction h with
 |nil=>exact h'
 |p1 _ ih=>exact .p1 ih
 |p2 _ ih=>exact .p2 ih
 |kk _ ih=>exact .kk ih
 |kc _ ih=>exact .kc ih
 |ck _ ih=>exact .ck ih
 |cc _ ih=>exact .cc ih
theorem N6:∀s:List Nat,cW (s.map .P) [] (s.map .P) (rK s.length)
 |[]=>.nil
 |c::s=>.p1 (N6 s)
theorem N7:∀s:List Nat,cW [] (s.map .P) (rK s.length) (s.map .P)
 |[]=>.nil
 |c::s=>.p2 (N7 s)
theorem N8:∀n:Nat,cW (rK n) (rK n) (rK n) (rK n)
 | 0=>.nil
 |n+1=>.kk (N8 n)
theorem N9:∀s:List Nat,cW (rK s.length) (s.map .C) [] (s.map .C)
 |[]=>.nil
 |c::s=>.kc (N9 s)
theorem N_:∀s:List Nat,cW (s.map .C) (rK s.length) (s.map .C) []
 |[]=>.nil
 |c::s=>.ck (N_ s)
theorem Oa:∀s:List Nat,cW (s.map .C) (s.map .C) [] []
 |[]=>.nil
 |c::s=>.cc (Oa s)
theorem cW.Ob{xs ys os:List At}(h:cW xs ys os ts):cnt os<=B.cnt xs/\cnt ts<=B.cnt ys:=by
 induction h<;>simp only[B.cnt] <;>lia
end L2.B
namespace L2
section
variable {Γ:aV}{D:Ends}{σ:St}{H:Hp}{r:List RS}{Q:VK}{QA:List V->Hp->Prop}{QT:Bool->Hp->Prop}
theorem ie(C:Addr)(sp:Sp)(hm:Γ.ms j=(C,sp))(h:af Γ o σ H λx H1=>∃a dx fs,x=.ref a/\H1 a=some (.ins C dx fs)/\fs.lookup m=none/\sp [x] H1 Q Γ.E):af Γ (.aR j m o []) σ H Q:=by
 show mJ (Γ.ms j).1 m (Γ.ms j).2 [] Γ.E (af Γ o) (bw Γ []) σ H Q;rw[hm];exact h
theorem i7(C:Addr)(sp:Sp)(hm:Γ.ms j=(C,sp))(h:af Γ o σ H λx H1=>∃p dx fs,x=.ref p/\H1 p=some (.ins C dx fs)/\fs.lookup m=none/\af Γ a σ H1 λy H2=>sp [x,y] H2 Q Γ.E):af Γ (.aR j m o [a]) σ H Q:=by
 show mJ (Γ.ms j).1 m (Γ.ms j).2 [] Γ.E (af Γ o) (bw Γ [a]) σ H Q;rw[hm];exact h
theorem vZ(C:Addr)(sp:Sp)(hm:Γ.kt j=(C,sp))(h:af Γ a σ H λy H1=>∀x dx,H1 x=none->H1 dx=none->dx≠x->sp [.ref x,y] (upd (upd H1 dx<|.own x) x<|.ins C dx []) (λv H2=>v=.au/\Q (.ref x) H2) Γ.E):af Γ (.make j [a]) σ H Q:=by
 show yf (Γ.kt j).1 (Γ.kt j).2 [] Γ.E (bw Γ [a]) σ H Q;rw[hm];exact h
theorem zQ{c:RE}(W:Nat->St->Hp->Prop)(h0:∃m,W m σ H)
  (h:∀m σ H,W m σ H->a_ Γ c σ H λb H1=>if b=true then ∃N:St->Hp->Prop,(∀σ' H',N σ' H'->∃m',m'<m/\W m' σ' H')/\aE Γ body {{D with nx:=aE Γ r D} with nx:=N,ct:=N,bk:=aE Γ r D} σ H1 else aE Γ r D σ H1):aE Γ (.qq c body::r) D σ H:=⟨W,h0,h⟩
theorem bq{c:RE}{t e:List RS}(h:a_ Γ c σ H λb H1=>if b=true then aE Γ t {D with nx:=aE Γ r D} σ H1 else aE Γ e {D with nx:=aE Γ r D} σ H1):aE Γ (.ite c t e::r) D σ H:=h
theorem bo{b:RE}(h:af Γ a σ H λx H1=>af Γ b σ H1 λy H2=>cN Γ.K op x y H2 λz H3=>∃k,z=.bl k/\QT k H3):a_ Γ (.cmp op a b) σ H QT:=h
theorem br(h:af Γ o σ H λx H1=>∃a C dx fs v,x=.ref a/\H1 a=some (.ins C dx fs)/\eP Γ.K C/\d0 Γ.K C f/\fs.lookup f=some v/\Q v H1):af Γ (.fld o f) σ H Q:=h
theorem i8(h:af Γ o σ H λx H1=>sy Γ.K (yK m) x H1/\af Γ a σ H1 λy H2=>B8 Γ.K m x [y] H2 Q):af Γ (.bK m o [a]) σ H Q:=h
theorem jy{K:Frag}{x:Str}(q:Q (.bl<|x==y) H):cN K .Eq (.str x) (.str y) H Q:=by
 show Q (.bl<|false ^^ decide (V.str x=V.str y)) H;rw[zaH,h_];exact q
theorem iN{K:Frag}{x:Str}(q:Q (.bl<|x !=y) H):cN K .NotEq (.str x) (.str y) H Q:=by
 show Q (.bl<|true ^^ decide (V.str x=V.str y)) H;rw[zaM,h_];exact q
end
end L2
namespace L2.B
theorem bO.ob{rs:List Pt}(h:bO C H w L rs):∃(dx:Addr) (i o:Int),H w=some (.ins C dx<|wf L i o):=by
 obtain⟨dx,xs,ps,i,o,h1,_⟩:=h;exact⟨dx,i,o,h1⟩
theorem DY{i o:Int}:(wf L i o).lookup ("word":Str)=none/\(wf L i o).lookup ("left":Str)=none/\(wf L i o).lookup ("take":Str)=none:=
 ⟨zM (by decide+kernel) (by decide+kernel) (by decide+kernel),zM (by decide+kernel) (by decide+kernel) (by decide+kernel),zM (by decide+kernel) (by decide+kernel) (by decide+kernel)⟩
inductive zR (vs:List V)(H:Hp)(Q:VK)(E:XK):Prop|i(v:V)(p:Pt)(u:Str)(_:vs=[v,.str u])(_:i4 H v p)(_:((∃n,p=.keep n/\∀c t H',aC H H'->H c=none->H' c=some (.lst [.ref t])->H' t=some (.tup [.str "cut",.str u])->Q (.ref c) H')\/
 (p=.put u/\∀c H',aC H H'->H c=none->H' c=some (.lst [])->Q (.ref c) H')))
theorem acu{K:Frag}{et:List (Str×Addr)}:bQ (zR) (λE=>aN K [] [] (et:=et) (E:=E)) Kb Ka:=by
 intro vs H Q E h;obtain⟨v,p,u,rfl,⟨a,rfl,ha⟩,⟨n,rfl,q⟩|⟨rfl,q⟩⟩:=h
 ·refine⟨_,rfl,.inr<|.inl ⟨_,_,_,_,rfl,rfl,aL.of ha,rfl,_,rfl,⟨_,rfl,e7,λt ht=>⟨jH,λc hc=>?_⟩⟩⟩⟩;have s1:=sameNew (o:=.tup [V.str "cut",V.str u]) ht;have s2:=sameNew (o:=.lst [V.ref t]) hc;exact q c t _ (s1.trans s2) (s1.free hc) ay<|s2 _ _ ay
 ·refine⟨_,rfl,.inr<|.inl ⟨_,_,_,_,rfl,rfl,aL.of ha,rfl,_,rfl,⟨_,rfl,.inr<|.inl ⟨_,_,_,_,rfl,rfl,aL.of ha,rfl,_,rfl,_,rfl,?_⟩⟩⟩⟩;rw[zqT (show(Pt.put u).val=V.str u from rfl)]
  exact⟨zqZ _,λc hc=>q c _ (sameNew hc) hc ay⟩
theorem DZ(p:Pt)(t:List Pt)(k:Nat):(dW p t k).length<=t.length+1:=by
 unfold dW;split<;>simp
theorem zS(t:List Pt){k:Nat}(hk:k<=aZ p):av (p::t)=bj (aU p k)++av (dW p t k):=by
 unfold dW;rw[dh,zH p k hk]
 split
 ·rename_i e
  have:bj (cI p k)=[]:=by
   have hz:=me p k hk;rw[e,zaK] at hz;cases p with
   |keep n=>
    have mV:(n - (k:Int)).toNat=0:=e▸hz
    show rK (n - (k:Int)).toNat=[];rw[mV];rfl
   |put s=>
    rw[<-e] at hz;have mV:(⟨(s.cps.toList.drop k).toArray⟩:Str).length=0:=hz;rw[kR] at mV;show(s.cps.toList.drop k).map At.P=[];rw[zaE.mp mV];rfl
   |cut s=>
    rw[<-e] at hz;have mV:(⟨(s.cps.toList.drop k).toArray⟩:Str).length=0:=hz;rw[kR] at mV;show(s.cps.toList.drop k).map At.C=[];rw[zaE.mp mV];rfl
  rw[this,zaa]
 ·rw[dh,zaj]
theorem tY(p:Pt):(bj p).length=aZ p:=by
 cases p with
 |keep n=>show(rK n.toNat).length=_;unfold rK;rw[zby];rfl
 |put s=>show(s.cps.toList.map At.P).length=_;rw[zaf];rfl
 |cut s=>show(s.cps.toList.map At.C).length=_;rw[zaf];rfl
theorem D0(t:List Pt){k:Nat}(h1:1<=k)(hk:k<=aZ p):(av<|dW p t k).length< (av (p::t)).length:=by
 rw[zS t hk,zqA,tY,vU p k hk];lia
theorem tZ{rs:List Pt}(hm:Γ.ms j=(C,o_ C))(hi:σ[i]?=some (some<|.ref w))(W:bO C H w L rs)(q:Q (.str<|o9 rs) H):af Γ (.aR j "word" (.v i) []) σ H Q:=by
 obtain⟨dx,a,b,h1⟩:=W.ob;exact ie C (o_ C) hm<|ae hi ⟨w,dx,_,rfl,h1,DY.1,w,L,rs,rfl,W,q⟩
theorem t6{p:Pt}{t:List Pt}(hm:Γ.ms j=(C,mf C))(hi:σ[i]?=some (some<|.ref w))(W:bO C H w L (p::t))(q:Q (.int (aZ p:Int)) H):af Γ (.aR j "left" (.v i) []) σ H Q:=by
 obtain⟨dx,a,b,h1⟩:=W.ob;exact ie C (mf C) hm<|ae hi ⟨w,dx,_,rfl,h1,DY.2.1,w,L,p,t,rfl,W,q⟩
theorem t9{t:List Pt}{k:Nat}(hm:Γ.ms j=(C,nB C))(hi:σ[i]?=some (some<|.ref w))(W:bO C H w L (p::t))(h1:1<=k)(hk:k<=aZ p)
  (ha:∀Q':VK,Q' (.int (k:Int)) H->af Γ a σ H Q') (q:∀r H',aW w H H'->H' r=some (.tup [.str (aU p k).word,(aU p k).val])->H r=none->bO C H' w L (dW p t k)->Q (.ref r) H'):af Γ (.aR j "take" (.v i) [a]) σ H Q:=by
 obtain⟨dx,x,b,h0⟩:=W.ob;exact i7 C (nB C) hm<|ae hi ⟨w,dx,_,rfl,h0,DY.2.2,ha _ (⟨w,L,p,t,k,rfl,W,h1,hk,q⟩)⟩
inductive zT (C:Addr)(vs:List V)(H:Hp)(Q:VK)(E:XK):Prop|i(w L:Addr)(v:V)(rs:List Pt)(part:Pt)(l:List Nat)(ys:List At)(_:vs=[.ref w,v])(_:bO C H w L rs)(_:i4 H v part)(_:ba part)(_:(∀s,part≠ .put s))(_:rs.length<=100000)(_:fit l (av rs))(_:fit (out l (av rs)) (bj part++ys))(_:∀(c:Addr) (H':Hp) (bB:List V) (res du:List Pt) (l':List Nat) (zs:List At),aW w H H'->H c=none->H' c=some (.lst bB)->aG H' bB res->(∀p∈res,ba p)->bO C H' w L du->av rs=zs++av du->cw zs (bj part) (av res)->
  fit l' (av du)->fit (out l' (av du)) ys->res.length+du.length<=rs.length+1->Q (.ref c) H')
theorem aW.t_{dx:Addr}{fs:List (Str×V)}(b:aW w H H')(h:H w=some (.ins C dx fs)):dR H H':=λc xs e=>b c _ e (cy e h (by lia))
theorem acv:aU (cI (.cut s) k) m=.cut ⟨((s.cps.toList.drop k).take m).toArray⟩:=rfl
theorem acw{K:Frag}:bQ (zT C) (λE=>aN K [("part_size",oQ),("cut_behind",zR)] [] [] [("word",C,o_ C),("take",C,nB C),("left",C,mf C)] (E:=E)) Kd Kc:=by
 intro vs H Q E h;obtain⟨w,L,v,rs,part,l,ys,rfl,W,⟨pa,rfl,nE⟩,aF,v5,vM,hf1,hf2,q⟩:=h;obtain⟨acz,aiO⟩:=j5 aF;refine bD<|fH<|aO ⟨zqZ _,λc hc=>?_⟩;refine bD<|aw ?_;have b0:aW w H (upd H c<|.lst []):=λb o e _=>by rw[az<|aM e hc];exact e
 obtain⟨dx0,i0,o0,Oc⟩:=W.ob;have mi:c≠w:=λz=>by rw[z,Oc] at hc;cases hc
 have kT:c≠L:=by
  obtain⟨_,_,_,_,_,_,hL,_⟩:=W;exact(aM hL hc).symm
 refine zQ (λm σ H'=>∃(k:Nat) (u4 u5:Option V) (bB:List V) (res du:List Pt) (l':List Nat) (zs:List At),m=(av du).length/\σ=[some (.ref w),some (.ref pa),some (.ref c),some (.int (k:Int)),u4,u5]/\aW w H H'/\H' c=some (.lst bB)/\aG H' bB res/\
   (∀p∈res,ba p)/\bO C H' w L du/\av rs=zs++av du/\cw zs (bj (aU part k)) (av res)/\k<=aZ part/\fit l' (av du)/\fit (out l' (av du)) (bj (cI part k)++ys)/\res.length+du.length<=rs.length+(if k=aZ part then 1 else 0))
  ⟨_,0,none,none,[],[],rs,l,[],rfl,rfl,b0,ay,.nil,(λp hp=>by cases hp),W.same<|sameNew hc,rfl,?_,zqZ _,hf1,by rw[drop_zero];exact hf2,by simp⟩ ?_
 ·have e:bj (aU part 0)=[]:=zaE.mp (by rw[tY,vU part 0<|zqZ _])
  rw[e];exact .nil
 rintro m σ H1 ⟨k,u4,u5,bB,res,du,l',zs,rfl,rfl,b1,zU,iO,i9,W1,ez,ig,hk,nF,mj,hlen⟩;have D1:H1 pa=some (.tup [.str part.word,part.val]):=b1 _ _ nE (cy nE Oc (by intro z;cases z))
 have D2:=Paired.length iO;have sz:∀{σ:St}{Q1:VK},σ[1]?=some (some<|.ref pa)->Q1 (.int (aZ part:Int)) H1->af (aN K [("part_size",oQ),("cut_behind",zR)] [] [] [("word",C,o_ C),("take",C,nB C),("left",C,mf C)] (E:=E)) (.call 0 [.v 1]) σ H1 Q1:=by
  intro σ Q1 h1 hq;refine bN oQ rfl<|aD<|ae h1<|aO ⟨_,part,rfl,⟨pa,rfl,D1⟩,qL aF,?_⟩;rw[acz];exact hq
 refine bo<|ae rfl<|sz rfl ⟨trivial,_,rfl,?_⟩;by_cases D3:k<aZ part
 ·refine iT ⟨_,λσ' H' z=>z,?_⟩ (zqT (by lia))
  have hod:=DV aF D3;have sG:(if k=aZ part then 1 else 0)=0:=if_neg (by lia)
  rw[sG] at hlen;cases du with
  |nil=>
   exfalso
   have e1:out l' (av [])=[]:=rfl;rw[e1] at mj;have:=mh _ _ mj;rw[vX] at this;have hov:dB (bj<|cI part k)=aZ part - k:=by
    rw[<-me part k hk];cases part with
    |keep n=>exact vY _
    |put s=>exact absurd rfl (v5 s)
    |cut s=>show dB ((s.cps.toList.drop k).map At.C)=_;rw[nC];show _=(⟨(s.cps.toList.drop k).toArray⟩:Str).length;rw[kR]
   simp only[zbb] at this
   lia
  |cons p t=>
   have hp:=W1.ok p (.head _);obtain⟨Od,v7⟩:=j5 hp;refine bq<|bo<|tZ (C:=C) rfl rfl W1<|aw<|jy ⟨_,rfl,?_⟩;show if ((p.word:Str)=="cut")=true then _ else _
   have app:∀(H2:Hp) (gV:List V) (a:Addr) (pt:Pt),aW w H H2->H2 c=some (.lst gV)->aG H2 gV res->H2 a=some (.tup [.str pt.word,pt.val])->
     aW w H (upd H2 c<|.lst<|gV++[V.ref a])/\aG (upd H2 c<|.lst<|gV++[V.ref a]) (gV++[V.ref a]) (res++[pt]):=by
    intro H2 gV a pt bb c4 m8 gZ;have tt:dR H2 (upd H2 c<|.lst<|gV++[V.ref a]):=aW.upd.dD c4;exact⟨λb o e n=>by rw[az<|aM e hc];exact bb b o e n,aG.snoc (m8.mono tt) ⟨a,rfl,tt _ _ gZ⟩⟩
   have zV:∀(H2:Hp) (gV Oe:List V) (D4:List Pt),H2 c=some (.lst gV)->bO C H2 w L D4->bO C (upd H2 c<|.lst Oe) w L D4:=λH2 gV Oe D4 c4 W2=>W2.but aW.upd c4 kT;by_cases j7:p.word="cut"
   ·
    rw[j7];obtain⟨s,rfl⟩:∃s,p=.cut s:=by
     cases p with
     |keep n=>exact absurd (show(Str.ofString "keep")="cut" from j7) (by decide)
     |put s=>exact absurd (show(Str.ofString "put")="cut" from j7) (by decide)
     |cut s=>exact⟨s,rfl⟩
    have ta:aU (.cut s) (aZ<|.cut s)=.cut s:=take_all _ trivial;have re:dW (.cut s) t (aZ<|.cut s)=t:=if_pos rfl;refine fk<|i8<|ae rfl ⟨.inl ⟨rfl,_,aB.of zU⟩,t9 (C:=C) (k:=aZ (.cut s)) rfl rfl W1 v7 (zqR _) (λQ' hq=>t6 (C:=C) rfl rfl W1 hq) λa H2 b2 ha sf W2=>?_⟩;rw[ta] at ha;rw[re] at W2;have c4:H2 c=some (.lst bB):=b2 _ _ zU mi;obtain⟨dx1,i1,o1,zW⟩:=W1.ob;have m8:aG H2 bB res:=iO.mono (b2.t_ zW);obtain⟨bb,pp⟩:=app H2 bB a (.cut s) (b1.trans b2) c4 m8 ha;refine⟨bB,c4,dg (by lia),?_⟩
    rw[dh] at nF mj ez;obtain⟨la,lb,rfl,f1,f2,f3⟩:=pf _ _ nF;have f0:out la (bj<|.cut s)=[]:=by
     obtain⟨b,rfl⟩:=vS s.cps.toList la [] (by rw[zaa];exact f1)
     have:=mh _ _ f1;have e1:dB (bj<|.cut s)=s.cps.toList.length:=nC _;rw[e1,zqA] at this;have:b=[]:=zaE.mp (by lia)
     subst this;have:=zE s.cps.toList [] []
     simp only[zaa] at this
     rw[zaa];exact this
    rw[f3,f0,zbB] at mj;refine⟨_,?_,k,u4,u5,bB++[V.ref a],res++[.cut s],t,lb,zs++bj (.cut s),rfl,rfl,bb,ay,pp,?_,zV H2 _ _ _ c4 W2,by rw[ez,zaj],?_,hk,f2,mj,?_⟩
    ·rw[dh,zqA,tY];lia
    ·intro x hx;rcases zab.mp hx with z|z
     ·exact i9 x z
     ·rw[zag.mp z];exact hp
    ·have:=ig.app (DX s.cps.toList);rw[zaa] at this;rw[eY,gX];exact this
    ·rw[sG];simp only[zqA,zaw,zbb] at hlen⊢;lia
   ·have ia:((p.word:Str)=="cut")=false:=beq_eq_false_iff_ne.mpr j7;rw[ia];obtain⟨n,hn⟩:∃n,n=min (aZ p) (aZ part - k):=⟨_,rfl⟩;have fg:1<=n:=by lia
    have jK:n<=aZ p:=by lia
    have hn3:n<=aZ part - k:=by lia
    have emin:(if ((aZ part:Int) - (k:Int)) < (aZ p:Int) then ((aZ part:Int) - (k:Int)) else (aZ p:Int))=(n:Int):=by
     split<;>lia
    refine bD<|NO<|aD<|t6 (C:=C) rfl rfl W1<|aD<|bI<|sz rfl<|ae rfl ⟨trivial,aO ?_⟩;show aE _ _ _ ([some<|.ref w,some<|.ref pa,some<|.ref c,some<|.int (k:Int),u4,u5].set 4 (some<|V.int (if ((aZ part:Int) - (k:Int)) < (aZ p:Int) then ((aZ part:Int) - (k:Int)) else (aZ p:Int)))) H1
    rw[emin];refine bD<|t9 (C:=C) (k:=n) rfl rfl W1 fg jK (λQ' hq=>ae rfl hq) λa H2 b2 ha sf W2=>?_;have c4:H2 c=some (.lst bB):=b2 _ _ zU mi;obtain⟨dx1,i1,o1,zW⟩:=W1.ob;have m8:aG H2 bB res:=iO.mono (b2.t_ zW);have Of:H2 pa=some (.tup [.str part.word,part.val]):=b2 _ _ D1 (cy D1 zW (by intro z;cases z))
    have D5:=b1.trans b2;have acB:=zK hp fg jK;have eA:=zS t jK;have eB:bj (cI part k)=bj (aU (cI part k) n)++bj (cI part<|k+n):=by
     rw[zH (cI part k) n (by rw[me part k hk];lia),drop_drop]
    have eC:bj (aU part<|k+n)=bj (aU part k)++bj (aU (cI part k) n):=by
     have h1:=zH part (k+n) (by lia)
     have h2:=zH part k hk;rw[eB] at h2;rw[h2,<-zaj] at h1;exact(List.append_inj_left' h1 rfl).symm
    rw[eA] at nF mj ez;obtain⟨la,lb,rfl,f1,f2,f3⟩:=pf _ _ nF;rw[f3,eB,zaj] at mj;have ogl:(out la<|bj<|aU p n).length=n:=by
     rw[zO _ _ f1];cases p with
     |keep m=>exact acr n
     |put s=>show fh ((s.cps.toList.take n).map At.P)=n;rw[acs,zaB];have hh:n<=s.length:=jK;rw[len_list] at hh;lia
     |cut s=>exact absurd rfl j7
    have D6:dB (bj<|aU (cI part k) n)=n:=by
     have e:aZ (aU (cI part k) n)=n:=vU _ _ (by rw[me part k hk];lia)
     cases part with
     |keep m=>exact vY n
     |put s=>exact absurd rfl (v5 s)
     |cut s=>
      have e':(⟨((s.cps.toList.drop k).take n).toArray⟩:Str).length=n:=e;rw[kR] at e';show dB (((s.cps.toList.drop k).take n).map At.C)=n;rw[nC];exact e'
    obtain⟨g1,g2⟩:=N3 mj (by rw[ogl,D6])
    have fin:∀(H3:Hp) (jW:List V) (ua:List Pt),aW w H H3->H3 c=some (.lst jW)->aG H3 jW ua->(∀x∈ua,ba x)->bO C H3 w L (dW p t n)->cw (zs++bj (aU p n)) (bj<|aU part<|k+n) (av ua)->ua.length<=res.length+1->
      ∃m',m'< (av (p::t)).length/\∃(k':Nat) (u4' u5':Option V) (bB:List V) (res du:List Pt) (l':List Nat) (zs:List At),m'=(av du).length/\[some<|V.ref w,some<|.ref pa,some<|.ref c,some<|.int<|(k:Int)+(n:Int),some<|.int (n:Int),some<|.ref a]=[some<|.ref w,some<|.ref pa,some<|.ref c,some<|.int (k':Int),u4',u5']/\aW w H H3/\H3 c=some (.lst bB)/\aG H3 bB res/\
      (∀p∈res,ba p)/\bO C H3 w L du/\av rs=zs++av du/\cw zs (bj<|aU part k') (av res)/\k'<=aZ part/\fit l' (av du)/\fit (out l'<|av du) (bj (cI part k')++ys)/\res.length+du.length<=rs.length+(if k'=aZ part then 1 else 0):=by
     intro H3 jW ua b3 kI v8 ho3 W3 nk hl3;refine⟨_,D0 t fg jK,k+n,some<|.int (n:Int),some<|.ref a,jW,ua,dW p t n,lb,zs++bj (aU p n),rfl,by rw[zaP],b3,kI,v8,ho3,W3,by rw[ez,zaj],nk,by lia,f2,g2,?_⟩
     have r1:=DZ p t n
     simp only[zaw] at hlen
     by_cases hz:n=aZ p
     ·have r2:dW p t n=t:=if_pos hz;rw[r2];split<;>lia
     ·rw[if_pos (show k+n=aZ part by lia)];lia
    refine bq<|bo<|bp<|ae rfl<|aw<|.inr<|.inl ⟨_,_,_,_,rfl,rfl,aL.of Of,rfl,aw<|jy ⟨_,rfl,?_⟩⟩;cases part with
    |put s=>exact absurd rfl (v5 s)
    |keep m=>
     refine fU ?_;refine fk<|i8<|ae rfl ⟨.inl ⟨rfl,_,aB.of c4⟩,ae rfl ⟨bB,c4,dg (by lia),?_⟩⟩
     obtain⟨bb,pp⟩:=app H2 bB a (aU p n) D5 c4 m8 ha;refine bD<|bI<|ae rfl<|ae rfl ?_;refine fin _ _ (res++[aU p n]) bb ay pp ?_ (zV H2 _ _ _ c4 W2) ?_ (by simp)
     ·intro x hx;rcases zab.mp hx with z|z
      ·exact i9 x z
      ·rw[zag.mp z];exact acB
     ·rw[eC,eY,gX];refine ig.app ?_;show cw (bj<|aU p n) (rK ((n:Nat):Int).toNat) (bj<|aU p n);rw[zaD];cases p with
      |keep m'=>show cw (rK ((n:Nat):Int).toNat) (rK n) (rK ((n:Nat):Int).toNat);rw[zaD];exact NY n
      |put s=>
       have:=N1 (s.cps.toList.take n);rw[zaB] at this;have hh:n<=s.length:=jK;rw[len_list] at hh;rw[show min n s.cps.toList.length=n by lia] at this
       exact this
      |cut s=>exact absurd rfl j7
    |cut s=>
     refine iy ?_;have ko:H2 pa=some (.tup [.str "cut",.str s]):=Of;refine fk<|i8<|ae rfl ⟨.inl ⟨rfl,_,aB.of c4⟩,bN zR rfl<|aD<|ae rfl<|aD ?_⟩;refine⟨_,rfl,.inr<|.inl ⟨_,_,_,_,rfl,rfl,aL.of ko,rfl,_,rfl,_,rfl,_,rfl,_,rfl,_,rfl,cP aF.1.1,?_⟩⟩;rw[DU k (n:Int) n rfl];generalize hu:((s.cps.toList.drop k).take n)=u at*;have ph:bj (aU (cI (.cut s) k) n)=u.map At.C:=by rw[<-hu];rfl
     have hul:u.length=n:=by rw[ph,nC] at D6;exact D6
     rw[ph] at g1;refine⟨_,aU p n,⟨u.toArray⟩,rfl,⟨a,rfl,ha⟩,?_⟩;cases p with
     |cut s'=>exact absurd rfl j7
     |keep m=>
      refine .inl ⟨_,rfl,λd tt H3 s3 hd D7 htt=>?_⟩;have kI:=s3 _ _ c4;refine⟨bB,[V.ref tt],kI,D7,cP (by simp;lia),?_⟩
      obtain⟨bb,pp⟩:=app H3 bB tt (.cut ⟨u.toArray⟩) (λb o e nn=>s3 b o<|D5 b o e nn) kI (m8.mono<|bM s3) htt;refine bD<|bI<|ae rfl<|ae rfl ?_;refine fin _ _ (res++[.cut ⟨u.toArray⟩]) bb ay pp ?_ (zV H3 _ _ _ kI<|W2.same s3) ?_ (by simp)
      ·intro x hx;rcases zab.mp hx with z|z
       ·exact i9 x z
       ·rw[zag.mp z];have:=zK (DV aF D3) fg (show n<=aZ (cI (.cut s) k) by rw[me _ k hk];lia)
        rw[acv,hu] at this;exact this
      ·rw[eC,eY,gX,ph];refine ig.app ?_;show cw (rK ((n:Nat):Int).toNat) (u.map At.C) (u.map At.C);rw[zaD,<-hul];exact NZ u
     |put s'=>
      have eu:(s'.cps.toList.take n)=u:=by
       have f1':fit la ((s'.cps.toList.take n).map At.P++[]):=by rw[zaa];exact f1
       have v9:la=[]:=(qX _ _ _).mp f1';subst v9;have o1:out [] (bj<|aU (.put s') n)=s'.cps.toList.take n:=by
        have:=zD (s'.cps.toList.take n) [] [];rw[zaa] at this;exact this.trans<|zaa _
       rw[o1] at g1;obtain⟨b,e⟩:=vS u _ [] (by rw[zaa];exact g1)
       have c7:=mh _ _ g1;rw[nC] at c7;rw[e,zqA] at c7;have:b=[]:=zaE.mp (by lia)
       rw[this,zaa] at e;exact e
      refine .inr ⟨by show Pt.put ⟨(s'.cps.toList.take n).toArray⟩=_;rw[eu],λd H3 s3 hd D7=>?_⟩
      have kI:=s3 _ _ c4;refine⟨bB,[],kI,D7,cP (by simp;lia),?_⟩
      rw[zaa];have tt:dR H3 (upd H3 c<|.lst bB):=aW.upd.dD kI;refine bD<|bI<|ae rfl<|ae rfl ?_;refine fin _ _ res (λb o e nn=>by rw[az<|aM e hc];exact s3 b o (D5 b o e nn)) ay ((m8.mono<|bM s3).mono tt) i9 (zV H3 _ _ _ kI<|W2.same s3) ?_ (by lia)
      rw[eC,ph];have:=ig.app (N2 u);rw[zaa] at this;show cw (zs++(s'.cps.toList.take n).map At.P) _ _;rw[eu];exact this
 ·refine iF ?_ (zqF (by lia))
  have hke:k=aZ part:=by lia
  subst hke;rw[take_all part<|o5 aF] at ig;have e0:bj (cI part<|aZ part)=[]:=zaE.mp (by rw[tY,me part _<|zqR _,zaK])
  rw[e0,zbB] at mj;rw[if_pos rfl] at hlen;exact bS<|ae rfl<|q c H1 bB res du l' zs b1 hc zU iO i9 W1 ez ig nF mj hlen
theorem acK(ps:List Pt):vH ps=overOf (zy ps):=by
 unfold vH overOf zy;rw[List.filter_map,List.map_map]
 congr 1
 ·funext p;cases p<;>rfl
 ·congr 1
  funext p
  cases p with
  |keep n=>show(decide<|(Str.ofString "keep")≠"cut")=decide ((Str.ofString "keep")≠"put");decide
  |put n=>show(decide<|(Str.ofString "put")≠"cut")=decide ((Str.ofString "cut")≠"put");decide
  |cut n=>show(decide<|(Str.ofString "cut")≠"cut")=decide ((Str.ofString "put")≠"put");decide
theorem Run.gives(h:Run l ps r):(vH ps).sum=r.length:=by
 rw[acK];exact h.zx.over
theorem acL(p:Pt):cnt (bj p)=dt p:=by
 cases p with
 |keep n=>
  have:∀m,cnt (rK m)=0:=λm=>by
   induction m with
   |zero=>rfl
   |succ m ih=>exact ih
  exact this _
 |put s=>
  show cnt (s.cps.toList.map At.P)=s.length;rw[len_list]
  induction s.cps.toList with
  |nil=>rfl
  |cons c t ih=>show cnt (t.map At.P)+1=_;rw[ih];rfl
 |cut s=>
  show cnt (s.cps.toList.map At.C)=s.length;rw[len_list]
  induction s.cps.toList with
  |nil=>rfl
  |cons c t ih=>show cnt (t.map At.C)+1=_;rw[ih];rfl
theorem kU(ps:List Pt):cnt (av ps)=aA ps:=by
 induction ps with
 |nil=>rfl
 |cons p ps ih=>
  rw[dh,zP,acL,ih]
  simp[aA]
theorem Og(h:ps[i]?=some p):av (ps.take<|i+1)=av (ps.take i)++bj p:=by
 rw[zbq,h]
 simp[av]
theorem drop_cons(h:ps[i]?=some p):ps.drop i=p::ps.drop (i+1):=by
 have hi:=(zad.mp h).1;rw[zaX hi]
 congr 1
 exact zap<|(zai hi).symm.trans h
structure D8 (one other ps:List Pt) (l r:List Nat):Prop where
 ok:∀p∈ps,ba p
 ch:chainOk "" ps=true
 run:Run l ps r
 res:res 0 (av ps)=sub (res 0<|av one) 0 (res 0<|av other)
 len:ps.length<=3* (one.length+other.length)+2
 aA:aA ps<=aA one+aA other
 aK:∃zs,cw (av one) (av other) zs/\nb (av ps)=nb zs
inductive D9 (vs:List V)(H:Hp)(Q:VK)(E:XK):Prop|i(a b:Addr)(xs ys:List V)(one other:List Pt)(l m r:List Nat)(_:vs=[.ref a,.ref b])(_:H a=some (.lst xs))(_:H b=some (.lst ys))(_:aG H xs one)(_:aG H ys other)(_:(∀p∈one,ba p))(_:(∀p∈other,ba p))(_:chainOk "" one=true)(_:chainOk "" other=true)(_:one.length+other.length<=30000)(_:aA one+aA other<=100000)(_:Run l one m)(_:Run m other r)(_:∀(c:Addr) (H':Hp) (zs:List V) (ps:List Pt),aC H H'->H c=none->H' c=some (.lst zs)->aG H' zs ps->D8 one other ps l r->Q (.ref c) H')
theorem acM{res:List Pt}{l m:List Nat}(h1:Run l one m)(h2:Run m other r)(ho:∀p∈res,ba p)(hl:res.length<=one.length+other.length)(ht:B.aA one+B.aA other<=100000)(h:cw (av one) (av other) (av res)):D8 one other (jv res) l r/\B.aA res<=100000:=by
 have D_:=by
  have:=h.cnt;rw[kU,kU,kU] at this;exact this
 have rg:=Nr ho (by lia)
 have heq:=vO res rg;obtain⟨g1,g2,_⟩:=oZ res rg (by lia)
 obtain⟨f1,f2⟩:=h1.fits;obtain⟨f3,f4⟩:=h2.fits;rw[<-f2] at f3 f4;obtain⟨e1,e2,e3⟩:=abL h l 0 0 f1 f3;have Oh:=qY res λp hp=>o5 (ho p hp);have dU:=by
  have:=o6 res l (λp hp=>o5<|ho p hp) e1;rw[e2,f4] at this;exact this
 have hnl:=zw res;refine⟨⟨heq▸g2,by lia,heq▸tN dU,by rw[abO Oh,e3],by lia,by rw[heq,tO res rg];exact D_,_,h,Oh⟩,by lia⟩
theorem acN{K:Frag}{et:List (Str×Addr)}(T:oK K C):bQ (D9) (λE=>aN K [("sizes",m6),("parts_behind",zT C),("neat",qM)] [] [] [("word",C,o_ C),("take",C,nB C),("left",C,mf C)] [("Walk",C,kS C)] (et:=et) (E:=E)) Kg Kf:=by
 intro vs H Q E h;obtain⟨a,b,xs,ys,one,other,l,m,r,rfl,ha,hb,lL,gW,iY,fQ,gb,c4,hlen,Ea,rj,j6,q⟩:=h;have lx:=Paired.length lL;have ly:=Paired.length gW;obtain⟨f1,f2⟩:=rj.fits;obtain⟨f3,f4⟩:=j6.fits;rw[<-f2] at f3;refine bq<|bo<|bp<|bN m6 rfl<|aD<|ae rfl<|aO ⟨a,xs,one,rfl,ha,lL,iY,gb,by lia,λt1 H1 s1 fG=>?_⟩
 refine aw<|.inr<|.inl ⟨_,_,_,_,rfl,rfl,aL.of fG,rfl,?_⟩;refine bp<|bN m6 rfl<|aD<|ae rfl<|aO ⟨b,ys,other,rfl,s1 _ _ hb,gW.mono<|bM s1,fQ,c4,by lia,λt2 H2 s2 l8=>?_⟩
 refine aw<|.inr<|.inl ⟨_,_,_,_,rfl,rfl,aL.of l8,rfl,?_⟩;refine⟨_,rfl,?_⟩;rw[rj.gives,j6.over,zqT rfl];have rm:=s1.trans s2;refine bD<|vZ C (kS C) rfl<|ae rfl λw dx hw Eb ia=>?_;have s3:aC H2 (upd (upd H2 dx<|.own w) w<|.ins C dx []):=λb o e=>by rw[az<|aM e hw,az<|aM e Eb];exact e
 have kW:=rm.trans s3;refine⟨w,dx,a,xs,one,rfl,ay,kW _ _ ha,lL.mono<|bM kW,iY,by lia,λL H3 hL hLw b3 W=>⟨rfl,?_⟩⟩
 have fI:aC H H3:=λb o e=>b3 b o (kW b o e) (aM (rm b o e) hw);have fw:H w=none:=rm.free hw;refine bD<|fH<|aO ⟨zqZ _,λc hc=>?_⟩;have fc:H c=none:=fI.free hc;have kT:c≠L:=by
  obtain⟨_,_,_,_,_,_,Ec,_⟩:=W;exact(aM Ec hc).symm
 have mi:c≠w:=by
  obtain⟨_,_,_,hW⟩:=W.ob;exact(aM hW hc).symm
 have Oi:∀{H4 H5:Hp},aC H H4->aW w H4 H5->aC H H5:=λs b d o e=>b d o (s d o e) (aM e fw);have Ed:∀{H4:Hp}{o:HO},aC H H4->aC H (upd H4 c o):=λs d o e=>by rw[az<|aM e fc];exact s d o e
 refine⟨_,rfl,b,rfl,⟨_,aB.of ((sameNew (o:=.lst []) hc) _ _ (fI _ _ hb))⟩,iR (K:=K) (a:=b) (xs:=ys) (λi σ H4=>∃(u:Option V) (cx:List V) (res rs:List Pt) (l':List Nat) (zs:List At),σ=[some (.ref a),some (.ref b),some (.ref w),some (.ref c),u]/\aC H H4/\H4 c=some (.lst cx)/\
   aG H4 cx res/\(∀p∈res,ba p)/\bO C H4 w L rs/\av one=zs++av rs/\cw zs (av (other.take i)) (av res)/\fit l' (av rs)/\fit (out l' (av rs)) (av (other.drop i))/\res.length+rs.length<=one.length+i)
  ⟨none,[],[],one,l,[],rfl,fI.trans<|sameNew hc,ay,.nil,(λp hp=>by cases hp),W.same<|sameNew hc,rfl,.nil,f1,f3,by simp⟩
  (λi σ H4 _ ⟨_,_,_,_,_,_,_,s4,_⟩=>aB.of (s4 _ _ hb)) ?_ ?_⟩
 ·rintro i y σ H4 hi ⟨u,cx,res,rs,l',zs,rfl,s4,jX,iO,i9,W4,ez,ig,fa,fb,pA⟩;obtain⟨p,hp,kH⟩:=gW.get hi;obtain⟨pa,rfl,nE⟩:=kH.mono (bM s4);have d_:i<other.length:=(zad.mp hp).1;have ij:=fQ p (zal hp);have DA:=Paired.length iO;rw[drop_cons hp,dh] at fb;refine bq<|bo<|bp<|ae rfl<|aw<|.inr<|.inl ⟨_,_,_,_,rfl,rfl,aL.of nE,rfl,aw<|jy ⟨_,rfl,?_⟩⟩;have rest:(∀s,p≠ .put s)->aE (aN K [("sizes",m6),("parts_behind",zT C),("neat",qM)] [] [] [("word",C,o_ C),("take",C,nB C),("left",C,mf C)] [("Walk",C,kS C)] (et:=et) (E:=E)) [.drop<|.bK .extend (.v 3) [(.call 1 [.v 2,.v 4])]]
    {nx:=λσ H4=>∃(u:Option V) (cx:List V) (res rs:List Pt) (l':List Nat) (zs:List At),σ=[some (.ref a),some (.ref b),some (.ref w),some (.ref c),u]/\aC H H4/\H4 c=some (.lst cx)/\
   aG H4 cx res/\(∀p∈res,ba p)/\bO C H4 w L rs/\av one=zs++av rs/\cw zs (av (other.take (i+1))) (av res)/\fit l' (av rs)/\fit (out l' (av rs)) (av (other.drop (i+1)))/\res.length+rs.length<=one.length+(i+1),rt:=Q} [some (.ref a),some (.ref b),some (.ref w),some (.ref c),some (.ref pa)] H4:=by
   intro v5;refine fk<|i8<|ae rfl ⟨.inl ⟨rfl,_,aB.of jX⟩,bN (zT C) rfl<|aD<|ae rfl<|aD<|ae rfl<|aO ?_⟩;refine⟨w,L,_,rs,p,l',_,rfl,W4,⟨pa,rfl,nE⟩,ij,v5,by lia,fa,fb,λd H5 Ee acP rs5 l5 zs5 b5 hd h5d Ol acT W5 ez5 ht5 fa5 fb5 zX=>?_⟩
   have ng:H5 c=some (.lst cx):=b5 _ _ jX mi;obtain⟨_,_,_,hW4⟩:=W4.ob;have aiV:=Paired.length Ol;refine⟨cx,Ee,ng,h5d,cP (by lia),?_⟩
   have tt:dR H5 (upd H5 c<|.lst<|cx++Ee):=aW.upd.dD ng;refine⟨some<|.ref pa,cx++Ee,res++acP,rs5,l5,zs++zs5,rfl,Ed<|Oi s4 b5,ay,Paired.app ((iO.mono<|b5.t_ hW4).mono tt)<|Ol.mono tt,?_,W5.but aW.upd ng kT,by rw[ez,ez5,zaj],?_,fa5,fb5,?_⟩
   ·intro x hx;rcases zab.mp hx with z|z
    ·exact i9 x z
    ·exact acT x z
   ·rw[Og hp,eY];exact ig.app ht5
   ·simp only[zqA];lia
  cases p with
  |put s=>
   refine fU ?_;refine fk<|i8<|ae rfl ⟨.inl ⟨rfl,_,aB.of jX⟩,ae rfl ⟨cx,jX,dg (by lia),?_⟩⟩
   have tt:dR H4 (upd H4 c<|.lst<|cx++[V.ref pa]):=aW.upd.dD jX;refine⟨some<|.ref pa,cx++[V.ref pa],res++[.put s],rs,l',zs,rfl,Ed s4,ay,aG.snoc (iO.mono tt) ⟨pa,rfl,tt _ _ nE⟩,?_,W4.but aW.upd jX kT,ez,?_,fa,(qX _ _ _).mp fb,by simp;lia⟩
   ·intro x hx;rcases zab.mp hx with z|z
    ·exact i9 x z
    ·rw[zag.mp z];exact ij
   ·rw[Og hp,eY,gX];have:=ig.app (NX s.cps.toList);rw[zaa] at this;exact this
  |keep n=>exact iy (rest λs z=>by cases z)
  |cut s=>exact iy (rest λs z=>by cases z)
 ·rintro σ H4 ⟨u,cx,res,rs,l',zs,rfl,s4,jX,iO,i9,W4,ez,ig,fa,fb,pA⟩;rw[ly,zbp] at ig;rw[ly,zbs] at fb;have oe:out l' (av rs)=[]:=fb;refine zQ (λmm σ H5=>∃(cx:List V) (res rs:List Pt) (l':List Nat) (zs:List At),mm=rs.length/\σ=[some (.ref a),some (.ref b),some (.ref w),some (.ref c),u]/\aC H H5/\H5 c=some (.lst cx)/\
   aG H5 cx res/\(∀p∈res,ba p)/\bO C H5 w L rs/\av one=zs++av rs/\cw zs (av other) (av res)/\fit l' (av rs)/\out l' (av rs)=[]/\res.length+rs.length<=one.length+other.length)
   ⟨_,cx,res,rs,l',zs,rfl,rfl,s4,jX,iO,i9,W4,ez,ig,fa,oe,by lia⟩ ?_
  rintro mm σ H5 ⟨cx,res,rs,l',zs,rfl,rfl,s5,ng,iO,i9,W5,ez,ig,fa,oe,zX⟩;have DA:=Paired.length iO;refine bo<|tZ (C:=C) rfl rfl W5<|aw<|iN ⟨_,rfl,?_⟩;cases rs with
  |nil=>
   refine iF ?_ rfl;rw[show av []=[] from rfl,zaa] at ez
   subst ez;obtain⟨J,D_⟩:=acM rj j6 i9 (by simp at zX;lia) Ea ig
   refine bS<|bN qM rfl<|aD<|ae rfl<|aO ⟨c,cx,res,rfl,ng,iO,by simp at zX;lia,D_,λd H6 ws s6 hd h6 pB=>?_⟩
   exact q d H6 ws _ (s5.trans s6) (s5.free hd) h6 pB J
  |cons p t=>
   have ij:=W5.ok p (.head _);obtain⟨Od,v7⟩:=j5 ij;have j7:∃s,p=.cut s:=by
    have om:=N4 _ _ fa oe;cases p with
    |cut s=>exact⟨s,rfl⟩
    |keep n=>
     exfalso
     have fg:(1:Int)<=n:=ij;obtain⟨c',e⟩:=om .K (by rw[dh];refine zaR _ ?_;show At.K∈rK n.toNat;unfold rK;rw[List.mem_replicate];exact⟨by lia,rfl⟩)
     cases e
    |put s=>
     exfalso
     obtain⟨c0,r0,e0⟩:=i6 ij.2;obtain⟨c',e⟩:=om (.P c0) (by rw[dh];refine zaR _ ?_;show At.P c0∈s.cps.toList.map At.P;rw[e0];exact .head _)
     cases e
   obtain⟨s,rfl⟩:=j7;have ta:aU (.cut s) (aZ<|.cut s)=.cut s:=take_all _ trivial;have re:dW (.cut s) t (aZ<|.cut s)=t:=if_pos rfl;refine iT ⟨_,λσ' H' z=>z,?_⟩ rfl;refine fk<|i8<|ae rfl ⟨.inl ⟨rfl,_,aB.of ng⟩,t9 (C:=C) (k:=aZ (.cut s)) rfl rfl W5 v7 (zqR _) (λQ' hq=>t6 (C:=C) rfl rfl W5 hq) λpa H6 b6 nE sf W6=>?_⟩;rw[ta] at nE;rw[re] at W6;have iL:H6 c=some (.lst cx):=b6 _ _ ng mi;obtain⟨_,_,_,hW5⟩:=W5.ob
   simp only[zaw] at zX
   refine⟨cx,iL,dg (by lia),?_⟩
   have tt:dR H6 (upd H6 c<|.lst<|cx++[V.ref pa]):=aW.upd.dD iL;rw[dh] at fa oe ez;obtain⟨la,lb,rfl,g1,g2,g3⟩:=pf _ _ fa;rw[g3] at oe;refine⟨t.length,by simp,cx++[V.ref pa],res++[.cut s],t,lb,zs++bj (.cut s),rfl,rfl,Ed<|Oi s5 b6,ay,aG.snoc ((iO.mono<|b6.t_ hW5).mono tt) ⟨pa,rfl,tt _ _ nE⟩,?_,W6.but aW.upd iL kT,by rw[ez,zaj],?_,g2,(List.append_eq_nil_iff.mp oe).2,by simp;lia⟩
   ·intro x hx;rcases zab.mp hx with z|z
    ·exact i9 x z
    ·rw[zag.mp z];exact ij
   ·rw[eY,gX];have:=ig.app (DX s.cps.toList);rw[zaa] at this;exact this
def v_(w c d:Addr)(H H':Hp):Prop:= ∀b o,H b=some o->b≠w->b≠c->b≠d->H' b=some o
theorem bO.Om{v c d:Addr}{rs:List Pt}(h:bO C H w L rs)(b:v_ v c d H H')(hc:H c=some (.lst xs))(hd:H d=some (.lst ys))(nc:c≠L)(nd:d≠L)(nw:w≠v)(nv:∃C' dx fs,H v=some (.ins C' dx fs)):bO C H' w L rs:=by
 obtain⟨C',Ef,uI,hv⟩:=nv;refine h.keep λe o he z=>b e o he ?_ ?_ ?_
 all_goals obtain⟨dx,_,_,_,_,h1,h2,_⟩:=h
 ·rcases z with rfl|rfl|⟨ys,rfl⟩
  ·exact nw
  ·exact cy h2 hv (by lia)
  ·exact cy he hv (by lia)
 ·rcases z with rfl|rfl|⟨ys,rfl⟩
  ·exact cy h1 hc (by lia)
  ·exact nc.symm
  ·exact cy he hc (by lia)
 ·rcases z with rfl|rfl|⟨ys,rfl⟩
  ·exact cy h1 hd (by lia)
  ·exact nd.symm
  ·exact cy he hd (by lia)
inductive zY (C:Addr)(vs:List V)(H:Hp)(Q:VK)(E:XK):Prop|i(w L c d:Addr)(s:Str)(t:List Pt)(xs ys:List V)(_:vs=[.ref w,.ref c,.ref d])(_:bO C H w L (.put s::t))(_:H c=some (.lst xs))(_:H d=some (.lst ys))(_:c≠d)(_:c≠L)(_:d≠L)(_:xs.length<=100000)(_:ys.length<=100000)(_:∀(a a2:Addr) (H':Hp),v_ w c d H H'->H' c=some (.lst<|xs++[.ref a])->H' d=some (.lst<|ys++[.ref a2])->H' a=some (.tup [.str "put",.str s])->H' a2=some (.tup [.str "keep",.int (s.length:Int)])->bO C H' w L t->Q .au H')
theorem ac0{K:Frag}:bQ (zY C) (λE=>aN K [("part_size",oQ)] [] [] [("take",C,nB C),("left",C,mf C)] (E:=E)) J4 J3:=by
 intro vs H Q E h;obtain⟨w,L,c,d,s,t,xs,ys,rfl,W,hc,hd,gf,kT,wa,lx,ly,q⟩:=h;have ij:=W.ok _ (.head _);obtain⟨Od,v7⟩:=j5 ij;have ta:aU (.put s) (aZ<|.put s)=.put s:=take_all _ trivial;have re:dW (.put s) t (aZ<|.put s)=t:=if_pos rfl;refine bD<|t9 rfl rfl W v7 (zqR _) (λQ' hq=>t6 rfl rfl W hq) λa H1 b1 ha sf W1=>?_;rw[ta] at ha;rw[re] at W1;obtain⟨_,_,_,hw⟩:=W.ob
 have gb:=b1 _ _ hc (cy hc hw (by lia));refine fk<|i8<|ae rfl ⟨.inl ⟨rfl,_,aB.of gb⟩,ae rfl ⟨xs,gb,dg (by lia),?_⟩⟩
 have hd2:upd H1 c (.lst<|xs++[V.ref a]) d=some (.lst ys):=by rw[az gf.symm];exact (b1 _ _ hd (cy hd hw (by lia)))
 have gZ:upd H1 c (.lst<|xs++[V.ref a]) a=some (.tup [.str "put",.str s]):=by rw[az<|cy ha gb (by lia)];exact ha
 refine fk<|i8<|ae rfl ⟨.inl ⟨rfl,_,aB.of hd2⟩,ma<|aD<|aw<|aD<|bN oQ rfl<|aD<|ae rfl<|aO ⟨_,.put s,rfl,⟨a,rfl,gZ⟩,qL ij,aO ⟨e7,λa2 h2=>?_⟩⟩⟩;have Oo:upd (upd H1 c<|.lst<|xs++[V.ref a]) a2 (.tup [.str "keep",.int<|qI<|.put s]) d=some (.lst ys):=by rw[az<|aM hd2 h2];exact hd2
 refine⟨ys,Oo,dg (by lia),?_⟩
 have Oq:c≠a2:=λz=>by rw[<-z,ay] at h2;cases h2
 have f2:=by rw[az Oq.symm] at h2;exact h2
 refine q a a2 _ ?_ ?_ ay ?_ ?_ ?_
 ·intro b o e n1 n2 n3;rw[az n3,az<|aM (b1 b o e n1) f2,az n2];exact b1 b o e n1
 ·rw[az gf,az Oq,ay]
 ·rw[az<|cy gZ hd2 (by lia),az<|aM gZ h2];exact gZ
 ·rw[az (aM hd2 h2).symm,ay];rfl
 ·refine((W1.but aW.upd gb kT).same<|sameNew h2).but aW.upd Oo wa
inductive Eg (vs:List V)(H:Hp)(Q:VK)(E:XK):Prop|i(v1 v2:V)(c d:Addr)(p1 p2:Pt)(xs ys:List V)(_:vs=[v1,v2,.ref c,.ref d])(_:i4 H v1 p1)(_:i4 H v2 p2)(_:(∀s,p1≠ .put s))(_:(∀s,p2≠ .put s))(_:(∀s s',p1=.cut s->p2=.cut s'->s=s'))(_:H c=some (.lst xs))(_:H d=some (.lst ys))(_:c≠d)(_:xs.length<=100000)(_:ys.length<=100000)(_:∀(H':Hp),(∀b o,H b=some o->b≠c->b≠d->H' b=some o)->H' c=some (.lst<|xs++if Nf p2 then [v1] else [])->H' d=some (.lst<|ys++if Nf p1 then [v2] else [])->Q .au H')
theorem ac3{K:Frag}{et:List (Str×Addr)}:bQ (Eg) (λE=>aN K [] [] (et:=et) (E:=E)) J6 J5:=by
 intro vs H Q E h;obtain⟨v1,v2,c,d,p1,p2,xs,ys,rfl,⟨a1,rfl,h1⟩,⟨a2,rfl,h2⟩,z5,wb,heq,hc,hd,gf,lx,ly,q⟩:=h;have lE:∀zs,upd H c (.lst zs) d=some (.lst ys):=λzs=>by rw[az gf.symm];exact hd
 have bc:∀zs b o,H b=some o->b≠c->b≠d->upd H c (.lst zs) b=some o:=λzs b o e n1 _=>by rw[az n1];exact e
 have bd:∀zs b o,H b=some o->b≠c->b≠d->upd H d (.lst zs) b=some o:=λzs b o e _ n2=>by rw[az n2];exact e
 have bcd:∀zs ws b o,H b=some o->b≠c->b≠d->upd (upd H c<|.lst zs) d (.lst ws) b=some o:=λzs ws b o e n1 n2=>by rw[az n2,az n1];exact e
 cases p1 with
 |put s=>exact absurd rfl (z5 s)
 |keep n=>
  refine⟨_,rfl,.inr<|.inl ⟨_,_,_,_,rfl,rfl,aL.of h1,rfl,_,rfl,?_⟩⟩;refine⟨_,rfl,.inr<|.inl ⟨_,_,_,_,rfl,rfl,aL.of h2,rfl,_,rfl,?_⟩⟩;cases p2 with
  |put s=>exact absurd rfl (wb s)
  |keep m=>
   refine⟨_,rfl,.inl ⟨rfl,_,aB.of hc⟩,_,rfl,xs,hc,dg (by lia),?_⟩
   have gG:upd H c (.lst<|xs++[V.ref a1]) a1=some (.tup [.str "keep",.int n]):=by rw[az<|cy h1 hc (by lia)];exact h1
   refine⟨_,rfl,.inr<|.inl ⟨_,_,_,_,rfl,rfl,aL.of gG,rfl,_,rfl,?_⟩⟩;refine⟨_,rfl,.inl ⟨rfl,_,aB.of<|lE _⟩,_,rfl,ys,lE _,dg (by lia),?_⟩
   exact q _ (bcd _ _) (by rw[az gf,ay];rfl) (by rw[ay];rfl)
  |cut s=>
   refine⟨_,rfl,.inl ⟨rfl,_,aB.of hd⟩,_,rfl,ys,hd,dg (by lia),?_⟩
   exact q _ (bd _) (by rw[az gf,hc];simp[Nf]) (by rw[ay];rfl)
 |cut s=>
  refine⟨_,rfl,.inr<|.inl ⟨_,_,_,_,rfl,rfl,aL.of h1,rfl,_,rfl,?_⟩⟩;refine⟨_,rfl,.inr<|.inl ⟨_,_,_,_,rfl,rfl,aL.of h2,rfl,_,rfl,?_⟩⟩;cases p2 with
  |put s=>exact absurd rfl (wb s)
  |keep m=>
   refine⟨_,rfl,.inr<|.inl ⟨_,_,_,_,rfl,rfl,aL.of h2,rfl,_,rfl,?_⟩⟩;refine⟨_,rfl,.inl ⟨rfl,_,aB.of hc⟩,_,rfl,xs,hc,dg (by lia),?_⟩
   have gG:upd H c (.lst<|xs++[V.ref a1]) a1=some (.tup [.str "cut",.str s]):=by rw[az<|cy h1 hc (by intro z;cases z)];exact h1
   refine⟨_,rfl,.inr<|.inl ⟨_,_,_,_,rfl,rfl,aL.of gG,rfl,_,rfl,?_⟩⟩;exact q _ (bc _) (by rw[ay];rfl) (by rw[lE];simp[Nf])
  |cut s'=>
   have e:=heq s s' rfl rfl;subst e;refine⟨_,rfl,.inr<|.inl ⟨_,_,_,_,rfl,rfl,aL.of h1,rfl,_,rfl,.inr<|.inl ⟨_,_,_,_,rfl,rfl,aL.of h2,rfl,_,rfl,?_⟩⟩⟩;rw[zaM,zqT (show(Pt.cut s).val=(Pt.cut s).val from rfl)]
   exact q _ (λb o e _ _=>e) (by rw[hc];simp[Nf]) (by rw[hd];simp[Nf])
end L2.B
namespace L2
theorem ac5{QT:Bool->Hp->Prop}(h:a_ Γ a σ H λc H1=>if c=true then QT true H1 else a_ Γ b σ H1 QT):a_ Γ (.or [a,b]) σ H QT:=h
end L2
namespace L2.B
inductive dj:List At->List At->List At->List At->Prop
 |nil:dj [] [] [] []
 |p1 {c xs ys os ts}:dj xs ys os ts->dj (.P c::xs) ys (.P c::os) (.K::ts)
 |p2 {c xs ys os ts}:(∀d zs,xs≠ .P d::zs)->dj xs ys os ts->dj xs (.P c::ys) (.K::os) (.P c::ts)
 |kk {xs ys os ts}:dj xs ys os ts->dj (.K::xs) (.K::ys) (.K::os) (.K::ts)
 |kc {c xs ys os ts}:dj xs ys os ts->dj (.K::xs) (.C c::ys) os (.C c::ts)
 |ck {c xs ys os ts}:dj xs ys os ts->dj (.C c::xs) (.K::ys) (.C c::os) ts
 |cc {c xs ys os ts}:dj xs ys os ts->dj (.C c::xs) (.C c::ys) os ts
def Seg(a b o t:List At):Prop:=cW a b o t/\∀xs ys os ts,dj xs ys os ts->dj (a++xs) (b++ys) (o++os) (t++ts)
theorem ac6(s:List Nat):Seg (s.map .P) [] (s.map .P) (rK s.length):=⟨N6 s,by
 induction s with
 |nil=>intro xs ys os ts h;exact h
 |cons c s ih=>intro xs ys os ts h;exact .p1 (ih xs ys os ts h)⟩
theorem ac7(n:Nat):Seg (rK n) (rK n) (rK n) (rK n):=⟨N8 n,by
 induction n with
 |zero=>intro xs ys os ts h;exact h
 |succ n ih=>intro xs ys os ts h;exact .kk (ih xs ys os ts h)⟩
theorem ac8(s:List Nat):Seg (rK s.length) (s.map .C) [] (s.map .C):=⟨N9 s,by
 induction s with
 |nil=>intro xs ys os ts h;exact h
 |cons c s ih=>intro xs ys os ts h;exact .kc (ih xs ys os ts h)⟩
theorem ac9(s:List Nat):Seg (s.map .C) (rK s.length) (s.map .C) []:=⟨N_ s,by
 induction s with
 |nil=>intro xs ys os ts h;exact h
 |cons c s ih=>intro xs ys os ts h;exact .ck (ih xs ys os ts h)⟩
theorem ac_(s:List Nat):Seg (s.map .C) (s.map .C) [] []:=⟨Oa s,by
 induction s with
 |nil=>intro xs ys os ts h;exact h
 |cons c s ih=>intro xs ys os ts h;exact .cc (ih xs ys os ts h)⟩
theorem Ot{xs ys os ts:List At}(hn:∀d zs,xs≠ .P d::zs)(h:dj xs ys os ts):∀s:List Nat,dj xs (s.map .P++ys) (rK s.length++os) (s.map .P++ts)
 |[]=>h
 |c::s=>.p2 hn (Ot hn h s)
def kY(xs ys a b z1 z2 o t:List At):Prop:=cW z1 z2 o t/\∀os ts,dj a b os ts->dj xs ys (o++os) (t++ts)
theorem kY.seg{xs ys a1 a b1 b z1 z2 o t o1 t1:List At}(h:kY xs ys (a1++a) (b1++b) z1 z2 o t)(s:Seg a1 b1 o1 t1):kY xs ys a b (z1++a1) (z2++b1) (o++o1) (t++t1):=
 ⟨h.1.app s.1,λos ts hp=>by rw[zaj,zaj];exact h.2 _ _ (s.2 _ _ _ _ hp)⟩
theorem kY.p2{xs ys a b z1 z2 o t:List At}{s:List Nat}(hn:∀d zs,a≠ .P d::zs)(h:kY xs ys a (s.map .P++b) z1 z2 o t):kY xs ys a b z1 (z2++s.map .P) (o++rK s.length) (t++s.map .P):=
 ⟨by have:=h.1.app (N7 s);rw[zaa] at this;exact this,λos ts hp=>by rw[zaj,zaj];exact h.2 _ _ (Ot hn hp s)⟩
theorem ada(ho:∀p∈ps,ba p)(h:o9 ps≠"put"):∀d zs,av ps≠ .P d::zs:=by
 intro d zs;cases ps with
 |nil=>intro z;cases z
 |cons p t=>
  have hp:=ho p (.head _);cases p with
  |put s=>exact absurd rfl h
  |keep n=>
   obtain⟨m,e⟩:∃m,n.toNat=m+1:=⟨n.toNat - 1,by have:1<=n:=hp;lia⟩
   show rK n.toNat++_≠_;rw[e];intro z;cases z
  |cut s=>
   obtain⟨c,r,e⟩:=i6 hp.2;show s.cps.toList.map At.C++_≠_;rw[e];intro z;cases z
structure Passed (one other ps qs:List Pt) (l m n:List Nat):Prop where
 ok1:∀p∈ps,ba p
 ok2:∀p∈qs,ba p
 ch1:chainOk "" ps=true
 ch2:chainOk "" qs=true
 runs:∃r,Run n ps r/\Run m qs r
 wc:ps.length<=3* (one.length+other.length)+2
 we:qs.length<=3* (one.length+other.length)+2
 aiW:aA ps<=aA one
 aiX:aA qs<=aA other
 pas:∃os ts,cW (av one) (av other) os ts/\nb (av ps)=nb os/\nb (av qs)=nb ts
 Ou:∃os ts,dj (av one) (av other) os ts/\nb (av ps)=nb os/\nb (av qs)=nb ts
theorem Ov(ho:∀p∈ps,ba p)(ht:aA ps<=100000)(h:fit l (av ps)):(∀p∈jv ps,ba p)/\chainOk "" (jv ps)=true/\Run l (jv ps) (out l<|av ps)/\aA (jv ps)=aA ps:=by
 have rg:=Nr ho ht;obtain⟨g1,g2,_⟩:=oZ ps rg ht;rw[(vO ps rg)];exact⟨g2,g1,tN<|o6 ps l (λp hp=>o5<|ho p hp) h,tO ps rg⟩
theorem adh{l m n:List Nat}(h1:Run l one m)(h2:Run l other n)(o1:∀p∈r1,ba p)(o2:∀p∈r2,ba p)(l1:r1.length<=one.length+other.length)(l2:r2.length<=one.length+other.length)(ht:aA one+aA other<=100000)
  (h:cW (av one) (av other) (av r1) (av r2)) (hO:dj (av one) (av other) (av r1) (av r2)):Passed one other (jv r1) (jv r2) l m n/\aA r1<=100000/\aA r2<=100000:=by
 obtain⟨c1,c2⟩:=h.Ob;rw[kU,kU] at c1 c2;obtain⟨f1,f2⟩:=h1.fits;obtain⟨f3,f4⟩:=h2.fits;obtain⟨g1,g2,g3⟩:=h.fits l f1 f3;rw[f4] at g2 g3;obtain⟨a1,a2,a3,a4⟩:=Ov o1 (by lia) g2
 obtain⟨b1,b2,b3,b4⟩:=Ov o2 (by lia) g1
 have n1:=zw r1;have n2:=zw r2;refine⟨⟨a1,b1,a2,b2,⟨_,a3,by lia⟩,by lia,by lia,by lia,by lia,⟨_,_,h,qY r1 λp hp=>o5 (o1 p hp),qY r2 λp hp=>o5 (o2 p hp)⟩,⟨_,_,hO,qY r1 λp hp=>o5 (o1 p hp),qY r2 λp hp=>o5 (o2 p hp)⟩⟩,by lia,by lia⟩
inductive wg (vs:List V)(H:Hp)(Q:VK)(E:XK):Prop|i(a b:Addr)(xs ys:List V)(one other:List Pt)(l m n:List Nat)(_:vs=[.ref a,.ref b])(_:H a=some (.lst xs))(_:H b=some (.lst ys))(_:aG H xs one)(_:aG H ys other)(_:(∀p∈one,ba p))(_:(∀p∈other,ba p))(_:chainOk "" one=true)(_:chainOk "" other=true)(_:one.length+other.length<=30000)(_:aA one+aA other<=100000)(_:Run l one m)(_:Run l other n)(_:∀(t c d:Addr) (H':Hp) (zs ws:List V) (ps qs:List Pt),aC H H'->H c=none->H d=none->c≠d->H' t=some (.tup [.ref c,.ref d])->H' c=some (.lst zs)->H' d=some (.lst ws)->aG H' zs ps->aG H' ws qs->Passed one other ps qs l m n->Q (.ref t) H')
abbrev wj(C:Addr):List (Str×Sp):=[("sizes",m6),("put_first",zY C),("share",Eg),("neat",qM)]
abbrev wk(C:Addr):List (Str×Addr×Sp):=[("word",C,o_ C),("left",C,mf C),("take",C,nB C)]
theorem Ow{t:List Pt}:(o9 (p::t) !="")=true:=by
 cases p<;>rfl
theorem adi{K:Frag}{et:List (Str×Addr)}(T:oK K C):bQ (wg) (λE=>aN K (wj C) [] [] (wk C) [("Walk",C,kS C)] (et:=et) (E:=E)) J8 J7:=by
 intro vs H Q E h;obtain⟨a,b,xs,ys,one,other,l,m,n,rfl,ha,hb,lL,gW,iY,fQ,gb,c4,hlen,Ea,rj,j6,q⟩:=h;have lx:=Paired.length lL;have ly:=Paired.length gW;obtain⟨f1,f2⟩:=rj.fits;obtain⟨f3,f4⟩:=j6.fits;refine bq<|bo<|bp<|bN m6 rfl<|aD<|ae rfl<|aO ⟨a,xs,one,rfl,ha,lL,iY,gb,by lia,λt1 H1 s1 fG=>?_⟩
 refine aw<|.inr<|.inl ⟨_,_,_,_,rfl,rfl,aL.of fG,rfl,?_⟩;refine bp<|bN m6 rfl<|aD<|ae rfl<|aO ⟨b,ys,other,rfl,s1 _ _ hb,gW.mono<|bM s1,fQ,c4,by lia,λt2 H2 s2 l8=>?_⟩
 refine aw<|.inr<|.inl ⟨_,_,_,_,rfl,rfl,aL.of l8,rfl,?_⟩;show ∃k,V.bl (true ^^ decide (V.int (overOf one).sum=V.int (overOf other).sum))=V.bl k/\_;refine⟨_,rfl,?_⟩;rw[rj.over,j6.over,zqT rfl];have rm:=s1.trans s2;refine bD<|vZ C (kS C) rfl<|ae rfl λw dx hw Eb ia=>?_;have s3:aC H2 (upd (upd H2 dx<|.own w) w<|.ins C dx []):=λb o e=>by rw[az<|aM e hw,az<|aM e Eb];exact e
 have kW:=rm.trans s3;refine⟨w,dx,a,xs,one,rfl,ay,kW _ _ ha,lL.mono<|bM kW,iY,by lia,λL H3 hL hLw b3 W=>⟨rfl,?_⟩⟩
 have fI:aC H H3:=λb o e=>b3 b o (kW b o e) (aM (rm b o e) hw);have fw:H w=none:=rm.free hw;refine bD<|vZ C (kS C) rfl<|ae rfl λv Eh hv adj aiZ=>?_;have s4:aC H3 (upd (upd H3 Eh<|.own v) v<|.ins C Eh []):=λb o e=>by rw[az<|aM e hv,az<|aM e adj];exact e
 have nG:=fI.trans s4;refine⟨v,Eh,b,ys,other,rfl,ay,nG _ _ hb,gW.mono<|bM nG,fQ,by lia,λM H5 hM hMv b5 V5=>⟨rfl,?_⟩⟩
 have Ox:aC H3 H5:=λb o e=>b5 b o (s4 b o e) (aM e hv);have Ei:=fI.trans Ox;have fv:H v=none:=fI.free hv;have W5:=W.same Ox;obtain⟨_,_,_,hw3⟩:=W.ob;have z6:w≠v:=aM hw3 hv;refine bD<|fH<|aO ⟨zqZ _,λc hc=>?_⟩;refine bD<|fH<|aO ⟨zqZ _,λd hd=>?_⟩;have gf:c≠d:=λz=>by rw[<-z,ay] at hd;cases hd
 have Ej:H5 d=none:=by rw[az gf.symm] at hd;exact hd
 have fc:H c=none:=Ei.free hc;have fd:H d=none:=Ei.free Ej;have lst:∀{H4:Hp}{w' L':Addr}{rs:List Pt},bO C H4 w' L' rs->∃zs,H4 L'=some (.lst zs):=λ⟨_,zs,_,_,_,_,h,_⟩=>⟨zs,h⟩;obtain⟨_,Oz⟩:=lst W5;obtain⟨_,OA⟩:=lst V5;have kT:c≠L:=(aM Oz hc).symm;have Ek:c≠M:=(aM OA hc).symm;have wa:d≠L:=(aM Oz Ej).symm;have El:d≠M:=(aM OA Ej).symm;have s6:aC H5 (upd (upd H5 c<|.lst []) d<|.lst []):=(sameNew hc).trans (sameNew hd);refine zQ (λmm σ H6=>∃(u:Option V) (zs ws:List V) (r1 r2 p1 p2:List Pt) (z1 z2:List At) (l':List Nat),mm=(av p1).length+(av p2).length/\σ=[some (.ref a),some (.ref b),some (.ref w),some (.ref v),some (.ref c),some (.ref d),u]/\aC H H6/\H6 c=some (.lst zs)/\H6 d=some (.lst ws)/\
   aG H6 zs r1/\aG H6 ws r2/\(∀p∈r1,ba p)/\(∀p∈r2,ba p)/\bO C H6 w L p1/\bO C H6 v M p2/\av one=z1++av p1/\av other=z2++av p2/\kY (av one) (av other) (av p1) (av p2) z1 z2 (av r1) (av r2)/\fit l' (av p1)/\fit l' (av p2)/\
   r1.length+p1.length+p2.length<=one.length+other.length/\r2.length+p1.length+p2.length<=one.length+other.length)
  ⟨_,none,[],[],[],[],one,other,[],[],l,rfl,rfl,Ei.trans s6,(by rw[az gf,ay]),ay,.nil,.nil,(λp hp=>by cases hp),(λp hp=>by cases hp),W5.same s6,V5.same s6,rfl,rfl,⟨.nil,λ_ _ h=>h⟩,f1,f3,by simp,by simp⟩ ?_
 rintro mm σ H6 ⟨u,zs,ws,r1,r2,p1,p2,z1,z2,l',rfl,rfl,pE,iL,nH,hz,pB,o1,o2,W6,V6,e1,e2,mq,fa,fb,wc,we⟩;have DA:=Paired.length hz;have yp:=Paired.length pB;obtain⟨dxw,iw,ow,rn⟩:=W6.ob;obtain⟨dxv,iv,ov,z7⟩:=V6.ob;have mi:c≠w:=cy iL rn (by intro z;cases z)
 have OB:c≠v:=cy iL z7 (by intro z;cases z)
 have zZ:d≠w:=cy nH rn (by intro z;cases z)
 have OD:d≠v:=cy nH z7 (by intro z;cases z)
 have fin:p1=[]->p2=[]->aE (aN K (wj C) [] [] (wk C) [("Walk",C,kS C)] (et:=et) (E:=E)) [.ret<|.tup [(.call 3 [.v 4]),(.call 3 [.v 5])]] (Dn Q) [some<|.ref a,some<|.ref b,some<|.ref w,some<|.ref v,some<|.ref c,some<|.ref d,u] H6:=by
  rintro rfl rfl;rw[show av []=[] from rfl,zaa] at e1 e2
  subst e1 e2
  simp only[zbb] at wc we
  have hO:=mq.2 [] [] .nil;rw[zaa,zaa] at hO;have mq:=mq.1;obtain⟨J,t1,t2⟩:=adh rj j6 o1 o2 (by lia) (by lia) Ea mq hO
  refine bS<|ma<|aD<|bN qM rfl<|aD<|ae rfl<|aO ⟨c,zs,r1,rfl,iL,hz,by lia,t1,λe H7 vs7 s7 he h7 hv7=>?_⟩
  refine aD<|bN qM rfl<|aD<|ae rfl<|aO ⟨d,ws,r2,rfl,s7 _ _ nH,pB.mono<|bM s7,by lia,t2,λg H8 vs8 s8 hg h8 hv8=>?_⟩
  refine aO ⟨e7,λt ht=>?_⟩;have s9:=sameNew (o:=.tup [V.ref e,V.ref g]) ht;have neg:e≠g:=aM h7 hg;exact q t e g _ vs7 vs8 _ _ (pE.trans<|s7.trans<|s8.trans s9) (pE.free he) ((pE.trans s7).free hg) neg ay (s9 _ _<|s8 _ _ h7) (s9 _ _ h8) ((hv7.mono<|bM s8).mono<|bM s9) (hv8.mono<|bM s9) J
 have turn:(p1≠ []\/p2≠ [])->∃N:St->Hp->Prop,(∀σ' H',N σ' H'->∃m',m'< (av p1).length+(av p2).length/\∃(u:Option V) (zs ws:List V) (r1 r2 p1 p2:List Pt) (z1 z2:List At) (l':List Nat),m'=(av p1).length+(av p2).length/\σ'=[some (.ref a),some (.ref b),some (.ref w),some (.ref v),some (.ref c),some (.ref d),u]/\aC H H'/\H' c=some (.lst zs)/\H' d=some (.lst ws)/\
   aG H' zs r1/\aG H' ws r2/\(∀p∈r1,ba p)/\(∀p∈r2,ba p)/\bO C H' w L p1/\bO C H' v M p2/\av one=z1++av p1/\av other=z2++av p2/\kY (av one) (av other) (av p1) (av p2) z1 z2 (av r1) (av r2)/\fit l' (av p1)/\fit l' (av p2)/\
   r1.length+p1.length+p2.length<=one.length+other.length/\r2.length+p1.length+p2.length<=one.length+other.length)/\
   aE (aN K (wj C) [] [] (wk C) [("Walk",C,kS C)] (et:=et) (E:=E)) [.ite (.cmp .Eq (.aR 0 "word" (.v 2) []) (.c (.str "put"))) [.drop (.call 1 [.v 2,.v 4,.v 5])] [.ite (.cmp .Eq (.aR 0 "word" (.v 3) []) (.c (.str "put"))) [.drop (.call 1 [.v 3,.v 5,.v 4])] [.asg 6 (.blt .min [(.aR 1 "left" (.v 2) []),(.aR 1 "left" (.v 3) [])]),
    .drop (.call 2 [(.aR 2 "take" (.v 2) [.v 6]),(.aR 2 "take" (.v 3) [.v 6]),.v 4,.v 5])]]]
    {{Dn Q with nx:=aE (aN K (wj C) [] [] (wk C) [("Walk",C,kS C)] (et:=et) (E:=E)) [.ret<|.tup [(.call 3 [.v 4]),(.call 3 [.v 5])]] (Dn Q)} with nx:=N,ct:=N,bk:=aE (aN K (wj C) [] [] (wk C) [("Walk",C,kS C)] (et:=et) (E:=E)) [.ret<|.tup [(.call 3 [.v 4]),(.call 3 [.v 5])]] (Dn Q)} [some<|.ref a,some<|.ref b,some<|.ref w,some<|.ref v,some<|.ref c,some<|.ref d,u] H6:=by
  intro adp;refine⟨_,λσ' H' z=>z,?_⟩;have OE:∀{H7:Hp}{x:Addr},H x=none->v_ x c d H6 H7->aC H H7:=λ{H7 x} hx b e o he=>b e o (pE e o he) (aM he hx) (aM he fc) (aM he fd);have OF:∀{H7:Hp}{x:Addr}{C' Ef uI},H6 x=some (.ins C' Ef uI)->v_ x c d H6 H7->dR H6 H7:=λ{H7 x C' Ef uI} hx b e vs he=>b e _ he (cy he hx (by intro z;cases z)) (cy he iL (by intro z;cases z)) (cy he nH (by intro z;cases z))
  have ub:∀{r:List Pt}{x:Pt},(∀p∈r,ba p)->ba x->∀p∈r++[x],ba p:=λ{r x} h hx p hp=>by
   rcases zab.mp hp with z|z
   ·exact h p z
   ·rw[zag.mp z];exact hx
  refine bq<|bo<|tZ (C:=C) rfl rfl W6<|aw<|jy ⟨_,rfl,?_⟩;by_cases eJ:o9 p1="put"
  ·obtain⟨s,t,rfl⟩:∃s t,p1=.put s::t:=by
    cases p1 with
    |nil=>exact absurd (show(Str.ofString "")="put" from eJ) (by decide)
    |cons p t=>
     cases p with
     |put s=>exact⟨s,t,rfl⟩
     |keep n=>exact absurd (show(Str.ofString "keep")="put" from eJ) (by decide)
     |cut n=>exact absurd (show(Str.ofString "cut")="put" from eJ) (by decide)
   have ij:=W6.ok _ (.head _);refine iT ?_ rfl;refine fk<|bN (zY C) rfl<|aD<|ae rfl<|aD<|ae rfl<|aD<|ae rfl<|aO ?_
   simp only[zaw] at wc we
   refine⟨w,L,c,d,s,t,zs,ws,rfl,W6,iL,nH,gf,kT,wa,by lia,by lia,λa1 a2 H7 b7 Em En Eo Ep W7=>?_⟩
   have tt:=OF rn b7;have V7:bO C H7 v M p2:=V6.Om b7 iL nH Ek El z6.symm ⟨_,_,_,rn⟩;rw[dh] at e1 fa;have c7:=tY (.put s);have vI:=(j5 ij).2;refine⟨_,?_,u,zs++[V.ref a1],ws++[V.ref a2],r1++[.put s],r2++[.keep (s.length:Int)],t,p2,z1++bj (.put s),z2,l',rfl,rfl,OE fw b7,Em,En,aG.snoc (p:=.put s) (hz.mono tt) ⟨a1,rfl,Eo⟩,aG.snoc (p:=.keep (s.length:Int)) (pB.mono tt) ⟨a2,rfl,Ep⟩,ub o1 ij,ub (x:=.keep (s.length:Int)) o2 (show(1:Int)<= (s.length:Int) by have:1<=s.length:=vI;lia),W7,V7,by rw[e1,zaj],e2,?_,(qX _ _ _).mp fa,fb,by simp;lia,by simp;lia⟩
   ·rw[dh,zqA];lia
   ·rw[dh] at mq;have:=kY.seg (b1:=[]) mq (ac6 s.cps.toList);rw[zaa] at this;rw[eY,eY,gX,gX];have ek:bj (.keep (s.length:Int))=rK s.cps.toList.length:=by show rK ((s.length:Int)).toNat=_;rw[zaD,len_list]
    rw[ek];exact this
  ·refine iF ?_ (beq_eq_false_iff_ne.mpr eJ);refine bq<|bo<|tZ (C:=C) rfl rfl V6<|aw<|jy ⟨_,rfl,?_⟩;by_cases e_:o9 p2="put"
   ·obtain⟨s,t,rfl⟩:∃s t,p2=.put s::t:=by
     cases p2 with
     |nil=>exact absurd (show(Str.ofString "")="put" from e_) (by decide)
     |cons p t=>
      cases p with
      |put s=>exact⟨s,t,rfl⟩
      |keep n=>exact absurd (show(Str.ofString "keep")="put" from e_) (by decide)
      |cut n=>exact absurd (show(Str.ofString "cut")="put" from e_) (by decide)
    have ij:=V6.ok _ (.head _);refine iT ?_ rfl;refine fk<|bN (zY C) rfl<|aD<|ae rfl<|aD<|ae rfl<|aD<|ae rfl<|aO ?_
    simp only[zaw] at wc we
    refine⟨v,M,d,c,s,t,ws,zs,rfl,V6,nH,iL,gf.symm,El,Ek,by lia,by lia,λa1 a2 H7 b7' En Em Eo Ep V7=>?_⟩
    have b7:v_ v c d H6 H7:=λe o he n1 n2 n3=>b7' e o he n1 n3 n2;have tt:=OF z7 b7;have W7:bO C H7 w L p1:=W6.Om b7 iL nH kT wa z6 ⟨_,_,_,z7⟩;rw[dh] at e2 fb;have c7:=tY (.put s);have vI:=(j5 ij).2;refine⟨_,?_,u,zs++[V.ref a2],ws++[V.ref a1],r1++[.keep (s.length:Int)],r2++[.put s],p1,t,z1,z2++bj (.put s),l',rfl,rfl,OE fv b7,Em,En,aG.snoc (p:=.keep (s.length:Int)) (hz.mono tt) ⟨a2,rfl,Ep⟩,aG.snoc (p:=.put s) (pB.mono tt) ⟨a1,rfl,Eo⟩,ub (x:=.keep (s.length:Int)) o1 (show(1:Int)<= (s.length:Int) by have:1<=s.length:=vI;lia),ub o2 ij,W7,V7,e1,by rw[e2,zaj],?_,fa,(qX _ _ _).mp fb,by simp;lia,by simp;lia⟩
    ·rw[dh,zqA];lia
    ·rw[dh] at mq;have:=kY.p2 (s:=s.cps.toList) (ada W6.ok eJ) mq;rw[eY,eY,gX,gX];have ek:bj (.keep (s.length:Int))=rK s.cps.toList.length:=by show rK ((s.length:Int)).toNat=_;rw[zaD,len_list]
     rw[ek];exact this
   ·refine iF ?_ (beq_eq_false_iff_ne.mpr e_);have z8:∀{p:Pt}{t:List Pt},o9 (p::t)≠"put"->∀s,p≠ .put s:=λ{p t} h s z=>by subst z;exact h rfl
    have OG:∀{p:Pt}{t:List Pt},ba p->(∀s,p≠ .put s)-> ¬fit [] (av (p::t)):=by
     intro p t hp hn hf;have hl:=mh _ _ hf;rw[dh,vX] at hl;have h1:=(j5 hp).2;have:dB (bj p)=aZ p:=by
      cases p with
      |keep n=>exact vY _
      |put s=>exact absurd rfl (hn s)
      |cut s=>show dB (s.cps.toList.map At.C)=s.length;rw[nC,len_list]
     simp only[zbb] at hl
     lia
    obtain⟨x,t,ex⟩:∃x t,p1=x::t:=by
     cases p1 with
     |cons x t=>exact⟨x,t,rfl⟩
     |nil=>
      exfalso
      have dP:l'=[]:=fa;subst dP;cases p2 with
      |nil=>rcases adp with z|z<;>exact z rfl
      |cons y t'=>exact OG (V6.ok y<|.head _) (z8 e_) fb
    subst ex;obtain⟨y,t',ey⟩:∃y t',p2=y::t':=by
     cases p2 with
     |cons y t'=>exact⟨y,t',rfl⟩
     |nil=>
      exfalso
      have dP:l'=[]:=fb;subst dP;exact OG (W6.ok x<|.head _) (z8 eJ) fa
    subst ey;have nx:=z8 eJ;have ny:=z8 e_;have OH:=W6.ok x (.head _);have OI:=V6.ok y (.head _);obtain⟨px1,px2⟩:=j5 OH;obtain⟨py1,py2⟩:=j5 OI;obtain⟨k,hk⟩:∃k,k=min (aZ x) (aZ y):=⟨_,rfl⟩;have k1:1<=k:=by lia
    have k2:k<=aZ x:=by lia
    have k3:k<=aZ y:=by lia
    have emin:(if (aZ y:Int) < (aZ x:Int) then (aZ y:Int) else (aZ x:Int))=(k:Int):=by split<;>lia
    refine bD<|NO<|aD<|t6 (C:=C) rfl rfl W6<|aD<|t6 (C:=C) rfl rfl V6<|aO ?_;show aE _ _ _ ([some<|.ref a,some<|.ref b,some<|.ref w,some<|.ref v,some<|.ref c,some<|.ref d,u].set 6 (some<|V.int (if (aZ y:Int) < (aZ x:Int) then (aZ y:Int) else (aZ x:Int)))) H6
    rw[emin];refine fk<|bN Eg rfl<|aD<|t9 (C:=C) (k:=k) rfl rfl W6 k1 k2 (λQ' hq=>ae rfl hq) λa1 H7 b7 eo hf7 W7=>?_;have V7:bO C H7 v M (y::t'):=V6.keep λe o he z=>b7 e o he (by
     rcases z with rfl|rfl|⟨_,rfl⟩
     ·exact z6.symm
     ·obtain⟨_,hM6⟩:=lst V6;exact cy hM6 rn (by intro z;cases z)
     ·exact cy he rn (by intro z;cases z))
    refine aD<|t9 (C:=C) (k:=k) rfl rfl V7 k1 k3 (λQ' hq=>ae rfl hq) λa2 H8 b8 gZ hf8 V8=>?_;obtain⟨_,_,_,hW7⟩:=W7.ob;obtain⟨_,_,_,z9⟩:=V7.ob;have W8:bO C H8 w L (dW x t k):=W7.keep λe o he z=>b8 e o he (by
     rcases z with rfl|rfl|⟨_,rfl⟩
     ·exact z6
     ·obtain⟨_,hL7⟩:=lst W7;exact cy hL7 z9 (by intro z;cases z)
     ·exact cy he z9 (by intro z;cases z))
    have OJ:=b8 _ _ eo (cy eo z9 (by intro z;cases z))
    have OK:=b8 _ _ (b7 _ _ iL mi) OB;have OL:=b8 _ _ (b7 _ _ nH zZ) OD;have tt8:dR H6 H8:=(b7.t_ rn).trans (b8.t_ z9);refine aD<|ae rfl<|aD<|ae rfl<|aO ?_;have eA:=zS t k2;have eB:=zS t' k3;rw[eA] at fa;rw[eB] at fb;obtain⟨la,lb,rfl,g1,g2,g3⟩:=pf _ _ fa;have v9:la.length=k:=by
     rw[mh _ _ g1];have e:=vU x k k2;cases x with
     |keep n=>exact vY k
     |put s=>exact absurd rfl (nx s)
     |cut s=>
      have e':(⟨(s.cps.toList.take k).toArray⟩:Str).length=k:=e;rw[kR] at e';show dB ((s.cps.toList.take k).map At.C)=k;rw[nC];exact e'
    have ovy:dB (bj<|aU y k)=k:=by
     have e:=vU y k k3;cases y with
     |keep n=>exact vY k
     |put s=>exact absurd rfl (ny s)
     |cut s=>
      have e':(⟨(s.cps.toList.take k).toArray⟩:Str).length=k:=e;rw[kR] at e';show dB ((s.cps.toList.take k).map At.C)=k;rw[nC];exact e'
    obtain⟨g4,g5⟩:=N3 fb (by rw[v9,ovy])
    have wm:∀{s:Str}{u:List Nat},fit u (bj<|.cut s)->s.cps.toList=u:=by
     intro s u hu;obtain⟨b,rfl⟩:=vS s.cps.toList u [] (by rw[zaa];exact hu)
     have h1:=mh _ _ hu;have e1:dB (bj<|.cut s)=s.cps.toList.length:=nC _;rw[e1,zqA] at h1;have:b=[]:=zaE.mp (by lia)
     rw[this,zaa]
    have okx:=zK OH k1 k2;have oky:=zK OI k1 k3
    simp only[zaw] at wc we
    refine⟨.ref a1,.ref a2,c,d,aU x k,aU y k,zs,ws,rfl,⟨a1,rfl,OJ⟩,⟨a2,rfl,gZ⟩,?_,?_,?_,OK,OL,gf,by lia,by lia,λH9 b9 h9c h9d=>?_⟩
    ·intro s z;cases x<;>first|exact absurd rfl (nx _)|cases z
    ·intro s z;cases y<;>first|exact absurd rfl (ny _)|cases z
    ·intro s s' z z';rw[z] at g1;rw[z'] at g4;exact iJ<|(wm g1).trans (wm g4).symm
    have wo:∀{e:Addr}{o:HO},H8 e=some o->(e=w\/e=L\/e=v\/e=M\/∃vs,o=.tup vs)->H9 e=some o:=by
     intro e o he z;obtain⟨_,hL8⟩:=lst W8;obtain⟨_,hM8⟩:=lst V8;obtain⟨_,_,_,hW8⟩:=W8.ob;obtain⟨_,_,_,hV8⟩:=V8.ob;refine b9 e o he ?_ ?_
     ·rcases z with rfl|rfl|rfl|rfl|⟨vs,rfl⟩
      ·exact mi.symm
      ·exact kT.symm
      ·exact OB.symm
      ·exact Ek.symm
      ·exact cy he OK (by intro z;cases z)
     ·rcases z with rfl|rfl|rfl|rfl|⟨vs,rfl⟩
      ·exact zZ.symm
      ·exact wa.symm
      ·exact OD.symm
      ·exact El.symm
      ·exact cy he OL (by intro z;cases z)
    have W9:bO C H9 w L (dW x t k):=W8.keep λe o he z=>wo he (by
     rcases z with z|z|z
     ·exact .inl z
     ·exact .inr (.inl z)
     ·exact .inr (.inr (.inr (.inr z))))
    have V9:bO C H9 v M (dW y t' k):=V8.keep λe o he z=>wo he (by
     rcases z with z|z|z
     ·exact .inr (.inr<|.inl z)
     ·exact .inr (.inr<|.inr<|.inl z)
     ·exact .inr (.inr (.inr (.inr z))))
    have z_:dR H6 H9:=λe vs he=>wo (tt8 e vs he) (.inr<|.inr<|.inr<|.inr ⟨vs,rfl⟩);have adA:H9 a1=some (.tup [.str (aU x k).word,(aU x k).val]):=wo OJ (.inr<|.inr<|.inr<|.inr ⟨_,rfl⟩);have adB:H9 a2=some (.tup [.str (aU y k).word,(aU y k).val]):=wo gZ (.inr<|.inr<|.inr<|.inr ⟨_,rfl⟩);have s09:aC H H9:=λe o he=>b9 e o (b8 e o (b7 e o (pE e o he)<|aM he fw)<|aM he fv) (aM he fc) (aM he fd);have lt1:=D0 t k1 k2;have lt2:=D0 t' k1 k3;have ajd:(dW x t k).length+(dW y t' k).length<=t.length+t'.length+1:=by
     have r1:=DZ x t k;have r2:=DZ y t' k;by_cases hz:k=aZ x
     ·have e:dW x t k=t:=if_pos hz;rw[e];lia
     ·have Dp:k=aZ y:=by lia
      have e:dW y t' k=t':=if_pos Dp;rw[e];lia
    refine⟨_,Nat.add_lt_add lt1 lt2,some<|.int (k:Int),zs++(if Nf (aU y k) then [V.ref a1] else []),ws++(if Nf (aU x k) then [V.ref a2] else []),r1++(if Nf (aU y k) then [aU x k] else []),r2++(if Nf (aU x k) then [aU y k] else []),dW x t k,dW y t' k,z1++bj (aU x k),z2++bj (aU y k),lb,rfl,rfl,s09,h9c,h9d,?_,?_,?_,?_,W9,V9,by rw[e1,eA,zaj],by rw[e2,eB,zaj],?_,g2,g5,?_,?_⟩
    ·split
     ·exact aG.snoc (hz.mono z_) ⟨a1,rfl,adA⟩
     ·rw[zaa,zaa];exact hz.mono z_
    ·split
     ·exact aG.snoc (pB.mono z_) ⟨a2,rfl,adB⟩
     ·rw[zaa,zaa];exact pB.mono z_
    ·split
     ·exact ub o1 okx
     ·rw[zaa];exact o1
    ·split
     ·exact ub o2 oky
     ·rw[zaa];exact o2
    ·rw[eY,eY];rw[eA,eB] at mq;refine kY.seg mq ?_;cases x with
     |put s=>exact absurd rfl (nx s)
     |keep n=>
      have OM:bj (aU (.keep n) k)=rK k:=by show rK ((k:Nat):Int).toNat=_;rw[zaD]
      cases y with
      |put s=>exact absurd rfl (ny s)
      |keep n'=>
       have Er:bj (aU (.keep n') k)=rK k:=by show rK ((k:Nat):Int).toNat=_;rw[zaD]
       rw[show(if Nf (aU (.keep n') k)=true then [aU (.keep n) k] else [])=[aU (.keep n) k] from rfl,show(if Nf (aU (.keep n) k)=true then [aU (.keep n') k] else [])=[aU (.keep n') k] from rfl,gX,gX,OM,Er]
       exact ac7 k
      |cut s=>
       rw[show(if Nf (aU (.cut s) k)=true then [aU (.keep n) k] else [])=[] from rfl,show(if Nf (aU (.keep n) k)=true then [aU (.cut s) k] else [])=[aU (.cut s) k] from rfl,gX,OM]
       have ec:bj (aU (.cut s) k)=la.map At.C:=by
        have:=wm (s:=⟨(s.cps.toList.take k).toArray⟩) g4;show(s.cps.toList.take k).map At.C=_;rw[show s.cps.toList.take k=la from this]
       rw[ec,<-v9];exact ac8 la
     |cut s=>
      have ec:bj (aU (.cut s) k)=la.map At.C:=by
       have:=wm (s:=⟨(s.cps.toList.take k).toArray⟩) g1;show(s.cps.toList.take k).map At.C=_;rw[show s.cps.toList.take k=la from this]
      cases y with
      |put s=>exact absurd rfl (ny s)
      |keep n'=>
       have Er:bj (aU (.keep n') k)=rK k:=by show rK ((k:Nat):Int).toNat=_;rw[zaD]
       rw[show(if Nf (aU (.keep n') k)=true then [aU (.cut s) k] else [])=[aU (.cut s) k] from rfl,show(if Nf (aU (.cut s) k)=true then [aU (.keep n') k] else [])=[] from rfl,gX,Er,ec,<-v9]
       exact ac9 la
      |cut s'=>
       have ec':bj (aU (.cut s') k)=la.map At.C:=by
        have:=wm (s:=⟨(s'.cps.toList.take k).toArray⟩) g4;show(s'.cps.toList.take k).map At.C=_;rw[show s'.cps.toList.take k=la from this]
       rw[show(if Nf (aU (.cut s') k)=true then [aU (.cut s) k] else [])=[] from rfl,show(if Nf (aU (.cut s) k)=true then [aU (.cut s') k] else [])=[] from rfl,ec,ec']
       exact ac_ la
    ·have:(r1++(if Nf (aU y k) then [aU x k] else [])).length<=r1.length+1:=by rw[zqA];split<;>simp
     lia
    ·have:(r2++(if Nf (aU x k) then [aU y k] else [])).length<=r2.length+1:=by rw[zqA];split<;>simp
     lia
 refine ac5<|bo<|tZ (C:=C) rfl rfl W6<|aw<|iN ⟨_,rfl,?_⟩;cases p1 with
 |cons x t=>exact iT (iT (turn<|.inl (by simp)) rfl) Ow
 |nil=>
  refine iF ?_ rfl;refine bo<|tZ (C:=C) rfl rfl V6<|aw<|iN ⟨_,rfl,?_⟩;cases p2 with
  |cons x t=>exact iT (turn<|.inr (by simp)) Ow
  |nil=>exact iF (fin rfl rfl) rfl
end L2.B
namespace L2.B
structure bX (ps:List Pt) (l r:List Nat):Prop where
 ok:∀p∈ps,ba p
 ch:chainOk "" ps=true
 run:Run l ps r
theorem adG{K:Frag}:bQ (lY) (λE=>aN K [] [] (E:=E)) Jk CY:=by
 intro vs H Q E h;obtain⟨i,rfl,q⟩:=h;exact⟨_,rfl,rfl,_,rfl,fU ⟨_,rfl,rfl,q⟩⟩
end L2.B
namespace L2
section
variable {Γ:aV}{D:Ends}{σ:St}{H:Hp}{r:List RS}{Q:VK}{QA:List V->Hp->Prop}{QT:Bool->Hp->Prop}
theorem gg{K:Frag}{b:Bool}{QB:Bool->Prop}(h:QB b):jP K (.bl b) H QB:=h
theorem eL(h:a_ Γ a σ H λb H1=>QT (!b) H1):a_ Γ (.not a) σ H QT:=h
theorem jz(sp:Sp)(hs:Γ.fs j=sp)(h:bw Γ as σ H λvs H1=>sp vs H1 (λx H2=>jP Γ.K x H2 λb=>QT b H2) Γ.E):a_ Γ (.call j as) σ H QT:=by
 subst hs;show bw Γ as σ H λvs H1=>Γ.fs j (vs++[]) H1 (λx H2=>jP Γ.K x H2 λb=>QT b H2) Γ.E;have e:(fun(vs:List V) (H1:Hp)=>Γ.fs j (vs++[]) H1 (λx H2=>jP Γ.K x H2 λb=>QT b H2) Γ.E)=λvs H1=>Γ.fs j vs H1 (λx H2=>jP Γ.K x H2 λb=>QT b H2) Γ.E:=by
  funext vs H1;rw[zaa]
 rw[e];exact h
theorem Aa(h:a_ Γ a σ H λc H1=>if c=true then QT true H1 else a_ Γ b σ H1 QT):a_ Γ (.or [a,b]) σ H QT:=h
theorem wq(h:a_ Γ a σ H λc H1=>if c=true then a_ Γ b σ H1 QT else QT false H1):a_ Γ (.and [a,b]) σ H QT:=h
end
theorem adH{K:Frag}{t:Addr}{w:V}{Q:St->Hp->Prop}(ht:H t=some (.tup [v,w]))(q:Q ((σ.set i<|some v).set j<|some w) H):qv K [i,j].length (oG [i,j]) (.ref t) σ H Q:=
 ⟨t,_,rfl,.inl<|aL.of ht,rfl,_,_,rfl,_,_,rfl,rfl,q⟩
end L2
namespace L2.B
theorem adI{K:Frag}{QQ:List V->Hp->Addr->Prop}{te:TE}{a:Addr}(ha:H a=some (.lst xs))(hl:xs.length<=1000000)(P:Nat->List V->Hp->Prop)(p0:P 0 [] H)
  (step:∀i x ys H2,xs[i]?=some x->aC H H2->P i ys H2->∀Q':VK,(∀y H3,aC H2 H3->P (i+1) (ys++[y]) H3->Q' y H3)->te (some x::cC σ fv) H2 Q')
  (fin:∀ys H2 p,aC H H2->P xs.length ys H2->H2 p=none->QQ ys H2 p):∃W:Nat->Nat->List V->Hp->Prop,(∃m,W 0 m [] H)/\∀i m ys H2,W i m ys H2->
   ((fD K a).stop i H2/\∀p,H2 p=none->QQ ys H2 p)\/
   ((fD K a).go i H2/\∀x H3,(fD K a).fM i H2 x H3->jk K none x H3 λzs=>kx none (zs.map some++cC σ fv) H3 λb H5=>
    if b=true then te (zs.map some++cC σ fv) H5 λy H6=>ys.length<sizeLine/\∃m',m'<m/\W (i+1) m' (ys++[y]) H6 else ∃m',m'<m/\W (i+1) m' ys H5):=by
 refine⟨λi m ys H2=>m=xs.length - i/\i<=xs.length/\ys.length=i/\aC H H2/\P i ys H2,⟨_,rfl,zqZ _,rfl,aC.refl _,p0⟩,?_⟩;rintro i m ys H2 ⟨rfl,hi,hy,s,p⟩;by_cases bE:i<xs.length
 ·refine .inr ⟨⟨xs,xs[i],aB.of<|s _ _ ha,by simp⟩,?_⟩
  rintro x H3 ⟨rfl,hx⟩;exact step i x ys _ (hx xs (aB.of<|s _ _ ha)) s p _ λy H4 s4 p4=>⟨dg (by lia),xs.length - (i+1),by lia,rfl,bE,by simp[hy],s.trans s4,p4⟩
 ·have jt:i=xs.length:=by lia
  subst jt;exact .inl ⟨⟨xs,aB.of<|s _ _ ha,zqR _⟩,λq hq=>fin ys _ q s p hq⟩
theorem Ab{K:Frag}{QQ:List V->Hp->Addr->Prop}{te:TE}{lo:Int}(hl:n<=1000000)(P:Nat->List V->Hp->Prop)(p0:P 0 [] H)
  (step:∀i ys H2,i<n->aC H H2->P i ys H2->∀Q':VK,(∀y H3,aC H2 H3->P (i+1) (ys++[y]) H3->Q' y H3)->te (some (.int<|lo+i)::cC σ fv) H2 Q')
  (fin:∀ys H2 p,aC H H2->P n ys H2->H2 p=none->QQ ys H2 p):∃W:Nat->Nat->List V->Hp->Prop,(∃m,W 0 m [] H)/\∀i m ys H2,W i m ys H2->
   ((dy lo n).stop i H2/\∀p,H2 p=none->QQ ys H2 p)\/
   ((dy lo n).go i H2/\∀x H3,(dy lo n).fM i H2 x H3->jk K none x H3 λzs=>kx none (zs.map some++cC σ fv) H3 λb H5=>
    if b=true then te (zs.map some++cC σ fv) H5 λy H6=>ys.length<sizeLine/\∃m',m'<m/\W (i+1) m' (ys++[y]) H6 else ∃m',m'<m/\W (i+1) m' ys H5):=by
 refine⟨λi m ys H2=>m=n - i/\i<=n/\ys.length=i/\aC H H2/\P i ys H2,⟨_,rfl,zqZ _,rfl,aC.refl _,p0⟩,?_⟩;rintro i m ys H2 ⟨rfl,hi,hy,s,p⟩;by_cases bE:i<n
 ·refine .inr ⟨bE,?_⟩;rintro x H3 ⟨rfl,rfl⟩;exact step i ys _ bE s p _ λy H4 s4 p4=>⟨dg (by lia),n - (i+1),by lia,rfl,bE,by simp[hy],s.trans s4,p4⟩
 ·have jt:i=n:=by lia
  subst jt;exact .inl ⟨zqR _,λq hq=>fin ys _ q s p hq⟩
section
variable {Γ:aV}{σ:St}{H:Hp}{Q:VK}{QT:Bool->Hp->Prop}{K:Frag}
theorem ON{r:List RE}(h:a_ Γ a σ H λc H1=>if c=true then QT true H1 else a_ Γ (.or (b::r)) σ H1 QT):a_ Γ (.or (a::b::r)) σ H QT:=h
theorem adJ(h:a_ Γ a σ H QT):a_ Γ (.or [a]) σ H QT:=h
theorem wt(h:af Γ a σ H λx H1=>cb T x H1 λb=>QT b H1):a_ Γ (.gA T a) σ H QT:=by
 have e:∀(q:VK),(fun(x:V) (H1:Hp)=>cb T x H1 λb=>q (.bl b) H1)=λx H1=>ox T [x,.ty T.nm] H1 q:=by
  intro q;simp[ox]
 show af Γ a σ H λx H1=>ox T [x,.ty T.nm] H1 λv H2=>jP Γ.K v H2 λb=>QT b H2;rw[<-e];exact h
theorem bU{a:Addr}{i:Int}(h:H a=some (.tup xs))(e:gN xs i=some v)(q:Q v H):oy K sd (.ref a) (.int i) H Q:=
 .inr (.inl ⟨_,_,_,_,rfl,rfl,aL.of h,e,q⟩)
theorem iP{y:Int}(q:Q (.bl<|decide<|x=y) H):cN K .Eq (.int x) (.int y) H Q:=by
 show Q (.bl<|false ^^ decide (V.int x=V.int y)) H;rw[zaH,show decide (V.int x=V.int y)=decide (x=y) from decide_eq_decide.mpr ⟨λz=>by lia,λz=>by lia⟩];exact q
theorem Ac{y:Int}(q:Q (.bl<|!decide (x=y)) H):cN K .NotEq (.int x) (.int y) H Q:=by
 show Q (.bl<|true ^^ decide (V.int x=V.int y)) H;rw[zaM,show decide (V.int x=V.int y)=decide (x=y) from decide_eq_decide.mpr ⟨λz=>by lia,λz=>by lia⟩];exact q
theorem g_{i j:Int}(h:Q (.int<|i+j) H):iV K .Add (.int i) (.int j) H Q:=h
end
end L2.B
namespace L2.B
end L2.B
namespace L2.B
open PySem PySem.StrLaws
end L2.B
namespace L2.B
theorem jA{K:Frag}{sd:Addr->List (Key×V)->Prop}{a:Addr}{i:Int}(h:H a=some (.lst xs))(e:gN xs i=some v)(q:Q v H):oy K sd (.ref a) (.int i) H Q:=
 .inl ⟨_,_,_,_,rfl,rfl,aB.of h,e,q⟩
inductive jB (vs:List V)(H:Hp)(Q:VK)(E:XK):Prop|i(i lo hi:_)(_:vs=[.int i,.int lo,.int hi])(_:lo<=i)(_:i<=hi)(_:Q (.bl true) H)
end L2.B
namespace L2
theorem pG{p:α->Prop}:∀x∈ ([]:List α),p x:=nofun
theorem pH{p:α->Prop}{a:α}{l:List α}(h:p a)(t:∀x∈l,p x):∀x∈a::l,p x:=List.forall_mem_cons.2 ⟨h,t⟩
section
variable {P:Program}{w:World}{K:Frag}{mg:Str->Option Value}{base:Heap}{k:Nat}
theorem dz.weak{fd:FuncData}{ps:List Str}{a b:Sp}(A:dz P w K mg base CX k f fd ps b)(h:∀vs H Q E,a vs H Q E->b vs H Q E):dz P w K mg base CX k f fd ps a:=
 ⟨λvs H Q E q=>A.len vs H Q E<|h _ _ _ _ q,λA' outer s H args us vs Q E hr e0 hb hv hs=>A.run A' outer s H args us vs Q E hr e0 hb hv<|h _ _ _ _ hs⟩
theorem lP.weak{a b:Sp}(T:lP P w K mg base k x b)(h:∀vs H Q E,a vs H Q E->b vs H Q E):lP P w K mg base k x a:=by
 obtain⟨f,fd,ps,F,r⟩:=T;exact⟨f,fd,ps,F.weak h,r⟩
theorem lR.weak{a b:Sp}(T:lR P w K mg base k (x,C,b))(h:∀vs H Q E,a vs H Q E->b vs H Q E):lR P w K mg base k (x,C,a):=by
 obtain⟨c,f,fd,ps,m,F,r⟩:=T;exact⟨c,f,fd,ps,m,F.weak h,r⟩
open PySem.W in
theorem adK{x:Str}(X:K.In base)(G:base.Ns mainGlobals mg)(e:nsIn K mainGlobals x=some (some<|.ref C))(q:excIn K C [.type "ValueError",.type "Exception",.type "BaseException",.type "object"] "ValueError.__new__"=true):y4 mg base (x,C):=by
 refine⟨_,_,_,_,⟨mg_of X G e,?_⟩,PySem.F.excBase_ValueError⟩;unfold excIn at q
 split at q
 ·rename_i dd cd sl ho
  split at q
  ·rename_i C' bm k0 k1 k2 k3 n k5 hm hs
   simp only[zae,beq_iff_eq,zaY] at q
   obtain⟨⟨⟨⟨⟨rfl,rfl⟩,OO⟩,ht⟩,aF⟩,yO⟩:=q;obtain⟨nm,bs,mro,ns,qn,hd,sn,sub,ab,col,del⟩:=cd
   dsimp only at hm OO aF yO
   subst hm OO;obtain⟨sl⟩:=sl;have bR:sl=_:=hs;subst bR;exact⟨bm,ns,nm,qn,bs,hd,sn,sub,ab,col,dd,k0,k1,k2,k3,k5,_,X _ _ ho,.of_isNs<|isNs_of_in X aF,nsMap_none_of_in X aF yO,tail_of_in X ht⟩
  ·cases q
 ·cases q
end
end L2
namespace L2.B
def adL(v:V)(lo hi:Int)(H:Hp):Prop:=tW v H\/∃i,v=.int i/\(i<lo\/hi<i)
inductive OP (vs:List V)(H:Hp)(Q:VK)(E:XK):Prop|i(v:V)(lo hi:Int)(_:vs=[v,.int lo,.int hi])(_:((∃i,v=.int i/\lo<=i/\i<=hi/\Q (.bl true) H)\/(adL v lo hi H/\Q (.bl false) H)))
theorem adM{K:Frag}:bQ (OP) (λE=>aN K [("is_whole",vT)] [] (E:=E)) JT JS:=by
 intro vs H Q E h;have chain:∀(i lo hi:Int) (b:Bool) (H:Hp),decide (lo<=i/\i<=hi)=b->Q (.bl b) H->af (aN K [("is_whole",vT)] []) (.lN .LtE .LtE (.v 1) (.v 0)<|.v 2) [some<|.int i,some<|.int lo,some<|.int hi] H Q:=by
  intro i lo hi b H hb q;refine⟨_,rfl,_,rfl,trivial,_,rfl,fV (λh1=>?_)<|λh1=>?_⟩
  ·refine⟨_,rfl,trivial,?_⟩;have e:decide (i<=hi)=b:=by lia
   show Q (.bl<|decide<|i<=hi) H;rw[e];exact q
  ·have e:b=false:=by lia
   rw[e] at q
   first
    |exact q
    | (rw[e2];exact q)
 obtain⟨v,lo,hi,rfl,⟨i,rfl,h1,h2,q⟩|⟨hn|⟨i,rfl,hb⟩,q⟩⟩:=h
 ·exact⟨_,rfl,_,rfl,.inl ⟨i,rfl,_,rfl,fU<|chain i lo hi true H (by lia) q⟩⟩
 ·exact⟨_,rfl,_,rfl,.inr ⟨hn,_,rfl,iy q⟩⟩
 ·exact⟨_,rfl,_,rfl,.inl ⟨i,rfl,_,rfl,fU<|chain i lo hi false H (by lia) q⟩⟩
theorem adN(h:jB vs H Q E):OP vs H Q E:=by
 obtain⟨i,lo,hi,rfl,h1,h2,q⟩:=h;exact⟨_,lo,hi,rfl,.inl ⟨i,rfl,h1,h2,q⟩⟩
end L2.B
namespace L2.N
open PySem PySem.Spec PyProof.Rows L2.B
end L2.N
namespace L2.N
open PySem PySem.Spec L2.B
theorem cJ{r:List RS}(h:aE Γ r D σ H):aE Γ [] {D with nx:=aE Γ r D} σ H:=h
section
variable {Γ:aV}{D:Ends}{σ:St}{H:Hp}{r:List RS}{Q:VK}
theorem wu(A B:VK)(Ad:∀v H1,A v H1↔B v H1)(ha:af Γ x σ H A):af Γ x σ H B:=by
 have:=funext λx=>funext λH1=>propext (Ad x H1);rw[<-this];exact ha
theorem adO(h:af Γ x σ H λv H1=>∃a,v=.ref a/\(∃xs,aB Γ.K H1 a xs)/\∃W:Nat->Nat->List V->Hp->Prop,(∃m,W 0 m [] H1)/\∀i m ys H2,W i m ys H2->
   ((fD Γ.K a).stop i H2/\∀p,H2 p=none->Q (.ref p) (upd H2 p<|.lst ys))\/
   ((fD Γ.K a).go i H2/\∀x H3,(fD Γ.K a).fM i H2 x H3->jk Γ.K none x H3 λzs=>kx none (zs.map some++cC σ fv) H3 λb H5=>
    if b=true then af Γ.calm elt (zs.map some++cC σ fv) H5 λy H6=>ys.length<sizeLine/\∃m',m'<m/\W (i+1) m' (ys++[y]) H6 else ∃m',m'<m/\W (i+1) m' ys H5)):af Γ (.comp none fv .list [x] none elt) σ H Q:=wu _ _ (λ_ _=>Iff.rfl) h
theorem Ae(C:Addr)(sp:Sp)(hm:Γ.ms j=(C,sp))(h:af Γ o σ H λx H1=>∃p dx fs,x=.ref p/\H1 p=some (.ins C dx fs)/\fs.lookup m=none/\af Γ a σ H1 λy H2=>af Γ b σ H2 λz H3=>sp [x,y,z] H3 Q Γ.E):af Γ (.aR j m o [a,b]) σ H Q:=by
 show mJ (Γ.ms j).1 m (Γ.ms j).2 [] Γ.E (af Γ o) (bw Γ [a,b]) σ H Q;rw[hm];exact h
theorem i_(h:af Γ x σ H λv H1=>qi Γ.K v H1 λn=>Q (.int n) H1):af Γ (.blt .len [x]) σ H Q:=h
variable {QT:Bool->Hp->Prop}
theorem OQ(C:Addr)(sp:Sp)(hm:Γ.kt j=(C,sp))(h:af Γ a σ H λy H0=>af Γ b σ H0 λz H1=>∀x dx,H1 x=none->H1 dx=none->dx≠x->sp [.ref x,y,z] (upd (upd H1 dx<|.own x) x<|.ins C dx []) (λv H2=>v=.au/\Q (.ref x) H2) Γ.E):af Γ (.make j [a,b]) σ H Q:=by
 show yf (Γ.kt j).1 (Γ.kt j).2 [] Γ.E (bw Γ [a,b]) σ H Q;rw[hm];exact h
theorem dm{f:Str}(h:af Γ e σ H λv H1=>af Γ o σ H1 λx H2=>∃a C dx fs,x=.ref a/\H2 a=some (.ins C dx fs)/\eP Γ.K C/\d0 Γ.K C f/\fs.length<1000/\aE Γ r D σ (upd H2 a<|.ins C dx<|aI f v fs)):aE Γ (.bT o f e::r) D σ H:=h
end
theorem Af{r:List RS}{x:RE}(h:af Γ x σ H λv H1=>∃a,v=.ref a/\(∃xs,aB Γ.K H1 a xs)/\∃W:Nat->Nat->St->Hp->Prop,(∃m,W 0 m σ H1)/\∀j m σ H,W j m σ H->
  ((fD Γ.K a).stop j H/\({D with nx:=aE Γ r D}:Ends).nx σ H)\/((fD Γ.K a).go j H/\∃N:St->Hp->Prop,(∀σ' H',N σ' H'->∃m',m'<m/\W (j+1) m' σ' H')/\∀x H',(fD Γ.K a).fM j H x H'->fB i x σ H' λσ2 H2=>aE Γ body {({D with nx:=aE Γ r D}:Ends) with nx:=N,ct:=N,bk:=({D with nx:=aE Γ r D}:Ends).nx} σ2 H2)):
  aE Γ (.iA i .list [x] body::r) D σ H:=wu _ _ (λ_ _=>Iff.rfl) h
theorem adP{n:Int}(h:Run l (.keep n::ps) r):∃a l' r',l=a++l'/\r=a++r'/\n=a.length/\Run l' ps r':=by
 cases h with|keep e h=>exact⟨_,_,_,rfl,rfl,e,h⟩
theorem adQ(h:Run l (.put s::ps) r):∃r',r=s.cps.toList++r'/\Run l ps r':=by
 cases h with|put h=>exact⟨_,rfl,h⟩
theorem adR(h:Run l (.cut s::ps) r):∃l',l=s.cps.toList++l'/\Run l' ps r:=by
 cases h with|cut h=>exact⟨_,rfl,h⟩
section
variable {Γ:aV}{D:Ends}{σ:St}{H:Hp}{r:List RS}{Q:VK}
theorem rq{i:Int}(h:Q (.int<|-i) H):af Γ (.neg<|.c<|.int i) σ H Q:=h
theorem OR{e:RE}(h:af Γ e σ H λv H1=>af Γ o σ H1 λx H2=>af Γ ix σ H2 λy H3=>yn x y v H3 λH4=>aE Γ r D σ H4):aE Γ (.set o ix e::r) D σ H:=h
theorem OS{x:RE}(h:af Γ x σ H λv H1=>∃a,v=.ref a/\(∃xs,aB Γ.K H1 a xs)/\∃W:Nat->Nat->St->Hp->Prop,(∃m,W 0 m σ H1)/\∀j m σ H,W j m σ H->
  ((fD Γ.K a).stop j H/\({D with nx:=aE Γ r D}:Ends).nx σ H)\/((fD Γ.K a).go j H/\∃N:St->Hp->Prop,(∀σ' H',N σ' H'->∃m',m'<m/\W (j+1) m' σ' H')/\∀x H',(fD Γ.K a).fM j H x H'->qv Γ.K is.length (oG is) x σ H' λσ2 H2=>aE Γ body {({D with nx:=aE Γ r D}:Ends) with nx:=N,ct:=N,bk:=({D with nx:=aE Γ r D}:Ends).nx} σ2 H2)):
  aE Γ (.lO is .list [x] body::r) D σ H:=wu _ _ (λ_ _=>Iff.rfl) h
end
theorem Es(h:ba p):jw p:=by
 cases p with
 |keep n=>trivial
 |put s=>exact h.1.2
 |cut s=>exact h.1.2
section
variable {Γ:aV}{D:Ends}{σ:St}{H:Hp}{r:List RS}{Q:VK}
theorem OT{lo hi:RE}(h:af Γ a σ H λx H1=>af Γ lo σ H1 λi H2=>∃i':Int,i=.int i'/\af Γ hi σ H2 λj H3=>∃j':Int,j=.int j'/\sN Γ.K x (some i') (some j') H3 Q):af Γ (.sl a (some lo)<|some hi) σ H Q:=h
theorem adS(h:af Γ x σ H λv H1=>∃n:Int,[v]=[.int n]/\ -(2 ^ 62)<=n/\n<2 ^ 62/\∃W:Nat->Nat->St->Hp->Prop,(∃m,W 0 m σ H1)/\∀j m σ H,W j m σ H->
  ((dy 0 n.toNat).stop j H/\({D with nx:=aE Γ r D}:Ends).nx σ H)\/((dy 0 n.toNat).go j H/\∃N:St->Hp->Prop,(∀σ' H',N σ' H'->∃m',m'<m/\W (j+1) m' σ' H')/\∀x H',(dy 0 n.toNat).fM j H x H'->fB i x σ H' λσ2 H2=>aE Γ body {({D with nx:=aE Γ r D}:Ends) with nx:=N,ct:=N,bk:=({D with nx:=aE Γ r D}:Ends).nx} σ2 H2)):
  aE Γ (.iA i .fA [x] body::r) D σ H:=wu _ _ (λ_ _=>Iff.rfl) h
end
theorem wx{K:Frag}{i j:Int}(h:Q (.int<|i - j) H):iV K .Sub (.int i) (.int j) H Q:=⟨trivial,h⟩
theorem leI{K:Frag}{x y:Int}(q:Q (.bl<|decide<|x<=y) H):cN K .LtE (.int x) (.int y) H Q:=⟨trivial,q⟩
theorem ltI{K:Frag}{x y:Int}(q:Q (.bl<|decide<|x<y) H):cN K .Lt (.int x) (.int y) H Q:=⟨trivial,q⟩
theorem OU(h:a_ Γ t σ H λc H1=>if c=true then af Γ a σ H1 Q else af Γ b σ H1 Q):af Γ (.jm t a b) σ H Q:=h
section
variable {K:Frag}{H:Hp}{Q:VK}{Γ:aV}{σ:St}{D:Ends}
theorem uc{r:List RE}(h:af Γ a σ H λx H1=>∃c,x=.bl c/\if c=true then af Γ (.and (b::r)) σ H1 Q else Q (.bl false) H1):af Γ (.and (a::b::r)) σ H Q:=h
theorem Et(h:af Γ a σ H Q):af Γ (.and [a]) σ H Q:=h
theorem OV(h:af Γ a σ H λx H1=>∃c,x=.bl c/\if c=true then Q (.bl true) H1 else af Γ b σ H1 Q):af Γ (.or [a,b]) σ H Q:=h
theorem adU{b d:RE}(h:af Γ a σ H λx H1=>af Γ b σ H1 λy H2=>cN Γ.K op x y H2 λz H3=>∃k,z=.bl k/\(if k=true then af Γ d σ H3 λw H4=>cN Γ.K cM y w H4 Q else Q (.bl false) H3)):af Γ (.lN op cM a b d) σ H Q:=h
theorem adV{b d:RE}{QT:Bool->Hp->Prop}(h:af Γ (.lN op cM a b d) σ H λz H3=>∃k,z=.bl k/\QT k H3):a_ Γ (.lN op cM a b d) σ H QT:=h
end
end L2.N
namespace L2.OW
open PySem PySem.W PyProof.Rows
section
variable {n:Nat}{lt:Nat->Nat->Bool}{p:Array Nat}
variable {cmp:Nat->Nat->(Bool->Shared->Prop)->Shared->Prop}{R:Shared->Prop}
end
end L2.OW
namespace L2
open PySem PySem.Spec PyProof.Rows PySem.W L2.OW
end L2
namespace L2
end L2
namespace L2.B
end L2.B
namespace L2.N
open PySem PySem.Spec L2.B
theorem OX(h:af Γ a σ H λx H1=>af Γ hi σ H1 λj H3=>∃j':Int,j=.int j'/\sN Γ.K x none (some j') H3 Q):af Γ (.sl a none<|some hi) σ H Q:=h
theorem adW(xs:List V)(n:Nat):gw xs none (some (n:Int))=xs.take n:=by
 unfold gw;rw[HT.Bx,HT.mK];rw[zbo,Nat.sub_zero];by_cases h:n<=xs.length
 ·rw[Nat.min_eq_left h]
 ·rw[Nat.min_eq_right (by lia),zaG<|zqR _,zaG (by lia)]
section
variable {K:Frag}
end
theorem wy{R:α->β->Prop}:∀{xs:List α}{ys:List β}{i:Nat}{x:α},Paired R xs ys->xs[i]?=some x->∃y,ys[i]?=some y/\R x y
 |[],[],i,x,.nil,h=>by simp at h
 |x::xs,y::ys,0,w,.cons a r,h=>by cases h;exact⟨y,rfl,a⟩
 |x::xs,y::ys,i+1,w,.cons a r,h=>wy (i:=i) r (by simpa using h)
theorem wz{α:Type}{l:List α}{i:Nat}{x:α}(h:l[i]?=some x):l.take (i+1)=l.take i++[x]:=by
 rw[List.take_succ_eq_append_getElem ((zad.mp h).1),(zad.mp h).2]
section
variable {K:Frag}
end
end L2.N
namespace L2.B
end L2.B
namespace L2.N
open PySem PySem.Spec L2.B
section
variable {K:Frag}
end
end L2.N
namespace L2
end L2
namespace L2.N
open PySem PySem.Spec L2.B
section
variable {Γ:aV}{σ:St}{n:Nat}{H0:Hp}
theorem OY{lo:RE}(h:af Γ a σ H λx H1=>af Γ lo σ H1 λj H3=>∃j':Int,j=.int j'/\sN Γ.K x (some j') none H3 Q):af Γ (.sl a (some lo) none) σ H Q:=h
theorem adX(xs:List V)(i:Nat):gw xs (some (i:Int)) none=xs.drop i:=by
 unfold gw;rw[HT.mK,HT.Bx];by_cases z:i<=xs.length
 ·rw[Nat.min_eq_left z,zaG (by simp)]
 ·rw[Nat.min_eq_right (by lia),zbQ<|zqR _,zbQ (by lia),zbt]
end
theorem OZ{R:α->β->Prop}:∀{xs:List α}{ys:List β} (k:Nat),Paired R xs ys->Paired R (xs.take k) (ys.take k)
 |[],[],k,.nil=>by rw[zbt,zbt];exact .nil
 |_::_,_::_,0,.cons _ _=>.nil
 |_::_,_::_,k+1,.cons a r=>.cons a (OZ k r)
theorem O0{R:α->β->Prop}:∀{xs:List α}{ys:List β} (k:Nat),Paired R xs ys->Paired R (xs.drop k) (ys.drop k)
 |[],[],k,.nil=>by rw[List.drop_nil,List.drop_nil];exact .nil
 |_::_,_::_,0,.cons a r=>.cons a r
 |_::_,_::_,k+1,.cons _ r=>O0 k r
end L2.N
namespace L2.B
theorem O2(h:s≠""):1<=s.length:=by
 obtain⟨c,r,e⟩:=i6 h;rw[len_list,e];simp
theorem Ew:∀(ps:List Pt) (w:Str),chainOk w ps=true->(∀p∈ps,ba p)->ps.length<=2*aA ps+1/\(w="keep"->ps.length<=2*aA ps)
 |[],w,_,_=>⟨zqZ _,λ_=>zqZ _⟩
 |p::ps,w,hc,ho=>by
  simp only[chainOk,zae] at hc
  have hp:=ho p (.head _);obtain⟨i1,i2⟩:=Ew ps p.word hc.2 λq hq=>ho q (.tail _ hq);have et:aA (p::ps)=dt p+aA ps:=rfl
  rw[zaw];cases p with
  |keep n=>
   have:=i2 rfl;exact⟨by lia,λz=>absurd z<|NG hc.1⟩
  |put s=>have h1:1<=dt (.put s):=O2 hp.2;exact⟨by lia,λ_=>by lia⟩
  |cut s=>have h1:1<=dt (.cut s):=O2 hp.2;exact⟨by lia,λ_=>by lia⟩
end L2.B
namespace L2
end L2
namespace L2.B
end L2.B
namespace L2.N
end L2.N
namespace L2.N
open PySem PySem.Spec L2.B
end L2.N
namespace L2
end L2
namespace L2.N
open PySem PySem.Spec L2.B
end L2.N
namespace L2.B
end L2.B
namespace L2.N
open PySem PySem.Spec L2.B
end L2.N
namespace L2.B
end L2.B
namespace L2.N
open PySem PySem.Spec L2.B
section
variable {K:Frag}
theorem adY{z:Int}{k:Bool->Prop}(q:k (T==.int)):cb T (.int z) H k:=q
end
end L2.N
namespace L2.B
inductive O3 (vs:List V)(H:Hp)(Q:VK)(E:XK):Prop|i(c:Int)(x:Str)(m:Int)(_:vs=[.int c,.str x,.int m])(_:good x)(_:x.length<=16000)(_:0<=m)(_:m<=100)(_:∀b H' ys ps q,aC H H'->H b=none->H' b=some (.lst ys)->aG H' ys ps->(∀p∈ps,eW p)->ps.length<=101->aA ps<=40*m.toNat->Run x.cps.toList ps q->Q (.ref b) H')
theorem adZ{K:Frag}(vs:List V)(H:Hp)(Q:VK)(E:XK)(h:O3 vs H Q E):aE (aN K abK [] (E:=E)) JM {nx:=λ_ H'=>Q .au H',rt:=Q} (start CU vs) H:=by
 obtain⟨c,x,m,rfl,hx,D2,zF,DQ,k⟩:=h;refine⟨zqZ _,λb hb=>?_⟩;refine⟨_,rfl,m,rfl,by lia,by lia,Bq (lo:=0) (n:=m.toNat) (λi σ H2=>∃u v w z ys ps l1 l2 q,σ=[some (.int c),some (.str x),some (.int m),some (.ref b),some (.int ((l1.length:Nat):Int)),u,v,w,z]/\aC H H2/\H2 b=some (.lst ys)/\aG H2 ys ps/\ps.length=i/\(∀p∈ps,eW p)/\
   aA ps<=40*i/\x.cps.toList=l1++l2/\Run l1 ps q)
  ⟨none,none,none,none,[],[],[],x.cps.toList,[],rfl,sameNew hb,ay,.nil,rfl,(λp hp=>by cases hp),zqR _,rfl,.nil⟩ ?_ ?_⟩
 ·rintro i σ H2 hi ⟨u,v,w,z,ys,ps,l1,l2,q,rfl,s2,wA,cv,hl,aF,ht,ex,dU⟩;have hlen:=Paired.length cv;have hxx:x.length=l1.length+l2.length:=by rw[len_list,ex];simp
  refine⟨_,rfl,_,rfl,c,_,rfl,?_⟩;generalize mixed c (50+(0+(i:Int)))=nm;refine⟨Ri,λt1 fG=>?_⟩;have j0:0<=nm / 4 % 6:=zaI _ (by decide)
  have j1:nm / 4 % 6<6:=zaJ _ (by decide)
  obtain⟨n5,e5,n50,n51⟩:=abJ (nm / 4 % 6) j0 j1;refine⟨_,rfl,⟨by decide,by decide⟩,(by show(0:Int) <6;decide),.inl ⟨_,_,_,_,rfl,rfl,aB.of ay,e5,?_⟩⟩
  have s3:aC H (upd H2 t1<|.lst [.int 1,.int 2,.int 0,.int 3,.int 5,.int 40]):=s2.trans (sameNew fG);have rz:upd H2 t1 (.lst [.int 1,.int 2,.int 0,.int 3,.int 5,.int 40]) b=some (.lst ys):=by rw[az<|aM wA fG];exact wA
  have tJ:=cv.mono (bM<|sameNew (o:=.lst [.int 1,.int 2,.int 0,.int 3,.int 5,.int 40]) fG);generalize upd H2 t1 (.lst [.int 1,.int 2,.int 0,.int 3,.int 5,.int 40])=H3 at s3 rz tJ;refine⟨_,rfl,_,rfl,cP (by lia),_,rfl,trivial,?_⟩
  obtain⟨lf,O4⟩:∃lf,lf=(if (x.length:Int) - (l1.length:Int) <n5 then (x.length:Int) - (l1.length:Int) else n5):=⟨_,rfl⟩
  have lf0:0<=lf/\lf<=40/\lf<= (l2.length:Int):=by
   rw[O4];split<;>lia
  show aE _ _ _ [some<|V.int c,some<|V.str x,some<|V.int m,some<|V.ref b,some<|V.int ((l1.length:Nat):Int),some<|V.int<|0+(i:Int),some<|V.int nm,some<|V.int n5,some<|V.int (if (x.length:Int) - (l1.length:Int) <n5 then (x.length:Int) - (l1.length:Int) else n5)] H3
  rw[<-O4];obtain⟨la,lb,e2,Ex⟩:∃la lb,l2=la++lb/\lf=(la.length:Int):=⟨l2.take lf.toNat,l2.drop lf.toNat,(zbG _ _).symm,by rw[zaB];lia⟩
  have app:∀(p:Pt) (H4:Hp),aC H H4->H4 b=some (.lst ys)->aG H4 ys ps->∀t,H4 t=none->
    upd H4 t (.tup [.str p.word,p.val]) b=some (.lst ys)/\ys.length<sizeLine/\
     aC H (upd (upd H4 t<|.tup [.str p.word,p.val]) b<|.lst<|ys++[.ref t])/\aG (upd (upd H4 t<|.tup [.str p.word,p.val]) b<|.lst<|ys++[.ref t]) (ys++[.ref t]) (ps++[p]):=by
   intro p H4 s4 Ey ad3 t ht;have Ag:b≠t:=aM Ey ht;refine⟨(by rw[az Ag];exact Ey),dg (by lia),m5 s4 hb<|sameBut (sameNew ht) aW.upd,?_⟩
   refine aG.snoc (ad3.mono<|(sameBut (sameNew ht) aW.upd).dD Ey) ⟨t,rfl,?_⟩;rw[az Ag.symm,ay]
  have O5:∀p,eW p->∀q∈ps++[p],eW q:=by
   intro p hp q hq;rcases zab.mp hq with z|z
   ·exact aF q z
   ·rw[zag.mp z];exact hp
  have sgl:∀c∈la,SG.cps.contains c=true:=λc hc=>hx.2 c (by rw[ex,e2];simp[hc])
  refine⟨_,rfl,(by show(0:Int) <4;decide),_,rfl,?_⟩
  refine fV (λh=>?_)<|λh=>?_
  ·have h3:nm % 4=3:=by
    have:=of_decide_eq_true (show decide (V.int (nm % 4)=V.int 3)=true from by rw[<-zaH (decide _)];exact h)
    injection this
   refine⟨_,rfl,.inl ⟨rfl,_,aB.of rz⟩,_,rfl,_,rfl,nm,n5,rfl,n50,by lia,λy H5 gy ly s5=>⟨e7,λt jC=>?_⟩⟩
   obtain⟨a1,a2,a3,a4⟩:=app (.put y) H5 (s3.trans s5) (s5 _ _ rz) (tJ.mono<|bM s5) t jC;refine⟨ys,a1,a2,?_⟩;refine⟨_,rfl,(by show(0:Int) <4;decide),trivial,_,rfl,iF ?_<|zqF (by lia)⟩
   have hr:=dU.app (Run.put (s:=y) Run.nil);rw[zaa,zaa] at hr;refine⟨_,_,_,_,ys++[V.ref t],ps++[Pt.put y],l1,l2,_,rfl,a3,ay,a4,by simp[hl],O5 _ ⟨gy,by lia⟩,?_,ex,hr⟩
   rw[DH];show aA ps+(y.length+0)<=_;lia
  ·have h3:nm % 4≠3:=λz=>h (by show(false ^^ decide (V.int (nm % 4)=V.int 3))=true;rw[z];rfl)
   have h4:nm % 4<3:=by have:=zaJ nm (show(0:Int) <4 by decide);lia
   have fin:∀(p:Pt) (H5:Hp) (c8:List V) (q':List Nat),aC H H5->H5 b=some (.lst c8)->aG H5 c8 (ps++[p])->eW p->dt p<=40->Run (l1++la) (ps++[p]) q'->
     ∃u v w z ys ps kP l2 q,[some<|V.int c,some<|V.str x,some<|V.int m,some<|V.ref b,some<|V.int<|(l1.length:Int)+lf,some<|V.int<|0+(i:Int),some<|V.int nm,some<|V.int n5,some<|V.int lf]=
      [some<|.int c,some<|.str x,some<|.int m,some<|.ref b,some<|.int ((kP.length:Nat):Int),u,v,w,z]/\aC H H5/\H5 b=some (.lst ys)/\aG H5 ys ps/\ps.length=i+1/\(∀p∈ps,eW p)/\
      aA ps<=40* (i+1)/\x.cps.toList=kP++l2/\Run kP ps q:=by
    intro p H5 c8 q' s5 h5 wB rp tp hr;refine⟨some<|.int<|0+(i:Int),some<|.int nm,some<|.int n5,some<|.int lf,c8,ps++[p],l1++la,lb,q',?_,s5,h5,wB,by simp[hl],O5 p rp,?_,by rw[ex,e2];simp,hr⟩
    ·rw[zqA,Ex,zaP]
    ·rw[DH];have:aA [p]=dt p:=by simp[aA]
     lia
   refine⟨_,rfl,(by show(0:Int) <4;decide),_,rfl,?_⟩
   refine fV (λh5=>?_)<|λh5=>?_
   ·refine⟨_,rfl,.inl ⟨rfl,_,aB.of rz⟩,_,rfl,_,rfl,_,rfl,_,rfl,_,rfl,_,rfl,cP (by lia),?_⟩
    rw[zA (by rw[ex,e2]) lf Ex]
    refine⟨e7,λt jC=>?_⟩;obtain⟨a1,a2,a3,a4⟩:=app (.cut ⟨la.toArray⟩) H3 s3 rz tJ t jC;refine⟨ys,a1,a2,?_⟩;refine⟨_,rfl,(by show(0:Int) <4;decide),trivial,_,rfl,iT ?_<|zqT h4⟩
    refine⟨_,rfl,_,rfl,?_⟩;have hr:=dU.app (Run.cut (s:=⟨la.toArray⟩) Run.nil);rw[zaa] at hr;have ll:(⟨la.toArray⟩:Str).length=la.length:=by rw[len_list]
    exact fin (.cut ⟨la.toArray⟩) _ _ _ a3 ay a4 ⟨⟨by rw[ll];lia,sgl⟩,by rw[ll];lia⟩ (by show(⟨la.toArray⟩:Str).length<=40;rw[ll];lia) hr
   ·refine⟨_,rfl,.inl ⟨rfl,_,aB.of rz⟩,_,rfl,e7,λt jC=>?_⟩;obtain⟨a1,a2,a3,a4⟩:=app (.keep lf) H3 s3 rz tJ t jC;refine⟨ys,a1,a2,?_⟩;refine⟨_,rfl,(by show(0:Int) <4;decide),trivial,_,rfl,iT ?_<|zqT h4⟩
    refine⟨_,rfl,_,rfl,?_⟩;have hr:=dU.app (Run.keep (a:=la) Ex Run.nil);rw[zaa] at hr;exact fin (.keep lf) _ _ _ a3 ay a4 lf0.1 (by show 0<=40;decide) hr
 ·rintro σ H2 ⟨u,v,w,z,ys,ps,l1,l2,q,rfl,s2,wA,cv,hl,aF,ht,ex,dU⟩;have hlen:=Paired.length cv;have hxx:x.length=l1.length+l2.length:=by rw[len_list,ex];simp
  refine⟨_,rfl,_,rfl,cP (by lia),_,rfl,trivial,e7,λt jC=>⟨jH,λd hd=>?_⟩⟩
  have Ag:b≠t:=aM wA jC;have tX:upd H2 t (.tup [.str "keep",.int<|(x.length:Int) - (l1.length:Int)]) b=some (.lst ys):=by rw[az Ag];exact wA
  have vq:b≠d:=aM tX hd;have O6:t≠d:=λz=>by rw[<-z,ay] at hd;cases hd
  have s4:aC H2 (upd (upd H2 t<|.tup [.str "keep",.int<|(x.length:Int) - (l1.length:Int)]) d<|.lst [.ref t]):=(sameNew jC).trans (sameNew hd);refine .inl ⟨b,d,ys,[.ref t],rfl,rfl,(by rw[az vq];exact tX),ay,cP (by simp;lia),λe he=>?_⟩
  have s5:=s4.trans (sameNew (o:=.lst (ys++[.ref t])) he);have nI:H2 e=none:=s4.free he;have hr:=dU.app (Run.keep (a:=l2) (n:=(x.length:Int) - (l1.length:Int)) (by lia) Run.nil)
  rw[zaa,<-ex] at hr;have hte:t≠e:=λz=>by rw[<-z,az O6,ay] at he;cases he
  refine k e _ (ys++[.ref t]) (ps++[.keep<|(x.length:Int) - (l1.length:Int)]) _ (s2.trans s5) (s2.free nI) ay (aG.snoc (cv.mono<|bM s5) ⟨t,rfl,?_⟩) ?_ (by simp;lia) ?_ hr
  ·rw[az hte,az O6,ay];rfl
  ·intro p hp;rcases zab.mp hp with z|z
   ·exact aF p z
   ·rw[zag.mp z];show(0:Int)<=_;lia
  ·rw[DH];show aA ps+(0+0)<=40*m.toNat;lia
abbrev ad6:List (Str×Sp):=[("_law_neat",M4),("_law_parts",O3)]
inductive Ez (vs:List V)(H:Hp)(Q:VK)(E:XK):Prop|i(c:Int)(x:Str)(m:Int)(_:vs=[.int c,.str x,.int m])(_:good x)(_:x.length<=16000)(_:0<=m)(_:m<=100)(_:∀b H' ys ps q,aC H H'->H b=none->H' b=some (.lst ys)->aG H' ys ps->(∀p∈ps,ba p)->chainOk "" ps=true->ps.length<=305->aA ps<=40*m.toNat->Run x.cps.toList ps q->Q (.ref b) H')
theorem ad7{K:Frag}(vs:List V)(H:Hp)(Q:VK)(E:XK)(h:Ez vs H Q E):aE (aN K ad6 [] (E:=E)) JQ {nx:=λ_ H'=>Q .au H',rt:=Q} (start JP vs) H:=by
 obtain⟨c,x,m,rfl,hx,D2,zF,DQ,k⟩:=h;refine⟨_,rfl,_,rfl,_,rfl,c,x,m,rfl,hx,D2,zF,DQ,λb H1 ys ps q s1 fb h1 hp hr hl ht dU=>⟨b,ys,ps,rfl,h1,hp,by lia,by lia,λd H2 zs s2 fd h2 hz=>?_⟩⟩
 obtain⟨g1,g2,_⟩:=oZ ps hr (by lia)
 have BI:=zw ps;rw[vO ps hr] at BI;exact k d H2 zs (i5 ps) q (s1.trans s2) (s1.free fd) h2 hz g2 g1 (by lia) (by rw[tO ps hr];exact ht)<|tN dU
end L2.B
namespace L2.fZ
open PySem PySem.Spec L2.B L2.N
def rA(c:Nat):List (List Nat)->List (List Nat)
 |[]=>[[c]]
 |p::ps=>(c::p)::ps
def gp:List At->List (List Nat)×List (Option Nat)
 |[]=>([[]],[])
 |.P c::xs=>(rA c (gp xs).1,(gp xs).2)
 |.K::xs=>([]::(gp xs).1,none::(gp xs).2)
 |.C c::xs=>([]::(gp xs).1,some c::(gp xs).2)
theorem rB:∀xs:List At,∃p ps,(gp xs).1=p::ps
 |[]=>⟨_,_,rfl⟩
 |.P c::xs=>by
  obtain⟨p,ps,e⟩:=rB xs;exact⟨c::p,ps,by show rA c (gp xs).1=_;rw[e];rfl⟩
 |.K::xs=>⟨_,_,rfl⟩
 |.C c::xs=>⟨_,_,rfl⟩
def EA:Option (Option Nat)->Option (Option Nat)->List At
 |some none,some none=>[.K]
 |some none,some (some c)=>[.C c]
 |_,_=>[]
def ud(m p:List Nat)(a b:Option (Option Nat)):List At:=rK m.length++(p.map .P++EA a b)
def mg:List (List Nat)->List (List Nat)->List (Option Nat)->List (Option Nat)->List At
 |m::ms,p::ps,cs,ls=>ud m p cs.head? ls.head?++mg ms ps cs.tail ls.tail
 |_,_,_,_=>[]
theorem ad8{c:Nat}{p:List (List Nat)}{ms:List (List Nat)}{cs ls:List (Option Nat)}(hm:ms≠ [])(hp:p≠ []):mg (rA c ms) p cs ls=.K::mg ms p cs ls:=by
 match ms,p,hm,hp with
 |m::ms,p::ps,_,_=>
  rfl
theorem O7{xs ys os:List At}(h:dj xs ys os ts):ts=mg (gp xs).1 (gp ys).1 (gp xs).2 (gp ys).2:=by
 induction h with
 |nil=>rfl
 | @p1 c xs ys os ts _ ih=>
  obtain⟨p,ps,e⟩:=rB xs;obtain⟨q,qs,e'⟩:=rB ys;show _=mg (rA c (gp xs).1) (gp ys).1 (gp xs).2 (gp ys).2;rw[ad8 (by lia) (by lia),<-ih]
 | @p2 c xs ys os ts hn _ ih=>
  obtain⟨q,qs,e'⟩:=rB ys;obtain⟨ms,e⟩:∃ms,(gp xs).1=[]::ms:=by
   cases xs with
   |nil=>exact⟨_,rfl⟩
   |cons a xs=>
    cases a with
    |P d=>exact absurd rfl (hn d xs)
    |K=>exact⟨_,rfl⟩
    |C d=>exact⟨_,rfl⟩
  show _=mg (gp xs).1 (rA c (gp ys).1) (gp xs).2 (gp ys).2;rw[ih,e,e'];rfl
 |kk _ ih=>rw[ih];rfl
 |kc _ ih=>rw[ih];rfl
 |ck _ ih=>rw[ih];rfl
 |cc _ ih=>rw[ih];rfl
def rC:Option (Option Nat)->Option (Option Nat)->List Pt
 |some none,some none=>[.keep 1]
 |some none,some (some c)=>[.cut ⟨#[c]⟩]
 |_,_=>[]
def wC(m p:List Nat)(a b:Option (Option Nat)):List Pt:=[.keep (m.length:Nat),.put ⟨p.toArray⟩]++rC a b
def ue:List (List Nat)->List (List Nat)->List (Option Nat)->List (Option Nat)->List Pt
 |m::ms,p::ps,cs,ls=>wC m p cs.head? ls.head?++ue ms ps cs.tail ls.tail
 |_,_,_,_=>[]
theorem O8(a b:Option (Option Nat)):av (rC a b)=EA a b:=by
 cases a with
 |none=>rfl
 |some a=>
  cases a with
  |some c=>rfl
  |none=>
   cases b with
   |none=>rfl
   |some b=>cases b<;>rfl
theorem ad9(m p:List Nat)(a b:Option (Option Nat)):av (wC m p a b)=ud m p a b:=by
 unfold wC ud;rw[eY,O8,<-zaj]
 congr 1
 show rK (m.length:Int).toNat++(((⟨p.toArray⟩:Str).cps.toList.map At.P)++[])=_;rw[zaa,zaD]
theorem EB:∀(ms ps:List (List Nat)) (cs ls:List (Option Nat)),av (ue ms ps cs ls)=mg ms ps cs ls
 |[],_,_,_=>rfl
 |_::_,[],_,_=>rfl
 |m::ms,p::ps,cs,ls=>by
  show av (wC m p cs.head? ls.head?++ue ms ps cs.tail ls.tail)=_;rw[eY,ad9,EB ms ps];rfl
theorem Ah{xs ys os:List At}(h:dj xs ys os ts):∀a:At,a≠ .K->a∈ts->a∈ys:=by
 induction h with
 |nil=>exact λa _ h=>h
 |p1 _ ih=>
  intro a n h;rcases zac.mp h with h|h
  ·exact absurd h n
  ·exact ih a n h
 |p2 _ _ ih=>
  intro a n h;rcases zac.mp h with h|h
  ·rw[h];exact .head _
  ·exact .tail _ (ih a n h)
 |kk _ ih=>
  intro a n h;rcases zac.mp h with h|h
  ·exact absurd h n
  ·exact .tail _ (ih a n h)
 |kc _ ih=>
  intro a n h;rcases zac.mp h with h|h
  ·rw[h];exact .head _
  ·exact .tail _ (ih a n h)
 |ck _ ih=>exact λa n h=>.tail _ (ih a n h)
 |cc _ ih=>exact λa n h=>.tail _ (ih a n h)
theorem O9{xs ys os:List At}(h:dj xs ys os ts):cnt ts<=cnt ys:=by
 induction h with
 |nil=>exact zqR _
 |p1 _ ih=>exact ih
 |p2 _ _ ih=>exact Nat.succ_le_succ ih
 |kk _ ih=>exact ih
 |kc _ ih=>exact Nat.succ_le_succ ih
 |ck _ ih=>exact ih
 |cc _ ih=>exact Nat.le_succ_of_le ih
theorem uf{a:At}(hp:p∈ps)(ha:a∈bj p):a∈av ps:=by
 exact zbH.mpr ⟨_,zbf hp,ha⟩
theorem ug(h:∀p∈ps,ba p){c:Nat}(hc: .P c∈av ps\/ .C c∈av ps):SG.cps.contains c=true:=by
 have go:∀a:At,(a=.P c\/a=.C c)->a∈av ps->SG.cps.contains c=true:=λa ea ha=>by
  obtain⟨l,hl,EC⟩:=zbH.mp ha;obtain⟨p,hp,rfl⟩:=zam.mp hl;have ok:=h p hp;cases p with
  |keep n=>
   have:=List.eq_of_mem_replicate (show a∈rK n.toNat from EC)
   rcases ea with rfl|rfl<;>cases this
  |put s=>
   obtain⟨d,hd,rfl⟩:=zam.mp (show a∈s.cps.toList.map At.P from EC)
   rcases ea with e|e<;>cases e
   exact ok.1.2 _ hd
  |cut s=>
   obtain⟨d,hd,rfl⟩:=zam.mp (show a∈s.cps.toList.map At.C from EC)
   rcases ea with e|e<;>cases e
   exact ok.1.2 _ hd
 rcases hc with hc|hc
 ·exact go _ (.inl rfl) hc
 ·exact go _ (.inr rfl) hc
theorem ED:∀(ms ps:List (List Nat)) (cs ls:List (Option Nat)) (n:Int),.keep n∈ue ms ps cs ls->0<=n
 |[],_,_,_,n,h=>by cases ‹List (List Nat)› <;>cases h
 |_::_,[],_,_,n,h=>by cases h
 |m::ms,p::ps,cs,ls,n,h=>by
  rcases zab.mp (show Pt.keep n∈wC m p cs.head? ls.head?++ue ms ps cs.tail ls.tail from h) with h|h
  ·rcases zab.mp (show Pt.keep n∈ [.keep (m.length:Nat),.put ⟨p.toArray⟩]++rC cs.head? ls.head? from h) with h|h
   ·simp only[zac,zah,or_false] at h
    rcases h with h|h
    ·cases h;lia
    ·cases h
   ·unfold rC at h
    split at h
    ·simp at h;cases h;decide
    ·simp only[zac,zah,or_false] at h;cases h
    ·cases h
  ·exact ED ms ps _ _ n h
abbrev eZ(one other:List Pt):List Pt:=ue (gp<|av one).1 (gp<|av other).1 (gp<|av one).2 (gp<|av other).2
theorem O_{n:List Nat}(h2:∀p∈other,ba p)(P:Passed one other ps qs l m n)(ht:aA other<=100000):i5 (eZ one other)=qs/\aA (eZ one other)<=aA other:=by
 obtain⟨os,ts,hp,e1,e2⟩:=P.Ou;have ex:av (eZ one other)=ts:=by rw[EB,<-(O7 hp)]
 have tt:=by
  have hc:=O9 hp;rw[<-ex,kU,kU] at hc;exact hc
 have raw:∀p∈eZ one other,eW p:=λp ja=>by
  have len:∀s:Str,(p=.put s\/p=.cut s)->s.length<=aA (eZ one other):=λs hs=>by
   have:=zz ja;rcases hs with rfl|rfl<;>exact this
  have sg:∀s:Str,(p=.put s\/p=.cut s)->∀c∈s.cps.toList,SG.cps.contains c=true:=λs hs c hc=>by
   rcases hs with rfl|rfl
   ·have h1:=uf ja (zbf hc);rw[ex] at h1;exact ug h2<|.inl<|Ah hp _ (by lia) h1
   ·have h1:=uf ja (zbf hc);rw[ex] at h1;exact ug h2<|.inr<|Ah hp _ (by lia) h1
  cases p with
  |keep n=>exact ED _ _ _ _ n ja
  |put s=>have:=len s (.inl rfl);exact⟨⟨by lia,sg s<|.inl rfl⟩,by lia⟩
  |cut s=>have:=len s (.inr rfl);exact⟨⟨by lia,sg s<|.inr rfl⟩,by lia⟩
 obtain⟨k1,k2,_⟩:=oZ _ raw (by lia)
 refine⟨DP _ _ "" "" k1 P.ch2 k2 P.ok2 ?_,tt⟩;rw[<-vO _ raw,qY _ λp hp=>vR (raw p hp),ex,e2]
section
variable {K:Frag}{H H':Hp}{Q:VK}{Γ:aV}{σ:St}{i j:Int}
theorem nJ(h:0<j)(q:Q (.int<|i % j) H):iV K .Mod (.int i) (.int j) H Q:=⟨h,q⟩
theorem rD(h:Bt i j)(q:Q (.int<|i / j) H):iV K .FloorDiv (.int i) (.int j) H Q:=⟨h,q⟩
theorem Pa(h:uN i j)(q:Q (.int<|i*j) H):iV K .Mult (.int i) (.int j) H Q:=⟨h,q⟩
theorem Pb{a b:Addr}(ha:H a=some (.lst xs))(hb:H b=some (.lst ys))(hl:xs.length+ys.length<=1000000)(q:∀c,H c=none->Q (.ref c) (upd H c<|.lst<|xs++ys)):iV K .Add (.ref a) (.ref b) H Q:=
 .inl ⟨a,b,xs,ys,rfl,rfl,ha,hb,cP hl,q⟩
theorem pI(h:af Γ a σ H λx H1=>ou Γ.K .list [x] H1 Q):af Γ (.blt .list [a]) σ H Q:=h
theorem Pc(s:Str):(s==s)=true:=by simp
end
theorem uh(s:Str):(⟨s.cps.toList.toArray⟩:Str)=s:=rfl
section
variable {K:Frag}{H H':Hp}
theorem nK(q:Q (.bl<|decide<|v=.au) H):cN K .Is v .au H Q:=⟨rfl,q⟩
end
theorem mr:∀(k:Nat) (xs ys:List At) (l:List Nat),xs.length+ys.length<=k->fit l xs->fit l ys->∃os ts,dj xs ys os ts
 |k,.P c::xs,ys,l,hk,h1,h2=>by
  cases k with
  |zero=>simp at hk
  |succ k=>
   obtain⟨os,ts,h⟩:=mr k xs ys l (by simp at hk;lia) h1 h2
   exact⟨_,_,.p1 h⟩
 |k,[],ys,l,hk,h1,h2=>by
  cases ys with
  |nil=>exact⟨[],[],.nil⟩
  |cons y ys=>
   cases k with
   |zero=>simp at hk
   |succ k=>
    cases y with
    |P c=>
     obtain⟨os,ts,h⟩:=mr k [] ys l (by simp at hk⊢;lia) h1 h2
     exact⟨_,_,.p2 (λd zs z=>by cases z) h⟩
    |K=>
     cases l with
     |nil=>exact absurd h2 (by simp[fit])
     |cons a l=>exact absurd h1 (by simp[fit])
    |C c=>
     cases l with
     |nil=>exact absurd h2 (by simp[fit])
     |cons a l=>exact absurd h1 (by simp[fit])
 |k,.K::xs,ys,l,hk,h1,h2=>by
  cases k with
  |zero=>simp at hk
  |succ k=>
   cases l with
   |nil=>exact absurd h1 (by simp[fit])
   |cons a l=>
    have gG:fit l xs:=by simpa[fit] using h1
    cases ys with
    |nil=>exact absurd h2 (by simp[fit])
    |cons y ys=>
     cases y with
     |P c=>
      obtain⟨os,ts,h⟩:=mr k (.K::xs) ys (a::l) (by simp at hk⊢;lia) h1 h2
      exact⟨_,_,.p2 (λd zs z=>by cases z) h⟩
     |K=>
      obtain⟨os,ts,h⟩:=mr k xs ys l (by simp at hk;lia) gG (by simpa[fit] using h2)
      exact⟨_,_,.kk h⟩
     |C c=>
      have q9:a=c/\fit l ys:=by simpa[fit] using h2
      obtain⟨os,ts,h⟩:=mr k xs ys l (by simp at hk;lia) gG q9.2
      exact⟨_,_,.kc h⟩
 |k,.C c::xs,ys,l,hk,h1,h2=>by
  cases k with
  |zero=>simp at hk
  |succ k=>
   cases l with
   |nil=>exact absurd h1 (by simp[fit])
   |cons a l=>
    have gG:a=c/\fit l xs:=by simpa[fit] using h1
    cases ys with
    |nil=>exact absurd h2 (by simp[fit])
    |cons y ys=>
     cases y with
     |P e=>
      obtain⟨os,ts,h⟩:=mr k (.C c::xs) ys (a::l) (by simp at hk⊢;lia) h1 h2
      exact⟨_,_,.p2 (λd zs z=>by cases z) h⟩
     |K=>
      obtain⟨os,ts,h⟩:=mr k xs ys l (by simp at hk;lia) gG.2 (by simpa[fit] using h2)
      exact⟨_,_,.ck h⟩
     |C e=>
      have q9:a=e/\fit l ys:=by simpa[fit] using h2
      obtain⟨os,ts,h⟩:=mr k xs ys l (by simp at hk;lia) gG.2 q9.2
      obtain⟨e1,_⟩:=gG;obtain⟨e2,_⟩:=q9;subst e1;subst e2;exact⟨_,_,.cc h⟩
theorem EE{xs ys os:List At}(h:dj xs ys os ts):cW xs ys os ts:=by
 induction h with
 |nil=>exact .nil
 |p1 _ ih=>exact .p1 ih
 |p2 _ _ ih=>exact .p2 ih
 |kk _ ih=>exact .kk ih
 |kc _ ih=>exact .kc ih
 |ck _ ih=>exact .ck ih
 |cc _ ih=>exact .cc ih
def ip(one other:List Pt):List Pt:=i5 (eZ one other)
theorem Pd{os:List At}(h2:∀p∈other,ba p)(hp:dj (av one) (av other) os ts)(ht:aA other<=100000):av (eZ one other)=ts/\aA (eZ one other)<=aA other/\∀p∈eZ one other,eW p:=by
 have ex:av (eZ one other)=ts:=by rw[EB,<-(O7 hp)]
 have tt:=by
  have hc:=O9 hp;rw[<-ex,kU,kU] at hc;exact hc
 refine⟨ex,tt,λp ja=>?_⟩;have len:∀s:Str,(p=.put s\/p=.cut s)->s.length<=aA (eZ one other):=λs hs=>by
  have:=zz ja;rcases hs with rfl|rfl<;>exact this
 have sg:∀s:Str,(p=.put s\/p=.cut s)->∀c∈s.cps.toList,SG.cps.contains c=true:=λs hs c hc=>by
  rcases hs with rfl|rfl
  ·have h1:=uf ja (zbf hc);rw[ex] at h1;exact ug h2<|.inl<|Ah hp _ (by lia) h1
  ·have h1:=uf ja (zbf hc);rw[ex] at h1;exact ug h2<|.inr<|Ah hp _ (by lia) h1
 cases p with
 |keep n=>exact ED _ _ _ _ n ja
 |put s=>have:=len s (.inl rfl);exact⟨⟨by lia,sg s<|.inl rfl⟩,by lia⟩
 |cut s=>have:=len s (.inr rfl);exact⟨⟨by lia,sg s<|.inr rfl⟩,by lia⟩
theorem Pe{n:List Nat}(h1:bX one l m)(h2:bX other l n)(ht:aA other<=100000):(∃r,bX (ip one other) m r)/\aA (ip one other)<=aA other/\aA (eZ one other)<=aA other:=by
 obtain⟨f1,f2⟩:=h1.run.fits;obtain⟨f3,f4⟩:=h2.run.fits;obtain⟨os,ts,hp⟩:=mr _ _ _ l (zqR _) f1 f3;obtain⟨ex,tt,raw⟩:=Pd h2.ok hp ht;obtain⟨g1,_,_⟩:=(EE hp).fits l f1 f3;rw[f2,<-ex] at g1;obtain⟨k1,k2,_⟩:=oZ _ raw (by lia)
 refine⟨⟨_,k2,k1,tN<|o6 _ m (λp hp=>vR<|raw p hp) g1⟩,by unfold ip;rw[tO _ raw];exact tt,tt⟩
structure Taken (tx:List (List Nat)) (tk:List (Nat×List Pt)):Prop where
 len:tx.length=tk.length+1
 chg:∀i h ps l r,tk[i]?=some (h,ps)->tx[i]?=some l->tx[i+1]?=some r->bX ps l r/\aA ps<=5200
def Ai(cs:List (List Pt))(c:List Pt):List Pt:=cs.foldl (λc one=>ip one c) c
theorem ad_(cs:List (List Pt))(one c:List Pt):Ai (cs++[one]) c=ip one (Ai cs c):=by unfold Ai;rw[List.foldl_append];rfl
def pj(tk:List (Nat×List Pt))(at' j:Nat)(c:List Pt):List Pt:=Ai (((tk.drop at').take j).map (·.2)) c
theorem rE{at':Nat}{h:Nat}(e:tk[at'+j]?=some (h,ps)):pj tk at' (j+1) c=ip ps (pj tk at' j c):=by
 have e':(tk.drop at')[j]?=some (h,ps):=by rw[List.getElem?_drop];exact e
 unfold pj;rw[wz e',zar];exact ad_ _ _ _
theorem wD(T:Taken tx tk){at':Nat}{c:List Pt}{l n:List Nat}(hl:tx[at']?=some l)(hc:bX c l n)(ht:aA c<=5200):∀j,at'+j<=tk.length->∃m r,tx[at'+j]?=some m/\bX (pj tk at' j c) m r/\aA (pj tk at' j c)<=5200
 | 0,_=>⟨l,n,hl,hc,ht⟩
 |j+1,hj=>by
  obtain⟨m,r,h1,h2,h3⟩:=wD T hl hc ht j (by lia)
  have hk:at'+j<tk.length:=by lia
  have e:=zai hk;have hx:at'+j+1<tx.length:=by rw[T.len];lia
  have ex:=zai hx;obtain⟨h0,p0⟩:=T.chg _ _ _ _ _ e h1 ex;obtain⟨⟨r',c'⟩,t',_⟩:=Pe h0 h2 (by lia)
  refine⟨_,r',ex,?_,?_⟩
  ·rw[rE e];exact c'
  ·rw[rE e];lia
theorem Taken.snoc(T:Taken tx tk){h:Nat}{l:List Nat}(hl:tx[tk.length]?=some l)(hc:bX ps l r)(ht:aA ps<=5200):Taken (tx++[r]) (tk++[(h,ps)]):=by
 refine⟨by rw[zqA,zqA,T.len];rfl,λi h' jS l' r' e1 e2 e3=>?_⟩
 have hi:i<tk.length+1:=by have:=(zad.mp e1).1;rw[zqA] at this;exact this
 by_cases bE:i<tk.length
 ·rw[zay bE] at e1;rw[zay (by rw[T.len];lia)] at e2
  rw[zay (by rw[T.len];lia)] at e3
  exact T.chg i h' jS l' r' e1 e2 e3
 ·have jt:i=tk.length:=by lia
  subst jt;rw[zaL<|zqR _,zaK] at e1;rw[zay (by rw[T.len];lia),hl] at e2
  rw[zaL (by rw[T.len];lia),T.len,zaK] at e3
  cases e1;cases e2;cases e3;exact⟨hc,ht⟩
def wF(m p:List Nat)(a b:Option (Option Nat)):List At:=m.map .P++(rK p.length++EA b a)
def wG:List (List Nat)->List (List Nat)->List (Option Nat)->List (Option Nat)->List At
 |m::ms,p::ps,cs,ls=>wF m p cs.head? ls.head?++wG ms ps cs.tail ls.tail
 |_,_,_,_=>[]
theorem aea{xs ys os:List At}(h:dj xs ys os ts):os=wG (gp xs).1 (gp ys).1 (gp xs).2 (gp ys).2:=by
 induction h with
 |nil=>rfl
 | @p1 c xs ys os ts _ ih=>
  obtain⟨p,ps,e⟩:=rB xs;obtain⟨q,qs,e'⟩:=rB ys;show _=wG (rA c (gp xs).1) (gp ys).1 (gp xs).2 (gp ys).2;rw[ih,e,e'];rfl
 | @p2 c xs ys os ts hn _ ih=>
  obtain⟨q,qs,e'⟩:=rB ys;obtain⟨ms,e⟩:∃ms,(gp xs).1=[]::ms:=by
   cases xs with
   |nil=>exact⟨_,rfl⟩
   |cons a xs=>
    cases a with
    |P d=>exact absurd rfl (hn d xs)
    |K=>exact⟨_,rfl⟩
    |C d=>exact⟨_,rfl⟩
  show _=wG (gp xs).1 (rA c (gp ys).1) (gp xs).2 (gp ys).2;rw[ih,e,e']
  rfl
 |kk _ ih=>rw[ih];rfl
 |kc _ ih=>rw[ih];rfl
 |ck _ ih=>rw[ih];rfl
 |cc _ ih=>rw[ih];rfl
def wH(m p:List Nat)(a b:Option (Option Nat)):List Pt:=[.put ⟨m.toArray⟩,.keep (p.length:Nat)]++rC b a
def ui:List (List Nat)->List (List Nat)->List (Option Nat)->List (Option Nat)->List Pt
 |m::ms,p::ps,cs,ls=>wH m p cs.head? ls.head?++ui ms ps cs.tail ls.tail
 |_,_,_,_=>[]
theorem aeb(m p:List Nat)(a b:Option (Option Nat)):av (wH m p a b)=wF m p a b:=by
 unfold wH wF;rw[eY,O8,<-zaj]
 congr 1
 show((⟨m.toArray⟩:Str).cps.toList.map At.P)++(rK (p.length:Int).toNat++[])=_;rw[zaa,zaD]
theorem Pf:∀(ms ps:List (List Nat)) (cs ls:List (Option Nat)),av (ui ms ps cs ls)=wG ms ps cs ls
 |[],_,_,_=>rfl
 |_::_,[],_,_=>rfl
 |m::ms,p::ps,cs,ls=>by
  show av (wH m p cs.head? ls.head?++ui ms ps cs.tail ls.tail)=_;rw[eY,aeb,Pf ms ps];rfl
theorem aec{xs ys os:List At}(h:dj xs ys os ts):∀a:At,a≠ .K->a∈os->a∈xs:=by
 have k:∀{a b:At}{l l':List At},(a≠ .K->a∈l->a∈l')->a≠ .K->a∈b::l->(b=.K->a∈l')/\(b≠ .K->a∈b::l'):=λf n h=>⟨λe=>(zac.mp h).elim (λz=>absurd (z.trans e) n)<|f n,λ_=>(zac.mp h).elim (λz=>z ▸ .head _) λz=>.tail _ (f n z)⟩
 induction h with
 |nil=>exact λa _ h=>h
 |p1 _ ih=>exact λa n h=>(k (ih a) n h).2 (by lia)
 |p2 _ _ ih=>exact λa n h=>(k (ih a) n h).1 rfl
 |kk _ ih=>exact λa n h=>.tail _ ((k (ih a) n h).1 rfl)
 |kc _ ih=>exact λa n h=>.tail _ (ih a n h)
 |ck _ ih=>exact λa n h=>(k (ih a) n h).2 (by lia)
 |cc _ ih=>exact λa n h=>.tail _ (ih a n h)
theorem Pg:∀(ms ps:List (List Nat)) (cs ls:List (Option Nat)) (n:Int),.keep n∈ui ms ps cs ls->0<=n
 |[],_,_,_,n,h=>by cases ‹List (List Nat)› <;>cases h
 |_::_,[],_,_,n,h=>by cases h
 |m::ms,p::ps,cs,ls,n,h=>by
  rcases zab.mp (show Pt.keep n∈wH m p cs.head? ls.head?++ui ms ps cs.tail ls.tail from h) with h|h
  ·rcases zab.mp (show Pt.keep n∈ [.put ⟨m.toArray⟩,.keep (p.length:Nat)]++rC ls.head? cs.head? from h) with h|h
   ·simp only[zac,zah,or_false] at h
    rcases h with h|h
    ·cases h
    ·cases h;lia
   ·unfold rC at h
    split at h
    ·simp at h;cases h;decide
    ·simp only[zac,zah,or_false] at h;cases h
    ·cases h
  ·exact Pg ms ps _ _ n h
abbrev rF(one other:List Pt):List Pt:=ui (gp<|av one).1 (gp<|av other).1 (gp<|av one).2 (gp<|av other).2
theorem aed{src:List Pt}{w:List At}(hs:∀p∈src,ba p)(ex:av zs=w)(oC:∀a:At,a≠ .K->a∈w->a∈av src)(ht:aA zs<=100000)(hk:∀n,.keep n∈zs->0<=n):∀p∈zs,eW p:=λp ja=>by
 have len:∀s:Str,(p=.put s\/p=.cut s)->s.length<=aA zs:=λs hs=>by
  have:=zz ja;rcases hs with rfl|rfl<;>exact this
 have sg:∀s:Str,(p=.put s\/p=.cut s)->∀c∈s.cps.toList,SG.cps.contains c=true:=λs bR c hc=>by
  rcases bR with rfl|rfl
  ·have h1:=uf ja (zbf hc);rw[ex] at h1;exact ug hs<|.inl<|oC _ (by lia) h1
  ·have h1:=uf ja (zbf hc);rw[ex] at h1;exact ug hs<|.inr<|oC _ (by lia) h1
 cases p with
 |keep n=>exact hk n ja
 |put s=>have:=len s (.inl rfl);exact⟨⟨by lia,sg s<|.inl rfl⟩,by lia⟩
 |cut s=>have:=len s (.inr rfl);exact⟨⟨by lia,sg s<|.inr rfl⟩,by lia⟩
def rG(one other:List Pt):List Pt:=i5 (rF one other)
theorem Ph{os:List At}(h1:∀p∈one,ba p)(hp:dj (av one) (av other) os ts)(ht:aA one<=100000):av (rF one other)=os/\aA (rF one other)<=aA one/\∀p∈rF one other,eW p:=by
 have ex:av (rF one other)=os:=by rw[Pf,<-aea hp]
 have tt:=by
  have hc:=(EE hp).Ob.1;rw[<-ex,kU,kU] at hc;exact hc
 exact⟨ex,tt,aed h1 ex (aec hp) (by lia)<|Pg _ _ _ _⟩
theorem aee{n:List Nat}(h1:∀p∈one,ba p)(P:Passed one other ps qs l m n)(ht:aA one<=100000):rG one other=ps:=by
 obtain⟨os,ts,hp,e1,e2⟩:=P.Ou;obtain⟨ex,tt,raw⟩:=Ph h1 hp ht;obtain⟨k1,k2,_⟩:=oZ _ raw (by lia)
 refine DP _ _ "" "" k1 P.ch1 k2 P.ok1 ?_;unfold rG;rw[<-vO _ raw,qY _ λp hp=>vR (raw p hp),ex,e1]
theorem aef{n:List Nat}(h1:bX one l m)(h2:bX other l n)(fG:aA one<=100000)(ht:aA other<=100000):(∃r,bX (ip one other) m r/\bX (rG one other) n r)/\aA (ip one other)<=aA other/\aA (rG one other)<=aA one/\aA (eZ one other)<=aA other/\aA (rF one other)<=aA one:=by
 obtain⟨f1,f2⟩:=h1.run.fits;obtain⟨f3,f4⟩:=h2.run.fits;obtain⟨os,ts,hp⟩:=mr _ _ _ l (zqR _) f1 f3;obtain⟨ex,tt,raw⟩:=Pd h2.ok hp ht;obtain⟨bj,Pj,EF⟩:=Ph h1.ok hp fG;obtain⟨g1,g2,g3⟩:=(EE hp).fits l f1 f3;rw[f2,f4] at g3;rw[f2,<-ex] at g1;rw[f4,<-bj] at g2;obtain⟨k1,k2,_⟩:=oZ _ raw (by lia)
 obtain⟨j1,j2,_⟩:=oZ _ EF (by lia)
 refine⟨⟨out m ts,⟨k2,k1,?_⟩,⟨j2,j1,?_⟩⟩,by unfold ip;rw[tO _ raw];exact tt,by unfold rG;rw[tO _ EF];exact Pj,tt,Pj⟩
 ·have:=tN (o6 _ m (λp hp=>vR<|raw p hp) g1);rw[ex] at this;exact this
 ·have:=tN (o6 _ n (λp hp=>vR<|EF p hp) g2);rw[bj,<-g3] at this;exact this
end L2.fZ
namespace L2.B
end L2.B
namespace L2.N
open PySem PySem.Spec L2.B
section
variable {Γ:aV}{D:Ends}{σ:St}{H:Hp}{r:List RS}{Q:VK}{QT:Bool->Hp->Prop}
theorem uj{i e:RE}(h:af Γ e σ H λv H1=>af Γ o σ H1 λx H2=>af Γ i σ H2 λy H3=>∃a H4,x=.ref a/\kr H3 a y v H4/\aE Γ r D σ H4):aE Γ (.dput o i e::r) D σ H:=h
theorem fK(h:af Γ a σ H λx H1=>af Γ b σ H1 λy H2=>∃d v,x=.ref d/\eF H2 d y (some v)/\Q v H2):af Γ (.dc a b) σ H Q:=h
theorem aeg(h:af Γ a σ H λy H1=>af Γ b σ H1 λx H2=>∃d o,x=.ref d/\eF H2 d y o/\∃k,V.bl (!o.isSome)=.bl k/\QT k H2):a_ Γ (.vg a b) σ H QT:=h
variable {K:Frag}{M:List Addr}{C:Addr}{H':Hp}{p dx d:Addr}{n g:Nat}{kvs:List (Key×V)}{es:List Ent}
end
end L2.N
namespace L2.N
open PySem PySem.Spec PyProof.Rows L2.B
end L2.N
namespace L2.B
end L2.B
namespace L2.N
open PySem PySem.Spec PyProof.Rows L2.B
end L2.N
namespace L2.N
open PySem PySem.Spec L2.B
section
variable {K:Frag}{CP C CE CD:Addr}
end
theorem EG{a:Addr}{H0:Hp}(s:aC H0 H)(f:H0 a=none)(b:aW a H H'):aC H0 H':=λc o e=>b c o (s _ _ e) (aM e f)
abbrev nV(ns:List Nat):List V:=ns.map λk=>V.int (k:Nat)
section
variable {K:Frag}{M:List Addr}{C:Addr}{H H':Hp}{p dx d rw n:Nat}{rs:List Sd}
end
end L2.N
namespace L2.fZ
open PySem PySem.Spec L2.B L2.N
abbrev f6(x:Str)(kn se:Nat)(fl de ea:V):List (Str×V):=[("signs",.str x),("known",.int (kn:Nat)),("serial",.int (se:Nat)),("flying",fl),("delayed",de),("early",ea)]
section
variable {x:Str}{kn se:Nat}{fl de ea:V}
theorem Aj:(f6 x kn se fl de ea).lookup ("signs":Str)=some (.str x):=iM
theorem rH:(f6 x kn se fl de ea).lookup ("known":Str)=some (.int (kn:Nat)):=rfl
theorem EH:(f6 x kn se fl de ea).lookup ("serial":Str)=some (.int (se:Nat)):=rfl
theorem kZ:(f6 x kn se fl de ea).lookup ("flying":Str)=some fl:=rfl
theorem rJ:(f6 x kn se fl de ea).lookup ("delayed":Str)=some de:=rfl
theorem wI:(f6 x kn se fl de ea).lookup ("early":Str)=some ea:=rfl
theorem aeh:aI "early" ea (aI "delayed" de<|aI "flying" fl<|aI "serial" (.int (se:Nat))<|aI "known" (.int (kn:Nat))<|aI "signs" (.str x) [])=f6 x kn se fl de ea:=rfl
theorem EI:aI "signs" (.str y) (f6 x kn se fl de ea)=f6 y kn se fl de ea:=l_
theorem Pk:aI "known" (.int (k:Nat)) (f6 x kn se fl de ea)=f6 x k se fl de ea:=rfl
theorem Pl:aI "serial" (.int (k:Nat)) (f6 x kn se fl de ea)=f6 x kn k fl de ea:=rfl
theorem Ak:aI "flying" v (f6 x kn se fl de ea)=f6 x kn se v de ea:=rfl
theorem wJ:aI "delayed" v (f6 x kn se fl de ea)=f6 x kn se fl v ea:=rfl
theorem aei:aI "early" v (f6 x kn se fl de ea)=f6 x kn se fl de v:=rfl
end
abbrev f2(own:Nat)(st:Addr):List (Str×V):=[("number",.int (own:Nat)),("stand_now",.ref st)]
theorem Am{st:Addr}:(f2 own st).lookup ("number":Str)=some (.int (own:Nat)):=iM
theorem nN{st:Addr}:(f2 own st).lookup ("stand_now":Str)=some (.ref st):=rfl
theorem hU{st:Addr}{m:Str}(h:¬m="number"/\ ¬m="stand_now":=by decide+kernel):(f2 own st).lookup m=none:=(cL h.1).trans ((cL h.2).trans rfl)
theorem aej{st kj:Addr}:aI "stand_now" (.ref kj) (f2 own st)=f2 own kj:=rfl
abbrev MS:=Addr->Prop
structure bJ where
 f:Nat->Option (Nat×Addr×List Pt)
 nb:Nat
instance:CoeFun bJ λ_=>Nat->Option (Nat×Addr×List Pt):=⟨bJ.f⟩
def d4(M:MS)(H:Hp)(v:V)(ps:List Pt):Prop:= ∃a xs,v=.ref a/\H a=some (.lst xs)/\aG H xs ps/\ ¬M a
def cX(M:MS)(H:Hp)(v:V):Option (List Pt)->Prop
 |none=>v=.au
 |some ps=>d4 M H v ps
def bx(M:MS)(H H':Hp):Prop:= ∀b o,H b=some o-> ¬M b->H' b=some o
def gh(M:MS)(H:Hp)(o:Option V):Option (Nat×Addr×List Pt)->Prop
 |none=>o=none
 |some u=>∃t xs,o=some (.ref t)/\H t=some (.tup [.int (u.1:Nat),.ref u.2.1])/\H u.2.1=some (.lst xs)/\aG H xs u.2.2/\ ¬M u.2.1
def MS.add(M:MS)(a:Addr):MS:=λz=>z=a\/M z
def Al(M:MS)(H:Hp):Prop:= ∀z,M z->∃o,H z=some o
def MS.ea(M:MS)(ea:bJ):MS:=λz=>M z\/∃n u,ea n=some u/\u.2.1=z
structure bP (M:MS) (CS:Addr) (H:Hp) (q dq e:Addr) (x:Str) (kn se:Nat) (fl de:Option (List Pt)) (ea:bJ):Prop where
 ob:∃vf vd,H q=some (.ins CS dq<|f6 x kn se vf vd<|.ref e)/\cX (M.ea ea) H vf fl/\cX (M.ea ea) H vd de
 he:∃kvs,H e=some (.dK kvs)/\kvs.length<=ea.nb/\∀n:Nat,gh M H (c5 kvs<|.inl (n:Int)) (ea n)
 nd:∀n m u v,ea n=some u->ea m=some v->u.2.1=v.2.1->n=m
structure dG (M:MS) (C CS:Addr) (H:Hp) (p dp q dq e:Addr) (own:Nat) (x:Str) (kn se:Nat) (fl de:Option (List Pt)) (ea:bJ):Prop where
 ob:H p=some (.ins C dp<|f2 own q)
 st:bP M CS H q dq e x kn se fl de ea
section
variable {K:Frag}{M M':MS}{C CS:Addr}{H H':Hp}{p dp q dq e:Addr}{own:Nat}{x:Str}{kn se:Nat}{fl de:Option (List Pt)}{ea:bJ}
theorem d4.same(h:d4 M H v ps)(s:aC H H'):d4 M H' v ps:=by
 obtain⟨a,xs,e,h1,h2,h3⟩:=h;exact⟨a,xs,e,s _ _ h1,h2.mono<|bM s,h3⟩
theorem cX.same:∀{o:Option (List Pt)},cX M H v o->aC H H'->cX M H' v o
 |none,h,_=>h
 |some _,h,s=>d4.same h s
theorem gh.same{o:Option V}:∀{u:Option (Nat×Addr×List Pt)},gh M H o u->aC H H'->gh M H' o u
 |none,h,_=>h
 |some _,⟨t,xs,h1,h2,h3,h4,h5⟩,s=>⟨t,xs,h1,s _ _ h2,s _ _ h3,h4.mono<|bM s,h5⟩
theorem bP.same(S:bP M CS H q dq e x kn se fl de ea)(s:aC H H'):bP M CS H' q dq e x kn se fl de ea:=by
 obtain⟨vf,vd,h1,h2,h3⟩:=S.ob;obtain⟨kvs,k1,k3,k2⟩:=S.he;exact⟨⟨vf,vd,s _ _ h1,h2.same s,h3.same s⟩,⟨kvs,s _ _ k1,k3,λn=>(k2 n).same s⟩,S.nd⟩
theorem cX.weak{N':MS}(w:∀z,N' z->N z\/H z=none):∀{o:Option (List Pt)},cX N H v o->cX N' H v o
 |none,h=>h
 |some _,⟨a,xs,h1,h2,h3,h4⟩=>⟨a,xs,h1,h2,h3,λz=>(w a z).elim h4 λy=>by lia⟩
theorem gh.weak{o:Option V}(w:∀z,M' z->M z\/H z=none):∀{u:Option (Nat×Addr×List Pt)},gh M H o u->gh M' H o u
 |none,h=>h
 |some _,⟨t,xs,h1,h2,h3,h4,h5⟩=>⟨t,xs,h1,h2,h3,h4,λz=>(w _ z).elim h5 λy=>by lia⟩
theorem bP.weak(S:bP M CS H q dq e x kn se fl de ea)(w:∀z,M' z->M z\/H z=none):bP M' CS H q dq e x kn se fl de ea:=by
 obtain⟨vf,vd,h1,h2,h3⟩:=S.ob;obtain⟨kvs,k1,k3,k2⟩:=S.he;have w':∀z,M'.ea ea z->M.ea ea z\/H z=none:=λz hz=>hz.elim (λy=>(w z y).elim (λa=>.inl<|.inl a) .inr) λy=>.inl (.inr y);exact⟨⟨vf,vd,h1,h2.weak w',h3.weak w'⟩,⟨kvs,k1,k3,λn=>(k2 n).weak w⟩,S.nd⟩
theorem dG.same(S:dG M C CS H p dp q dq e own x kn se fl de ea)(s:aC H H'):dG M C CS H' p dp q dq e own x kn se fl de ea:=⟨s _ _ S.ob,S.st.same s⟩
def An(H:Hp)(Q:VK):Option (List Pt)->Prop
 |none=>Q .au H
 |some ps=>∀l H' xs,aC H H'->H l=none->H' l=some (.lst xs)->aG H' xs ps->Q (.ref l) H'
inductive rL (C CS:Addr)(vs:List V)(H:Hp)(Q:VK)(E:XK):Prop|i(M:MS)(p dp q dq e:Addr)(own:Nat)(x:Str)(kn se:Nat)(fl de:Option (List Pt))(ea:bJ)(_:vs=[.ref p])(_:dG M C CS H p dp q dq e own x kn se fl de ea)(_:Q (.str x) H)
inductive wK (C CS:Addr)(vs:List V)(H:Hp)(Q:VK)(E:XK):Prop|i(M:MS)(p dp q dq e:Addr)(own:Nat)(x:Str)(kn se:Nat)(fl de:Option (List Pt))(ea:bJ)(_:vs=[.ref p])(_:dG M C CS H p dp q dq e own x kn se fl de ea)(_:Q (.int (kn:Nat)) H)
theorem aek(T:iI K C)(TS:ic K CS):bQ (rL C CS) (λE=>aN K [] [] (E:=E)) LG ib:=by
 intro vs H Q E h;obtain⟨M,p,dp,q,dq,e,own,x,kn,se,fl,de,ea,rfl,S,k⟩:=h;obtain⟨vf,vd,h1,_⟩:=S.st.ob;exact bS<|br<|br<|ae rfl ⟨p,C,dp,_,_,rfl,S.ob,T.cl,T.kE,nN,q,CS,dq,_,_,rfl,h1,TS.cl,TS.js,Aj,k⟩
theorem ael(T:iI K C)(TS:ic K CS):bQ (wK C CS) (λE=>aN K [] [] (E:=E)) LI ib:=by
 intro vs H Q E h;obtain⟨M,p,dp,q,dq,e,own,x,kn,se,fl,de,ea,rfl,S,k⟩:=h;obtain⟨vf,vd,h1,_⟩:=S.st.ob;exact bS<|br<|br<|ae rfl ⟨p,C,dp,_,_,rfl,S.ob,T.cl,T.kE,nN,q,CS,dq,_,_,rfl,h1,TS.cl,TS.lV,rH,k⟩
theorem uk(q:Q (.bl<|!decide (v=.au)) H):cN K .IsNot v .au H Q:=⟨rfl,q⟩
theorem pJ{c b:RE}(h:a_ Γ c σ H λt H1=>if t=true then af Γ a σ H1 Q else af Γ b σ H1 Q):af Γ (.jm c a b) σ H Q:=h
theorem pK{a:Addr}:decide (V.ref a=.au)=false:=rfl
inductive wL (vs:List V)(H:Hp)(Q:VK)(E:XK):Prop|i(M:MS)(v:V)(o:Option (List Pt))(_:vs=[v])(_:cX M H v o)(_:An H Q o)
theorem aem(vs:List V)(H:Hp)(Q:VK)(E:XK)(h:wL vs H Q E):aE (aN K [] [] (E:=E)) Lx (Dn Q) (start Dd vs) H:=by
 obtain⟨M,v,o,rfl,ho,k⟩:=h;cases o with
 |none=>
  cases (show v=.au from ho)
  exact bS<|pJ<|bo<|ae rfl<|aw<|nK ⟨_,rfl,iT (aw k)<|zqT rfl⟩
 |some ps=>
  obtain⟨a,xs,rfl,ha,pv,_⟩:=(show d4 M H v ps from ho)
  exact bS<|pJ<|bo<|ae rfl<|aw<|nK ⟨_,rfl,iF (pI<|ae rfl ⟨_,.inl<|aB.of ha,λl fl=>k l _ xs (sameNew fl) fl ay<|pv.mono<|bM<|sameNew fl⟩) pK⟩
inductive EJ (C CS:Addr)(vs:List V)(H:Hp)(Q:VK)(E:XK):Prop|i(M:MS)(p dp q dq e:Addr)(own:Nat)(x:Str)(kn se:Nat)(fl de:Option (List Pt))(ea:bJ)(_:vs=[.ref p])(_:dG M C CS H p dp q dq e own x kn se fl de ea)(_:An H Q fl)
inductive EK (C CS:Addr)(vs:List V)(H:Hp)(Q:VK)(E:XK):Prop|i(M:MS)(p dp q dq e:Addr)(own:Nat)(x:Str)(kn se:Nat)(fl de:Option (List Pt))(ea:bJ)(_:vs=[.ref p])(_:dG M C CS H p dp q dq e own x kn se fl de ea)(_:An H Q de)
theorem aen(T:iI K C)(TS:ic K CS):bQ (EJ C CS) (λE=>aN K [("copied",wL)] [] (E:=E)) LK ib:=by
 intro vs H Q E h;obtain⟨M,p,dp,q,dq,e,own,x,kn,se,fl,de,ea,rfl,S,k⟩:=h;obtain⟨vf,vd,h1,h2,_⟩:=S.st.ob;exact bS<|bN wL rfl<|aD<|br<|br<|ae rfl ⟨p,C,dp,_,_,rfl,S.ob,T.cl,T.kE,nN,q,CS,dq,_,_,rfl,h1,TS.cl,TS.iH,kZ,aO ⟨_,vf,fl,rfl,h2,k⟩⟩
theorem aeo(T:iI K C)(TS:ic K CS):bQ (EK C CS) (λE=>aN K [("copied",wL)] [] (E:=E)) LN ib:=by
 intro vs H Q E h;obtain⟨M,p,dp,q,dq,e,own,x,kn,se,fl,de,ea,rfl,S,k⟩:=h;obtain⟨vf,vd,h1,_,h3⟩:=S.st.ob;exact bS<|bN wL rfl<|aD<|br<|br<|ae rfl ⟨p,C,dp,_,_,rfl,S.ob,T.cl,T.kE,nN,q,CS,dq,_,_,rfl,h1,TS.cl,TS.jV,rJ,aO ⟨_,vd,de,rfl,h3,k⟩⟩
def um(H:Hp)(t:Addr)(own se kn:Nat)(ps:List Pt)(l:Addr):Prop:=H t=some (.tup [.str "ask",.int (own:Nat),.int (se:Nat),.int (kn:Nat),.ref l])/\∃xs,H l=some (.lst xs)/\aG H xs ps
inductive wM (C CS:Addr)(vs:List V)(H:Hp)(Q:VK)(E:XK):Prop|i(M:MS)(p dp q dq e q0:Addr)(own:Nat)(x:Str)(kn se:Nat)(ps:List Pt)(de:Option (List Pt))(ea:bJ)(_:vs=[.ref p,.ref q])(_:H p=some (.ins C dp<|f2 own q0))(_:bP M CS H q dq e x kn se (some ps) de ea)(_:∀t l H',aC H H'->H t=none->H l=none->um H' t own se kn ps l->Q (.ref t) H')
theorem aep(T:iI K C)(TS:ic K CS):bQ (wM C CS) (λE=>aN K [] [] (E:=E)) LQ LP:=by
 intro vs H Q E h;obtain⟨M,p,dp,q,dq,e,q0,own,x,kn,se,ps,de,ea,rfl,hp,S,k⟩:=h;obtain⟨vf,vd,h1,⟨a,xs,rfl,ha,pv,_⟩,_⟩:=S.ob;refine bS<|ma<|aD<|aw<|aD<|br<|ae rfl ⟨p,C,dp,_,_,rfl,hp,T.cl,T.vD,Am,aD<|br<|ae rfl ⟨q,CS,dq,_,_,rfl,h1,TS.cl,TS.tF,EH,aD<|br<|ae rfl ⟨q,CS,dq,_,_,rfl,h1,TS.cl,TS.lV,rH,aD<|pI<|br<|ae rfl ⟨q,CS,dq,_,_,rfl,h1,TS.cl,TS.iH,kZ,_,.inl<|aB.of ha,λl fl=>aO ⟨Bc,λt ft=>?_⟩⟩⟩⟩⟩;have s1:=sameNew (o:=.lst xs) fl;have hl:upd H l (.lst xs) l=some (.lst xs):=ay;have s2:=sameNew (o:=.tup [.str "ask",.int (own:Nat),.int (se:Nat),.int (kn:Nat),.ref l]) ft;exact k t l _ (s1.trans s2) (s1.free ft) fl ⟨ay,xs,s2 _ _ hl,pv.mono<|bM<|s1.trans s2⟩
end
section
variable {K:Frag}{M:MS}{C CS:Addr}{H H':Hp}{p dp q dq e:Addr}{own:Nat}{x:Str}{kn se:Nat}{fl de:Option (List Pt)}{ea:bJ}
theorem rM{o:HO}{fs:List (Str×V)}(hq:H q=some (.ins C' d' fs)):dR H (upd H q o):=λz us ez=>by
 rw[az (λy=>by lia)];exact ez
theorem d4.ins{o:HO}{fs:List (Str×V)}(h:d4 M H v ps)(hq:H q=some (.ins C' d' fs)):d4 M (upd H q o) v ps:=by
 obtain⟨a,xs,e,h1,h2,h3⟩:=h;exact⟨a,xs,e,by rw[az (λy=>by lia)];exact h1,h2.mono<|rM hq,h3⟩
theorem cX.ins{o:HO}{fs:List (Str×V)}:∀{z:Option (List Pt)},cX M H v z->H q=some (.ins C' d' fs)->cX M (upd H q o) v z
 |none,h,_=>h
 |some _,h,hq=>d4.ins h hq
theorem gh.ins{o:HO}{fs:List (Str×V)}{w:Option V}:∀{z:Option (Nat×Addr×List Pt)},gh M H w z->H q=some (.ins C' d' fs)->gh M (upd H q o) w z
 |none,h,_=>h
 |some _,⟨t,xs,h1,h2,h3,h4,h5⟩,hq=>⟨t,xs,h1,rM hq _ _ h2,by rw[az (λy=>by lia)];exact h3,h4.mono<|rM hq,h5⟩
theorem bP.put(S:bP M CS H q dq e x kn se fl de ea){x':Str}{kn' se':Nat}{vf vd:V}{fl' de':Option (List Pt)}(hf:cX (M.ea ea) H vf fl')(hd:cX (M.ea ea) H vd de'):bP M CS (upd H q<|.ins CS dq<|f6 x' kn' se' vf vd<|.ref e) q dq e x' kn' se' fl' de' ea:=by
 obtain⟨vf0,vd0,h1,_,_⟩:=S.ob;obtain⟨kvs,k1,k3,k2⟩:=S.he;exact⟨⟨vf,vd,ay,hf.ins h1,hd.ins h1⟩,⟨kvs,by rw[az (λy=>by lia)];exact k1,k3,λn=>(k2 n).ins h1⟩,S.nd⟩
theorem bx.same(s:aC H H'):bx M H H':=λb o e _=>s b o e
theorem bx.trans(a:bx M H H')(b:bx M H' wO):bx M H wO:=λz o e hz=>b _ _ (a _ _ e hz) hz
theorem bx.upd{o:HO}:bx (· =q) H (upd H q o):=λz o e hz=>by rw[az hz];exact e
inductive wQ (C CS:Addr)(vs:List V)(H:Hp)(Q:VK)(E:XK):Prop|i(M:MS)(p dp q dq e q0:Addr)(v:V)(own:Nat)(x:Str)(kn se:Nat)(ps:List Pt)(fl de:Option (List Pt))(ea:bJ)(_:vs=[.ref p,.ref q,v])(_:H p=some (.ins C dp<|f2 own q0))(_:p≠q)(_:bP M CS H q dq e x kn se fl de ea)(_:d4 (M.ea ea) H v ps)(_:∀L t l H',bx (· =q) H H'->H L=none->H t=none->H l=none->bP ((M.add L).add l) CS H' q dq e x kn (se+1) (some ps) de ea->H' L=some (.lst [.ref t])->um H' t own (se+1) kn ps l->Q (.ref L) H')
theorem aeq(T:iI K C)(TS:ic K CS):bQ (wQ C CS) (λE=>aN K [] [] [] [("ask",C,wM C CS)] (E:=E)) LS zd:=by
 intro vs H Q E h;obtain⟨M,p,dp,q,dq,e,q0,v,own,x,kn,se,ps,fl,de,ea,rfl,hp,dC,S,hv,k⟩:=h;obtain⟨vf,vd,h1,h2,h3⟩:=S.ob;refine dm<|bI<|br<|ae rfl ⟨q,CS,dq,_,_,rfl,h1,TS.cl,TS.tF,EH,aw<|g_<|ae rfl ⟨q,CS,dq,_,rfl,h1,TS.cl,TS.tF,(by simp),?_⟩⟩
 rw[show(se:Int)+1=((se+1:Nat):Int) by lia,Pl]
 have S1:=S.put (x':=x) (kn':=kn) (se':=se+1) h2 h3;have Pm:d4 (M.ea ea) (upd H q<|.ins CS dq<|f6 x kn (se+1) vf vd<|.ref e) v ps:=hv.ins h1;have b1:bx (· =q) H (upd H q<|.ins CS dq<|f6 x kn (se+1) vf vd<|.ref e):=bx.upd;have eV:upd H q (.ins CS dq<|f6 x kn (se+1) vf vd<|.ref e) q=some (.ins CS dq<|f6 x kn (se+1) vf vd<|.ref e):=ay;have wR:cX (M.ea ea) (upd H q<|.ins CS dq<|f6 x kn (se+1) vf vd<|.ref e) vd de:=h3.ins h1;generalize upd H q (.ins CS dq<|f6 x kn (se+1) vf vd<|.ref e)=H1 at S1 Pm b1 eV wR⊢;refine dm<|ae rfl<|ae rfl ⟨q,CS,dq,_,rfl,eV,TS.cl,TS.iH,(by simp),?_⟩
 rw[Ak];have S2:=S1.put (x':=x) (kn':=kn) (se':=se+1) (fl':=some ps) Pm wR;have b2:bx (· =q) H1 (upd H1 q<|.ins CS dq<|f6 x kn (se+1) v vd<|.ref e):=bx.upd;generalize upd H1 q (.ins CS dq<|f6 x kn (se+1) v vd<|.ref e)=H2 at S2 b2⊢;have mv:=b1.trans b2;have wU:=dC;have fr:∀{z:Addr},H2 z=none->H z=none:=λ{z} hz=>by
  cases ez:H z with
  |none=>rfl
  |some o=>
   by_cases y:z=q
   ·obtain⟨_,_,hq,_⟩:=S2.ob;rw[y,hq] at hz;cases hz
   ·rw[mv _ _ ez y] at hz;cases hz
 refine bS<|fH<|aD<|i7 C (wM C CS) rfl<|ae rfl ⟨p,dp,_,rfl,mv _ _ hp wU,hU,ae rfl ⟨M,p,dp,q,dq,e,q0,own,x,kn,se+1,ps,de,ea,rfl,mv _ _ hp wU,S2,λt l H3 s3 ft fl' ha=>aO ⟨jH,λL fL=>?_⟩⟩⟩;have s4:=sameNew (o:=.lst [V.ref t]) fL;exact k L t l _ (mv.trans<|bx.same<|s3.trans s4) (fr<|s3.free fL) (fr ft) (fr fl') (((S2.weak λz hz=>hz.elim (λy=>.inr<|y ▸ fl') λhz=>hz.elim (λy=>.inr<|y ▸ s3.free fL) .inl).same s3).same s4) ay ⟨s4 _ _ ha.1,let ⟨xs,g1,g2⟩:=ha.2;⟨xs,s4 _ _ g1,g2.mono<|bM s4⟩⟩
def Ao(C CS:Addr):Sp:=λvs H Q E=>∃(M:MS) (p dp q dq e q0:Addr) (own:Nat) (x:Str) (kn se:Nat) (ps:List Pt) (de:Option (List Pt)) (ea:bJ),vs=[.ref p,.ref q]/\H p=some (.ins C dp<|f2 own q0)/\p≠q/\bP M CS H q dq e x kn se (some ps) de ea/\
 match de with
 |none=>∀L H',bx (· =q) H H'->H L=none->bP (M.add L) CS H' q dq e x kn se none none ea->H' L=some (.lst [])->Q (.ref L) H'
 |some ds=>∀L t l H',bx (· =q) H H'->H L=none->H t=none->H l=none->bP ((M.add L).add l) CS H' q dq e x kn (se+1) (some ds) none ea->H' L=some (.lst [.ref t])->um H' t own (se+1) kn ds l->Q (.ref L) H'
theorem aer(T:iI K C)(TS:ic K CS):bQ (Ao C CS) (λE=>aN K [] [] [] [("take_off",C,wQ C CS)] (et:=[("BadLetter",CB)]) (E:=E)) L4 zd:=by
 intro vs H Q E h;obtain⟨M,p,dp,q,dq,e,q0,own,x,kn,se,ps,de,ea,rfl,hp,dC,S,k⟩:=h;obtain⟨vf,vd,h1,h2,h3⟩:=S.ob;obtain⟨a,xs,rfl,ha,pv,na⟩:=(show d4 (M.ea ea) H vf ps from h2)
 refine bq<|bo<|br<|ae rfl ⟨q,CS,dq,_,_,rfl,h1,TS.cl,TS.iH,kZ,aw<|nK ⟨_,rfl,iF (cJ (bD<|br<|ae rfl ⟨q,CS,dq,_,_,rfl,h1,TS.cl,TS.jV,rJ,dm<|aw<|ae rfl ⟨q,CS,dq,_,rfl,h1,TS.cl,TS.iH,(by simp),?_⟩⟩)) pK⟩⟩
 rw[Ak];have S1:=S.put (x':=x) (kn':=kn) (se':=se) (fl':=none) rfl h3;have b1:bx (· =q) H (upd H q<|.ins CS dq<|f6 x kn se .au vd<|.ref e):=bx.upd;have eV:upd H q (.ins CS dq<|f6 x kn se .au vd<|.ref e) q=some (.ins CS dq<|f6 x kn se .au vd<|.ref e):=ay;have wR:cX (M.ea ea) (upd H q<|.ins CS dq<|f6 x kn se .au vd<|.ref e) vd de:=h3.ins h1;generalize upd H q (.ins CS dq<|f6 x kn se .au vd<|.ref e)=H1 at S1 b1 eV wR⊢;refine dm<|aw<|ae rfl ⟨q,CS,dq,_,rfl,eV,TS.cl,TS.jV,(by simp),?_⟩
 rw[wJ];have S2:=S1.put (x':=x) (kn':=kn) (se':=se) (fl':=none) (de':=none) rfl rfl;have b2:bx (· =q) H1 (upd H1 q<|.ins CS dq<|f6 x kn se .au .au<|.ref e):=bx.upd;have EL:cX (M.ea ea) (upd H1 q<|.ins CS dq<|f6 x kn se .au .au<|.ref e) vd de:=wR.ins eV;generalize upd H1 q (.ins CS dq<|f6 x kn se .au .au<|.ref e)=H2 at S2 b2 EL⊢;have mv:=b1.trans b2;have wU:=dC;have fr:∀{z:Addr},H2 z=none->H z=none:=λ{z} hz=>by
  cases ez:H z with
  |none=>rfl
  |some o=>
   by_cases y:z=q
   ·obtain⟨_,_,hq,_⟩:=S2.ob;rw[y,hq] at hz;cases hz
   ·rw[mv _ _ ez y] at hz;cases hz
 cases de with
 |none=>
  cases (show vd=.au from EL)
  exact bS<|pJ<|bo<|ae rfl<|aw<|nK ⟨_,rfl,iT (fH<|aO ⟨zqZ _,λL fL=>k L _ (mv.trans<|bx.same<|sameNew fL) (fr fL) ((S2.weak λz hz=>hz.elim (λy=>.inr<|y ▸ fL) .inl).same<|sameNew fL) ay⟩)<|zqT rfl⟩
 |some ds=>
  obtain⟨a2,gV,rfl,gZ,Ap,na2⟩:=(show d4 (M.ea ea) H2 vd ds from EL)
  refine bS<|pJ<|bo<|ae rfl<|aw<|nK ⟨_,rfl,iF (Ae C (wQ C CS) rfl<|ae rfl ⟨p,dp,_,rfl,mv _ _ hp wU,hU,ae rfl<|ae rfl ⟨M,p,dp,q,dq,e,q0,_,own,x,kn,se,ds,none,none,ea,rfl,mv _ _ hp wU,dC,S2,⟨a2,gV,rfl,gZ,Ap,na2⟩,λL t l H3 b3 fL ft fl' S3 hL hA=>k L t l H3 (mv.trans b3) (fr fL) (fr ft) (fr fl') S3 hL hA⟩⟩) pK⟩
def Aq(C CS:Addr):Sp:=λvs H Q E=>∃(M:MS) (p dp q dq e:Addr) (own:Nat) (x:Str) (kn se:Nat) (fl de:Option (List Pt)) (ea:bJ),vs=[.ref p]/\dG M C CS H p dp q dq e own x kn se fl de ea/\
 match fl with
 |none=>∀L t0 H',aC H H'->H L=none->H t0=none->H' t0=some (.tup [.str "again",.int (own:Nat),.int (kn:Nat)])->H' L=some (.lst [.ref t0])->Q (.ref L) H'
 |some ps=>∀L t0 t l H',aC H H'->H L=none->H t0=none->H t=none->H l=none->H' t0=some (.tup [.str "again",.int (own:Nat),.int (kn:Nat)])->um H' t own se kn ps l->H' L=some (.lst [.ref t0,.ref t])->Q (.ref L) H'
theorem aet(T:iI K C)(TS:ic K CS):bQ (Aq C CS) (λE=>aN K [] [] [] [("seen",C,wK C CS),("ask",C,wM C CS)] (E:=E)) L9 L8:=by
 intro vs H Q E h;obtain⟨M,p,dp,q,dq,e,own,x,kn,se,fl,de,ea,rfl,S,k⟩:=h;refine bD<|ma<|aD<|aw<|aD<|br<|ae rfl ⟨p,C,dp,_,_,rfl,S.ob,T.cl,T.vD,Am,aD<|ie C (wK C CS) rfl<|ae rfl ⟨p,dp,_,rfl,S.ob,hU,M,p,dp,q,dq,e,own,x,kn,se,fl,de,ea,rfl,S,aO ⟨xH,λt0 f0=>?_⟩⟩⟩;have s1:=sameNew (o:=.tup [.str "again",.int (own:Nat),.int (kn:Nat)]) f0;have h0:upd H t0 (.tup [.str "again",.int (own:Nat),.int (kn:Nat)]) t0=some (.tup [.str "again",.int (own:Nat),.int (kn:Nat)]):=ay;generalize upd H t0 (.tup [.str "again",.int (own:Nat),.int (kn:Nat)])=H1 at s1 h0⊢;have S1:=S.same s1;obtain⟨vf,vd,h1,h2,h3⟩:=S1.st.ob;cases fl with
 |none=>
  cases (show vf=.au from h2)
  refine bS<|pJ<|bo<|br<|br<|ae rfl ⟨p,C,dp,_,_,rfl,S1.ob,T.cl,T.kE,nN,q,CS,dq,_,_,rfl,h1,TS.cl,TS.iH,kZ,aw<|nK ⟨_,rfl,iT (fH<|aD<|ae rfl<|aO ⟨jH,λL fL=>?_⟩)<|zqT rfl⟩⟩;have s2:=sameNew (o:=.lst [V.ref t0]) fL;exact k L t0 _ (s1.trans s2) (s1.free fL) f0 (s2 _ _ h0) ay
 |some ps=>
  obtain⟨a,xs,rfl,ha,pv,na⟩:=(show d4 (M.ea ea) H1 vf ps from h2)
  refine bS<|pJ<|bo<|br<|br<|ae rfl ⟨p,C,dp,_,_,rfl,S1.ob,T.cl,T.kE,nN,q,CS,dq,_,_,rfl,h1,TS.cl,TS.iH,kZ,aw<|nK ⟨_,rfl,iF (fH<|aD<|ae rfl<|aD<|i7 C (wM C CS) rfl<|ae rfl ⟨p,dp,_,rfl,S1.ob,hU,br<|ae rfl ⟨p,C,dp,_,_,rfl,S1.ob,T.cl,T.kE,nN,M,p,dp,q,dq,e,q,own,x,kn,se,ps,de,ea,rfl,S1.ob,S1.st,λt l H3 s3 ft fl' hA=>aO ⟨e7,λL fL=>?_⟩⟩⟩) pK⟩⟩;have s4:=sameNew (o:=.lst [V.ref t0,V.ref t]) fL;exact k L t0 t l _ ((s1.trans s3).trans s4) (s1.free<|s3.free fL) f0 (s1.free ft) (s1.free fl') (s4 _ _<|s3 _ _ h0) ⟨s4 _ _ hA.1,let ⟨xs,g1,g2⟩:=hA.2;⟨xs,s4 _ _ g1,g2.mono<|bM s4⟩⟩ ay
theorem aeu(h:∀p,H p=none->Q (.ref p) (upd H p<|.dK [])):af Γ .yJ σ H Q:=h
inductive wV (CS:Addr)(vs:List V)(H:Hp)(Q:VK)(E:XK):Prop|i(q dq:Addr)(x:Str)(_:vs=[.ref q,.str x])(_:H q=some (.ins CS dq []))(_:∀e H',H e=none->(∀z o,H z=some o->z≠q->H' z=some o)->H' q=some (.ins CS dq<|f6 x 0 0 .au .au<|.ref e)->H' e=some (.dK [])->Q .au H')
theorem aev(TS:ic K CS):bQ (wV CS) (λE=>aN K [] [] (E:=E)) Lq Lp:=by
 intro vs H Q E h;obtain⟨q,dq,x,rfl,hq,k⟩:=h;refine dm<|ae rfl<|ae rfl ⟨q,CS,dq,_,rfl,hq,TS.cl,TS.js,(by simp),?_⟩
 have k1:∀z o,H z=some o->z≠q->upd H q (.ins CS dq<|aI "signs" (.str x) []) z=some o:=λz o e n=>by rw[az n];exact e
 have eV:upd H q (.ins CS dq<|aI "signs" (.str x) []) q=some (.ins CS dq<|aI "signs" (.str x) []):=ay;generalize upd H q (.ins CS dq<|aI "signs" (.str x) [])=H1 at k1 eV⊢;refine dm<|aw<|ae rfl ⟨q,CS,dq,_,rfl,eV,TS.cl,TS.lV,(by show 1<1000;decide),?_⟩
 have k2:∀z o,H z=some o->z≠q->upd H1 q (.ins CS dq<|aI "known" (.int 0)<|aI "signs" (.str x) []) z=some o:=λz o e n=>by rw[az n];exact k1 z o e n
 have eT:upd H1 q (.ins CS dq<|aI "known" (.int 0)<|aI "signs" (.str x) []) q=some (.ins CS dq<|aI "known" (.int 0)<|aI "signs" (.str x) []):=ay;generalize upd H1 q (.ins CS dq<|aI "known" (.int 0)<|aI "signs" (.str x) [])=H2 at k2 eT⊢;refine dm<|aw<|ae rfl ⟨q,CS,dq,_,rfl,eT,TS.cl,TS.tF,(by show 2<1000;decide),?_⟩
 have k3:∀z o,H z=some o->z≠q->upd H2 q (.ins CS dq<|aI "serial" (.int 0)<|aI "known" (.int 0)<|aI "signs" (.str x) []) z=some o:=λz o e n=>by rw[az n];exact k2 z o e n
 have iQ:upd H2 q (.ins CS dq<|aI "serial" (.int 0)<|aI "known" (.int 0)<|aI "signs" (.str x) []) q=some (.ins CS dq<|aI "serial" (.int 0)<|aI "known" (.int 0)<|aI "signs" (.str x) []):=ay;generalize upd H2 q (.ins CS dq<|aI "serial" (.int 0)<|aI "known" (.int 0)<|aI "signs" (.str x) [])=H3 at k3 iQ⊢;refine dm<|aw<|ae rfl ⟨q,CS,dq,_,rfl,iQ,TS.cl,TS.iH,(by show 3<1000;decide),?_⟩
 generalize EM:aI "flying" .au (aI "serial" (.int 0)<|aI "known" (.int 0)<|aI "signs" (.str x) [])=f4;have l4:f4.length=4:=EM▸rfl
 have k4:∀z o,H z=some o->z≠q->upd H3 q (.ins CS dq f4) z=some o:=λz o e n=>by rw[az n];exact k3 z o e n
 have wW:upd H3 q (.ins CS dq f4) q=some (.ins CS dq f4):=ay;generalize upd H3 q (.ins CS dq f4)=H4 at k4 wW⊢;refine dm<|aw<|ae rfl ⟨q,CS,dq,_,rfl,wW,TS.cl,TS.jV,(by lia),?_⟩
 generalize Po:aI "delayed" .au f4=f5;have l5:f5.length=5:=by rw[<-Po,<-EM];rfl
 have k5:∀z o,H z=some o->z≠q->upd H4 q (.ins CS dq f5) z=some o:=λz o e n=>by rw[az n];exact k4 z o e n
 have rN:upd H4 q (.ins CS dq f5) q=some (.ins CS dq f5):=ay;refine dm<|aeu λe fe=>?_;have jD:e≠q:=λy=>by lia
 refine ae rfl ⟨q,CS,dq,_,rfl,(by rw[az<|Ne.symm jD];exact rN),TS.cl,TS.qH,(by lia),?_⟩
 refine k e _ ?_ (λz o ez n=>?_) ?_ ?_
 ·cases ez:H e with
  |none=>rfl
  |some o=>rw[k5 _ _ ez jD] at fe;cases fe
 ·rw[az n,az<|aM (k5 _ _ ez n) fe];exact k5 _ _ ez n
 ·rw[ay,<-Po,<-EM];exact congrArg (λl=>some<|HO.ins CS dq l) (aeh)
 ·rw[az jD];exact ay
theorem aew(h:af Γ a σ H λv H1=>∃p kvs,[v]=[.ref p]/\H1 p=some (.dK kvs)/\∀l,H1 l=none->Q (.ref l) (upd H1 l<|.dK kvs)):af Γ (.xt C9 [a]) σ H Q:=h
inductive EN (CS:Addr)(vs:List V)(H:Hp)(Q:VK)(E:XK):Prop|i(M:MS)(q dq e:Addr)(x:Str)(kn se:Nat)(fl de:Option (List Pt))(ea:bJ)(_:vs=[.ref q])(_:bP M CS H q dq e x kn se fl de ea)(_:∀q' cY e' H',aC H H'->H q'=none->H e'=none->q'≠e'->bP M CS H' q' cY e' x kn se fl de ea->Q (.ref q') H')
theorem aex(TS:ic K CS):bQ (EN CS) (λE=>aN K [] [] [] [] [("Stand",CS,wV CS)] (E:=E)) Lu Ls:=by
 intro vs H Q E h;obtain⟨M,q,dq,e,x,kn,se,fl,de,ea,rfl,S,k⟩:=h;obtain⟨vf,vd,h1,h2,h3⟩:=S.ob;obtain⟨kvs,he,lk,pe⟩:=S.he;refine bD<|vZ CS (wV CS) rfl<|br<|ae rfl ⟨q,CS,dq,_,_,rfl,h1,TS.cl,TS.js,Aj,λq' cY fq EO ia=>⟨q',cY,x,rfl,ay,λe0 H1 fe0 b1 eV he0=>⟨rfl,?_⟩⟩⟩;have s1:∀z o,H z=some o->H1 z=some o:=λz o ez=>b1 _ _ (by rw[az<|aM ez fq,az<|aM ez EO];exact ez) (aM ez fq)
 have wX:∀{z:Addr}{o:HO},H z=some o->z≠q':=λez=>aM ez fq;refine dm<|br<|ae rfl ⟨q,CS,dq,_,_,rfl,(s1 _ _ h1),TS.cl,TS.lV,rH,ae rfl ⟨q',CS,cY,_,rfl,eV,TS.cl,TS.lV,(by simp),?_⟩⟩
 rw[Pk];have s2:∀z o,H z=some o->upd H1 q' (.ins CS cY<|f6 x kn 0 .au .au<|.ref e0) z=some o:=λz o ez=>by rw[az<|wX ez];exact s1 _ _ ez
 have eT:upd H1 q' (.ins CS cY<|f6 x kn 0 .au .au<|.ref e0) q'=some (.ins CS cY<|f6 x kn 0 .au .au<|.ref e0):=ay;generalize upd H1 q' (.ins CS cY<|f6 x kn 0 .au .au<|.ref e0)=H2 at s2 eT⊢;refine dm<|br<|ae rfl ⟨q,CS,dq,_,_,rfl,s2 _ _ h1,TS.cl,TS.tF,EH,ae rfl ⟨q',CS,cY,_,rfl,eT,TS.cl,TS.tF,(by simp),?_⟩⟩
 rw[Pl];have s3:∀z o,H z=some o->upd H2 q' (.ins CS cY<|f6 x kn se .au .au<|.ref e0) z=some o:=λz o ez=>by rw[az<|wX ez];exact s2 _ _ ez
 have iQ:upd H2 q' (.ins CS cY<|f6 x kn se .au .au<|.ref e0) q'=some (.ins CS cY<|f6 x kn se .au .au<|.ref e0):=ay;generalize upd H2 q' (.ins CS cY<|f6 x kn se .au .au<|.ref e0)=H3 at s3 iQ⊢;refine dm<|br<|ae rfl ⟨q,CS,dq,_,_,rfl,s3 _ _ h1,TS.cl,TS.iH,kZ,ae rfl ⟨q',CS,cY,_,rfl,iQ,TS.cl,TS.iH,(by simp),?_⟩⟩
 rw[Ak];have s4:∀z o,H z=some o->upd H3 q' (.ins CS cY<|f6 x kn se vf .au<|.ref e0) z=some o:=λz o ez=>by rw[az<|wX ez];exact s3 _ _ ez
 have wW:upd H3 q' (.ins CS cY<|f6 x kn se vf .au<|.ref e0) q'=some (.ins CS cY<|f6 x kn se vf .au<|.ref e0):=ay;generalize upd H3 q' (.ins CS cY<|f6 x kn se vf .au<|.ref e0)=H4 at s4 wW⊢;refine dm<|br<|ae rfl ⟨q,CS,dq,_,_,rfl,s4 _ _ h1,TS.cl,TS.jV,rJ,ae rfl ⟨q',CS,cY,_,rfl,wW,TS.cl,TS.jV,(by simp),?_⟩⟩
 rw[wJ];have s5:∀z o,H z=some o->upd H4 q' (.ins CS cY<|f6 x kn se vf vd<|.ref e0) z=some o:=λz o ez=>by rw[az<|wX ez];exact s4 _ _ ez
 have rN:upd H4 q' (.ins CS cY<|f6 x kn se vf vd<|.ref e0) q'=some (.ins CS cY<|f6 x kn se vf vd<|.ref e0):=ay;generalize upd H4 q' (.ins CS cY<|f6 x kn se vf vd<|.ref e0)=H5 at s5 rN⊢;refine dm<|aew<|br<|ae rfl ⟨q,CS,dq,_,_,rfl,s5 _ _ h1,TS.cl,TS.qH,wI,e,kvs,rfl,s5 _ _ he,λe' Ar=>?_⟩;have jD:=aM rN Ar;refine ae rfl ⟨q',CS,cY,_,rfl,(by rw[az jD];exact rN),TS.cl,TS.qH,(by simp),?_⟩
 have s6:aC H (upd (upd H5 e'<|.dK kvs) q'<|.ins CS cY<|f6 x kn se vf vd<|.ref e'):=λz o ez=>by
  rw[az<|wX ez,az<|aM (s5 _ _ ez) Ar];exact s5 _ _ ez
 have fe:H e'=none:=by
  cases ez:H e' with
  |none=>rfl
  |some o=>rw[s5 _ _ ez] at Ar;cases Ar
 refine bS<|ae rfl<|k q' cY e' _ s6 fq fe jD ⟨⟨vf,vd,ay,h2.same s6,h3.same s6⟩,⟨kvs,by rw[az<|Ne.symm jD];exact ay,lk,λn=>(pe n).same s6⟩,S.nd⟩
inductive wY (vs:List V)(H:Hp)(Q:VK)(E:XK):Prop|i(a xs ps:_)(_:vs=[.ref a])(_:H a=some (.lst xs))(_:aG H xs ps)(_:(∀p∈ps,ba p))(_:chainOk "" ps=true)(_:∀H',aC H H'->Q (.bl true) H')
theorem aez:bQ (wY) (λE=>aN K [("need_change",zg)] [("BadChange",.ref CB)] (E:=E)) Ky jq:=by
 intro vs H Q E h;obtain⟨a,xs,ps,rfl,ha,pv,ok,ch,q⟩:=h;exact⟨CB,rfl,fk<|bN zg rfl<|aD<|ae rfl<|aO ⟨a,xs,ps,rfl,ha,pv,ok,ch,λH' s=>bS<|aw<|q H' s⟩⟩
inductive ER (C CS:Addr)(vs:List V)(H:Hp)(Q:VK)(E:XK):Prop|i(p dp:Addr)(own:Nat)(x:Str)(_:vs=[.ref p,.int (own:Nat),.str x])(_:H p=some (.ins C dp []))(_:own<=7)(_:good x)(_:∀q dq e H',H q=none->H e=none->q≠e->(∀z o,H z=some o->z≠p->H' z=some o)->dG (λ_=>False) C CS H' p dp q dq e own x 0 0 none none ⟨λ_=>none,0⟩->Q .au H')
theorem aeA(T:iI K C):bQ (ER C CS) (λE=>aN K [("is_between",jB),("need_text",qS)] [("MOST_HANDS",.int 8)] [] [] [("Stand",CS,wV CS)] (et:=[("NoHand",CN)]) (E:=E)) LD LC:=by
 intro vs H Q E h;obtain⟨p,dp,own,x,rfl,hp,ho,gx,k⟩:=h;refine bq<|eL<|jz jB rfl<|aD<|ae rfl<|aD<|aw<|aD<|bI<|DT<|aw<|wx<|aO ⟨_,_,_,rfl,by lia,by lia,gg<|iF (cJ ?_) rfl⟩
 refine fk<|bN qS rfl<|aD<|ae rfl<|aO ⟨x,rfl,gx,dm<|ae rfl<|ae rfl ⟨p,C,dp,_,rfl,hp,T.cl,T.vD,(by simp),?_⟩⟩
 have k1:∀z o,H z=some o->z≠p->upd H p (.ins C dp<|aI "number" (.int (own:Nat)) []) z=some o:=λz o e n=>by rw[az n];exact e
 have eJ:upd H p (.ins C dp<|aI "number" (.int (own:Nat)) []) p=some (.ins C dp<|aI "number" (.int (own:Nat)) []):=ay;generalize upd H p (.ins C dp<|aI "number" (.int (own:Nat)) [])=H1 at k1 eJ⊢;refine dm<|vZ CS (wV CS) rfl<|ae rfl λq dq fq EO ia=>⟨q,dq,x,rfl,ay,λe H2 fe b2 eT nI=>⟨rfl,?_⟩⟩;have s2:∀z o,H1 z=some o->H2 z=some o:=λz o ez=>b2 _ _ (by rw[az<|aM ez fq,az<|aM ez EO];exact ez) (aM ez fq)
 have e_:=s2 _ _ eJ;have dC:=aM eJ fq;have Pp:p≠e:=λy=>by lia
 have jD:q≠e:=λy=>by lia
 refine ae rfl ⟨p,C,dp,_,rfl,e_,T.cl,T.kE,(by show 1<1000;decide),?_⟩
 have fr:∀{z:Addr},H1 z=none->z≠p->H z=none:=λ{z} hz n=>by
  cases ez:H z with
  |none=>rfl
  |some o=>rw[k1 _ _ ez n] at hz;cases hz
 have fe1:=by
  rw[az jD.symm] at fe;by_cases y:e=dq
  ·rw[y,ay] at fe;cases fe
  ·rw[az y] at fe;exact fe
 refine k q dq e _ (fr fq dC.symm) (fr fe1 Pp.symm) jD (λz o ez n=>?_) ⟨?_,⟨.au,.au,?_,rfl,rfl⟩,⟨[],?_,zqZ _,λ_=>rfl⟩,nofun⟩
 ·rw[az n];exact s2 _ _ (k1 _ _ ez n)
 ·rw[ay];have e0:∀(f:Str) (v:V),aI f v []=[(f,v)]:=λ_ _=>rfl;rw[e0,d3 (by decide+kernel),e0]
 ·rw[az dC.symm];exact eT
 ·rw[az Pp.symm];exact nI
variable {K:Frag}{M:MS}{C:Addr}{H H':Hp}{p dx se ch mk:Addr}{x:Str}{ar:List Nat}{tk:List (Nat×List Pt)}
theorem pL{b:RE}{r:List RE}(h:a_ Γ a σ H λc H1=>if c=true then QT true H1 else a_ Γ (.or (b::r)) σ H1 QT):a_ Γ (.or (a::b::r)) σ H QT:=h
theorem wZ(h:a_ Γ a σ H QT):a_ Γ (.or [a]) σ H QT:=h
theorem ES(h:af Γ (.call j as) σ H λx H1=>jP Γ.K x H1 λb=>QT b H1):a_ Γ (.call j as) σ H QT:=h
theorem w5{a:Addr}{k:Nat->Prop}(ha:H a=some (.tup xs))(q:k xs.length):qi K (.ref a) H k:=.inr ⟨xs,aL.of ha,q⟩
theorem As{lt:Addr}(hf:Γ.fs j=lZ Γ.K)(e:σ[i]?=some (some<|.ref lt))(hl:H lt=some (.tup (.str w::vs)))(q:∀H',aC H H'->Q (.bl true) H'):af Γ (.call j [(.ix (.v i)<|.c<|.int 0),(.tup [(.c<|.str w)])]) σ H Q:=by
 refine bN (lZ Γ.K) hf<|aD<|bp<|ae e<|aw<|bU hl (show gN (V.str w::vs) ((0:Nat):Int)=_ from fE rfl)<|aD<|ma<|aD<|aw<|aO ⟨jH,λt ft=>aO ⟨w,t,_,rfl,aL.of ay,rfl,?_⟩⟩
 have e:gP (.str w) [.str w]=true:=by show((w==w)||false)=true;rw[Pc];rfl
 rw[e];exact q _ (sameNew ft)
abbrev ET(own n cA:Nat)(b:Addr):List V:=[.str "took",.int (own:Nat),.int (n:Nat),.int (cA:Nat),.ref b]
inductive EU (C:Addr)(vs:List V)(H:Hp)(Q:VK)(E:XK):Prop|i(p dp q0 lt b:Addr)(own n cA:Nat)(ys:List V)(c:List Pt)(_:vs=[.ref p,.ref lt])(_:H p=some (.ins C dp<|f2 own q0))(_:H lt=some (.tup<|ET own n cA b))(_:1<=n)(_:cA<=7)(_:H b=some (.lst ys))(_:aG H ys c)(_:(∀p∈c,ba p))(_:chainOk "" c=true)(_:∀H',aC H H'->Q .au H')
theorem aeC(T:iI K C):bQ (EU C) (λE=>aN K [("is_word",lZ K),("is_whole",lY),("is_between",jB),("is_change",wY)] [("MOST_HANDS",.int 8)] (et:=[("BadLetter",CB)]) (E:=E)) LZ oO:=by
 intro vs H Q E h;obtain⟨p,dp,q0,lt,b,own,n,cA,ys,c,rfl,hp,hl,hn,hw,hb,pv,ok,cc,k⟩:=h;refine bq<|pL<|eL<|wt<|ae rfl<|vG hl<|iF (pL<|bo<|i_<|ae rfl<|w5 hl<|aw<|Ac ⟨_,rfl,iF (wZ<|eL<|ES<|As rfl rfl hl λH1 s1=>gg (iF (cJ ?_) rfl)) rfl⟩) rfl;have c7:=s1 _ _ hl;refine bq<|pL<|eL<|jz lY rfl<|aD<|bp<|ae rfl<|aw<|bU c7 rfl<|aO ⟨_,rfl,gg<|iF (wZ<|bo<|bp<|ae rfl<|aw<|bU c7 rfl<|br<|ae rfl ⟨p,C,dp,_,_,rfl,(s1 _ _ hp),T.cl,T.vD,Am,Ac ⟨_,rfl,iF (cJ ?_) (by lia)⟩⟩) rfl⟩
 refine bq<|pL<|eL<|jz lY rfl<|aD<|bp<|ae rfl<|aw<|bU c7 rfl<|aO ⟨_,rfl,gg<|iF (pL<|bo<|bp<|ae rfl<|aw<|bU c7 rfl<|aw ⟨trivial,_,rfl,iF ?_<|zqF (by lia)⟩) rfl⟩
 refine wZ<|eL<|jz jB rfl<|aD<|bp<|ae rfl<|aw<|bU c7 rfl<|aD<|aw<|aD<|bI<|DT<|aw<|wx<|aO ⟨_,_,_,rfl,by lia,by lia,gg<|iF (cJ ?_) rfl⟩
 exact bq<|eL<|jz wY rfl<|aD<|bp<|ae rfl<|aw<|bU c7 rfl<|aO ⟨b,ys,c,rfl,s1 _ _ hb,pv.mono<|bM s1,ok,cc,λH2 s2=>gg<|iF (cJ<|k _<|s1.trans s2) rfl⟩
end
def OC:Option (List Pt)->List Nat->List Nat->Prop
 |none,l,r=>l=r
 |some ps,l,r=>bX ps l r
def bV:Option (List Pt)->Nat
 |none=>0
 |some ps=>aA ps
def pP(c:List Pt):Option (List Pt)->List Pt
 |none=>c
 |some f=>rG c f
def pF(c:List Pt)(o:Option (List Pt)):Option (List Pt):=o.map (ip c)
theorem OC.pass:∀{o:Option (List Pt)},OC o l m->bX c l l'->aA c<=5200->bV o<=5200->∃m',OC (pF c o) l' m'/\bX (pP c o) m m'/\bV (pF c o)<=bV o/\aA (pP c o)<=aA c
 |none,h,hc,_,_=>by
  subst h;exact⟨l',rfl,hc,zqR _,zqR _⟩
 |some f,h,hc,t1,t2=>by
  have uo:aA f<=5200:=t2;obtain⟨⟨r,a,b⟩,c1,c2,_⟩:=aef hc (show bX f l m from h) (by lia) (by lia)
  exact⟨r,a,b,c1,c2⟩
theorem OC.len:∀{o:Option (List Pt)},OC o l m->m.length<=l.length+bV o
 |none,h=>by rw[show l=m from h];exact Nat.le_add_right _ _
 |some f,h=>(show bX f l m from h).run.len
theorem nO{n:List Nat}(h:bX c l n)(ht:aA c<=5200):c.length<=10401:=by
 have:=(Ew c "" h.ch h.ok).1;lia
section
variable {K:Frag}{M M':MS}{C CS:Addr}{H H':Hp}{p dp q dq e:Addr}{own:Nat}{x:Str}{kn se:Nat}{fl de:Option (List Pt)}{ea:bJ}
theorem bP.w6(S:bP M CS H q dq e x kn se fl de ea)(hz:H z=none){u:Nat×Addr×List Pt}(h:ea n=some u):u.2.1≠z:=λy=>by
 obtain⟨kvs,_,_,k2⟩:=S.he;have:=k2 n;rw[h] at this;obtain⟨t,xs,_,_,h3,_⟩:=this;rw[y,hz] at h3;cases h3
theorem bP.qs(S:bP M CS H q dq e x kn se fl de ea):∃fs,H q=some (.ins CS dq fs):=let ⟨_,_,h,_⟩:=S.ob;⟨_,h⟩
theorem Au{v:V}{N:MS}{d:Addr}(h:H d=some (.lst xs))(pv:aG H xs ps)(n:¬N d):cX N H (.ref d) (some ps):=⟨d,xs,rfl,h,pv,n⟩
abbrev uq(K:Frag)(E:XK):aV:=aN K [("passed",wg),("done",qT)] [] (E:=E)
theorem Pq{r:List RS}{fld:Str}{fs:List (Str×V)}{N:MS}{o:Option (List Pt)}{a:Addr}{l l' m:List Nat}{u2:Option V}(cl:eP K CS)(na:d0 K CS fld)(hq:H q=some (.ins CS dq fs))(hf:fs.lookup fld=some v)(hl:fs.length<1000)(ho:cX N H v o)(ha:H a=some (.lst xs))(pv:aG H xs c)(hc:bX c l l')(hm:OC o l m)(t1:aA c<=5200)(t2:bV o<=5200)
  (k0:o=none->∀u2,aE (uq K E) r D [some<|.ref q,some<|.ref a,u2] H)
  (k1:∀f,o=some f->∀c' d H1 zs ws u2,aC H H1->H c'=none->H d=none->c'≠d->H1 c'=some (.lst zs)->H1 d=some (.lst ws)->aG H1 zs (rG c f)->aG H1 ws (ip c f)->aE (uq K E) r D [some<|.ref q,some<|.ref c',u2] (upd H1 q<|.ins CS dq<|aI fld (.ref d) fs)):
  aE (uq K E) (.ite (.cmp .IsNot (.fld (.v 0) fld)<|.c .au) [.asg 2<|.call 0 [.v 1,(.fld (.v 0) fld)],.asg 1<|.ix (.v 2)<|.c<|.int 0,.bT (.v 0) fld<|.ix (.v 2)<|.c<|.int 1] []::r) D [some<|.ref q,some<|.ref a,u2] H:=by
 cases o with
 |none=>
  cases (show v=.au from ho)
  exact bq<|bo<|br<|ae rfl ⟨q,CS,dq,_,_,rfl,hq,cl,na,hf,aw<|uk ⟨_,rfl,iF (cJ<|k0 rfl _) (rfl)⟩⟩
 |some f=>
  obtain⟨b,ys,rfl,hb,pb,_⟩:=(show d4 N H v f from ho)
  have t2:aA f<=5200:=t2;have l1:=nO hc t1;have l2:=nO hm t2;refine bq<|bo<|br<|ae rfl ⟨q,CS,dq,_,_,rfl,hq,cl,na,hf,aw<|uk ⟨_,rfl,iT (bD<|bN wg rfl<|aD<|ae rfl<|aD<|br<|ae rfl ⟨q,CS,dq,_,_,rfl,hq,cl,na,hf,aO ⟨a,b,xs,ys,c,f,l,l',m,rfl,ha,hb,pv,pb,hc.ok,hm.ok,hc.ch,hm.ch,by lia,by lia,hc.run,hm.run,λt c' d H1 zs ws ps qs s1 fc fd gf ht jI hd pz pw P=>?_⟩⟩) (rfl)⟩⟩
  rw[<-(aee hc.ok P (by lia))] at pz;rw[<-((O_ hm.ok P (by lia)).1)] at pw;exact bD<|bp<|ae rfl<|aw<|bU ht rfl (dm<|bp<|ae rfl<|aw<|bU ht rfl<|ae rfl ⟨q,CS,dq,_,rfl,s1 _ _ hq,cl,na,hl,k1 f rfl c' d H1 zs ws _ s1 fc fd gf jI hd pz pw⟩)
inductive EV (CS:Addr)(vs:List V)(H:Hp)(Q:VK)(E:XK):Prop|i(M:MS)(q dq e:Addr)(x:Str)(kn se:Nat)(fl de:Option (List Pt))(ea:bJ)(a:Addr)(xs:List V)(c:List Pt)(l l' m:List Nat)(_:vs=[.ref q,.ref a])(_:bP (M.add a) CS H q dq e x kn se fl de ea)(_:Al M H)(_:H a=some (.lst xs))(_:aG H xs c)(_:bX c l l')(_:OC fl l m)(_:OC de m x.cps.toList)(_:aA c<=5200)(_:bV fl<=5200)(_:bV de<=5200)(_:good x)(_:x.length<=100000)(_:∀a' bB r H',Run x.cps.toList (pP (pP c fl) de) r->bx (· =q) H H'->(a'=a\/H a'=none)->bP (M.add a') CS H' q dq e ⟨r.toArray⟩ kn se (pF c fl) (pF (pP c fl) de) ea->H' a'=some (.lst bB)->aG H' bB (pP (pP c fl) de)->Q (.ref a') H')
theorem aeD(TS:ic K CS):bQ (EV CS) (λE=>uq K E) LA Lz:=by
 intro vs H Q E h;obtain⟨M,q,dq,e,x,kn,se,fl,de,ea,a,xs,c,l,l',m,rfl,S,al,ha,pv,hc,hf,hd,t1,t2,t3,gx,lx,k⟩:=h;obtain⟨m',BW,jI,tf,tc⟩:=hf.pass hc t1 t2;obtain⟨r,lE,c4,td,tc2⟩:=hd.pass jI (by lia) t3
 have fin:∀a' bB H' u2,bx (· =q) H H'->(a'=a\/H a'=none)->bP (M.add a') CS H' q dq e x kn se (pF c fl) (pF (pP c fl) de) ea->H' a'=some (.lst bB)->aG H' bB (pP (pP c fl) de)->aE (uq K E) [.bT (.v 0) "signs"<|.call 1 [(.fld (.v 0) "signs"),.v 1],.ret<|.v 1] (Dn Q) [some<|.ref q,some<|.ref a',u2] H':=by
  intro a' bB H' u2 b' fa S' iK mw;obtain⟨vf,vd,h1,h2,h3⟩:=S'.ob;have rl:=c4.run.len;have lx':=len_list x;have ls:=nO c4 (by lia)
  refine dm<|bN qT rfl<|aD<|br<|ae rfl ⟨q,CS,dq,_,_,rfl,h1,TS.cl,TS.js,Aj,aD<|ae rfl<|aO ⟨x,a',bB,_,r,rfl,gx,iK,mw,c4.ok,c4.ch,by lia,c4.run,by lia,λH2 s2=>?_⟩⟩
  refine ae rfl ⟨q,CS,dq,_,rfl,s2 _ _ h1,TS.cl,TS.js,(by simp),?_⟩
  rw[EI];have S2:=(S'.same s2).put (x':=⟨r.toArray⟩) (kn':=kn) (se':=se) (h2.same s2) (h3.same s2);have tT:=rM (o:=.ins CS dq (f6 ⟨r.toArray⟩ kn se vf vd<|.ref e)) (s2 _ _ h1);refine bS<|ae rfl<|k a' bB r _ c4.run (b'.trans<|(bx.same s2).trans bx.upd) fa S2 ?_<|(mw.mono<|bM s2).mono tT;rw[az (λy=>by lia)];exact s2 _ _ iK
 have nM:∀{H0:Hp}{z:Addr},Al M H0->H0 z=none-> ¬M z:=λal hz hm=>by obtain⟨o,ho⟩:=al _ hm;rw[hz] at ho;cases ho
 have second:∀a1 gF H1 u2,bx (· =q) H H1->(a1=a\/H a1=none)->bP (M.add a1) CS H1 q dq e x kn se (pF c fl) de ea->H1 a1=some (.lst gF)->aG H1 gF (pP c fl)->aE (uq K E) [.ite (.cmp .IsNot (.fld (.v 0) "delayed")<|.c .au) [.asg 2<|.call 0 [.v 1,(.fld (.v 0) "delayed")],.asg 1<|.ix (.v 2)<|.c<|.int 0,.bT (.v 0) "delayed"<|.ix (.v 2)<|.c<|.int 1] [],.bT (.v 0) "signs"<|.call 1 [(.fld (.v 0) "signs"),.v 1],.ret<|.v 1] (Dn Q) [some<|.ref q,some<|.ref a1,u2] H1:=by
  intro a1 gF H1 u2 b1 fa1 S1 eo ur;obtain⟨vf,vd,h1,h2,h3⟩:=S1.ob;have Av:Al M H1:=λz hz=>by
   by_cases y:z=q
   ·exact⟨_,y▸h1⟩
   ·obtain⟨o,ho⟩:=al z hz;exact⟨o,b1 _ _ ho y⟩
  refine Pq TS.cl TS.jV h1 rJ (by simp) h3 eo ur jI hd (by lia) t3 (λe0 u2=>?_)<|λf ef c' d H2 zs ws u2 s2 fc fd gf rO hd2 pz pw=>?_
  ·subst e0;exact fin a1 gF H1 u2 b1 fa1 S1 eo ur
  ·subst ef;rw[wJ];have fr:∀{z:Addr},H1 z=none->H z=none:=λ{z} hz=>by
    cases ez:H z with
    |none=>rfl
    |some o=>
     by_cases y:z=q
     ·rw[y,h1] at hz;cases hz
     ·rw[b1 _ _ ez y] at hz;cases hz
   have S2:=(S1.weak (M':=M.add c') λz hz=>hz.elim (λy=>.inr<|y ▸ fc) λy=>.inl (.inr y)).same s2;obtain⟨EW,EX,g1,g2,g3⟩:=S2.ob;have e1:=s2 _ _ h1;rw[g1] at e1;have evf:EW=vf:=by cases e1;rfl
   subst evf;have S3:=S2.put (x':=x) (kn':=kn) (se':=se) g2 (Au (v:=.au) hd2 pw λhz=>by
    rcases hz with(y|y)|⟨n,u,hu,y⟩
    ·exact gf y.symm
    ·exact nM Av fd y
    ·exact S1.w6 fd hu y)
   have tT:=rM (o:=.ins CS dq (f6 x kn se EW (.ref d)<|.ref e)) (s2 _ _ h1);refine fin c' zs _ u2 (b1.trans<|(bx.same s2).trans bx.upd) (.inr<|fr fc) S3 ?_<|pz.mono tT;rw[az (λy=>by lia)];exact rO
 obtain⟨vf,vd,h1,h2,h3⟩:=S.ob;refine Pq TS.cl TS.iH h1 kZ (by simp) h2 ha pv hc hf t1 t2 (λe0 u2=>?_)<|λf ef c' d H2 zs ws u2 s2 fc fd gf rO hd2 pz pw=>?_
 ·subst e0;exact second a xs H u2 (λ_ _ z _=>z) (.inl rfl) S ha pv
 ·subst ef;rw[Ak];have S2:=(S.weak (M':=M.add c') λz hz=>hz.elim (λy=>.inr<|y ▸ fc) λy=>.inl (.inr y)).same s2;obtain⟨EW,EX,g1,g2,g3⟩:=S2.ob;have e1:=s2 _ _ h1;rw[g1] at e1;have evd:EX=vd:=by cases e1;rfl
  subst evd;have S3:=S2.put (x':=x) (kn':=kn) (se':=se) (Au (v:=.au) hd2 pw λhz=>by
   rcases hz with(y|y)|⟨n,u,hu,y⟩
   ·exact gf y.symm
   ·exact nM al fd y
   ·exact S.w6 fd hu y) g3
  have tT:=rM (o:=.ins CS dq (f6 x kn se (.ref d) EX<|.ref e)) (s2 _ _ h1);refine second c' zs _ u2 ((bx.same s2).trans bx.upd) (.inr fc) S3 ?_<|pz.mono tT;rw[az (λy=>by lia)];exact rO
theorem dG.pq(S:dG M C CS H p dp q dq e own x kn se fl de ea):p≠q:=λy=>by
 obtain⟨_,_,h,_⟩:=S.st.ob;have:=S.ob;rw[y,h] at this;cases this
theorem fr_but{D:Addr}(b:bx (· =q) H H1)(h:H1 q=some (.ins D dq fs))(hz:H1 z=none):H z=none:=by
 cases ez:H z with
 |none=>rfl
 |some o=>
  by_cases y:z=q
  ·rw[y,h] at hz;cases hz
  ·rw[b _ _ ez y] at hz;cases hz
theorem Al.but{D:Addr}(al:Al M H)(b:bx (· =q) H H1)(h:H1 q=some (.ins D dq fs)):Al M H1:=λz hz=>by
 by_cases y:z=q
 ·exact⟨_,y▸h⟩
 ·obtain⟨o,ho⟩:=al z hz;exact⟨o,b _ _ ho y⟩
theorem Al.no(al:Al M H)(hz:H z=none):¬M z:=λhm=>by obtain⟨o,ho⟩:=al _ hm;rw[hz] at ho;cases ho
def DoK(M:MS)(C CS:Addr)(H:Hp)(Q:VK)(p dp q dq e:Addr)(own:Nat)(kn se:Nat)(ea:bJ)(c:List Pt)(m r:List Nat):Option (List Pt)->Option (List Pt)->Prop
 |none,_=>∀L t l H',bx (· =q) H H'->H L=none->H t=none->H l=none->dG ((M.add L).add l) C CS H' p dp q dq e own ⟨r.toArray⟩ kn (se+1) (some c) none ea->H' L=some (.lst [.ref t])->um H' t own (se+1) kn c l->Q (.ref L) H'
 |some f,none=>∀L H',bx (· =q) H H'->H L=none->dG (M.add L) C CS H' p dp q dq e own ⟨r.toArray⟩ kn se (some f) (some c) ea->H' L=some (.lst [])->Q (.ref L) H'
 |some f,some d=>∀L ps H',bx (· =q) H H'->H L=none->D8 d c ps m r->dG (M.add L) C CS H' p dp q dq e own ⟨r.toArray⟩ kn se (some f) (some ps) ea->H' L=some (.lst [])->Q (.ref L) H'
inductive Aw (C CS:Addr)(vs:List V)(H:Hp)(Q:VK)(E:XK):Prop|i(M:MS)(p dp q dq e:Addr)(own:Nat)(x:Str)(kn se:Nat)(fl de:Option (List Pt))(ea:bJ)(a:Addr)(xs:List V)(c:List Pt)(m r:List Nat)(_:vs=[.ref p,.ref a])(_:dG M C CS H p dp q dq e own x kn se fl de ea)(_:Al M H)(_:(fl=none->de=none))(_:H a=some (.lst xs))(_:aG H xs c)(_:bX c x.cps.toList r)(_:OC de m x.cps.toList)(_:aA c<=5200)(_:bV de<=5200)(_:good x)(_:x.length<=100000)(_:DoK M C CS H Q p dp q dq e own kn se ea c m r fl de)
abbrev Pr(K:Frag)(C CS:Addr)(E:XK):aV:=aN K [("done",qT),("then",D9)] [] [] [("take_off",C,wQ C CS)] (E:=E)
theorem aeJ(T:iI K C)(TS:ic K CS):bQ (Aw C CS) (λE=>Pr K C CS E) LW LV:=by
 intro vs H Q E h;obtain⟨M,p,dp,q,dq,e,own,x,kn,se,fl,de,ea,a,xs,c,m,r,rfl,S,al,fd,ha,pv,hc,hd,t1,t2,gx,lx,k⟩:=h;have dC:=S.pq;obtain⟨vf,vd,h1,h2,h3⟩:=S.st.ob;have rl:=hc.run.len;have lx':=len_list x;have ls:=nO hc t1;refine bD<|br<|ae rfl ⟨p,C,dp,_,_,rfl,S.ob,T.cl,T.kE,nN,?_⟩;refine bD<|bN qT rfl<|aD<|br<|ae rfl ⟨q,CS,dq,_,_,rfl,h1,TS.cl,TS.js,Aj,aD<|ae rfl<|aO ⟨x,a,xs,_,r,rfl,gx,ha,pv,hc.ok,hc.ch,by lia,hc.run,by lia,λH1 s1=>?_⟩⟩
 have S1:=S.same s1;have Av:Al M H1:=λz hz=>let ⟨o,ho⟩:=al z hz;⟨o,s1 _ _ ho⟩;have eo:=s1 _ _ ha;have ur:=pv.mono (bM s1)
 replace h1:=s1 _ _ h1
 replace h2:=h2.same s1
 replace h3:=h3.same s1
 have fin:∀{f:List Pt}{d':List Pt}{H2:Hp}{b:Addr}{ys:List V},fl=some f->aC H1 H2->H1 b=none->H2 b=some (.lst ys)->aG H2 ys d'->(∀L H',bx (· =q) H H'->H L=none->dG (M.add L) C CS H' p dp q dq e own ⟨r.toArray⟩ kn se (some f) (some d') ea->H' L=some (.lst [])->Q (.ref L) H')->aE (Pr K C CS E) [.bT (.v 2) "signs"<|.v 3,.ret<|.jm (.cmp .Is (.fld (.v 2) "flying")<|.c .au) (.aR 0 "take_off" (.v 0) [.v 2,(.blt .list [.v 1])])<|.lst []] (Dn Q) [some<|.ref p,some<|.ref a,some<|.ref q,some<|.str ⟨r.toArray⟩] (upd H2 q<|.ins CS dq<|f6 x kn se vf (.ref b)<|.ref e):=by
  intro f d' H2 b ys ef s2 fb hb pb kk;subst ef;have S2:=(S1.st.same s2).put (x':=x) (kn':=kn) (se':=se) (vd:=.ref b) (de':=some d') (h2.same s2) (Au (v:=.au) hb pb λhz=>hz.elim (Av.no fb) λ⟨n,u,hu,y⟩=>S1.st.w6 fb hu y);have b2:bx (· =q) H (upd H2 q<|.ins CS dq<|f6 x kn se vf (.ref b)<|.ref e):=(bx.same<|s1.trans s2).trans bx.upd;have eT:upd H2 q (.ins CS dq<|f6 x kn se vf (.ref b)<|.ref e) q=some (.ins CS dq<|f6 x kn se vf (.ref b)<|.ref e):=ay;have Pu:=(h2.same s2).ins (o:=.ins CS dq (f6 x kn se vf (.ref b)<|.ref e)) (s2 _ _ h1);have q_:cX (M.ea ea) (upd H2 q<|.ins CS dq<|f6 x kn se vf (.ref b)<|.ref e) (.ref b) (some d'):=(Au (v:=.au) hb pb λhz=>hz.elim (Av.no fb) λ⟨n,u,hu,y⟩=>S1.st.w6 fb hu y:cX (M.ea ea) H2 (.ref b) (some d')).ins (s2 _ _ h1);generalize upd H2 q (.ins CS dq<|f6 x kn se vf (.ref b)<|.ref e)=H3 at S2 b2 eT Pu q_⊢;refine dm<|ae rfl<|ae rfl ⟨q,CS,dq,_,rfl,eT,TS.cl,TS.js,(by show 6<1000;decide),?_⟩
  rw[EI];have S3:=S2.put (x':=⟨r.toArray⟩) (kn':=kn) (se':=se) (fl':=some f) (de':=some d') Pu q_;have b3:bx (· =q) H (upd H3 q<|.ins CS dq<|f6 ⟨r.toArray⟩ kn se vf (.ref b)<|.ref e):=b2.trans bx.upd;have iQ:upd H3 q (.ins CS dq<|f6 ⟨r.toArray⟩ kn se vf (.ref b)<|.ref e) q=some (.ins CS dq<|f6 ⟨r.toArray⟩ kn se vf (.ref b)<|.ref e):=ay;obtain⟨fa,fxs,rfl,_⟩:=(show d4 (M.ea ea) H1 vf f from h2)
  refine bS<|pJ<|bo<|br<|ae rfl ⟨q,CS,dq,_,_,rfl,iQ,TS.cl,TS.iH,kZ,aw<|nK ⟨_,rfl,iF (fH<|aO ⟨zqZ _,λL fL=>?_⟩) pK⟩⟩;have s5:=sameNew (o:=.lst []) fL;exact kk L _ (b3.trans<|bx.same s5) (fr_but b3 iQ fL) ⟨s5 _ _<|b3 _ _ S.ob dC,(S3.weak (M':=M.add L) λz hz=>hz.elim (λy=>.inr<|y ▸ fL) .inl).same s5⟩ ay
 cases de with
 |some d=>
  cases fl with
  |none=>cases fd rfl
  |some f=>
   obtain⟨b,ys,rfl,hb,pb,nb⟩:=(show d4 (M.ea ea) H1 vd d from h3)
   have t2:aA d<=5200:=t2;have ld:=nO hd t2;refine bq<|bo<|br<|ae rfl ⟨q,CS,dq,_,_,rfl,h1,TS.cl,TS.jV,rJ,aw<|uk ⟨_,rfl,iT ?_ (by rw[pK];rfl)⟩⟩
   refine dm<|bN D9 rfl<|aD<|br<|ae rfl ⟨q,CS,dq,_,_,rfl,h1,TS.cl,TS.jV,rJ,aD<|ae rfl<|aO ⟨b,a,ys,xs,d,c,m,x.cps.toList,r,rfl,hb,eo,pb,ur,hd.ok,hc.ok,hd.ch,hc.ch,by lia,by lia,hd.run,hc.run,λz H2 zs ps s2 fz hz pz J=>?_⟩⟩
   refine ae rfl ⟨q,CS,dq,_,rfl,s2 _ _ h1,TS.cl,TS.jV,(by show 6<1000;decide),?_⟩
   rw[wJ];exact fin rfl s2 fz hz pz λL H' b' fL S' hL=>k L ps H' b' fL J S' hL
 |none=>
  cases (show vd=.au from h3)
  refine bq<|bo<|br<|ae rfl ⟨q,CS,dq,_,_,rfl,h1,TS.cl,TS.jV,rJ,aw<|uk ⟨_,rfl,iF ?_ (by rw[zqT rfl];rfl)⟩⟩
  cases fl with
  |some f=>
   obtain⟨fa,fxs,rfl,_⟩:=(show d4 (M.ea ea) H1 vf f from h2)
   refine bq<|bo<|br<|ae rfl ⟨q,CS,dq,_,_,rfl,h1,TS.cl,TS.iH,kZ,aw<|uk ⟨_,rfl,iT ?_ (by rw[pK];rfl)⟩⟩
   refine dm<|pI<|ae rfl ⟨_,.inl<|aB.of eo,λb fb=>?_⟩;have s2:=sameNew (o:=.lst xs) fb;refine ae rfl ⟨q,CS,dq,_,rfl,s2 _ _ h1,TS.cl,TS.jV,(by show 6<1000;decide),?_⟩
   rw[wJ];exact fin rfl s2 fb ay (ur.mono<|bM s2) k
  |none=>
   cases (show vf=.au from h2)
   refine bq<|bo<|br<|ae rfl ⟨q,CS,dq,_,_,rfl,h1,TS.cl,TS.iH,kZ,aw<|uk ⟨_,rfl,iF (cJ ?_) (by rw[zqT rfl];rfl)⟩⟩
   refine dm<|ae rfl<|ae rfl ⟨q,CS,dq,_,rfl,h1,TS.cl,TS.js,(by show 6<1000;decide),?_⟩
   rw[EI];have S2:=S1.st.put (x':=⟨r.toArray⟩) (kn':=kn) (se':=se) (fl':=none) (de':=none) h2 h3;have b2:bx (· =q) H (upd H1 q<|.ins CS dq<|f6 ⟨r.toArray⟩ kn se .au .au<|.ref e):=(bx.same s1).trans bx.upd;have eT:upd H1 q (.ins CS dq<|f6 ⟨r.toArray⟩ kn se .au .au<|.ref e) q=some (.ins CS dq<|f6 ⟨r.toArray⟩ kn se .au .au<|.ref e):=ay;have tT:=rM (o:=.ins CS dq (f6 ⟨r.toArray⟩ kn se .au .au<|.ref e)) h1;have gZ:upd H1 q (.ins CS dq<|f6 ⟨r.toArray⟩ kn se .au .au<|.ref e) a=some (.lst xs):=by rw[az (λy=>by rw[y,h1] at eo;cases eo)];exact eo
   have Ap:=ur.mono tT;generalize upd H1 q (.ins CS dq<|f6 ⟨r.toArray⟩ kn se .au .au<|.ref e)=H2 at S2 b2 eT tT gZ Ap⊢;refine bS<|pJ<|bo<|br<|ae rfl ⟨q,CS,dq,_,_,rfl,eT,TS.cl,TS.iH,kZ,aw<|nK ⟨_,rfl,iT ?_<|zqT rfl⟩⟩;have e_:=b2 _ _ S.ob dC;refine Ae C (wQ C CS) rfl<|ae rfl ⟨p,dp,_,rfl,e_,hU,ae rfl<|pI<|ae rfl ⟨_,.inl<|aB.of gZ,λb fb=>?_⟩⟩;have s3:=sameNew (o:=.lst xs) fb;have Pw:upd H2 b (.lst xs) b=some (.lst xs):=ay;generalize upd H2 b (.lst xs)=H3 at s3 Pw⊢;have al2:=al.but b2 eT;refine⟨M,p,dp,q,dq,e,q,.ref b,own,⟨r.toArray⟩,kn,se,c,none,none,ea,rfl,s3 _ _ e_,dC,S2.same s3,⟨b,xs,rfl,Pw,Ap.mono<|bM s3,λhz=>hz.elim (al2.no fb) λ⟨n,u,hu,y⟩=>S2.w6 fb hu y⟩,λL t l H4 b4 fL ft fl' S4 hL hA=>?_⟩;have Px:=(b2.trans<|bx.same s3).trans b4;have fr:∀{z:Addr},H3 z=none->H z=none:=λhz=>fr_but b2 eT (s3.free hz);exact k L t l H4 Px (fr fL) (fr ft) (fr fl') ⟨Px _ _ S.ob dC,S4⟩ hL hA
end
structure Gs where
 x:Str
 kn:Nat
 se:Nat
 fl:Option (List Pt)
 de:Option (List Pt)
abbrev Ask:=Nat×Nat×List Pt
def rP(se:Nat):Option (List Pt)->Nat
 |none=>se
 |some _=>se+1
def w9(se kn:Nat):Option (List Pt)->List Ask
 |none=>[]
 |some d=>[(se+1,kn,d)]
def c9(own:Nat)(e:Nat×List Pt)(g:Gs):Gs:=if e.1=own then ⟨g.x,g.kn+1,rP g.se g.de,g.de,none⟩ else ⟨⟨(out g.x.cps.toList<|av<|pP (pP e.2 g.fl) g.de).toArray⟩,g.kn+1,g.se,pF e.2 g.fl,pF (pP e.2 g.fl) g.de⟩
def k6(own:Nat)(e:Nat×List Pt)(g:Gs):List Ask:=if e.1=own then w9 g.se (g.kn+1) g.de else []
def k7(own:Nat)(e:Nat×List Pt)(g:Gs):List (List Pt):=if e.1=own then [] else [pP (pP e.2 g.fl) g.de]
def bF(own:Nat)(tk:List (Nat×List Pt))(g:Gs):Nat->Gs×List Ask×List (List Pt)
 | 0=>(g,[],[])
 |j+1=>(c9 own (tk.getD (bF own tk g j).1.kn (0,[])) (bF own tk g j).1,(bF own tk g j).2.1++k6 own (tk.getD (bF own tk g j).1.kn (0,[])) (bF own tk g j).1,(bF own tk g j).2.2++k7 own (tk.getD (bF own tk g j).1.kn (0,[])) (bF own tk g j).1)
theorem aeM(own:Nat)(e:Nat×List Pt)(g:Gs):(c9 own e g).kn=g.kn+1:=by unfold c9;split<;>rfl
theorem w_(own:Nat)(tk:List (Nat×List Pt))(g:Gs):∀j,(bF own tk g j).1.kn=g.kn+j
 | 0=>rfl
 |j+1=>by show(c9 _ _ _).kn=_;rw[aeM,w_ own tk g j];rfl
theorem EY(own:Nat)(tk:List (Nat×List Pt))(g:Gs):∀j,(bF own tk g j).2.1.length<=j/\(bF own tk g j).2.2.length<=j
 | 0=>⟨zqR _,zqR _⟩
 |j+1=>by
  obtain⟨a,b⟩:=EY own tk g j;have h1:∀(e:Nat×List Pt) (g:Gs),(k6 own e g).length<=1/\(k7 own e g).length<=1:=λe g=>by
   unfold k6 k7
   split
   ·exact⟨by cases g.de<;>simp[w9],by simp⟩
   ·exact⟨by simp,by simp⟩
  obtain⟨c,d⟩:=h1 (tk.getD (bF own tk g j).1.kn (0,[])) (bF own tk g j).1
  constructor
  ·show(_++_:List Ask).length<=_;rw[zqA];lia
  ·show(_++_:List (List Pt)).length<=_;rw[zqA];lia
theorem aeN{at':Nat}{h:Nat}(e:tk[at']?=some (h,ps)):pj tk at' (j+1) c=pj tk (at'+1) j (ip ps c):=by
 obtain⟨hl,he⟩:=zad.mp e;unfold pj;rw[zaX hl,he];rfl
theorem uu{at':Nat}:pj tk at' 0 c=c:=rfl
theorem EZ(h:Run l ps r)(h':Run l ps r'):r=r':=h.fits.2.symm.trans h'.fits.2
structure Iv (own:Nat) (tx:List (List Nat)) (tk:List (Nat×List Pt)) (g:Gs):Prop where
 T:Taken tx tk
 gt:∀l∈tx,l.length<=5200/\∀c∈l,SG.cps.contains c=true
 kn:g.kn<=tk.length
 fd:g.fl=none->g.de=none
 oc:∃l m,tx[g.kn]?=some l/\OC g.fl l m/\OC g.de m g.x.cps.toList
 tf:bV g.fl<=5200
 td:bV g.de<=5200
 gx:∀c∈g.x.cps.toList,SG.cps.contains c=true
 pend:∀j ps,tk[g.kn+j]?=some (own,ps)->(∃f,g.fl=some f/\ps=pj tk g.kn j f)/\∀j',j'<j->∀e,tk[g.kn+j']?=some e->e.1≠own
theorem Iv.len{tk:List (Nat×List Pt)}{g:Gs}(I:Iv own tx tk g):g.x.length<=15600/\good g.x:=by
 obtain⟨l,m,h1,h2,h3⟩:=I.oc;have a:=(I.gt l<|zal h1).1;have b:=h2.len;have c:=h3.len;have d:=I.tf;have e:=I.td;have f:=len_list g.x;exact⟨by lia,by lia,I.gx⟩
theorem OC.good:∀{o:Option (List Pt)},OC o l m->(∀c∈l,SG.cps.contains c=true)->∀c∈m,SG.cps.contains c=true
 |none,h,g=>by rw[<-show l=m from h];exact g
 |some f,h,g=>by
  exact h.run.good g λp hp=>Es (h.ok p hp)
theorem Iv.at'{g:Gs}(I:Iv own tx tk g){e:Nat×List Pt}(he:tk[g.kn]?=some e):∃l l' m,tx[g.kn]?=some l/\tx[g.kn+1]?=some l'/\bX e.2 l l'/\aA e.2<=5200/\OC g.fl l m/\OC g.de m g.x.cps.toList:=by
 obtain⟨l,m,h1,h2,h3⟩:=I.oc;have hk:=(zad.mp he).1;obtain⟨l',h4⟩:∃l',tx[g.kn+1]?=some l':=⟨_,zai (by rw[I.T.len];lia)⟩
 obtain⟨c1,c2⟩:=I.T.chg _ e.1 e.2 _ _ he h1 h4;exact⟨l,l',m,h1,h4,c1,c2,h2,h3⟩
theorem Iv.next{g:Gs}(I:Iv own tx tk g){e:Nat×List Pt}(he:tk[g.kn]?=some e):Iv own tx tk (c9 own e g):=by
 have hk:=(zad.mp he).1;obtain⟨l,l',m,h1,h4,c1,c2,h2,h3⟩:=I.at' he;unfold c9;by_cases ho:e.1=own
 ·rw[if_pos ho];have Ax:tk[g.kn+0]?=some (own,e.2):=by lia
  obtain⟨⟨f,ef,Ay⟩,_⟩:=I.pend 0 e.2 Ax;rw[ef] at h2;have em:=EZ h2.run (Ay ▸ c1.run);subst em;refine⟨I.T,I.gt,hk,λ_=>rfl,⟨m,_,h4,h3,rfl⟩,I.td,zqZ _,I.gx,λj ps hj=>?_⟩;have bu:tk[g.kn+(j+1)]?=some (own,ps):=by lia
  exact absurd ho<|(I.pend (j+1) ps bu).2 0 (zbg _) e he
 ·rw[if_neg ho];obtain⟨m',a1,a2,a3,a4⟩:=h2.pass c1 c2 I.tf;obtain⟨r,b1,b2,b3,b4⟩:=h3.pass a2 (by lia) I.td
  rw[b2.run.fits.2];have el:(⟨r.toArray⟩:Str).cps.toList=r:=rfl
  refine⟨I.T,I.gt,hk,λz=>?_,⟨l',m',h4,a1,by lia⟩,zaq a3 I.tf,zaq b3 I.td,el▸b1.good (a1.good (I.gt _<|zal h4).2),λj ps hj=>?_⟩
  ·have:g.fl=none:=by
    cases eg:g.fl with
    |none=>rfl
    |some f=>rw[eg] at z;cases z
   rw[I.fd this];rfl
  ·have bu:tk[g.kn+(j+1)]?=some (own,ps):=by lia
   obtain⟨⟨f,ef,Ay⟩,un⟩:=I.pend (j+1) ps bu;refine⟨⟨ip e.2 f,ef▸rfl,Ay▸aeN he⟩,λj' bu e' Ax=>un (j'+1) (by lia) e' (by lia)⟩
theorem Iv.run{tx:List (List Nat)}{tk:List (Nat×List Pt)}{g:Gs}(I:Iv own tx tk g):∀j,g.kn+j<=tk.length->Iv own tx tk (bF own tk g j).1
 | 0,_=>I
 |j+1,h=>by
  refine (Iv.run I j (by lia)).next ?_;rw[zaN,w_,zai (by lia)];rfl
theorem Py[DecidableEq κ](k j:κ):∀kvs:List (κ×V),c5 (fX kvs k) j=if j=k then none else c5 kvs j
 |[]=>by split<;>rfl
 |p::r=>by
  have ih:=Py k j r;by_cases h:p.1=k
  ·have e:fX (p::r) k=fX r k:=by unfold fX;simp[h]
   rw[e,ih];by_cases e:j=k
   ·rw[if_pos e,if_pos e]
   ·rw[if_neg e,if_neg e,e9<|λz=>e<|z.symm.trans h]
  ·have e:fX (p::r) k=p::fX r k:=by unfold fX;simp[h]
   rw[e];by_cases e:p.1=j
   ·rw[gR e,gR e,if_neg<|λz=>h<|e.trans z]
   ·rw[e9 e,e9 e,ih]
def gj(k:Nat)(f:bJ):bJ:=⟨λn=>if n<=k then none else f n,f.nb⟩
def nQ(f:bJ)(n cA:Nat)(a0:Addr)(c:List Pt):bJ:=⟨λj=>if j=n then some (cA,a0,c) else f j,f.nb+1⟩
def Pz(kn:Nat)(ea:bJ)(n0 cA:Nat)(c:List Pt)(a0:Addr)(ea0:bJ):Prop:=(kn<n0/\ea n0=none/\ea0=nQ ea n0 cA a0 c)\/((n0<=kn\/∃u,ea n0=some u)/\ea0=ea)
section
variable {K:Frag}{M M' N N':MS}{C CS:Addr}{H H':Hp}{p dp q dq e:Addr}{own:Nat}{x:Str}{kn se:Nat}{fl de:Option (List Pt)}{ea ea0:bJ}
theorem k9{o o0:HO}(h:H z=some o0)(n:∀us,o0≠ .tup us):dR H (upd H z o):=λy us ey=>by
 rw[az (λw=>by rw[w,h] at ey;cases ey;exact n us rfl)];exact ey
theorem uv{o o0:HO}{a:Addr}(h:H z=some o0)(n:∀us,o0≠ .lst us)(ha:H a=some (.lst xs)):upd H z o a=some (.lst xs):=by
 rw[az (λw=>by rw[w,h] at ha;cases ha;exact n xs rfl)];exact ha
theorem cX.nS{o o0:HO}(h:H z=some o0)(n:∀us,o0≠ .tup us)(n':∀us,o0≠ .lst us):∀{w:Option (List Pt)},cX M H v w->cX M (upd H z o) v w
 |none,h=>h
 |some _,⟨a,xs,h1,h2,h3,h4⟩=>⟨a,xs,h1,uv h n' h2,h3.mono<|k9 h n,h4⟩
theorem gh.nS{o o0:HO}{v:Option V}(h:H z=some o0)(n:∀us,o0≠ .tup us)(n':∀us,o0≠ .lst us):∀{w:Option (Nat×Addr×List Pt)},gh M H v w->gh M (upd H z o) v w
 |none,h=>h
 |some _,⟨t,xs,h1,h2,h3,h4,h5⟩=>⟨t,xs,h1,k9 h n _ _ h2,uv h n' h3,h4.mono<|k9 h n,h5⟩
theorem bP.early{kvs:List (Key×V)}(S:bP (M.add a0) CS H q dq e x kn se fl de ea)(he:H e=some (.dK kvs))(ht:H t0=some (.tup [.int (cA:Nat),.ref a0]))(ha:H a0=some (.lst ys))(pv:aG H ys c)(nM:¬M a0)(hn:ea n=none):bP M CS (upd H e<|.dK<|putK kvs (.inl (n:Int))<|.ref t0) q dq e x kn se fl de (nQ ea n cA a0 c):=by
 obtain⟨vf,vd,h1,h2,h3⟩:=S.ob;obtain⟨aeO,k1,k3,k2⟩:=S.he;rw[he] at k1;cases k1;have nt:∀us:List V,(HO.dK kvs)≠ .tup us:=nofun
 have nl:∀us:List V,(HO.dK kvs)≠ .lst us:=nofun
 have w:∀z,M.ea (nQ ea n cA a0 c) z->(M.add a0).ea ea z\/H z=none:=λz hz=>by
  rcases hz with hz|⟨j,u,hu,rfl⟩
  ·exact .inl (.inl<|.inr hz)
  ·simp only[nQ] at hu
   split at hu
   ·cases hu;exact .inl (.inl<|.inl rfl)
   ·exact .inl (.inr ⟨j,u,hu,rfl⟩)
 refine⟨⟨vf,vd,by rw[az (λy=>by lia)];exact h1,(h2.weak w).nS he nt nl,(h3.weak w).nS he nt nl⟩,⟨_,ay,by have:=yt kvs (.inl (n:Int)) (.ref t0);show _<=ea.nb+1;lia,λj=>?_⟩,λi j u v hu hv E1=>?_⟩
 ·rw[UT]
  simp only[nQ]
  by_cases hj:j=n
  ·rw[if_pos (by lia),if_pos hj]
   exact⟨t0,ys,rfl,k9 he nt _ _ ht,uv he nl ha,pv.mono<|k9 he nt,nM⟩
  ·rw[if_neg<|λz=>hj (by lia),if_neg hj]
   exact((k2 j).weak λz hz=>.inl (.inr hz)).nS he nt nl
 ·have PB:∀{j:Nat}{u:Nat×Addr×List Pt},ea j=some u->u.2.1≠a0:=λ{j u} hu y=>by
   have:=k2 j;rw[hu] at this;obtain⟨_,_,_,_,_,_,h5⟩:=this;exact h5<|.inl y
  simp only[nQ] at hu hv
  split at hu
  ·cases hu
   split at hv
   ·cases hv;lia
   ·exact absurd E1.symm (PB hv)
  ·split at hv
   ·cases hv;exact absurd E1 (PB hu)
   ·exact S.nd i j u v hu hv E1
theorem bP.pop{kvs:List (Key×V)}(S:bP M CS H q dq e x kn se fl de ea)(he:H e=some (.dK kvs))(hn:ea n=some u)(h0:∀j,ea0 j=if j=n then none else ea j)(hb:ea.nb<=ea0.nb):bP (M.add u.2.1) CS (upd H e<|.dK<|fX kvs<|.inl (n:Int)) q dq e x kn se fl de ea0:=by
 obtain⟨vf,vd,h1,h2,h3⟩:=S.ob;obtain⟨aeO,k1,k3,k2⟩:=S.he;rw[he] at k1;cases k1;have nt:∀us:List V,(HO.dK kvs)≠ .tup us:=nofun
 have nl:∀us:List V,(HO.dK kvs)≠ .lst us:=nofun
 have sub:∀{j:Nat}{v:Nat×Addr×List Pt},ea0 j=some v->j≠n/\ea j=some v:=λ{j v} hv=>by
  rw[h0] at hv
  split at hv
  ·cases hv
  ·exact⟨‹_›,hv⟩
 have w:∀z,(M.add u.2.1).ea ea0 z->M.ea ea z\/H z=none:=λz hz=>by
  rcases hz with(rfl|hz)|⟨j,v,hv,rfl⟩
  ·exact .inl (.inr ⟨n,u,hn,rfl⟩)
  ·exact .inl (.inl hz)
  ·exact .inl (.inr ⟨j,v,(sub hv).2,rfl⟩)
 refine⟨⟨vf,vd,by rw[az (λy=>by lia)];exact h1,(h2.weak w).nS he nt nl,(h3.weak w).nS he nt nl⟩,⟨_,ay,zaq (HA _ _)<|zaq k3 hb,λj=>?_⟩,λi j v v' hv jh=>S.nd i j v v' (sub hv).2 (sub jh).2⟩
 rw[Py,h0];by_cases hj:j=n
 ·rw[if_pos (by lia),if_pos hj];rfl
 ·rw[if_neg<|λz=>hj (by lia),if_neg hj]
  have:=k2 j;cases ej:ea j with
  |none=>rw[ej] at this;exact this
  |some v=>
   rw[ej] at this;obtain⟨t,xs,g1,g2,g3,g4,g5⟩:=this;exact⟨t,xs,g1,k9 he nt _ _ g2,uv he nl g3,g4.mono<|k9 he nt,λz=>z.elim (λy=>hj<|S.nd j n v u ej hn y) g5⟩
def pM(N:MS)(P Tl:Addr)(own:Nat)(H:Hp)(v:V)(a:Ask):Prop:= ∃t l,v=.ref t/\um H t own a.1 a.2.1 a.2.2 l/\N l/\l≠P/\l≠Tl
def uw(N:MS)(P Tl:Addr)(H:Hp)(v:V)(c:List Pt):Prop:= ∃a xs,v=.ref a/\H a=some (.lst xs)/\aG H xs c/\N a/\a≠P/\a≠Tl
structure Kl (P Tl:Addr) (H H':Hp):Prop where
 tt:dR H H'
 ls:∀z xs,H z=some (.lst xs)->z≠P->z≠Tl->H' z=some (.lst xs)
variable {P Tl:Addr}
theorem Kl.trans(a:Kl P Tl H H')(b:Kl P Tl H' wO):Kl P Tl H wO:=⟨λz us h=>b.tt _ _<|a.tt _ _ h,λz xs h n n'=>b.ls _ _ (a.ls _ _ h n n') n n'⟩
theorem Kl.same(s:aC H H'):Kl P Tl H H':=⟨bM s,λz xs h _ _=>s _ _ h⟩
theorem Kl.but{D:Addr}(b:bx (· =q) H H')(h:H q=some (.ins D dq fs)):Kl P Tl H H':=⟨λz us e=>b _ _ e λy=>(by lia),λz xs e _ _=>b _ _ e λy=>(by lia)⟩
theorem Kl.Az{o o0:HO}(h:H z=some o0)(n:∀us,o0≠ .tup us)(n':(∀us,o0≠ .lst us)\/z=P\/z=Tl):Kl P Tl H (upd H z o):=⟨k9 h n,λy xs ey n1 n2=>by
 rcases n' with n'|rfl|rfl
 ·exact uv h n' ey
 ·rw[az n1];exact ey
 ·rw[az n2];exact ey⟩
theorem pM.kl{a:Ask}(h:pM N P Tl own H v a)(k:Kl P Tl H H')(w:∀z,N z->N' z):pM N' P Tl own H' v a:=by
 obtain⟨t,l,h1,⟨h2,xs,h3,h4⟩,h5,h6,h7⟩:=h;exact⟨t,l,h1,⟨k.tt _ _ h2,xs,k.ls _ _ h3 h6 h7,h4.mono k.tt⟩,w _ h5,h6,h7⟩
theorem uw.kl(h:uw N P Tl H v c)(k:Kl P Tl H H')(w:∀z,N z->N' z):uw N' P Tl H' v c:=by
 obtain⟨a,xs,h1,h3,h4,h5,h6,h7⟩:=h;exact⟨a,xs,h1,k.ls _ _ h3 h6 h7,h4.mono k.tt,w _ h5,h6,h7⟩
structure nT (M:MS) (C CS:Addr) (H0 H:Hp) (ea ea0:bJ) (p dp q0:Addr) (own:Nat) (q dq e P Tl:Addr) (N:MS) (zs ws:List V) (g:Gs) (as:List Ask) (ts:List (List Pt)):Prop where
 hp:H p=some (.ins C dp<|f2 own q0)
 st:bP (λz=>M z\/N z) CS H q dq e g.x g.kn g.se g.fl g.de (gj g.kn ea0)
 sm:aC H0 H
 fN:∀z,N z->H0 z=none\/∃n u,ea n=some u/\u.2.1=z
 al:Al (λz=>M z\/N z) H
 hP:H P=some (.lst zs)
 hT:H Tl=some (.lst ws)
 nP:N P/\N Tl/\P≠Tl/\H0 P=none/\H0 Tl=none
 pz:Paired (pM N P Tl own H) zs as
 pw:Paired (uw N P Tl H) ws ts
 fq:H0 q=none
 fe:H0 e=none
 nl:∀z,N z->∃us,H z=some (.lst us)
variable {q0:Addr}
theorem cX.rQ{o:HO}(h:H z=some (.lst xs))(m:M z):∀{w:Option (List Pt)},cX M H v w->cX M (upd H z o) v w
 |none,h=>h
 |some _,⟨a,xs,h1,h2,h3,h4⟩=>⟨a,xs,h1,by have n:a≠z:=λy=>h4 (y ▸ m);rw[az n];exact h2,h3.mono (k9 h nofun),h4⟩
theorem gh.rQ{o:HO}{v:Option V}(h:H z=some (.lst xs))(m:M z):∀{w:Option (Nat×Addr×List Pt)},gh M H v w->gh M (upd H z o) v w
 |none,h=>h
 |some u,⟨t,xs,h1,h2,h3,h4,h5⟩=>⟨t,xs,h1,k9 h nofun _ _ h2,by have n:u.2.1≠z:=λy=>h5 (y ▸ m);rw[az n];exact h3,h4.mono (k9 h nofun),h5⟩
theorem bP.rQ(S:bP M CS H q dq e x kn se fl de ea){o:HO}(h:H z=some (.lst xs))(m:M z):bP M CS (upd H z o) q dq e x kn se fl de ea:=by
 obtain⟨vf,vd,h1,h2,h3⟩:=S.ob;obtain⟨kvs,k1,k3,k2⟩:=S.he;exact⟨⟨vf,vd,by rw[az (λy=>by lia)];exact h1,h2.rQ h<|.inl m,h3.rQ h<|.inl m⟩,⟨kvs,by rw[az (λy=>by lia)];exact k1,k3,λn=>(k2 n).rQ h m⟩,S.nd⟩
theorem aeP(h:af Γ a σ H λx H1=>∃e,x=.ref e/\yx H1 e/\af Γ b σ H1 λy H2=>Ko e [y] H2 Q):af Γ (.xm za a [b]) σ H Q:=h
abbrev rR(K:Frag)(C CS:Addr)(E:XK):aV:=aN K [("twin_of",EN CS),("let_in",EV CS)] [] [] [("need_took",C,EU C),("land",C,Ao C CS)] (E:=E)
abbrev PD:List RS:=[.drop<|.bK .extend (.v 3) [(.aR 1 "land" (.v 0) [.v 2])]]
abbrev PF:List RS:=[.drop<|.bK .append (.v 4) [(.call 1 [.v 2,(.ix (.v 5)<|.c<|.int 1)])]]
abbrev aeQ:List RS:=[.bT (.v 2) "known" (.bin .Add (.fld (.v 2) "known") (.c (.int 1))),
  .asg 5 (.xm za (.fld (.v 2) "early") [(.fld (.v 2) "known")]),
  .ite (.cmp .Eq (.ix (.v 5) (.c (.int 0))) (.fld (.v 0) "number")) PD PF]
structure E2 (M:MS) (C CS:Addr) (H0 H:Hp) (ea ea0:bJ) (p dp q0:Addr) (own:Nat) (q dq e P Tl:Addr) (N:MS) (zs ws:List V) (x:Str) (kn se:Nat) (fl de:Option (List Pt)) (as:List Ask) (ts:List (List Pt)) (a:Addr) (xs:List V) (c:List Pt):Prop where
 hp:H p=some (.ins C dp<|f2 own q0)
 st:bP (MS.add (λz=>M z\/N z) a) CS H q dq e x (kn+1) se fl de (gj (kn+1) ea0)
 sm:aC H0 H
 fN:∀z,N z->H0 z=none\/∃n u,ea n=some u/\u.2.1=z
 al:Al (λz=>M z\/N z) H
 hP:H P=some (.lst zs)
 hT:H Tl=some (.lst ws)
 nP:N P/\N Tl/\P≠Tl/\H0 P=none/\H0 Tl=none
 pz:Paired (pM N P Tl own H) zs as
 pw:Paired (uw N P Tl H) ws ts
 fq:H0 q=none
 fe:H0 e=none
 ha:H a=some (.lst xs)
 pv:aG H xs c
 fa:H0 a=none\/∃n u,ea n=some u/\u.2.1=a
 na:¬(M a\/N a)
 la:as.length<=1000
 lt:ts.length<=1000
 nl:∀z,N z->∃us,H z=some (.lst us)
variable {E:XK}{D:Ends}{H0:Hp}{zs ws:List V}{as:List Ask}{ts:List (List Pt)}{a lt:Addr}{xs:List V}{c:List Pt}{u5:Option V}
theorem AA(hp:H p=some (.ins C dp fs))(hq:H q=some (.ins CS dq gs))(n:fs.length≠gs.length):p≠q:=by lia
theorem aeR(I:E2 M C CS H0 H ea ea0 p dp q0 own q dq e P Tl N zs ws x kn se (some f) de as ts a xs c)(k:∀cx H',nT M C CS H0 H' ea ea0 p dp q0 own q dq e P Tl N cx ws ⟨x,kn+1,rP se de,de,none⟩ (as++w9 se (kn+1) de) ts\/(∃l,nT M C CS H0 H' ea ea0 p dp q0 own q dq e P Tl (N.add l) cx ws ⟨x,kn+1,rP se de,de,none⟩ (as++w9 se (kn+1) de) ts)->D.nx [some<|.ref p,some<|.ref lt,some<|.ref q,some<|.ref P,some<|.ref Tl,u5] H'):aE (rR K C CS E) PD D [some<|.ref p,some<|.ref lt,some<|.ref q,some<|.ref P,some<|.ref Tl,u5] H:=by
 obtain⟨fs,hq⟩:=I.st.qs;obtain⟨vf,vd,hq6,_⟩:=I.st.ob;have dC:=AA I.hp hq6 (by simp)
 have lz:=Paired.length I.pz;have la:=I.la;have npP:p≠P:=λy=>by have:=I.hP;rw[<-y,I.hp] at this;cases this
 have xa:¬P=q:=λy=>by have:=I.hP;rw[y,hq] at this;cases this
 have E3:¬Tl=q:=λy=>by have:=I.hT;rw[y,hq] at this;cases this
 have PH:∀{H3:Hp}{E4:List (Str×V)},bx (· =q) H H3->H3 q=some (.ins CS dq E4)->Al (λz=>M z\/N z) H3:=λb h=>I.al.but b h;have smc:∀{H3:Hp},bx (· =q) H H3->aC H0 H3:=λb z o ez=>b _ _ (I.sm _ _ ez) (aM ez I.fq);have grow:∀(N':MS) (H3:Hp) (zn:List V) (an:List Ask) (se':Nat),bx (· =q) H H3->(∀z,N z->N' z)->bP (λz=>M z\/N' z) CS H3 q dq e x (kn+1) se' de none (gj (kn+1) ea0)->(∀z,N' z->H0 z=none\/∃n u,ea n=some u/\u.2.1=z)->Al (λz=>M z\/N' z) H3->Paired (pM N' P Tl own H3) zn an->(∀z,N' z->∃us,H3 z=some (.lst us))->nT M C CS H0 (upd H3 P<|.lst<|zs++zn) ea ea0 p dp q0 own q dq e P Tl N' (zs++zn) ws ⟨x,kn+1,se',de,none⟩ (as++an) ts:=by
  intro N' H3 zn an se' b3 wN S3 fN' nh pn nl3;have j8:=b3 _ _ I.hP xa;have xb:Kl P Tl H H3:=Kl.but b3 hq;have pN:Kl P Tl H3 (upd H3 P<|.lst<|zs++zn):=Kl.Az j8 (λ_ z=>by lia) (.inr<|.inl rfl)
  refine⟨?_,S3.rQ j8<|.inr<|wN _ I.nP.1,λz o ez=>?_,fN',λz hz=>?_,ay,?_,⟨wN _ I.nP.1,wN _ I.nP.2.1,I.nP.2.2⟩,?_,Paired.dw I.pw λ_ _ z=>z.kl (xb.trans pN) wN,I.fq,I.fe,λz hz=>?_⟩
  ·rw[az npP];exact b3 _ _ I.hp dC
  ·rw[az<|aM ez I.nP.2.2.2.1];exact smc b3 _ _ ez
  ·obtain⟨o,ho⟩:=nh z hz;by_cases y:z=P
   ·exact⟨_,by rw[y];exact ay⟩
   ·exact⟨o,by rw[az y];exact ho⟩
  ·rw[az<|Ne.symm I.nP.2.2.1];exact b3 _ _ I.hT E3
  ·exact Paired.app (Paired.dw I.pz λ_ _ z=>z.kl (xb.trans pN) wN) (Paired.dw pn λ_ _ z=>z.kl pN λ_ h=>h)
  ·by_cases y:z=P
   ·exact⟨_,by rw[y];exact ay⟩
   ·obtain⟨us,hu⟩:=nl3 z hz;exact⟨us,by rw[az y];exact hu⟩
 have PJ:∀{H3:Hp},bx (· =q) H H3->∀z,N z->∃us,H3 z=some (.lst us):=λb z hz=>let ⟨us,hu⟩:=I.nl z hz;⟨us,b _ _ hu λy=>by lia⟩
 have sA:sy (rR K C CS E).K "list" (.ref P) H:=.inl ⟨rfl,_,aB.of I.hP⟩;cases de with
 |none=>
  refine fk<|i8<|ae rfl ⟨sA,i7 C (Ao C CS) rfl<|ae rfl ⟨p,dp,_,rfl,I.hp,hU,ae rfl ⟨_,p,dp,q,dq,e,q0,own,x,kn+1,se,f,none,_,rfl,I.hp,dC,I.st,λL H3 b3 fL S3 hL=>?_⟩⟩⟩;obtain⟨E4,iQ⟩:=S3.qs;refine⟨zs,[],(b3 _ _ I.hP xa),hL,cP (by show zs.length+0<=_;lia),?_⟩
  refine k _ _<|.inl<|grow N H3 [] [] se b3 (λ_ h=>h) (S3.weak λz hz=>.inl (.inr<|.inr hz)) I.fN (PH b3 iQ) .nil<|PJ b3
 |some d=>
  refine fk<|i8<|ae rfl ⟨sA,i7 C (Ao C CS) rfl<|ae rfl ⟨p,dp,_,rfl,I.hp,hU,ae rfl ⟨_,p,dp,q,dq,e,q0,own,x,kn+1,se,f,some d,_,rfl,I.hp,dC,I.st,λL t l H3 b3 fL ft fl' S3 hL hA=>?_⟩⟩⟩;obtain⟨E4,iQ⟩:=S3.qs;refine⟨zs,[.ref t],(b3 _ _ I.hP xa),hL,cP (by show zs.length+1<=_;lia),?_⟩
  have nh:=PH b3 iQ;refine k _ _<|.inr ⟨l,grow (N.add l) H3 [.ref t] [(se+1,kn+1,d)] (se+1) b3 (λ_ h=>.inr h) (S3.weak λz hz=>?_) (λz hz=>?_) (λz hz=>?_) (.cons ⟨t,l,rfl,hA,.inl rfl,λy=>?_,λy=>?_⟩ .nil)<|λz hz=>?_⟩
  ·rcases hz with hz|rfl|hz
   ·exact .inl (.inr<|.inr<|.inr<|.inl hz)
   ·exact .inl (.inl rfl)
   ·exact .inl (.inr<|.inr<|.inr<|.inr hz)
  ·rcases hz with rfl|hz
   ·exact .inl (I.sm.free fl')
   ·exact I.fN z hz
  ·rcases hz with hz|rfl|hz
   ·exact nh z (.inl hz)
   ·obtain⟨ys,hy,_⟩:=hA.2;exact⟨_,hy⟩
   ·exact nh z (.inr hz)
  ·rw[y,I.hP] at fl';cases fl'
  ·rw[y,I.hT] at fl';cases fl'
  ·rcases hz with rfl|hz
   ·obtain⟨ys,hy,_⟩:=hA.2;exact⟨_,hy⟩
   ·exact PJ b3 z hz
theorem aeX(I:E2 M C CS H0 H ea ea0 p dp q0 own q dq e P Tl N zs ws x kn se fl de as ts a xs c)(ht:H t=some (.tup [.int (cA:Nat),.ref a]))(hc:bX c l l')(hf:OC fl l m)(hd:OC de m x.cps.toList)(t1:aA c<=5200)(t2:bV fl<=5200)(t3:bV de<=5200)(gx:good x)(lx:x.length<=100000)
  (k:∀mx a' H' r,Run x.cps.toList (pP (pP c fl) de) r->nT M C CS H0 H' ea ea0 p dp q0 own q dq e P Tl (N.add a') zs mx ⟨⟨r.toArray⟩,kn+1,se,pF c fl,pF (pP c fl) de⟩ as (ts++[pP (pP c fl) de])->D.nx [some<|.ref p,some<|.ref lt,some<|.ref q,some<|.ref P,some<|.ref Tl,some<|.ref t] H'):aE (rR K C CS E) PF D [some<|.ref p,some<|.ref lt,some<|.ref q,some<|.ref P,some<|.ref Tl,some<|.ref t] H:=by
 obtain⟨vf,vd,hq,_⟩:=I.st.ob
 have lw:=Paired.length I.pw;have ltt:=I.lt;have npT:p≠Tl:=λy=>by have:=I.hT;rw[<-y,I.hp] at this;cases this
 have xa:¬P=q:=λy=>by have:=I.hP;rw[y,hq] at this;cases this
 have E3:¬Tl=q:=λy=>by have:=I.hT;rw[y,hq] at this;cases this
 refine fk<|i8<|ae rfl ⟨.inl ⟨rfl,_,aB.of I.hT⟩,bN (EV CS) rfl<|aD<|ae rfl<|aD<|bp<|ae rfl<|aw<|bU ht rfl<|aO ⟨_,q,dq,e,x,kn+1,se,fl,de,_,a,xs,c,l,l',m,rfl,I.st,I.al,I.ha,I.pv,hc,hf,hd,t1,t2,t3,gx,lx,λa' bB r H3 hr b3 nU S3 iK mw=>?_⟩⟩;have E5:=b3 _ _ I.hT E3;refine⟨ws,E5,dg (by lia),?_⟩
 have xb:Kl P Tl H H3:=Kl.but b3 hq;have pN:Kl P Tl H3 (upd H3 Tl<|.lst<|ws++[.ref a']):=Kl.Az E5 (λ_ z=>by lia) (.inr<|.inr rfl)
 obtain⟨vf3,vd3,iQ,_⟩:=S3.ob;have nh:=I.al.but b3 iQ;have wN:∀z,N z->(N.add a') z:=λ_ h=>.inr h;have AB:a'≠P/\a'≠Tl:=by
  rcases nU with rfl|nU
  ·exact⟨λy=>I.na<|.inr<|y ▸ I.nP.1,λy=>I.na<|.inr<|y ▸ I.nP.2.1⟩
  ·exact⟨λy=>(by rw[y,I.hP] at nU;cases nU),λy=>(by rw[y,I.hT] at nU;cases nU)⟩
 refine k _ a' _ r hr ⟨?_,(S3.weak λz hz=>.inl ?_).rQ E5<|.inr<|.inr I.nP.2.1,λz o ez=>?_,λz hz=>?_,λz hz=>?_,?_,ay,⟨.inr I.nP.1,.inr I.nP.2.1,I.nP.2.2⟩,Paired.dw I.pz λ_ _ z=>z.kl (xb.trans pN) wN,Paired.snoc (Paired.dw I.pw λ_ _ z=>z.kl (xb.trans pN) wN) ⟨a',bB,rfl,pN.ls _ _ iK AB.1 AB.2,mw.mono pN.tt,.inl rfl,AB.1,AB.2⟩,I.fq,I.fe,λz hz=>?_⟩
 ·rw[az npT];exact b3 _ _ I.hp (AA I.hp hq (by simp))
 ·rcases hz with hz|rfl|hz
  ·exact .inr (.inl hz)
  ·exact .inl rfl
  ·exact .inr (.inr hz)
 ·rw[az<|aM ez I.nP.2.2.2.2];exact b3 _ _ (I.sm _ _ ez) (aM ez I.fq)
 ·rcases hz with rfl|hz
  ·rcases nU with rfl|nU
   ·exact I.fa
   ·exact .inl (I.sm.free nU)
  ·exact I.fN z hz
 ·have:∃o,H3 z=some o:=by
   rcases hz with hz|rfl|hz
   ·exact nh z (.inl hz)
   ·exact⟨_,iK⟩
   ·exact nh z (.inr hz)
  obtain⟨o,ho⟩:=this;by_cases y:z=Tl
  ·exact⟨_,by rw[y];exact ay⟩
  ·exact⟨o,by rw[az y];exact ho⟩
 ·rw[az I.nP.2.2.1];exact (b3 _ _ I.hP xa)
 ·by_cases y:z=Tl
  ·exact⟨_,by rw[y];exact ay⟩
  ·rcases hz with rfl|hz
   ·exact⟨_,by rw[az y];exact iK⟩
   ·obtain⟨us,hu⟩:=I.nl z hz;exact⟨us,by rw[az y];exact b3 _ _ hu λy'=>by lia⟩
theorem aeZ(T:iI K C)(TS:ic K CS){tk:List (Nat×List Pt)}{u:Nat×Addr×List Pt}(I:nT M C CS H0 H ea ea0 p dp q0 own q dq e P Tl N zs ws ⟨x,kn,se,fl,de⟩ as ts)(Vi:Iv own tx tk ⟨x,kn,se,fl,de⟩)(hu:ea0 (kn+1)=some u)(eQ:tk[kn]?=some (u.1,u.2.2))(hE:H0 u.2.1=none\/∃n v,ea n=some v/\v.2.1=u.2.1)(la:as.length<=1000)(lt':ts.length<=1000)
  (k:∀N' cx mx u5 H',nT M C CS H0 H' ea ea0 p dp q0 own q dq e P Tl N' cx mx (c9 own (u.1,u.2.2) ⟨x,kn,se,fl,de⟩) (as++k6 own (u.1,u.2.2) ⟨x,kn,se,fl,de⟩) (ts++k7 own (u.1,u.2.2) ⟨x,kn,se,fl,de⟩)->D.nx [some<|.ref p,some<|.ref lt,some<|.ref q,some<|.ref P,some<|.ref Tl,u5] H'):aE (rR K C CS E) aeQ D [some<|.ref p,some<|.ref lt,some<|.ref q,some<|.ref P,some<|.ref Tl,u5] H:=by
 have S:=I.st;obtain⟨vf,vd,h1,h2,h3⟩:=S.ob;obtain⟨kvs,he,lk,ke⟩:=S.he;have dC:p≠q:=AA I.hp h1 (by show 2≠6;decide)
 have jD:e≠q:=λy=>by lia
 have j7:gj kn ea0 (kn+1)=some u:=by simp only[gj];rw[if_neg (by lia)];exact hu
 have rS:=ke (kn+1);rw[j7] at rS;obtain⟨t,xs,g1,g2,g3,g4,g5⟩:=rS;refine dm<|bI<|br<|ae rfl ⟨q,CS,dq,_,_,rfl,h1,TS.cl,TS.lV,rH,aw<|g_<|ae rfl ⟨q,CS,dq,_,rfl,h1,TS.cl,TS.lV,(by show 6<1000;decide),?_⟩⟩
 rw[show(kn:Int)+1=((kn+1:Nat):Int) by lia,Pk]
 have S1:=S.put (x':=x) (kn':=kn+1) (se':=se) h2 h3;have b1:bx (· =q) H (upd H q<|.ins CS dq<|f6 x (kn+1) se vf vd<|.ref e):=bx.upd;have eV:upd H q (.ins CS dq<|f6 x (kn+1) se vf vd<|.ref e) q=some (.ins CS dq<|f6 x (kn+1) se vf vd<|.ref e):=ay;generalize upd H q (.ins CS dq<|f6 x (kn+1) se vf vd<|.ref e)=H1 at S1 b1 eV⊢;have AD:=b1 _ _ he jD;have kl1:Kl P Tl H H1:=Kl.but b1 h1;refine bD<|aeP<|br<|ae rfl ⟨q,CS,dq,_,_,rfl,eV,TS.cl,TS.qH,wI,e,rfl,.inl ⟨_,.inl AD⟩,br<|ae rfl ⟨q,CS,dq,_,_,rfl,eV,TS.cl,TS.lV,rH,kvs,.inl ((kn+1:Nat):Int),_,AD,rfl,g1,?_⟩⟩;have S2:=S1.pop (ea0:=gj (kn+1) ea0) AD j7 (λj=>by
  simp only[gj]
  by_cases hj:j=kn+1
  ·rw[if_pos hj,if_pos (by lia)]
  ·rw[if_neg hj];by_cases hk:j<=kn
   ·rw[if_pos hk,if_pos (by lia)]
   ·rw[if_neg hk,if_neg (by lia)]) (zqR _)
 have PK:Kl P Tl H1 (upd H1 e<|.dK<|fX kvs<|.inl ((kn+1:Nat):Int)):=Kl.Az AD (λ_ z=>by cases z) (.inl λ_ z=>by cases z)
 have b2:∀z o,H z=some o->z≠q->z≠e->upd H1 e (.dK<|fX kvs<|.inl ((kn+1:Nat):Int)) z=some o:=λz o ez n n'=>by rw[az n'];exact b1 _ _ ez n
 have nI:upd H1 e (.dK<|fX kvs<|.inl ((kn+1:Nat):Int)) e=some (.dK<|fX kvs<|.inl ((kn+1:Nat):Int)):=ay;have eT:upd H1 e (.dK<|fX kvs<|.inl ((kn+1:Nat):Int)) q=some (.ins CS dq<|f6 x (kn+1) se vf vd<|.ref e):=by rw[az jD.symm];exact eV
 generalize upd H1 e (.dK<|fX kvs<|.inl ((kn+1:Nat):Int))=H2 at S2 PK b2 nI eT⊢;have kl:=kl1.trans PK;have nl:∀{z:Addr}{ys:List V},H z=some (.lst ys)->z≠q/\z≠e:=λez=>⟨λy=>(by lia),λy=>(by rw[y,he] at ez;cases ez)⟩
 have e_:=b2 _ _ I.hp dC λy=>by have:=I.hp;rw[y,he] at this;cases this
 have l8:=kl.tt _ _ g2;have J:E2 M C CS H0 H2 ea ea0 p dp q0 own q dq e P Tl N zs ws x kn se fl de as ts u.2.1 xs u.2.2:=by
  refine⟨e_,S2,λz o ez=>b2 _ _ (I.sm _ _ ez) (aM ez I.fq)<|aM ez I.fe,I.fN,λz hz=>?_,b2 _ _ I.hP (nl I.hP).1 (nl I.hP).2,b2 _ _ I.hT (nl I.hT).1 (nl I.hT).2,I.nP,Paired.dw I.pz λ_ _ z=>z.kl kl λ_ h=>h,Paired.dw I.pw λ_ _ z=>z.kl kl λ_ h=>h,I.fq,I.fe,b2 _ _ g3 (nl g3).1 (nl g3).2,g4.mono kl.tt,hE,g5,la,lt',λz hz=>let ⟨us,hu⟩:=I.nl z hz;⟨us,b2 _ _ hu (nl hu).1 (nl hu).2⟩⟩;obtain⟨o,ho⟩:=I.al z hz;by_cases y:z=q
  ·exact⟨_,by rw[y];exact eT⟩
  ·by_cases y':z=e
   ·exact⟨_,by rw[y'];exact nI⟩
   ·exact⟨o,b2 _ _ ho y y'⟩
 refine bq<|bo<|bp<|ae rfl<|aw<|bU l8 rfl<|br<|ae rfl ⟨p,C,dp,_,_,rfl,e_,T.cl,T.vD,Am,iP ⟨_,rfl,fV (λho=>?_)<|λho=>?_⟩⟩
 ·have ho:u.1=own:=by lia
  have e1:c9 own (u.1,u.2.2) ⟨x,kn,se,fl,de⟩=⟨x,kn+1,rP se de,de,none⟩:=if_pos ho;have e2:k6 own (u.1,u.2.2) ⟨x,kn,se,fl,de⟩=w9 se (kn+1) de:=if_pos ho;have e3:k7 own (u.1,u.2.2) ⟨x,kn,se,fl,de⟩=[]:=if_pos ho;rw[e1,e2,e3,zaa] at k;have qN:tk[kn+0]?=some (own,u.2.2):=by rw[<-ho];exact eQ
  obtain⟨⟨f,ef,_⟩,_⟩:=Vi.pend 0 _ qN;subst ef;refine aeR J λcx H' hh=>?_;rcases hh with hh|⟨l,hh⟩
  ·exact k N cx ws _ H' hh
  ·exact k _ cx ws _ H' hh
 ·have ho:¬u.1=own:=λz=>by lia
  obtain⟨l,l',m,_,_,c1,c2,o1,o2⟩:=Vi.at' eQ;have e1:c9 own (u.1,u.2.2) ⟨x,kn,se,fl,de⟩=⟨⟨(out x.cps.toList<|av<|pP (pP u.2.2 fl) de).toArray⟩,kn+1,se,pF u.2.2 fl,pF (pP u.2.2 fl) de⟩:=if_neg ho;have e2:k6 own (u.1,u.2.2) ⟨x,kn,se,fl,de⟩=[]:=if_neg ho;have e3:k7 own (u.1,u.2.2) ⟨x,kn,se,fl,de⟩=[pP (pP u.2.2 fl) de]:=if_neg ho;rw[e1,e2,e3,zaa] at k;obtain⟨lx,gx⟩:=Vi.len;refine aeX J l8 c1 o1 o2 c2 Vi.tf Vi.td gx (by lia) λmx a' H' r hr hh=>k (N.add a') zs mx _ H' ?_
  rw[hr.fits.2];exact hh
end
section
variable {K:Frag}{M M' N N':MS}{C CS:Addr}{H H':Hp}{p dp q dq e q0 P Tl:Addr}{own:Nat}{x:Str}{kn se:Nat}{fl de:Option (List Pt)}{ea ea0:bJ}
structure CmK (M:MS) (C CS:Addr) (H:Hp) (ea:bJ) (p dp:Addr) (own n0 cA:Nat) (c:List Pt) (kn:Nat) (g:Gs) (as:List Ask) (ts:List (List Pt)) (N:MS) (P Tl t q dq e a0:Addr) (zs ws:List V) (ea0:bJ) (H':Hp):Prop where
 ha:dG (λz=>M z\/N z) C CS H' p dp q dq e own g.x g.kn g.se g.fl g.de (gj g.kn ea0)
 ins:Pz kn ea n0 cA c a0 ea0
 fa:H a0=none
 b:bx (· =p) H H'
 fN:∀z,N z->H z=none\/∃n u,ea n=some u/\u.2.1=z
 al:Al (λz=>M z\/N z) H'
 ht:H' t=some (.tup [.ref P,.ref Tl])
 hP:H' P=some (.lst zs)
 hT:H' Tl=some (.lst ws)
 nP:N P/\N Tl/\P≠Tl/\H P=none/\H Tl=none
 pz:Paired (pM N P Tl own H') zs as
 pw:Paired (uw N P Tl H') ws ts
 fq:H q=none
 fe:H e=none
 ft:H t=none
 nl:∀z,N z->∃us,H' z=some (.lst us)
inductive AE (C CS:Addr)(vs:List V)(H:Hp)(Q:VK)(E:XK):Prop|i(M:MS)(p dp q dq e lt b:Addr)(own:Nat)(g:Gs)(ea:bJ)(n0 cA:Nat)(ys:List V)(c:List Pt)(tx:List (List Nat))(tk:List (Nat×List Pt))(j:Nat)(_:vs=[.ref p,.ref lt])(_:dG M C CS H p dp q dq e own g.x g.kn g.se g.fl g.de ea)(_:Al M H)(_:H lt=some (.tup<|ET own n0 cA b))(_:1<=n0)(_:cA<=7)(_:H b=some (.lst ys))(_:aG H ys c)(_:(∀p∈c,ba p))(_:chainOk "" c=true)(_:Iv own tx tk g)(_:ea.nb<=1000)(_:(∀n u,ea n=some u->g.kn<n/\tk[n - 1]?=some (u.1,u.2.2)))(_:(g.kn<n0->ea n0=none->tk[n0 - 1]?=some (cA,c)))(_:j<=900)(_:(∀i,i<j->ea (g.kn+i+1)≠none\/g.kn+i+1=n0))(_:(ea (g.kn+j+1)=none/\g.kn+j+1≠n0))(_:∀N P Tl t q' cY e' a0 zs ws ea0 H',CmK M C CS H ea p dp own n0 cA c g.kn (bF own tk g j).1 (bF own tk g j).2.1 (bF own tk g j).2.2 N P Tl t q' cY e' a0 zs ws ea0 H'->Q (.ref t) H')
theorem ae2{b:RE}(h:af Γ a σ H λy H1=>af Γ b σ H1 λx H2=>∃d o,x=.ref d/\eF H2 d y o/\∃k,V.bl o.isSome=.bl k/\QT k H2):a_ Γ (.ve a b) σ H QT:=h
theorem ae3{i j:Int}(q:Q (.bl<|decide<|i>j) H):cN K .Gt (.int i) (.int j) H Q:=⟨trivial,q⟩
theorem ae4{f:bJ}(h:∀n u,f n=some u->k<n):gj k f=f:=by
 obtain⟨f,nb⟩:=f;unfold gj
 congr 1
 funext n
 by_cases hn:n<=k
 ·rw[if_pos hn];cases e:f n with
  |none=>rfl
  |some u=>have:=h n u e;lia
 ·rw[if_neg hn]
theorem ae5(T:iI K C)(TS:ic K CS):bQ (AE C CS) (λE=>rR K C CS E) ze L6:=by
 intro vs H Q E h;obtain⟨M,p,dp,q0,dq0,e0,lt,b,own,g,ea,n0,cA,ys,c,tx,tk,j,rfl,S,al,hl,hn,hw,hb,pv,ok,cc,Vi,nb,iX,oC,lj,hj,⟨hJ,hJ'⟩,k⟩:=h;refine fk<|i7 C (EU C) rfl<|ae rfl ⟨p,dp,_,rfl,S.ob,hU,ae rfl ⟨p,dp,q0,lt,b,own,n0,cA,ys,c,rfl,S.ob,hl,hn,hw,hb,pv,ok,cc,λH1 s1=>?_⟩⟩;have S1:=S.same s1;refine bD<|bN (EN CS) rfl<|aD<|br<|ae rfl ⟨p,C,dp,_,_,rfl,S1.ob,T.cl,T.kE,nN,aO ⟨M,q0,dq0,e0,g.x,g.kn,g.se,g.fl,g.de,ea,rfl,S1.st,λq dq e H2 s2 fq fe nqe S2=>?_⟩⟩;have k_:=s1.trans s2;refine bD<|fH<|aO ⟨zqZ _,λP fP=>?_⟩;have s3:=sameNew (o:=.lst []) fP;have j8:upd H2 P (.lst []) P=some (.lst []):=ay;generalize upd H2 P (.lst [])=H3 at s3 j8⊢;refine bD<|fH<|aO ⟨zqZ _,λTl fT=>?_⟩;have s4:=sameNew (o:=.lst []) fT;have AF:upd H3 Tl (.lst []) Tl=some (.lst []):=ay;have AG:=s4 _ _ j8;generalize upd H3 Tl (.lst [])=H4 at s4 AF AG⊢;have E6:=s3.trans s4;have nG:=k_.trans E6;have nPT:P≠Tl:=aM j8 fT;have E7:H P=none:=k_.free fP;have PL:H Tl=none:=(k_.trans s3).free fT;have S4:=S2.same E6;have al4:Al M H4:=λz hz=>let ⟨o,ho⟩:=al z hz;⟨o,nG _ _ ho⟩;have go:∀(a0:Addr) (ea0:bJ) (H5:Hp),Pz g.kn ea n0 cA c a0 ea0->H a0=none->aC H H5->bP (λz=>M z\/(z=P\/z=Tl)) CS H5 q dq e g.x g.kn g.se g.fl g.de ea0->H5 P=some (.lst [])->H5 Tl=some (.lst [])->aE (rR K C CS E) (ze.drop 5) (Dn Q) [some<|.ref p,some<|.ref lt,some<|.ref q,some<|.ref P,some<|.ref Tl,none] H5:=by
  intro a0 ea0 H5 hi fa s5 S5 E8 E9;have E_:∀n u,ea0 n=some u->g.kn<n/\tk[n - 1]?=some (u.1,u.2.2)/\(H u.2.1=none\/∃n v,ea n=some v/\v.2.1=u.2.1):=λn u hu=>by
   rcases hi with⟨h1,h2,rfl⟩|⟨_,rfl⟩
   ·simp only[nQ] at hu
    split at hu
    ·rename_i en;cases hu;rw[en];exact⟨h1,oC h1 h2,.inl fa⟩
    ·exact⟨(iX n u hu).1,(iX n u hu).2,.inr ⟨n,u,hu,rfl⟩⟩
   ·exact⟨(iX n u hu).1,(iX n u hu).2,.inr ⟨n,u,hu,rfl⟩⟩
  have has:∀n,g.kn<n->(ea n≠none\/n=n0)->ea0 n≠none:=λn hn h=>by
   rcases hi with⟨h1,h2,rfl⟩|⟨h1,rfl⟩
   ·simp only[nQ]
    split
    ·exact λz=>by cases z
    ·rename_i ne;exact h.resolve_right ne
   ·rcases h with h|rfl
    ·exact h
    ·rcases h1 with h1|⟨u,h1⟩
     ·lia
     ·rw[h1];exact λz=>by cases z
  have Bz:ea0 (g.kn+j+1)=none:=by
   rcases hi with⟨h1,h2,rfl⟩|⟨h1,rfl⟩
   ·simp only[nQ];rw[if_neg hJ'];exact hJ
   ·exact hJ
  have Si:∀i,i<=j->Iv own tx tk (bF own tk g i).1:=λi hi=>Vi.run i (by
   cases i with
   |zero=>exact Vi.kn
   |succ i=>
    obtain⟨u,hu⟩:=zbn.mp (has (g.kn+i+1) (by lia)<|hj i (by lia))
    have:=(zad.mp (E_ _ _ hu).2.1).1;lia)
  refine zQ (λm σ H6=>∃(i:Nat) (N:MS) (zs ws:List V) (u5:Option V),m=j - i/\i<=j/\σ=[some<|.ref p,some<|.ref lt,some<|.ref q,some<|.ref P,some<|.ref Tl,u5]/\nT M C CS H H6 ea ea0 p dp q0 own q dq e P Tl N zs ws (bF own tk g i).1 (bF own tk g i).2.1 (bF own tk g i).2.2)
   ⟨_,0,λz=>z=P\/z=Tl,[],[],none,rfl,zqZ _,rfl,⟨s5 _ _ S.ob,?_,s5,λz hz=>.inl ?_,λz hz=>?_,E8,E9,⟨.inl rfl,.inr rfl,nPT,E7,PL⟩,.nil,.nil,s1.free fq,s1.free fe,λz hz=>?_⟩⟩ ?_
  ·show bP _ CS H5 q dq e g.x g.kn g.se g.fl g.de (gj g.kn ea0);rw[ae4 λn u hu=>(E_ n u hu).1];exact S5
  ·rcases hz with rfl|rfl
   ·exact E7
   ·exact PL
  ·rcases hz with hz|rfl|rfl
   ·obtain⟨o,ho⟩:=al z hz;exact⟨o,s5 _ _ ho⟩
   ·exact⟨_,E8⟩
   ·exact⟨_,E9⟩
  ·rcases hz with rfl|rfl
   ·exact⟨_,E8⟩
   ·exact⟨_,E9⟩
  rintro m σ H6 ⟨i,N,zs,ws,u5,rfl,hij,rfl,I⟩;have xf:=w_ own tk g i;have PM:=Si i hij;obtain⟨la,lt'⟩:=EY own tk g i;have nxt:i<j->tk.getD (bF own tk g i).1.kn (0,[])=tk.getD (g.kn+i) (0,[]):=λ_=>by rw[xf]
  have dU:bF own tk g (i+1)=(c9 own (tk.getD (bF own tk g i).1.kn (0,[])) (bF own tk g i).1,(bF own tk g i).2.1++k6 own (tk.getD (bF own tk g i).1.kn (0,[])) (bF own tk g i).1,(bF own tk g i).2.2++k7 own (tk.getD (bF own tk g i).1.kn (0,[])) (bF own tk g i).1):=rfl;generalize Ik:(bF own tk g i).2.1=as at I la dU;generalize rT:(bF own tk g i).2.2=ts at I lt' dU;generalize hgi:(bF own tk g i).1=gi at I PM xf dU nxt;obtain⟨xi,ki,si,fi,di⟩:=gi;have xf:ki=g.kn+i:=xf;subst xf;obtain⟨vf,vd,h1,h2,h3⟩:=I.st.ob;obtain⟨kvs,he,lk,ke⟩:=I.st.he;have h1:H6 q=some (.ins CS dq<|f6 xi (g.kn+i) si vf vd<|.ref e):=h1;refine ae2<|bI<|br<|ae rfl ⟨q,CS,dq,_,_,rfl,h1,TS.cl,TS.lV,rH,aw<|g_<|br<|ae rfl ⟨q,CS,dq,_,_,rfl,h1,TS.cl,TS.qH,wI,e,_,rfl,eF.k (k:=.inl (((g.kn+i:Nat):Int)+1)) he,_,rfl,?_⟩⟩;have xg:=ke (g.kn+i+1);rw[show((g.kn+i+1:Nat):Int)=((g.kn+i:Nat):Int)+1 by lia,show gj (g.kn+i) ea0 (g.kn+i+1)=ea0 (g.kn+i+1) from if_neg (by lia)] at xg
  by_cases bE:i<j
  ·obtain⟨u,hu⟩:=zbn.mp (has (g.kn+i+1) (by lia)<|hj i bE)
   obtain⟨_,eQ,hE⟩:=E_ _ _ hu;have eQ:tk[g.kn+i]?=some (u.1,u.2.2):=eQ;rw[hu] at xg;obtain⟨t,xs,g1,_⟩:=xg;refine iT ⟨λσ' H'=>∃(N:MS) (zs ws:List V) (u5:Option V),σ'=[some<|.ref p,some<|.ref lt,some<|.ref q,some<|.ref P,some<|.ref Tl,u5]/\nT M C CS H H' ea ea0 p dp q0 own q dq e P Tl N zs ws (bF own tk g<|i+1).1 (bF own tk g<|i+1).2.1 (bF own tk g<|i+1).2.2,λσ' H' ⟨N,zs,ws,u5,eσ,I'⟩=>⟨j - (i+1),by lia,i+1,N,zs,ws,u5,rfl,bE,eσ,I'⟩,?_⟩ (by rw[g1];rfl)
   refine aeZ T TS I PM hu eQ hE (by lia) (by lia) λN' cx mx u5 H' I'=>⟨N',cx,mx,u5,rfl,?_⟩
   have eg:tk.getD (g.kn+i) (0,[])=(u.1,u.2.2):=by rw[zaN,eQ];rfl
   rw[dU];rw[eg];exact I'
  ·have jt:i=j:=by lia
   subst jt;rw[Bz] at xg;refine iF ?_ (by rw[show c5 kvs (.inl<|((g.kn+i:Nat):Int)+1)=none from xg];rfl)
   have dC:p≠q:=AA I.hp h1 (by show 2≠6;decide)
   refine dm<|ae rfl<|ae rfl ⟨p,C,dp,_,rfl,I.hp,T.cl,T.kE,(by show 2<1000;decide),?_⟩
   rw[aej];have b7:bx (· =p) H6 (upd H6 p<|.ins C dp<|f2 own q):=bx.upd;have AH:upd H6 p (.ins C dp<|f2 own q) p=some (.ins C dp<|f2 own q):=ay;have PN:Kl P Tl H6 (upd H6 p<|.ins C dp<|f2 own q):=Kl.Az I.hp (λ_ z=>by cases z) (.inl λ_ z=>by cases z)
   have S7:bP (λz=>M z\/N z) CS (upd H6 p<|.ins C dp<|f2 own q) q dq e xi (g.kn+i) si fi di (gj (g.kn+i) ea0):=by
    have nt:∀us:List V,(HO.ins C dp<|f2 own q0)≠ .tup us:=λ_ z=>by cases z
    have nl:∀us:List V,(HO.ins C dp<|f2 own q0)≠ .lst us:=λ_ z=>by cases z
    exact⟨⟨vf,vd,b7 _ _ h1<|Ne.symm dC,cX.nS I.hp nt nl h2,cX.nS I.hp nt nl h3⟩,⟨kvs,b7 _ _ he (λy=>by rw[y,I.hp] at he;cases he),lk,λn=>(ke n).nS I.hp nt nl⟩,I.st.nd⟩
   generalize upd H6 p (.ins C dp<|f2 own q)=H7 at b7 AH PN S7⊢;have Fb:∀{z:Addr}{us:List V},H6 z=some (.lst us)->H7 z=some (.lst us):=λez=>b7 _ _ ez λy=>by rw[y,I.hp] at ez;cases ez
   refine bS<|ma<|aD<|ae rfl<|aD<|ae rfl<|aO ⟨e7,λt ft=>?_⟩;have s8:=sameNew (o:=.tup [V.ref P,V.ref Tl]) ft;have PQ:bx (· =p) H6 (upd H7 t<|.tup [V.ref P,V.ref Tl]):=b7.trans (bx.same s8);have ht8:upd H7 t (.tup [V.ref P,V.ref Tl]) t=some (.tup [V.ref P,V.ref Tl]):=ay;have PR:=PN.trans (Kl.same s8);refine k N P Tl t q dq e a0 zs ws ea0 _ ?_;rw[hgi];refine⟨⟨s8 _ _ AH,S7.same s8⟩,hi,fa,λz o ez n=>PQ _ _ (I.sm _ _ ez) n,I.fN,λz hz=>?_,ht8,s8 _ _<|Fb I.hP,s8 _ _<|Fb I.hT,I.nP,?_,?_,I.fq,I.fe,?_,λz hz=>let ⟨us,hu⟩:=I.nl z hz;⟨us,s8 _ _<|Fb hu⟩⟩
   ·obtain⟨o,ho⟩:=I.al z hz;by_cases y:z=p
    ·exact⟨_,by rw[y];exact s8 _ _ AH⟩
    ·exact⟨o,PQ _ _ ho y⟩
   ·rw[Ik];exact Paired.dw I.pz λ_ _ z=>z.kl PR λ_ h=>h
   ·rw[rT];exact Paired.dw I.pw λ_ _ z=>z.kl PR λ_ h=>h
   ·cases et:H t with
    |none=>rfl
    |some o=>
     by_cases y:t=p
     ·rw[y,AH] at ft;cases ft
     ·rw[b7 _ _ (I.sm _ _ et) y] at ft;cases ft
 obtain⟨vf,vd,h1,h2,h3⟩:=S4.ob;obtain⟨kvs,he,lk,ke⟩:=S4.he;have pA:=nG _ _ hl;have w4:∀z,(λz=>M z\/(z=P\/z=Tl)) z->M z\/H2 z=none:=λz hz=>hz.elim .inl λy=>.inr (y.elim (λy=>y ▸ fP) λy=>y ▸ s3.free fT);have PU:bP (λz=>M z\/(z=P\/z=Tl)) CS H4 q dq e g.x g.kn g.se g.fl g.de ea:=(S2.weak w4).same E6;have PV:=λh=>go P ea H4 (.inr ⟨h,rfl⟩) E7 nG PU AG AF;refine bq<|wq<|bo<|bp<|ae rfl<|aw<|bU pA rfl<|br<|ae rfl ⟨q,CS,dq,_,_,rfl,h1,TS.cl,TS.lV,rH,ae3 ⟨_,rfl,fV (λrT=>?_)<|λrT=>iF (cJ<|PV<|.inl ?_) rfl⟩⟩
 rotate_left
 ·have:¬((n0:Nat):Int) >((g.kn:Nat):Int):=λz=>rT (zqT z);lia
 have rT:g.kn<n0:=by have:=of_decide_eq_true rT;lia
 refine aeg<|bp<|ae rfl<|aw<|bU pA rfl<|br<|ae rfl ⟨q,CS,dq,_,_,rfl,h1,TS.cl,TS.qH,wI,e,_,rfl,eF.k (k:=.inl ((n0:Nat):Int)) he,_,rfl,?_⟩;have rS:=ke n0;cases xh:ea n0 with
 |some u=>
  rw[xh] at rS;obtain⟨t,xs,g1,_⟩:=rS;exact iF (cJ<|PV<|.inr ⟨u,xh⟩) (by rw[g1];rfl)
 |none=>
  rw[xh] at rS;refine iT ?_ (by rw[show c5 kvs (.inl ((n0:Nat):Int))=none from rS];rfl)
  refine uj<|ma<|aD<|bp<|ae rfl<|aw<|bU pA rfl<|aD<|pI<|bp<|ae rfl<|aw<|bU pA rfl ⟨_,.inl<|aB.of<|nG _ _ hb,λa0 fa=>?_⟩;have s5:=sameNew (o:=.lst ys) fa;have PX:upd H4 a0 (.lst ys) a0=some (.lst ys):=ay;generalize upd H4 a0 (.lst ys)=H5 at s5 PX⊢;refine aO ⟨e7,λt0 ft=>?_⟩;have s6:=sameNew (o:=.tup [V.int (cA:Nat),V.ref a0]) ft;have PY:upd H5 t0 (.tup [V.int (cA:Nat),V.ref a0]) t0=some (.tup [V.int (cA:Nat),V.ref a0]):=ay;generalize upd H5 t0 (.tup [V.int (cA:Nat),V.ref a0])=H6 at s6 PY⊢;have lg:=s5.trans s6;have pE:=nG.trans lg;refine br<|ae rfl ⟨q,CS,dq,_,_,rfl,lg _ _ h1,TS.cl,TS.qH,wI,bp<|ae rfl<|aw<|bU (lg _ _ pA) rfl ⟨e,_,rfl,kr.k (k:=.inl ((n0:Nat):Int)) (lg _ _ he)<|dg (by lia),?_⟩⟩
  have fa0:H a0=none:=nG.free fa;have S6:bP (MS.add (λz=>M z\/(z=P\/z=Tl)) a0) CS H6 q dq e g.x g.kn g.se g.fl g.de ea:=(PU.weak λz hz=>hz.elim (λy=>.inr<|y ▸ fa) .inl).same lg;have naM:¬(λz=>M z\/(z=P\/z=Tl)) a0:=λhz=>by
   rcases hz with hz|rfl|rfl
   ·exact al4.no fa hz
   ·rw[AG] at fa;cases fa
   ·rw[AF] at fa;cases fa
  have S7:=S6.early (n:=n0) (lg _ _ he) PY (s6 _ _ PX) (pv.mono<|bM pE) naM xh;have up:∀{z:Addr}{us:List V},H6 z=some (.lst us)->upd H6 e (.dK<|putK kvs (.inl ((n0:Nat):Int))<|.ref t0) z=some (.lst us):=λez=>uv (lg _ _ he) (λ_ z=>by cases z) ez
  refine go a0 _ _ (.inl ⟨rT,xh,rfl⟩) fa0 (λz o ez=>?_) S7 (up<|lg _ _ AG)<|up<|lg _ _ AF;rw[az<|aM ez<|s1.free fe];exact pE _ _ ez
end
section
variable {own sn m n base:Nat}{tx:List (List Nat)}{tk:List (Nat×List Pt)}{g:Gs}{c:List Pt}{r:List Nat}{e:Nat×List Pt}
def jb(own:Nat)(tk:List (Nat×List Pt))(kn:Nat):Prop:= ∀j e,tk[kn+j]?=some e->e.1≠own
def fm(own sn:Nat)(tk:List (Nat×List Pt))(g:Gs):Prop:=(sn=g.se/\g.fl=none/\jb own tk g.kn)\/(sn+1=g.se/\g.fl≠none/\jb own tk g.kn)\/(sn=g.se/\g.fl≠none/\ ¬jb own tk g.kn/\1<=sn)
structure c_ (tx:List (List Nat)) (tk:List (Nat×List Pt)) (sn:Nat) (g:Gs) (n base:Nat) (c:List Pt):Prop where
 n1:1<=n
 le:n<=g.se
 bk:base<=g.kn
 cg:∃l r,tx[base]?=some l/\bX c l r
 tt:aA c<=5200
 lv:n=sn+1->g.fl=some (pj tk base (g.kn - base) c)
theorem Fc{at':Nat}(h:at'+j<=tk.length):pj (tk++x) at' j c=pj tk at' j c:=by
 unfold pj;rw[List.drop_append_of_le_length (by lia),List.take_append_of_le_length (by rw[zaz];lia)]
theorem jb.app(h:jb own tk g.kn)(hk:g.kn<=tk.length)(hm:m≠own):jb own (tk++[(m,c)]) g.kn:=λj e he=>by
 by_cases z:g.kn+j<tk.length
 ·rw[zay z] at he;exact h j e he
 ·rw[zaL (by lia)] at he
  cases hz:g.kn+j - tk.length with
  |zero=>rw[hz] at he;cases he;exact hm
  |succ k=>rw[hz] at he;simp at he
theorem jb.afg(h:jb own (tk++[(m,c)]) g.kn):jb own tk g.kn:=λj e he=>h j e (by rw[zay (zad.mp he).1];exact he)
theorem Iv.more(I:Iv own tx tk g)(T':Taken (tx++[r]) (tk++[(m,c)]))(gr:r.length<=5200/\∀z∈r,SG.cps.contains z=true)(hm:m=own->(∃f,g.fl=some f/\c=pj tk g.kn (tk.length - g.kn) f)/\jb own tk g.kn):Iv own (tx++[r]) (tk++[(m,c)]) g:=by
 have hk:=I.kn;have lt:=I.T.len;refine⟨T',λl hl=>?_,by rw[zqA];lia,I.fd,?_,I.tf,I.td,I.gx,λj ps hj=>?_⟩
 ·rcases zab.mp hl with h|h
  ·exact I.gt l h
  ·rw[zag.mp h];exact gr
 ·obtain⟨l,m',h1,h2⟩:=I.oc;exact⟨l,m',by rw[zay (by lia)];exact h1,h2⟩
 ·by_cases z:g.kn+j<tk.length
  ·rw[zay z] at hj;obtain⟨⟨f,e1,e2⟩,h2⟩:=I.pend j ps hj;refine⟨⟨f,e1,by rw[Fc (by lia)];exact e2⟩,λj' bu e he=>h2 j' bu e (by rw[zay (by lia)] at he;exact he)⟩
  ·rw[zaL (by lia)] at hj
   cases hz:g.kn+j - tk.length with
   |zero=>
    rw[hz] at hj;cases hj;obtain⟨⟨f,e1,e2⟩,h2⟩:=hm rfl;have ej:j=tk.length - g.kn:=by lia
    refine⟨⟨f,e1,by rw[Fc (by lia),ej];exact e2⟩,λj' bu e he=>h2 j' e (by rw[zay (by lia)] at he;exact he)⟩
   |succ k=>rw[hz] at hj;simp at hj
theorem c_.more(A:c_ tx tk sn g n base c){x:List (Nat×List Pt)}{y:List (List Nat)}(hk:g.kn<=tk.length):c_ (tx++y) (tk++x) sn g n base c:=by
 obtain⟨l,r,h1,h2⟩:=A.cg;exact⟨A.n1,A.le,A.bk,⟨l,r,by rw[zay (zad.mp h1).1];exact h1,h2⟩,A.tt,λz=>by rw[Fc (by have:=A.bk;lia)];exact A.lv z⟩
theorem fm.more(S:fm own sn tk g)(hk:g.kn<=tk.length)(hm:m≠own):fm own sn (tk++[(m,c)]) g:=by
 rcases S with⟨a,b,d⟩|⟨a,b,d⟩|⟨a,b,d⟩
 ·exact .inl ⟨a,b,d.app hk hm⟩
 ·exact .inr (.inl ⟨a,b,d.app hk hm⟩)
 ·exact .inr (.inr ⟨a,b,λz=>d.1 z.afg,d.2⟩)
theorem afh(S:fm own sn tk g)(hk:g.kn<=tk.length)(A:c_ tx tk sn g (sn+1) base c):jb own tk g.kn/\∀c',fm own (sn+1) (tk++[(own,c')]) g:=by
 have le:=A.le;rcases S with⟨a,b,d⟩|⟨a,b,d⟩|⟨a,b,d⟩
 ·lia
 ·refine⟨d,λc'=>.inr<|.inr ⟨a,b,λz=>z (tk.length - g.kn) (own,c') ?_ rfl,zbg _⟩⟩;rw[show g.kn+(tk.length - g.kn)=tk.length by lia,zaL<|zqR _,zaK];rfl
 ·lia
theorem c_.eM(S:fm own sn tk g)(A:c_ tx tk sn g n base c):c_ tx tk (sn+1) g n base c:=⟨A.n1,A.le,A.bk,A.cg,A.tt,λz=>by
 have le:=A.le;rcases S with⟨a,_⟩|⟨a,_⟩|⟨a,_⟩ <;>lia⟩
theorem PZ(h:jb own tk g.kn):jb own tk (g.kn+1):=λj e he=>h (j+1) e (by lia)
theorem afi(I:Iv own tx tk g)(S:fm own sn tk g)(he:tk[g.kn]?=some e):fm own sn tk (c9 own e g):=by
 unfold c9;by_cases ho:e.1=own
 ·rw[if_pos ho];have Ax:tk[g.kn+0]?=some (own,e.2):=by lia
  have un:jb own tk (g.kn+1):=λj e' h' z=>by
   have h2:tk[g.kn+(j+1)]?=some (own,e'.2):=by lia
   exact(I.pend (j+1) e'.2 h2).2 0 (zbg _) e he ho
  rcases S with⟨a,b,d⟩|⟨a,b,d⟩|⟨a,b,d⟩
  ·exact absurd ho (d 0 e he)
  ·exact absurd ho (d 0 e he)
  ·cases hd:g.de with
   |none=>exact .inl ⟨a,rfl,un⟩
   |some q=>exact .inr (.inl ⟨by show sn+1=g.se+1;lia,nofun,un⟩)
 ·rw[if_neg ho];have pn:pF e.2 g.fl=none↔g.fl=none:=by cases g.fl<;>simp[pF]
  rcases S with⟨a,b,d⟩|⟨a,b,d⟩|⟨a,b,d⟩
  ·exact .inl ⟨a,pn.mpr b,PZ d⟩
  ·exact .inr (.inl ⟨a,λz=>b<|pn.mp z,PZ d⟩)
  ·refine .inr (.inr ⟨a,λz=>b<|pn.mp z,λz=>d.1 λj e' h'=>?_,d.2⟩);cases j with
   |zero=>rw[show tk[g.kn+0]?=some e from he] at h';cases h';exact ho
   |succ j=>exact z j e' (by lia)
theorem P0(I:Iv own tx tk g)(S:fm own sn tk g)(he:tk[g.kn]?=some e)(A:c_ tx tk sn g n base c):c_ tx tk sn (c9 own e g) n base c:=by
 have le:=A.le;have bk:=A.bk;unfold c9;by_cases ho:e.1=own
 ·refine⟨A.n1,?_,by lia,A.cg,A.tt,λz=>?_⟩
  ·cases g.de<;>simp[rP] <;>lia
  ·rcases S with⟨a,b,d⟩|⟨a,b,d⟩|⟨a,b,d⟩
   ·exact absurd ho (d 0 e he)
   ·exact absurd ho (d 0 e he)
   ·lia
 ·rw[if_neg ho];refine⟨A.n1,le,by lia,A.cg,A.tt,λz=>?_⟩
  rw[A.lv z,show g.kn+1 - base=(g.kn - base)+1 by lia,rE (by rw[show base+(g.kn - base)=g.kn by lia];exact he)]
  rfl
theorem afj(I:Iv own tx tk g)(he:tk[g.kn]?=some e):∀a∈k6 own e g,c_ tx tk sn (c9 own e g) a.1 a.2.1 a.2.2:=λa ha=>by
 have I':=I.next he;unfold k6 at ha;unfold c9 at I'⊢;by_cases ho:e.1=own
 ·rw[if_pos ho] at ha I'⊢;cases hd:g.de with
  |none=>rw[hd] at ha;cases ha
  |some q=>
   rw[hd] at ha I';rw[zag.mp ha];obtain⟨l,m',h1,h2,_⟩:=I'.oc;exact⟨zbg _,zqR _,zqR _,⟨l,m',h1,h2⟩,I'.tf,λ_=>by rw[zaK,uu]⟩
 ·rw[if_neg ho] at ha;cases ha
theorem xj(j:Nat)(h:g.kn+(j+1)<=tk.length):∃e,tk[(bF own tk g j).1.kn]?=some e/\tk.getD (bF own tk g j).1.kn (0,[])=e:=by
 have hk:(bF own tk g j).1.kn<tk.length:=by rw[w_];lia
 exact⟨_,zai hk,by rw[zaN,zai hk];rfl⟩
theorem xk(I:Iv own tx tk g)(S:fm own sn tk g):∀j,g.kn+j<=tk.length->fm own sn tk (bF own tk g j).1
 | 0,_=>S
 |j+1,h=>by
  obtain⟨e,he,eg⟩:=xj j h;show fm own sn tk (c9 own _ _);rw[eg];exact afi (I.run j (by lia)) (xk I S j (by lia)) he
theorem P2(I:Iv own tx tk g)(S:fm own sn tk g)(A:c_ tx tk sn g n base c):∀j,g.kn+j<=tk.length->c_ tx tk sn (bF own tk g j).1 n base c
 | 0,_=>A
 |j+1,h=>by
  obtain⟨e,he,eg⟩:=xj j h;show c_ tx tk sn (c9 own _ _) n base c;rw[eg];exact P0 (I.run j (by lia)) (xk I S j (by lia)) he<|P2 I S A j (by lia)
theorem P4(I:Iv own tx tk g)(S:fm own sn tk g):∀j,g.kn+j<=tk.length->∀a∈ (bF own tk g j).2.1,c_ tx tk sn (bF own tk g j).1 a.1 a.2.1 a.2.2
 | 0,_,a,ha=>by cases ha
 |j+1,h,a,ha=>by
  obtain⟨e,he,eg⟩:=xj j h;have I1:=I.run j (by lia)
  show c_ tx tk sn (c9 own _ _) a.1 a.2.1 a.2.2;rw[eg];rcases zab.mp (show a∈ (bF own tk g j).2.1++k6 own _ _ from ha) with h1|h1
  ·exact P0 I1 (xk I S j (by lia)) he (P4 I S j (by lia) a h1)
  ·rw[eg] at h1;exact afj I1 he a h1
def my:List Nat->List (List Pt)->List Nat->Prop
 |l,[],r=>l=r
 |l,c::cs,r=>∃m,bX c l m/\(m.length<=15600/\∀z∈m,SG.cps.contains z=true)/\my m cs r
theorem P5{m:List Nat}:∀{l:List Nat}{a:List (List Pt)},my l a m->my m b r->my l (a++b) r
 |l,[],h,h'=>by rw[show l=m from h];exact h'
 |l,c::a,⟨k,h1,hg,h2⟩,h'=>⟨k,h1,hg,P5 h2 h'⟩
theorem afk(I:Iv own tx tk g)(he:tk[g.kn]?=some e):my g.x.cps.toList (k7 own e g) (c9 own e g).x.cps.toList:=by
 obtain⟨l,l',m',h1,h4,c1,c2,h2,h3⟩:=I.at' he;unfold k7 c9;by_cases ho:e.1=own
 ·rw[if_pos ho,if_pos ho];rfl
 ·rw[if_neg ho,if_neg ho];obtain⟨m2,a1,a2,a3,a4⟩:=h2.pass c1 c2 I.tf;obtain⟨r2,b1,b2,b3,b4⟩:=h3.pass a2 (by lia) I.td
  have er:=b2.run.fits.2;have J:=I.next he;unfold c9 at J;have jl:=J.len.1;have je:(⟨r2.toArray⟩:Str).length=r2.length:=rfl
  refine⟨r2,b2,⟨by lia,λz hz=>J.gx z (by lia)⟩,?_⟩
  show r2=(⟨(out g.x.cps.toList<|av<|pP (pP e.2 g.fl) g.de).toArray⟩:Str).cps.toList;rw[er]
theorem P6(I:Iv own tx tk g):∀j,g.kn+j<=tk.length->my g.x.cps.toList (bF own tk g j).2.2 (bF own tk g j).1.x.cps.toList
 | 0,_=>rfl
 |j+1,h=>by
  obtain⟨e,he,eg⟩:=xj j h;show my _ (_++k7 own _ _) (c9 own _ _).x.cps.toList;rw[eg];exact P5 (P6 I j (by lia))<|afk (I.run j (by lia)) he
def da(g:Gs)(c ps:List Pt)(r:List Nat):Gs:=match g.fl,g.de with
 |none,_=>⟨⟨r.toArray⟩,g.kn,g.se+1,some c,none⟩
 |some f,none=>⟨⟨r.toArray⟩,g.kn,g.se,some f,some c⟩
 |some f,some _=>⟨⟨r.toArray⟩,g.kn,g.se,some f,some ps⟩
theorem afl(I:Iv own tx tk g)(S:fm own sn tk g)(hc:bX c g.x.cps.toList r)(gr:∀z∈r,SG.cps.contains z=true)(tc:aA c<=5200)(hj:∀f d m l,g.fl=some f->g.de=some d->tx[g.kn]?=some l->OC g.fl l m->bX ps m r/\aA ps<=5200):
  Iv own tx tk (da g c ps r)/\fm own sn tk (da g c ps r)/\(∀n base c',c_ tx tk sn g n base c'->c_ tx tk sn (da g c ps r) n base c')/\(g.fl=none->c_ tx tk sn (da g c ps r) (g.se+1) g.kn c):=by
 obtain⟨l,m',h1,h2,h3⟩:=I.oc;have el:(⟨r.toArray⟩:Str).cps.toList=r:=rfl
 have tf:=I.tf;unfold da;cases hf:g.fl with
 |none=>
  rw[I.fd hf] at h3;rw[hf] at h2;have e1:l=m':=h2;have e2:m'=g.x.cps.toList:=h3;have jI:bX c l r:=by lia
  rcases S with⟨a,b,d⟩|⟨a,b,d⟩|⟨a,b,d⟩
  ·refine⟨⟨I.T,I.gt,I.kn,λ_=>rfl,⟨l,r,h1,jI,rfl⟩,tc,zqZ _,el▸gr,λj ps hj=>absurd rfl<|d j _ hj⟩,.inr<|.inl ⟨by lia,nofun,d⟩,λn base c' A=>⟨A.n1,by have:=A.le;lia,A.bk,A.cg,A.tt,λz=>by have:=A.le;lia⟩,λ_=>⟨zbg _,zqR _,zqR _,⟨l,r,h1,jI⟩,tc,λ_=>by rw[zaK,uu]⟩⟩
  ·exact absurd hf b
  ·exact absurd hf b
 |some f=>
  rw[hf] at h2 tf;have sk:∀q:Option (List Pt),fm own sn tk ⟨⟨r.toArray⟩,g.kn,g.se,some f,q⟩:=λq=>by
   rcases S with⟨a,b,d⟩|⟨a,b,d⟩|⟨a,b,d⟩
   ·rw[hf] at b;cases b
   ·exact .inr (.inl ⟨a,nofun,d⟩)
   ·exact .inr (.inr ⟨a,nofun,d⟩)
  have ak:∀(q:Option (List Pt)) n base c',c_ tx tk sn g n base c'->c_ tx tk sn ⟨⟨r.toArray⟩,g.kn,g.se,some f,q⟩ n base c':=λq n base c' A=>⟨A.n1,A.le,A.bk,A.cg,A.tt,λz=>by rw[<-A.lv z,hf]⟩
  have pd:=λj ps h=>by
   have:=I.pend j ps h;rw[hf] at this;exact this
  cases hd:g.de with
  |none=>
   rw[hd] at h3;refine⟨⟨I.T,I.gt,I.kn,nofun,⟨l,m',h1,h2,h3▸hc⟩,tf,tc,el▸gr,pd⟩,sk _,ak _,nofun⟩
  |some d=>
   obtain⟨k1,k2⟩:=hj f d m' l hf hd h1 (by lia)
   exact⟨⟨I.T,I.gt,I.kn,(nofun),⟨l,m',h1,h2,el▸k1⟩,tf,k2,el▸gr,pd⟩,sk _,ak _,nofun⟩
theorem afm(I:Iv own tx tk g){f:List Pt}(hf:g.fl=some f)(S:fm own sn tk g):c_ tx tk sn g g.se g.kn f:=by
 obtain⟨l,m',h1,h2,_⟩:=I.oc;rw[hf] at h2;have tf:=I.tf;rw[hf] at tf;refine⟨?_,zqR _,zqR _,⟨l,m',h1,h2⟩,tf,λ_=>by rw[zaK];exact hf⟩
 rcases S with⟨a,b,d⟩|⟨a,b,d⟩|⟨a,b,d⟩
 ·rw[hf] at b;cases b
 ·lia
 ·lia
end
end L2.fZ
namespace L2.bY
open PySem PySem.Spec L2.B L2.N L2.fZ
abbrev f4(x:Str)(se ch mk:Addr):List (Str×V):=[("signs",.str x),("serials",.ref se),("changes",.ref ch),("makers",.ref mk)]
theorem P7{se ch:Addr}:(f4 x se ch mk).lookup ("signs":Str)=some (.str x):=iM
theorem xn{se ch:Addr}:(f4 x se ch mk).lookup ("serials":Str)=some (.ref se):=rfl
theorem AI{se ch:Addr}:(f4 x se ch mk).lookup ("changes":Str)=some (.ref ch):=rfl
theorem P8{se ch:Addr}:(f4 x se ch mk).lookup ("makers":Str)=some (.ref mk):=rfl
theorem hV{se ch:Addr}{m:Str}(h:((¬m="signs"/\ ¬m="serials")/\ ¬m="changes")/\ ¬m="makers":=by decide+kernel):(f4 x se ch mk).lookup m=none:=
 (cL h.1.1.1).trans ((cL h.1.1.2).trans<|(cL h.1.2).trans<|(cL h.2).trans rfl)
theorem afn{se ch:Addr}:aI "makers" (.ref mk) (aI "changes" (.ref ch)<|aI "serials" (.ref se)<|aI "signs" (.str x) [])=f4 x se ch mk:=rfl
theorem afo{se ch:Addr}:aI "signs" (.str y) (f4 x se ch mk)=f4 y se ch mk:=l_
def d4(M:List Addr)(H:Hp)(v:V)(ps:List Pt):Prop:= ∃a xs,v=.ref a/\H a=some (.lst xs)/\aG H xs ps/\a∉M
def bx(M:List Addr)(H H':Hp):Prop:= ∀b o,H b=some o->b∉M->H' b=some o
structure dH (M:List Addr) (C:Addr) (H:Hp) (p dx se ch mk:Addr) (x:Str) (ar:List Nat) (tk:List (Nat×List Pt)):Prop where
 ob:H p=some (.ins C dx<|f4 x se ch mk)
 fo:H se=some (.lst<|nV ar)
 bZ:∃cG,H ch=some (.lst cG)/\Paired (d4 M H) cG (tk.map (·.2))
 ju:H mk=some (.lst (nV (tk.map (·.1))))
 nd:se≠ch/\se≠mk/\ch≠mk
 mm:se∈M/\ch∈M/\mk∈M
section
variable {K:Frag}{M:List Addr}{C:Addr}{H H':Hp}{p dx se ch mk:Addr}{x:Str}{ar:List Nat}{tk:List (Nat×List Pt)}
theorem d4.same(h:d4 M H v ps)(s:aC H H'):d4 M H' v ps:=by
 obtain⟨a,xs,e,h1,h2,h3⟩:=h;exact⟨a,xs,e,s _ _ h1,h2.mono<|bM s,h3⟩
theorem dH.same(S:dH M C H p dx se ch mk x ar tk)(s:aC H H'):dH M C H' p dx se ch mk x ar tk:=by
 obtain⟨cG,h1,h2⟩:=S.bZ;exact⟨s _ _ S.ob,s _ _ S.fo,⟨cG,s _ _ h1,Paired.dw h2 λ_ _ z=>z.same s⟩,s _ _ S.ju,S.nd,S.mm⟩
theorem afp(S:dH M C H p dx se ch mk x ar tk){k m:Nat}(h:tk[k]?=some (m,ps)):∃cG v,H ch=some (.lst cG)/\cG[k]?=some v/\d4 M H v ps:=by
 obtain⟨cG,h1,h2⟩:=S.bZ;have hl:=Paired.length h2;rw[zaf] at hl;have hk:=(zad.mp h).1;have e:cG[k]?=some cG[k]:=zai (by lia)
 obtain⟨y,hy,r⟩:=wy h2 e;rw[zan,h] at hy;cases hy;exact⟨cG,_,h1,e,r⟩
inductive Fd (C:Addr)(vs:List V)(H:Hp)(Q:VK)(E:XK):Prop|i(p dx:Addr)(x:Str)(h:Nat)(_:vs=[.ref p,.str x,.int (h:Nat)])(_:H p=some (.ins C dx []))(_:good x)(_:1<=h)(_:h<=8)(_:∀se ch mk H',H se=none->H ch=none->H mk=none->dH [se,ch,mk] C H' p dx se ch mk x (List.replicate h 0) []->(∀b o,H b=some o->b≠p->H' b=some o)->Q .au H')
theorem afq(T:lU K C):bQ (Fd C) (λE=>aN K [("need_text",qS),("is_between",jB)] [("MOST_HANDS",.int 8)] (et:=[("NoHand",CN)]) (E:=E)) KZ KY:=by
 intro vs H Q E h;obtain⟨p,dx,x,h,rfl,hp,gx,h1,h8,k⟩:=h;refine fk<|bN qS rfl<|aD<|ae rfl<|aO ⟨x,rfl,gx,?_⟩;refine bq<|eL<|jz jB rfl<|aD<|ae rfl<|aD<|aw<|aD<|DT<|aO ⟨_,_,_,rfl,by lia,by lia,gg<|iF (cJ ?_) rfl⟩
 refine dm<|ae rfl<|ae rfl ⟨p,C,dx,[],rfl,hp,T.cl,T.js,(by simp),?_⟩
 have eJ:upd H p (.ins C dx<|aI "signs" (.str x) []) p=some (.ins C dx<|aI "signs" (.str x) []):=ay;have b1:aW p H (upd H p<|.ins C dx<|aI "signs" (.str x) []):=aW.upd
 generalize upd H p (.ins C dx<|aI "signs" (.str x) [])=H1 at eJ b1⊢;have fr:∀{z:Addr},H1 z=none->H z=none:=λ{z} hz=>by
  cases e:H z with
  |none=>rfl
  |some o=>
   by_cases zp:z=p
   ·rw[zp,eJ] at hz;cases hz
   ·rw[b1 _ _ e zp] at hz;cases hz
 refine dm ?_;refine⟨_,rfl,_,rfl,by lia,by lia,Ab (n:=h) (by lia) (λi ys H2=>H2=H1/\ys=List.replicate i (V.int 0)) ⟨rfl,rfl⟩ ?_ ?_⟩
 ·rintro i ys H2 hi s2 ⟨rfl,rfl⟩ Q' kk;refine aw<|kk _ _ (aC.refl _) ⟨rfl,?_⟩;rw[List.replicate_succ']
 rintro ys H2 se s2 ⟨rfl,rfl⟩ mz;have t2:=sameNew (o:=.lst (List.replicate h<|V.int 0)) mz;have fo:upd H2 se (.lst<|List.replicate h<|V.int 0) se=some (.lst<|nV<|List.replicate h 0):=by rw[ay];unfold nV;rw[List.map_replicate];rfl
 have e_:=t2 _ _ eJ;have ux:se≠p:=λz=>by lia
 have k2:∀b o,H b=some o->b≠p->upd H2 se (.lst<|List.replicate h<|V.int 0) b=some o:=λb o e nb=>t2 _ _ (b1 _ _ e nb);generalize upd H2 se (.lst<|List.replicate h<|V.int 0)=H3 at t2 fo e_ k2⊢;refine ae rfl ⟨p,C,dx,_,rfl,e_,T.cl,T.tE,(by show 1<1000;decide),?_⟩
 have v8:upd H3 p (.ins C dx<|aI "serials" (.ref se)<|aI "signs" (.str x) []) p=some (.ins C dx<|aI "serials" (.ref se)<|aI "signs" (.str x) []):=ay;have b3:aW p H3 (upd H3 p<|.ins C dx<|aI "serials" (.ref se)<|aI "signs" (.str x) []):=aW.upd;generalize upd H3 p (.ins C dx<|aI "serials" (.ref se)<|aI "signs" (.str x) [])=H4 at v8 b3⊢;refine dm<|fH<|aO ⟨zqZ _,λch j9=>?_⟩;have kg:ch≠p:=λz=>by lia
 have nsc:se≠ch:=aM (b3 _ _ fo ux) j9;have aft:H ch=none:=by
  cases e:H ch with
  |none=>rfl
  |some o=>rw[b3 _ _ (k2 _ _ e kg) kg] at j9;cases j9
 refine ae rfl ⟨p,C,dx,_,rfl,(by rw[az<|Ne.symm kg];exact v8),T.cl,T.vC,(by show 2<1000;decide),?_⟩
 have wB:upd (upd H4 ch<|.lst []) p (.ins C dx<|aI "changes" (.ref ch)<|aI "serials" (.ref se)<|aI "signs" (.str x) []) p=some (.ins C dx<|aI "changes" (.ref ch)<|aI "serials" (.ref se)<|aI "signs" (.str x) []):=ay;have b5:∀b o,H4 b=some o->b≠p->upd (upd H4 ch<|.lst []) p (.ins C dx<|aI "changes" (.ref ch)<|aI "serials" (.ref se)<|aI "signs" (.str x) []) b=some o:=λb o e nb=>by rw[az nb,az<|aM e j9];exact e
 have uz:upd (upd H4 ch<|.lst []) p (.ins C dx<|aI "changes" (.ref ch)<|aI "serials" (.ref se)<|aI "signs" (.str x) []) ch=some (.lst []):=by rw[az kg];exact ay
 generalize upd (upd H4 ch<|.lst []) p (.ins C dx<|aI "changes" (.ref ch)<|aI "serials" (.ref se)<|aI "signs" (.str x) [])=H5 at wB b5 uz⊢;refine dm<|fH<|aO ⟨zqZ _,λmk jE=>?_⟩;have xo:mk≠p:=λz=>by lia
 have ncm:ch≠mk:=aM uz jE;have nsm:se≠mk:=aM (b5 _ _ (b3 _ _ fo ux) ux) jE;have afw:H mk=none:=by
  cases e:H mk with
  |none=>rfl
  |some o=>rw[b5 _ _ (b3 _ _ (k2 _ _ e xo) xo) xo] at jE;cases jE
 refine ae rfl ⟨p,C,dx,_,rfl,(by rw[az<|Ne.symm xo];exact wB),T.cl,T.C_,(by show 3<1000;decide),?_⟩
 have u:∀{z:Addr}{o:HO},H5 z=some o->z≠p->upd (upd H5 mk<|.lst []) p (.ins C dx<|aI "makers" (.ref mk)<|aI "changes" (.ref ch)<|aI "serials" (.ref se)<|aI "signs" (.str x) []) z=some o:=λe nz=>by rw[az nz,az<|aM e jE];exact e
 refine k se ch mk _ (fr mz) aft afw ⟨?_,u (b5 _ _ (b3 _ _ fo ux) ux) ux,⟨[],u uz kg,.nil⟩,?_,⟨nsc,nsm,ncm⟩,⟨.head _,.tail _<|.head _,.tail _<|.tail _<|.head _⟩⟩ λb o e nb=>u (b5 _ _ (b3 _ _ (k2 _ _ e nb) nb) nb) nb
 ·rw[ay];exact congrArg (λl=>some<|HO.ins C dx l) afn
 ·rw[az xo];exact ay
inductive Fe (C:Addr)(vs:List V)(H:Hp)(Q:VK)(E:XK):Prop|i(M:List Addr)(p dx se ch mk:Addr)(x:Str)(ar:List Nat)(tk:List (Nat×List Pt))(_:vs=[.ref p])(_:dH M C H p dx se ch mk x ar tk)(_:Q (.str x) H)
theorem afx(T:lU K C):bQ (Fe C) (λE=>aN K [] [] (E:=E)) K2 ib:=by
 intro vs H Q E h;obtain⟨M,p,dx,se,ch,mk,x,ar,tk,rfl,S,q⟩:=h;exact bS<|br<|ae rfl ⟨p,C,dx,_,_,rfl,S.ob,T.cl,T.js,P7,q⟩
inductive lq (C:Addr)(vs:List V)(H:Hp)(Q:VK)(E:XK):Prop|i(M:List Addr)(p dx se ch mk:Addr)(x:Str)(ar:List Nat)(tk:List (Nat×List Pt))(_:vs=[.ref p])(_:dH M C H p dx se ch mk x ar tk)(_:Q (.int (tk.length:Nat)) H)
theorem afy(T:lU K C):bQ (lq C) (λE=>aN K [] [] (E:=E)) K4 ib:=by
 intro vs H Q E h;obtain⟨M,p,dx,se,ch,mk,x,ar,tk,rfl,S,q⟩:=h;obtain⟨cG,h1,h2⟩:=S.bZ;have hl:=Paired.length h2;rw[zaf] at hl;refine bS<|i_<|br<|ae rfl ⟨p,C,dx,_,_,rfl,S.ob,T.cl,T.vC,AI,.inl ⟨_,aB.of h1,?_⟩⟩;rw[hl];exact q
inductive xp (C:Addr)(vs:List V)(H:Hp)(Q:VK)(E:XK):Prop|i(M:List Addr)(p dx se ch mk:Addr)(x:Str)(ar:List Nat)(tk:List (Nat×List Pt))(k m:Nat)(ps:List Pt)(_:vs=[.ref p,.int ((k+1:Nat):Int)])(_:dH M C H p dx se ch mk x ar tk)(_:tk[k]?=some (m,ps))(_:∀l H' xs,aC H H'->H l=none->H' l=some (.lst xs)->aG H' xs ps->Q (.ref l) H')
theorem afz(T:lU K C):bQ (xp C) (λE=>aN K [("is_between",jB)] [] [] [("many",C,lq C)] (et:=[("NoLetter",CL)]) (E:=E)) K7 K6:=by
 intro vs H Q E h;obtain⟨M,p,dx,se,ch,mk,x,ar,tk,k,m,ps,rfl,S,hk,q⟩:=h;have D3:=(zad.mp hk).1;obtain⟨cG,v,h1,h2,a,xs,rfl,ha,pv,_⟩:=afp S hk;refine bq<|eL<|jz jB rfl<|aD<|ae rfl<|aD<|aw<|aD<|ie C (lq C) rfl<|ae rfl ⟨p,dx,_,rfl,S.ob,hV,M,p,dx,se,ch,mk,x,ar,tk,rfl,S,aO ⟨_,_,_,rfl,by lia,by lia,gg<|iF (cJ ?_) rfl⟩⟩
 refine bS<|pI<|bp<|br<|ae rfl ⟨p,C,dx,_,_,rfl,S.ob,T.cl,T.vC,AI,bI<|ae rfl<|aw<|wx ?_⟩;rw[show(((k+1:Nat):Int) - 1)=((k:Nat):Int) by lia]
 refine jA h1 (fE h2) ⟨_,.inl<|aB.of ha,λl fl=>q l _ xs (sameNew fl) fl ay<|pv.mono<|bM<|sameNew fl⟩
def cT(H:Hp)(t:Addr)(h n m:Nat)(ps:List Pt)(l:Addr):Prop:=H t=some (.tup [.str "took",.int (h:Nat),.int (n:Nat),.int (m:Nat),.ref l])/\∃xs,H l=some (.lst xs)/\aG H xs ps
inductive xq (C:Addr)(vs:List V)(H:Hp)(Q:VK)(E:XK):Prop|i(M:List Addr)(p dx se ch mk:Addr)(x:Str)(ar:List Nat)(tk:List (Nat×List Pt))(h k m:Nat)(ps:List Pt)(_:vs=[.ref p,.int (h:Nat),.int ((k+1:Nat):Int)])(_:dH M C H p dx se ch mk x ar tk)(_:tk[k]?=some (m,ps))(_:∀t l H',aC H H'->H t=none->H l=none->cT H' t h (k+1) m ps l->Q (.ref t) H')
theorem afA(T:lU K C):bQ (xq C) (λE=>aN K [] [] [] [("change",C,xp C)] (E:=E)) La zc:=by
 intro vs H Q E h;obtain⟨M,p,dx,se,ch,mk,x,ar,tk,h,k,m,ps,rfl,S,hk,q⟩:=h;have am:(nV (tk.map (·.1)))[k]?=some (.int (m:Nat)):=by rw[zan,zan,hk];rfl
 refine bS<|ma<|aD<|aw<|aD<|ae rfl<|aD<|ae rfl<|aD<|bp<|br<|ae rfl ⟨p,C,dx,_,_,rfl,S.ob,T.cl,T.C_,P8,bI<|ae rfl<|aw<|wx ?_⟩;rw[show(((k+1:Nat):Int) - 1)=((k:Nat):Int) by lia]
 refine jA S.ju (fE am)<|aD<|i7 C (xp C) rfl<|ae rfl ⟨p,dx,_,rfl,S.ob,hV,ae rfl ⟨M,p,dx,se,ch,mk,x,ar,tk,k,m,ps,rfl,S,hk,λl H1 xs s1 fl hl pv=>aO ⟨Bc,λt ft=>?_⟩⟩⟩;have s2:=sameNew (o:=.tup [.str "took",.int (h:Nat),.int ((k+1:Nat):Int),.int (m:Nat),.ref l]) ft;exact q t l _ (s1.trans s2) (s1.free ft) fl ⟨ay,xs,s2 _ _ hl,pv.mono<|bM s2⟩
inductive xr (C:Addr)(vs:List V)(H:Hp)(Q:VK)(E:XK):Prop|i(M:List Addr)(p dx se ch mk:Addr)(x:Str)(ar:List Nat)(tk:List (Nat×List Pt))(h n:Nat)(_:vs=[.ref p,.int (h:Nat),.int (n:Nat)])(_:dH M C H p dx se ch mk x ar tk)(_:h<ar.length)(_:n<=tk.length)(_:Q (.bl true) H)
theorem afB(T:lU K C):bQ (xr C) (λE=>aN K [("is_between",jB)] [] [] [("many",C,lq C)] (E:=E)) Lh zc:=by
 intro vs H Q E h;obtain⟨M,p,dx,se,ch,mk,x,ar,tk,h,n,rfl,S,hh,hn,q⟩:=h;have ls:(nV ar).length=ar.length:=zaf ..;refine bS<|uc<|bN jB rfl<|aD<|ae rfl<|aD<|aw<|aD<|bI<|i_<|br<|ae rfl ⟨p,C,dx,_,_,rfl,S.ob,T.cl,T.tE,xn,.inl ⟨_,aB.of S.fo,aw<|wx<|aO ⟨_,_,_,rfl,by lia,by lia,_,rfl,iT ?_ rfl⟩⟩⟩
 exact Et<|bN jB rfl<|aD<|ae rfl<|aD<|aw<|aD<|ie C (lq C) rfl<|ae rfl ⟨p,dx,_,rfl,S.ob,hV,M,p,dx,se,ch,mk,x,ar,tk,rfl,S,aO ⟨_,_,_,rfl,by lia,by lia,q⟩⟩
theorem AJ{m:Str}(h:af Γ (.aR j m o as) σ H λx H1=>jP Γ.K x H1 λb=>QT b H1):a_ Γ (.aR j m o as) σ H QT:=h
abbrev Ff(h at':Nat):List V:=[.str "again",.int (h:Nat),.int (at':Nat)]
abbrev AK(h n at':Nat)(b:Addr):List V:=[.str "ask",.int (h:Nat),.int (n:Nat),.int (at':Nat),.ref b]
inductive AL (C:Addr)(vs:List V)(H:Hp)(Q:VK)(E:XK):Prop|i(M:List Addr)(p dx se ch mk:Addr)(x:Str)(ar:List Nat)(tk:List (Nat×List Pt))(lt:Addr)(_:vs=[.ref p,.ref lt])(_:dH M C H p dx se ch mk x ar tk)(_:((∃h at',H lt=some (.tup<|Ff h at')/\h<ar.length/\at'<=tk.length/\∀H',aC H H'->Q (.bl true) H')\/(∃us,H lt=some (.tup us)/\us.length=5/\Q (.bl false) H)))
theorem afC:bQ (AL C) (λE=>aN K [("is_word",lZ K)] [] [] [("is_known",C,xr C)] (E:=E)) Lf oO:=by
 intro vs H Q E h;obtain⟨M,p,dx,se,ch,mk,x,ar,tk,lt,rfl,S,⟨h,at',hl,hh,ha,q⟩|⟨us,hl,hu,q⟩⟩:=h
 ·refine bS (uc<|o8<|i_<|ae rfl<|w5 hl<|aw<|iP ⟨_,rfl,iT (uc<|As rfl rfl hl λH1 s1=>⟨_,rfl,iT (Et ?_) rfl⟩) rfl⟩);have S1:=S.same s1;have c7:=s1 _ _ hl;exact Ae C (xr C) rfl<|ae rfl ⟨p,dx,_,rfl,S1.ob,hV,bp<|ae rfl<|aw<|bU c7 rfl<|bp<|ae rfl<|aw<|bU c7 rfl ⟨M,p,dx,se,ch,mk,x,ar,tk,h,at',rfl,S1,hh,ha,q _ s1⟩⟩
 ·refine bS (uc<|o8<|i_<|ae rfl<|w5 hl<|aw<|iP ⟨_,rfl,iF q ?_⟩);rw[hu];rfl
inductive Fg (C:Addr)(vs:List V)(H:Hp)(Q:VK)(E:XK):Prop|i(M:List Addr)(p dx se ch mk:Addr)(x:Str)(ar:List Nat)(tk:List (Nat×List Pt))(lt b:Addr)(h n at':Nat)(ys:List V)(c:List Pt)(_:vs=[.ref p,.ref lt])(_:dH M C H p dx se ch mk x ar tk)(_:H lt=some (.tup<|AK h n at' b))(_:h<ar.length)(_:at'<=tk.length)(_:1<=n)(_:H b=some (.lst ys))(_:aG H ys c)(_:(∀p∈c,ba p))(_:chainOk "" c=true)(_:∀H',aC H H'->Q (.bl true) H')
theorem afD:bQ (Fg C) (λE=>aN K [("is_word",lZ K),("is_whole",lY),("is_change",wY)] [] [] [("is_known",C,xr C)] (E:=E)) Lc oO:=by
 intro vs H Q E h;obtain⟨M,p,dx,se,ch,mk,x,ar,tk,lt,b,h,n,at',ys,c,rfl,S,hl,hh,ha,hn,hb,pv,ok,cc,q⟩:=h;refine bq<|pL<|bo<|i_<|ae rfl<|w5 hl<|aw<|Ac ⟨_,rfl,iF (pL<|eL<|ES<|As rfl rfl hl λH1 s1=>gg (iF ?_ rfl)) rfl⟩;have S1:=S.same s1;have c7:=s1 _ _ hl;refine wZ<|eL<|AJ<|Ae C (xr C) rfl<|ae rfl ⟨p,dx,_,rfl,S1.ob,hV,bp<|ae rfl<|aw<|bU c7 rfl<|bp<|ae rfl<|aw<|bU c7 rfl ⟨M,p,dx,se,ch,mk,x,ar,tk,h,at',rfl,S1,hh,ha,gg<|iF (cJ (bS<|uc<|bN lY rfl<|aD<|bp<|ae rfl<|aw<|bU c7 rfl<|aO ⟨_,rfl,_,rfl,iT (uc<|o8<|bp<|ae rfl<|aw<|bU c7 rfl<|aw ⟨trivial,_,rfl,iT ?_<|zqT (by lia)⟩) rfl⟩)) rfl⟩⟩
 exact Et<|bN wY rfl<|aD<|bp<|ae rfl<|aw<|bU c7 rfl<|aO ⟨b,ys,c,rfl,s1 _ _ hb,pv.mono<|bM s1,ok,cc,λH2 s2=>q _<|s1.trans s2⟩
end
abbrev Let:=Nat×Nat×Nat×List Pt
def gH(H0 H:Hp)(v:V)(e:Let×Addr):Prop:= ∃t,v=.ref t/\cT H t e.1.1 e.1.2.1 e.1.2.2.1 e.1.2.2.2 e.2/\H0 t=none/\H0 e.2=none
theorem cT.same{h m:Nat}(x:cT H t h n m ps l)(s:aC H H'):cT H' t h n m ps l:=by
 obtain⟨h1,xs,h2,h3⟩:=x;exact⟨s _ _ h1,xs,s _ _ h2,h3.mono<|bM s⟩
theorem gH.same{e:Let×Addr}(x:gH H0 H v e)(s:aC H H'):gH H0 H' v e:=by
 obtain⟨t,e1,h1,h2⟩:=x;exact⟨t,e1,h1.same s,h2⟩
theorem gH.some{H:Hp}:∀{zs:List V}{ao:List (Let×Addr)},Paired (gH H0 H) zs ao->∀l∈ao.map (·.2),∃o,H l=some o
 |_,_,.nil,l,h=>by cases h
 |_,_,.cons a r,l,h=>by
  rcases zac.mp h with h|h
  ·obtain⟨t,_,⟨_,xs,hx,_⟩,_⟩:=a;rw[h];exact⟨_,hx⟩
  ·exact gH.some r l h
theorem gH.none{H:Hp}:∀{zs:List V}{ao:List (Let×Addr)},Paired (gH H0 H) zs ao->∀l∈ao.map (·.2),H0 l=Option.none
 |_,_,.nil,l,h=>by cases h
 |_,_,.cons a r,l,h=>by
  rcases zac.mp h with h|h
  ·obtain⟨t,_,_,_,hn⟩:=a;rw[h];exact hn
  ·exact gH.none r l h
section
variable {K:Frag}{M:List Addr}{C:Addr}{H H':Hp}{p dx se ch mk:Addr}{x:Str}{ar:List Nat}{tk:List (Nat×List Pt)}
theorem P9{QQ:List V->Hp->Addr->Prop}{te:TE}{lo:Int}(lets:List Let)(hn:lets.length=n)(hl:n<=1000)
  (step:∀i e H2,lets[i]?=some e->aC H H2->∀Q':VK,(∀t l H3,aC H2 H3->H2 t=none->H2 l=none->cT H3 t e.1 e.2.1 e.2.2.1 e.2.2.2 l->Q' (.ref t) H3)->te (some (.int<|lo+(i:Nat))::cC σ fv) H2 Q')
  (fin:∀zs ao H2 q,aC H H2->ao.map (·.1)=lets->Paired (gH H H2) zs ao->(ao.map (·.2)).Nodup->H2 q=none->QQ zs H2 q):∃W:Nat->Nat->List V->Hp->Prop,(∃m,W 0 m [] H)/\∀i m ys H2,W i m ys H2->
   ((dy lo n).stop i H2/\∀p,H2 p=none->QQ ys H2 p)\/
   ((dy lo n).go i H2/\∀x H3,(dy lo n).fM i H2 x H3->jk K none x H3 λzs=>kx none (zs.map some++cC σ fv) H3 λb H5=>
    if b=true then te (zs.map some++cC σ fv) H5 λy H6=>ys.length<sizeLine/\∃m',m'<m/\W (i+1) m' (ys++[y]) H6 else ∃m',m'<m/\W (i+1) m' ys H5):=by
 refine Ab (by lia) (λi ys H2=>∃ao:List (Let×Addr),ao.map (·.1)=lets.take i/\Paired (gH H H2) ys ao/\(ao.map (·.2)).Nodup) ⟨[],rfl,.nil,List.nodup_nil⟩ ?_ ?_
 ·rintro i ys H2 hi s2 ⟨ao,e1,e2,e3⟩ Q' kk;have P_:lets[i]?=some lets[i]:=zai (by lia)
  refine step i _ H2 P_ s2 Q' λt l H3 s3 ft fl hv=>kk _ _ s3 ⟨ao++[(lets[i],l)],?_,?_,?_⟩
  ·rw[zar,e1,wz P_];rfl
  ·exact Paired.snoc (Paired.dw e2 λ_ _ z=>z.same s3) ⟨t,rfl,hv,s2.free ft,s2.free fl⟩
  ·rw[zar,List.nodup_append];refine⟨e3,zaF.mpr ⟨zah,List.nodup_nil⟩,λa ha b hb Ad=>?_⟩;rw[show b=l from zag.mp hb] at Ad
   obtain⟨o,ho⟩:=gH.some e2 a ha;rw[Ad,fl] at ho;cases ho
 ·rintro ys H2 q s2 ⟨ao,e1,e2,e3⟩ fq;rw[<-hn,zbp] at e1;exact fin ys ao H2 q s2 e1 e2 e3 fq
theorem afE(h:af Γ a σ H λu H0=>af Γ b σ H0 λv H1=>∃i j:Int,[u,v]=[.int i,.int j]/\(-(2 ^ 62)<=i/\i<2 ^ 62/\ -(2 ^ 62)<=j/\j<2 ^ 62)/\∃W:Nat->Nat->List V->Hp->Prop,(∃m,W 0 m [] H1)/\∀k m ys H2,W k m ys H2->
   ((dy i (j - i).toNat).stop k H2/\∀p,H2 p=none->Q (.ref p) (upd H2 p<|.lst ys))\/
   ((dy i (j - i).toNat).go k H2/\∀x H3,(dy i (j - i).toNat).fM k H2 x H3->jk Γ.K none x H3 λzs=>kx none (zs.map some++cC σ fv) H3 λb H5=>
    if b=true then af Γ.calm elt (zs.map some++cC σ fv) H5 λy H6=>ys.length<sizeLine/\∃m',m'<m/\W (k+1) m' (ys++[y]) H6 else ∃m',m'<m/\W (k+1) m' ys H5)):af Γ (.comp none fv .sJ [a,b] none elt) σ H Q:=h
theorem afF{x elt:RE}(h:af Γ x σ H λv H1=>∃j:Int,[v]=[.int j]/\ -(2 ^ 62)<=j/\j<2 ^ 62/\∃W:Nat->Nat->List V->Hp->Prop,(∃m,W 0 m [] H1)/\∀i m ys H2,W i m ys H2->
   ((dy 0 j.toNat).stop i H2/\∀p,H2 p=none->Q (.ref p) (upd H2 p<|.lst ys))\/
   ((dy 0 j.toNat).go i H2/\∀x H3,(dy 0 j.toNat).fM i H2 x H3->jk Γ.K none x H3 λzs=>kx none (zs.map some++cC σ fv) H3 λb H5=>
    if b=true then af Γ.calm elt (zs.map some++cC σ fv) H5 λy H6=>ys.length<sizeLine/\∃m',m'<m/\W (i+1) m' (ys++[y]) H6 else ∃m',m'<m/\W (i+1) m' ys H5)):af Γ (.comp none fv .fA [x] none elt) σ H Q:=h
theorem afG(h:k<=xs.length):gw xs (some (k:Int)) none=xs.drop k:=by
 unfold gw;rw[HT.mK,HT.Bx,Nat.min_eq_left h,zaG (by simp)]
theorem afH(h:j<n):iS n (j:Int)=some j:=by
 unfold iS;rw[if_pos (by lia),if_pos (by lia)];rfl
theorem dH.ext(S:dH M C H p dx se ch mk x ar tk)(s:aC H H'){Bs:List Addr}(hB:∀b∈L::Bs,H b=none):dH (L::(Bs++M)) C H' p dx se ch mk x ar tk:=by
 obtain⟨cG,h1,h2⟩:=(S.same s).bZ;obtain⟨afI,k1,k2⟩:=S.bZ;have e:cG=afI:=by have:=s _ _ k1;rw[h1] at this;cases this;rfl
 subst e;have sub:∀z,z∈M->z∈L::(Bs++M):=λz hz=>.tail _ (zax _ hz);refine⟨s _ _ S.ob,s _ _ S.fo,⟨cG,h1,Paired.dw k2 λv ps ⟨a,xs,e1,e2,e3,e4⟩=>⟨a,xs,e1,s _ _ e2,e3.mono<|bM s,λhm=>?_⟩⟩,s _ _ S.ju,S.nd,⟨sub _ S.mm.1,sub _ S.mm.2.1,sub _ S.mm.2.2⟩⟩;have hn:a∈L::Bs->False:=λh=>by have:=hB a h;rw[e2] at this;cases this
 rcases zac.mp hm with h|h
 ·exact hn (h ▸ .head _)
 ·rcases zab.mp h with h|h
  ·exact hn (.tail _ h)
  ·exact e4 h
abbrev Qa(ar:List Nat)(tk:List (Nat×List Pt))(h:Nat)(c:List Pt):List Let:=(List.range ar.length).map λk=>(k,tk.length+1,h,c)
abbrev lr(tk:List (Nat×List Pt))(at':Nat)(c:List Pt):List Pt:=pj tk at' (tk.length - at') c
structure uA (M:List Addr) (C:Addr) (H:Hp) (p dx se ch mk:Addr) (x:Str) (ar:List Nat) (tk:List (Nat×List Pt)) (tx:List (List Nat)) (b:Addr) (h at':Nat) (ys:List V) (c:List Pt) (l n:List Nat):Prop where
 sv:dH M C H p dx se ch mk x ar tk
 cz:Taken tx tk
 tl:tx[tk.length]?=some x.cps.toList
 gx:good x
 lx:x.length<=10000
 al:∀m∈M,∃o,H m=some o
 hh:h<ar.length
 ha:at'<=tk.length
 lk:tk.length<=100
 ls:ar.length<=8
 hb:H b=some (.lst ys)
 nb:b≠se/\b≠ch
 pv:aG H ys c
 AM:tx[at']?=some l
 cg:bX c l n
 tt:aA c<=5200
def xu(M:List Addr)(C:Addr)(H:Hp)(p dx se ch mk:Addr)(x:Str)(ar:List Nat)(tk:List (Nat×List Pt))(h at':Nat)(c:List Pt)(Q:VK):Prop:= ∀(x':Str) (L:Addr) (zs:List V) (ao:List (Let×Addr)) (H':Hp),good x'->x'.length<=x.length+5200->Run x.cps.toList (lr tk at' c) x'.cps.toList->dH (L::(ao.map (·.2)++M)) C H' p dx se ch mk x' (ar.set h<|ar.getD h 0+1) (tk++[(h,lr tk at' c)])->H' L=some (.lst zs)->H L=none->
 ao.map (·.1)=Qa ar tk h (lr tk at' c)->Paired (gH H H') zs ao->(ao.map (·.2)).Nodup->L∉ao.map (·.2)->bx [p,se,ch,mk] H H'->Q (.ref L) H'
inductive Fh (C:Addr)(vs:List V)(H:Hp)(Q:VK)(E:XK):Prop|i(M:List Addr)(p dx se ch mk:Addr)(x:Str)(ar:List Nat)(tk:List (Nat×List Pt))(tx:List (List Nat))(b:Addr)(h at':Nat)(ys:List V)(c:List Pt)(l n:List Nat)(_:vs=[.ref p,.int (h:Nat),.int (at':Nat),.ref b])(_:uA M C H p dx se ch mk x ar tk tx b h at' ys c l n)(_:xu M C H p dx se ch mk x ar tk h at' c Q)
abbrev Fi(K:Frag)(C:Addr)(E:XK):aV:=aN K [("passed",wg),("done",qT)] [] [] [("took",C,xq C),("many",C,lq C)] (E:=E)
theorem afJ(T:lU K C)(vs:List V)(H:Hp)(Q:VK)(E:XK)(Fj:Fh C vs H Q E):aE (Fi K C E) Lm (Dn Q) (start Ll vs) H:=by
 obtain⟨M,p,dx,se,ch,mk,x,ar,tk,tx,b,h,at',ys,c,l,n,rfl,I,q⟩:=Fj;have S:=I.sv;obtain⟨cG,bZ,xv⟩:=S.bZ;have Qc:=Paired.length xv;rw[zaf] at Qc;have ha:=I.ha;have lk:=I.lk;refine Af<|OY<|br<|ae rfl ⟨p,C,dx,_,_,rfl,S.ob,T.cl,T.vC,AI,ae rfl ⟨_,rfl,.inl ⟨_,aB.of bZ,λW fW=>?_⟩⟩⟩;rw[afG (by lia)]
 have s1:=sameNew (o:=.lst (cG.drop at')) fW;have hW:upd H W (.lst<|cG.drop at') W=some (.lst<|cG.drop at'):=ay;generalize upd H W (.lst<|cG.drop at')=H1 at s1 hW⊢;have lw:(cG.drop at').length=tk.length - at':=by rw[zaz,Qc]
 refine⟨W,rfl,⟨_,aB.of hW⟩,iR (K:=K) (a:=W) (xs:=cG.drop at') (λj σ H2=>∃(b':Addr) (c8:List V) (u4:Option V),σ=[some<|.ref p,some<|.int (h:Nat),some<|.int (at':Nat),some<|.ref b',u4]/\aC H1 H2/\H2 b'=some (.lst c8)/\aG H2 c8 (pj tk at' j c)/\b'≠se/\b'≠ch) ⟨b,ys,none,rfl,aC.refl _,s1 _ _ I.hb,I.pv.mono<|bM s1,I.nb⟩ (λj σ H2 _ ⟨_,_,_,_,s2,_⟩=>aB.of (s2 _ _ hW)) ?_ ?_⟩
 ·rintro j v σ H2 hv ⟨b',c8,u4,rfl,s2,mO,mw,vW⟩;rw[List.getElem?_drop] at hv;obtain⟨ps,cv,a,xs,rfl,hxa,pva,_⟩:=wy xv hv;rw[zan] at cv;obtain⟨⟨m,jS⟩,eQ,rfl⟩:=Option.map_eq_some_iff.mp cv;have hj:at'+j<tk.length:=(zad.mp eQ).1;obtain⟨lm,r,e1,c1,t1⟩:=wD I.cz I.AM I.cg I.tt j (by lia)
  obtain⟨rr,ex⟩:∃rr,tx[at'+j+1]?=some rr:=⟨_,zai (by rw[I.cz.len];lia)⟩
  obtain⟨c2,t2⟩:=I.cz.chg _ _ _ _ _ eQ e1 ex;have l1:=nO c1 t1;have l2:=nO c2 t2;have k_:=s1.trans s2;refine bD<|bp<|bN wg rfl<|aD<|ae rfl<|aD<|ae rfl<|aO ⟨a,b',xs,c8,jS,_,lm,_,r,rfl,k_ _ _ hxa,mO,pva.mono<|bM k_,mw,c2.ok,c1.ok,c2.ch,c1.ch,by lia,by lia,c2.run,c1.run,λt c' d' H3 zs ws l7 qs1 s3 fc fd gf ht hc hd pz pw P=>?_⟩
  refine aw<|bU ht rfl ⟨d',ws,_,rfl,s2.trans s3,hd,?_,(λz=>by rw[z,k_ _ _ S.fo] at fd;cases fd),(λz=>by rw[z,k_ _ _ bZ] at fd;cases fd)⟩
  have e:=(O_ c1.ok P (by lia)).1
  rw[rE eQ];show aG H3 ws (i5<|eZ jS<|pj tk at' j c);rw[e];exact pw
 rintro σ H2 ⟨b',c8,u4,rfl,s2,mO,mw,vW⟩;rw[lw] at mw;obtain⟨lm,r,e1,c1,t1⟩:=wD I.cz I.AM I.cg I.tt (tk.length - at') (by lia)
 rw[show at'+(tk.length - at')=tk.length by lia,I.tl] at e1
 cases e1;have lc:=nO c1 t1;have k_:=s1.trans s2;have rl:=c1.run.len;have gl:=I.lx;have lxl:x.cps.toList.length=x.length:=by simp[Str.length]
 refine dm<|bN qT rfl<|aD<|br<|ae rfl ⟨p,C,dx,_,_,rfl,k_ _ _ S.ob,T.cl,T.js,P7,aD<|ae rfl<|aO ⟨x,b',c8,_,r,rfl,I.gx,mO,mw,c1.ok,c1.ch,by lia,c1.run,by lia,λH3 s3=>?_⟩⟩
 have fI:=k_.trans s3;refine ae rfl ⟨p,C,dx,_,rfl,fI _ _ S.ob,T.cl,T.js,(by show 4<1000;decide),?_⟩
 rw[afo];have sok:∀q∈lr tk at' c,jw q:=λq hq=>Es (c1.ok q hq);have Qd:(⟨r.toArray⟩:Str).length=r.length:=by simp[Str.length]
 have gr:good ⟨r.toArray⟩:=⟨by rw[Qd];lia,λd hd=>c1.run.good (λe he=>I.gx.2 e he) sok d (by simpa using hd)⟩
 have z5:p≠se:=λz=>by have:=S.ob;rw[z,S.fo] at this;cases this
 have wb:p≠ch:=λz=>by have:=S.ob;rw[z,bZ] at this;cases this
 have Fl:p≠mk:=λz=>by have:=S.ob;rw[z,S.ju] at this;cases this
 obtain⟨Fm,xx,Fn⟩:=S.nd;have AN:upd H3 p (.ins C dx<|f4 ⟨r.toArray⟩ se ch mk) p=some (.ins C dx<|f4 ⟨r.toArray⟩ se ch mk):=ay;have b4:aW p H3 (upd H3 p<|.ins C dx<|f4 ⟨r.toArray⟩ se ch mk):=aW.upd;generalize upd H3 p (.ins C dx<|f4 ⟨r.toArray⟩ se ch mk)=H4 at AN b4⊢;have Qe:=b4 _ _ (fI _ _ S.fo) (Ne.symm z5);have afN:=b4 _ _ (fI _ _ bZ) (Ne.symm wb);have afO:=b4 _ _ (fI _ _ S.ju) (Ne.symm Fl);have hh:=I.hh;have esh:ar[h]?=some (ar.getD h 0):=by rw[zaN,zai hh];rfl
 have Fo:(nV ar)[h]?=some (.int ((ar.getD h 0:Nat):Int)):=by unfold nV;rw[zan,esh];rfl
 refine OR<|bI<|bp<|br<|ae rfl ⟨p,C,dx,_,_,rfl,AN,T.cl,T.tE,xn,ae rfl<|jA Qe (fE Fo)<|aw<|g_<|br<|ae rfl ⟨p,C,dx,_,_,rfl,AN,T.cl,T.tE,xn,ae rfl ⟨se,_,_,h,rfl,rfl,Qe,afH (by unfold nV;rw[zaf];exact hh),?_⟩⟩⟩
 have afQ:(nV ar).set h (.int ((ar.getD h 0:Nat)+1:Int))=nV (ar.set h<|ar.getD h 0+1):=by
  show _=(ar.set h<|ar.getD h 0+1).map _;rw[zbw];rfl
 rw[afQ];have AO:upd H4 se (.lst<|nV<|ar.set h<|ar.getD h 0+1) se=some (.lst<|nV<|ar.set h<|ar.getD h 0+1):=ay;have b5:aW se H4 (upd H4 se<|.lst<|nV<|ar.set h<|ar.getD h 0+1):=aW.upd;generalize upd H4 se (.lst<|nV<|ar.set h<|ar.getD h 0+1)=H5 at AO b5⊢;have Fp:=b5 _ _ AN z5;have uz:=b5 _ _ afN (Ne.symm Fm);have Qf:=b5 _ _ afO (Ne.symm xx);have afR:b'≠se:=λz=>vW.1 z;have ajq:b'≠ch:=λz=>vW.2 z;have nbp:b'≠p:=λz=>by have:=s3 _ _ mO;rw[z,fI _ _ S.ob] at this;cases this
 have hb5:=b5 _ _ (b4 _ _ (s3 _ _ mO) nbp) afR;have k5:∀z o,H z=some o->z≠p->z≠se->H5 z=some o:=λz o e n1 n2=>b5 _ _ (b4 _ _ (fI _ _ e) n1) n2;have afU:∀z,H5 z=none->H z=none:=λz hz=>by
  cases e:H z with
  |none=>rfl
  |some o=>
   by_cases z1:z=p
   ·rw[z1,Fp] at hz;cases hz
   by_cases z2:z=se
   ·rw[z2,AO] at hz;cases hz
   rw[k5 z o e z1 z2] at hz;cases hz
 have afV:∀z us,H3 z=some (.tup us)->H5 z=some (.tup us):=λz us e=>b5 _ _ (b4 _ _ e (λq=>by rw[q,fI _ _ S.ob] at e;cases e)) (λq=>by rw[q,fI _ _ S.fo] at e;cases e)
 refine fk<|i8<|br<|ae rfl ⟨p,C,dx,_,_,rfl,Fp,T.cl,T.vC,AI,⟨.inl ⟨rfl,_,aB.of uz⟩,pI<|ae rfl ⟨_,.inl<|aB.of hb5,λa6 f6=>?_⟩⟩⟩;have s6:=sameNew (o:=.lst c8) f6;have Qg:upd H5 a6 (.lst c8) a6=some (.lst c8):=ay;have Qh:=afU _ f6;generalize upd H5 a6 (.lst c8)=H6 at s6 Qg⊢;have zj:=s6 _ _ uz;refine⟨cG,zj,dg (by lia),?_⟩
 have b7:aW ch H6 (upd H6 ch<|.lst<|cG++[.ref a6]):=aW.upd;have Fq:upd H6 ch (.lst<|cG++[.ref a6]) ch=some (.lst<|cG++[.ref a6]):=ay;generalize upd H6 ch (.lst<|cG++[.ref a6])=H7 at b7 Fq⊢;have Fs:=b7 _ _ (s6 _ _ Fp) wb;have Qi:=b7 _ _ (s6 _ _ Qf) (Ne.symm Fn);have Ft:a6∉M:=λhm=>by obtain⟨o,ho⟩:=I.al _ hm;rw[ho] at Qh;cases Qh
 have afW:a6≠ch:=λz=>Ft (z ▸ S.mm.2.1);have afX:a6≠mk:=λz=>Ft (z ▸ S.mm.2.2);refine fk<|i8<|br<|ae rfl ⟨p,C,dx,_,_,rfl,Fs,T.cl,T.C_,P8,⟨.inl ⟨rfl,_,aB.of Qi⟩,ae rfl ⟨_,Qi,dg (by unfold nV;rw[zaf,zaf];lia),?_⟩⟩⟩
 have b8:aW mk H7 (upd H7 mk (.lst (nV (tk.map (·.1))++[.int (h:Nat)]))):=aW.upd;have Fu:upd H7 mk (.lst (nV (tk.map (·.1))++[.int (h:Nat)])) mk=some (.lst (nV ((tk++[(h,lr tk at' c)]).map (·.1)))):=by rw[ay,zar];unfold nV;rw[zar];rfl
 generalize upd H7 mk (.lst (nV (tk.map (·.1))++[.int (h:Nat)]))=H8 at b8 Fu⊢;have k8:bx [p,se,ch,mk] H H8:=λz o e hz=>by
  simp only[zac,zah,or_false,not_or] at hz
  exact b8 _ _ (b7 _ _ (s6 _ _<|k5 z o e hz.1 hz.2.1) hz.2.2.1) hz.2.2.2
 have AQ:∀z o,H6 z=some o->z≠ch->z≠mk->H8 z=some o:=λz o e n1 n2=>b8 _ _ (b7 _ _ e n1) n2;have Qj:∀z us,H3 z=some (.tup us)->H8 z=some (.tup us):=λz us e=>by
  have e6:=s6 _ _ (afV z us e);exact AQ _ _ e6 (λq=>by rw[q,zj] at e6;cases e6) (λq=>by rw[q,s6 _ _ Qf] at e6;cases e6)
 have Fv:∀z,H8 z=none->H z=none:=λz hz=>by
  cases e:H z with
  |none=>rfl
  |some o=>
   by_cases hm:z∈ [p,se,ch,mk]
   ·simp only[zac,zah,or_false] at hm
    rcases hm with rfl|rfl|rfl|rfl
    ·rw[b8 _ _ Fs Fl] at hz;cases hz
    ·rw[AQ _ _ (s6 _ _ AO) Fm xx] at hz;cases hz
    ·rw[b8 _ _ Fq Fn] at hz;cases hz
    ·rw[Fu] at hz;cases hz
   ·rw[k8 z o e hm] at hz;cases hz
 have S8:dH M C H8 p dx se ch mk ⟨r.toArray⟩ (ar.set h<|ar.getD h 0+1) (tk++[(h,lr tk at' c)]):=by
  refine⟨b8 _ _ Fs Fl,AQ _ _ (s6 _ _ AO) Fm xx,⟨cG++[.ref a6],b8 _ _ Fq Fn,?_⟩,Fu,S.nd,S.mm⟩;rw[zar];refine Paired.snoc (Paired.dw xv λv ps ⟨a,xs,e1,e2,e3,e4⟩=>⟨a,xs,e1,k8 _ _ e2<|λhz=>?_,e3.mono λz us e=>Qj z us (fI _ _ e),e4⟩) ⟨a6,c8,rfl,AQ _ _ Qg afW afX,mw.mono λz us e=>Qj z us (s3 _ _ e),Ft⟩
  simp only[zac,zah,or_false] at hz
  rcases hz with rfl|rfl|rfl|rfl
  ·rw[S.ob] at e2;cases e2
  ·exact e4 S.mm.1
  ·exact e4 S.mm.2.1
  ·exact e4 S.mm.2.2
 have jO:(ar.set h<|ar.getD h 0+1).length=ar.length:=zbh ..;have ls:=I.ls;have ph:(tk++[(h,lr tk at' c)])[tk.length]?=some (h,lr tk at' c):=by rw[zaL<|zqR _,zaK];rfl
 have ltk:(tk++[(h,lr tk at' c)]).length=tk.length+1:=by rw[zqA];rfl
 refine bS<|afF<|i_<|br<|ae rfl ⟨p,C,dx,_,_,rfl,S8.ob,T.cl,T.tE,xn,.inl ⟨_,aB.of S8.fo,?_⟩⟩;have lnv:(nV<|ar.set h<|ar.getD h 0+1).length=ar.length:=by unfold nV;rw[zaf,jO]
 rw[lnv];refine⟨_,rfl,by lia,by lia,?_⟩
 rw[zaD];refine P9 (Qa ar tk h<|lr tk at' c) (by rw[zaf,zbd]) (by lia) ?_ ?_
 ·intro i e H9 hi s9 Q' kk;have zt:i<ar.length:=by have:=(zad.mp hi).1;rw[zaf,zbd] at this;exact this
  rw[zan,List.getElem?_range zt] at hi;cases hi;have S9:=S8.same s9;rw[Int.zero_add];refine Ae C (xq C) rfl<|ae rfl ⟨p,dx,_,rfl,S9.ob,hV,ae rfl<|ie C (lq C) rfl<|ae rfl ⟨p,dx,_,rfl,S9.ob,hV,M,p,dx,se,ch,mk,_,_,_,rfl,S9,?_⟩⟩;rw[ltk];exact⟨M,p,dx,se,ch,mk,_,_,_,i,tk.length,h,_,rfl,S9,ph,λt l tD jU ft fl hv=>kk t l tD jU ft fl hv⟩
 ·intro zs ao H9 L s9 e1 e2 e3 fL;have jU:=sameNew (o:=.lst zs) fL;refine q ⟨r.toArray⟩ L zs ao _ gr (by rw[Qd];lia) (by simpa using c1.run) (dH.ext S8 (s9.trans jU) λb hb=>?_) ay (Fv _<|s9.free fL) e1 (Paired.dw e2 λv e ⟨t,a1,a2,a3,a4⟩=>⟨t,a1,a2.same jU,Fv _ a3,Fv _ a4⟩) e3 (λhm=>?_) λz o e hz=>jU _ _ (s9 _ _<|k8 z o e hz)
  ·rcases zac.mp hb with hb|hb
   ·rw[hb];exact s9.free fL
   ·exact gH.none e2 b hb
  obtain⟨o,ho⟩:=gH.some e2 L hm;rw[fL] at ho;cases ho
theorem af0{c:RE}(C:Addr)(sp:Sp)(hm:Γ.ms j=(C,sp))(h:af Γ o σ H λx H1=>∃p dx fs,x=.ref p/\H1 p=some (.ins C dx fs)/\fs.lookup m=none/\af Γ a σ H1 λy H2=>af Γ b σ H2 λz H3=>af Γ c σ H3 λw H4=>sp [x,y,z,w] H4 Q Γ.E):af Γ (.aR j m o [a,b,c]) σ H Q:=by
 have e1:(Γ.ms j).1=C:=by lia
 have e2:(Γ.ms j).2=sp:=by lia
 show mJ (Γ.ms j).1 m (Γ.ms j).2 [] Γ.E (af Γ o) (bw Γ [a,b,c]) σ H Q;rw[e1,e2];exact h
theorem xu.same(q:xu M C H p dx se ch mk x ar tk h at' c Q)(s:aC H H'):xu M C H' p dx se ch mk x ar tk h at' c Q:=
 λx' L zs ao H2 g1 g2 g3 g4 g5 g6 g7 g8 g9 g10 g11=>q x' L zs ao H2 g1 g2 g3 g4 g5 (s.free g6) g7 (Paired.dw g8 λ_ _ ⟨t,a1,a2,a3,a4⟩=>⟨t,a1,a2,s.free a3,s.free a4⟩) g9 g10 λz o e hz=>g11 _ _ (s _ _ e) hz
theorem uA.same{l n:List Nat}(I:uA M C H p dx se ch mk x ar tk tx b h at' ys c l n)(s:aC H H'):uA M C H' p dx se ch mk x ar tk tx b h at' ys c l n:=
 ⟨I.sv.same s,I.cz,I.tl,I.gx,I.lx,λm hm=>let ⟨o,e⟩:=I.al m hm;⟨o,s _ _ e⟩,I.hh,I.ha,I.lk,I.ls,s _ _ I.hb,I.nb,I.pv.mono<|bM s,I.AM,I.cg,I.tt⟩
abbrev Qk(tk:List (Nat×List Pt))(h at':Nat):List Let:=(List.range<|tk.length - at').map λi=>(h,at'+i+1,(tk.getD (at'+i) (0,[])).1,(tk.getD (at'+i) (0,[])).2)
inductive rV (C:Addr)(vs:List V)(H:Hp)(Q:VK)(E:XK):Prop|i(M:List Addr)(p dx se ch mk:Addr)(x:Str)(ar:List Nat)(tk:List (Nat×List Pt))(lt:Addr)(_:vs=[.ref p,.ref lt])(_:((∃h at',dH M C H p dx se ch mk x ar tk/\H lt=some (.tup (Ff h at'))/\h<ar.length/\at'<=tk.length/\tk.length<=100/\∀L zs ao H',aC H H'->H L=none->H' L=some (.lst zs)->ao.map (·.1)=Qk tk h at'->Paired (gH H H') zs ao->(ao.map (·.2)).Nodup->L∉ao.map (·.2)->Q (.ref L) H')\/
   ∃(tx:List (List Nat)) (b:Addr) (h n at':Nat) (ys:List V) (c:List Pt) (l r:List Nat),uA M C H p dx se ch mk x ar tk tx b h at' ys c l r/\H lt=some (.tup (AK h n at' b))/\1<=n/\((n≠ar.getD h 0+1/\∀L H',aC H H'->H L=none->H' L=some (.lst [])->Q (.ref L) H')\/(n=ar.getD h 0+1/\xu M C H p dx se ch mk x ar tk h at' c Q))))
abbrev Ql(K:Frag)(C CB:Addr)(E:XK):aV:=aN K [] [] [] [("is_again",C,AL C),("many",C,lq C),("took",C,xq C),("is_ask",C,Fg C),("take_in",C,Fh C)] (et:=[("BadLetter",CB)]) (E:=E)
theorem af3(T:lU K C)(vs:List V)(H:Hp)(Q:VK)(E:XK)(Fj:rV C vs H Q E):aE (Ql K C CB E) Lj (Dn Q) (start oO vs) H:=by
 obtain⟨M,p,dx,se,ch,mk,x,ar,tk,lt,rfl,⟨h,at',S,hl,hh,ha,lk,q⟩|⟨tx,b,h,n,at',ys,c,l,r,I,hl,hn,q⟩⟩:=Fj
 ·refine bq (eL<|wt<|ae rfl<|vG hl<|iF (cJ ?_) rfl);refine bq<|AJ<|i7 C (AL C) rfl<|ae rfl ⟨p,dx,_,rfl,S.ob,hV,ae rfl ⟨M,p,dx,se,ch,mk,x,ar,tk,lt,rfl,S,.inl ⟨h,at',hl,hh,ha,λH1 s1=>gg<|iT ?_ rfl⟩⟩⟩;have S1:=S.same s1;have c7:=s1 _ _ hl;refine bS<|afE<|bI<|bp<|ae rfl<|aw<|bU c7 rfl<|aw<|g_<|bI<|ie C (lq C) rfl<|ae rfl ⟨p,dx,_,rfl,S1.ob,hV,M,p,dx,se,ch,mk,x,ar,tk,rfl,S1,aw<|g_ ?_⟩;refine⟨_,_,rfl,by lia,?_⟩
  rw[show((tk.length:Int)+1 - ((at':Int)+1)).toNat=tk.length - at' by lia]
  refine P9 (Qk tk h at') (by rw[zaf,zbd]) (by lia) ?_ ?_
  ·intro i e H9 hi s9 Q' kk;have zt:=by have:=(zad.mp hi).1;rw[zaf,zbd] at this;exact this
   rw[zan,List.getElem?_range zt] at hi;cases hi;have S9:=S1.same s9;have ph:tk[at'+i]?=some (tk.getD (at'+i) (0,[])):=by rw[zaN,zai (by lia)];rfl
   rw[show(at':Int)+1+(i:Int)=((at'+i+1:Nat):Int) by lia]
   exact Ae C (xq C) rfl<|ae rfl ⟨p,dx,_,rfl,S9.ob,hV,bp<|ae rfl<|aw<|bU (s9 _ _ c7) rfl<|ae rfl ⟨M,p,dx,se,ch,mk,_,_,_,h,at'+i,_,_,rfl,S9,ph,λt l tD jU ft fl hv=>kk t l tD jU ft fl hv⟩⟩
  ·intro zs ao H9 L s9 e1 e2 e3 fL;have jU:=sameNew (o:=.lst zs) fL;refine q L zs ao _ ((s1.trans s9).trans jU) ((s1.trans s9).free fL) ay e1 (Paired.dw e2 λv e ⟨t,a1,a2,a3,a4⟩=>⟨t,a1,a2.same jU,s1.free a3,s1.free a4⟩) e3 λhm=>?_;obtain⟨o,ho⟩:=gH.some e2 L hm;rw[fL] at ho;cases ho
 ·have S:=I.sv;refine bq<|eL<|wt<|ae rfl<|vG hl<|iF (cJ ?_) rfl;refine bq<|AJ<|i7 C (AL C) rfl<|ae rfl ⟨p,dx,_,rfl,S.ob,hV,ae rfl ⟨M,p,dx,se,ch,mk,x,ar,tk,lt,rfl,S,.inr ⟨_,hl,rfl,gg<|iF (cJ ?_) rfl⟩⟩⟩;refine bq<|eL<|AJ<|i7 C (Fg C) rfl<|ae rfl ⟨p,dx,_,rfl,S.ob,hV,ae rfl ⟨M,p,dx,se,ch,mk,x,ar,tk,lt,b,h,n,at',ys,c,rfl,S,hl,I.hh,I.ha,hn,I.hb,I.pv,I.cg.ok,I.cg.ch,λH1 s1=>gg<|iF (cJ ?_) rfl⟩⟩;have I1:=I.same s1;have S1:=I1.sv;have c7:=s1 _ _ hl;have Fo:(nV ar)[h]?=some (.int ((ar.getD h 0:Nat):Int)):=by rw[zan,zaN,zai I.hh];rfl
  refine bq<|bo<|bp<|ae rfl<|aw<|bU c7 rfl<|bI<|bp<|br<|ae rfl ⟨p,C,dx,_,_,rfl,S1.ob,T.cl,T.tE,xn,bp<|ae rfl<|aw<|bU c7 rfl<|jA S1.fo (fE Fo)<|aw<|g_<|Ac ⟨_,rfl,?_⟩⟩;rcases q with⟨ne,q⟩|⟨en,q⟩
  ·refine iT (bS<|fH<|aO ⟨zqZ _,λL fL=>q L _ (s1.trans<|sameNew fL) (s1.free fL) ay⟩) ?_;rw[zqF];rfl;intro z;exact ne (by lia)
  ·refine iF (cJ ?_) (by lia)
   exact bS<|af0 C (Fh C) rfl<|ae rfl ⟨p,dx,_,rfl,S1.ob,hV,bp<|ae rfl<|aw<|bU c7 rfl<|bp<|ae rfl<|aw<|bU c7 rfl<|bp<|ae rfl<|aw<|bU c7 rfl ⟨M,p,dx,se,ch,mk,x,ar,tk,tx,b,h,at',ys,c,l,r,rfl,I1,q.same s1⟩⟩
end
end L2.bY
namespace L2.fZ
open PySem PySem.Spec L2.B L2.N
section
variable {K:Frag}{H H':Hp}{Q:VK}{Γ:aV}{σ:St}{E:XK}
inductive rW (vs:List V)(H:Hp)(Q:VK)(E:XK):Prop|i(x:Str)(a:Addr)(xs:List V)(ps:List Pt)(r:List Nat)(_:vs=[.str x,.ref a])(_:good x)(_:H a=some (.lst xs))(_:aG H xs ps)(_:(∀p∈ps,qJ p))(_:Run x.cps.toList ps r)(_:Q (.bl true) H)
theorem af5:bQ (rW) (λE=>aN K [] [] (E:=E)) Mq Mp:=by
 intro vs H Q E h;obtain⟨x,a,xs,ps,r,rfl,gx,ha,pv,ok,run,q⟩:=h;refine bD (aw (OS (ae rfl ⟨a,rfl,⟨_,aB.of ha⟩,iR (K:=K) (a:=a) (λi σ H2=>H2=H/\∃(u3 u4:Option V) (l1 l2 q2:List Nat),σ=[some (.str x),some (.ref a),some (.int ((l1.length:Nat):Int)),u3,u4]/\x.cps.toList=l1++l2/\Run l2 (ps.drop i) q2)
  ⟨rfl,none,none,[],x.cps.toList,r,rfl,rfl,run⟩ (λi σ H2 _ ⟨e,_⟩=>e ▸ aB.of ha) ?_ ?_⟩)))
 ·rintro i y σ H2 hi ⟨rfl,u3,u4,l1,l2,q2,rfl,e1,hr⟩;obtain⟨pt,gc,b,rfl,hb⟩:=pv.get hi;have ed:ps.drop i=pt::ps.drop (i+1):=by rw[zaX ((zad.mp gc).1),(zad.mp gc).2]
  rw[ed] at hr;have oq:=ok pt (zal gc);refine adH hb ?_;cases pt with
  |keep n=>
   obtain⟨k,l',r',e2,e3,e4,h'⟩:=adP hr;refine bq<|wq<|bo<|ae rfl<|aw<|jy ⟨_,rfl,iF (iF (cJ (bq<|bo<|ae rfl<|aw<|iN ⟨_,rfl,iT (bD<|bI<|ae rfl<|OU<|bo<|ae rfl<|aw<|jy ⟨_,rfl,iT (ae rfl<|g_ (⟨rfl,some<|.str "keep",some<|.int n,l1++k,l',r',?_,by rw[e1,e2,zaj],h'⟩)) (rfl)⟩) (rfl)⟩)) rfl) (rfl)⟩
   rw[zqA,e4,zaP];rfl
  |put z=>
   obtain⟨r',e2,h'⟩:=adQ hr;exact bq<|wq<|bo<|ae rfl<|aw<|jy ⟨_,rfl,iF (iF (cJ (bq<|bo<|ae rfl<|aw<|iN ⟨_,rfl,iF (cJ ⟨rfl,_,_,l1,l2,r',rfl,e1,h'⟩) (rfl)⟩)) rfl) (rfl)⟩
  |cut z=>
   obtain⟨l',e2,h'⟩:=adR hr;have lz:=B.len_list z;refine bq<|wq<|bo<|ae rfl<|aw<|jy ⟨_,rfl,iT (bo<|OT<|ae rfl<|ae rfl ⟨_,rfl,bI<|ae rfl<|i_<|ae rfl ⟨cP oq,g_ ⟨_,rfl,cP gx.1,?_⟩⟩⟩) (rfl)⟩;rw[zA (a:=l1) (c:=l') (by rw[e1,e2]) _ (by rw[lz])]
   refine ae rfl<|iN ⟨_,rfl,iF (cJ ?_) (by rw[uh];simp)⟩
   refine bq<|bo<|ae rfl<|aw<|iN ⟨_,rfl,iT (bD<|bI<|ae rfl<|OU<|bo<|ae rfl<|aw<|jy ⟨_,rfl,iF (i_<|ae rfl ⟨cP oq,g_ (⟨rfl,some<|.str "cut",some<|.str z,l1++z.cps.toList,l',q2,?_,by rw[e1,e2,zaj],h'⟩)⟩) (rfl)⟩) (rfl)⟩
   rw[zqA,<-lz,zaP];rfl
 ·rintro σ H2 ⟨rfl,u3,u4,l1,l2,q2,rfl,e1,hr⟩;rw[(Paired.length pv),zbs] at hr;cases hr;rw[zaa] at e1;refine bS<|o8<|ae rfl<|i_<|ae rfl ⟨cP gx.1,iP ?_⟩;rw[zqT (by rw[B.len_list,e1])];exact q
inductive Lt where
 |ask (h n base:Nat) (c:List Pt)
 |again (h n:Nat)
 |eM (h n cA:Nat) (c:List Pt)
def cT(N:List Addr)(H:Hp)(v:V):Lt->Prop
 |.ask h n b c=>∃t a xs,v=.ref t/\H t=some (.tup [.str "ask",.int (h:Nat),.int (n:Nat),.int (b:Nat),.ref a])/\H a=some (.lst xs)/\aG H xs c/\a∉N
 |.again h n=>∃t,v=.ref t/\H t=some (.tup [.str "again",.int (h:Nat),.int (n:Nat)])
 |.eM h n w c=>∃t a xs,v=.ref t/\H t=some (.tup [.str "took",.int (h:Nat),.int (n:Nat),.int (w:Nat),.ref a])/\H a=some (.lst xs)/\aG H xs c/\a∉N
variable {N:List Addr}
theorem cT.keep:∀{l:Lt},cT N H v l->dR H H'->(∀a xs,a∉N->H a=some (.lst xs)->H' a=some (.lst xs))->cT N H' v l
 |.ask ..,⟨t,a,xs,e,h1,h2,h3,h4⟩,tb,kl=>⟨t,a,xs,e,tb _ _ h1,kl _ _ h4 h2,h3.mono tb,h4⟩
 |.again ..,⟨t,e,h1⟩,tb,_=>⟨t,e,tb _ _ h1⟩
 |.eM ..,⟨t,a,xs,e,h1,h2,h3,h4⟩,tb,kl=>⟨t,a,xs,e,tb _ _ h1,kl _ _ h4 h2,h3.mono tb,h4⟩
theorem cT.same(h:cT N H v l)(s:aC H H'):cT N H' v l:=h.keep (bM s) λ_ _ _ e=>s _ _ e
inductive Fw (vs:List V)(H:Hp)(Q:VK)(E:XK):Prop|i(N:List Addr)(v:V)(l:Lt)(_:vs=[v])(_:cT N H v l)(_:(∀a∈N,∃o,H a=some o))(_:∀v' H',aC H H'->cT N H' v' l->Q v' H')
theorem af6:bQ (Fw) (λE=>aN K [] [] (E:=E)) Dg Df:=by
 intro vs H Q E h;obtain⟨N,v,l,rfl,hl,al,q⟩:=h;have xy:∀(w:Str) (h n b:Nat) (t a:Addr) (xs:List V) (c:List Pt),v=.ref t->H t=some (.tup [.str w,.int (h:Nat),.int (n:Nat),.int (b:Nat),.ref a])->H a=some (.lst xs)->aG H xs c->(∀t' a' H',aC H H'->a'∉N->H' t'=some (.tup [.str w,.int (h:Nat),.int (n:Nat),.int (b:Nat),.ref a'])->H' a'=some (.lst xs)->aG H' xs c->Q (.ref t') H')->aE (aN K [] []) Dg (Dn Q) (start Df [v]) H:=by
  rintro w h n b t a xs c rfl ht ha pv kk;refine bq<|wt<|bp<|ae rfl<|rq<|bU ht rfl<|MH ha<|iT (bS<|bI<|OX<|ae rfl<|rq ⟨_,rfl,.inr ⟨_,aL.of ht,(by show ¬(HT.bh 5 0 none=0/\HT.bh 5 5 (some<|-1)=5);decide),λt1 f1=>?_⟩⟩) rfl
  have ec:gw [V.str w,V.int (h:Nat),V.int (n:Nat),V.int (b:Nat),V.ref a] none (some<|-1)=[V.str w,V.int (h:Nat),V.int (n:Nat),V.int (b:Nat)]:=rfl;rw[ec];have s1:=sameNew (o:=.tup [V.str w,V.int (h:Nat),V.int (n:Nat),V.int (b:Nat)]) f1;have h1:upd H t1 (.tup [V.str w,V.int (h:Nat),V.int (n:Nat),V.int (b:Nat)]) t1=some (.tup [V.str w,V.int (h:Nat),V.int (n:Nat),V.int (b:Nat)]):=ay;generalize upd H t1 (.tup [V.str w,V.int (h:Nat),V.int (n:Nat),V.int (b:Nat)])=H1 at s1 h1⊢;refine ma<|aD<|pI<|bp<|ae rfl<|rq<|bU (s1 _ _ ht) rfl ⟨xs,.inl<|aB.of<|s1 _ _ ha,λa' f2=>?_⟩;have s2:=sameNew (o:=.lst xs) f2;have h2:upd H1 a' (.lst xs) a'=some (.lst xs):=ay;have na:a'∉N:=λhm=>by
   obtain⟨o,e⟩:=al a' hm;rw[s1 _ _ e] at f2;cases f2
  generalize upd H1 a' (.lst xs)=H2 at s2 h2⊢;refine aO ⟨jH,λt2 f3=>?_⟩;have s3:=sameNew (o:=.tup [V.ref a']) f3;have h3:upd H2 t2 (.tup [V.ref a']) t2=some (.tup [V.ref a']):=ay;refine .inr ⟨t1,t2,_,_,rfl,rfl,aL.of<|s3 _ _<|s2 _ _ h1,aL.of h3,(by lia),Bc,nofun,λ_ p fp=>?_⟩
  have s4:=sameNew (o:=.tup ([V.str w,V.int (h:Nat),V.int (n:Nat),V.int (b:Nat)]++[V.ref a'])) fp;have uB:=((s1.trans s2).trans s3).trans s4;exact kk p a' _ uB na ay (s4 _ _<|s3 _ _ h2)<|pv.mono<|bM uB
 cases l with
 |ask h n b c=>
  obtain⟨t,a,xs,e,h1,h2,h3,h4⟩:=hl;exact xy _ h n b t a xs c e h1 h2 h3 λt' a' H' s' n' k1 k2 k3=>q _ _ s' ⟨t',a',xs,rfl,k1,k2,k3,n'⟩
 |again h n=>
  obtain⟨t,rfl,h1⟩:=id hl;exact bq<|wt<|bp<|ae rfl<|rq<|bU h1 rfl<|adY<|iF (cJ (bS<|ae rfl<|q _ _ (aC.refl _) hl)) rfl
 |eM h n b c=>
  obtain⟨t,a,xs,e,h1,h2,h3,h4⟩:=hl;exact xy _ h n b t a xs c e h1 h2 h3 λt' a' H' s' n' k1 k2 k3=>q _ _ s' ⟨t',a',xs,rfl,k1,k2,k3,n'⟩
variable {M:MS}{C CS:Addr}{p dp q dq e:Addr}{own:Nat}{g:Gs}{ea:bJ}
def gI(L:Addr)(H:Hp)(v:V):Option (List Pt)->Prop
 |none=>v=.au
 |some ps=>∃a xs,v=.ref a/\H a=some (.lst xs)/\aG H xs ps/\a≠L
theorem gI.same:∀{o:Option (List Pt)},gI L H v o->aC H H'->gI L H' v o
 |none,h,_=>h
 |some _,⟨a,xs,e,h1,h2,h3⟩,s=>⟨a,xs,e,s _ _ h1,h2.mono<|bM s,h3⟩
theorem gI.but:∀{o:Option (List Pt)},gI L H v o->H L=some (.lst ys)->aW L H H'->gI L H' v o
 |none,h,_,_=>h
 |some _,⟨a,xs,e,h1,h2,h3⟩,hL,b=>⟨a,xs,e,b _ _ h1 h3,h2.mono λy us e'=>b _ _ e' (λz=>by lia),h3⟩
def dJ(L:Addr)(H:Hp)(g:Gs):Nat->V->Prop
 | 0,v=>v=.int (g.kn:Nat)
 | 1,v=>gI L H v g.fl
 | 2,v=>gI L H v g.de
 |_+3,v=>v=.str g.x
theorem dJ.same:∀{t:Nat},dJ L H g t v->aC H H'->dJ L H' g t v
 | 0,h,_=>h
 | 1,h,s=>gI.same h s
 | 2,h,s=>gI.same h s
 |_+3,h,_=>h
theorem dJ.but:∀{t:Nat},dJ L H g t v->H L=some (.lst ys)->aW L H H'->dJ L H' g t v
 | 0,h,_,_=>h
 | 1,h,e,s=>gI.but h e s
 | 2,h,e,s=>gI.but h e s
 |_+3,h,_,_=>h
structure Td (H:Hp) (L:Addr) (g:Gs):Prop where
 h:∃v0 v1 v2 v3,H L=some (.lst [v0,v1,v2,v3])/\dJ L H g 0 v0/\dJ L H g 1 v1/\dJ L H g 2 v2/\dJ L H g 3 v3
theorem Td.same(T:Td H L g)(s:aC H H'):Td H' L g:=by
 obtain⟨v0,v1,v2,v3,h,h0,h1,h2,h3⟩:=T.h;exact⟨v0,v1,v2,v3,s _ _ h,h0.same s,h1.same s,h2.same s,h3.same s⟩
inductive Fx (C CS:Addr)(vs:List V)(H:Hp)(Q:VK)(E:XK):Prop|i(M:MS)(p dp q dq e:Addr)(own:Nat)(g:Gs)(ea:bJ)(c:Int)(_:vs=[.ref p,.int c])(_:dG M C CS H p dp q dq e own g.x g.kn g.se g.fl g.de ea)(_:∀L H',aC H H'->H L=none->Td H' L g->Q (.ref L) H')
abbrev AR(K:Frag)(C CS:Addr)(E:XK):aV:=aN K [] [] [] [("seen",C,wK C CS),("flight",C,EJ C CS),("waiting",C,EK C CS),("text",C,rL C CS)] (E:=E)
abbrev sT(p:Addr)(c:Int)(L:Addr)(u3 u4:Option V):St:=[some<|.ref p,some<|.int c,some<|.ref L,u3,u4]
theorem AS{c:Int}{u3 u4:Option V}{t:Nat}{ex:RE}{v0 v1 v2 v3:V}(ht:t<4)(s0:aC H0 H)(fL:H0 L=none)(hL:H L=some (.lst [v0,v1,v2,v3]))(hv:∀i v,i<4->[v0,v1,v2,v3][i]?=some v->v=.au\/dJ L H g i v)
  (he:∀Q1:VK,(∀v H1,aC H H1->dJ L H1 g t v->Q1 v H1)->af (AR K C CS E) ex (sT p c L u3 u4) H Q1)
  (k:∀w0 w1 w2 w3 H',aC H0 H'->H' L=some (.lst [w0,w1,w2,w3])->(∀i v w,i<4->[v0,v1,v2,v3][i]?=some v->[w0,w1,w2,w3][i]?=some w->(dJ L H g i v->dJ L H' g i w)/\(i=t->dJ L H' g i w)/\(w=.au\/dJ L H' g i w))->D.nx (sT p c L u3 u4) H'):
  aE (AR K C CS E) [.set (.v 2) (.c<|.int (t:Nat)) ex] D (sT p c L u3 u4) H:=by
 refine OR<|he _ λv H1 s1 tv=>ae rfl (aw ⟨L,_,(t:Nat),t,rfl,rfl,s1 _ _ hL,?_,?_⟩)
 ·unfold iS;rw[if_pos<|Int.natCast_nonneg _,if_pos (by show((t:Nat):Int) < ((4:Nat):Int);lia),zaD]
 have b:aW L H1 (upd H1 L<|.lst<|[v0,v1,v2,v3].set t v):=aW.upd;have Qm:=s1 _ _ hL;obtain⟨w0,w1,w2,w3,ew⟩:∃w0 w1 w2 w3,[v0,v1,v2,v3].set t v=[w0,w1,w2,w3]:=by
  have h4:t=0\/t=1\/t=2\/t=3:=by lia
  rcases h4 with rfl|rfl|rfl|rfl<;>exact⟨_,_,_,_,rfl⟩
 refine k w0 w1 w2 w3 _ (EG (s0.trans s1) fL b) (ew▸ay) λi x w hi hx hw=>?_
 rw[<-ew,zaC] at hw;by_cases z:t=i
 ·subst z;rw[if_pos rfl,if_pos (show t< [v0,v1,v2,v3].length from hi)] at hw
  cases hw;have Fy:=tv.but Qm b;exact⟨λ_=>Fy,λ_=>Fy,.inr Fy⟩
 ·rw[if_neg z,hx] at hw;cases hw;have kp:dJ L H g i x->dJ L (upd H1 L<|.lst<|[v0,v1,v2,v3].set t v) g i x:=λh=>(h.same s1).but Qm b;exact⟨kp,λe=>absurd e.symm z,(hv i x hi hx).imp id kp⟩
theorem af7:bQ (Fx C CS) (λE=>AR K C CS E) Mw Mv:=by
 intro vs H Q E h;obtain⟨M,p,dp,q,dq,e,own,g,ea,c,rfl,S,k⟩:=h;refine bD<|fH<|aD<|aw<|aD<|aw<|aD<|aw<|aD<|aw<|aO ⟨Rh,λL fL=>?_⟩;have s0:=sameNew (o:=.lst [V.au,V.au,V.au,V.au]) fL;have m2:c / 4 % 2=0\/c / 4 % 2=1:=by lia
 refine adS (aw ⟨4,rfl,by decide,by decide,Bq (lo:=0) (λi σ H2=>i<=4/\∃(u3 u4:Option V) (v0 v1 v2 v3:V),σ=sT p c L u3 u4/\aC H H2/\H2 L=some (.lst [v0,v1,v2,v3])/\∀t v,t<4->[v0,v1,v2,v3][t]?=some v->(v=.au\/dJ L H2 g t v)/\∀j:Nat,j<i->(c+(j:Int)* (1+2* (c / 4 % 2))) % 4=(t:Nat)->dJ L H2 g t v)
  ⟨zqZ _,none,none,.au,.au,.au,.au,rfl,s0,ay,λt v ht hv=>⟨.inl ?_,λj hj=>absurd hj (zbI _)⟩⟩ ?_ ?_⟩)
 ·have h4:t=0\/t=1\/t=2\/t=3:=by lia
  rcases h4 with rfl|rfl|rfl|rfl<;>cases hv<;>rfl
 ·rintro i σ H2 hi ⟨_,u3,u4,v0,v1,v2,v3,rfl,s2,hL,hv⟩;have hi4:i<4:=hi;rw[Int.zero_add];refine bD<|bI<|bI<|ae rfl<|bI<|ae rfl<|bI<|aw<|bI<|aw<|bI<|bI<|ae rfl<|aw<|rD ⟨by decide,by decide⟩<|aw<|nJ (by decide)<|Pa (.inl ⟨by decide,by lia⟩)<|g_<|Pa (.inl ⟨by lia,by lia⟩)<|g_<|aw<|nJ (by decide) ?_
  have t0:=zaI (c+(i:Int)* (1+2* (c / 4 % 2))) (show(4:Int)≠0 by decide)
  have t4:=zaJ (c+(i:Int)* (1+2* (c / 4 % 2))) (show(0:Int) <4 by decide)
  obtain⟨t,et⟩:=zaT t0;rw[et] at t4⊢;have S2:=S.same s2;have fin:∀w0 w1 w2 w3 H',aC H H'->H' L=some (.lst [w0,w1,w2,w3])->(∀j v w,j<4->[v0,v1,v2,v3][j]?=some v->[w0,w1,w2,w3][j]?=some w->(dJ L H2 g j v->dJ L H' g j w)/\(j=t->dJ L H' g j w)/\(w=.au\/dJ L H' g j w))->i+1<=4/\∃(u3 u4:Option V) (v0 v1 v2 v3:V),sT p c L (some<|.int (i:Int)) (some<|.int ((t:Nat):Int))=sT p c L u3 u4/\aC H H'/\H' L=some (.lst [v0,v1,v2,v3])/\∀t v,t<4->[v0,v1,v2,v3][t]?=some v->(v=.au\/dJ L H' g t v)/\∀j:Nat,j<i+1->(c+(j:Int)* (1+2* (c / 4 % 2))) % 4=(t:Nat)->dJ L H' g t v:=by
   intro w0 w1 w2 w3 H' s' Ec hw;refine⟨hi4,_,_,w0,w1,w2,w3,rfl,s',Ec,λt' w jC hw'=>?_⟩;obtain⟨v,jh⟩:∃v,[v0,v1,v2,v3][t']?=some v:=⟨_,zai jC⟩;obtain⟨k1,k2,k3⟩:=hw t' v w jC jh hw';refine⟨k3,λj hj ej=>?_⟩;by_cases z:j=i
   ·subst z;exact k2 (by rw[et] at ej;lia)
   ·exact k1 ((hv t' v jC jh).2 j (by lia) ej)
  have h4:t=0\/t=1\/t=2\/t=3:=by lia
  have ob:=S2.ob;have jh:=λi v h h'=>(hv i v h h').1;have Qn:∀(o:Option (List Pt)) (Q1:VK),(∀v H1,aC H2 H1->gI L H1 v o->Q1 v H1)->An H2 Q1 o:=λo Q1 q1=>by
   cases o with
   |none=>exact q1 _ _ (aC.refl _) rfl
   |some ps=>exact λl H' xs s fl dP pv=>q1 _ _ s ⟨l,xs,rfl,dP,pv,λz=>by rw[z,hL] at fl;cases fl⟩
  rcases h4 with rfl|rfl|rfl|rfl
  ·refine bq (bo<|ae rfl<|aw<|iP ⟨_,rfl,iT ?_ rfl⟩);exact AS (t:=0) (by decide) s2 fL hL jh (λQ1 q1=>ie C (wK C CS) rfl<|ae rfl ⟨p,dp,_,rfl,ob,hU,M,p,dp,q,dq,e,own,g.x,g.kn,g.se,g.fl,g.de,ea,rfl,S2,q1 _ _ (aC.refl _) rfl⟩) fin
  ·refine bq (bo<|ae rfl<|aw<|iP ⟨_,rfl,iF ?_ rfl⟩);refine bq<|bo<|ae rfl<|aw<|iP ⟨_,rfl,iT ?_ rfl⟩;exact AS (t:=1) (by decide) s2 fL hL jh (λQ1 q1=>ie C (EJ C CS) rfl<|ae rfl ⟨p,dp,_,rfl,ob,hU,M,p,dp,q,dq,e,own,g.x,g.kn,g.se,g.fl,g.de,ea,rfl,S2,Qn _ _ q1⟩) fin
  ·refine bq (bo<|ae rfl<|aw<|iP ⟨_,rfl,iF ?_ rfl⟩);refine bq<|bo<|ae rfl<|aw<|iP ⟨_,rfl,iF ?_ rfl⟩;refine bq<|bo<|ae rfl<|aw<|iP ⟨_,rfl,iT ?_ rfl⟩;exact AS (t:=2) (by decide) s2 fL hL jh (λQ1 q1=>ie C (EK C CS) rfl<|ae rfl ⟨p,dp,_,rfl,ob,hU,M,p,dp,q,dq,e,own,g.x,g.kn,g.se,g.fl,g.de,ea,rfl,S2,Qn _ _ q1⟩) fin
  ·refine bq (bo<|ae rfl<|aw<|iP ⟨_,rfl,iF ?_ rfl⟩);refine bq<|bo<|ae rfl<|aw<|iP ⟨_,rfl,iF ?_ rfl⟩;refine bq<|bo<|ae rfl<|aw<|iP ⟨_,rfl,iF ?_ rfl⟩;exact AS (t:=3) (by decide) s2 fL hL jh (λQ1 q1=>ie C (rL C CS) rfl<|ae rfl ⟨p,dp,_,rfl,ob,hU,M,p,dp,q,dq,e,own,g.x,g.kn,g.se,g.fl,g.de,ea,rfl,S2,q1 _ _ (aC.refl _) rfl⟩) fin
 ·rintro σ H2 ⟨_,u3,u4,v0,v1,v2,v3,rfl,s2,hL,hv⟩;have al:∀t v,t<4->[v0,v1,v2,v3][t]?=some v->dJ L H2 g t v:=λt v ht jh=>by
   obtain⟨j,hj,ej⟩:∃j:Nat,j<4/\(c+(j:Int)* (1+2* (c / 4 % 2))) % 4=(t:Nat):=by
    rcases m2 with m2|m2<;>rw[m2]
    ·obtain⟨j,ej⟩:=zaT (zaI ((t:Int) - c) (show(4:Int)≠0 by decide))
     exact⟨j,by omega,by omega⟩
    ·obtain⟨j,ej⟩:=zaT (zaI (c - (t:Int)) (show(4:Int)≠0 by decide))
     exact⟨j,by omega,by omega⟩
   exact(hv t v ht jh).2 j hj ej
  exact bS<|ae rfl<|k L H2 s2 fL ⟨v0,v1,v2,v3,hL,al 0 _ (by decide) rfl,al 1 _ (by decide) rfl,al 2 _ (by decide) rfl,al 3 _ (by decide) rfl⟩
end
abbrev oR(sv hl po:Addr)(x:Str):List (Key×V):=[(.inr "server",.ref sv),(.inr "hands",.ref hl),(.inr "post",.ref po),(.inr "first",.str x)]
section
variable {K:Frag}{C CS CV:Addr}{H H':Hp}{Q:VK}{Γ:aV}{σ:St}{E:XK}{R sv hl po:Addr}{x:Str}
theorem AU(h:H R=some (.dK<|oR sv hl po x)):eF H R (.str "server") (some<|.ref sv):=by
 have:=eF.k (k:=.inr "server") h;exact this
theorem uC(h:H R=some (.dK<|oR sv hl po x)):eF H R (.str "hands") (some<|.ref hl):=by
 have:=eF.k (k:=.inr "hands") h;exact this
theorem nW(h:H R=some (.dK<|oR sv hl po x)):eF H R (.str "post") (some<|.ref po):=by
 have:=eF.k (k:=.inr "post") h;exact this
theorem af_(h:H R=some (.dK<|oR sv hl po x)):eF H R (.str "first") (some<|.str x):=by
 have:=eF.k (k:=.inr "first") h
 exact this
theorem Qo:putK (oR sv hl po x) (.inr "post") (.ref cf)=oR sv hl cf x:=by
 have n1:¬((Sum.inr "server":Key)=.inr "post"):=by decide+kernel
 have n2:¬((Sum.inr "hands":Key)=.inr "post"):=by decide+kernel
 have n3:¬((Sum.inr "first":Key)=.inr "post"):=by decide+kernel
 unfold putK;rw[if_pos (by simp)]
 simp only[zat,zaU,if_neg n1,if_neg n2,if_neg n3,if_pos]
abbrev tV(tx:List (List Nat)):List V:=tx.map λl=>V.str ⟨l.toArray⟩
inductive Fz (CV:Addr)(vs:List V)(H:Hp)(Q:VK)(E:XK):Prop|i(M:List Addr)(R sv hl po dx se ch mk:Addr)(x0 x:Str)(ar:List Nat)(tk:List (Nat×List Pt))(tx:List (List Nat))(_:vs=[.ref R])(_:H R=some (.dK<|oR sv hl po x0))(_:bY.dH M CV H sv dx se ch mk x ar tk)(_:Taken tx tk)(_:tx[0]?=some x0.cps.toList)(_:tk.length<=100)(_:(∀l∈tx,l.length<=5200/\∀c∈l,SG.cps.contains c=true))(_:∀L H',aC H H'->H L=none->H' L=some (.lst<|tV tx)->Q (.ref L) H')
abbrev Qp(K:Frag)(CV:Addr)(E:XK):aV:=aN K [("_law_fits",rW),("_law_done",rf)] [] [] [("many",CV,bY.lq CV),("change",CV,bY.xp CV)] (E:=E)
theorem aga{r:List RS}{b:RE}(h:af Γ a σ H λx H1=>af Γ b σ H1 λy H2=>∃p q:Int,[x,y]=[.int p,.int q]/\(-(2 ^ 62)<=p/\p<2 ^ 62/\ -(2 ^ 62)<=q/\q<2 ^ 62)/\∃W:Nat->Nat->St->Hp->Prop,(∃m,W 0 m σ H2)/\∀j m σ H,W j m σ H->
  ((dy p (q - p).toNat).stop j H/\({D with nx:=aE Γ r D}:Ends).nx σ H)\/((dy p (q - p).toNat).go j H/\∃N:St->Hp->Prop,(∀σ' H',N σ' H'->∃m',m'<m/\W (j+1) m' σ' H')/\∀x H',(dy p (q - p).toNat).fM j H x H'->fB i x σ H' λσ2 H2=>aE Γ body {({D with nx:=aE Γ r D}:Ends) with nx:=N,ct:=N,bk:=({D with nx:=aE Γ r D}:Ends).nx} σ2 H2)):
  aE Γ (.iA i .sJ [a,b] body::r) D σ H:=h
theorem agb:bQ (Fz CV) (λE=>Qp K CV E) Mt Ms:=by
 intro vs H Q E h;obtain⟨M,R,sv,hl,po,dx,se,ch,mk,x0,x,ar,tk,tx,rfl,hR,S,T,t0,lk,gt,k⟩:=h;have lt:=T.len;refine bD<|fH<|aD<|fK<|ae rfl<|aw ⟨R,_,rfl,af_ hR,aO ⟨jH,λL fL=>?_⟩⟩;have s0:=sameNew (o:=.lst [V.str x0]) fL;have Qq:upd H L (.lst [V.str x0]) L=some (.lst<|tV<|tx.take 1):=by
  rw[ay];cases tx with
  |nil=>cases t0
  |cons l tx=>
   cases t0;show _=some (HO.lst [V.str ⟨x0.cps.toList.toArray⟩]);rw[uh]
 have S1:=S.same s0;refine aga<|aw<|bI<|ie CV (bY.lq CV) rfl<|fK<|ae rfl<|aw ⟨R,_,rfl,AU<|s0 _ _ hR,sv,dx,_,rfl,S1.ob,bY.hV,M,sv,dx,se,ch,mk,x,ar,tk,rfl,S1,aw<|g_ ?_⟩;refine⟨1,(tk.length:Nat)+1,rfl,⟨by decide,by decide,by lia,by lia⟩,Bq (lo:=1) (λi σ H2=>i<=tk.length/\∃(u2 u3:Option V),σ=[some<|.ref R,some<|.ref L,u2,u3]/\aC H H2/\H2 L=some (.lst<|tV<|tx.take<|i+1)) ⟨zqZ _,none,none,rfl,s0,Qq⟩ ?_ ?_⟩
 ·rintro i σ H2 hi ⟨_,u2,u3,rfl,s2,hL⟩;have d_:i<tk.length:=by lia
  rw[show(1:Int)+(i:Int)=((i+1:Nat):Int) by lia]
  have S2:=S.same s2;obtain⟨m,ps,he⟩:∃m ps,tk[i]?=some (m,ps):=⟨_,_,zai d_⟩;obtain⟨l,h1⟩:∃l,tx[i]?=some l:=⟨_,zai (by lia)⟩
  obtain⟨l',h2⟩:∃l',tx[i+1]?=some l':=⟨_,zai (by lia)⟩
  obtain⟨cg,tt⟩:=T.chg i m ps l l' he h1 h2;have gl:=gt l (zal h1);have gl':=gt l' (zal h2);have el:(⟨l.toArray⟩:Str).cps.toList=l:=by simp
  have ll:(⟨l.toArray⟩:Str).length=l.length:=rfl
  have Qr:good ⟨l.toArray⟩:=⟨by rw[ll];lia,by rw[el];exact gl.2⟩
  refine bD<|i7 CV (bY.xp CV) rfl<|fK<|ae rfl<|aw ⟨R,_,rfl,AU<|s2 _ _ hR,sv,dx,_,rfl,S2.ob,bY.hV,ae rfl ⟨M,sv,dx,se,ch,mk,x,ar,tk,i,m,ps,rfl,S2,he,λa H3 ys s3 fa ha pv=>?_⟩⟩;have e1:tV (tx.take<|i+1)=tV (tx.take i)++[V.str ⟨l.toArray⟩]:=by rw[wz h1];show List.map _ _=_;rw[zar];rfl
  have e2:tV (tx.take<|i+1+1)=tV (tx.take<|i+1)++[V.str ⟨l'.toArray⟩]:=by rw[wz h2];show List.map _ _=_;rw[zar];rfl
  have xB:=s3 _ _ hL;have FA:=xB;rw[e1] at FA;have pO:=λp hp=>qL (cg.ok p hp);have run:Run (⟨l.toArray⟩:Str).cps.toList ps l':=by rw[el];exact cg.run
  refine bq<|eL<|jz rW rfl<|aD<|bp<|ae rfl<|rq<|jA FA (yk _ _)<|aD<|ae rfl<|aO ⟨_,a,ys,ps,l',rfl,Qr,ha,pv,pO,run,gg<|iF (cJ ?_) rfl⟩;refine fk<|i8<|ae rfl ⟨.inl ⟨rfl,_,aB.of xB⟩,bN rf rfl<|aD<|bp<|ae rfl<|rq<|jA FA (yk _ _)<|aD<|ae rfl<|aO ⟨_,a,ys,ps,l',rfl,Qr,ha,pv,pO,run,by lia,_,xB,dg (by rw[zaf,zaB];lia),?_⟩⟩
  have b4:aW L H3 (upd H3 L<|.lst<|tV (tx.take<|i+1)++[V.str ⟨l'.toArray⟩]):=aW.upd;exact⟨d_,_,_,rfl,EG (s2.trans s3) fL b4,by rw[e2];exact ay⟩
 ·rintro σ H2 ⟨_,u2,u3,rfl,s2,hL⟩;have en:(((tk.length:Nat):Int)+1 - 1).toNat=tk.length:=by lia
  rw[en,zaG (by lia)] at hL
  exact bS<|ae rfl<|k L H2 s2 fL hL
end
structure Hd where
 p:Nat
 dp:Nat
 q:Nat
 dq:Nat
 e:Nat
 g:Gs
 ea:bJ
structure bC (C CS:Addr) (M:MS) (H:Hp) (tx:List (List Nat)) (tk:List (Nat×List Pt)) (sn i d:Nat) (h:Hd):Prop where
 ha:dG M C CS H h.p h.dp h.q h.dq h.e i h.g.x h.g.kn h.g.se h.g.fl h.g.de h.ea
 iv:Iv i tx tk h.g
 so:fm i sn tk h.g
 ea:∀n u,h.ea n=some u->h.g.kn<n/\tk[n - 1]?=some (u.1,u.2.2)
 nb:h.ea.nb<=d
 tf:bV h.g.fl<=320*d
 td:bV h.g.de<=320*d
structure pQ (C CS CV:Addr) (H:Hp) (R sv dx se ch mk hl po:Addr) (x0 x:Str) (ar:List Nat) (tk:List (Nat×List Pt)) (tx:List (List Nat)) (hs:List Hd) (d:Nat):Prop where
 hR:H R=some (.dK<|oR sv hl po x0)
 sv:bY.dH [se,ch,mk] CV H sv dx se ch mk x ar tk
 T:Taken tx tk
 t0:tx[0]?=some x0.cps.toList
 tl:tx[tk.length]?=some x.cps.toList
 gt:∀l∈tx,l.length<=5200/\∀c∈l,SG.cps.contains c=true
 hh:H hl=some (.lst<|hs.map λh=>V.ref h.p)
 ok:∀i h,hs[i]?=some h->bC C CS (λz=>z∈ [se,ch,mk]) H tx tk (ar.getD i 0) i d h
 ln:1<=hs.length/\hs.length<=4
 ls:ar.length=hs.length
 lk:tk.length<=d
 jc:d<=16
section
variable {K:Frag}{C CS CV:Addr}{H H':Hp}{Q:VK}{Γ:aV}{σ:St}{E:XK}{R sv dx se ch mk hl po:Addr}{x0 x:Str}{ar:List Nat}{tk:List (Nat×List Pt)}{tx:List (List Nat)}{hs:List Hd}{d:Nat}{M:MS}{sn i:Nat}{h:Hd}
theorem bC.same(A:bC C CS M H tx tk sn i d h)(s:aC H H'):bC C CS M H' tx tk sn i d h:=⟨A.ha.same s,A.iv,A.so,A.ea,A.nb,A.tf,A.td⟩
theorem pQ.same(A:pQ C CS CV H R sv dx se ch mk hl po x0 x ar tk tx hs d)(s:aC H H'):pQ C CS CV H' R sv dx se ch mk hl po x0 x ar tk tx hs d:=
 ⟨s _ _ A.hR,A.sv.same s,A.T,A.t0,A.tl,A.gt,s _ _ A.hh,λi h e=>(A.ok i h e).same s,A.ln,A.ls,A.lk,A.jc⟩
theorem agc{t:Addr}{u w y:V}{Q:St->Hp->Prop}(ht:H t=some (.lst [u,v,w,y]))(q:Q ((((σ.set i<|some u).set j<|some v).set k<|some w).set m<|some y) H):qv K [i,j,k,m].length (oG [i,j,k,m]) (.ref t) σ H Q:=
 ⟨t,_,rfl,.inr<|aB.of ht,rfl,_,_,rfl,_,_,rfl,_,_,rfl,_,_,rfl,rfl,q⟩
inductive AV (C CS CV:Addr)(vs:List V)(H:Hp)(Q:VK)(E:XK):Prop|i(R sv dx se ch mk hl po:Addr)(x0 x:Str)(ar:List Nat)(tk:List (Nat×List Pt))(tx:List (List Nat))(hs:List Hd)(d:Nat)(c:Int)(_:vs=[.ref R,.int c])(_:pQ C CS CV H R sv dx se ch mk hl po x0 x ar tk tx hs d)(_:∀H',aC H H'->Q (.bl true) H')
abbrev AW(K:Frag)(C CS CV:Addr)(E:XK):aV:=aN K [("_law_told",Fx C CS),("_law_texts",Fz CV),("_law_whole",lY),("_law_fits",rW),("_law_done",rf)] [] [] [("text",CV,bY.Fe CV)] (E:=E)
def AX(H:Hp)(hs:List Hd)(ys:List V):Prop:= ∀y∈ys,∃(L:Addr) (h:Hd),y=.ref L/\(∃i:Nat,hs[i]?=some h)/\Td H L h.g
theorem AX.same(T:AX H hs ys)(s:aC H H'):AX H' hs ys:=λy hy=>by
 obtain⟨L,h,e,hi,t⟩:=T y hy;exact⟨L,h,e,hi,t.same s⟩
abbrev sS(R:Addr)(c:Int)(n:Nat)(l3 l4:Addr)(x:Str)(l6:Addr)(u7 u8 u9 pR uD mB:Option V):St:=[some<|.ref R,some<|.int c,some<|.int (n:Nat),some<|.ref l3,some<|.ref l4,some<|.str x,some<|.ref l6,u7,u8,u9,pR,uD,mB]
theorem agd{l:List Nat}(h:l.length<=5200/\∀c∈l,SG.cps.contains c=true):good (⟨l.toArray⟩:Str):=⟨by simp[Str.length];lia,by simpa using h.2⟩
theorem Qs{l3 l4:Addr}{c:Int}{u7 u8 u9 pR:Option V}{l m:List Nat}{o:Option (List Pt)}(hv:gI L H v o)(ho:OC o l m)(gl:good (⟨l.toArray⟩:Str))(lm:m.length<=100000)(k:D.nx (sS R c n l3 l4 x l6 u7 u8 u9 pR (some<|.str ⟨m.toArray⟩)<|some v) H):
  aE (AW K C CS CV E) [.ite (.cmp .IsNot (.v 12)<|.c .au) [.ite (.not<|.call 3 [.v 11,.v 12]) [.ret<|.c<|.bl false] [],.asg 11<|.call 4 [.v 11,.v 12]] []] D (sS R c n l3 l4 x l6 u7 u8 u9 pR (some<|.str ⟨l.toArray⟩)<|some v) H:=by
 cases o with
 |none=>
  subst hv ho;exact bq<|bo<|ae rfl<|aw ⟨rfl,_,rfl,iF (cJ k) rfl⟩
 |some ps=>
  obtain⟨a,ys,rfl,ha,pv,_⟩:=hv;have hc:=ho;have el:(⟨l.toArray⟩:Str).cps.toList=l:=rfl
  have run:=el▸hc.run
  have pO:=λp hp=>qL (hc.ok p hp);exact bq<|bo<|ae rfl<|aw ⟨rfl,_,rfl,iT (bq<|eL<|jz rW rfl<|aD<|ae rfl<|aD<|ae rfl<|aO ⟨_,a,ys,ps,m,rfl,gl,ha,pv,pO,run,gg<|iF (cJ (bD<|bN rf rfl<|aD<|ae rfl<|aD<|ae rfl<|aO ⟨_,a,ys,ps,m,rfl,gl,ha,pv,pO,run,by lia,k⟩)) rfl⟩) rfl⟩
theorem FC{r:List RS}(h:af Γ e σ H λv H1=>aE Γ r D (σ.set i<|some v) H1):aE Γ (.sL i e::r) D σ H:=h
theorem age:bQ (AV C CS CV) (λE=>AW K C CS CV E) f9 lW:=by
 intro vs H Q E h;obtain⟨R,sv,dx,se,ch,mk,hl,po,x0,x,ar,tk,tx,hs,d,c,rfl,A,q⟩:=h;obtain⟨n1,n4⟩:=A.ln;have lk:=A.lk;have jc:=A.jc;have lt:=A.T.len;refine bD<|i_<|fK<|ae rfl<|aw ⟨R,_,rfl,uC A.hR,.inl ⟨_,aB.of A.hh,?_⟩⟩;rw[zaf];refine FC<|bY.afF<|ae rfl ⟨_,rfl,by lia,by lia,?_⟩
 rw[zaD];refine Ab (by lia) (λi ys H2=>H2=H/\ys.length=i/\∀y∈ys,∃j:Nat,y=.int (j:Nat)/\j<hs.length) ⟨rfl,rfl,λy hy=>by cases hy⟩ ?_ ?_
 ·rintro i ys H2 hi s2 ⟨rfl,ly,hy⟩ Q' kk;obtain⟨j,ej⟩:=zaT (zaI (c+(0+(i:Int))) (show((hs.length:Nat):Int)≠0 by lia))
  have lj:=zaJ (c+(0+(i:Int))) (show(0:Int) < ((hs.length:Nat):Int) by lia)
  refine bI<|bI<|ae rfl<|ae rfl<|g_<|ae rfl<|nJ (by lia) ?_
  rw[ej];refine kk _ _ (aC.refl _) ⟨rfl,by rw[zqA,ly];rfl,λy h=>?_⟩
  rcases zab.mp h with h|h
  ·exact hy y h
  ·exact⟨j,zag.mp h,by lia⟩
 rintro is H2 l3 _ ⟨rfl,lis,his⟩ f3;have s1:=sameNew (o:=.lst is) f3;have h3:upd H2 l3 (.lst is) l3=some (.lst is):=ay;have A1:=A.same s1;refine FC<|adO<|ae rfl ⟨l3,rfl,⟨_,aB.of h3⟩,?_⟩;refine adI h3 (by lia) (λi ys H2=>AX H2 hs ys) (λy hy=>by cases hy) ?_ ?_
 ·intro i y ys H3 hy s3 T3 Q' kk;obtain⟨j,rfl,hj⟩:=his y (zal hy);have A3:=A1.same s3;have bu:hs[j]?=some hs[j]:=zai hj;have O:=A3.ok j _ bu;refine bN (Fx C CS) rfl<|aD<|bp<|fK<|ae rfl<|aw ⟨R,_,rfl,uC A3.hR,ae rfl<|jA A3.hh (fE (v:=V.ref hs[j].p) (by rw[zan,bu];rfl)) ?_⟩
  refine aD<|bI<|bI<|ae rfl<|aw<|rD ⟨by decide,by decide⟩<|ae rfl<|g_<|aO ⟨_,_,_,_,_,_,_,hs[j].g,_,_,rfl,O.ha,λL H4 s4 fL td=>kk _ _ s4 λy h=>?_⟩
  rcases zab.mp h with h|h
  ·exact(T3.same s4) y h
  ·exact⟨L,hs[j],zag.mp h,⟨j,bu⟩,td⟩
 intro ys H3 l4 s3 T3 f4;have s4:=sameNew (o:=.lst ys) f4;have h4:upd H3 l4 (.lst ys) l4=some (.lst ys):=ay;have T4:=T3.same s4;have uB:=s3.trans s4;have A4:=A1.same uB;have Qu:∀{σ:St}{H5:Hp}{Q1:VK},σ[0]?=some (some<|.ref R)->pQ C CS CV H5 R sv dx se ch mk hl po x0 x ar tk tx hs d->Q1 (.str x) H5->af (AW K C CS CV E) (.aR 0 "text" (.dc (.v 0)<|.c<|.str "server") []) σ H5 Q1:=λe0 A5 q1=>
  ie CV (bY.Fe CV) rfl (fK<|ae e0<|aw ⟨R,_,rfl,AU A5.hR,sv,dx,_,rfl,A5.sv.ob,bY.hV,_,sv,dx,se,ch,mk,x,ar,tk,rfl,A5.sv,q1⟩)
 refine bD<|Qu rfl A4 ?_;refine bD<|bN (Fz CV) rfl<|aD<|ae rfl<|aO ⟨_,R,sv,hl,po,dx,se,ch,mk,x0,x,ar,tk,tx,rfl,A4.hR,A4.sv,A4.T,A4.t0,by lia,A4.gt,λl6 H6 s6 f6 h6=>?_⟩
 have A6:=A4.same s6;have T6:=T4.same s6;have etx:tV tx=tV (tx.take tk.length)++[V.str x]:=by
  have e1:=wz (l:=tx) A6.tl;rw[zaG (by lia)] at e1
  conv=>lhs;rw[e1]
  show List.map _ _=_;rw[zar];show _++[V.str ⟨x.cps.toList.toArray⟩]=_;rw[uh]
 have Qw:=h6;rw[etx] at Qw;refine bq<|ON<|bo<|ae rfl<|aw ⟨rfl,_,rfl,iF ?_ rfl⟩;refine ON<|bo<|bp<|ae rfl<|rq<|jA Qw (yk _ _)<|ae rfl<|iN ⟨_,rfl,iF ?_ (by simp)⟩
 refine adJ<|bo<|Qu rfl A6<|ae rfl<|iN ⟨_,rfl,iF (cJ ?_) (by simp)⟩
 have Qx:=s6 _ _ h4;refine OS<|ae rfl ⟨l4,rfl,⟨_,aB.of Qx⟩,iR (K:=K) (a:=l4) (xs:=ys) (λi σ H7=>aC H6 H7/\∃(u7 u8 u9 pR uD mB:Option V),σ=sS R c hs.length l3 l4 x l6 u7 u8 u9 pR uD mB) ⟨aC.refl _,none,none,none,none,none,none,rfl⟩ (λi σ H7 _ ⟨s7,_⟩=>aB.of (s7 _ _ Qx)) ?_ ?_⟩
 ·rintro i y σ H7 hy ⟨s7,u7,u8,u9,pR,uD,mB,rfl⟩;obtain⟨L,h,rfl,⟨j,hj⟩,td⟩:=T6 y (zal hy);have I:=(A6.ok j h hj).iv;obtain⟨v0,v1,v2,v3,hL,t0,t1,t2,t3⟩:=(td.same s7).h;have e0:v0=.int (h.g.kn:Nat):=t0;have e3:v3=.str h.g.x:=t3;subst e0 e3;obtain⟨l,m,k1,k2,k3⟩:=I.oc;have gl:=I.gt l (zal k1);have ik:=I.kn;have Qy:=s7 _ _ h6;refine agc hL ?_;refine bq<|Aa<|eL<|jz lY rfl<|aD<|ae rfl<|aO ⟨_,rfl,gg<|iF ?_ rfl⟩;refine eL<|adV<|adU<|aw<|ae rfl<|N.leI ⟨_,rfl,iT (i_<|ae rfl<|.inl ⟨_,aB.of Qy,N.ltI ⟨_,rfl,iF (cJ ?_) ?_⟩⟩)<|zqT (by lia)⟩
  rotate_left
  ·rw[zaf,zqT (by lia)];rfl
  refine bD<|bp<|ae rfl<|ae rfl<|jA Qy (fE (v:=V.str ⟨l.toArray⟩) (by rw[zan,k1];rfl)) ?_
  have lm:m.length<=100000:=by have:=k2.len;have:=I.tf;lia
  have gm:good (⟨m.toArray⟩:Str):=⟨by simp[Str.length];lia,by simpa using k2.good gl.2⟩
  refine Af<|fH<|aD<|ae rfl<|aD<|ae rfl<|aO ⟨e7,λlp fp=>?_⟩;have s8:=sameNew (o:=.lst [v1,v2]) fp;have hp:upd H7 lp (.lst [v1,v2]) lp=some (.lst [v1,v2]):=ay;generalize upd H7 lp (.lst [v1,v2])=H8 at s8 hp⊢;refine⟨lp,rfl,⟨_,aB.of hp⟩,iR (K:=K) (a:=lp) (xs:=[v1,v2]) (λi σ H9=>H9=H8/\∃mB:Option V,σ=sS R c hs.length l3 l4 x l6 (some<|.int (h.g.kn:Nat)) (some v1) (some v2) (some<|.str h.g.x) (some<|.str (match i with| 0=>⟨l.toArray⟩| 1=>⟨m.toArray⟩|_=>h.g.x)) mB) ⟨rfl,_,rfl⟩ (λi σ H9 _ ⟨e,_⟩=>e ▸ aB.of hp) ?_ ?_⟩
  ·rintro i y σ H9 hy ⟨rfl,mB,rfl⟩;have hi:i=0\/i=1:=by have:=(zad.mp hy).1;simp at this;lia
   rcases hi with rfl|rfl
   ·cases hy;exact Qs (gI.same t1 s8) k2 (agd gl) lm ⟨rfl,_,rfl⟩
   ·cases hy;refine Qs (gI.same t2 s8) k3 gm (by rw[<-B.len_list];have:=I.len.1;lia) ⟨rfl,some v2,?_⟩
    rw[uh];rfl
  ·rintro σ H9 ⟨rfl,mB,rfl⟩;refine bq<|Aa<|bo<|ae rfl<|ae rfl<|iN ⟨_,rfl,iF ?_ (by simp)⟩
   have fd:=I.fd;refine wq<|bo<|ae rfl<|aw ⟨rfl,_,rfl,fV (λz=>?_)<|λ_=>iF (cJ ⟨s7.trans s8,_,_,_,_,_,_,rfl⟩) rfl⟩;have z1:v1=.au:=of_decide_eq_true z;have z2:h.g.fl=none:=by
    cases hf:h.g.fl with
    |none=>rfl
    |some f=>
     have Qz:gI L H7 v1 h.g.fl:=t1;rw[hf,z1] at Qz;obtain⟨_,_,e,_⟩:=Qz;cases e
   have z3:v2=.au:=by
    have uo:gI L H7 v2 h.g.de:=t2;rw[fd z2] at uo;exact uo
   subst z3;exact bo<|ae rfl<|aw ⟨rfl,_,rfl,iF (cJ ⟨s7.trans s8,_,_,_,_,_,_,rfl⟩) rfl⟩
 ·rintro σ H7 ⟨s7,u7,u8,u9,pR,uD,mB,rfl⟩;exact bS<|aw<|q _<|((s1.trans uB).trans s6).trans s7
structure Kp (M:MS) (H H':Hp):Prop where
 l:∀a xs,¬M a->H a=some (.lst xs)->H' a=some (.lst xs)
 t:dR H H'
theorem cX.keep(k:Kp M H H')(w:∀z,M z->N z):∀{o:Option (List Pt)},cX N H v o->cX N H' v o
 |none,h=>h
 |some _,⟨a,xs,e,h1,h2,h3⟩=>⟨a,xs,e,k.l _ _ (λz=>h3<|w _ z) h1,h2.mono k.t,h3⟩
theorem gh.keep{o:Option V}(k:Kp M H H'):∀{u:Option (Nat×Addr×List Pt)},gh M H o u->gh M H' o u
 |none,h=>h
 |some _,⟨t,xs,h1,h2,h3,h4,h5⟩=>⟨t,xs,h1,k.t _ _ h2,k.l _ _ h5 h3,h4.mono k.t,h5⟩
theorem bP.keep{se:Nat}{fl de:Option (List Pt)}{ea:bJ}(S:bP M CS H q dq e x kn se fl de ea)(k:Kp M H H')(kq:∀o,H q=some o->H' q=some o)(ke:∀o,H e=some o->H' e=some o):bP M CS H' q dq e x kn se fl de ea:=by
 obtain⟨vf,vd,h1,h2,h3⟩:=S.ob;obtain⟨kvs,k1,k3,k2⟩:=S.he;exact⟨⟨vf,vd,kq _ h1,h2.keep k<|λz hz=>.inl hz,h3.keep k<|λz hz=>.inl hz⟩,⟨kvs,ke _ k1,k3,λn=>(k2 n).keep k⟩,S.nd⟩
theorem dG.keep{se:Nat}{fl de:Option (List Pt)}{ea:bJ}(S:dG M C CS H p dp q dq e own x kn se fl de ea)(k:Kp M H H')(kp:∀o,H p=some o->H' p=some o)(kq:∀o,H q=some o->H' q=some o)(ke:∀o,H e=some o->H' e=some o):dG M C CS H' p dp q dq e own x kn se fl de ea:=⟨kp _ S.ob,S.st.keep k kq ke⟩
theorem QC(S:bY.dH N CV H sv dx se ch mk x ar tk)(k:Kp (λz=>z∈N) H H')(kp:∀o,H sv=some o->H' sv=some o)(k1:∀o,H se=some o->H' se=some o)(k2:∀o,H ch=some o->H' ch=some o)(k3:∀o,H mk=some o->H' mk=some o):bY.dH N CV H' sv dx se ch mk x ar tk:=by
 obtain⟨cG,h1,h2⟩:=S.bZ;exact⟨kp _ S.ob,k1 _ S.fo,⟨cG,k2 _ h1,Paired.dw h2 λv ps ⟨a,xs,e,g1,g2,g3⟩=>⟨a,xs,e,k.l _ _ g3 g1,g2.mono k.t,g3⟩⟩,k3 _ S.ju,S.nd,S.mm⟩
def hX(tx:List (List Nat))(tk:List (Nat×List Pt))(ar:List Nat)(hs:List Hd):Lt->Prop
 |.ask h n b c=>∃hd,hs[h]?=some hd/\c_ tx tk (ar.getD h 0) hd.g n b c
 |.again h n=>h<hs.length/\n<=tk.length
 |.eM h n w c=>h<hs.length/\1<=n/\w<=7/\tk[n - 1]?=some (w,c)
structure Rm (C CS CV:Addr) (H0 H:Hp) (R sv dx se ch mk hl po:Addr) (x0 x:Str) (ar:List Nat) (tk:List (Nat×List Pt)) (tx:List (List Nat)) (hs:List Hd) (d:Nat) (vs:List V) (ls:List Lt) (w:List Nat):Prop where
 A:pQ C CS CV H R sv dx se ch mk hl po x0 x ar tk tx hs d
 hp:H po=some (.lst vs)
 pl:Paired (cT [se,ch,mk] H) vs ls
 lo:∀l∈ls,hX tx tk ar hs l
 nv:vs.length<=2000*d
 s0:aC H0 H
 f0:∀a∈R::se::ch::mk::sv::(hs.map (·.p)++hs.map (·.q)),H0 a=none
 nd:(sv::(hs.map (·.p)++hs.map (·.q))).Nodup
 ne:∀h∈hs,h.e≠R
 off:hl∉ [se,ch,mk]/\po∉ [se,ch,mk]
 wl:w.length=hs.length
 wp:∀i h,hs[i]?=some h->(if h.g.fl≠none/\ar.getD i 0+1=h.g.se then bV h.g.fl else 0)+bV h.g.de<=w.getD i 0
 ws:(tk.map λe=>aA e.2).sum+w.sum<=320*d
 lx:x.length<=24+(tk.map λe=>aA e.2).sum
 m7:∀e∈tk,e.1<hs.length
variable {H0:Hp}{vs:List V}{ls:List Lt}{w:List Nat}
theorem pQ.off(A:pQ C CS CV H R sv dx se ch mk hl po x0 x ar tk tx hs d):(∃xs,H se=some (.lst xs))/\(∃xs,H ch=some (.lst xs))/\(∃xs,H mk=some (.lst xs))/\∃f,H sv=some (.ins CV dx f):=by
 obtain⟨cG,h1,_⟩:=A.sv.bZ;exact⟨⟨_,A.sv.fo⟩,⟨_,h1⟩,⟨_,A.sv.ju⟩,_,A.sv.ob⟩
theorem Rm.al(A:Rm C CS CV H0 H R sv dx se ch mk hl po x0 x ar tk tx hs d vs ls w):∀a∈ [se,ch,mk],∃o,H a=some o:=λa ha=>by
 obtain⟨⟨_,h1⟩,⟨_,h2⟩,⟨_,h3⟩,_⟩:=A.A.off
 simp at ha
 rcases ha with rfl|rfl|rfl
 ·exact⟨_,h1⟩
 ·exact⟨_,h2⟩
 ·exact⟨_,h3⟩
theorem Rm.same(A:Rm C CS CV H0 H R sv dx se ch mk hl po x0 x ar tk tx hs d vs ls w)(s:aC H H'):Rm C CS CV H0 H' R sv dx se ch mk hl po x0 x ar tk tx hs d vs ls w:=
 ⟨A.A.same s,s _ _ A.hp,Paired.dw A.pl λ_ _ z=>z.same s,A.lo,A.nv,A.s0.trans s,A.f0,A.nd,A.ne,A.off,A.wl,A.wp,A.ws,A.lx,A.m7⟩
theorem Rm.put(A:Rm C CS CV H0 H R sv dx se ch mk hl po x0 x ar tk tx hs d vs ls w){cf:Addr}{bH:List V}{dX:List Lt}(sE:H cf=some (.lst bH))(pl':Paired (cT [se,ch,mk] H) bH dX)(FD:∀l∈dX,hX tx tk ar hs l)(nv':bH.length<=2000*d)(of':cf∉ [se,ch,mk]):
  Rm C CS CV H0 (upd H R<|.dK<|oR sv hl cf x0) R sv dx se ch mk hl cf x0 x ar tk tx hs d bH dX w:=by
 have b:aW R H (upd H R<|.dK<|oR sv hl cf x0):=aW.upd;have nR:∀{z:Addr}{o:HO},H z=some o->(∀kvs,o≠ .dK kvs)->z≠R:=λe h z=>by rw[z,A.A.hR] at e;cases e;exact h _ rfl
 have kp:Kp (λz=>z∈ [se,ch,mk]) H (upd H R<|.dK<|oR sv hl cf x0):=⟨λa xs _ e=>b _ _ e (nR e nofun),λy us e=>b _ _ e (nR e nofun)⟩
 obtain⟨⟨_,h1⟩,⟨_,h2⟩,⟨_,h3⟩,_,h4⟩:=A.A.off
 refine⟨⟨ay,(QC A.A.sv kp (λo e=>b _ _ e (nR h4 nofun)) (λo e=>b _ _ e (nR h1 nofun)) (λo e=>b _ _ e (nR h2 nofun)) (λo e=>b _ _ e (nR h3 nofun))),A.A.T,A.A.t0,A.A.tl,A.A.gt,b _ _ A.A.hh (nR A.A.hh nofun),λi h e=>?_,A.A.ln,A.A.ls,A.A.lk,A.A.jc⟩,b _ _ sE (nR sE nofun),Paired.dw pl' λ_ _ z=>z.keep kp.t kp.l,FD,nv',EG A.s0 (A.f0 R<|.head _) b,A.f0,A.nd,A.ne,⟨A.off.1,of'⟩,A.wl,A.wp,A.ws,A.lx,A.m7⟩
 have O:=A.A.ok i h e;obtain⟨vf,vd,hq,_⟩:=O.ha.st.ob;exact⟨O.ha.keep kp (λo e'=>b _ _ e' (nR O.ha.ob nofun)) (λo e'=>b _ _ e' (nR hq nofun))<|λo e'=>b _ _ e'<|A.ne h<|zal e,O.iv,O.so,O.ea,O.nb,O.tf,O.td⟩
theorem Rm.add{r:List RS}{gJ:List V}{dN:List Lt}(ej:σ[j]?=some (some<|.ref R))(A:Rm C CS CV H0 H R sv dx se ch mk hl po x0 x ar tk tx hs d vs ls w)(hL:H L=some (.lst gJ))(p2:Paired (cT [se,ch,mk] H) gJ dN)(l2:∀l∈dN,hX tx tk ar hs l)(n2:(vs++gJ).length<=2000*d)
  (k:∀cf H',(∀z o,H z=some o->z≠R->H' z=some o)->Rm C CS CV H0 H' R sv dx se ch mk hl cf x0 x ar tk tx hs d (vs++gJ) (ls++dN) w->aE Γ r D σ H'):
  iV Γ.K .Add (.ref po) (.ref L) H λv H3=>af Γ (.v j) σ H3 λdv H4=>af Γ (.c<|.str "post") σ H4 λkv H5=>∃d H6,dv=.ref d/\kr H5 d kv v H6/\aE Γ r D σ H6:=by
 have jc:=A.A.jc;refine Pb A.hp hL (by rw[<-zqA];lia) λc fc=>?_
 have s1:=sameNew (o:=.lst (vs++gJ)) fc;have A1:=A.same s1;have hc:upd H c (.lst<|vs++gJ) c=some (.lst<|vs++gJ):=ay;have nc:c∉ [se,ch,mk]:=λhm=>by
  obtain⟨o,e⟩:=A.al c hm;rw[fc] at e;cases e
 refine ae ej<|aw ⟨R,_,rfl,kr.k (k:=.inr "post") A1.A.hR<|dg (by simp),?_⟩
 refine k c _ (λz o e n=>by rw[az n];exact s1 _ _ e)<|A1.put hc (Paired.app A1.pl (Paired.dw p2 λ_ _ z=>cT.same z s1)) (λl hl=>?_) n2 nc
 rcases zab.mp hl with h|h
 ·exact A.lo l h
 ·exact l2 l h
theorem Rm.fr(A:Rm C CS CV H0 H R sv dx se ch mk hl po x0 x ar tk tx hs d vs ls w){a:Addr}(f:H a=none):a∉ [se,ch,mk]:=λhm=>by
 obtain⟨o,e⟩:=A.al a hm;rw[f] at e;cases e
theorem agk(A:Rm C CS CV H0 H R sv dx se ch mk hl po x0 x ar tk tx hs d vs ls w)(hi:hs[i]?=some h)(q:∀L gJ dN H',aC H H'->H' L=some (.lst gJ)->Paired (cT [se,ch,mk] H') gJ dN->(∀l∈dN,hX tx tk ar hs l)->gJ.length<=2->Q (.ref L) H'):Aq C CS [.ref h.p] H Q E:=by
 have O:=A.A.ok i h hi;refine⟨_,h.p,h.dp,h.q,h.dq,h.e,i,h.g.x,h.g.kn,h.g.se,h.g.fl,h.g.de,h.ea,rfl,O.ha,?_⟩;have QE:hX tx tk ar hs (.again i h.g.kn):=⟨((zad.mp hi).1),O.iv.kn⟩;cases hf:h.g.fl with
 |none=>
  intro L t0 H' s' fL ft ht hL;refine q L _ [.again i h.g.kn] H' s' hL (.cons ⟨t0,rfl,ht⟩ .nil) (λl hl=>?_) (by simp)
  rw[zag.mp hl];exact QE
 |some f=>
  intro L t0 t l H' s' fL ft0 ft fl ht0 hA hL;obtain⟨h1,xs,h2,h3⟩:=hA;refine q L _ [.again i h.g.kn,.ask i h.g.se h.g.kn f] H' s' hL (.cons ⟨t0,rfl,ht0⟩<|.cons ⟨t,l,xs,rfl,h1,h2,h3,A.fr fl⟩ .nil) (λl' dP=>?_) (by simp)
  rcases zac.mp dP with rfl|dP
  ·exact QE
  ·rw[zag.mp dP];exact⟨h,hi,afm O.iv hf O.so⟩
theorem bC.up{d':Nat}(O:bC C CS M H tx tk sn i d h)(hd:d<=d'):bC C CS M H tx tk sn i d' h:=⟨O.ha,O.iv,O.so,O.ea,by have:=O.nb;lia,by have:=O.tf;lia,by have:=O.td;lia⟩
theorem hX.hand{l:Lt}(hl:hX tx tk ar hs l)(ln:bR.length=hs.length)(k:∀j g n b c,hs[j]?=some g->c_ tx tk (ar.getD j 0) g.g n b c->∃g',bR[j]?=some g'/\c_ tx tk (ar.getD j 0) g'.g n b c):hX tx tk ar bR l:=by
 cases l with
 |ask h n b c=>
  obtain⟨g,h1,h2⟩:=hl;exact k h g n b c h1 h2
 |again h n=>exact⟨ln▸hl.1,hl.2⟩
 |eM h n w c=>exact⟨ln▸hl.1,hl.2⟩
theorem Rm.hand(A:Rm C CS CV H0 H R sv dx se ch mk hl po x0 x ar tk tx hs d vs ls w)(hi:hs[i]?=some h){h':Hd}{d':Nat}{w':List Nat}(hd:d<=d')(lE:d'<=16)(kp:Kp (λz=>z∈ [se,ch,mk]) H H')(km:∀a∈ [se,ch,mk],∀o,H a=some o->H' a=some o)(kd:∀z kvs,H z=some (.dK kvs)->H' z=some (.dK kvs))(ki:∀z C dx f,H z=some (.ins C dx f)->z≠h.p->z≠h.q->H' z=some (.ins C dx f))(s0':aC H0 H')
  (O':bC C CS (λz=>z∈ [se,ch,mk]) H' tx tk (ar.getD i 0) i d' h') (FD:∀n b c,c_ tx tk (ar.getD i 0) h.g n b c->c_ tx tk (ar.getD i 0) h'.g n b c) (ep:h'.p=h.p) (f0':H0 h'.q=none) (nd':(sv::((hs.set i h').map (·.p)++(hs.set i h').map (·.q))).Nodup) (ne':h'.e≠R)
  (wl':w'.length=hs.length) (FE:∀j g,(hs.set i h')[j]?=some g->(if g.g.fl≠none/\ar.getD j 0+1=g.g.se then bV g.g.fl else 0)+bV g.g.de<=w'.getD j 0) (mx:(tk.map λe=>aA e.2).sum+w'.sum<=320*d'):
  Rm C CS CV H0 H' R sv dx se ch mk hl po x0 x ar tk tx (hs.set i h') d' vs ls w':=by
 have il:=(zad.mp hi).1;have nd:=A.nd;have hm:h∈hs:=zal hi;rw[zaF,zab,not_or] at nd;obtain⟨⟨nsp,nsq⟩,xx⟩:=nd;have dC:=List.nodup_append.mp xx;have svp:sv≠h.p:=λz=>nsp (zam.mpr ⟨h,hm,z.symm⟩);have svq:sv≠h.q:=λz=>nsq (zam.mpr ⟨h,hm,z.symm⟩);obtain⟨⟨_,h1⟩,⟨_,h2⟩,⟨_,h3⟩,_,h4⟩:=A.A.off
 have other:∀j g,j≠i->hs[j]?=some g->bC C CS (λz=>z∈ [se,ch,mk]) H' tx tk (ar.getD j 0) j d' g:=λj g nj hj=>by
  have Oj:=(A.A.ok j g hj).up hd;obtain⟨vf,vd,hq,_⟩:=Oj.ha.st.ob;obtain⟨kvs,he,_⟩:=Oj.ha.st.he;have gm:g∈hs:=zal hj;have inj:∀f:Hd->Nat,(hs.map f).Nodup->f g≠f h:=λf nf z=>by
   have e1:(hs.map f)[j]?=some (f g):=by rw[zan,hj];rfl
   have e2:(hs.map f)[i]?=some (f g):=by rw[zan,hi,z];rfl
   exact nj<|(List.getElem?_inj ((zad.mp e1).1) nf).mp<|e1.trans e2.symm
  have QF:=λa b ha hb z=>dC.2.2 a.p (zam.mpr ⟨a,ha,rfl⟩) b.q (zam.mpr ⟨b,hb,rfl⟩) z;exact⟨Oj.ha.keep kp (λo e=>by rw[Oj.ha.ob] at e;cases e;exact ki _ _ _ _ Oj.ha.ob (inj _ dC.1) (QF g h gm hm)) (λo e=>by rw[hq] at e;cases e;exact ki _ _ _ _ hq (λz=>QF h g hm gm z.symm) (inj _ dC.2.1)) (λo e=>by rw[he] at e;cases e;exact kd _ _ he),Oj.iv,Oj.so,Oj.ea,Oj.nb,Oj.tf,Oj.td⟩
 have jO:(hs.set i h').length=hs.length:=zbh;refine⟨⟨kd _ _ A.A.hR,(QC A.A.sv kp (λo e=>by rw[h4] at e;cases e;exact ki _ _ _ _ h4 svp svq) (λo e=>km _ (.head _) _ e) (λo e=>km _ (.tail _<|.head _) _ e) (λo e=>km _ (.tail _<|.tail _<|.head _) _ e)),A.A.T,A.A.t0,A.A.tl,A.A.gt,?_,λj g hj=>?_,jO▸A.A.ln,jO▸A.A.ls,by have:=A.A.lk;lia,lE⟩,kp.l _ _ A.off.2 A.hp,Paired.dw A.pl λ_ _ z=>z.keep kp.t kp.l,λl hl=>(A.lo l hl).hand jO λj g n b c hj ha=>?_,by have:=A.nv;lia,s0',λa ha=>?_,nd',λg hg=>?_,A.off,by lia,FE,mx,A.lx,jO▸A.m7⟩
 ·have e:(hs.set i h').map (λh=>V.ref h.p)=hs.map λh=>V.ref h.p:=by
   rw[zbw,ep];refine List.ext_getElem? λj=>?_;rw[zaC];by_cases z:i=j
   ·subst z;rw[if_pos rfl,if_pos (by rw[zaf];exact il),zan,hi];rfl
   ·rw[if_neg z]
  rw[e];exact kp.l _ _ A.off.1 A.A.hh
 ·by_cases z:i=j
  ·subst z;rw[zaC,if_pos rfl,if_pos il] at hj;cases hj;exact O'
  ·rw[zaC,if_neg z] at hj;exact other j g (λy=>z y.symm) hj
 ·by_cases z:i=j
  ·subst z;rw[hi] at hj;cases hj;exact⟨h',by rw[zaC,if_pos rfl,if_pos il],FD n b c ha⟩
  ·exact⟨g,by rw[zaC,if_neg z];exact hj,ha⟩
 ·simp only[zac,zab,zam] at ha
  have old:=A.f0;rcases ha with rfl|rfl|rfl|rfl|rfl|⟨g,hg,rfl⟩|⟨g,hg,rfl⟩
  ·exact old _ (.head _)
  ·exact old _ (.tail _<|.head _)
  ·exact old _ (.tail _<|.tail _<|.head _)
  ·exact old _ (.tail _<|.tail _<|.tail _<|.head _)
  ·exact old _ (.tail _<|.tail _<|.tail _<|.tail _<|.head _)
  ·rcases zbJ hg with hg|rfl
   ·exact old _ (by simp;exact .inr (.inr<|.inr<|.inr<|.inr<|.inl ⟨g,hg,rfl⟩))
   ·rw[ep];exact old _ (by simp only[zac,zab,zam];exact .inr (.inr<|.inr<|.inr<|.inr<|.inl ⟨h,hm,rfl⟩))
  ·rcases zbJ hg with hg|rfl
   ·exact old _ (by simp only[zac,zab,zam];exact .inr (.inr<|.inr<|.inr<|.inr<|.inr ⟨g,hg,rfl⟩))
   ·exact f0'
 ·rcases zbJ hg with hg|rfl
  ·exact A.ne g hg
  ·exact ne'
end
theorem sum_set(k:Nat):∀(w:List Nat) (i:Nat),i<w.length->(w.set i<|w.getD i 0+k).sum=w.sum+k
 |[],_,h=>absurd h (zbI _)
 |a::w,0,_=>by show(a+k)+w.sum=(a+w.sum)+k;lia
 |a::w,i+1,h=>by
  have:=sum_set k w i (Nat.lt_of_succ_lt_succ h);show a+(w.set i<|w.getD i 0+k).sum=(a+w.sum)+k;lia
theorem FF{w:List Nat}{v:Nat}(h:i<w.length):(w.set i v).getD j 0=if i=j then v else w.getD j 0:=by
 rw[zaN,zaC,zaN];by_cases z:i=j
 ·rw[if_pos z,if_pos z,if_pos h];rfl
 ·rw[if_neg z,if_neg z]
section
variable {K:Frag}{C CS CV:Addr}{H H' H0:Hp}{Q:VK}{Γ:aV}{σ:St}{E:XK}{R sv dx se ch mk hl po:Addr}{x0 x:Str}{ar:List Nat}{tk:List (Nat×List Pt)}{tx:List (List Nat)}{hs:List Hd}{d:Nat}{M:MS}{sn i:Nat}{h:Hd}{vs:List V}{ls:List Lt}{w:List Nat}
theorem FG(A:Rm C CS CV H0 H R sv dx se ch mk hl po x0 x ar tk tx hs d vs ls w)(hd:d<16)(hi:hs[i]?=some h)(hc:bX c h.g.x.cps.toList r)(tc:aA c<=320)(hj:∀f q m l,h.g.fl=some f->h.g.de=some q->tx[h.g.kn]?=some l->OC h.g.fl l m->bX ps m r/\aA ps<=aA q+aA c)
  (b:bx (· =h.q) H H') {N:MS} (ha:dG N C CS H' h.p h.dp h.q h.dq h.e i (da h.g c ps r).x (da h.g c ps r).kn (da h.g c ps r).se (da h.g c ps r).fl (da h.g c ps r).de h.ea) (wN:∀z,z∈ [se,ch,mk]->N z):
  ∃h' w',h'.g=da h.g c ps r/\Rm C CS CV H0 H' R sv dx se ch mk hl po x0 x ar tk tx (hs.set i h') (d+1) vs ls w'/\(h.g.fl=none->c_ tx tk (ar.getD i 0) h'.g (h.g.se+1) h.g.kn c):=by
 have O:=A.A.ok i h hi;have I:=O.iv;have il:i<hs.length:=(zad.mp hi).1;have gr:=hc.run.good I.gx λp hp=>Es (hc.ok p hp);have td:=O.td;have tf:=O.tf;obtain⟨I',S',ask',agu⟩:=afl (sn:=ar.getD i 0) I O.so hc gr (by lia) λf q m l e1 e2 e3 e4=>by
  obtain⟨k1,k2⟩:=hj f q m l e1 e2 e3 e4;rw[e2] at td;have td':aA q<=320*d:=td;exact⟨k1,by lia⟩
 obtain⟨vf,vd,hq,_⟩:=O.ha.st.ob;have nq:∀{z:Addr}{o:HO},H z=some o->(∀a b c,o≠ .ins a b c)->z≠h.q:=λe k z=>by rw[z,hq] at e;cases e;exact k _ _ _ rfl
 have wl:=A.wl;have bounds:bV (da h.g c ps r).fl<=320* (d+1)/\bV (da h.g c ps r).de<=320* (d+1)/\(if (da h.g c ps r).fl≠none/\ar.getD i 0+1=(da h.g c ps r).se then bV (da h.g c ps r).fl else 0)+bV (da h.g c ps r).de<=w.getD i 0+320:=by
  have wp:=A.wp i h hi;have fd:=I.fd;obtain⟨l,m,k1,k2,k3⟩:=I.oc;unfold da;cases hf:h.g.fl with
  |none=>
   refine⟨by show aA c<=_;lia,zqZ _,?_⟩
   show(if _ then aA c else 0)+0<=_
   split<;>lia
  |some f=>
   rw[hf] at tf wp;cases pS:h.g.de with
   |none=>
    rw[pS] at wp;refine⟨by show bV (some f)<=_;lia,by show aA c<=_;lia,?_⟩
    show(if _ then bV (some f) else 0)+aA c<=_
    lia
   |some q=>
    rw[pS] at wp td;have td':aA q<=320*d:=td;obtain⟨_,k5⟩:=hj f q m l hf pS k1 k2;have FE:(if (some f:Option (List Pt))≠none/\ar.getD i 0+1=h.g.se then bV (some f) else 0)+aA q<=w.getD i 0:=wp
    refine⟨by show bV (some f)<=_;lia,by show aA ps<=_;lia,?_⟩
    show(if _ then bV (some f) else 0)+aA ps<=_
    lia
 have kn':(da h.g c ps r).kn=h.g.kn:=by unfold da;split<;>rfl
 refine⟨{h with g:=da h.g c ps r},w.set i<|w.getD i 0+320,rfl,?_,agu⟩
 have QG:∀f:Hd->Nat,f {h with g:=da h.g c ps r}=f h->(hs.set i {h with g:=da h.g c ps r}).map f=hs.map f:=λf ef=>by
  rw[zbw,ef];refine List.ext_getElem? λj=>?_;rw[zaC];by_cases z:i=j
  ·subst z;rw[if_pos rfl,if_pos (by rw[zaf];exact il),zan,hi];rfl
  ·rw[if_neg z]
 have hm:h∈hs:=zal hi;have fq:H0 h.q=none:=A.f0 _ (by simp only[zac,zab,zam];exact .inr (.inr<|.inr<|.inr<|.inr<|.inr ⟨h,hm,rfl⟩))
 refine A.hand hi (by lia) (by lia) ⟨λa xs _ e=>b _ _ e (nq e λ_ _ _ z=>by cases z),λy us e=>b _ _ e (nq e λ_ _ _ z=>by cases z)⟩ (λa ha o e=>b _ _ e ?_) (λz kvs e=>b _ _ e (nq e λ_ _ _ z=>by cases z)) (λz C dx f e _ n=>b _ _ e n) (λz o e=>b _ _ (A.s0 _ _ e) (aM e fq)) ⟨⟨ha.ob,ha.st.weak λz hz=>.inl (wN z hz)⟩,I',S',λn u e=>by
   rw[kn'];exact O.ea n u e,by have:=O.nb;show h.ea.nb<=_;lia,bounds.1,bounds.2.1⟩ ask' rfl fq (by rw[QG _ rfl,QG _ rfl];exact A.nd) (A.ne h hm) (by rw[zbh];exact wl) (λj g bu=>?_) ?_
 ·obtain⟨⟨_,h1⟩,⟨_,h2⟩,⟨_,h3⟩,_⟩:=A.A.off
  simp only[zac,zah,or_false] at ha
  rcases ha with rfl|rfl|rfl
  ·exact nq h1 λ_ _ _ z=>by cases z
  ·exact nq h2 λ_ _ _ z=>by cases z
  ·exact nq h3 λ_ _ _ z=>by cases z
 ·rw[FF (by lia)]
  by_cases z:i=j
  ·subst z;rw[zaC,if_pos rfl,if_pos il] at bu;cases bu;rw[if_pos rfl];exact bounds.2.2
  ·rw[zaC,if_neg z] at bu;rw[if_neg z];exact A.wp j g bu
 ·rw[sum_set 320 w i (by lia)]
  have:=A.ws;lia
theorem agw(A:Rm C CS CV H0 H R sv dx se ch mk hl po x0 x ar tk tx hs d vs ls w)(hd:d<16)(hi:hs[i]?=some h){a:Addr}(ha:H a=some (.lst ys))(pv:aG H ys c)(hc:bX c h.g.x.cps.toList r)(tc:aA c<=320)
  (q:∀L gJ dN h' w' H',Rm C CS CV H0 H' R sv dx se ch mk hl po x0 x ar tk tx (hs.set i h') (d+1) vs ls w'->H' L=some (.lst gJ)->Paired (cT [se,ch,mk] H') gJ dN->(∀l∈dN,hX tx tk ar (hs.set i h') l)->gJ.length<=1->Q (.ref L) H'):Aw C CS [.ref h.p,.ref a] H Q E:=by
 have O:=A.A.ok i h hi;have I:=O.iv;obtain⟨l,m,k1,k2,k3⟩:=I.oc;have xl:=I.len;refine⟨_,h.p,h.dp,h.q,h.dq,h.e,i,h.g.x,h.g.kn,h.g.se,h.g.fl,h.g.de,h.ea,a,ys,c,m,r,rfl,O.ha,λz hz=>A.al z hz,I.fd,ha,pv,hc,k3,by lia,I.td,xl.2,by lia,?_⟩
 cases hf:h.g.fl with
 |none=>
  intro L t l' H' b fL ft fl hA hL hAs;have eg:∀ps,da h.g c ps r=⟨⟨r.toArray⟩,h.g.kn,h.g.se+1,some c,none⟩:=λps=>by unfold da;rw[hf]
  obtain⟨h',w',e1,A',nw⟩:=FG A hd hi (ps:=[]) hc tc (λf q m l e=>by lia) b (by rw[eg];exact hA) (λz hz=>Or.inr<|Or.inr hz)
  obtain⟨g1,xs,g2,g3⟩:=hAs;refine q L [.ref t] [.ask i (h.g.se+1) h.g.kn c] h' w' H' A' hL (.cons ⟨t,l',xs,rfl,g1,g2,g3,A.fr fl⟩ .nil) (λy hy=>?_)<|zqR _;rw[zag.mp hy];exact⟨h',by rw[zaC,if_pos rfl,if_pos ((zad.mp hi).1)],nw hf⟩
 |some f=>
  cases pS:h.g.de with
  |none=>
   intro L H' b fL hA hL;have eg:∀ps,da h.g c ps r=⟨⟨r.toArray⟩,h.g.kn,h.g.se,some f,some c⟩:=λps=>by unfold da;rw[hf,pS]
   obtain⟨h',w',e1,A',_⟩:=FG A hd hi (ps:=[]) hc tc (λf q m l _ e=>by lia) b (by rw[eg];exact hA) (λz hz=>Or.inr hz)
   exact q L [] [] h' w' H' A' hL .nil nofun<|zqZ _
  |some q0=>
   intro L ps H' b fL J hA hL;have eg:da h.g c ps r=⟨⟨r.toArray⟩,h.g.kn,h.g.se,some f,some ps⟩:=by unfold da;rw[hf,pS]
   have hj:∀f' q' m' l2,h.g.fl=some f'->h.g.de=some q'->tx[h.g.kn]?=some l2->OC h.g.fl l2 m'->bX ps m' r/\aA ps<=aA q'+aA c:=λf' q' m' l2 e1 e2 e3 e4=>by
    rw[k1] at e3;cases e3;rw[pS] at e2;cases e2;rw[hf] at k2 e4;have em:=EZ (bX.run (show bX f l m from k2)) (bX.run (show bX f l m' from e4))
    subst em;exact⟨⟨J.ok,J.ch,J.run⟩,J.aA⟩
   obtain⟨h',w',e1,A',_⟩:=FG A hd hi hc tc hj b (by rw[eg];exact hA) (λz hz=>Or.inr hz)
   exact q L [] [] h' w' H' A' hL .nil nofun<|zqZ _
end
section
variable {own sn:Nat}{tx:List (List Nat)}{tk:List (Nat×List Pt)}{g:Gs}{e:Nat×List Pt}
def mD(sn:Nat)(g:Gs):Nat:=(if g.fl≠none/\sn+1=g.se then bV g.fl else 0)+bV g.de
theorem agy(I:Iv own tx tk g)(S:fm own sn tk g)(he:tk[g.kn]?=some e):mD sn (c9 own e g)<=mD sn g/\∀B,bV g.fl<=B->bV g.de<=B->bV (c9 own e g).fl<=B/\bV (c9 own e g).de<=B:=by
 obtain⟨l,l',m',h1,h4,c1,c2,h2,h3⟩:=I.at' he;unfold c9;by_cases ho:e.1=own
 ·rw[if_pos ho];refine⟨?_,λB b1 b2=>⟨b2,zqZ _⟩⟩;have:mD sn ⟨g.x,g.kn+1,rP g.se g.de,g.de,none⟩<=bV g.de:=by
   show(if _ then bV g.de else 0)+0<=_
   split<;>lia
  have:bV g.de<=mD sn g:=by unfold mD;lia
  lia
 ·rw[if_neg ho];obtain⟨m2,a1,a2,a3,a4⟩:=h2.pass c1 c2 I.tf;obtain⟨r2,b1,b2,b3,b4⟩:=h3.pass a2 (by lia) I.td
  have pn:pF e.2 g.fl=none↔g.fl=none:=by cases g.fl<;>simp[pF]
  refine⟨?_,λB k1 k2=>⟨zaq a3 k1,zaq b3 k2⟩⟩;unfold mD
  by_cases z:g.fl≠none/\sn+1=g.se
  ·lia
  ·lia
theorem QH(I:Iv own tx tk g)(S:fm own sn tk g):∀j,g.kn+j<=tk.length->mD sn (bF own tk g j).1<=mD sn g/\∀B,bV g.fl<=B->bV g.de<=B->bV (bF own tk g j).1.fl<=B/\bV (bF own tk g j).1.de<=B
 | 0,_=>⟨zqR _,λB a b=>⟨a,b⟩⟩
 |j+1,h=>by
  obtain⟨e,he,eg⟩:=xj j h;obtain⟨k1,k2⟩:=QH I S j (by lia)
  obtain⟨k3,k4⟩:=agy (I.run j (by lia)) (xk I S j (by lia)) he
  show mD sn (c9 own _ _)<=_/\∀B,_->_->bV (c9 own _ _).fl<=B/\bV (c9 own _ _).de<=B;rw[eg];exact⟨zaq k3 k1,λB a b=>k4 B (k2 B a b).1 (k2 B a b).2⟩
theorem far(P:Nat->Prop)(B:Nat)(h:¬P B):∃j,j<=B/\(∀i,i<j->P i)/\ ¬P j:=by
 have go:∀n k,k+n=B->(∀i,i<k->P i)->∃j,j<=B/\(∀i,i<j->P i)/\ ¬P j:=by
  intro n
  induction n with
  |zero=>intro k e hk;exact⟨k,by lia,hk,by lia⟩
  |succ n ih=>
   intro k e hk;by_cases z:P k
   ·refine ih (k+1) (by lia) λi hi=>?_
    by_cases y:i=k
    ·rw[y];exact z
    ·exact hk i (by lia)
   ·exact⟨k,by lia,hk,z⟩
 exact go B 0 (by lia) λi hi=>absurd hi (zbI _)
end
theorem QI:∀{l:List Nat} (n:Nat),l.Nodup->x∉l->(l.set n x).Nodup
 |[],_,_,_=>.nil
 |a::l,0,h,hx=>by
  rw[zaF] at h;exact zaF.mpr ⟨λz=>hx<|.tail _ z,h.2⟩
 |a::l,n+1,h,hx=>by
  rw[zaF] at h;refine zaF.mpr ⟨λz=>?_,QI n h.2 λz=>hx (.tail _ z)⟩;rcases zbJ z with z|z
  ·exact h.1 z
  ·exact hx (z ▸ .head _)
section
variable {K:Frag}{C CS CV:Addr}{H H' H0:Hp}{Q:VK}{Γ:aV}{σ:St}{E:XK}{R sv dx se ch mk hl po:Addr}{x0 x:Str}{ar:List Nat}{tk:List (Nat×List Pt)}{tx:List (List Nat)}{hs:List Hd}{d:Nat}{M:MS}{sn i:Nat}{h:Hd}{vs:List V}{ls:List Lt}{w:List Nat}
theorem agA(A:Rm C CS CV H0 H R sv dx se ch mk hl po x0 x ar tk tx hs d vs ls w)(hd:d<16)(hi:hs[i]?=some h){lt b:Addr}{n0:Nat}(bE:H lt=some (.tup<|ET i n0 cA b))(h1:1<=n0)(hw:cA<=7)(hb:H b=some (.lst ys))(pv:aG H ys c)(eQ:tk[n0 - 1]?=some (cA,c))
  (q:∀t P Tl zs ws dN ts h' H',Rm C CS CV H0 H' R sv dx se ch mk hl po x0 x ar tk tx (hs.set i h') (d+1) vs ls w->H' t=some (.tup [.ref P,.ref Tl])->H' P=some (.lst zs)->Paired (cT [se,ch,mk] H') zs dN->(∀l∈dN,hX tx tk ar (hs.set i h') l)->zs.length<=16->H' Tl=some (.lst ws)->Paired (λv c=>∃a xs,v=.ref a/\H' a=some (.lst xs)/\aG H' xs c) ws ts->my h.g.x.cps.toList ts h'.g.x.cps.toList->h'.p=h.p->Q (.ref t) H'):AE C CS [.ref h.p,.ref lt] H Q E:=by
 have O:=A.A.ok i h hi;have I:=O.iv;have S:=O.so;have il:i<hs.length:=(zad.mp hi).1;have hm:h∈hs:=zal hi;have lt':=A.A.T.len;have lk:=A.A.lk;have kn:=I.kn;have nl:=(zad.mp eQ).1;obtain⟨cg,_⟩:=A.A.T.chg (n0 - 1) cA c _ _ eQ (zai (by lia)) (zai (by lia))
 obtain⟨j,j1,j2,j3⟩:=far (λk=>h.ea (h.g.kn+k+1)≠none\/h.g.kn+k+1=n0) (tk.length - h.g.kn) (λz=>by
  rcases z with z|z
  ·cases he:h.ea (h.g.kn+(tk.length - h.g.kn)+1) with
   |none=>exact z he
   |some u=>
    have:=(zad.mp (O.ea _ u he).2).1;lia
  ·lia)
 have jl:h.g.kn+j<=tk.length:=by lia
 have QJ:=not_or.mp j3;refine⟨_,h.p,h.dp,h.q,h.dq,h.e,lt,b,i,h.g,h.ea,n0,cA,ys,c,tx,tk,j,rfl,O.ha,λz hz=>A.al z hz,bE,h1,hw,hb,pv,cg.ok,cg.ch,I,by have:=O.nb;lia,O.ea,λ_ _=>eQ,by lia,j2,⟨Classical.not_not.mp QJ.1,QJ.2⟩,λN P Tl t q' cY e' a0 zs ws ea0 H' k=>?_⟩
 have I':=I.run j jl;have S':=xk I S j jl;obtain⟨QK,QL⟩:=QH (sn:=ar.getD i 0) I S j jl;have gk:=w_ i tk h.g j;have gl:=EY i tk h.g j;have nw:=P4 I S j jl;have tr:=P6 I j jl;generalize hG:bF i tk h.g j=G at k I' S' QK QL gk gl nw tr;have np:∀{z:Addr}{o:HO},H z=some o->(∀a b c,o≠ .ins a b c)->z≠h.p:=λe k z=>by rw[z,O.ha.ob] at e;cases e;exact k _ _ _ rfl
 have fp:H0 h.p=none:=A.f0 _ (by simp only[zac,zab,zam];exact .inr (.inr<|.inr<|.inr<|.inr<|.inl ⟨h,hm,rfl⟩))
 have agB:∀n u,(gj G.1.kn ea0) n=some u->G.1.kn<n/\tk[n - 1]?=some (u.1,u.2.2):=λn u e=>by
  have e':(if n<=G.1.kn then none else ea0 n)=some u:=e
  by_cases z:n<=G.1.kn
  ·rw[if_pos z] at e';cases e'
  ·rw[if_neg z] at e';refine⟨by lia,?_⟩
   rcases k.ins with⟨_,_,ei⟩|⟨_,ei⟩
   ·rw[ei] at e';have e2:(if n=n0 then some (cA,a0,c) else h.ea n)=some u:=e'
    by_cases y:n=n0
    ·rw[if_pos y] at e2;cases e2;rw[y];exact eQ
    ·rw[if_neg y] at e2;exact(O.ea n u e2).2
   ·rw[ei] at e';exact(O.ea n u e').2
 have nbk:(gj G.1.kn ea0).nb<=d+1:=by
  have:=O.nb;show ea0.nb<=d+1;rcases k.ins with⟨_,_,ei⟩|⟨_,ei⟩ <;>rw[ei]
  ·show h.ea.nb+1<=d+1;lia
  ·lia
 have QM:=QL (320* (d+1)) (by have:=O.tf;lia) (by have:=O.td;lia)
 have qn:∀z∈sv::(hs.map (·.p)++hs.map (·.q)),q'≠z:=λz hz y=>by
  have fq:=k.fq;rw[y] at fq
  simp only[zac,zab,zam] at hz
  rcases hz with rfl|⟨g,hg,rfl⟩|⟨g,hg,rfl⟩
  ·rw[A.A.sv.ob] at fq;cases fq
  ·obtain⟨j',bu⟩:=zbe hg;rw[(A.A.ok j' g bu).ha.ob] at fq;cases fq
  ·obtain⟨j',bu⟩:=zbe hg;obtain⟨_,_,hq,_⟩:=(A.A.ok j' g bu).ha.st.ob;rw[hq] at fq;cases fq
 have FH:=by
  refine A.hand hi (h':=⟨h.p,h.dp,q',cY,e',G.1,gj G.1.kn ea0⟩) (by lia) (by lia) ⟨λa xs _ e=>k.b _ _ e (np e λ_ _ _ z=>by cases z),λy us e=>k.b _ _ e (np e λ_ _ _ z=>by cases z)⟩ (λa ha o e=>k.b _ _ e ?_) (λz kvs e=>k.b _ _ e (np e λ_ _ _ z=>by cases z)) (λz C dx f e n _=>k.b _ _ e n) (λz o e=>k.b _ _ (A.s0 _ _ e)<|aM e fp) ⟨⟨k.ha.ob,k.ha.st.weak λz hz=>.inl (.inl hz)⟩,I',S',agB,nbk,QM.1,QM.2⟩ (λn b c a=>by have:=P2 I S a j jl;rw[hG] at this;exact this) rfl (A.s0.free k.fq) ?_ (λz=>by have:=k.fe;rw[show e'=R from z,A.A.hR] at this;cases this) A.wl (λj' g bu=>?_) (by have:=A.ws;lia)
  ·obtain⟨⟨_,g1⟩,⟨_,g2⟩,⟨_,g3⟩,_⟩:=A.A.off
   simp only[zac,zah,or_false] at ha
   rcases ha with rfl|rfl|rfl
   ·exact np g1 λ_ _ _ z=>by cases z
   ·exact np g2 λ_ _ _ z=>by cases z
   ·exact np g3 λ_ _ _ z=>by cases z
  ·have e1:(hs.set i ⟨h.p,h.dp,q',cY,e',G.1,gj G.1.kn ea0⟩).map (·.p)=hs.map (·.p):=by
    rw[zbw];refine List.ext_getElem? λj'=>?_;rw[zaC];by_cases z:i=j'
    ·subst z;rw[if_pos rfl,if_pos (by rw[zaf];exact il),zan,hi];rfl
    ·rw[if_neg z]
   have e2:sv::(hs.map (·.p)++(hs.map (·.q)).set i q')=(sv::(hs.map (·.p)++hs.map (·.q))).set ((hs.map (·.p)).length+i+1) q':=by
    rw[List.set_cons_succ,List.set_append_right _ _ (by lia),Nat.add_sub_cancel_left]
   rw[e1,zbw];rw[e2];exact QI _ A.nd λz=>qn _ z rfl
  ·by_cases z:i=j'
   ·subst z;rw[zaC,if_pos rfl,if_pos il] at bu;cases bu;exact zaq QK<|A.wp i h hi
   ·rw[zaC,if_neg z] at bu;exact A.wp j' g bu
 have agD:∀l,N l->l∉ [se,ch,mk]:=λl hl sO=>by
  rcases k.fN l hl with f|⟨n,u,e1,e2⟩
  ·exact A.fr f sO
  ·obtain⟨kvs,_,_,k2⟩:=O.ha.st.he;have:=k2 n;rw[e1] at this;obtain⟨_,_,_,_,_,_,nm⟩:=this;exact nm<|e2 ▸ sO
 refine q t P Tl zs ws (G.2.1.map λa=>.ask i a.1 a.2.1 a.2.2) G.2.2 _ H' FH k.ht k.hP ?_ (λl hl=>?_) ?_ k.hT (Paired.dw k.pw λv c ⟨a,xs,e1,e2,e3,_⟩=>⟨a,xs,e1,e2,e3⟩) tr rfl
 ·have go:∀{zs:List V}{as:List Ask},Paired (pM N P Tl i H') zs as->Paired (cT [se,ch,mk] H') zs (as.map λa=>.ask i a.1 a.2.1 a.2.2):=λ{zs as} hp=>by
   induction hp with
   |nil=>exact .nil
   |cons a _ ih=>
    obtain⟨t',l',e1,⟨g1,xs,g2,g3⟩,e3,_⟩:=a;exact .cons ⟨t',l',xs,e1,g1,g2,g3,agD _ e3⟩ ih
  exact go k.pz
 ·obtain⟨a,ha,rfl⟩:=zam.mp hl;exact⟨_,by rw[zaC,if_pos rfl,if_pos il],nw a ha⟩
 ·have:=Paired.length k.pz;lia
abbrev toLt(e:bY.Let×Addr):Lt:=.eM e.1.1 e.1.2.1 e.1.2.2.1 e.1.2.2.2
theorem FI(fr:∀a,H a=none->a∉N):∀{zs:List V}{ao:List (bY.Let×Addr)},Paired (bY.gH H H') zs ao->Paired (cT N H') zs (ao.map toLt)
 |[],[],_=>.nil
 |_::_,_::_,.cons ⟨t,e1,⟨g1,xs,g2,g3⟩,_,f2⟩ r=>.cons ⟨t,_,xs,e1,g1,g2,g3,fr _ f2⟩ (FI fr r)
theorem agE(A:Rm C CS CV H0 H R sv dx se ch mk hl po x0 x ar tk tx hs d vs ls w){lt:Addr}{k:Nat}(bE:H lt=some (.tup<|bY.Ff k n))(hh:k<hs.length)(hn:n<=tk.length)
  (q:∀L zs dN H',aC H H'->H' L=some (.lst zs)->Paired (cT [se,ch,mk] H') zs dN->(∀l∈dN,hX tx tk ar hs l)->zs.length<=16->Q (.ref L) H'):bY.rV CV [.ref sv,.ref lt] H Q E:=by
 have lk:=A.A.lk;have jc:=A.A.jc;have l4:=A.A.ln;refine⟨_,sv,dx,se,ch,mk,x,ar,tk,lt,rfl,.inl ⟨k,n,A.A.sv,bE,A.A.ls▸hh,hn,by lia,λL zs ao H' s' fL hL e1 pz _ _=>?_⟩⟩
 refine q L zs (ao.map toLt) H' s' hL (FI (λa f=>A.fr f) pz) (λl hl=>?_) ?_
 ·obtain⟨it,hit,rfl⟩:=zam.mp hl;have hm:it.1∈ao.map (·.1):=zam.mpr ⟨it,hit,rfl⟩;rw[e1] at hm;obtain⟨j,hj,ej⟩:=zam.mp hm;have bu:=List.mem_range.mp hj;have hk:n+j<tk.length:=by lia
  have eg:tk.getD (n+j) (0,[])=tk[n+j]:=by rw[zaN,zai hk];rfl
  show hX tx tk ar hs (.eM it.1.1 it.1.2.1 it.1.2.2.1 it.1.2.2.2);rw[<-ej,eg];have m7:=A.m7 _ (List.getElem_mem hk);exact⟨hh,zbg _,by lia,by rw[Nat.add_sub_cancel,zai hk]⟩
 ·have:=Paired.length pz;have e2:=congrArg List.length e1;rw[zaf,zaf,zbd] at e2;lia
end
theorem QN{a:Nat}{c:List Pt}:∀{i j:Nat},a+i+j<=tk.length->pj tk a (i+j) c=pj tk (a+i) j (pj tk a i c)
 |i,0,_=>rfl
 |i,j+1,h=>by
  have hk:a+(i+j) <tk.length:=by lia
  have e:=zai hk;rw[<-zaZ,rE e,QN (by lia),rE (by rw[zaZ];exact e)]
theorem QO(T:Taken tx tk){at':Nat}{c:List Pt}{l n:List Nat}(hl:tx[at']?=some l)(hc:bX c l n)(ht:aA c<=5200):∀j,at'+j<=tk.length->aA (pj tk at' j c)<=aA c
 | 0,_=>uu▸zqR _
 |j+1,h=>by
  have hk:at'+j<tk.length:=by lia
  have e:=zai hk;obtain⟨m,r,g1,g2,g3⟩:=wD T hl hc ht j (by lia)
  have lt:=T.len;obtain⟨c1,_⟩:=T.chg (at'+j) _ _ _ _ e g1 (zai (by lia))
  rw[rE e];exact zaq (Pe c1 g2 (by lia)).2.1<|QO T hl hc ht j (by lia)
theorem QP(t:Nat):∀(w:List Nat) (i:Nat),i<w.length->t<=w.getD i 0->(w.set i<|w.getD i 0 - t).sum+t=w.sum
 |[],_,h,_=>absurd h (zbI _)
 |a::w,0,_,ht=>by
  have jC:t<=a:=ht;show((a - t)+w.sum)+t=a+w.sum;lia
 |a::w,i+1,h,ht=>by
  have:=QP t w i (Nat.lt_of_succ_lt_succ h) ht;show(a+(w.set i<|w.getD i 0 - t).sum)+t=a+w.sum;lia
section
variable {K:Frag}{C CS CV:Addr}{H H' H0:Hp}{Q:VK}{Γ:aV}{σ:St}{E:XK}{R sv dx se ch mk hl po:Addr}{x0 x:Str}{ar:List Nat}{tk:List (Nat×List Pt)}{tx:List (List Nat)}{hs:List Hd}{d:Nat}{M:MS}{sn i:Nat}{h:Hd}{vs:List V}{ls:List Lt}{w:List Nat}
theorem agF(S:bY.dH N CV H sv dx se ch mk x ar tk)(hN:∀a∈ [se,ch,mk],a∈N):bY.dH [se,ch,mk] CV H sv dx se ch mk x ar tk:=by
 obtain⟨cG,h1,h2⟩:=S.bZ;exact⟨S.ob,S.fo,⟨cG,h1,Paired.dw h2 λv ps ⟨a,xs,e,g1,g2,g3⟩=>⟨a,xs,e,g1,g2,λz=>g3<|hN a z⟩⟩,S.ju,S.nd,⟨.head _,.tail _<|.head _,.tail _<|.tail _<|.head _⟩⟩
theorem QR(A:Rm C CS CV H0 H R sv dx se ch mk hl po x0 x ar tk tx hs d vs ls w){b:Addr}{k base:Nat}{g:Hd}(hb:H b=some (.lst ys))(nb:b∉ [se,ch,mk])(pv:aG H ys c)(hg:hs[k]?=some g)(ak:c_ tx tk (ar.getD k 0) g.g n base c):∃l r,bY.uA [se,ch,mk] CV H sv dx se ch mk x ar tk tx b k base ys c l r:=by
 obtain⟨l,r,h1,h2⟩:=ak.cg;have gx:=A.A.gt _ (zal A.A.tl);have ll:=B.len_list x;have lk:=A.A.lk;have jc:=A.A.jc;have ln:=A.A.ln;have bk:=ak.bk;have kn:=(A.A.ok k g hg).iv.kn;exact⟨l,r,A.A.sv,A.A.T,A.A.tl,⟨by lia,gx.2⟩,by lia,A.al,A.A.ls▸((zad.mp hg).1),by lia,by lia,by rw[A.A.ls];lia,hb,⟨λz=>nb (by simp[z]),λz=>nb (by simp[z])⟩,pv,h1,h2,ak.tt⟩
theorem agG(A:Rm C CS CV H0 H R sv dx se ch mk hl po x0 x ar tk tx hs d vs ls w){lt b:Addr}{k base:Nat}{g:Hd}(bE:H lt=some (.tup<|bY.AK k n base b))(hb:H b=some (.lst ys))(nb:b∉ [se,ch,mk])(pv:aG H ys c)(hg:hs[k]?=some g)(ak:c_ tx tk (ar.getD k 0) g.g n base c)(hn:n≠ar.getD k 0+1)
  (q:∀L H',aC H H'->H' L=some (.lst [])->Q (.ref L) H'):bY.rV CV [.ref sv,.ref lt] H Q E:=by
 obtain⟨l,r,T⟩:=QR A hb nb pv hg ak;exact⟨_,sv,dx,se,ch,mk,x,ar,tk,lt,rfl,.inr ⟨tx,b,k,n,base,ys,c,l,r,T,bE,ak.n1,.inl ⟨hn,λL H' s' _ hL=>q L H' s' hL⟩⟩⟩
theorem agH(A:Rm C CS CV H0 H R sv dx se ch mk hl po x0 x ar tk tx hs d vs ls w)(hd:d<16){lt b:Addr}{k base:Nat}{g:Hd}(bE:H lt=some (.tup<|bY.AK k (ar.getD k 0+1) base b))(hb:H b=some (.lst ys))(nb:b∉ [se,ch,mk])(pv:aG H ys c)(hg:hs[k]?=some g)(ak:c_ tx tk (ar.getD k 0) g.g (ar.getD k 0+1) base c)
  (q:∀L zs dN x' cZ cz c3 w' H',Rm C CS CV H0 H' R sv dx se ch mk hl po x0 x' cZ cz c3 hs (d+1) vs ls w'->H' L=some (.lst zs)->Paired (cT [se,ch,mk] H') zs dN->(∀l∈dN,hX c3 cz cZ hs l)->zs.length<=16->Q (.ref L) H'):bY.rV CV [.ref sv,.ref lt] H Q E:=by
 obtain⟨l,r,T⟩:=QR A hb nb pv hg ak;have kl:k<hs.length:=(zad.mp hg).1;have O:=A.A.ok k g hg;have bk:=ak.bk;have kn:=O.iv.kn;have lk:=A.A.lk;have jc:=A.A.jc;have ln:=A.A.ln;have lse:=A.A.ls;have lT:=A.A.T.len;refine⟨_,sv,dx,se,ch,mk,x,ar,tk,lt,rfl,.inr ⟨tx,b,k,_,base,ys,c,l,r,T,bE,ak.n1,.inr ⟨rfl,λx' L zs ao H' QS _ run S' hL fL e1 pz _ _ b'=>?_⟩⟩⟩;obtain⟨m,r',g1,g2,g3⟩:=wD A.A.T T.AM T.cg T.tt (tk.length - base) (by lia)
 rw[show base+(tk.length - base)=tk.length by lia,A.A.tl] at g1
 cases g1;have er:r'=x'.cps.toList:=EZ g2.run run;subst er;generalize jI:bY.lr tk base c=c' at run S' e1;have QU:pj tk base (tk.length - base) c=c':=jI;rw[QU] at g2 g3;have ttc:aA c'<=5200:=g3;have T':=A.A.T.snoc (h:=k) A.A.tl g2 ttc;obtain⟨noOwn,agK⟩:=afh O.so kn ak;have lv:=ak.lv rfl;have ec:c'=pj tk g.g.kn (tk.length - g.g.kn) (pj tk base (g.g.kn - base) c):=by
  rw[<-QU,show tk.length - base=(g.g.kn - base)+(tk.length - g.g.kn) by lia,QN (by lia),show base+(g.g.kn - base)=g.g.kn by lia]
 have tcf:aA c'<=bV g.g.fl:=by
  obtain⟨l2,m2,o1,o2,_⟩:=O.iv.oc;have tf:=O.iv.tf;rw[lv] at o2 tf⊢;rw[ec];exact QO A.A.T o1 o2 tf (tk.length - g.g.kn) (by lia)
 have fo:ar.getD k 0+1=g.g.se:=by
  have:=ak.le;rcases O.so with⟨a,_⟩|⟨a,_⟩|⟨a,_⟩ <;>lia
 have wpk:=A.wp k g hg;rw[if_pos ⟨by rw[lv];simp,fo⟩] at wpk
 have sm:((tk++[(k,c')]).map λe=>aA e.2).sum=(tk.map λe=>aA e.2).sum+aA c':=by
  rw[zar,zbF];rfl
 have rl:=run.len;have lx:=A.lx;have lx1:=B.len_list x;have lx2:=B.len_list x';have ws:=A.ws;have wl:=A.wl;have wsum:=QP (aA c') w k (by lia) (by lia)
 obtain⟨⟨_,s1⟩,⟨_,s2⟩,⟨_,s3⟩,_,s4⟩:=A.A.off;have kb:∀{z:Addr}{o:HO},H z=some o->z≠sv->z∉ [se,ch,mk]->H' z=some o:=λe n1 n2=>b' _ _ e (λhm=>by
  rcases zac.mp hm with z|z
  ·exact n1 z
  ·exact n2 z)
 have FJ:∀{z:Addr}{o:HO},H z=some o->(∀a b c,o≠ .ins a b c)->z≠sv:=λe k z=>by rw[z,s4] at e;cases e;exact k _ _ _ rfl
 have FK:∀{z:Addr}{o:HO},H z=some o->(∀xs,o≠ .lst xs)->z∉ [se,ch,mk]:=λe k hm=>by
  simp only[zac,zah,or_false] at hm
  rcases hm with rfl|rfl|rfl
  ·rw[s1] at e;cases e;exact k _ rfl
  ·rw[s2] at e;cases e;exact k _ rfl
  ·rw[s3] at e;cases e;exact k _ rfl
 have kp:Kp (λz=>z∈ [se,ch,mk]) H H':=⟨λa xs n e=>kb e (FJ e λ_ _ _ z=>by cases z) n,λy us e=>kb e (FJ e λ_ _ _ z=>by cases z) (FK e λ_ z=>by cases z)⟩
 have kd:∀{z:Addr}{kvs:List (Key×V)},H z=some (.dK kvs)->H' z=some (.dK kvs):=λe=>kb e (FJ e λ_ _ _ z=>by cases z) (FK e λ_ z=>by cases z)
 have ki:∀{z c dx:Addr}{f:List (Str×V)},H z=some (.ins c dx f)->z≠sv->H' z=some (.ins c dx f):=λe n=>kb e n (FK e λ_ z=>by cases z)
 have nd:=A.nd;rw[zaF,zab,not_or] at nd;have gs:∀j,(ar.set k<|ar.getD k 0+1).getD j 0=if k=j then ar.getD k 0+1 else ar.getD j 0:=λj=>FF (by lia)
 have agN:∀j y,hs[j]?=some y->bC C CS (λz=>z∈ [se,ch,mk]) H' (tx++[x'.cps.toList]) (tk++[(k,c')]) ((ar.set k<|ar.getD k 0+1).getD j 0) j (d+1) y:=λj y hj=>by
  have Oj:=(A.A.ok j y hj).up (Nat.le_succ d);have ym:y∈hs:=zal hj;obtain⟨vf,vd,hq,_⟩:=Oj.ha.st.ob;obtain⟨kvs,he,_⟩:=Oj.ha.st.he;have hA:=Oj.ha.keep kp (λo e=>by rw[Oj.ha.ob] at e;cases e;exact ki Oj.ha.ob λz=>nd.1.1 (zam.mpr ⟨y,ym,z⟩)) (λo e=>by rw[hq] at e;cases e;exact ki hq λz=>nd.1.2 (zam.mpr ⟨y,ym,z⟩)) (λo e=>by rw[he] at e;cases e;exact kd he)
  have gr:x'.cps.toList.length<=5200/\∀z∈x'.cps.toList,SG.cps.contains z=true:=⟨by lia,QS.2⟩
  have QV:∀n u,y.ea n=some u->y.g.kn<n/\(tk++[(k,c')])[n - 1]?=some (u.1,u.2.2):=λn u e=>by
   obtain⟨e1,e2⟩:=Oj.ea n u e;exact⟨e1,by rw[zay (zad.mp e2).1];exact e2⟩
  rw[gs];by_cases z:k=j
  ·subst z;rw[hg] at hj;cases hj;rw[if_pos rfl];exact⟨hA,Oj.iv.more T' gr λ_=>⟨⟨_,lv,ec⟩,noOwn⟩,agK c',QV,Oj.nb,Oj.tf,Oj.td⟩
  ·rw[if_neg z];exact⟨hA,Oj.iv.more T' gr λy=>absurd y z,Oj.so.more Oj.iv.kn z,QV,Oj.nb,Oj.tf,Oj.td⟩
 have FH:Rm C CS CV H0 H' R sv dx se ch mk hl po x0 x' (ar.set k<|ar.getD k 0+1) (tk++[(k,c')]) (tx++[x'.cps.toList]) hs (d+1) vs ls (w.set k<|w.getD k 0 - aA c'):=by
  refine⟨⟨kd A.A.hR,agF S' λa ha=>.tail _ (zax _ ha),T',by rw[zay (by lia)];exact A.A.t0,?_,λl hl=>?_,kp.l _ _ A.off.1 A.A.hh,agN,ln,by rw[zbh];exact lse,by rw[zqA];show _+1<=_;lia,by lia⟩,kp.l _ _ A.off.2 A.hp,Paired.dw A.pl λ_ _ z=>z.keep kp.t kp.l,λl hl=>?_,by have:=A.nv;lia,λz o e=>?_,A.f0,A.nd,A.ne,A.off,by rw[zbh];exact wl,λj y hj=>?_,by rw[sm];lia,by rw[sm];lia,λe he=>?_⟩
  ·rw[zqA,zaL (by show _<=tk.length+1;lia),show tk.length+[(k,c')].length - tx.length=0 by show tk.length+1 - tx.length=0;lia];rfl
  ·rcases zab.mp hl with h|h
   ·exact A.A.gt l h
   ·rw[zag.mp h];exact⟨by lia,QS.2⟩
  ·have old:=A.lo l hl;cases l with
   |ask h n b c2=>
    obtain⟨y,y1,y2⟩:=old;refine⟨y,y1,?_⟩;rw[gs];have Oy:=A.A.ok h y y1;by_cases z:k=h
    ·subst z;rw[if_pos rfl];exact(c_.eM Oy.so y2).more Oy.iv.kn
    ·rw[if_neg z];exact y2.more Oy.iv.kn
   |again h n=>exact⟨old.1,by rw[zqA];have:=old.2;lia⟩
   |eM h n w c2=>exact⟨old.1,old.2.1,old.2.2.1,by rw[zay (zad.mp old.2.2.2).1];exact old.2.2.2⟩
  ·refine b' _ _ (A.s0 _ _ e) λhm=>?_;have f0:=A.f0
   simp only[zac,zah,or_false] at hm
   rcases hm with rfl|rfl|rfl|rfl
   ·exact aM e (f0 _<|.tail _<|.tail _<|.tail _<|.tail _<|.head _) rfl
   ·exact aM e (f0 _<|.tail _<|.head _) rfl
   ·exact aM e (f0 _<|.tail _<|.tail _<|.head _) rfl
   ·exact aM e (f0 _<|.tail _<|.tail _<|.tail _<|.head _) rfl
  ·rw[gs,FF (by lia)]
   by_cases z:k=j
   ·subst z;rw[hg] at hj;cases hj;rw[if_pos rfl,if_pos rfl,if_neg λy=>by have:=y.2;lia]
    lia
   ·rw[if_neg z,if_neg z];exact A.wp j y hj
  ·rcases zab.mp he with h|h
   ·exact A.m7 e h
   ·rw[zag.mp h];exact kl
 refine q L zs (ao.map toLt) x' _ _ _ _ H' FH hL (FI (λa f=>A.fr f) pz) (λl hl=>?_) ?_
 ·obtain⟨it,hit,rfl⟩:=zam.mp hl;have hm:it.1∈ao.map (·.1):=zam.mpr ⟨it,hit,rfl⟩;rw[e1] at hm;obtain⟨j,hj,ej⟩:=zam.mp hm;have bu:=List.mem_range.mp hj;show hX _ _ _ hs (.eM it.1.1 it.1.2.1 it.1.2.2.1 it.1.2.2.2);rw[<-ej];exact⟨by lia,zbg _,by show k<=7;lia,by show(tk++[(k,c')])[tk.length+1 - 1]?=some (k,c');rw[Nat.add_sub_cancel,zaL<|zqR _,zaK];rfl⟩
 ·have:=Paired.length pz;have e2:=congrArg List.length e1;rw[zaf,zaf,zbd] at e2;lia
def QW(H:Hp)(v:V)(c:List Pt):Prop:= ∃a xs,v=.ref a/\H a=some (.lst xs)/\aG H xs c
def QX(hs bR:List Hd)(ts:List (List Pt))(ws:List V):Lt->Prop
 |.eM k _ _ _=>∀g,hs[k]?=some g->∃g',bR[k]?=some g'/\g'.p=g.p/\my g.g.x.cps.toList ts g'.g.x.cps.toList
 |_=>ws=[]
inductive FL (C CS CV:Addr)(bH:List V)(H:Hp)(Q:VK)(E:XK):Prop|i(H0:Hp)(R sv dx se ch mk hl po:Addr)(x0 x:Str)(ar:List Nat)(tk:List (Nat×List Pt))(tx:List (List Nat))(hs:List Hd)(d:Nat)(vs:List V)(ls:List Lt)(w:List Nat)(v:V)(l:Lt)(_:bH=[.ref R,v])(_:Rm C CS CV H0 H R sv dx se ch mk hl po x0 x ar tk tx hs d vs ls w)(_:d<16)(_:vs.length<=20*d)(_:cT [se,ch,mk] H v l)(_:hX tx tk ar hs l)(_:∀T ws ts cf x' cZ cz c3 bR bH dX w' H',Rm C CS CV H0 H' R sv dx se ch mk hl cf x0 x' cZ cz c3 bR (d+1) bH dX w'->bH.length<=20* (d+1)->H' T=some (.lst ws)->Paired (QW H') ws ts->QX hs bR ts ws l->Q (.ref T) H')
abbrev jF(K:Frag)(C CS CV:Addr)(E:XK):aV:=aN K [] [] [] [("came",CV,bY.rV CV),("came",C,AE C CS)] (E:=E)
theorem Rm.up(A:Rm C CS CV H0 H R sv dx se ch mk hl po x0 x ar tk tx hs d vs ls w)(hd:d<16):Rm C CS CV H0 H R sv dx se ch mk hl po x0 x ar tk tx hs (d+1) vs ls w:=
 ⟨⟨A.A.hR,A.A.sv,A.A.T,A.A.t0,A.A.tl,A.A.gt,A.A.hh,λi h e=>(A.A.ok i h e).up<|Nat.le_succ _,A.A.ln,A.A.ls,Nat.le_succ_of_le A.A.lk,hd⟩,A.hp,A.pl,A.lo,by have:=A.nv;lia,A.s0,A.f0,A.nd,A.ne,A.off,A.wl,A.wp,by have:=A.ws;lia,A.lx,A.m7⟩
theorem agO(bH:List V)(H:Hp)(Q:VK)(E:XK)(hh:FL C CS CV bH H Q E):aE (jF K C CS CV E) vE (Dn Q) (start Mm bH) H:=by
 obtain⟨H0,R,sv,dx,se,ch,mk,hl,po,x0,x,ar,tk,tx,hs,d,vs,ls,w,v,l,rfl,A,hd,nv,lv,lo,q⟩:=hh;have fin:∀{x':Str}{cZ:List Nat}{cz:List (Nat×List Pt)}{c3:List (List Nat)}{bR:List Hd}{w':List Nat}{zs:List V}{dN:List Lt}{H1:Hp}{L:Addr},(∀k n w c,l≠ .eM k n w c)->Rm C CS CV H0 H1 R sv dx se ch mk hl po x0 x' cZ cz c3 bR (d+1) vs ls w'->H1 L=some (.lst zs)->Paired (cT [se,ch,mk] H1) zs dN->(∀l∈dN,hX c3 cz cZ bR l)->zs.length<=16->
   iV (jF K C CS CV E).K .Add (.ref po) (.ref L) H1 λv3 H3=>af (jF K C CS CV E) (.v 0) [some<|.ref R,some v,none] H3 λdv H4=>af (jF K C CS CV E) (.c<|.str "post") [some<|.ref R,some v,none] H4 λkv H5=>∃d6 H6,dv=.ref d6/\kr H5 d6 kv v3 H6/\aE (jF K C CS CV E) [.ret<|.lst []] {(Dn Q) with nx:=aE (jF K C CS CV E) (vE.drop 1) (Dn Q)} [some<|.ref R,some v,none] H6:=by
  intro x' cZ cz c3 bR w' zs dN H1 L nt A1 hL p2 l2 n2;refine Rm.add rfl A1 hL p2 l2 (by rw[zqA];lia) λcf H' _ A2=>?_
  refine bS<|fH<|aO ⟨zqZ _,λT fT=>q T [] [] cf x' cZ cz c3 bR _ _ _ _ (A2.same (sameNew fT)) (by rw[zqA];lia) ay .nil ?_⟩
  cases l with
  |ask=>rfl
  |again=>rfl
  |eM k n w c=>exact absurd rfl (nt k n w c)
 have toSv:∀(t:Addr),v=.ref t->bY.rV CV [.ref sv,.ref t] H (λy H2=>iV (jF K C CS CV E).K .Add (.ref po) y H2 λv3 H3=>af (jF K C CS CV E) (.v 0) [some<|.ref R,some v,none] H3 λdv H4=>af (jF K C CS CV E) (.c<|.str "post") [some<|.ref R,some v,none] H4 λkv H5=>∃d6 H6,dv=.ref d6/\kr H5 d6 kv v3 H6/\aE (jF K C CS CV E) [.ret<|.lst []] {(Dn Q) with nx:=aE (jF K C CS CV E) (vE.drop 1) (Dn Q)} [some<|.ref R,some v,none] H6) E->
   aE (jF K C CS CV E) [.dput (.v 0) (.c<|.str "post")<|.bin .Add (.dc (.v 0)<|.c<|.str "post")<|.aR 0 "came" (.dc (.v 0)<|.c<|.str "server") [.v 1],.ret<|.lst []] {(Dn Q) with nx:=aE (jF K C CS CV E) (vE.drop 1) (Dn Q)} [some<|.ref R,some v,none] H:=by
  intro t e bR;refine uj<|bI<|fK<|ae rfl<|aw ⟨R,_,rfl,nW A.A.hR,i7 CV (bY.rV CV) rfl<|fK<|ae rfl<|aw ⟨R,_,rfl,AU A.A.hR,sv,dx,_,rfl,A.A.sv.ob,bY.hV,ae rfl ?_⟩⟩;rw[e] at bR⊢;exact bR
 cases l with
 |ask k n base c=>
  obtain⟨t,a,xs,rfl,h1,h2,h3,h4⟩:=lv;obtain⟨g,hg,ak⟩:=lo;refine bq<|bo<|bp<|ae rfl<|aw<|bU h1 rfl<|aw<|iN ⟨_,rfl,iT (toSv t rfl ?_) (rfl)⟩;by_cases z:n=ar.getD k 0+1
  ·subst z;exact agH A hd h1 h2 h4 h3 hg ak λL zs dN x' cZ cz c3 w' H' A' hL p2 l2 n2=>fin nofun A' hL p2 l2 n2
  ·exact agG A h1 h2 h4 h3 hg ak z λL H' s' hL=>fin nofun ((A.same s').up hd) hL .nil (λ_ y=>by cases y) (zqZ _)
 |again k n=>
  obtain⟨t,rfl,h1⟩:=lv;refine bq<|bo<|bp<|ae rfl<|aw<|bU h1 rfl<|aw<|iN ⟨_,rfl,iT ?_ (by decide+kernel)⟩
  refine toSv t rfl ?_;exact agE A h1 lo.1 lo.2 λL zs dN H' s' hL p2 l2 n2=>fin nofun ((A.same s').up hd) hL p2 l2 n2
 |eM k n cA c=>
  obtain⟨t,a,xs,rfl,h1,h2,h3,h4⟩:=lv;obtain⟨kl,n1,w7,eQ⟩:=lo;have hk:=zai kl;generalize hs[k]=g at hk;have O:=A.A.ok k g hk;refine bq<|bo<|bp<|ae rfl<|aw<|bU h1 rfl<|aw<|iN ⟨_,rfl,iF (cJ (bD<|i7 C (AE C CS) rfl<|bp<|fK<|ae rfl<|aw ⟨R,_,rfl,uC A.A.hR,bp<|ae rfl<|aw<|bU h1 rfl<|jA A.A.hh (fE (by rw[zan,hk];rfl)) ⟨g.p,g.dp,_,rfl,O.ha.ob,hU,ae rfl ?_⟩⟩)) (rfl)⟩
  refine agA A hd hk h1 n1 w7 h2 h3 eQ λt2 P Tl zs ws dN ts g' H' A' ht hP p2 l2 n2 hT pw ld ep=>uj<|bI<|fK<|ae rfl<|aw ⟨R,_,rfl,nW A'.A.hR,bp<|ae rfl<|aw<|bU ht rfl ?_⟩;refine Rm.add rfl A' hP p2 l2 (by rw[zqA];lia) λcf H2 b2 A2=>?_
  have nR:∀{z:Addr}{o:HO},H' z=some o->(∀kvs,o≠ .dK kvs)->z≠R:=λe y z=>by have:=A'.A.hR;rw[<-z,e] at this;cases this;exact y _ rfl
  have uo:dR H' H2:=λy us e=>b2 _ _ e (nR e λ_ z=>by cases z)
  refine bS<|bp<|ae rfl<|aw<|bU (uo _ _ ht) rfl ?_;refine q Tl ws ts cf _ _ _ _ _ _ _ _ H2 A2 (by rw[zqA];lia) (b2 _ _ hT (nR hT λ_ z=>by cases z)) (Paired.dw pw λv c ⟨a,xs,e1,e2,e3⟩=>⟨a,xs,e1,b2 _ _ e2 (nR e2 λ_ z=>by cases z),e3.mono uo⟩) λg0 QY=>?_
  rw[hk] at QY;cases QY;exact⟨g',by rw[zaC,if_pos rfl,if_pos kl],ep,ld⟩
theorem QZ{QT:Bool->Hp->Prop}(h:σ[i]?=some (some<|.bl b))(q:QT b H):a_ Γ (.v i) σ H QT:=⟨_,h,q⟩
theorem Rm.kinds(A:Rm C CS CV H0 H R sv dx se ch mk hl po x0 x ar tk tx hs d vs ls w):∀a∈R::se::ch::mk::sv::(hs.map (·.p)++hs.map (·.q)),∃o,H a=some o/\∀us,o≠ .tup us:=λa ha=>by
 obtain⟨⟨_,h1⟩,⟨_,h2⟩,⟨_,h3⟩,_,h4⟩:=A.A.off
 simp at ha
 rcases ha with rfl|rfl|rfl|rfl|rfl|⟨g,hg,rfl⟩|⟨g,hg,rfl⟩
 ·exact⟨_,A.A.hR,nofun⟩
 ·exact⟨_,h1,nofun⟩
 ·exact⟨_,h2,nofun⟩
 ·exact⟨_,h3,nofun⟩
 ·exact⟨_,h4,nofun⟩
 ·obtain⟨j,hj⟩:=zbe hg;exact⟨_,(A.A.ok j g hj).ha.ob,nofun⟩
 ·obtain⟨j,hj⟩:=zbe hg;obtain⟨_,_,hq,_⟩:=(A.A.ok j g hj).ha.st.ob;exact⟨_,hq,nofun⟩
theorem Rm.base(A:Rm C CS CV H0 H R sv dx se ch mk hl po x0 x ar tk tx hs d vs ls w):∃H1,Rm C CS CV H1 H R sv dx se ch mk hl po x0 x ar tk tx hs d vs ls w/\aC H0 H1/\∀a o,H a=some o->a∉R::se::ch::mk::sv::(hs.map (·.p)++hs.map (·.q))->H1 a=some o:=by
 generalize hL:R::se::ch::mk::sv::(hs.map (·.p)++hs.map (·.q))=L;refine⟨λa=>if a∈L then none else H a,⟨A.A,A.hp,A.pl,A.lo,A.nv,λz o e=>?_,λa ha=>if_pos<|hL ▸ ha,A.nd,A.ne,A.off,A.wl,A.wp,A.ws,A.lx,A.m7⟩,λz o e=>?_,λa o e n=>(if_neg n).trans e⟩
 ·by_cases y:z∈L
  ·cases (if_pos y).symm.trans e
  ·exact(if_neg y).symm.trans e
 ·exact(if_neg λy=>by rw[A.f0 z<|hL ▸ y] at e;cases e).trans (A.s0 _ _ e)
theorem Rm.Q0(A:Rm C CS CV H0 H R sv dx se ch mk hl po x0 x ar tk tx hs d vs ls w){a:Addr}{us:List V}(e:H a=some (.tup us)):a∉R::se::ch::mk::sv::(hs.map (·.p)++hs.map (·.q)):=λhm=>by
 obtain⟨o,ho,n⟩:=A.kinds a hm;rw[e] at ho;cases ho;exact n _ rfl
theorem Rm.rebase(A:Rm C CS CV H1 H R sv dx se ch mk hl po x0 x ar tk tx hs d vs ls w)(s:aC H0 H1):Rm C CS CV H0 H R sv dx se ch mk hl po x0 x ar tk tx hs d vs ls w:=
 ⟨A.A,A.hp,A.pl,A.lo,A.nv,s.trans A.s0,λa ha=>s.free<|A.f0 a ha,A.nd,A.ne,A.off,A.wl,A.wp,A.ws,A.lx,A.m7⟩
inductive FN (C CS CV:Addr)(bH:List V)(H:Hp)(Q:VK)(E:XK):Prop|i(H0:Hp)(R sv dx se ch mk hl po:Addr)(x0 x:Str)(ar:List Nat)(tk:List (Nat×List Pt))(tx:List (List Nat))(hs:List Hd)(d:Nat)(vs:List V)(ls:List Lt)(w:List Nat)(c:Int)(b:Bool)(_:bH=[.ref R,.int c,.bl b])(_:Rm C CS CV H0 H R sv dx se ch mk hl po x0 x ar tk tx hs d vs ls w)(_:d<16)(_:vs.length<=20*d)(_:vs≠ [])(_:∀cf x' cZ cz c3 bR bH dX w' H',Rm C CS CV H0 H' R sv dx se ch mk hl cf x0 x' cZ cz c3 bR (d+1) bH dX w'->bH.length<=20* (d+1)->Q (.bl true) H')
abbrev lu(K:Frag)(C CS CV:Addr)(E:XK):aV:=aN K [("_law_came",FL C CS CV),("_law_copied",Fw),("_law_fits",rW),("_law_done",rf)] [] [] [("text",C,rL C CS)] (E:=E)
abbrev sH(R:Addr)(c:Int)(b:Bool)(k:Nat)(v:V)(u5 u6:Option V):St:=[some<|.ref R,some<|.int c,some<|.bl b,some<|.int (k:Nat),some v,u5,u6]
theorem Q3{e:RE}{g:Hd}{k:Nat}(he:∀Q2:VK,Q2 (.ref g.p) H->af (lu K C CS CV E) e σ H Q2)(O:bC C CS M H tx tk sn k d g)(q:Q1 (.str g.g.x) H):af (lu K C CS CV E) (.aR 0 "text" e []) σ H Q1:=
 ie C (rL C CS) rfl (he _ ⟨g.p,g.dp,_,rfl,O.ha.ob,hU,_,g.p,g.dp,g.q,g.dq,g.e,k,g.g.x,g.g.kn,g.g.se,g.g.fl,g.g.de,g.ea,rfl,O.ha,q⟩)
theorem Q4{c:Int}{b:Bool}{k:Nat}{l:Lt}{u5 u6:Option V}(A:Rm C CS CV H0 H R sv dx se ch mk hl po x0 x ar tk tx hs d vs ls w)(hd:d<16)(nv:vs.length<=20*d)(lv:cT [se,ch,mk] H v l)(lo:hX tx tk ar hs l)
  (q:∀cf x' cZ cz c3 bR bH dX w' H',Rm C CS CV H0 H' R sv dx se ch mk hl cf x0 x' cZ cz c3 bR (d+1) bH dX w'->bH.length<=20* (d+1)->Q (.bl true) H'):aE (lu K C CS CV E) (zf.drop 3) (Dn Q) (sH R c b k v u5 u6) H:=by
 refine bD<|aw ?_;obtain⟨H1,B,s1,kt⟩:=A.base;have Q5:∀{σ:St}{D:Ends}{r body:List RS},σ[0]?=some (some (.ref R))->σ[4]?=some (some v)->(∀T ws ts cf x' cZ cz c3 bR bH dX w' H',Rm C CS CV H1 H' R sv dx se ch mk hl cf x0 x' cZ cz c3 bR (d+1) bH dX w'->bH.length<=20* (d+1)->H' T=some (.lst ws)->Paired (QW H') ws ts->QX hs bR ts ws l->∃a,V.ref T=.ref a/\(∃xs,aB K H' a xs)/\∃W:Nat->Nat->St->Hp->Prop,(∃m,W 0 m σ H')/\∀j m σ H,W j m σ H->
  ((fD K a).stop j H/\({D with nx:=aE (lu K C CS CV E) r D}:Ends).nx σ H)\/((fD K a).go j H/\∃N:St->Hp->Prop,(∀σ' H',N σ' H'->∃m',m'<m/\W (j+1) m' σ' H')/\∀x H',(fD K a).fM j H x H'->fB 6 x σ H' λσ2 H2=>aE (lu K C CS CV E) body {({D with nx:=aE (lu K C CS CV E) r D}:Ends) with nx:=N,ct:=N,bk:=({D with nx:=aE (lu K C CS CV E) r D}:Ends).nx} σ2 H2))->aE (lu K C CS CV E) (.iA 6 .list [(.call 0 [.v 0,(.call 1 [.v 4])])] body::r) D σ H:=by
  intro σ D r body e0 e4 kk;refine Af<|bN (FL C CS CV) rfl<|aD<|ae e0<|aD<|bN Fw rfl<|aD<|ae e4<|aO ⟨[se,ch,mk],v,l,rfl,lv,A.al,λv' H' s' lv'=>aO ⟨H1,R,sv,dx,se,ch,mk,hl,po,x0,x,ar,tk,tx,hs,d,vs,ls,w,v',l,rfl,B.same s',hd,nv,lv',lo,λT ws ts cf x' cZ cz c3 bR bH dX w' H2 A2 xC hT pT ld=>?_⟩⟩;exact kk T ws ts cf x' cZ cz c3 bR bH dX w' H2 A2 xC hT pT ld
 have other:∀(t:Addr) (us:List V) (wd:Str),v=.ref t->H t=some (.tup (.str wd::us))->(wd=="took")=false->(∀k n w c,l≠ .eM k n w c)->aE (lu K C CS CV E) (zf.drop 4) (Dn Q) (sH R c b k v (some<|.str "") u6) H:=by
  rintro t us wd rfl ht hw nt;have fG:=kt _ _ ht (A.Q0 ht);refine bq<|bo<|bp<|ae rfl<|aw<|bU ht (fE (j:=0) rfl)<|aw<|jy ⟨_,rfl,iF (cJ ?_) hw⟩;refine Q5 rfl rfl λT ws ts cf x' cZ cz c3 bR bH dX w' H2 A2 xC hT pT ld=>?_;have ew:ws=[]:=by
   cases l with
   |eM k n w c=>exact absurd rfl (nt k n w c)
   |ask=>exact ld
   |again=>exact ld
  subst ew;refine⟨T,rfl,⟨_,aB.of hT⟩,iR (K:=K) (a:=T) (xs:=[]) (λ_ σ H3=>σ=sH R c b k (.ref t) (some<|.str "") u6/\H3=H2) ⟨rfl,rfl⟩ (λi σ H3 _ ⟨_,e⟩=>e ▸ aB.of hT) (λi y σ H3 hy=>by simp at hy) ?_⟩
  rintro σ H3 ⟨rfl,rfl⟩;have nk:=A2.s0 _ _ fG;refine bS<|OV<|o8<|bp<|ae rfl<|aw<|bU nk (fE (j:=0) rfl)<|aw<|iN ⟨_,rfl,iT (q _ _ _ _ _ _ _ _ _ _ (A2.rebase s1) xC) (by lia)⟩
 cases l with
 |ask k n base c=>
  obtain⟨t,a,xs,rfl,h1,_⟩:=id lv;exact other t _ _ rfl h1 (by decide+kernel) λ_ _ _ _ z=>by cases z
 |again k n=>
  obtain⟨t,rfl,h1⟩:=id lv;exact other t _ _ rfl h1 (by decide+kernel) λ_ _ _ _ z=>by cases z
 |eM kh n cA cc=>
  obtain⟨t,a,xs,rfl,h1,_⟩:=id lv;have fG:=kt _ _ h1 (A.Q0 h1);have kl:=lo.1;have hk:hs[kh]?=some hs[kh]:=zai kl;generalize hs[kh]=g at hk;have O:=A.A.ok kh g hk;have gp:∀{H':Hp}{cf:Addr}{x':Str}{cZ:List Nat}{cz:List (Nat×List Pt)}{c3:List (List Nat)}{bR:List Hd}{d':Nat}{bH:List V}{dX:List Lt}{w':List Nat}{g':Hd}{σ:St},Rm C CS CV H1 H' R sv dx se ch mk hl cf x0 x' cZ cz c3 bR d' bH dX w'->bR[kh]?=some g'->σ[0]?=some (some<|.ref R)->σ[4]?=some (some<|.ref t)->∀Q2:VK,Q2 (.ref g'.p) H'->af (lu K C CS CV E) (.ix (.dc (.v 0)<|.c<|.str "hands")<|.ix (.v 4)<|.c<|.int 1) σ H' Q2:=λA' vP e0 e4 Q2 q2=>
   bp (fK<|ae e0<|aw ⟨R,_,rfl,uC A'.A.hR,bp<|ae e4<|aw<|bU (A'.s0 _ _ fG) rfl<|jA A'.A.hh (fE (v:=V.ref _) (by rw[zan,vP];rfl)) q2⟩)
  refine bq<|bo<|bp<|ae rfl<|aw<|bU h1 rfl<|aw<|jy ⟨_,rfl,iT ?_ (by decide+kernel)⟩
  refine bD<|Q3 (gp B hk rfl rfl) O ?_;refine Q5 rfl rfl λT ws ts cf x' cZ cz c3 bR bH dX w' H2 A2 xC hT pT ld=>?_;obtain⟨g',Q6,ep,ld⟩:=ld g hk;have O':=A2.A.ok kh g' Q6;refine⟨T,rfl,⟨_,aB.of hT⟩,iR (K:=K) (a:=T) (xs:=ws) (λi σ H3=>H3=H2/\∃(l:List Nat) (u6:Option V),σ=sH R c b k (.ref t) (some<|.str ⟨l.toArray⟩) u6/\(l.length<=15600/\∀z∈l,SG.cps.contains z=true)/\my l (ts.drop i) g'.g.x.cps.toList) ⟨rfl,g.g.x.cps.toList,u6,by rw[uh];rfl,⟨by have:=O.iv.len.1;have:=len_list g.g.x;lia,O.iv.gx⟩,ld⟩ (λi σ H3 _ ⟨e,_⟩=>e ▸ aB.of hT) ?_ ?_⟩
  ·rintro i y σ H3 hy ⟨rfl,l,u6,rfl,gl,xD⟩;obtain⟨cg,Q7,b',bB,rfl,hb,pv⟩:=wy pT hy;have d_:i<ts.length:=(zad.mp Q7).1;have ed:ts.drop i=cg::ts.drop (i+1):=by rw[zaX d_,(zad.mp Q7).2]
   rw[ed] at xD;obtain⟨m,cm,gm,ldm⟩:=xD;have el:(⟨l.toArray⟩:Str).cps.toList=l:=by simp
   have gs:good (⟨l.toArray⟩:Str):=⟨by simp[Str.length];lia,by rw[el];exact gl.2⟩
   have run:Run (⟨l.toArray⟩:Str).cps.toList cg m:=by rw[el];exact cm.run
   have pO:∀p∈cg,qJ p:=λp hp=>qL (cm.ok p hp);refine bq<|eL<|jz rW rfl<|aD<|ae rfl<|aD<|ae rfl<|aO ⟨_,b',bB,cg,m,rfl,gs,hb,pv,pO,run,gg<|iF (cJ ?_) rfl⟩;exact bD<|bN rf rfl<|aD<|ae rfl<|aD<|ae rfl<|aO ⟨_,b',bB,cg,m,rfl,gs,hb,pv,pO,run,by lia,rfl,m,_,rfl,gm,ldm⟩
  ·rintro σ H3 ⟨rfl,l,u6,rfl,gl,xD⟩;rw[zbQ (by have:=Paired.length pT;lia)] at xD
   have el:l=g'.g.x.cps.toList:=xD;subst el;refine bS<|OV<|o8<|bp<|ae rfl<|aw<|bU (A2.s0 _ _ fG) rfl<|aw<|iN ⟨_,rfl,iF ?_ (by decide+kernel)⟩
   refine o8<|ae rfl<|Q3 (gp A2 Q6 rfl rfl) O'<|jy ?_;rw[uh,beq_self_eq_true];exact q _ _ _ _ _ _ _ _ _ _ (A2.rebase s1) xC
theorem agR(bH:List V)(H:Hp)(Q:VK)(E:XK)(hh:FN C CS CV bH H Q E):aE (lu K C CS CV E) zf (Dn Q) (start My bH) H:=by
 obtain⟨H0,R,sv,dx,se,ch,mk,hl,po,x0,x,ar,tk,tx,hs,d,vs,ls,w,c,b,rfl,A,hd,nv,ne,q⟩:=hh;have lv0:=List.length_pos_iff.mpr ne;obtain⟨k,ek⟩:=zaT (zaI c (show((vs.length:Nat):Int)≠0 by lia))
 have lk:=zaJ c (show(0:Int) < ((vs.length:Nat):Int) by lia)
 have kl:k<vs.length:=by lia
 refine bD<|bI<|ae rfl<|i_<|fK<|ae rfl<|aw ⟨R,_,rfl,nW A.A.hR,.inl ⟨_,aB.of A.hp,nJ (by lia) ?_⟩⟩
 rw[ek];have hv:=zai kl;generalize vs[k]=v at hv;obtain⟨l,dP,lv⟩:=wy A.pl hv;have lo:=A.lo l (zal dP);refine bD<|bp<|fK<|ae rfl<|aw ⟨R,_,rfl,nW A.A.hR,ae rfl<|jA A.hp (fE (v:=v) hv) ?_⟩;cases b with
 |true=>
  refine bq<|eL<|QZ rfl<|iF (cJ ?_) rfl;exact Q4 A hd nv lv lo q
 |false=>
  refine bq<|eL<|QZ rfl<|iT ?_ rfl;refine uj<|bI<|OX<|fK<|ae rfl<|aw ⟨R,_,rfl,nW A.A.hR,ae rfl ⟨_,rfl,.inl ⟨_,aB.of A.hp,λL1 f1=>?_⟩⟩⟩;rw[adW];have s1:=sameNew (o:=.lst (vs.take k)) f1;have h1:upd H L1 (.lst<|vs.take k) L1=some (.lst<|vs.take k):=ay;generalize upd H L1 (.lst<|vs.take k)=H1 at s1 h1⊢;have A1:=A.same s1;refine OY<|fK<|ae rfl<|aw ⟨R,_,rfl,nW A1.A.hR,bI<|ae rfl<|aw<|g_ ⟨_,rfl,.inl ⟨_,aB.of A1.hp,λL2 f2=>?_⟩⟩⟩;rw[show((k:Nat):Int)+1=((k+1:Nat):Int) by lia,adX] at*
  have s2:=sameNew (o:=.lst (vs.drop<|k+1)) f2;have h2:upd H1 L2 (.lst<|vs.drop<|k+1) L2=some (.lst<|vs.drop<|k+1):=ay;generalize upd H1 L2 (.lst<|vs.drop<|k+1)=H2 at s2 h2⊢;have A2:=A1.same s2;have lt:=zaB (i:=k) (l:=vs);have ld:=zaz (i:=k+1) (l:=vs);refine Pb (s2 _ _ h1) h2 (by lia) λL3 f3=>?_
  have s3:=sameNew (o:=.lst (vs.take k++vs.drop (k+1))) f3;have h3:upd H2 L3 (.lst<|vs.take k++vs.drop (k+1)) L3=some (.lst<|vs.take k++vs.drop (k+1)):=ay;generalize upd H2 L3 (.lst<|vs.take k++vs.drop (k+1))=H3 at s3 h3⊢;have A3:=A2.same s3;refine ae rfl<|aw ⟨R,_,rfl,kr.k (k:=.inr "post") A3.A.hR<|dg (by simp),?_⟩
  rw[Qo];have A4:=A3.put h3 (Paired.app (OZ k A3.pl) (O0 (k+1) A3.pl)) (λl hl=>A3.lo l (by
   rcases zab.mp hl with h|h
   ·exact zbP h
   ·exact zbu h)) (by rw[zqA];lia) (A2.fr f3)
  have nR:∀{z:Addr}{o:HO},H3 z=some o->(∀kvs,o≠ .dK kvs)->z≠R:=λe y z=>by have:=A3.A.hR;rw[<-z,e] at this;cases this;exact y _ rfl
  exact Q4 A4 hd (by rw[zqA];lia) ((cT.same lv ((s1.trans s2).trans s3)).keep (λy us e=>by rw[az (nR e λ_ z=>by cases z)];exact e) (λa xs _ e=>by rw[az (nR e λ_ z=>by cases z)];exact e)) lo q
end
end L2.fZ
namespace L2.fZ
open PySem PySem.Spec L2.B L2.N PyProof.Rows
section
variable {K:Frag}{C CS CV:Addr}{H H' H0:Hp}{Q:VK}{Γ:aV}{σ:St}{E:XK}{R sv dx se ch mk hl po:Addr}{x0 x:Str}{ar:List Nat}{tk:List (Nat×List Pt)}{tx:List (List Nat)}{hs:List Hd}{d:Nat}{M:MS}{sn i:Nat}{h:Hd}{vs:List V}{ls:List Lt}{w:List Nat}
def AY:Lt->List Pt
 |.ask _ _ _ c=>c
 |.again _ _=>[]
 |.eM _ _ _ c=>c
def jd:Lt->PyData
 |.ask h n b c=>.tuple [.str "ask",.int h,.int n,.int b,.list<|c.map toD]
 |.again h n=>.tuple [.str "again",.int h,.int n]
 |.eM h n w c=>.tuple [.str "took",.int h,.int n,.int w,.list<|c.map toD]
theorem agU:∀{l:Lt},cT N H v l->Is H (jd l) v
 |.ask h n b c,⟨t,a,xs,e,h1,h2,h3,_⟩=>⟨t,_,e,h1,_,_,rfl,rfl,_,_,rfl,rfl,_,_,rfl,rfl,_,_,rfl,rfl,_,_,rfl,⟨a,xs,rfl,h2,DF h3⟩,rfl⟩
 |.again h n,⟨t,e,h1⟩=>⟨t,_,e,h1,_,_,rfl,rfl,_,_,rfl,rfl,_,_,rfl,rfl,rfl⟩
 |.eM h n w c,⟨t,a,xs,e,h1,h2,h3,_⟩=>⟨t,_,e,h1,_,_,rfl,rfl,_,_,rfl,rfl,_,_,rfl,rfl,_,_,rfl,rfl,_,_,rfl,⟨a,xs,rfl,h2,DF h3⟩,rfl⟩
theorem agV(h:∀p∈AY l,jw p):(jd l).canLay0=true/\(jd l).depth<=3:=by
 have xy:∀(wd:Str) (a b e:Int) (c:List Pt),(∀p∈c,jw p)->PyData.strOk wd=true->(PyData.tuple [.str wd,.int a,.int b,.int e,.list<|c.map toD]).canLay0=true/\(PyData.tuple [.str wd,.int a,.int b,.int e,.list<|c.map toD]).depth<=3:=λwd a b e c hc hw=>by
  obtain⟨h1,h2⟩:=Np c hc
  constructor
  ·show(PyData.strOk wd && (true && (true && (true && (PyData.canLayAll0 (c.map toD) && true)))))=true;rw[hw,h1];rfl
  ·show max 0 (max 0<|max 0<|max 0<|max (PyData.depthAll (c.map toD)+1) 0)+1<=3;lia
 cases l with
 |ask a b e c=>exact xy _ _ _ _ c h (by decide+kernel)
 |again a b=>exact⟨by show(PyData.strOk (Str.ofString "again") && (true && (true && true)))=true;decide+kernel,by show max 0 (max 0<|max 0 0)+1<=3;lia⟩
 |eM a b e c=>exact xy _ _ _ _ c h (by decide+kernel)
theorem Q8:∀{vs:List V}{ls:List Lt},Paired (cT N H) vs ls->IsL H (ls.map jd) vs
 |_,_,.nil=>rfl
 |_,_,.cons a r=>⟨_,_,rfl,agU a,Q8 r⟩
theorem Q9:∀(ls:List Lt),(∀l∈ls,∀p∈AY l,jw p)->PyData.canLayAll0 (ls.map jd)=true/\PyData.depthAll (ls.map jd)<=3
 |[],_=>⟨rfl,zqZ _⟩
 |l::r,h=>by
  obtain⟨a,b⟩:=agV (h l<|.head _);obtain⟨c,e⟩:=Q9 r λq hq=>h q (.tail _ hq);refine⟨?_,?_⟩
  ·show((jd l).canLay0 && PyData.canLayAll0 (r.map jd))=true;rw[a,c];rfl
  ·show max (jd l).depth (PyData.depthAll<|r.map jd)<=3;lia
theorem agW{a b:Addr}(ha:H a=some (.lst vs))(pl:Paired (cT N H) vs ls)(ok:∀l∈ls,∀p∈AY l,jw p)(hb:H b=some (.lst []))(q:Q (.bl<|decide<|vs=[]) H):cN K .Eq (.ref a) (.ref b) H Q:=by
 obtain⟨c,e⟩:=Q9 ls ok;refine⟨.list<|ls.map jd,.list [],⟨a,vs,rfl,ha,Q8 pl⟩,⟨b,[],rfl,hb,rfl⟩,?_,rfl,?_⟩
 ·unfold SeqAt.shaped;have e1:(PyData.list<|ls.map jd).canLay0=true:=c;have e2:(PyData.list<|ls.map jd).depth<=64:=by show PyData.depthAll (ls.map jd)+1<=64;lia
  rw[e1,zqT e2];rfl
 ·cases pl with
  |nil=>exact q
  |cons=>exact q
theorem Rm.jw(A:Rm C CS CV H0 H R sv dx se ch mk hl po x0 x ar tk tx hs d vs ls w):∀l∈ls,∀p∈AY l,jw p:=λl hl p hp=>by
 have lo:=A.lo l hl;cases l with
 |ask a n b c=>
  obtain⟨hd,_,ak⟩:=lo;obtain⟨l,r,_,h2⟩:=ak.cg;exact Nq<|h2.ok p hp
 |again a n=>cases hp
 |eM a n b c=>
  have lT:=A.A.T.len;have hk:=(zad.mp lo.2.2.2).1;exact Nq<|(A.A.T.chg (n - 1) b c _ _ lo.2.2.2 (zai (by lia))<|zai (by lia)).1.ok p hp
inductive FO (C CS CV:Addr)(bH:List V)(H:Hp)(Q:VK)(E:XK):Prop|i(H0:Hp)(R sv dx se ch mk hl po:Addr)(x0 x:Str)(ar:List Nat)(tk:List (Nat×List Pt))(tx:List (List Nat))(hs:List Hd)(d:Nat)(vs:List V)(ls:List Lt)(w:List Nat)(c:Int)(_:bH=[.ref R,.int c])(_:Rm C CS CV H0 H R sv dx se ch mk hl po x0 x ar tk tx hs d vs ls w)(_:d<16)(_:vs.length<=20*d)(_:∀cf x' cZ cz c3 bR bH dX w' H',Rm C CS CV H0 H' R sv dx se ch mk hl cf x0 x' cZ cz c3 bR (d+1) bH dX w'->bH.length<=20* (d+1)->Q (.bl true) H')
abbrev FP(K:Frag)(C CS CV:Addr)(E:XK):aV:=aN K [("_law_change",Ez),("_law_handed",FN C CS CV)] [] [] [("nudge",C,Aq C CS),("do",C,Aw C CS),("text",C,rL C CS)] (E:=E)
theorem agX(bH:List V)(H:Hp)(Q:VK)(E:XK)(hh:FO C CS CV bH H Q E):aE (FP K C CS CV E) MB (Dn Q) (start MA bH) H:=by
 obtain⟨H0,R,sv,dx,se,ch,mk,hl,po,x0,x,ar,tk,tx,hs,d,vs,ls,w,c,rfl,A,hd,nv,q⟩:=hh;have ln:=A.A.ln;obtain⟨k,ek⟩:=zaT (zaI (c / 8) (show((hs.length:Nat):Int)≠0 by lia))
 have lk:=zaJ (c / 8) (show(0:Int) < ((hs.length:Nat):Int) by lia)
 have kl:k<hs.length:=by lia
 have hk:=zai kl;generalize hs[k]=g at hk;have O:=A.A.ok k g hk;refine bD<|bI<|ae rfl<|aw<|nJ (by decide) ?_
 refine bD<|bp<|fK<|ae rfl<|aw ⟨R,_,rfl,uC A.A.hR,bI<|bI<|ae rfl<|aw<|rD ⟨by decide,by decide⟩<|i_<|fK<|ae rfl<|aw ⟨R,_,rfl,uC A.A.hR,.inl ⟨_,aB.of A.A.hh,?_⟩⟩⟩
 rw[zaf];refine nJ (by lia) ?_
 rw[ek];refine jA A.A.hh (fE (by rw[zan,hk];rfl)) ?_
 refine bD<|bI<|ae rfl<|aw<|rD ⟨by decide,by decide⟩ ?_
 have Q_:∀{u2:Option V}{m:Int}{H1:Hp}{D:Ends},aC H H1->(∀cf x' cZ cz c3 bR bH dX w' H',Rm C CS CV H0 H' R sv dx se ch mk hl cf x0 x' cZ cz c3 bR (d+1) bH dX w'->bH.length<=20* (d+1)->D.nx [some<|.ref R,some<|.int c,u2,some<|.ref g.p,some<|.int m] H')->aE (FP K C CS CV E) [.dput (.v 0) (.c<|.str "post")<|.bin .Add (.dc (.v 0)<|.c<|.str "post")<|.aR 1 "do" (.v 3) [(.call 0 [(.bin .FloorDiv (.v 4)<|.c<|.int 9),(.aR 2 "text" (.v 3) []),(.bin .Mod (.v 4)<|.c<|.int 9)])]] D [some<|.ref R,some<|.int c,u2,some<|.ref g.p,some<|.int m] H1:=by
  intro u2 m H1 D s1 kk;have A1:=A.same s1;have O1:=A1.A.ok k g hk;have xl:=O1.iv.len;refine uj<|bI<|fK<|ae rfl<|aw ⟨R,_,rfl,nW A1.A.hR,i7 C (Aw C CS) rfl<|ae rfl ⟨g.p,g.dp,_,rfl,O1.ha.ob,hU,bN Ez rfl<|aD<|bI<|ae rfl<|aw<|rD ⟨by decide,by decide⟩<|aD<|ie C (rL C CS) rfl<|ae rfl ⟨g.p,g.dp,_,rfl,O1.ha.ob,hU,_,g.p,g.dp,g.q,g.dq,g.e,k,g.g.x,g.g.kn,g.g.se,g.g.fl,g.g.de,g.ea,rfl,O1.ha,aD<|bI<|ae rfl<|aw<|nJ (by decide)<|aO ⟨_,g.g.x,_,rfl,xl.2,?_,zaI _ (by decide),?_,λb H2 ys ps r s2 fb hb pv ok chn _ tt run=>?_⟩⟩⟩⟩
  rotate_left 2
  ·have m9:(m % 9).toNat<=8:=by lia
   refine agw (A1.same s2) hd hk hb pv ⟨ok,chn,run⟩ (by lia) λL gJ dN h' w' H' A' hL p2 l2 n2=>?_
   exact Rm.add rfl A' hL p2 l2 (by rw[zqA];lia) λcf H3 _ A3=>kk _ _ _ _ _ _ _ _ _ _ A3 (by rw[zqA];lia)
  ·lia
  ·lia
 have fin:∀cf x' cZ cz c3 bR bH dX w' H',Rm C CS CV H0 H' R sv dx se ch mk hl cf x0 x' cZ cz c3 bR (d+1) bH dX w'->bH.length<=20* (d+1)->aE (FP K C CS CV E) [.ret<|.c<|.bl true] (Dn Q) [some<|.ref R,some<|.int c,some<|.int<|c % 8,some<|.ref g.p,some<|.int<|c / 64] H':=λcf x' cZ cz c3 bR bH dX w' H' A' n'=>bS (aw<|q _ _ _ _ _ _ _ _ _ _ A' n');refine bq<|bo<|ae rfl<|aw<|iP ⟨_,rfl,fV (λ_=>?_)<|λ_=>?_⟩
 ·exact uj (bI<|fK<|ae rfl<|aw ⟨R,_,rfl,nW A.A.hR,ie C (Aq C CS) rfl<|ae rfl ⟨g.p,g.dp,_,rfl,O.ha.ob,hU,agk A hk λL gJ dN H' s' hL p2 l2 n2=>Rm.add rfl ((A.same s').up hd) hL p2 l2 (by rw[zqA];lia) λcf H3 _ A3=>fin _ _ _ _ _ _ _ _ _ _ A3 (by rw[zqA];lia)⟩⟩)
 ·refine bq (Aa<|bo<|ae rfl<|aw<|N.ltI ⟨_,rfl,fV (λ_=>?_)<|λ_=>?_⟩)
  ·exact iT (Q_ (aC.refl _) fin) rfl
  refine bo<|fK<|ae rfl<|aw ⟨R,_,rfl,nW A.A.hR,fH<|aO ⟨zqZ _,λL fL=>?_⟩⟩;have s1:=sameNew (o:=.lst []) fL;have h1:upd H L (.lst []) L=some (.lst []):=ay;have A1:=A.same s1;refine agW A1.hp A1.pl A1.jw h1 ⟨_,rfl,fV (λ_=>?_)<|λz=>?_⟩
  ·exact Q_ s1 fin
  have z':vs≠ []:=λy=>z (zqT y);refine bS<|bN (FN C CS CV) rfl<|aD<|ae rfl<|aD<|bI<|ae rfl<|aw<|rD ⟨by decide,by decide⟩<|aD<|o8<|ae rfl<|aw<|iP ?_
  exact aO ⟨H0,R,sv,dx,se,ch,mk,hl,po,x0,x,ar,tk,tx,hs,d,vs,ls,w,_,_,rfl,A1,hd,nv,z',q⟩
end
end L2.fZ
namespace L2.fZ
open PySem PySem.Spec L2.B L2.N
section
variable {K:Frag}{C CS CV:Addr}{H H' H0:Hp}{Q:VK}{Γ:aV}{σ:St}{E:XK}{x:Str}{hs:List Hd}{M:MS}
theorem agZ{a b:Nat}(h:(A++B).Nodup)(ha:a∉A++B)(hb:b∉A++B)(n:a≠b):((A++[a])++(B++[b])).Nodup:=by
 have p:((A++[a])++(B++[b])).Perm (a::b::(A++B)):=by
  rw[<-zaj];refine (List.perm_append_singleton b _).trans ((List.Perm.cons b ?_).trans<|List.Perm.swap a b _);rw[zaj];exact List.perm_middle
 refine p.symm.nodup<|zaF.mpr ⟨λz=>?_,zaF.mpr ⟨hb,h⟩⟩;rcases zac.mp z with z|z
 ·exact n z
 ·exact ha z
abbrev ea0:bJ:=⟨λ_=>none,0⟩
structure uE (C CS:Addr) (Hb H:Hp) (x:Str) (hs:List Hd):Prop where
 ok:∀(i:Nat) h,hs[i]?=some h->dG (λ_=>False) C CS H h.p h.dp h.q h.dq h.e i x 0 0 none none ea0/\h.g=⟨x,0,0,none,none⟩/\h.ea=ea0
 fr:∀h∈hs,Hb h.p=none/\Hb h.q=none
 nd:(hs.map (·.p)++hs.map (·.q)).Nodup
theorem uE.oc(A:uE C CS Hb H x hs):∀a∈hs.map (·.p)++hs.map (·.q),∃o,H a=some o:=λa ha=>by
 rcases zab.mp ha with h|h<;>obtain⟨g,hg,rfl⟩:=zam.mp h<;>obtain⟨j,hj⟩:=zbe hg
 ·exact⟨_,(A.ok j g hj).1.ob⟩
 ·obtain⟨_,_,hq,_⟩:=(A.ok j g hj).1.st.ob;exact⟨_,hq⟩
theorem uE.same(A:uE C CS Hb H x hs)(s:aC H H'):uE C CS Hb H' x hs:=⟨λi h e=>⟨(A.ok i h e).1.same s,(A.ok i h e).2⟩,A.fr,A.nd⟩
theorem ag0{own:Nat}(S:dG (λ_=>False) C CS H p dp q dq e own x 0 0 none none ea0):dG M C CS H p dp q dq e own x 0 0 none none ea0:=by
 obtain⟨vf,vd,h1,h2,h3⟩:=S.st.ob;obtain⟨kvs,k1,k3,k2⟩:=S.st.he;exact⟨S.ob,⟨vf,vd,h1,h2,h3⟩,⟨kvs,k1,k3,k2⟩,S.st.nd⟩
inductive FQ (K:Frag)(C CS CV:Addr)(vs:List V)(H:Hp)(Q:VK)(E:XK):Prop|i(sc:Addr)(ns:List Int)(_:vs=[.ref sc])(_:aB K H sc (ns.map V.int))(_:∀R sv dx se ch mk hl po x ar tx hs w H',Rm C CS CV H H' R sv dx se ch mk hl po x x ar [] tx hs 0 [] [] w->Q (.ref R) H')
abbrev GRm(K:Frag)(C CS CV:Addr)(E:XK):aV:=aN K [("_law_cell_at",vF K),("_law_text",zl)] [] [] [] [("Hand",C,ER C CS),("Server",CV,bY.Fd CV)] (E:=E)
theorem ag2:jT [] (oR sv hl po x)=oR sv hl po x:=rfl
theorem ag3(h:∀p,H p=none->bw Γ as σ (upd H p<|.dK []) λvs H2=>H2 p=some (.dK [])/\∃kvs:List (Key×V),vs=qF kvs/\kvs.length<=15/\Q (.ref p) (upd H2 p<|.dK<|jT [] kvs)):af Γ (.xt tm as) σ H Q:=h
theorem ag4(vs:List V)(H:Hp)(Q:VK)(E:XK)(hh:FQ K C CS CV vs H Q E):aE (GRm K C CS CV E) Mj (Dn Q) (start Mi vs) H:=by
 obtain⟨sc,ns,rfl,ha,q⟩:=hh;have m0:=zaI (cell ns (0:Int).toNat) (show(25:Int)≠0 by decide)
 refine bD<|bI<|bN (vF K) rfl<|aD<|ae rfl<|aD<|aw<|aO ⟨sc,ns,_,rfl,ha,by decide,aw<|nJ (by decide) ?_⟩
 refine bD<|bN zl rfl<|aD<|bN (vF K) rfl<|aD<|ae rfl<|aD<|aw<|aO ⟨sc,ns,_,rfl,ha,by decide,aD<|ae rfl<|aO ⟨_,_,rfl,m0,by lia,λx H1 gx lx s1=>?_⟩⟩
 have x24:x.length<=24:=by lia
 refine bD<|bI<|aw<|bI<|bN (vF K) rfl<|aD<|ae rfl<|aD<|aw<|aO ⟨sc,ns,_,rfl,s1.seq ha,by decide,aw<|nJ (by decide)<|g_ ?_⟩
 obtain⟨hn,ehn⟩:∃hn:Nat,1+cell ns (2:Int).toNat % 4=((hn:Nat):Int):=zaT (by lia)
 have fg:1<=hn:=by lia
 have hn4:hn<=4:=by lia
 rw[ehn];refine FC<|bY.afF<|ae rfl ⟨_,rfl,by lia,by lia,?_⟩
 rw[zaD];refine Ab (by lia) (λi ys H2=>∃hs:List Hd,hs.length=i/\ys=hs.map (λh=>V.ref h.p)/\uE C CS H1 H2 x hs) ⟨[],rfl,rfl,λi h e=>by simp at e,λh hm=>(by cases hm),.nil⟩ ?_ ?_
 ·rintro i ys H2 hi s2 ⟨hs,li,rfl,A⟩ Q' kk;rw[Int.zero_add];refine OQ C (ER C CS) rfl<|ae rfl<|ae rfl λp dp fp fdp ia=>⟨p,dp,i,x,rfl,ay,by lia,gx,λqa dq e H3 fq fe nqe b3 S3=>⟨rfl,?_⟩⟩
  have fr:∀{z:Addr},upd (upd H2 dp<|.own p) p (.ins C dp []) z=none->H2 z=none/\p≠z:=λ{z} hz=>by
   have n1:z≠p:=λy=>by rw[y,ay] at hz;cases hz
   have n2:z≠dp:=λy=>by rw[y,az ia,ay] at hz;cases hz
   rw[az n1,az n2] at hz;exact⟨hz,n1.symm⟩
  have s3:aC H2 H3:=λz o ez=>b3 _ _ (by rw[az<|aM ez fp,az<|aM ez fdp];exact ez) (aM ez fp)
  have A3:=A.same s3;obtain⟨fq,dC⟩:=fr fq;have AZ:∀{z:Addr},H2 z=none->z∉hs.map (·.p)++hs.map (·.q):=λf hm=>by obtain⟨o,ho⟩:=A.oc _ hm;rw[f] at ho;cases ho
  refine kk _ _ s3 ⟨hs++[⟨p,dp,qa,dq,e,⟨x,0,0,none,none⟩,ea0⟩],by rw[zqA,li];rfl,by rw[zar];rfl,λj h hj=>?_,λh hm=>?_,?_⟩
  ·by_cases y:j<hs.length
   ·rw[zay y] at hj;exact A3.ok j h hj
   ·have yl:=(zad.mp hj).1;rw[zqA] at yl;have yl:j<hs.length+1:=yl;have ej:j=hs.length:=by lia
    subst ej;rw[zaL<|zqR _,zaK] at hj;cases hj;exact⟨by rw[li];exact S3,rfl,rfl⟩
  ·rcases zab.mp hm with h'|h'
   ·exact A.fr h h'
   ·rw[zag.mp h'];exact⟨s2.free fp,s2.free fq⟩
  ·rw[zar,zar];exact agZ A.nd (AZ fp) (AZ fq) dC
 rintro ys H2 hl s2 ⟨hs,lh,rfl,A⟩ fl;have s3:=sameNew (o:=.lst (hs.map λh=>V.ref h.p)) fl;have FR:upd H2 hl (.lst<|hs.map λh=>V.ref h.p) hl=some (.lst<|hs.map λh=>V.ref h.p):=ay;have A3:=A.same s3;have kW:=s2.trans s3;generalize upd H2 hl (.lst<|hs.map λh=>V.ref h.p)=H3 at s3 FR A3 kW⊢;refine bS<|ag3 λR fR=>?_;have s4:=sameNew (o:=.dK []) fR;have A0:upd H3 R (.dK []) R=some (.dK []):=ay;generalize upd H3 R (.dK [])=H4 at s4 A0⊢;refine aD<|aw<|aD<|OQ CV (bY.Fd CV) rfl<|ae rfl<|ae rfl λsv dx xE fdx ia=>⟨sv,dx,x,hn,rfl,ay,gx,fg,by lia,λse ch mk H5 mz j9 jE S5 b5=>⟨rfl,?_⟩⟩
 have fr:∀{z:Addr},upd (upd H4 dx<|.own sv) sv (.ins CV dx []) z=none->H4 z=none:=λ{z} hz=>by
  have n1:z≠sv:=λy=>by rw[y,ay] at hz;cases hz
  have n2:z≠dx:=λy=>by rw[y,az ia,ay] at hz;cases hz
  rw[az n1,az n2] at hz;exact hz
 have s5:aC H4 H5:=λz o ez=>b5 _ _ (by rw[az<|aM ez xE,az<|aM ez fdx];exact ez) (aM ez xE)
 have mz:=fr mz;have j9:=fr j9;have jE:=fr jE;refine aD<|aw<|aD<|ae rfl<|aD<|aw<|aD<|fH<|aO ⟨zqZ _,λpo pU=>?_⟩;have s6:=sameNew (o:=.lst []) pU;have Ra:upd H5 po (.lst []) po=some (.lst []):=ay;generalize upd H5 po (.lst [])=H6 at s6 Ra⊢;refine aD<|aw<|aD<|ae rfl<|aO ⟨s6 _ _<|s5 _ _ A0,oR sv hl po x,rfl,(by show 4<=15;decide),?_⟩
 rw[ag2];have lg:=s5.trans s6;have b7:aW R H6 (upd H6 R<|.dK<|oR sv hl po x):=aW.upd;have Rb:upd H6 R (.dK<|oR sv hl po x) R=some (.dK<|oR sv hl po x):=ay;generalize upd H6 R (.dK<|oR sv hl po x)=H7 at b7 Rb⊢;have FT:aC H3 H7:=λz o e=>b7 _ _ (lg _ _<|s4 _ _ e) (aM e fR);have A9:∀{z:Addr}{o:HO},H5 z=some o->z≠R->H7 z=some o:=λe n=>b7 _ _ (s6 _ _ e) n;have A7:=A3.same FT;have nR:∀{z:Addr},H4 z=none->z≠R:=λf y=>by rw[y,A0] at f;cases f
 obtain⟨cG,bZ,xv⟩:=S5.bZ;have ecv:cG=[]:=by cases xv;rfl
 subst ecv;have S7:bY.dH [se,ch,mk] CV H7 sv dx se ch mk x (List.replicate hn 0) []:=⟨A9 S5.ob<|nR xE,A9 S5.fo<|nR mz,⟨[],A9 bZ<|nR j9,.nil⟩,A9 S5.ju<|nR jE,S5.nd,S5.mm⟩;have s17:aC H H7:=(s1.trans kW).trans FT;have AZ:∀{z:Addr},H3 z=none->z∉hs.map (·.p)++hs.map (·.q):=λf hm=>by obtain⟨o,ho⟩:=A3.oc _ hm;rw[f] at ho;cases ho
 have npo:po≠R:=λy=>by have:=s5 _ _ A0;rw[<-y,pU] at this;cases this
 have el:x.cps.toList.length=x.length:=(B.len_list x).symm;have z0:∀j,(List.replicate hn 0).getD j 0=0:=λj=>by
  rw[zaN,List.getElem?_replicate];split<;>rfl
 have fI:aC H H3:=s1.trans kW;refine q R sv dx se ch mk hl po x (List.replicate hn 0) [x.cps.toList] hs (List.replicate hn 0) H7 ⟨⟨Rb,S7,⟨rfl,λi h ps l r e=>by simp at e⟩,rfl,rfl,λl hm=>?_,FT _ _ FR,λi h e=>?_,by lia,by rw[zby,lh],zqR _,by decide⟩,b7 _ _ Ra npo,.nil,λl hm=>(by cases hm),zqR _,s17,λa hm=>?_,zaF.mpr ⟨AZ<|s4.free xE,A3.nd⟩,λh hm=>?_,⟨λhm=>?_,λhm=>?_⟩,by rw[zby,lh],λi h e=>?_,?_,by show x.length<=24+0;lia,λe hm=>(by cases hm)⟩
 ·rw[zag.mp hm];exact⟨by lia,gx.2⟩
 ·obtain⟨a1,a2,a3⟩:=A7.ok i h e;obtain⟨hp,hdp,hq,hdq,he,hg,iX⟩:=h;have a2:hg=_:=a2;have a3:iX=_:=a3;subst a2 a3;refine⟨ag0 a1,⟨⟨rfl,λi h ps l r e=>by simp at e⟩,λl hm=>?_,zqR _,λ_=>rfl,⟨_,_,rfl,rfl,rfl⟩,zqZ _,zqZ _,gx.2,λj ps hj=>by simp at hj⟩,.inl ⟨z0 i,rfl,λj e hj=>by simp at hj⟩,λn u z=>(by cases z),zqR _,zqZ _,zqZ _⟩
  rw[zag.mp hm];exact⟨by lia,gx.2⟩
 ·simp only[zac] at hm
  have f4:=fI.trans s4;rcases hm with rfl|rfl|rfl|rfl|rfl|hm
  ·exact fI.free fR
  ·exact f4.free mz
  ·exact f4.free j9
  ·exact f4.free jE
  ·exact f4.free xE
  ·rcases zab.mp hm with h|h<;>obtain⟨g,hg,rfl⟩:=zam.mp h
   ·exact s1.free (A.fr g hg).1
   ·exact s1.free (A.fr g hg).2
 ·obtain⟨j,hj⟩:=zbe hm;obtain⟨kvs,k1,_⟩:=(A3.ok j h hj).1.st.he;exact aM k1 fR
 ·have uF:=s4 _ _ FR
  simp only[zac,zah,or_false] at hm
  rcases hm with rfl|rfl|rfl
  ·rw[mz] at uF;cases uF
  ·rw[j9] at uF;cases uF
  ·rw[jE] at uF;cases uF
 ·simp only[zac,zah,or_false] at hm
  rcases hm with rfl|rfl|rfl
  ·rw[S5.fo] at pU;cases pU
  ·rw[bZ] at pU;cases pU
  ·rw[S5.ju] at pU;cases pU
 ·obtain⟨_,a2,_⟩:=A7.ok i h e;rw[a2];exact zqZ _
 ·rw[List.sum_replicate_nat];exact zqR _
end
section
variable {K:Frag}{C CS CV:Addr}{H H' H0:Hp}{Q:VK}{Γ:aV}{σ:St}{E:XK}
theorem aha(ns:List Int)(lo hi:Int):∃ms:List Int,gw (ns.map V.int) (some lo) (some hi)=ms.map V.int/\(0<=lo->lo<=hi->ms.length<= (hi - lo).toNat):=by
 refine⟨(ns.drop<|HT.bh ns.length 0<|some lo).take<|HT.bh ns.length ns.length (some hi) - HT.bh ns.length 0 (some lo),?_,λh0 h1=>?_⟩
 ·unfold gw;rw[zaf,<-List.map_drop,<-List.map_take]
 ·obtain⟨l,rfl⟩:=zaT h0;obtain⟨h,rfl⟩:=zaT (Int.le_trans h0 h1);rw[zaB,HT.mK,HT.mK];lia
inductive A_ (K:Frag)(vs:List V)(H:Hp)(Q:VK)(E:XK):Prop|i(a:Addr)(ns:List Int)(_:vs=[.ref a])(_:aB K H a (ns.map V.int))(_:∀H',Q (.bl true) H')
abbrev Rc(K:Frag)(C CS CV:Addr)(E:XK):aV:=aN K [("_law_room",FQ K C CS CV),("_law_deed",FO C CS CV),("_law_stands",AV C CS CV)] [] (E:=E)
theorem ahb(vs:List V)(H:Hp)(Q:VK)(E:XK)(hh:A_ K vs H Q E):aE (Rc K C CS CV E) ME (Dn Q) (start MD vs) H:=by
 obtain⟨sc,ns,rfl,ha,q⟩:=hh;refine bD<|bN (FQ K C CS CV) rfl<|aD<|ae rfl<|aO ⟨sc,ns,rfl,ha,λR sv dx se ch mk hl po x ar tx hs w H1 A=>?_⟩;obtain⟨ms,ems,Rf⟩:=aha ns 3 19
 refine Af<|OT<|ae rfl<|aw ⟨_,rfl,aw ⟨_,rfl,.inl ⟨_,A.s0.seq ha,λL fL=>?_⟩⟩⟩;have s2:=sameNew (o:=.lst (gw (ns.map V.int) (some 3)<|some 19)) fL;rw[ems] at s2⊢;have hL:upd H1 L (.lst<|ms.map V.int) L=some (.lst<|ms.map V.int):=ay;have nL:L∉R::se::ch::mk::sv::(hs.map (·.p)++hs.map (·.q)):=λhm=>by obtain⟨o,ho,_⟩:=A.kinds L hm;rw[fL] at ho;cases ho
 obtain⟨H3,B,_,kb⟩:=(A.same s2).base;refine⟨L,rfl,⟨_,aB.of hL⟩,iR (λi σ H7=>i<=ms.length/\∃(u2:Option V) (po:Addr) (x':Str) (ar:List Nat) (tk:List (Nat×List Pt)) (tx:List (List Nat)) (hs:List Hd) (vs:List V) (ls:List Lt) (w:List Nat),σ=[some (.ref sc),some (.ref R),u2]/\Rm C CS CV H3 H7 R sv dx se ch mk hl po x x' ar tk tx hs i vs ls w/\vs.length<=20*i)
  ⟨zqZ _,none,po,x,ar,[],tx,hs,[],[],w,rfl,B,zqR _⟩ (λi σ H7 _ ⟨_,_,_,_,_,_,_,_,_,_,_,_,A',_⟩=>aB.of (A'.s0 _ _ (kb _ _ hL nL))) ?_ ?_⟩
 ·rintro i v σ H7 hv ⟨_,u2,po,x',ar,tk,tx,hs,vs,ls,w,rfl,A',nv⟩;have hi:=by
   have:=(zad.mp hv).1;rw[zaf] at this;exact this
  rw[zan,zai hi] at hv;cases hv;refine bq<|Aa<|eL<|jz (FO C CS CV) rfl<|aD<|ae rfl<|aD<|ae rfl<|aO ⟨H3,R,sv,dx,se,ch,mk,hl,po,x,x',ar,tk,tx,hs,i,vs,ls,w,_,rfl,A',by lia,nv,λcf x2 cZ cz c3 bR bH dX w' H8 A8 nv8=>gg<|iF ?_ rfl⟩
  exact eL<|jz (AV C CS CV) rfl<|aD<|ae rfl<|aD<|bI<|ae rfl<|aw<|rD ⟨by lia,by lia⟩<|aO ⟨R,sv,dx,se,ch,mk,hl,cf,x,x2,cZ,cz,c3,bR,i+1,_,rfl,A8.A,λH9 s9=>gg<|iF (cJ ⟨hi,_,cf,x2,cZ,cz,c3,bR,bH,dX,w',rfl,A8.same s9,nv8⟩) rfl⟩
 ·rintro σ H7 ⟨_,u2,po,x',ar,tk,tx,hs,vs,ls,w,rfl,A',nv⟩;exact bS<|bN (AV C CS CV) rfl<|aD<|ae rfl<|aD<|aw<|aO ⟨R,sv,dx,se,ch,mk,hl,po,x,x',ar,tk,tx,hs,_,_,rfl,A'.A,λH9 _=>q H9⟩
end
end L2.fZ
namespace L2
open PySem.W (Frag nsIn findIn isFn keepIn codeIn fnOf mg_of mg_none_of)
def jf(st:Stmt):List Str:=(jj st).args.map (·.arg)
structure Top (P:Program) (w:World) (K:Frag) (mg:Str->Option Value) (base:Heap):Prop where
 X:K.In base
 G:base.Ns mainGlobals mg
def bW(K:Frag)(x:Str)(st:Stmt):Prop:= ∃f fd,nsIn K mainGlobals x=some (some<|.ref f)/\qj K x x st f fd
def dn(K:Frag)(C:Addr)(x q:Str)(st:Stmt):Prop:= ∃f fd,findIn K (.ref C) x=some (some<|.ref f)/\isFn K (.ref f)=true/\qj K x q st f fd
structure uG (K:Frag) (x:Str) (C:Addr):Prop where
 g:nsIn K mainGlobals x=some (some<|.ref C)
 m:makesIn K C=true
 k:keepIn K (.ref C)=true
structure j_ (K:Frag) (p:Str×V):Prop where
 ex:∃u,nsIn K mainGlobals p.1=some (some u)/\RelV p.2 u
structure pV (K:Frag) (p:Str×Addr):Prop where
 g:nsIn K mainGlobals p.1=some (some<|.ref p.2)
 x:PySem.W.excIn K p.2 [.type "ValueError",.type "Exception",.type "BaseException",.type "object"] "ValueError.__new__"=true
section
variable {P:Program}{w:World}{K:Frag}{mg:Str->Option Value}{base:Heap}{x q:Str}{st:Stmt}{f C:Addr}{fd:FuncData}{k:Nat}{sp:Sp}
theorem dfk{ji:Array (Option Value)}{kV doc pm bL ct:Value}(a:nsIn K mainGlobals x=some (some<|.ref f))(l:K.lookup f=some ⟨oc,od,.func<|fnOf x x (jj st) (gQ st) (gz st) .none kV doc pm an bL ct,ji⟩)
  (c:codeIn K bL x=true) (k:keepIn K (.ref f)=true):bW K x st:=⟨f,_,a,Hx l c k⟩
theorem dmk{ji:Array (Option Value)}{kV doc pm bL ct:Value}(a:findIn K (.ref C) x=some (some<|.ref f))(i:isFn K (.ref f)=true)(l:K.lookup f=some ⟨oc,od,.func<|fnOf x q (jj st) (gQ st) (gz st) .none kV doc pm an bL ct,ji⟩)
  (c:codeIn K bL q=true) (k:keepIn K (.ref f)=true):dn K C x q st:=⟨f,_,a,i,Hx l c k⟩
theorem ahg(h:nsIn K mainGlobals x=some (some<|.str y t)):j_ K (x,.str y):=⟨_,h,⟨_,rfl⟩⟩
theorem ahh{y:Int}{t:Tok}(h:nsIn K mainGlobals x=some (some<|.int y t)):j_ K (x,.int y):=⟨_,h,⟨_,rfl⟩⟩
theorem ahi{y:Addr}(h:nsIn K mainGlobals x=some (some<|.ref y)):j_ K (x,.ref y):=⟨_,h,rfl⟩
theorem ahj(h:findIn K (.ref C) y=some none):d0 K C y:=h
theorem Top.gv(Z:Top P w K mg base)(h:j_ K p):Cy mg p:=by
 obtain⟨u,a,b⟩:=h.ex;exact⟨u,mg_of Z.X Z.G a,b⟩
theorem Top.no(Z:Top P w K mg base)(h:nsIn K mainGlobals x=some none):mg x=none:=mg_none_of Z.X Z.G h
theorem Top.exc(Z:Top P w K mg base)(h:pV K p):y4 mg base p:=adK Z.X Z.G h.g h.x
structure xF (P:Program) (w:World) (K:Frag) (mg:Str->Option Value) (base:Heap) (k:Nat) (st:Stmt) (sp:Sp):Prop where
 ok:∀{x q:Str}{f:Addr}{fd:FuncData},qj K x q st f fd->dz P w K mg base (gC P w) k f fd (jf st) sp
theorem ahk{N P:List Str}{sc:Scope}(a:sc.kind=.function:=by kernel_rfl)(b:sc.isCoroutine=false:=by kernel_rfl)(c:sc.isGenerator=false:=by kernel_rfl)(d:N.Nodup:=by decide+kernel)(e:N.take P.length=P:=by kernel_rfl)(f:∀x∈P,sc.names.lookup x=some .local\/sc.names.lookup x=some .cell:=by decide+kernel)(g:∀y∈sc.names,y.2≠ .free:=by decide+kernel):uP N P sc:=⟨a,b,c,d,e,f,g⟩
theorem dL{N0 bl:List Str}{tab:List (Str×Sp)}{gt:List (Str×V)}{dk:List (Addr×List (Key×V))}{mt kt:List (Str×Addr×Sp)}{et:List (Str×Addr)}{ht:List (Str×Sp)}{body:List RS}(Z:Top P w K mg base)
  (CK:∀vs H Q E,sp vs H Q E->aE (aN K tab gt dk mt kt et ht E) body {nx:=λ_ H'=>Q .au H',rt:=Q} (start N0 vs) H)
  (hm:∀{CX:cU}{Γ:aV}{X:Cx},d2 CX (y3 N (gz st) (tab.map (·.1)) (gt.map (·.1)) bl (mt.map (·.1)) (kt.map (·.1)) (et.map (·.1)) (ht.map (·.1))) Γ X->eE X (gQ st) (aE Γ body)) (k:Nat)
  (len:∀vs H Q E,sp vs H Q E->vs.length=(jf st).length:=by intro _ _ _ _ h;first| (cases h;subst_eqs;show List.length (_::_)=_;kernel_rfl)|repeat (first| (obtain⟨rfl,_⟩:=h;kernel_rfl)| (obtain⟨_,h⟩:=h)))
  (CA:∀p∈tab,lP P w K mg base k p.1 p.2:=by repeat (first|exact pG|refine pH (lP.mono (by assumption) (by first|decide|lia)) ?_))
  (CC:∀p∈gt,Cy mg p:=by repeat (first|exact pG|refine pH (Top.gv (by assumption) (by assumption)) ?_))
  (CF:∀y∈bl,mg y=none:=by repeat (first|exact pG|refine pH (Top.no (by assumption) (by assumption)) ?_))
  (CG:∀q∈dk,Jg P w K q:=by repeat (first|exact pG|refine pH (by assumption) ?_))
  (CH:∀p∈mt,lR P w K mg base k p:=by repeat (first|exact pG|refine pH (lR.mono (by assumption) (by first|decide|lia)) ?_))
  (CI:∀p∈kt,qC P w K mg base k p:=by repeat (first|exact pG|refine pH (qC.mono (by assumption) (by first|decide|lia)) ?_))
  (het:∀p∈et,y4 mg base p:=by repeat (first|exact pG|refine pH (Top.exc (by assumption) (by assumption)) ?_))
  (CJ:∀p∈ht,Cz P w K mg base k p.1 p.2:=by repeat (first|exact pG|refine pH (Cz.mono (by assumption) (by first|decide|lia)) ?_))
  (S:uP N (jf st) (gz st):=by exact ahk) (hN:N0.length=N.length:=by kernel_rfl):xF P w K mg base (k+1) st sp:=
 ⟨λF=>X7 F S tab gt bl mt kt et ht body hm CA CC CF dk CG CH CI het CJ len λvs H Q E h=>by
  have r:=CK vs H Q E h;unfold start at r⊢;rw[hN] at r;exact r⟩
def Bd(x q:Str)(st:Stmt):Prop:= ∀(kV doc pm:Value) (an:Option Addr) (bL ct:Value) (us:List Value),us.length=(jf st).length->bindArgs (fnOf x q (jj st) (gQ st) (gz st) .none kV doc pm an bL ct) ⟨us,[]⟩=pure ((jf st).zip us)
theorem ahl(hp:(jf st).length=1)(h:∀(kV doc pm:Value) (an:Option Addr) (bL ct a0:Value),bindArgs (fnOf x q (jj st) (gQ st) (gz st) .none kV doc pm an bL ct) ⟨[a0],[]⟩=pure ((jf st).zip [a0])):Bd x q st:=λkV doc pm an bL ct us hl=>by
 rcases us with _|⟨a0,_|⟨_,_⟩⟩ <;>first|exact h kV doc pm an bL ct _|exact absurd (hl.trans hp) (by simp)
theorem ahm(hp:(jf st).length=2)(h:∀(kV doc pm:Value) (an:Option Addr) (bL ct a0 a1:Value),bindArgs (fnOf x q (jj st) (gQ st) (gz st) .none kV doc pm an bL ct) ⟨[a0,a1],[]⟩=pure ((jf st).zip [a0,a1])):Bd x q st:=λkV doc pm an bL ct us hl=>by
 rcases us with _|⟨a0,_|⟨a1,_|⟨_,_⟩⟩⟩ <;>first|exact h kV doc pm an bL ct _ _|exact absurd (hl.trans hp) (by simp)
theorem ahn(hp:(jf st).length=3)(h:∀(kV doc pm:Value) (an:Option Addr) (bL ct a0 a1 a2:Value),bindArgs (fnOf x q (jj st) (gQ st) (gz st) .none kV doc pm an bL ct) ⟨[a0,a1,a2],[]⟩=pure ((jf st).zip [a0,a1,a2])):Bd x q st:=λkV doc pm an bL ct us hl=>by
 rcases us with _|⟨a0,_|⟨a1,_|⟨a2,_|⟨_,_⟩⟩⟩⟩ <;>first|exact h kV doc pm an bL ct _ _ _|exact absurd (hl.trans hp) (by simp)
theorem aho(hp:(jf st).length=4)(h:∀(kV doc pm:Value) (an:Option Addr) (bL ct a0 a1 a2 a3:Value),bindArgs (fnOf x q (jj st) (gQ st) (gz st) .none kV doc pm an bL ct) ⟨[a0,a1,a2,a3],[]⟩=pure ((jf st).zip [a0,a1,a2,a3])):Bd x q st:=λkV doc pm an bL ct us hl=>by
 rcases us with _|⟨a0,_|⟨a1,_|⟨a2,_|⟨a3,_|⟨_,_⟩⟩⟩⟩⟩ <;>first|exact h kV doc pm an bL ct _ _ _ _|exact absurd (hl.trans hp) (by simp)
theorem FU(hb:Bd x q st:=by first|exact ahl (by kernel_rfl) λ_ _ _ _ _ _ _=>rfl|exact ahm (by kernel_rfl) λ_ _ _ _ _ _ _ _=>rfl|exact ahn (by kernel_rfl) λ_ _ _ _ _ _ _ _ _=>rfl|exact aho (by kernel_rfl) λ_ _ _ _ _ _ _ _ _ _=>rfl|exact ajD (by kernel_rfl) λ_ _ _ _ _ _ _ _ _ _ _=>rfl|exact ajE (by kernel_rfl) λ_ _ _ _ _ _ _ _ _ _ _ _=>rfl|exact ajF (by kernel_rfl) λ_ _ _ _ _ _ _ _ _ _ _ _ _=>rfl|exact ajG (by kernel_rfl) λ_ _ _ _ _ _=>rfl):Bd x q st:=hb
theorem dT(Z:Top P w K mg base)(D:bW K x st)(R:xF P w K mg base k st sp)(hb:Bd x x st:=by exact FU):lP P w K mg base k x sp:=by
 obtain⟨f,fd,a,F⟩:=D;exact⟨f,fd,_,R.ok F,mg_of Z.X Z.G a,F.kp,F.binds hb⟩
theorem dM(D:dn K C x q st)(c:eP K C)(R:xF P w K mg base k st sp)(hb:Bd x q st:=by exact FU):lR P w K mg base k (x,C,sp):=by
 obtain⟨f,fd,a,i,F⟩:=D;exact⟨c,f,fd,_,⟨a,i,F.kp⟩,R.ok F,F.binds hb⟩
theorem dI(Z:Top P w K mg base)(D:dn K C "__init__" q st)(M:uG K cn C)(R:xF P w K mg base k st sp)(hb:Bd "__init__" q st:=by exact FU):qC P w K mg base (k+1) (cn,C,sp):=by
 obtain⟨f,fd,a,i,F⟩:=D;exact⟨k,f,fd,_,zqR _,⟨M.m,a,i,M.k⟩,R.ok F,mg_of Z.X Z.G M.g,F.binds hb⟩
theorem ahp(X:K.In h)(G:h.Ns mainGlobals mg)(nF:mg x=some (.ref fa))(D:bW K x st)
  (R:∀base,Top P w K mg base->xF P w K mg base k st sp) (hp:jf st=[y]:=by kernel_rfl)
  (hb:∀(kV doc pm:Value) (an:Option Addr) (bL ct a0:Value),bindArgs (fnOf x x (jj st) (gQ st) (gz st) .none kV doc pm an bL ct) ⟨[a0],[]⟩=pure [(y,a0)]:=by exact λ_ _ _ _ _ _ _=>rfl):
  ∃fd:FuncData,(∀(s:Shared) (v:Value),BindsTo s fd ⟨[v],[]⟩ [(y,v)])/\∀base:Heap,K.In base->base.Ns mainGlobals mg->dz P w K mg base uV k fa fd [y] (λvs H Q _=>sp vs H Q E0):=by
 obtain⟨f,fd,e,F⟩:=D;cases nF.symm.trans (mg_of X G e);obtain⟨oc,od,kV,doc,pm,an,bL,ct,ji,rfl,lk,lF⟩:=(F).ex;refine⟨_,λs v=>.of_eq<|hb kV doc pm an bL ct v,λbase X2 G2=>?_⟩;have r:=(R base ⟨X2,G2⟩).ok F;rw[hp] at r;exact dz.top r
end
end L2
namespace L2.fZ
open PySem PySem.Spec PyProof.Rows L2.B
theorem all_mk{P:Program}{w:World}{K:Frag}{h:Heap}{mg:Str->Option Value}{fa rX gu mE fu Rg Ba rY xG FV Bb:Addr}(X:K.In h)(G:h.Ns mainGlobals mg)(nF:mg "law"=some (.ref fa))
  (ajH:j_ K ("BadText",.ref Rg))
  (ajI:j_ K ("BadChange",.ref Ba))
  (ajJ:j_ K ("BadFit",.ref rY))
  (ajK:j_ K ("BadLetter",.ref xG))
  (ajL:j_ K ("NoLetter",.ref FV))
  (ajM:j_ K ("NoHand",.ref Bb))
  (ahq:uG K "Walk" rX)
  (ahr:uG K "Server" gu)
  (ahs:uG K "Stand" mE)
  (aht:uG K "Hand" fu)
  (nX:oK K rX)
  (hZ:lU K gu)
  (jG:ic K mE)
  (eN:iI K fu)
  (ajN:pV K ("BadText",Rg))
  (ajO:pV K ("BadChange",Ba))
  (ajP:pV K ("BadFit",rY))
  (ajQ:pV K ("BadLetter",xG))
  (ajR:pV K ("NoLetter",FV))
  (ajS:pV K ("NoHand",Bb))
  (a0:bW K "is_whole" Kq)
  (a1:bW K "is_between" Kr)
  (a2:bW K "is_word" Ks)
  (a3:bW K "is_text" Kt)
  (a4:bW K "need_text" Ku)
  (a5:bW K "is_part" Kv)
  (a6:bW K "may_follow" Kw)
  (a7:bW K "need_change" Kx)
  (a8:bW K "is_change" Kz)
  (a9:bW K "part_size" KA)
  (a10:bW K "sizes" KC)
  (a11:dn K rX "__init__" "Walk.__init__" KD)
  (a12:dn K rX "word" "Walk.word" KG)
  (a13:dn K rX "left" "Walk.left" KH)
  (a14:dn K rX "take" "Walk.take" KI)
  (a15:bW K "add_keep" KJ)
  (a16:bW K "add_texts" KL)
  (a17:bW K "neat" KN)
  (a18:bW K "done" KO)
  (a19:bW K "cut_behind" KP)
  (a20:bW K "parts_behind" KQ)
  (a21:bW K "then" KR)
  (a22:bW K "put_first" KS)
  (a23:bW K "share" KU)
  (a24:bW K "passed" KW)
  (a25:dn K gu "__init__" "Server.__init__" K1)
  (a26:dn K gu "text" "Server.text" K3)
  (a27:dn K gu "many" "Server.many" K5)
  (a28:dn K gu "change" "Server.change" K_)
  (a29:dn K gu "took" "Server.took" Lb)
  (a30:dn K gu "is_ask" "Server.is_ask" Le)
  (a31:dn K gu "is_again" "Server.is_again" Lg)
  (a32:dn K gu "is_known" "Server.is_known" Li)
  (a33:dn K gu "came" "Server.came" Lk)
  (a34:dn K gu "take_in" "Server.take_in" Lo)
  (a35:dn K mE "__init__" "Stand.__init__" Lr)
  (a36:bW K "twin_of" Lw)
  (a37:bW K "copied" Ly)
  (a38:bW K "let_in" LB)
  (a39:dn K fu "__init__" "Hand.__init__" LF)
  (a40:dn K fu "text" "Hand.text" LH)
  (a41:dn K fu "seen" "Hand.seen" LJ)
  (a42:dn K fu "flight" "Hand.flight" LM)
  (a43:dn K fu "waiting" "Hand.waiting" LO)
  (a44:dn K fu "ask" "Hand.ask" LR)
  (a45:dn K fu "take_off" "Hand.take_off" LU)
  (a46:dn K fu "do" "Hand.do" LY)
  (a47:dn K fu "need_took" "Hand.need_took" L0)
  (a48:dn K fu "land" "Hand.land" L5)
  (a49:dn K fu "came" "Hand.came" L7)
  (a50:dn K fu "nudge" "Hand.nudge" L_)
  (a51:bW K "_law_cell_at" Ma)
  (a52:bW K "_law_whole" Mb)
  (a53:bW K "_law_mixed" Mc)
  (a54:bW K "_law_text" Md)
  (a55:bW K "_law_parts" Me)
  (a56:bW K "_law_neat" Mf)
  (a57:bW K "_law_change" Mg)
  (a58:bW K "_law_done" Mh)
  (a59:bW K "_law_room" Ml)
  (a60:bW K "_law_came" Mn)
  (a61:bW K "_law_copied" Mo)
  (a62:bW K "_law_fits" Mr)
  (a63:bW K "_law_texts" Mu)
  (a64:bW K "_law_told" Mx)
  (a65:bW K "_law_stands" f_)
  (a66:bW K "_law_handed" Mz)
  (a67:bW K "_law_deed" MC)
  (a68:bW K "law" MF)
  (ajT:j_ K ("SIGNS",.str SG))
  (ajU:j_ K ("MOST_HANDS",.int 8))
  (ajV:nsIn K mainGlobals "bool"=some none)
  (ajW:nsIn K mainGlobals "dict"=some none)
  (ajX:nsIn K mainGlobals "int"=some none)
  (ajY:nsIn K mainGlobals "isinstance"=some none)
  (ajZ:nsIn K mainGlobals "len"=some none)
  (aj0:nsIn K mainGlobals "list"=some none)
  (aj1:nsIn K mainGlobals "min"=some none)
  (aj2:nsIn K mainGlobals "range"=some none)
  (aj3:nsIn K mainGlobals "str"=some none)
  (aj4:nsIn K mainGlobals "sum"=some none)
  (aj5:nsIn K mainGlobals "tuple"=some none)
  :∃fd:FuncData,(∀(s:Shared) (v:Value),BindsTo s fd ⟨[v],[]⟩ [("_law_script",v)])/\∀base:Heap,K.In base->base.Ns mainGlobals mg->dz P w K mg base uV 11 fa fd ["_law_script"] (λvs H Q _=>(A_ K) vs H Q E0):=by
 refine ahp X G nF a68 λbase Z=>?_;have T0:=dT Z a0 (dL Z ab1 @Y3 0);have aj6:=T0.weak (a:=lY) λ_ _ _ _ h=>ab2 h;have T1:=dT Z a1 (dL Z adM @Y4 1);have aj7:=T1.weak (a:=jB) λ_ _ _ _ h=>adN h;have T2:=dT Z a2 (dL Z ab7 @Y5 0);have aj8:=T2.weak (a:=lZ K) λ_ _ _ _ h=>ab8 h;have T3:=dT Z a3 (dL Z ab3 @Y6 0);have T4:=dT Z a4 (dL Z ab5 @Y7 1);have aj9:=T4.weak (a:=qS) λ_ _ _ _ h=>ab6 h;have T5:=dT Z a5 (dL Z ab_ @Y8 1);have aj_:=T5.weak (a:=Dj) λ_ _ _ _ h=>acb h;have T6:=dT Z a6 (dL Z aaI @Y9 0);have T7:=dT Z a7 (dL Z (aaS (et:=[("BadChange",Ba)])) @Y_ 2);have T8:=dT Z a8 (dL Z (aez (CB:=Ba)) @Zb 3);have T9:=dT Z a9 (dL Z aaJ @Zc 0);have T10:=dT Z a10 (dL Z aaU @Zd 3);have T11:=dI Z a11 ahq (dL Z (acj nX) @Ze 0);have T12:=dM a12 nX.cl (dL Z (ack nX) @Zf 0);have T13:=dM a13 nX.cl (dL Z (acm nX) @Zg 1);have akd:=T13.weak (a:=mf rX) λ_ _ _ _ h=>acn h;have T14:=dM a14 nX.cl (dL Z (aco nX) @Zh 2);have T15:=dT Z a15 (dL Z aaX @Zi 0);have T16:=dT Z a16 (dL Z aaV @Zj 0);have T17:=dT Z a17 (dL Z aaZ @Zk 1);have T18:=dT Z a18 (dL Z (abI (et:=[("BadFit",rY)])) @Zl 4);have T19:=dT Z a19 (dL Z (acu (et:=[("BadFit",rY)])) @Zm 0);have T20:=dT Z a20 (dL Z acw @Zn 3);have T21:=dT Z a21 (dL Z (acN (et:=[("BadFit",rY)]) nX) @Zo 4);have T22:=dT Z a22 (dL Z ac0 @Zp 3);have T23:=dT Z a23 (dL Z (ac3 (et:=[("BadFit",rY)])) @Zq 0);have T24:=dT Z a24 (dL Z (adi (et:=[("BadFit",rY)]) nX) @Zr 4);have T25:=dI Z a25 ahr (dL Z (bY.afq (CN:=Bb) hZ) @Zt 2);have T26:=dM a26 hZ.cl (dL Z (bY.afx hZ) @Zu 0);have T27:=dM a27 hZ.cl (dL Z (bY.afy hZ) @Zv 0);have T28:=dM a28 hZ.cl (dL Z (bY.afz (CL:=FV) hZ) @Zx 2);have T29:=dM a29 hZ.cl (dL Z (bY.afA hZ) @Zy 3);have T32:=dM a32 hZ.cl (dL Z (bY.afB hZ) @ZE 2);have T30:=dM a30 hZ.cl (dL Z bY.afD @ZA 4);have T31:=dM a31 hZ.cl (dL Z bY.afC @ZD 3);have T34:=dM a34 hZ.cl (dL Z (bY.afJ hZ) @ZK 5);have T33:=dM a33 hZ.cl (dL Z (bY.af3 (CB:=xG) hZ) @ZH 6);have T35:=dI Z a35 ahs (dL Z (aev jG) @ZL 0);have T36:=dT Z a36 (dL Z (aex jG) @ZN 2);have T37:=dT Z a37 (dL Z aem @ZO 0);have T38:=dT Z a38 (dL Z (aeD jG) @ZP 5);have T39:=dI Z a39 aht (dL Z (aeA (CN:=Bb) eN) @ZR 2);have T40:=dM a40 eN.cl (dL Z (aek eN jG) @ZS 0);have T41:=dM a41 eN.cl (dL Z (ael eN jG) @ZT 0);have T42:=dM a42 eN.cl (dL Z (aen eN jG) @ZU 1);have T43:=dM a43 eN.cl (dL Z (aeo eN jG) @ZV 1);have T44:=dM a44 eN.cl (dL Z (aep eN jG) @ZW 0);have T45:=dM a45 eN.cl (dL Z (aeq eN jG) @ZY 1);have T46:=dM a46 eN.cl (dL Z (aeJ eN jG) @Z0 5);have T47:=dM a47 eN.cl (dL Z (aeC (CB:=xG) eN) @Z2 4);have T48:=dM a48 eN.cl (dL Z (aer (CB:=xG) eN jG) @Z3 2);have T49:=dM a49 eN.cl (dL Z (ae5 eN jG) @Z6 6);have T50:=dM a50 eN.cl (dL Z (aet eN jG) @Z8 1);have T51:=dT Z a51 (dL Z aaK @Z9 0);have T52:=dT Z a52 (dL Z adG @Z_ 0);have T53:=dT Z a53 (dL Z aaL @aaa 0);have T54:=dT Z a54 (dL Z aa6 @aab 1);have T55:=dT Z a55 (dL Z adZ @aac 2);have T56:=dT Z a56 (dL Z abe @aad 0);have T57:=dT Z a57 (dL Z ad7 @aae 3);have T58:=dT Z a58 (dL Z ace @aaf 0);have T59:=dT Z a59 (dL Z (ag4 (C:=fu) (CS:=mE) (CV:=gu)) @aai 4)
 have T60:=dT Z a60 (dL Z (agO (C:=fu) (CS:=mE) (CV:=gu)) @aak 7);have T61:=dT Z a61 (dL Z af6 @aal 0);have T62:=dT Z a62 (dL Z af5 @aam 0);have T63:=dT Z a63 (dL Z (agb (CV:=gu)) @aap 3);have T64:=dT Z a64 (dL Z (af7 (C:=fu) (CS:=mE)) @aar 2);have T65:=dT Z a65 (dL Z (age (C:=fu) (CS:=mE) (CV:=gu)) @aaA 4);have T66:=dT Z a66 (dL Z (agR (C:=fu) (CS:=mE) (CV:=gu)) @aaC 8);have T67:=dT Z a67 (dL Z (agX (C:=fu) (CS:=mE) (CV:=gu)) @aaF 9);exact dL Z (ahb (C:=fu) (CS:=mE) (CV:=gu)) @aaH 10
theorem walk{l:PySem.W.OpenLaw}{q:Program}{loose:List Str}{XP:(Str->Option Value)->Heap->Prop}{YP:World->Heap->Prop}{d:DefRec}{K:Params->Frag}(hn:l.most=some 63)(uU:d.params.defaults=[])
  (hY:∀(w:World) (h:Heap),YP w h->(K w.params).In h)
  (F:∀(w:World) (mg:Str->Option Value) (fa:Addr) (h:Heap),(K w.params).In h->h.Ns mainGlobals mg->mg d.name=some (.ref fa)->
   ∃fd:FuncData,(∀(s:Shared) (u:Value),BindsTo s fd ⟨[u],[]⟩ [("_law_script",u)])/\∀base:Heap,(K w.params).In base->base.Ns mainGlobals mg->dz l.prog w (K w.params) mg base uV 11 fa fd ["_law_script"] ((λK=>(λvs H Q _=>(A_ K) vs H Q E0)) (K w.params))):
  PySem.W.WalkO q loose XP YP l.row.toRowW d [] (λf vs=>PySem.call f vs):=
 L2.US (n:=63) (k:=11) (x:="_law_script") (CX:=λ_=>uV) (sp:=λw=>(λK=>(λvs H Q _=>(A_ K) vs H Q E0)) (K w.params)) hn (by decide) uU ⟨rfl,by decide,by decide,rfl⟩ hY F (λ_ _ a ns hl _ hS=>⟨a,ns,rfl,hS,λ_=>rfl⟩) λ_ _ _ _ _ z=>z
end L2.fZ
namespace PySem.W.Fast
def tw8484849267245437249:=()
def tw10809554033692645118:=()
def tw12953042645245916007:=()
def tw16122923297224573971:=()
def tw8600822629552406895:=()
def tw6922348640514290141:=()
def tw2858719993946647725:=()
def tw10765945398145334676:=()
def tw12447162487606871918:=()
def tw5018231145730476489:=()
def tw5607089946318859622:=()
def tw496219712448849424:=()
def tw4706226729070631225:=()
def tw13302050784339891704:=()
def tw5333825221302070124:=()
def tw7100301426219410064:=()
def tw6959164271616722530:=()
def tw9093438810349802467:=()
def tw31825022166318116:=()
def tw2974235313416092891:=()
def tw14831942922330848453:=()
def tw9693424625512988035:=()
def tw7496462347093591358:=()
def tw666372047360261591:=()
def tw16129338948228516074:=()
def tw16926054325825460851:=()
def tw1356098759119852647:=()
def tw12305353122103773105:=()
def tw15526938761373257355:=()
def tw17041544329466892223:=()
def tw3855354185910860897:=()
def tw5284269337389683062:=()
def tw11884800887229775951:=()
def tw3595645843217444213:=()
def tw11387315956140719940:=()
def tw14370254737259789648:=()
def tw4386682868374223654:=()
def tw1325275750882096485:=()
def tw15308235409243533856:=()
def tw5479113341496982802:=()
def tw3397344344677057671:=()
def tw16636982958609341296:=()
def tw2734574650831064585:=()
def tw8533833545653216275:=()
def tw913047989871077970:=()
def tw17314294440353736694:=()
def tw18083112757602383965:=()
def tw3764412203727438906:=()
def tw11206289589678605104:=()
def tw15165443829405640854:=()
def tw16041258752544589507:=()
def tw8851556538079240757:=()
def tw1355704950594271287:=()
def tw16734401672902720884:=()
def tw17899565645763083892:=()
def tw11347780647041979528:=()
def tw3933565006646690863:=()
def tw5821015132255450417:=()
def tw13489035771630232900:=()
def tw16689051247242677565:=()
def tw3546806036261361009:=()
def tw8661910644395915114:=()
def tw16563799503529482547:=()
def tw4091490853883747395:=()
def tw17366394726307522575:=()
def tw5597290093132811518:=()
def tw16927673977500321930:=()
def tw3726341401223148958:=()
def tw197609241616495849:=()
def tw2523695942464126745:=()
def tw13227246755102300993:=()
def tw11402058466136397482:=()
def tw5920769469279070568:=()
def tw7354422969233876180:=()
def tw3569554022036666886:=()
def tw2187837067105702579:=()
def tw8902184452949697836:=()
def tw7741019129921733114:=()
def tw12550326656108282499:=()
def tw10979107890393731702:=()
def tw16097176423555739531:=()
def tw9466013526792166287:=()
def tw9262179868128687002:=()
def tw17910365072666922408:=()
def tw9184424210103480535:=()
def tw2289000057654851980:=()
def tw11977282221119900140:=()
def tw5784945171063417028:=()
def tw2756040538423203907:=()
def tw128708700105276051:=()
def tw5186889404840264883:=()
def tw5807117453099013640:=()
def tw9640804497757500387:=()
def tw18400043535492450678:=()
def tw14427611587861409623:=()
def tw14860735001001470819:=()
def tw3401719789737011138:=()
def tw17122275847360223411:=()
def tw14390293262837602046:=()
def tw10014321226913990932:=()
def tw18281714828877860428:=()
def tw1044994420387667216:=()
def tw12180509337880049898:=()
def tw11992389370175501683:=()
def tw1767424714700478204:=()
def tw249618054797859061:=()
def tw14869999268361779647:=()
def tw1255740439806796614:=()
def tw7345758133553881254:=()
def tw17873677734457193625:=()
def tw3979572528023625744:=()
def tw7997045855458406548:=()
def tw15421943186851803454:=()
def tw16282603202913617137:=()
def tw16647522711021490940:=()
def tw17931370244772455479:=()
def tw1793309543531056547:=()
def tw18290022120355713402:=()
def tw5413562380871836048:=()
def tw10438536679834994547:=()
def tw5929232804599008680:=()
def tw2289025606145734643:=()
def tw7377348215820297765:=()
def tw1622955362932550520:=()
def tw10442715951268787988:=()
def tw7330661962482593721:=()
def tw7042570845503728050:=()
def tw765405516883744321:=()
def tw3311461971260301489:=()
def tw10939009782777569115:=()
def tw6934825829455767592:=()
def tw11871853454224787599:=()
def tw16148947925982813483:=()
def tw9059727572932592467:=()
def tw15521322211696792576:=()
def tw3052980735493565383:=()
def tw4292301812624010032:=()
def tw4331334653356035812:=()
def tw13169380696057835389:=()
def tw5788556882078732665:=()
def tw9980519893959670901:=()
def tw7842285402865983573:=()
def tw18077125317899013082:=()
def tw13453440590071966165:=()
def tw17475568102604870367:=()
def tw17578276704247012222:=()
def tw3933700761780315594:=()
def tw2817173550642175607:=()
def tw15753036710356530391:=()
def tw5279907880824614900:=()
def tw2538427971812924542:=()
def tw11251515363065215996:=()
def tw9264279032803780584:=()
def tw12998166838438623236:=()
def tw14587423638138737627:=()
def tw342968811859700255:=()
def tw4008341094737089884:=()
def tw5979013701270552420:=()
def tw2629555754879097590:=()
def tw17281392320669649774:=()
def tw10312811800758828170:=()
def tw9662986211438701319:=()
def tw4917334402457787097:=()
def tw577958929381461776:=()
def tw11053365850980873307:=()
def tw7420914351918775545:=()
def tw656314999751418630:=()
def tw3054047518925743677:=()
def tw13002138605301498725:=()
def tw6312546465708099019:=()
def tw5128906123560191808:=()
def tw6167101947718863010:=()
def tw12691900106323495468:=()
def tw9086451926431966271:=()
def tw504648119990178989:=()
def tw10780076274542391795:=()
def tw1625377404801750406:=()
def tw2446281713994822153:=()
def tw15871200646451598638:=()
def tw15709067635366219995:=()
def tw5281129474958117171:=()
def tw15396265542376126868:=()
def tw4578651728030796247:=()
def tw8359073138199307948:=()
def tw14074150339285542340:=()
def tw10374657072614418305:=()
def tw10532628696941174131:=()
def tw13225736737813003662:=()
def tw4729971832307027854:=()
def tw14491057722086219491:=()
def tw14524521850663283625:=()
def tw9832909261775507294:=()
def tw2909914146576702503:=()
def tw3928762369653792378:=()
def tw8379009677164612462:=()
def tw11829745397860661022:=()
def tw9612808479767031865:=()
def tw14487845927832489641:=()
def tw15701416741101355605:=()
def tw14539738189295674235:=()
def tw15390072882888488748:=()
def tw16086469328778696771:=()
def tw2809948672955617599:=()
def tw14533459736911509139:=()
def tw7817822870193420391:=()
def tw360169531257401645:=()
def tw2937778135940333467:=()
def tw7023138250344756318:=()
def tw15210263088982066073:=()
def tw7939760731041826735:=()
def tw14126823036275457229:=()
def tw12457090966796210150:=()
def tw5393150562501597621:=()
def tw1323172126495527824:=()
def tw6091235470060531977:=()
def tw889708785450102610:=()
def tw10517348217517724653:=()
def tw1921899967405314468:=()
end PySem.W.Fast
open PySem PySem.W PyProof.Rows
set_option maxHeartbeats 0 in
theorem PySem.Challenge.cw_inkloom_k37_whole_behind_each_letter_holds : PySem.Challenge.rw_inkloom_k37_whole_behind_each_letter.Holds := by
 w_on;o_law;k_head;(case hw=>w_witness2)
 k_fill
 refine L2.fZ.walk (l:=PySem.Challenge.rw_inkloom_k37_whole_behind_each_letter) rfl rfl (λw h Y=>PySem.W.kIn_of Y) ?F
 case F=>
  intro w mg fa h KX G qh
  refine' L2.fZ.all_mk KX G qh ..
  all_goals try first | refine' L2.dfk .. | refine' L2.ahi .. | refine' L2.uG.mk .. | refine' L2.dmk .. | refine' L2.ahh .. | refine' L2.ahg .. | refine' L2.pV.mk .. | refine' L2.B.oK.mk (L2.eP.mk ..) .. | refine' L2.fZ.lU.mk (L2.eP.mk ..) .. | refine' L2.fZ.ic.mk (L2.eP.mk ..) .. | refine' L2.fZ.iI.mk (L2.eP.mk ..) ..
  all_goals try refine' L2.ahj ..
  all_goals try first | k_is | k_exc | kernel_rfl
