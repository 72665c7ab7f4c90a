import PyProof.Rows.All
import Wide.All
import OpenK.AllK
import Wide.FinOn
import Lean
import PyProof.EqAt
import PyProof.EqKinds
import PyProof.TupleCall
import PyProof.Rows.EqDataRows
import PyProof.DictList
import PyProof.FactsAll.dict_1
import PyProof.FactsAll.subtypes_4
import KE.KTryMore
import PyProof.WalksEnum
import PyProof.EnumMake
import PyProof.ListStr
import PyProof.TupleOfStr
import PyProof.Dict
import PyProof.ToksMono
import PyProof.StrCalls6
import PyProof.StrWalks
import PyProof.ConsumeWalk
import PyProof.CallStr
import PyProof.MeetsStr
import KE.KIntText
import PyProof.StrCalls2
import PyProof.StrOps2
import KE.KDictSum
import PyProof.ReprRoads
import KE.KDictOf
import PyProof.DictTruth
import PyProof.StrLawsIn
import KE.KSortTup
import PyProof.WalksMore
import PyProof.TupleIter
import PyProof.Rows.StrCut
import PyProof.ListRange
import KE.KRevIter
import PyProof.SliceList
import PyProof.ZipIter
import PyProof.ListNew
import PySem.Challenge.RW_inkloom_k38_whole_all_meet
set_option Elab.async false
set_option linter.all false
set_option maxRecDepth 100000
set_option compiler.extract_closed false
noncomputable section
theorem jN:1≤PySem.sizeLine:=by decide
theorem fQ:2≤PySem.sizeLine:=by decide
theorem xQ:3≤PySem.sizeLine:=by decide
theorem Ru:4≤PySem.sizeLine:=by decide
theorem BC:5≤PySem.sizeLine:=by decide
open PySem.W (Frag callWith_K cellsFrom_some emptyDict exmOne handedIn hasDictIn hideAll hideAll_get instObj kia_one kitOne kitx_dict kitx_list lookIn makesIn methodObj mroIn nsIn of_hideAll plainGet plainGet_of plainOver specialIn takerIn takesIn)
theorem zqT[Decidable p](h:p):decide p=true:=by lia
theorem zqF[Decidable p](h: ¬p):decide p=false:=by lia
theorem zqA{c:Type}{a b:List c}:(a++b).length=a.length+b.length:=by simp
theorem zqR(n:Nat):n≤n:=Nat.le_refl n
theorem zqZ(n:Nat):0≤n:=Nat.zero_le n
def zaa:=@List.mem_cons
def zab:=@List.mem_append
def zac:=@List.append_nil
def zad:=@List.getElem?_eq_some_iff
def zae:=@List.length_map
def zaf:=@List.not_mem_nil
def zag:=@Bool.and_eq_true
def zah:=@List.mem_singleton
def zai:=@List.mem_map
def zaj:=@List.getElem?_eq_getElem
def zak:=@List.size_toArray
def zal:=@List.append_assoc
def zam:=@List.getElem?_map
def zan:=@List.mem_of_getElem?
def zao:=@Nat.ne_of_lt
def zap:=@Nat.le_trans
def zaq:=@List.map_append
def zar:=@Option.some.inj
def zas:=@Bool.false_ne_true
def zat:=@List.length_drop
def zau:=@List.mem_append_right
def zav:=@List.map_cons
def zaw:=@List.getElem?_set
def zax:=@List.mem_cons_self
def zay:=@List.mem_cons_of_mem
def zaz:=@List.length_cons
def zaA:=@List.length_take
def zaB:=@List.getElem?_append_left
def zaC:=@Nat.lt_of_lt_of_le
def zaD:=@Int.toNat_natCast
def zaE:=@List.length_eq_zero_iff
def zaF:=@List.getD_eq_getElem?_getD
def zaG:=@List.mem_append_left
def zaH:=@List.nodup_cons
def zaI:=@List.take_of_length_le
def zaJ:=@Nat.sub_self
def zaK:=@List.getElem?_append_right
def zaL:=@Bool.false_xor
def zaM:=@Bool.true_xor
def zaN:=@List.find?_cons
def zaO:=@Nat.lt_irrefl
def zaP:=@List.length_set
def zaQ:=@List.replicate_succ
def zaR:=@Int.le_refl
def zaS:=@List.length_range
def zaT:=@Int.emod_lt_of_pos
def zaU:=@List.count_cons
def zaV:=@List.map_nil
def zaW:=@Option.map_some
def zaX:=@List.cons_append
def zaY:=@List.drop_eq_getElem_cons
def zaZ:=@Bool.not_eq_true'
def zba:=@Int.emod_nonneg
def zbb:=@List.sum_append
def zbc:=@List.take_append_drop
def zbd:=@List.getElem?_of_mem
def zbe:=@Nat.add_assoc
def zbf:=@List.length_nil
def zbg:=@List.lookup_cons
def zbh:=@List.drop_zero
def zbi:=@Nat.zero_add
def zbj:=@List.mem_map_of_mem
def zbk:=@Nat.succ_pos
def zbl:=@Int.eq_ofNat_of_zero_le
def zbm:=@Nat.le_of_eq
def zbn:=@List.all_cons
def zbo:=@List.cons.inj
def zbp:=@List.sum_cons
def zbq:=@List.map_set
def zbr:=@List.mem_range
def zbs:=@Bool.eq_iff_iff
def zbt:=@List.length_replicate
def zbu:=@List.any_cons
def zbv:=@List.flatten_cons
def zbw:=@List.length_singleton
def zbx:=@List.nil_append
def zby:=@Option.ne_none_iff_exists'
def zbz:=@List.take_length
def zbA:=@List.take_add_one
def zbB:=@Int.natCast_add
def zbC:=@List.take_nil
def zbD:=@List.mem_of_mem_drop
def zbE:=@Nat.add_right_comm
def zbF:=@Nat.not_lt_zero
def zbG:=@Bool.or_false
def zbH:=@Option.map_eq_some_iff
def zbI:=@Bool.false_eq_true
def zbJ:=@Nat.lt_succ_of_lt
def zbK:=@List.all_eq_true
def zbL:=@Array.eq_empty_of_size_eq_zero
def zbM:=@List.mem_flatten
def zbN:=@List.filter_cons_of_neg
def zbO:=@List.mem_or_eq_of_mem_set
def zbP:=@List.filterMap_cons
def zbQ:=@Array.length_toList
def zbR:=@List.mem_filterMap
def zbS:=@List.getElem?_replicate
def zbT:=@List.length_dropLast
def zbU:=@List.length_filter_le
def zbV:=@List.filter_append
def zbW:=@List.getLast?_append
def zbX:=@List.mem_of_mem_take
def zbY:=@List.filter_cons_of_pos
def zbZ:=@List.getElem?_drop
def zca:=@List.sum_replicate_nat
inductive qX1{a':Type}(p:a'->Prop):Prop|i(a:a')(_:p a)
theorem qx1{a':Type}{p:a'->Prop}:(∃a,p a)->qX1 p|⟨a1,h⟩=>⟨a1,h⟩
inductive qX2{a' b':Type}(p:a'->b'->Prop):Prop|i(a:a')(b:b')(_:p a b)
theorem qx2{a' b':Type}{p:a'->b'->Prop}:(∃a b,p a b)->qX2 p|⟨a1,b1,h⟩=>⟨a1,b1,h⟩
inductive qX3{a' b' c':Type}(p:a'->b'->c'->Prop):Prop|i(a:a')(b:b')(c:c')(_:p a b c)
theorem qx3{a' b' c':Type}{p:a'->b'->c'->Prop}:(∃a b c,p a b c)->qX3 p|⟨a1,b1,c1,h⟩=>⟨a1,b1,c1,h⟩
inductive qX4{a' b' c' d':Type}(p:a'->b'->c'->d'->Prop):Prop|i(a:a')(b:b')(c:c')(d:d')(_:p a b c d)
theorem qx4{a' b' c' d':Type}{p:a'->b'->c'->d'->Prop}:(∃a b c d,p a b c d)->qX4 p|⟨a1,b1,c1,d1,h⟩=>⟨a1,b1,c1,d1,h⟩
inductive qX5{a' b' c' d' e':Type}(p:a'->b'->c'->d'->e'->Prop):Prop|i(a:a')(b:b')(c:c')(d:d')(e:e')(_:p a b c d e)
theorem qx5{a' b' c' d' e':Type}{p:a'->b'->c'->d'->e'->Prop}:(∃a b c d e,p a b c d e)->qX5 p|⟨a1,b1,c1,d1,e1,h⟩=>⟨a1,b1,c1,d1,e1,h⟩
inductive qX6{a' b' c' d' e' f':Type}(p:a'->b'->c'->d'->e'->f'->Prop):Prop|i(a:a')(b:b')(c:c')(d:d')(e:e')(f:f')(_:p a b c d e f)
theorem qx6{a' b' c' d' e' f':Type}{p:a'->b'->c'->d'->e'->f'->Prop}:(∃a b c d e f,p a b c d e f)->qX6 p|⟨a1,b1,c1,d1,e1,f1,h⟩=>⟨a1,b1,c1,d1,e1,f1,h⟩
inductive qX9{a' b' c' d' e' f' g' h' i':Type}(p:a'->b'->c'->d'->e'->f'->g'->h'->i'->Prop):Prop|i(a:a')(b:b')(c:c')(d:d')(e:e')(f:f')(g:g')(h:h')(i:i')(_:p a b c d e f g h i)
theorem qx9{a' b' c' d' e' f' g' h' i':Type}{p:a'->b'->c'->d'->e'->f'->g'->h'->i'->Prop}:(∃a b c d e f g h i,p a b c d e f g h i)->qX9 p|⟨a1,b1,c1,d1,e1,f1,g1,h1,i1,h⟩=>⟨a1,b1,c1,d1,e1,f1,g1,h1,i1,h⟩
inductive qA3(a b c:Prop):Prop|i(_:a)(_:b)(_:c)
theorem qa3{a b c:Prop}:a/\b/\c->qA3 a b c|⟨a1,b1,c1⟩=>⟨a1,b1,c1⟩
inductive qA4(a b c d:Prop):Prop|i(_:a)(_:b)(_:c)(_:d)
theorem qa4{a b c d:Prop}:a/\b/\c/\d->qA4 a b c d|⟨a1,b1,c1,d1⟩=>⟨a1,b1,c1,d1⟩
inductive qA5(a b c d e:Prop):Prop|i(_:a)(_:b)(_:c)(_:d)(_:e)
theorem qa5{a b c d e:Prop}:a/\b/\c/\d/\e->qA5 a b c d e|⟨a1,b1,c1,d1,e1⟩=>⟨a1,b1,c1,d1,e1⟩
inductive qA6(a b c d e f:Prop):Prop|i(_:a)(_:b)(_:c)(_:d)(_:e)(_:f)
theorem qa6{a b c d e f:Prop}:a/\b/\c/\d/\e/\f->qA6 a b c d e f|⟨a1,b1,c1,d1,e1,f1⟩=>⟨a1,b1,c1,d1,e1,f1⟩
inductive qA7(a b c d e f g:Prop):Prop|i(_:a)(_:b)(_:c)(_:d)(_:e)(_:f)(_:g)
theorem qa7{a b c d e f g:Prop}:a/\b/\c/\d/\e/\f/\g->qA7 a b c d e f g|⟨a1,b1,c1,d1,e1,f1,g1⟩=>⟨a1,b1,c1,d1,e1,f1,g1⟩
inductive qA8(a b c d e f g h:Prop):Prop|i(_:a)(_:b)(_:c)(_:d)(_:e)(_:f)(_:g)(_:h)
theorem qa8{a b c d e f g h:Prop}:a/\b/\c/\d/\e/\f/\g/\h->qA8 a b c d e f g h|⟨a1,b1,c1,d1,e1,f1,g1,h1⟩=>⟨a1,b1,c1,d1,e1,f1,g1,h1⟩
inductive qA11(a b c d e f g h i j k:Prop):Prop|i(_:a)(_:b)(_:c)(_:d)(_:e)(_:f)(_:g)(_:h)(_:i)(_:j)(_:k)
theorem qa11{a b c d e f g h i j k:Prop}:a/\b/\c/\d/\e/\f/\g/\h/\i/\j/\k->qA11 a b c d e f g h i j k|⟨a1,b1,c1,d1,e1,f1,g1,h1,i1,j1,k1⟩=>⟨a1,b1,c1,d1,e1,f1,g1,h1,i1,j1,k1⟩
inductive qA12(a b c d e f g h i j k l:Prop):Prop|i(_:a)(_:b)(_:c)(_:d)(_:e)(_:f)(_:g)(_:h)(_:i)(_:j)(_:k)(_:l)
theorem qa12{a b c d e f g h i j k l:Prop}:a/\b/\c/\d/\e/\f/\g/\h/\i/\j/\k/\l->qA12 a b c d e f g h i j k l|⟨a1,b1,c1,d1,e1,f1,g1,h1,i1,j1,k1,l1⟩=>⟨a1,b1,c1,d1,e1,f1,g1,h1,i1,j1,k1,l1⟩
inductive qX7{a' b' c' d' e' f' g':Type}(p:a'->b'->c'->d'->e'->f'->g'->Prop):Prop|i(a:a')(b:b')(c:c')(d:d')(e:e')(f:f')(g:g')(_:p a b c d e f g)
inductive qX8{a' b' c' d' e' f' g' h':Type}(p:a'->b'->c'->d'->e'->f'->g'->h'->Prop):Prop|i(a:a')(b:b')(c:c')(d:d')(e:e')(f:f')(g:g')(h:h')(_:p a b c d e f g h)
inductive qX11{a' b' c' d' e' f' g' h' i' j' k':Type}(p:a'->b'->c'->d'->e'->f'->g'->h'->i'->j'->k'->Prop):Prop|i(a:a')(b:b')(c:c')(d:d')(e:e')(f:f')(g:g')(h:h')(i:i')(j:j')(k:k')(_:p a b c d e f g h i j k)
inductive qA16(a b c d e f g h i j k l m n o p:Prop):Prop|i(_:a)(_:b)(_:c)(_:d)(_:e)(_:f)(_:g)(_:h)(_:i)(_:j)(_:k)(_:l)(_:m)(_:n)(_:o)(_:p)
namespace L2
open PySem PySem.Spec PyProof.Rows
abbrev Key:=Sum Int Str
def sy:Key->Value->Bool
 |.inl k,v=>Value.isInt k v
 |.inr x,v=>Value.isStrOf x v
def Rv(w:World):Key->Int
 |.inl k=>hashInt k
 |.inr x=>hashStr w x
theorem mU:∀{k:Key}{v:Value},sy k v=true->(∃i t,k=Sum.inl i/\v=Value.int i t)\/(∃x t,k=Sum.inr x/\v=Value.str x t)
 |.inl i,v,h=>by
  obtain⟨t,e⟩:=Value.isInt_shape h;exact .inl ⟨i,t,rfl,e⟩
 |.inr x,v,h=>by
  obtain⟨t,e⟩:=Value.isStrOf_shape h;exact .inr ⟨x,t,rfl,e⟩
theorem Rw(i:Int)(t:Tok):sy (.inl i) (.int i t)=true:=by simp[sy,Value.isInt]
theorem Rx(x:Str)(t:Tok):sy (.inr x) (.str x t)=true:=by simp[sy,Value.isStrOf]
theorem Ry(a b:Int):decide ((Sum.inl a:Key)=Sum.inl b)=(a==b):=by lia
theorem Rz(a b:Str):decide ((Sum.inr a:Key)=Sum.inr b)=decide (a=b):=by lia
theorem RA(a:Int)(b:Str):decide ((Sum.inl a:Key)=Sum.inr b)=false:=rfl
theorem RB(a:Str)(b:Int):decide ((Sum.inr a:Key)=Sum.inl b)=false:=rfl
def e8(p:Program)(w:World):PySem.KeyKind p w Key where
 is:=sy
 hash:=Rv w
 inj:=λv a b l f=>by
  rcases mU l with⟨i,t,rfl,rfl⟩|⟨x,t,rfl,rfl⟩
  ·rcases mU f with⟨j,u,rfl,e⟩|⟨y,u,rfl,e⟩
   ·injection e with c _;rw[c]
   ·exact nomatch e
  ·rcases mU f with⟨j,u,rfl,e⟩|⟨y,u,rfl,e⟩
   ·exact nomatch e
   ·injection e with c _;rw[c]
 byValue:=λk v h=>by
  rcases mU h with⟨i,t,rfl,rfl⟩|⟨x,t,rfl,rfl⟩ <;>rfl
 pyHash:=λd h=>by
  rcases mU d with⟨i,t,rfl,rfl⟩|⟨x,t,rfl,rfl⟩
  ·exact wpAny_pyHash_int h
  ·exact wpAny_pyHash_str h
 eqBool:=λg d h=>by
  rcases mU g with⟨i,t,rfl,rfl⟩|⟨x,t,rfl,rfl⟩
  ·rcases mU d with⟨j,u,rfl,rfl⟩|⟨y,u,rfl,rfl⟩
   ·rw[Ry] at h;exact wpAny_eqBool_int h
   ·rw[RA] at h;exact SeqAt.EqAt.int_str i t y u _ _ _ _ h
  ·rcases mU d with⟨j,u,rfl,rfl⟩|⟨y,u,rfl,rfl⟩
   ·rw[RB] at h;exact SeqAt.EqAt.str_int x t j u _ _ _ _ h
   ·rw[Rz] at h;exact wpAny_eqBool_str h
 «strs»:=λk x t v h=>by
  rcases mU h with⟨i,u,rfl,e⟩|⟨y,u,rfl,e⟩
  ·exact nomatch e
  ·injection e with c _
   subst c;cases v<;>rfl
theorem GB(p:Program)(w:World)(i:Int)(t:Tok):(e8 p w).is (.inl i) (.int i t)=true:=Rw i t
theorem GC(p:Program)(w:World)(x:Str)(t:Tok):(e8 p w).is (.inr x) (.str x t)=true:=Rx x t
inductive V where
 |av|bl (b:Bool)|int (i:Int)|str (x:Str)|gR (b:Array UInt8)|ot (b:UInt64)|ref (a:Addr)|ty (n:String)
 deriving DecidableEq
def RelV:V->Value->Prop
 |.av,u=>u=Value.none
 |.bl b,u=>u=Value.bool b
 |.int i,u=>∃t,u=Value.int i t
 |.str x,u=>∃t,u=Value.str x t
 |.gR b,u=>∃t,u=Value.bytes b t
 |.ot b,u=>∃t,u=Value.float b t
 |.ref a,u=>u=Value.ref a
 |.ty n,u=>u=Value.type n
abbrev Vals:List V->List Value->Prop:=Paired RelV
theorem Vals.length{u:List Value}(r:Vals xs u):xs.length=u.length:=Paired.length r
theorem Vals.get:∀{xs:List V}{s:List Value}{i:Nat}{x:V},Vals xs s->xs[i]?=some x->∃u,s[i]?=some u/\RelV x u:=by
 intro _ _ i _ p h;induction p generalizing i with
 |nil=>simp at h
 |cons a r k=>cases i with|zero=>cases h;exact⟨_,rfl,a⟩|succ i=>exact k (by simpa using h)
theorem Vals.set{u:Value}(r:RelV x u):∀{xs:List V}{s:List Value} (i:Nat),Vals xs s->Vals (xs.set i x) (s.set i u):=by
 intro _ _ i p;induction p generalizing i with
 |nil=>exact .nil
 |cons q t k=>cases i with|zero=>exact .cons r t|succ i=>exact .cons q (k i)
theorem Vals.append:∀{xs y:List V}{u w:List Value},Vals xs u->Vals y w->Vals (xs++y) (u++w):=by
 intro _ _ _ _ p s;induction p with|nil=>exact s|cons r _ i=>exact .cons r i
theorem Vals.take:∀{xs:List V}{u:List Value} (n:Nat),Vals xs u->Vals (xs.take n) (u.take n):=by
 intro _ _ n p;induction p generalizing n with
 |nil=>cases n<;>exact .nil
 |cons r t k=>cases n with|zero=>exact .nil|succ n=>exact .cons r (k n)
theorem Vals.drop:∀{xs:List V}{u:List Value} (n:Nat),Vals xs u->Vals (xs.drop n) (u.drop n):=by
 intro _ _ n p;induction p generalizing n with
 |nil=>cases n<;>exact .nil
 |cons r t k=>cases n with|zero=>exact .cons r t|succ n=>exact k n
def gT:Option V->Option Value->Prop
 |some v,some u=>RelV v u
 |none,none=>True
 |_,_=>False
def KV{a:Type}:List (a×V)->List (a×Value)->Prop:=Paired fun(p:a×V) (q:a×Value)=>p.1=q.1/\RelV p.2 q.2
def kV:Key->V
 |.inl i=>.int i
 |.inr x=>.str x
inductive HO where
 |lst (xs:List V)
 |tup (xs:List V)
 |dK (k:List (Key×V))|dT (k:List (List Key×V))
 |set (S:Int->Bool) (n:Nat)
 |ins (C p:Addr) (b:List (Str×V))
 |own (x:Addr)
 |xd (b:List (Str×V))
 |met (f x:Addr)
 |fS (lo h:Int)
 |cw (o:Obj) (u:HO)
 |lL (ps:Array Value)
 |ext (c:Heap->Prop)
abbrev Hp:=Addr->Option HO
def upd(H:Hp)(a:Addr)(o:HO):Hp:=λb=>if b=a then some o else H b
theorem aw{a:Addr}{o:HO}:upd H a o a=some o:=by unfold upd;rw[if_pos rfl]
theorem ax{a b:Addr}{o:HO}(h:b≠a):upd H a o b=H b:=by unfold upd;rw[if_neg h]
theorem xR{a:Addr}{o u:HO}:upd (upd H a o) a u=upd H a u:=by
 funext b;unfold upd;split<;>rfl
theorem cA{H:Hp}{a b:Addr}{o u:HO}(h:H a=some o)(h':H b=some u)(d:o≠u):a≠b:=by lia
theorem aM{H:Hp}{a b:Addr}{o:HO}(h:H a=some o)(h':H b=none):a≠b:=by lia
section
variable (P:Program) (w:World)
def cM(H:Hp)(h:Heap)(a:Addr):HO->Prop
 |.lst xs=>xs.length<=sizeLine/\∃(b:List Value) (n:Nat),Vals xs b/\h.get? a=some {cls:=.type "list",data:=.seq b.toArray n}
 |.tup xs=>xs.length<=sizeLine/\∃b:List Value,Vals xs b/\IsTup h a b.toArray
 |.dK k=>k.length<=sizeLine/\(a==sysModules)=false/\∃vs,KV k vs/\h.DictOf (e8 P w) a vs
 |.dT k=>k.length<=sizeLine/\(a==sysModules)=false/\∃xs:List (List Key×Addr×Value),
   Paired (fun(p:List Key×V) (q:List Key×Addr×Value)=>p.1=q.1/\H q.2.1=some (.tup<|p.1.map kV)/\RelV p.2 q.2.2) k xs/\
   ∃o i l,h.get? a=some o/\o.ExactDict/\o.data=.dict i l/\i.toList=xs.map (entryOfKey<|tupleKind<|e8 P w)/\(xs.map (·.1)).Nodup
 |.set S n=>h.SetOf (intKind P w) a S n
 |.ins C d s=>H d=some (.own a)/\s.length<=1000/\d≠a/\h.get? a=some (instObj C d)/\
   ∃m,h.Ns1 d m/\(∀f,gT (s.lookup f)<|m f)/\PySem.Within m (s.map (·.1))
 |.own _=>∃o,h.get? a=some o
 |.xd s=>∃m,h.Ns1 a m/\∀f,gT (s.lookup f) (m f)
 |.fS lo j=>∃t u v,h.get? a=some {cls:=.type "range",data:=.fields #[.int lo t,.int j u,.int 1 v]}
 |.cw o u=>h.get? a=some o/\cM H h a u
 |.lL ps=>h.get? a=some {cls:=.none,data:=.fields ps}
 |.met f x=>h.get? a=some (methodObj (.ref f)<|.ref x)
 |.ext c=>c h/\(∃o,h.get? a=some o)/\∀g e:Heap,c g->(∀o,g.get? a=some o->e.get? a=some o)->c e
def bH(H:Hp)(h:Heap):Prop:= ∀a o,H a=some o->cM P w H h a o
end
section
variable {P:Program}{w:World}{H H':Hp}{h h':Heap}{a:Addr}{o:HO}
theorem cM.lt(x:cM P w H h a o):a<h.objs.size:=by
 cases o with
 |lst s=>obtain⟨_,_,_,_,e⟩:=x;exact Heap.lt_size e
 |tup s=>obtain⟨_,_,_,p⟩:=x;exact p.lt
 |dK k=>obtain⟨_,_,_,_,o,_,_,e,_⟩:=x;exact Heap.lt_size e
 |dT k=>obtain⟨_,_,_,_,o,_,_,e,_⟩:=x;exact Heap.lt_size e
 |set S n=>obtain⟨o,_,_,_,e,_⟩:=x;exact Heap.lt_size e
 |ins C j b=>obtain⟨_,_,_,e,_⟩:=x;exact Heap.lt_size e
 |own y=>obtain⟨_,e⟩:=x;exact Heap.lt_size e
 |xd b=>obtain⟨_,⟨_,_,_,e,_⟩,_⟩:=x;exact Heap.lt_size e
 |fS l i=>obtain⟨_,_,_,e⟩:=x;exact Heap.lt_size e
 |cw g u=>obtain⟨e,_⟩:=x;exact Heap.lt_size e
 |lL d=>exact Heap.lt_size (show h.get? a=some _ from x)
 |met f y=>exact Heap.lt_size (show h.get? a=some _ from x)
 |ext c=>obtain⟨_,⟨_,e⟩,_⟩:=x;exact Heap.lt_size e
theorem Paired.dR{c G:g->e->Prop}:∀{d:List g}{l:List e},Paired c d l->(∀a b,c a b->G a b)->Paired G d l:=by
 intro _ _ p f;induction p with|nil=>exact .nil|cons r _ i=>exact .cons (f _ _ r) i
theorem cM.ou(x:cM P w H h a o)(k:∀b u,(b=a\/H b=some (.own a))->h.get? b=some u->h'.get? b=some u)
  (N:∀b,H b=some (.own a)->H' b=some (.own a)) (K:∀b xs,H b=some (.tup xs)->H' b=some (.tup xs)):cM P w H' h' a o:=by
 induction o with
 |lst xs=>obtain⟨z,A,n,r,e⟩:=x;exact⟨z,A,n,r,k _ _ (.inl rfl) e⟩
 |tup xs=>obtain⟨z,A,r,g,e,c⟩:=x;exact⟨z,A,r,g,k _ _ (.inl rfl) e,c⟩
 |dK l=>obtain⟨z,y,E,r,g,s,i,e,c⟩:=x;exact⟨z,y,E,r,g,s,i,k _ _ (.inl rfl) e,c⟩
 |dT l=>
  obtain⟨z,y,xs,r,g,s,i,e,c⟩:=x;exact⟨z,y,xs,Paired.dR r λp q z=>⟨z.1,K _ _ z.2.1,z.2.2⟩,g,s,i,k _ _ (.inl rfl) e,c⟩
 |set S n=>obtain⟨g,s,i,t,e,c⟩:=qx4 x;exact⟨g,s,i,t,k _ _ (.inl rfl) e,c⟩
 |ins C dx Q=>
  obtain⟨d,z,G,e,m,⟨j,s,i,R,c⟩,r⟩:=x;exact⟨N _ d,z,G,k _ _ (.inl rfl) e,m,⟨j,s,i,k _ _ (.inr d) R,c⟩,r⟩
 |own y=>obtain⟨g,e⟩:=x;exact⟨g,k _ _ (.inl rfl) e⟩
 |xd Q=>obtain⟨m,⟨j,s,i,e,c⟩,r⟩:=x;exact⟨m,⟨j,s,i,k _ _ (.inl rfl) e,c⟩,r⟩
 |fS X Z=>obtain⟨t,u,v,e⟩:=x;exact⟨t,u,v,k _ _ (.inl rfl) e⟩
 |cw g u I=>obtain⟨e,q⟩:=x;exact⟨k _ _ (.inl rfl) e,I q⟩
 |lL V=>
  have e:=x;exact k a _ (.inl rfl) e
 |met f y=>
  have e:=x;exact k a _ (.inl rfl) e
 |ext T=>obtain⟨p,⟨o,e⟩,D⟩:=x;exact⟨D _ _ p λo q=>k _ _ (.inl rfl) q,⟨o,k _ _ (.inl rfl) e⟩,D⟩
theorem bH.lt(x:bH P w H h)(e:H a=some o):a<h.objs.size:=(x a o e).lt
theorem bH.fresh(x:bH P w H h)(e:h.objs.size<=a):H a=none:=by
 cases q:H a with
 |none=>rfl
 |some u=>exact absurd (zaC (x.lt q) e) (zaO _)
theorem bH.kept(x:bH P w H h)(k:∀b u,h.get? b=some u->h'.get? b=some u):bH P w H h':=λa o e=>
 (x a o e).ou (λb u _ q=>k b u q) (λ_ q=>q) λ_ _ q=>q
theorem bH.laid(x:bH P w H h)(k:∀b u,h.get? b=some u->h'.get? b=some u)(p:h.objs.size<=a)(n:cM P w (upd H a o) h' a o):bH P w (upd H a o) h':=λb u e=>by
 have d:=x.fresh p;by_cases f:b=a
 ·subst f;rw[aw] at e;cases e;exact n
 ·rw[ax f] at e;exact(x b u e).ou (λc v _ q=>k c v q) (λc q=>by rw[ax<|aM q d];exact q) λc s q=>by rw[ax<|aM q d];exact q
end
def Rd(H:Hp)(a:Addr)(u:HO):Prop:=H a=some u\/∃o,H a=some (.cw o u)
theorem Rd.ok{w:World}{H:Hp}{h:Heap}{a:Addr}{u:HO}(r:Rd H a u)(x:bH P w H h):cM P w H h a u:=by
 rcases r with r|⟨o,r⟩
 ·exact x a u r
 ·obtain⟨_,q⟩:=x a _ r;exact q
def uQ:Option HO->Prop
 |some (.lst _)=>True
 |some (.dK _)=>True
 |some (.dT _)=>True
 |some (.set _ _)=>True
 |some (.ins _ _ _)=>True
 |some (.ext _)=>True
 |_=>False
section
variable {P:Program}{w:World}{H:Hp}{h h':Heap}{x e:Addr}{o':HO}
theorem bH.write(o:bH P w H h)(m:uQ (H x))(i:e=x\/H e=some (.own x))(k:∀b u,b≠e->h.get? b=some u->h'.get? b=some u)(A:∃u,h'.get? e=some u)
  (n:cM P w (upd H x o') h' x o'):bH P w (upd H x o') h':=λb u q=>by
 have G:∀c y,H c=some (.own y)->c≠x:=λc y r z=>by subst z;rw[r] at m;exact m
 have R:∀c s,H c=some (.tup s)->c≠x:=λc s r z=>by subst z;rw[r] at m;exact m
 by_cases d:b=x
 ·subst d;rw[aw] at q;cases q;exact n
 ·rw[ax d] at q;by_cases f:b=e
  ·have g:H b=some (.own x):=by
    rcases i with z|z
    ·exact absurd (f.trans z) d
    ·rw[f];exact z
   rw[q] at g;cases g;obtain⟨v,j⟩:=A;exact⟨v,by lia⟩
  ·refine(o b u q).ou (λc v a r=>k c v ?_ r) (λc r=>by rw[ax<|G c b r];exact r) λc s r=>by rw[ax<|R c s r];exact r
   rcases a with rfl|a
   ·exact f
   ·rintro rfl;rcases i with z|z
    ·exact G c b a z
    ·rw[a] at z;cases z;exact d rfl
end
structure Un (fs ex:List Addr) (H H':Hp) (h h':Heap):Prop where
 keep:∀b o,h.get? b=some o->H b=none->b∉fs->b∉ex->h'.get? b=some o
 slot:∀b o,h.get? b=some o->H b=none->b∈fs->b∉ex->∃sl,h'.get? b=some {o with slots:=sl}
 free:∀b o,h.get? b=some o->H b=none->b∉ex->H' b=none
 there:∀b o,h.get? b=some o->b∉ex->∃o',h'.get? b=some o'
 dS:∀b xs,H b=some (.tup xs)->H' b=some (.tup xs)
 ic:∀b o u,H b=some (.cw o u)->H' b=some (.cw o u)
 iD:∀b ps,H b=some (.lL ps)->∃more,H' b=some (.lL<|ps++more)
section
variable {fs uR ex ex':List Addr}{H H1 H2:Hp}{h h1 h2 h':Heap}{a x e:Addr}{o:HO}
theorem Un.any(u:Un fs ex H H1 h h1){b:Addr}{c:Obj}(q:h.get? b=some c)(n:H b=none)(d:b∉ex):∃s,h1.get? b=some {c with slots:=s}:=by
 by_cases f:b∈fs
 ·exact u.slot b c q n f d
 ·exact⟨c.slots,u.keep b c q n f d⟩
theorem Un.kept(k:∀b u,h.get? b=some u->h'.get? b=some u):Un fs ex H H h h':=
 ⟨λb c q _ _ _=>k b c q,λb c q _ _ _=>⟨c.slots,k b c q⟩,λ_ _ _ n _=>n,λb c q _=>⟨c,k b c q⟩,λ_ _ q=>q,λ_ _ _ q=>q,λ_ p q=>⟨#[],by rw[q];simp⟩⟩
theorem Un.refl:Un fs ex H H h h:=Un.kept λ_ _ q=>q
theorem Un.laid(k:∀b u,h.get? b=some u->h'.get? b=some u)(p:h.objs.size<=a)(c:H a=none):Un fs ex H (upd H a o) h h' where
 keep:=λb u q _ _ _=>k b u q
 slot:=λb u q _ _ _=>⟨u.slots,k b u q⟩
 free:=λb u q n _=>by rw[ax<|zao<|zaC (Heap.lt_size q) p];exact n
 there:=λb u q _=>⟨u,k b u q⟩
 dS:=λb s q=>by rw[ax<|aM q c];exact q
 ic:=λb u s q=>by rw[ax<|aM q c];exact q
 iD:=λb d q=>⟨#[],by rw[ax<|aM q c,q];simp⟩
theorem Un.write(d:uQ (H x))(i:e=x\/H e=some (.own x))(k:∀b u,b≠e->h.get? b=some u->h'.get? b=some u)(A:∃u,h'.get? e=some u):Un fs ex H (upd H x o) h h':=by
 have f:∀b,H b=none->b≠x:=λb n z=>by subst z;rw[n] at d;exact d
 have g:∀b,H b=none->b≠e:=λb n z=>by
  subst z;rcases i with r|r
  ·exact f b n r
  ·rw[n] at r;cases r
 have m:∀b u,H b=some u-> ¬uQ (some u)->b≠x:=λb u q j z=>by lia
 refine⟨λb u q n _ _=>k b u (g b n) q,λb u q n _ _=>⟨u.slots,k b u (g b n) q⟩,λb u q n _=>by rw[ax (f b n)];exact n,λb u q _=>?_,
  λb s q=>by rw[ax (m b _ q λz=>z)];exact q,λb u s q=>by rw[ax (m b _ q λz=>z)];exact q,λb p q=>⟨#[],by rw[ax (m b _ q λz=>z),q];simp⟩⟩
 by_cases c:b=e
 ·subst c;exact A
 ·exact⟨u,k b u c q⟩
end
def lM(h:Heap)(H:Hp):List Addr:=(List.range h.objs.size).filter λa=>(H a).isSome
def mV(h:Heap)(H:Hp):Heap:=hideAll h (lM h H)
theorem RD(h:Heap)(H:Hp):(mV h H).objs.size=h.objs.size:=PySem.W.hideAll_size _ _
theorem RF{H:Hp}{b:Addr}{o:Obj}(e:h.get? b=some o)(n:H b=none):(mV h H).get? b=some o:=
 hideAll_get _ e λm=>by
  have q:=(List.mem_filter.mp m).2;rw[n] at q;simp at q
theorem RG{H:Hp}{b:Addr}{o:Obj}(e:(mV h H).get? b=some o):h.get? b=some o/\H b=none:=by
 have a:=of_hideAll (lM h H) e;refine⟨a,?_⟩;cases q:H b with
 |none=>rfl
 |some x=>
  have m:b∈lM h H:=List.mem_filter.mpr ⟨zbr.mpr<|Heap.lt_size a,by simp[q]⟩
  have z:(mV h H).get? b=none:=PySem.W.hideAll_none (lM h H) m;rw[z] at e;cases e
structure Mod (K:Frag) (mg:Str->Option Value) (base:Heap):Prop where
 uS:K.In base
 glob:base.Ns mainGlobals mg
 blt:∃mb,base.Ns builtinsNs mb/\∀x:Str,x≠"__name__"->mb x=bootBuiltins x
 nolimit:base.NoLimit
structure Cx where
 prog:Program
 w:World
 K:Frag
 mg:Str->Option Value
 base:Heap
 A:Around
 N:List Str
 s₀:Shared
 H₀:Hp
 env:Env
 outer:List Env
 stack:List Env
 ex:List Addr
 fn:Str->Bool
 calm:Bool
 pn:List (Addr×Obj)
 xe:Value->Shared->Prop
def bI(l:List Env):List Addr:=l.filterMap (·.frame)
abbrev Cx.fs(X:Cx):List Addr:=bI X.outer
def xS(s:Scope)(x:Str):Prop:=s.names.lookup x=some .local\/s.names.lookup x=some .cell\/s.names.lookup x=some .free
def Loc(s:Scope)(x:Str):Prop:=s.names.lookup x=some .local\/s.names.lookup x=some .cell
def Look(env:Env)(h:Heap)(m:Str->Option Value)(x:Str)(u:Value):Prop:=
 (env.kindOf x=some .local/\m x=some u)\/((env.kindOf x=some .cell\/env.kindOf x=some .free)/\∃c,env.cells.lookup x=some c/\h.IsCell c (some u))
structure Cx.Ok (X:Cx):Prop where
 mod:Mod X.K X.mg X.base
 kind:X.env.scope.kind=.function
 glob:X.env.globals=mainGlobals
 blt:X.env.builtins=builtinsNs
 above:X.s₀.heap.objs.size<=X.env.locals
 inj:∀x y c,X.env.cells.lookup x=some c->X.env.cells.lookup y=some c->x=y
 has:∀x,(X.env.kindOf x=some .cell\/X.env.kindOf x=some .free)->∃c,X.env.cells.lookup x=some c
 xT:∀x c,X.fn x=true->X.env.cells.lookup x=some c->X.s₀.heap.objs.size<=c
 hd:X.calm=true->X.A.handled=none
 frames:X.A.frames=some X.stack
 kr:X.stack=X.outer\/(X.stack=X.env::X.outer/\X.env.frame=some X.env.locals)
 RH:∀b∈X.ex,b≠X.env.locals/\∀x c,X.env.cells.lookup x=some c->c≠b
 bs:∀b o,X.base.get? b=some o->X.s₀.heap.get? b=some o/\X.H₀ b=none
 ql:X.base.objs.size<=X.s₀.heap.objs.size
 xU:∀b o,X.base.get? b=some o->b∉X.ex
 xV:∀b∈X.ex,b∉X.fs
 ku:X.s₀.heap.FunFrames X.base X.outer
 sC:∀b∈X.fs,X.H₀ b=none
structure Inv (X:Cx) (pins:List (Addr×Obj)) (σ:List (Option V)) (H:Hp) (s:Shared):Prop where
 ok:X.Ok
 os:s.os=X.s₀.os
 bare:AllBare s.gens
 base:Un X.fs X.ex X.H₀ H X.s₀.heap s.heap
 loc:∃m,s.heap.Ns X.env.locals m/\∀(i:Nat) (x:Str) (v:V),X.N[i]?=some x->σ[i]?=some (some v)->xS X.env.scope x->∃u,RelV v u/\Look X.env s.heap m x u
 cell:∀x c,X.env.cells.lookup x=some c->∃v,s.heap.IsCell c v
 free:H X.env.locals=none
 js:∀x c,X.env.cells.lookup x=some c->H c=none
 pin:∀p∈X.pn++pins,s.heap.get? p.1=some p.2/\H p.1=none/\p.1≠X.env.locals/\p.1∉X.fs/\∀v,p.2.data≠ .cell v
 aG:bH X.prog X.w H s.heap
 len:σ.length=X.N.length
section
variable {X:Cx}{pins:List (Addr×Obj)}{σ:List (Option V)}{H H':Hp}{s:Shared}{h':Heap}
theorem Cx.Ok.RJ(k:X.Ok){b:Addr}{o:Obj}(e:X.base.get? b=some o):b∉X.fs:=λh=>by
 have:=(k.ku.mem h).1;rw[e] at this;cases this
theorem Inv.bs(I:Inv X pins σ H s):∀b o,X.base.get? b=some o->s.heap.get? b=some o/\H b=none:=λb o e=>
 ⟨I.base.keep b o (I.ok.bs b o e).1 (I.ok.bs b o e).2 (I.ok.RJ e)<|I.ok.xU b o e,I.base.free b o (I.ok.bs b o e).1 (I.ok.bs b o e).2<|I.ok.xU b o e⟩
theorem Inv.bk(I:Inv X pins σ H s):∀b o,X.base.get? b=some o->s.heap.get? b=some o:=λb o e=>(I.bs b o e).1
theorem Inv.mod(I:Inv X pins σ H s):Mod X.K X.mg X.base:=I.ok.mod
theorem Inv.dU(I:Inv X pins σ H s):X.K.In s.heap:=I.ok.mod.uS.keeps I.bk
theorem Inv.lt(I:Inv X pins σ H s):X.env.locals<s.heap.objs.size:=let ⟨_,h,_⟩:=I.loc;h.lt
theorem Inv.sz(I:Inv X pins σ H s):X.s₀.heap.objs.size<=s.heap.objs.size:=zap I.ok.above (Nat.le_of_lt I.lt)
theorem Inv.GF(I:Inv X pins σ H s){a:Addr}(h:s.heap.objs.size<=a):a∉X.fs:=λc=>by
 obtain⟨_,o,b,_⟩:=I.ok.ku.mem c;exact absurd (zaC (Heap.lt_size b)<|zap I.sz h)<|zaO _
theorem Inv.qm(I:Inv X pins σ H s):∀x c,X.env.cells.lookup x=some c->c≠X.env.locals:=λx c e z=>by
 obtain⟨v,o,h,d⟩:=I.cell x c e;obtain⟨m,⟨a,b,p,Q,l,_⟩,_⟩:=I.loc;rw[z,Q] at h;cases h;rw[l] at d;cases d
theorem Inv.ku(I:Inv X pins σ H s):s.heap.FunFrames X.base X.outer:=by
 have f:∀(l:List Env),(∀b∈bI l,b∈X.fs)->X.s₀.heap.FunFrames X.base l->s.heap.FunFrames X.base l:=by
  intro l
  induction l with
  |nil=>intro _ _;trivial
  |cons v r i=>
   intro g m;obtain⟨p,⟨a,o,h,n,k,q⟩,j⟩:=m;have d:=g a (by unfold bI;rw[zbP,h];exact zax)
   obtain⟨t,e⟩:=I.base.slot a o k (I.ok.sC a d) d λz=>I.ok.xV a z d;exact⟨p,⟨a,_,h,n,e,q⟩,i (λb c=>g b (by unfold bI;rw[zbP,h];exact zay _ c)) j⟩
 exact f X.outer (λ_ c=>c) I.ok.ku
theorem Inv.stack(I:Inv X pins σ H s):s.heap.FunFrames X.base X.stack:=by
 rcases I.ok.kr with e|⟨e,f⟩
 ·rw[e];exact I.ku
 ·rw[e];obtain⟨m,h,_⟩:=I.loc;refine .cons (by rw[I.ok.kind];decide) f h ?_ I.ku
  exact Heap.get?_none_of_le<|zap I.ok.ql I.ok.above
theorem Inv.xW(I:Inv X pins σ H s):∀b∈bI X.stack,b∈X.env.locals::X.fs:=λb h=>by
 rcases I.ok.kr with e|⟨e,f⟩
 ·rw[e] at h;exact zay _ h
 ·rw[e] at h;unfold bI at h;rw[zbP,f] at h;exact h
theorem Inv.xX(I:Inv X pins σ H s):∀b∈bI X.stack,H b=none:=λb h=>by
 rcases zaa.mp (I.xW b h) with e|h
 ·rw[e];exact I.free
 ·obtain⟨_,o,a,_⟩:=I.ok.ku.mem h;exact I.base.free b o a (I.ok.sC b h) λz=>I.ok.xV b z h
theorem Inv.step{t':Nat}{d':Drawn}{ch:List Addr}(I:Inv X pins σ H s)
  (N:∀b∈ch,(b∈X.ex\/X.s₀.heap.objs.size<=b)/\b≠X.env.locals/\(∀x c,X.env.cells.lookup x=some c->c≠b)/\∀p∈X.pn++pins,p.1≠b)
  (a:∀b o,b≠X.env.locals->b∉X.fs->b∉ch->s.heap.get? b=some o->H b=none->h'.get? b=some o)
  (t:∀b o,b≠X.env.locals->b∈X.fs->b∉ch->s.heap.get? b=some o->H b=none->∃Q,h'.get? b=some {o with slots:=Q}) (f:∀b o,b∉ch->s.heap.get? b=some o->H b=none->H' b=none)
  (j:∀b o,b∉ch->s.heap.get? b=some o->∃C,h'.get? b=some C)
  (dS:∀b xs,H b=some (.tup xs)->H' b=some (.tup xs)) (ic:∀b o u,H b=some (.cw o u)->H' b=some (.cw o u)) (iD:∀b ps,H b=some (.lL ps)->∃D,H' b=some (.lL<|ps++D))
  (ns:∀m,s.heap.Ns X.env.locals m->h'.Ns X.env.locals m) (aG:bH X.prog X.w H' h') (hg:AllBare g'):
  Inv X pins σ H' {s with heap:=h',gens:=g',drawn:=d',toks:=t'}:=by
 have GG:∀b o,X.s₀.heap.get? b=some o->b≠X.env.locals:=λb o e=>zao (zaC (Heap.lt_size e) I.ok.above);have P:∀b o,X.s₀.heap.get? b=some o->b∉X.ex->b∉ch:=λb o e h y=>by
  rcases (N b y).1 with z|z
  ·exact h z
  ·exact absurd (zaC (Heap.lt_size e) z) (zaO _)
 have K:∀x c,X.env.cells.lookup x=some c->∀v,s.heap.IsCell c v->h'.IsCell c v:=λx c e v ⟨o,A,R⟩=>by
  have E:=λz=>(N c z).2.2.1 x c e rfl;by_cases hc:c∈X.fs
  ·obtain⟨Q,q⟩:=t c o (I.qm x c e) hc E A (I.js x c e);exact⟨_,q,R⟩
  ·exact⟨o,a c o (I.qm x c e) hc E A<|I.js x c e,R⟩
 refine⟨I.ok,I.os,hg,⟨λb o e n y h=>?_,λb o e n y h=>?_,λb o e n h=>?_,λb o e h=>?_,λb xs e=>dS b xs<|I.base.dS b xs e,λb o xs e=>ic b o xs<|I.base.ic b o xs e,λb ps e=>?_⟩,?_,λx c e=>?_,?_,λx c e=>?_,λp Z=>?_,aG,I.len⟩
 ·exact a b o (GG b o e) y (P b o e h) (I.base.keep b o e n y h) (I.base.free b o e n h)
 ·obtain⟨Q,g⟩:=I.base.slot b o e n y h;obtain⟨RK,G⟩:=t b _ (GG b o e) y (P b o e h) g (I.base.free b o e n h);exact⟨RK,G⟩
 ·obtain⟨C,g⟩:=I.base.there b o e h;exact f b C (P b o e h) g<|I.base.free b o e n h
 ·obtain⟨C,g⟩:=I.base.there b o e h;exact j b C (P b o e h) g
 ·obtain⟨m1,g⟩:=I.base.iD b ps e;obtain⟨m2,G⟩:=iD b _ g;exact⟨m1++m2,by rw[G,Array.append_assoc]⟩
 ·obtain⟨m,hn,hl⟩:=I.loc;refine⟨m,ns m hn,λi x v g G e3=>?_⟩;obtain⟨u,r,l⟩:=hl i x v g G e3;refine⟨u,r,?_⟩;rcases l with l|⟨k,c,e,z⟩
  ·exact .inl l
  ·exact .inr ⟨k,c,e,K x c e _ z⟩
 ·obtain⟨v,z⟩:=I.cell x c e;exact⟨v,K x c e v z⟩
 ·obtain⟨m,⟨o,_,_,A,_⟩,_⟩:=I.loc;exact f _ o (λz=>(N _ z).2.1 rfl) A I.free
 ·obtain⟨v,o,A,R⟩:=I.cell x c e;exact f c o (λz=>(N c z).2.2.1 x c e rfl) A<|I.js x c e
 ·obtain⟨e,n,T,S,d⟩:=I.pin p Z;have E:=λz=>(N p.1 z).2.2.2 p Z rfl;exact⟨a p.1 p.2 T S E e n,f p.1 p.2 E e n,T,S,d⟩
theorem Inv.un(I:Inv X pins σ H s)(u:Un X.fs [] H H' s.heap h')(G:bH X.prog X.w H' h'):Inv X pins σ H' {s with heap:=h',toks:=t'}:=by
 obtain⟨m,⟨o,j,p,a,r⟩,_⟩:=id I.loc;obtain⟨l,f⟩:=u.any a I.free (by simp)
 exact I.step (ch:=[]) (λ_ z=>nomatch z) (λb o _ h _ e n=>u.keep b o e n h (by lia)) (λb o _ h _ e n=>u.slot b o e n h (by simp)) (λb o _ e n=>u.free b o e n (by lia)) (λb o _ e=>u.there b o e (by lia)) u.dS u.ic u.iD (λi d=>by
  obtain⟨g,D,E,Q,c⟩:=d;rw[a] at Q;cases Q;exact⟨_,D,E,f,c⟩) G I.bare
theorem Inv.call{t':Nat}{q:Drawn}{ch:List Addr}(I:Inv X pins σ H s)(u:Un (bI X.stack) ch H H' s.heap h')(G:bH X.prog X.w H' h')(j:AllBare l)
  (f:∀b∈ch,(b∈X.ex\/X.s₀.heap.objs.size<=b)/\b≠X.env.locals/\(∀x c,X.env.cells.lookup x=some c->c≠b)/\∀p∈X.pn++pins,p.1≠b):
  Inv X pins σ H' {s with heap:=h',gens:=l,drawn:=q,toks:=t'}:=by
 obtain⟨m,⟨o,A,C,d,r⟩,_⟩:=id I.loc;obtain⟨t,a⟩:=u.any d I.free λz=>(f _ z).2.1 rfl;exact I.step f (λb o a k h e n=>u.keep b o e n (λz=>(zaa.mp (I.xW b z)).elim a k) h) (λb o _ _ h e n=>u.any e n h) (λb o h e n=>u.free b o e n h) (λb o h e=>u.there b o e h) u.dS u.ic u.iD (λy i=>by
  obtain⟨v,D,E,Q,g⟩:=i;rw[d] at Q;cases Q;exact⟨_,D,E,a,g⟩) G j
theorem Inv.turned{it:Addr}(I:Inv X pins σ H s)(k:∀b o,b≠it->s.heap.get? b=some o->h'.get? b=some o)(A:H it=none)(a:it≠X.env.locals)
  (l:it∈X.ex\/X.s₀.heap.objs.size<=it) (j:∀x c,X.env.cells.lookup x=some c->c≠it) (i:∀p∈X.pn++pins,p.1≠it):Inv X pins σ H {s with heap:=h',toks:=t'}:=by
 have G:∀b u,H b=some u->b≠it:=λb u e z=>by lia
 refine I.step (ch:=[it]) (λb g=>?_) (λb o _ _ h e _=>k b o (λz=>h (by simp[z])) e) (λb o _ _ h e _=>⟨o.slots,k b o (λz=>h (by simp[z])) e⟩) (λ_ _ _ _ n=>n)
  (λb o h e=>⟨o,k b o (λz=>h (by simp[z])) e⟩) (λ_ _ e=>e) (λ_ _ _ e=>e) (λb y e=>⟨#[],by rw[e];simp⟩) (λm f=>?_) (λb u e=>?_) I.bare
 ·have e:=by simpa using g
  subst e;exact⟨l,a,j,i⟩
 ·obtain⟨o,t,w,d,r⟩:=f;exact⟨o,t,w,k _ o (Ne.symm a) d,r⟩
 ·refine(I.aG b u e).ou (λc v h q=>k c v ?_ q) (λ_ q=>q) λ_ _ q=>q;rcases h with z|z
  ·rw[z];exact G b u e
  ·exact G c _ z
theorem Inv.tok(I:Inv X pins σ H s)(t:Nat):Inv X pins σ H {s with toks:=t}:=I.un Un.refl I.aG
theorem Inv.kept(I:Inv X pins σ H s)(k:∀b u,s.heap.get? b=some u->h'.get? b=some u):Inv X pins σ H {s with heap:=h',toks:=t'}:=I.un (Un.kept k) (I.aG.kept k)
theorem Inv.laid{a:Addr}{o:HO}{t':Nat}(I:Inv X pins σ H s)(k:∀b u,s.heap.get? b=some u->h'.get? b=some u)(h:s.heap.objs.size<=a)(n:cM X.prog X.w (upd H a o) h' a o):
  Inv X pins σ (upd H a o) {s with heap:=h',toks:=t'}:=I.un (Un.laid k h<|I.aG.fresh h) (I.aG.laid k h n)
theorem Inv.write{o:HO}{t':Nat}(I:Inv X pins σ H s)(m:uQ (H x))(h:e=x\/H e=some (.own x))(k:∀b u,b≠e->s.heap.get? b=some u->h'.get? b=some u)(A:∃u,h'.get? e=some u)
  (n:cM X.prog X.w (upd H x o) h' x o):Inv X pins σ (upd H x o) {s with heap:=h',toks:=t'}:=I.un (Un.write m h k A) (I.aG.write m h k A n)
theorem Inv.sD(I:Inv X pins σ H s)(h:∀p∈pins',s.heap.get? p.1=some p.2/\H p.1=none/\p.1≠X.env.locals/\p.1∉X.fs/\∀v,p.2.data≠ .cell v):Inv X pins' σ H s:=
 ⟨I.ok,I.os,I.bare,I.base,I.loc,I.cell,I.free,I.js,λp a=>(zab.mp a).elim (λz=>I.pin p<|zaG _ z)<|h p,I.aG,I.len⟩
theorem GI{N:List Str}(h:N.Nodup){i j:Nat}{x:Str}(a:N[i]?=some x)(b:N[j]?=some x):i=j:=by
 obtain⟨f,c⟩:=zad.mp a;obtain⟨d,e⟩:=zad.mp b;exact(List.getElem_inj h).mp<|c.trans e.symm
theorem GJ{A:Around}{E:Value->Shared->Prop}{i:Nat}{x:Str}{v:V}{u:Value}{Q:Unit->Shared->Prop}(I:Inv X pins σ H s)(hN:X.N.Nodup)(S:X.N[i]?=some x)(D:Loc X.env.scope x)(r:RelV v u)
  (h:∀s',Inv X pins (σ.set i<|some v) H s'->(∃a,Heap.SameBut a s.heap s'.heap/\(a=X.env.locals\/X.env.cells.lookup x=some a))->Q () s') (hf:X.fn x=true\/X.env.scope.names.lookup x=some .local:=by first|exact .inl rfl|exact .inr rfl|assumption):wpAny f A (storeName X.env x u) Q E s:=by
 obtain⟨m,hn,hl⟩:=id I.loc;have RL:(X.env.scope.kind==.class ||(X.env.scope.kind==.module && X.env.locals !=X.env.globals))=false:=I.ok.kind▸rfl
 have GK:i<σ.length:=by rw[I.len];exact(zad.mp S).1
 have qm:=I.qm;have t:∀{a:Addr}{h':Heap},(∃o,s.heap.get? a=some o/\H a=none)->Heap.SameBut a s.heap h'->bH X.prog X.w H h':=λ{a h'} ha g b ob e=>by
  obtain⟨_,_,sE⟩:=ha;refine(I.aG b ob e).ou (λc T C q=>(g.2 c ?_).trans q) (λ_ q=>q) λ_ _ q=>q;rintro rfl;rcases C with rfl|C
  ·rw[sE] at e;cases e
  ·rw[sE] at C;cases C
 rcases D with K|K
 ·refine wpAny_storeName_local K hn (λh' RM g=>?_) RL;obtain⟨oL,_,_,RN,_⟩:=id hn;refine h _ ⟨I.ok,I.os,I.bare,⟨λb o e n R D=>?_,λb o e n R D=>?_,I.base.free,λb o e D=>?_,I.base.dS,I.base.ic,I.base.iD⟩,⟨_,RM,λj y v' l G e3=>?_⟩,λy c e=>?_,I.free,I.js,λp hp=>?_,t ⟨oL,RN,I.free⟩ g,by simpa using I.len⟩ ⟨_,g,.inl rfl⟩
  ·exact(g.2 b<|zao<|zaC (Heap.lt_size e) I.ok.above).trans (I.base.keep b o e n R D)
  ·obtain⟨sl,l⟩:=I.base.slot b o e n R D;exact⟨sl,(g.2 b<|zao<|zaC (Heap.lt_size e) I.ok.above).trans l⟩
  ·obtain⟨o',l⟩:=I.base.there b o e D;exact⟨o',(g.2 b<|zao<|zaC (Heap.lt_size e) I.ok.above).trans l⟩
  ·by_cases P:j=i
   ·subst P;rw[S] at l;cases l;rw[List.getElem?_set_self GK] at G;cases G;exact⟨u,r,.inl ⟨K,by lia⟩⟩
   ·rw[List.getElem?_set_ne<|Ne.symm P] at G;obtain⟨u',r',q⟩:=hl j y v' l G e3;refine⟨u',r',?_⟩;rcases q with⟨k,e⟩|⟨k,c,e,z⟩
    ·refine .inl ⟨k,?_⟩;have:y≠x:=λe=>P (GI hN l<|e ▸ S)
     simp[this,e]
    ·exact .inr ⟨k,c,e,z.sameBut g<|qm y c e⟩
  ·obtain⟨T,z⟩:=I.cell y c e;exact⟨T,z.sameBut g<|qm y c e⟩
  ·obtain⟨e,n,Z,nf,d⟩:=I.pin p hp;exact⟨(g.2 p.1 Z).trans e,n,Z,nf,d⟩
 ·have BF:X.fn x=true:=by
   rcases hf with z|z
   ·exact z
   ·rw[z] at K;cases K
  obtain⟨c,C⟩:=I.ok.has x (.inl K);obtain⟨T,z⟩:=I.cell x c C;refine wpAny_storeName_cell I.ok.kind K C z<|λh' jO g=>?_;obtain⟨oc,GL,RO⟩:=id z;refine h {s with heap:=h'} ⟨I.ok,I.os,I.bare,⟨λb o e n R D=>?_,λb o e n R D=>?_,I.base.free,λb o e D=>?_,I.base.dS,I.base.ic,I.base.iD⟩,⟨m,hn.sameBut g<|Ne.symm<|qm x c C,λj y v' l G e3=>?_⟩,λy c' e=>?_,I.free,I.js,λp hp=>?_,t ⟨oc,GL,I.js x c C⟩ g,by simpa using I.len⟩ ⟨c,g,.inr C⟩
  ·exact(g.2 b<|zao<|zaC (Heap.lt_size e)<|I.ok.xT x c BF C).trans (I.base.keep b o e n R D)
  ·obtain⟨sl,l⟩:=I.base.slot b o e n R D;exact⟨sl,(g.2 b<|zao<|zaC (Heap.lt_size e)<|I.ok.xT x c BF C).trans l⟩
  ·obtain⟨o',l⟩:=I.base.there b o e D;exact⟨o',(g.2 b<|zao<|zaC (Heap.lt_size e)<|I.ok.xT x c BF C).trans l⟩
  ·by_cases P:j=i
   ·subst P;rw[S] at l;cases l;rw[List.getElem?_set_self GK] at G;cases G;exact⟨u,r,.inr ⟨.inl K,c,C,jO⟩⟩
   ·rw[List.getElem?_set_ne<|Ne.symm P] at G;obtain⟨u',r',q⟩:=hl j y v' l G e3;refine⟨u',r',?_⟩;rcases q with q|⟨k,c',e,z'⟩
    ·exact .inl q
    ·refine .inr ⟨k,c',e,z'.sameBut g ?_⟩;rintro rfl;exact P<|GI hN l<|I.ok.inj _ _ _ e C ▸ S
  ·by_cases GN:c'=c
   ·subst GN;exact⟨_,jO⟩
   ·obtain⟨w2,z2⟩:=I.cell y c' e;exact⟨w2,z2.sameBut g GN⟩
  ·obtain⟨e,n,Z,nf,d⟩:=I.pin p hp;refine⟨(g.2 p.1 ?_).trans e,n,Z,nf,d⟩;intro q;exact d T (by lia)
theorem GO{A:Around}{E:Value->Shared->Prop}{i:Nat}{x:Str}{v:V}{u:Value}{Q:Unit->Shared->Prop}(I:Inv X pins σ H s)(d:X.N.Nodup)(c:X.N[i]?=some x)(b:Loc X.env.scope x)(r:RelV v u)
  (h:∀s',Inv X pins (σ.set i<|some v) H s'->Q () s') (f:X.fn x=true\/X.env.scope.names.lookup x=some .local:=by first|exact .inl rfl|exact .inr rfl|assumption):wpAny a A (storeName X.env x u) Q E s:=
 GJ I d c b r (λs' e _=>h s' e) f
theorem Inv.BG{ch:List Addr}(I:Inv X pins σ H s)(h:s'.os=s.os)(u:Un (bI X.stack) ch H H' s.heap s'.heap)(G:bH X.prog X.w H' s'.heap)(g:AllBare s'.gens)
  (a:∀b∈ch,(b∈X.ex\/X.s₀.heap.objs.size<=b)/\b≠X.env.locals/\(∀x c,X.env.cells.lookup x=some c->c≠b)/\∀p∈X.pn++pins,p.1≠b):Inv X pins σ H' s':=by
 obtain⟨h',d,e,t,o⟩:=s';subst h;exact I.call u G g a
end
abbrev XK:=Value->Option Addr->Hp->Prop
abbrev St:=List (Option V)
abbrev VK:=V->Hp->Prop
abbrev TE:=St->Hp->VK->Prop
abbrev TT:=St->Hp->(Bool->Hp->Prop)->Prop
abbrev TA:=St->Hp->(List V->Hp->Prop)->Prop
structure Ends where
 nx:St->Hp->Prop
 rt:VK
 bk:St->Hp->Prop:=λ_ _=>False
 ct:St->Hp->Prop:=λ_ _=>False
abbrev TS:=Ends->St->Hp->Prop
inductive EP(X:Cx)(p:List (Addr×Obj))(a:St)(Q:VK)(u:Value)(s':Shared):Prop|i(v H)(_:Inv X p a H s')(_:RelV v u)(_:Q v H)
inductive TP(X:Cx)(p:List (Addr×Obj))(a:St)(Q:Bool->Hp->Prop)(b:Bool)(s':Shared):Prop|i(H)(_:Inv X p a H s')(_:Q b H)
inductive AP(X:Cx)(p:List (Addr×Obj))(a:St)(Q:List V->Hp->Prop)(u:List Value)(s':Shared):Prop|i(vs H)(_:Inv X p a H s')(_:Vals vs u)(_:Q vs H)
def SP(X:Cx)(p:List (Addr×Obj))(D:Ends)(f:Flow)(s':Shared):Prop:=
 match f with
 |.next=>∃a H,Inv X p a H s'/\D.nx a H
 |.brk=>∃a H,Inv X p a H s'/\D.bk a H
 |.cont=>∃a H,Inv X p a H s'/\D.ct a H
 |.ret u=>∃v a H,Inv X p a H s'/\RelV v u/\D.rt v H
def PE(X:Cx)(e:Expr)(t:TE):Prop:=
 ∀(p:List (Addr×Obj)) (s:Shared) (a:St) (H:Hp) (Q:VK),Inv X p a H s->t a H Q->wpAny (model X.prog X.w) X.A (eval e X.env) (EP X p a Q) X.xe s
def PT(X:Cx)(e:Expr)(t:TT):Prop:=
 ∀(p:List (Addr×Obj)) (s:Shared) (a:St) (H:Hp) (Q:Bool->Hp->Prop),Inv X p a H s->t a H Q->wpAny (model X.prog X.w) X.A (isTrue e X.env<|eval e X.env) (TP X p a Q) X.xe s
def PW(X:Cx)(e:Expr)(t:TT):Prop:=
 ∀(a:Sem Value) (p:List (Addr×Obj)) (s:Shared) (b:St) (H:Hp) (Q:Bool->Hp->Prop),Inv X p b H s->t b H Q->wpAny (model X.prog X.w) X.A (isTrue e X.env a) (TP X p b Q) X.xe s
theorem PW.pt{X:Cx}{e:Expr}{t:TT}(h:PW X e t):PT X e t:=h _
def PA(X:Cx)(e:List Expr)(t:TA):Prop:=
 ∀(b:Pos) (p:List (Addr×Obj)) (s:Shared) (a:St) (H:Hp) (Q:List V->Hp->Prop),Inv X p a H s->t a H Q->wpAny (model X.prog X.w) X.A (spliced<|backTo b<|starEach e X.env) (AP X p a Q) X.xe s
def PS(X:Cx)(st:Stmt)(t:TS):Prop:=
 ∀(p:List (Addr×Obj)) (s:Shared) (a:St) (H:Hp) (D:Ends),Inv X p a H s->t D a H->wpAny (model X.prog X.w) X.A (exec st X.env) (SP X p D) X.xe s
def eR(X:Cx)(st:List Stmt)(t:TS):Prop:=
 ∀(p:List (Addr×Obj)) (s:Shared) (a:St) (H:Hp) (D:Ends),Inv X p a H s->t D a H->wpAny (model X.prog X.w) X.A (execs st X.env) (SP X p D) X.xe s
theorem aL{t:Sem d}{Q c:d->Shared->Prop}{b:Model}{A:Around}{E:Value->Shared->Prop}{s:Shared}(h:wpAny b A t Q E s)(e:∀a s,Q a s->c a s):wpAny b A t c E s:=wpAny_mono h e λ_ _ x=>x
section
variable {X:Cx}
def BH(i:Nat):TE:=λa H Q=>∃v,a[i]?=some (some v)/\Q v H
def tC(v:V):TE:=λ_ H Q=>Q v H
theorem RP{x:Str}{a:Pos}(w:X.N[i]?=some x)(n:xS X.env.scope x)(d:(x==("__debug__":Str))=false:=by decide)(j:(x==("__classdict__":Str))=false:=by decide):PE X (.Name x a) (BH i):=by
 intro p s g H Q I h;obtain⟨v,e,h⟩:=h;obtain⟨m,o,t⟩:=I.loc;obtain⟨u,r,l⟩:=t i x v w e n;have f:EP X p g Q u s:=⟨v,H,I,r,h⟩;rcases l with⟨k,q⟩|⟨k,c,b,G⟩
 ·exact wpAny_Name (wpAny_loadName_local I.ok.kind k o q f) d
 ·rcases k with k|k
  ·exact wpAny_Name (wpAny_loadName_cell I.ok.kind k b G f) d
  ·exact wpAny_Name (wpAny_loadName_free I.ok.kind k b G f j) d
theorem RQ:PE X (.Constant (.int i) j p) (tC<|.int i):=λ_ _ _ H _ I h=>wpAny_Constant_int ⟨.int i,H,I.tok _,⟨_,rfl⟩,h⟩
theorem RT:PE X (.Constant (.bool b) j p) (tC<|.bl b):=λ_ _ _ H _ I h=>Constant_bool ⟨.bl b,H,I,rfl,h⟩
theorem RU:PE X (.Constant .none j p) (tC .av):=λ_ _ _ H _ I h=>Constant_none ⟨.av,H,I,rfl,h⟩
theorem RV:PE X (.Constant (.str x) j p) (tC<|.str x):=λ_ _ _ H _ I h=>Calls.Constant_str ⟨.str x,H,I.tok _,⟨_,rfl⟩,h⟩
def Gl(X:Cx)(x:Str):Prop:=X.env.kindOf x=some .globalImplicit
theorem xZ{p:List (Addr×Obj)}{s:Shared}{b:St}{H:Hp}{x:Str}{u:Value}{a:Pos}{Q:Value->Shared->Prop}(I:Inv X p b H s)(g:Gl X x)(m:X.mg x=some u)(h:Q u s)
  (d:(x==("__debug__":Str))=false:=by decide):wpAny (model X.prog X.w) X.A (eval (.Name x a) X.env) Q E s:=
 Calls.Name_function_global I.ok.kind g (Calls.loadGlobal_global (I.ok.glob▸I.mod.glob.keeps I.bk) m h) d
theorem uT{E:Value->Shared->Prop}{p:List (Addr×Obj)}{s:Shared}{b:St}{H:Hp}{x:Str}{u:Value}{a:Pos}{Q:Value->Shared->Prop}(I:Inv X p b H s)(g:Gl X x)(m:X.mg x=none)(v:bootBuiltins x=some u)(h:Q u s)
  (n:x≠"__name__":=by decide) (d:(x==("__debug__":Str))=false:=by decide):wpAny (model X.prog X.w) X.A (eval (.Name x a) X.env) Q E s:=by
 obtain⟨f,e,c⟩:=I.mod.blt;exact Calls.Name_function_global I.ok.kind g (Calls.loadGlobal_builtin (I.ok.glob▸I.mod.glob.keeps I.bk) m (I.ok.blt▸e.keeps I.bk) ((c x n).trans v) h) d
theorem GQ{v:V}{u:Value}{p:Pos}(g:Gl X x)(m:X.mg x=some u)(r:RelV v u)(d:(x==("__debug__":Str))=false:=by decide):PE X (.Name x p) (tC v):=
 λ_ _ _ H _ I h=>xZ I g m ⟨v,H,I,r,h⟩ d
theorem RW{v:V}{u:Value}{p:Pos}(g:Gl X x)(m:X.mg x=none)(a:bootBuiltins x=some u)(r:RelV v u)(n:x≠"__name__":=by decide)(d:(x==("__debug__":Str))=false:=by decide):PE X (.Name x p) (tC v):=
 λ_ _ _ H _ I h=>uT I g m a ⟨v,H,I,r,h⟩ n d
variable {a b:Expr}{ta tb:TE}{pos:Pos}
def PC(X:Cx)(o:CmpOp)(a b:Expr)(t:TE):Prop:=
 ∀(p:List (Addr×Obj)) (s:Shared) (e:St) (H:Hp) (Q:VK),Inv X p e H s->t e H Q->
  wpAny (model X.prog X.w) X.A (eval a X.env) (λv d=>wpAny (model X.prog X.w) X.A (eval b X.env) (λu c=>wpAny (model X.prog X.w) X.A (compareOp o v u) (EP X p e Q) X.xe c) X.xe d) X.xe s
def tB(t:TE):TT:=λd H Q=>t d H λx e=>∃c,x=.bl c/\Q c e
theorem GR{t:TE}(h:PC X o a b t)(e:behindInMarks o b=false:=by first|exact aiE _ (by decide) (by decide)|rfl):PT X (.Compare a [o] [b] pos) (tB t):=by
 intro p s f H Q I w;refine wpAny_isTrue_Compare1 (aL (h p s f H _ I w) λv n e=>aL e λu m i=>aL i λc l ⟨x,k,j,r,g⟩=>?_) e;obtain⟨d,rfl,q⟩:=g;cases r;exact wpAny_truthy_bool ⟨k,j,q⟩
variable {tA x9:TT}{rest:List Expr}
def GS(t u:TT):TT:=λd H Q=>t d H λc e=>if c=true then u d e Q else Q false e
def GU(t u:TT):TT:=λd H Q=>t d H λc e=>if c=true then Q true e else u d e Q
def GV(t:TT):TT:=λd H Q=>t d H λc e=>Q (!c) e
theorem pw_and1(ha:PT X a tA):PW X (.BoolOp .And [a] pos) tA:=by
 intro wh pins s σ H Q I h;refine isTrue_and<|aL (ha pins s σ H Q I h) λc s1 e=>?_;cases c with
 |true=>exact isTrue_and_nil e
 |false=>exact e
theorem pw_or1(ha:PT X a tA):PW X (.BoolOp .Or [a] pos) tA:=by
 intro wh pins s σ H Q I h;refine isTrue_or<|aL (ha pins s σ H Q I h) λc s1 e=>?_;cases c with
 |false=>exact isTrue_or_nil e
 |true=>exact e
theorem pw_and(ha:PT X a tA)(hb:PW X (.BoolOp .And (b::rest) pos) x9):PW X (.BoolOp .And (a::b::rest) pos) (GS tA x9):=by
 intro wh pins s σ H Q I h;refine isTrue_and<|aL (ha pins s σ H _ I h) λc s1 ⟨H1,I1,q1⟩=>?_;cases c with
 |true=>exact hb wh pins s1 σ H1 Q I1 q1
 |false=>exact⟨H1,I1,q1⟩
theorem pw_or(ha:PT X a tA)(hb:PW X (.BoolOp .Or (b::rest) pos) x9):PW X (.BoolOp .Or (a::b::rest) pos) (GU tA x9):=by
 intro wh pins s σ H Q I h;refine isTrue_or<|aL (ha pins s σ H _ I h) λc s1 ⟨H1,I1,q1⟩=>?_;cases c with
 |true=>exact⟨H1,I1,q1⟩
 |false=>exact hb wh pins s1 σ H1 Q I1 q1
theorem RX(e:PT X a tA):PT X (.UnaryOp .Not a pos) (GV tA):=by
 intro p s d H Q I h;exact isTrue_not (aL (e p s d H (λc f=>Q (!c) f) I h) λ_ _⟨a,b,c⟩=>⟨a,b,c⟩)
def GW(ta tb:TE):TE:=λd H Q=>ta d H λx e=>∃c,x=.bl c/\if c=true then tb d e Q else Q (.bl false) e
def RY(ta tb:TE):TE:=λd H Q=>ta d H λx e=>∃c,x=.bl c/\if c=true then Q (.bl true) e else tb d e Q
theorem RZ{t:TE}(h:PE X a t):PE X (.BoolOp o [a] pos) t:=λp s c H Q I w=>BoolOp_one (h p s c H Q I w)
theorem R0(j:PE X a ta)(i:PE X (.BoolOp .And (b::rest) pos) tb):PE X (.BoolOp .And (a::b::rest) pos) (GW ta tb):=by
 intro p s d H Q I h;refine BoolOp_and<|aL (j p s d H _ I h) λv g ⟨x,f,e,r,q⟩=>?_;obtain⟨c,rfl,q⟩:=q;cases r;refine wpAny_truthy_bool ?_;cases c with
 |true=>exact i p g d f Q e q
 |false=>exact⟨.bl false,f,e,rfl,q⟩
def GX(t:TT)(ta tb:TE):TE:=λd H Q=>t d H λc e=>if c=true then ta d e Q else tb d e Q
theorem R1(j:PT X c tA)(l:PE X a ta)(k:PE X b tb):PE X (.IfExp c a b pos) (GX tA ta tb):=by
 intro p s e H Q I h;refine wpAny_IfExp<|aL (j p s e H _ I h) λd f ⟨i,g,q⟩=>?_;cases d with
 |true=>exact l p f e i Q g q
 |false=>exact k p f e i Q g q
end
def aB(K:Frag)(H:Hp)(a:Addr)(xs:List V):Prop:=
 Rd H a (.lst xs)\/
  ∃(o:Obj) (q:Array Value) (n:Nat),K.lookup a=some o/\o.cls=.type "list"/\o.dict=none/\o.data=.seq q n/\q.size<=sizeLine/\Vals xs q.toList
def aK(K:Frag)(H:Hp)(a:Addr)(xs:List V):Prop:=
 Rd H a (.tup xs)\/
  ∃(o:Obj) (q:Array Value) (n:Nat),K.lookup a=some o/\o.cls=.type "tuple"/\o.data=.seq q n/\q.size<=sizeLine/\Vals xs q.toList
def R3:Value->Option V
 |.none=>some .av
 |.bool b=>some (.bl b)
 |.int i _=>some (.int i)
 |.str x _=>some (.str x)
 |.bytes b _=>some (.gR b)
 |.float b _=>some (.ot b)
 |.ref a=>some (.ref a)
 |.type n=>some (.ty n)
 |_=>none
theorem RelV.abs{u:Value}(r:RelV x u):R3 u=some x:=by
 cases x with
 |av=>cases r;rfl
 |bl _=>cases r;rfl
 |int _=>obtain⟨t,rfl⟩:=r;rfl
 |str _=>obtain⟨t,rfl⟩:=r;rfl
 |gR _=>obtain⟨t,rfl⟩:=r;rfl
 |ot _=>obtain⟨t,rfl⟩:=r;rfl
 |ref _=>cases r;rfl
 |ty _=>cases r;rfl
theorem RelV.inj{u:Value}(r:RelV x u)(q:RelV y u):x=y:=zar (r.abs.symm.trans q.abs)
theorem Vals.inj:∀{xs y:List V}{u:List Value},Vals xs u->Vals y u->xs=y:=by
 intro _ y _ p q;induction p generalizing y with
 |nil=>cases q;rfl
 |cons r t i=>cases q with|cons b a=>rw[r.inj b,i a]
section
variable {X:Cx}{pins:List (Addr×Obj)}{σ:St}{H:Hp}{s:Shared}{a:Addr}{xs ys:List V}
theorem aB.of{K:Frag}(h:H a=some (.lst xs)):aB K H a xs:=.inl (.inl h)
theorem aK.of{K:Frag}(h:H a=some (.tup xs)):aK K H a xs:=.inl (.inl h)
theorem Inv.list(I:Inv X pins σ H s)(h:aB X.K H a xs):∃q:List Value,Vals xs q/\PlainL s.heap a q.toArray/\xs.length<=sizeLine:=by
 rcases h with h|⟨o,q,n,k,c,d,b,f,r⟩
 ·obtain⟨z,q,n,r,e⟩:=h.ok I.aG;exact⟨q,r,⟨_,n,e,rfl,rfl,rfl⟩,z⟩
 ·refine⟨q.toList,r,⟨o,n,I.dU a o k,c,d,by simpa using b⟩,?_⟩
  have e:=r.length
  simp at e
  omega
theorem Inv.tuple(I:Inv X pins σ H s)(h:aK X.K H a xs):∃q:List Value,Vals xs q/\IsTup s.heap a q.toArray/\xs.length<=sizeLine:=by
 rcases h with h|⟨o,q,n,k,c,b,d,r⟩
 ·obtain⟨z,q,r,p⟩:=h.ok I.aG;exact⟨q,r,p,z⟩
 ·refine⟨q.toList,r,⟨o,I.dU a o k,c,n,by simpa using b⟩,?_⟩
  have e:=r.length
  simp at e
  omega
theorem Inv.R4(I:Inv X pins σ H s)(h:aB X.K H a xs)(h':aB X.K H a ys):xs=ys:=by
 obtain⟨q,r,⟨o,n,e,_,_,d⟩,_⟩:=I.list h;obtain⟨i,c,⟨f,g,b,_,_,j⟩,_⟩:=I.list h';rw[e] at b;cases b
 have:q=i:=by lia
 subst this;exact r.inj c
end
section
variable {X:Cx}{st:Stmt}{rest:List Stmt}{t u:TS}{e:Expr}{te:TE}{pos:Pos}
def BI:TS:=λD a H=>D.nx a H
def GY(t u:TS):TS:=λD a H=>t {D with nx:=u D} a H
theorem GZ:eR X [] BI:=λ_ _ a H _ I h=>wpAny_execs_nil ⟨a,H,I,h⟩
theorem R5(g:PS X st t)(d:eR X rest u):eR X (st::rest) (GY t u):=by
 intro p s b H D I h;refine wpAny_execs_cons<|aL (g p s b H {D with nx:=u D} I h) λf c q=>?_
 cases f with
 |next=>
  obtain⟨a,j,i,q⟩:=q;exact d p c a j D i q
 |ret v=>exact q
 |brk=>exact q
 |cont=>exact q
def R6:TS:=λD a H=>D.bk a H
def G0:TS:=λD a H=>D.ct a H
theorem R7:PS X (.Continue pos) G0:=λ_ _ a H _ I h=>wpAny_Continue ⟨a,H,I,h⟩
theorem Inv.quiet{a:St}{H:Hp}{s:Shared}(I:Inv X p a H s):interactive X.env=false:=by simp[interactive,I.ok.kind]
def G1(te:TE):TS:=λD a H=>te a H λ_ b=>D.nx a b
theorem R8(b:PE X e te)(hs:swapsWith e none pos.line X.env=pure false:=by rfl):PS X (.Expr e pos) (G1 te):=by
 intro p s a H D I h;exact wpAny_Expr_any (aL (b p s a H _ I h) λv f ⟨x,d,c,r,q⟩=>⟨a,d,c,q⟩) I.quiet hs
def G3(te:TE):TS:=λD a H=>te a H D.rt
theorem R9(b:PE X e te):PS X (.Return (some e) pos) (G3 te):=by
 intro p s a H D I h;exact wpAny_Return_some<|aL (b p s a H _ I h) λv f ⟨x,d,c,r,q⟩=>⟨x,a,d,c,r,q⟩
def G4:TS:=λD _ H=>D.rt .av H
theorem R_:PS X (.Return none pos) G4:=λ_ _ a H _ I h=>wpAny_Return_none ⟨.av,a,H,I,rfl,h⟩
def G5(c:TT)(t u:TS):TS:=λD a H=>c a H λb d=>if b=true then t D a d else u D a d
theorem Sa{a b:List Stmt}{g:TT}(l:PT X c g)(n:eR X a t)(m:eR X b u):PS X (.If c a b pos) (G5 g t u):=by
 intro p s f H D I h;refine wpAny_If<|aL (l p s f H _ I h) λd i ⟨k,j,q⟩=>?_;cases d with
 |true=>exact n p i f k D j q
 |false=>exact m p i f k D j q
def Sb:TS:=λ_ _ _=>False
end
abbrev TG:=V->St->Hp->(St->Hp->Prop)->Prop
abbrev lP:=List V->St->Hp->(St->Hp->Prop)->Prop
def PG(X:Cx)(a:Expr)(t:TG):Prop:=
 ∀(p:List (Addr×Obj)) (s:Shared) (c:St) (H:Hp) (v:V) (u:Value) (Q:St->Hp->Prop),Inv X p c H s->RelV v u->t v c H Q->
  wpAny (model X.prog X.w) X.A (assign a X.env u) (λ_ s'=>∃b d,Inv X p b d s'/\Q b d) X.xe s
def sG(X:Cx)(d:List Expr)(t:lP):Prop:=
 ∀(p:List (Addr×Obj)) (s:Shared) (b:St) (H:Hp) (vs:List V) (u:List Value) (Q:St->Hp->Prop),Inv X p b H s->Vals vs u->t vs b H Q->
  wpAny (model X.prog X.w) X.A (assignInOrder ((assignEach d X.env).map (·.2)) u) (λ_ s'=>∃a c,Inv X p a c s'/\Q a c) X.xe s
abbrev BJ:=V->V->V->Hp->(Hp->Prop)->Prop
def G6(X:Cx)(t:BJ):Prop:=
 ∀(p:List (Addr×Obj)) (s:Shared) (a:St) (H:Hp) (o i v:V) (b c u:Value) (Q:Hp->Prop),Inv X p a H s->RelV o b->RelV i c->RelV v u->t o i v H Q->
  wpAny (model X.prog X.w) X.A (setItem b c u) (λ_ s'=>∃d,Inv X p a d s'/\Q d) X.xe s
section
variable {X:Cx}{pos:Pos}
def gE(i:Nat):TG:=λv a H Q=>Q (a.set i<|some v) H
theorem x_{x:Str}(c:X.N.Nodup)(b:X.N[i]?=some x)(a:Loc X.env.scope x)(f:X.fn x=true\/X.env.scope.names.lookup x=some .local:=by first|exact .inl rfl|exact .inr rfl|assumption):PG X (.Name x pos) (gE i):=by
 intro p s e H v u Q I r h;exact wpAny_assign_Name<|GO I c b a r (λg d=>⟨_,H,d,h⟩) f
def BK:lP:=λvs a H Q=>vs=[]/\Q a H
def ya(t:TG)(u:lP):lP:=λvs b H Q=>∃v r,vs=v::r/\t v b H λa c=>u r a c Q
theorem G7:sG X [] BK:=by
 intro p s a H v u Q I r h;obtain⟨e,h⟩:=h;subst e;cases r;exact assignInOrder_nil ⟨a,H,I,h⟩
theorem BL{a:List Expr}{t:TG}{u:lP}(i:PG X e t)(g:sG X a u)
  (hs:(assignEach (e::a) X.env).map (·.2)=assign e X.env::(assignEach a X.env).map (·.2):=by rfl):sG X (e::a) (ya t u):=by
 intro p s c H m o Q I r h;obtain⟨v,n,j,h⟩:=h;subst j;cases r with
 |cons r f=>
  rw[hs];exact assignInOrder_cons<|aL (i p s c H _ _ _ I r h) λ_ d ⟨b,l,k,q⟩=>g p d b l _ _ Q k f q
def G8(K:Frag)(n:Nat)(t:lP):TG:=λv b H Q=>∃a xs,v=.ref a/\aK K H a xs/\xs.length=n/\t xs b H Q
theorem G9{k:Nat}{t:lP}{n:Nat}(y:X.calm=true)(h:sG X c t)
  (l:(assignEach c X.env).length=n:=by rfl) (g:(assignEach c X.env).findIdx? (·.1)=none:=by rfl):PG X (.Tuple c k pos) (G8 X.K n t):=by
 intro p s d H v u Q I r w;obtain⟨a,x,z,q,m,w⟩:=w;subst z;cases r;obtain⟨D,f,j,A⟩:=I.tuple q;refine assign_Tuple_tuple (I.ok.hd y) j (by simp[l,<-m,f.length]) g λC i=>?_
 exact h p _ d H x _ Q (I.kept λb o e=>i b o (zao<|Heap.lt_size e) e) (by lia) w
def G_(b c:TE)(t:BJ):TG:=λv a H Q=>b a H λo f=>c a f λi e=>t o i v e λd=>Q a d
theorem Se{d e:TE}{t:BJ}(n:PE X o d)(w:PE X i e)(hs:G6 X t)
  (N:∀v,assign (.Subscript o i pos) X.env v=(do
   let a <-holding [v] (eval o X.env)
   let b <-holding [v,a] (eval i X.env)
   standAt pos
   holding [v,a,b] (setItem a b v)
   release [v,a,b] []):=by intro _;rfl):PG X (.Subscript o i pos) (G_ d e t):=by
 intro p s c H v u Q I r h;exact wpAny_bind<|wpAny_holding<|aL (n p s c H _ I h) λa g ⟨x,G,C,k,m⟩=>wpAny_bind<|wpAny_holding<|aL (w p g c G _ C m) λb f ⟨y,E,A,j,l⟩=>wpAny_bind<|wpAny_standAt<|wpAny_bind<|wpAny_holding<|aL (hs p f c E x y v a b u _ A k j r l) λ_ K ⟨D,z,q⟩=>wpAny_release ⟨c,D,z,q⟩
def lQ(t:TE)(g:TG):TS:=λD a H=>t a H λx b=>g x a b D.nx
theorem Sf{e:Expr}{b:TE}{g:TG}(i:PE X e b)(f:PG X t g)(hs:swapsWithSole [t] e pos.line X.env=pure false:=by rfl)(w:swappedStores [t] e X.env=pure none:=by rfl)
  (j:(assignEach [t] X.env).map (·.2)=[assign t X.env]:=by rfl):PS X (.Assign [t] e pos) (lQ b g):=by
 intro p s a H D I h;refine wpAny_Assign_stores (aL (i p s a H _ I h) λv c ⟨x,l,k,r,d⟩=>?_) hs w;rw[j];exact aL (f p c a l x v _ k r d) λ_ m q=>q
theorem Sh{x:Str}{e:Expr}{t:TE}{p:Pos}(j:X.N.Nodup)(d:X.N[i]?=some x)(c:Loc X.env.scope x)(g:PE X e t)(hs:swapsWith e (some<|.Name x p) pos.line X.env=pure false:=by rfl)(f:X.fn x=true\/X.env.scope.names.lookup x=some .local:=by first|exact .inl rfl|exact .inr rfl|assumption):
  PS X (.Assign [.Name x p] e pos) (lQ t<|gE i):=by
 intro a s b H D I h;exact wpAny_Assign_Name (aL (g a s b H _ I h) λv o ⟨y,m,l,r,q⟩=>GO l j d c r (λn k=>⟨_,m,k,q⟩) f) hs
def Ha(c:TT)(t:TS):TS:=λD d H=>∃a:Nat->St->Hp->Prop,(∃m,a m d H)/\∀m d H,a m d H->
 c d H λb g=>if b=true then ∃N:St->Hp->Prop,(∀e h,N e h->∃f,f<m/\a f e h)/\t {D with nx:=N,ct:=N,bk:=D.nx} d g else D.nx d g
theorem Sj{y:List Stmt}{u:TT}{x:TS}(z:PassesOwn (model X.prog X.w) X.A X.env X.xe)(hc:PT X c u)(hb:eR X y x):PS X (.While c y [] pos) (Ha u x):=by
 intro p s Q H D I h;obtain⟨a,⟨m0,S⟩,t⟩:=h;refine wpAny_While<|codeAny_whileLoop (λn Z=>∃g P,Inv X p g P Z/\a n g P) ?_ m0 ⟨Q,H,I,S⟩;rintro n V ⟨e,K,I1,R⟩;refine wpAny_passesOwn z<|aL (hc p V e K _ I1<|t n e K R) λb T ⟨G,E,j⟩=>?_;cases b with
 |true=>
  obtain⟨N,C,j⟩:=j;refine wpAny_passesOwn z<|aL (hb p T e G _ E j) λf s3 q=>?_;cases f with
  |next=>
   obtain⟨d,i,r,l⟩:=q;obtain⟨m,o,k⟩:=C d i l;exact⟨m,o,d,i,r,k⟩
  |cont=>
   obtain⟨d,i,r,l⟩:=q;obtain⟨m,o,k⟩:=C d i l;exact⟨m,o,d,i,r,k⟩
  |brk=>exact q
  |ret v=>exact q
 |false=>
  exact wpAny_execs_nil ⟨e,G,E,j⟩
end
structure It where
 go:Nat->Hp->Prop
 iE:Nat->Hp->V->Hp->Prop
 stop:Nat->Hp->Prop
def jP(X:Cx)(s:List (Addr×Obj))(H:Hp)(b:Addr):Prop:=
 H b=none/\b≠X.env.locals/\b∉X.fs/\(b∈X.ex\/X.s₀.heap.objs.size<=b)/\(∀x c,X.env.cells.lookup x=some c->c≠b)/\∀p∈X.pn++s,p.1≠b
theorem Inv.Hc{a:List (Addr×Obj)}{f:St}{H d:Hp}{s:Shared}{b:Addr}(I:Inv X a f H s)(h:s.heap.objs.size<=b)(n:d b=none):jP X a d b:=by
 refine⟨n,Nat.ne_of_gt<|zaC I.lt h,I.GF h,.inr<|zap I.sz h,λx c e z=>?_,λp g z=>?_⟩
 ·obtain⟨v,q⟩:=I.cell x c e;exact absurd (zaC q.lt (by lia))<|zaO _
 ·exact absurd (zaC (Heap.lt_size (I.pin p g).1) (by lia)) (zaO _)
structure Turn (P:Program) (w:World) (K:Frag) (tg:Expr) (J:It) (fp:List Addr) (it:Addr) (tn:Nat->Heap->Prop):Prop where
 mem:it∈fp
 obj:∀i h,tn i h->∀b∈fp,∃o,h.get? b=some o/\∀v,o.data≠ .cell v
 keep:∀i h h',tn i h->(∀b∈fp,∀o,h.get? b=some o->h'.get? b=some o)->tn i h'
 item:∀(X:Cx),X.prog=P->X.w=w->X.K=K->X.calm=true->∀(i:Nat) (pins:List (Addr×Obj)) (s:Shared) (σ:St) (H:Hp) (E:Value->Shared->Prop),Inv X pins σ H s->(∀b∈fp,jP X pins H b)->tn i s.heap->J.go i H->
  wpAny (model P w) X.A (pyNext (.ref it)) (λr s1=>∃u,r=some u/\
   wpAny (model P w) X.A (letOwnedTupleGo tg (.ref it) u) (λ_ s2=>∃x H',Inv X pins σ H' s2/\RelV x u/\J.iE i H x H'/\tn (i+1) s2.heap/\∀b∈fp,H' b=none) E s1) E s
 done:∀(X:Cx),X.prog=P->X.w=w->X.K=K->X.calm=true->∀(i:Nat) (pins:List (Addr×Obj)) (s:Shared) (σ:St) (H:Hp) (E:Value->Shared->Prop),Inv X pins σ H s->(∀b∈fp,jP X pins H b)->tn i s.heap->J.stop i H->
  wpAny (model P w) X.A (pyNext<|.ref it) (λr s1=>r=none/\Inv X pins σ H s1) E s
 self:∀(A:Around) (i:Nat) (s:Shared) (Q:Value->Shared->Prop) (E:Value->Shared->Prop),tn i s.heap->Q (.ref it) s->wpAny (model P w) A (pyIter<|.ref it) Q E s
abbrev TI:=St->Hp->(It->Hp->Prop)->Prop
def He(X:Cx)(p:List (Addr×Obj))(c:St)(g:Expr)(R:It->Hp->Prop)(q:Value)(s:Shared):Prop:=
 ∃(it:Addr) (f:List Addr) (t:Nat->Heap->Prop) (a:It) (H:Hp),q=.ref it/\Inv X p c H s/\Turn X.prog X.w X.K g a f it t/\t 0 s.heap/\(∀b∈f,jP X p H b)/\R a H
def PI(X:Cx)(t i:Expr)(b:TI):Prop:=
 ∀(p:List (Addr×Obj)) (s:Shared) (a:St) (H:Hp) (R:It->Hp->Prop),Inv X p a H s->b a H R->
  wpAny (model X.prog X.w) X.A (eval i X.env) (λv c=>wpAny (model X.prog X.w) X.A (pyIter v) (He X p a t R) X.xe c) X.xe s
theorem Hf{A:Around}{E:Value->Shared->Prop}{s:Shared}{t:Expr}{it:Addr}{u:Value}{o:Obj}{n:String}{vs:Array Value}{Q:Unit->Shared->Prop}(b:s.heap.get? it=some o)(c:o.cls=.type n)(d:o.data=.fields vs)
    (e:["enumerate","zip","dict_itemiterator","dict_reverseitemiterator","odict_iterator","itertools.zip_longest","itertools.pairwise"].contains n=false) (h:Q () s):wpAny a A (letOwnedTupleGo t (.ref it) u) Q E s:=by
  cases t<;>first
    |exact wpAny_pure h
    | (cases u<;>first
        |exact wpAny_pure h
        | (refine wpAny_bind (wpAny_load b ?_)
           rw[c,d];show wpAny a A (if (["enumerate","zip","dict_itemiterator","dict_reverseitemiterator","odict_iterator","itertools.zip_longest","itertools.pairwise"].contains n && vs[0]?==some (rawInt _))=true then _ else _) Q E s
           rw[if_neg (by lia)]
           exact wpAny_pure h))
def ky(K:Frag)(a:Addr):It:=
 ⟨λi H=>∃xs x,aB K H a xs/\xs[i]?=some x,λi H x b=>b=H/\∀xs,aB K H a xs->xs[i]?=some x,λi H=>∃xs,aB K H a xs/\xs.length<=i⟩
def Sk(K:Frag)(a:Addr):It:=
 ⟨λi H=>∃xs x,aK K H a xs/\xs[i]?=some x,λi H x b=>b=H/\∀xs,aK K H a xs->xs[i]?=some x,λi H=>∃xs,aK K H a xs/\xs.length<=i⟩
def eo(lo:Int)(n:Nat):It:=⟨λi _=>i<n,λi H x a=>a=H/\x=.int (lo+i),λi _=>n<=i⟩
theorem Sl{w:World}{K:Frag}{tg:Expr}(a it:Addr):Turn P w K tg (ky K a) [it] it (λi h=>h.IsListIter it a i) where
 mem:=by simp
 obj:=λi h t b f=>by
  have e:=by simpa using f
  subst e;obtain⟨o,e,c,d⟩:=t;exact⟨o,e,λv z=>by lia⟩
 keep:=λi h T t k=>t.at λo e=>k it (by simp) o e
 item:=by
  intro X y m A S i g s V H E I j t n;subst y m A;obtain⟨Z,x,q,l⟩:=n;obtain⟨aq,r,p,hz⟩:=I.list q;obtain⟨u,hu,ru⟩:=r.get l;obtain⟨Q,N,f2,G,D,C⟩:=qa6 (j it (by simp))
  refine wpAny_pyNext_list_item t p.isList (by simpa using hu) λT R sb=>?_
  obtain⟨o,e,c,d⟩:=id R;exact⟨u,rfl,Hf e c d (rfl) ⟨x,H,(I.turned (λb o f e=>(sb.2 b f).trans e) Q N G D C),ru,⟨rfl,λys hy=>by rw[I.R4 hy q];exact l⟩,R,λb f=>(j b f).1⟩⟩
 done:=by
  intro X y m A S i g s V H E I j t n;subst y m A;obtain⟨Z,q,l⟩:=n;obtain⟨aq,r,p,hz⟩:=I.list q;obtain⟨Q,N,f2,G,D,C⟩:=qa6 (j it (by simp))
  have hl:=r.length;exact wpAny_pyNext_list_end (I.ok.hd S) t p.isList (by simp;omega) λT eb=>⟨rfl,I.turned (λb o f e=>eb b o f e) Q N G D C⟩
 self:=λ_ _ _ _ _ t h=>wpAny_pyIter_listiter t h
theorem Sm{w:World}{K:Frag}{N:Expr}(it:Addr)(lo:Int)(n:Nat):Turn P w K N (eo lo n) [it] it (λi h=>IsRangeIter h it (lo+(i:Nat)*1) ((n:Int) - (i:Nat)) 1) where
 mem:=by simp
 obj:=λi h a b c=>by
  have e:=by simpa using c
  subst e;exact⟨_,a,λv z=>by
   cases z⟩
 keep:=λi h j a k=>k it (by simp) _ a
 item:=by
  intro X C A D d i p s x H E I f a g;subst C A D;obtain⟨u,r,S,q,m,l⟩:=qa6 (f it (by simp))
  refine (Walks.range (I.ok.hd d) it lo 1 n).item i s _ _ g a λv j G R y Q=>?_;obtain⟨t,rfl⟩:=R;have V:Inv X p x H {s with heap:=j,toks:=G}:=I.turned (λb o c e=>Q b o (by simpa using c) e) u r q m l
  refine⟨_,rfl,Hf y rfl rfl (rfl) ⟨.int<|lo+i,H,V,⟨t,?_⟩,⟨rfl,rfl⟩,y,λb c=>(f b c).1⟩⟩
  rw[Int.mul_one]
 done:=by
  intro X C A D d i p s x H E I f a g;obtain⟨u,r,S,q,m,l⟩:=f it (by simp)
  exact wpAny_pyNext_range_end (I.ok.hd d) a (by have:n<=i:=g;omega) λj T=>⟨rfl,I.turned (λb o c e=>T b o c e) u r q m l⟩
 self:=λ_ _ _ _ _ a h=>wpAny_pyIter_rangeiter a h
section
variable {X:Cx}{tg:Expr}
def BM(K:Frag)(t:TE):TI:=λc H R=>t c H λx b=>∃a,x=.ref a/\(∃xs,aB K b a xs)/\R (ky K a) b
def Sn(K:Frag)(t:TE):TI:=λc H R=>t c H λx b=>∃a,x=.ref a/\(∃xs,aK K b a xs)/\R (Sk K a) b
theorem So{t:TE}(k:PE X l t):PI X tg l (BM X.K t):=by
 intro c s g H R I h;refine aL (k c s g H _ I h) λv f ⟨x,n,d,r,i⟩=>?_;obtain⟨a,e,⟨u,j⟩,q⟩:=i;subst e;cases r;obtain⟨y,w,p,z⟩:=d.list j;refine wpAny_pyIter_list p.isList (⟨f.heap.objs.size,[f.heap.objs.size],_,_,n,rfl,d.kept λb o e=>Heap.get?_push_of_some _ e,Sl a _,⟨_,Heap.get?_push_size _ rfl,rfl,rfl⟩,λb m=>?_,q⟩);have e:=by simpa using m
 subst e;exact d.Hc (zqR _)<|d.aG.fresh<|zqR _
theorem Hg{a:St}{H:Hp}{s:Shared}{R:It->Hp->Prop}{E:Value->Shared->Prop}{lo h:Int}{t u v:Tok}{k:Nat}(I:Inv X p a H s)(j: -(2 ^ 62)<=lo)(i:lo<2 ^ 62)(g: -(2 ^ 62)<=h)(f:h<2 ^ 62)
  (q:R (eo lo (h - lo).toNat) H):wpAny (model X.prog X.w) X.A (pyIter<|.ref s.heap.objs.size) (He X p a tg R) E {s with heap:=s.heap.push {cls:=.type "range",data:=.fields #[.int lo t,.int h u,.int 1 v]},toks:=k}:=by
 refine wpAny_pyIter_range (IsRange.new ..) (small_one j i g f) ?_;have c:Inv X p a H {s with heap:=s.heap.push {cls:=.type "range",data:=.fields #[.int lo t,.int h u,.int 1 v]},toks:=k}:=I.kept λb o e=>Heap.get?_push_of_some _ e
 refine⟨(s.heap.push {cls:=.type "range",data:=.fields #[.int lo t,.int h u,.int 1 v]}).objs.size,[(s.heap.push {cls:=.type "range",data:=.fields #[.int lo t,.int h u,.int 1 v]}).objs.size],_,_,H,rfl,
  c.kept λb o e=>Heap.get?_push_of_some _ e,Sm _ lo (h - lo).toNat,?_,λb d=>?_,q⟩
 ·have m:lo+((0:Nat):Int)*1=lo:=by lia
  have l:(((h - lo).toNat:Nat):Int) - ((0:Nat):Int)=Builtin.Range.rangeSize lo h 1:=by rw[rangeSize_one];split<;>omega
  rw[m,l];exact Heap.get?_push_size _ rfl
 ·have e:b=(s.heap.push {cls:=.type "range",data:=.fields #[.int lo t,.int h u,.int 1 v]}).objs.size:=by simpa using d
  subst e;exact c.Hc (zqR _)<|c.aG.fresh<|zqR _
def Hh(t:TA):TI:=λa H R=>t a H λvs b=>∃j:Int,vs=[.int j]/\ -(2 ^ 62)<=j/\j<2 ^ 62/\R (eo 0 j.toNat) b
def Hi(t:TA):TI:=λa H R=>t a H λvs b=>∃i j:Int,vs=[.int i,.int j]/\(-(2 ^ 62)<=i/\i<2 ^ 62/\ -(2 ^ 62)<=j/\j<2 ^ 62)/\R (eo i (j - i).toNat) b
theorem Sq{f:TA}{p b:Pos}(n:Gl X "range")(m:X.mg "range"=none)(o:PA X [a] f)(hs:starEach [a] X.env=[(false,eval a X.env)]:=by rfl):PI X tg (.Call (.Name "range" p) [a] [] b) (Hh f):=by
 intro c s g H R I h;refine Call_<|uT I n m boot_range<|PyProof.Rows.callWith_type1 (aL (o b c s g H _ I h) λw x ⟨v,y,u,k,d⟩=>?_) hs rfl;obtain⟨j,e,d,l,q⟩:=d;subst e;cases k with
 |cons r i=>
  cases i;obtain⟨t,rfl⟩:=r;exact call_range_1<|Hg u (by lia) (by lia) d l (by lia)
theorem Sr{k:TA}{p c:Pos}(x:Gl X "range")(w:X.mg "range"=none)(y:PA X [a,b] k)(hs:starEach [a,b] X.env=[(false,eval a X.env),(false,eval b X.env)]:=by rfl)(A:starEach [b] X.env=[(false,eval b X.env)]:=by rfl):
  PI X tg (.Call (.Name "range" p) [a,b] [] c) (Hi k):=by
 intro d s l H R I h;refine Call_<|uT I x w boot_range<|PyProof.Rows.callWith_type1 (aL (y c d s l H _ I h) λD G ⟨C,K,z,m,g⟩=>?_) (by lia) (A▸rfl)
 obtain⟨i,j,e,⟨g,v,u,o⟩,q⟩:=g;subst e;cases m with
 |cons r f=>
  cases f with
  |cons n f=>
   cases f;obtain⟨t,rfl⟩:=r;obtain⟨E,rfl⟩:=n;exact call_range_2<|Hg z g v u o q
def yb(w:TI)(g:TG)(t:TS):TS:=λD c H=>w c H λb k=>∃a:Nat->Nat->St->Hp->Prop,(∃m,a 0 m c k)/\∀i m c H,a i m c H->
 (b.stop i H/\D.nx c H)\/(b.go i H/\∃N:St->Hp->Prop,(∀d e,N d e->∃h,h<m/\a (i+1) h d e)/\∀x e,b.iE i H x e->g x c e λf j=>t {D with nx:=N,ct:=N,bk:=D.nx} f j)
def sI(f:List Addr)(h:Heap):List (Addr×Obj):=f.filterMap λb=>(h.get? b).map λo=>(b,o)
theorem yc{h:Heap}{b:Addr}{o:Obj}(a:b∈f)(e:h.get? b=some o):(b,o)∈sI f h:=zbR.mpr ⟨b,a,e▸rfl⟩
theorem Ss{h:Heap}{p:Addr×Obj}(a:p∈sI f h):p.1∈f/\h.get? p.1=some p.2:=by
 obtain⟨b,c,e⟩:=zbR.mp a;cases q:h.get? b with
 |none=>rw[q] at e;cases e
 |some o=>
  rw[q] at e;have d:=zar e;subst d;exact⟨c,q⟩
theorem Inv.pinned{c:St}{H:Hp}{s:Shared}{f:List Addr}(I:Inv X a c H s)(k:∀b∈f,jP X a H b)(j:∀b∈f,∃o,s.heap.get? b=some o/\∀v,o.data≠ .cell v):Inv X (a++sI f s.heap) c H s:=
 I.sD λp i=>(zab.mp i).elim (λz=>I.pin p<|zau _ z) λz=>by
  obtain⟨h,e⟩:=Ss z;obtain⟨n,m,l,_⟩:=qa4 (k p.1 h);obtain⟨o,g,d⟩:=j p.1 h;rw[e] at g;cases g;exact⟨e,n,m,l,d⟩
theorem Inv.BN{b:St}{H:Hp}{s:Shared}(I:Inv X (a++l) b H s):Inv X a b H s:=I.sD λp h=>I.pin p (zau _<|zaG _ h)
theorem Hj{K:List Stmt}{wi:TI}{g:TG}{tb:TS}{b':Pos}(V:PassesOwn (model X.prog X.w) X.A X.env X.xe)(hc:X.calm=true)(hi:PI X tg G wi)(hg:PG X tg g)(q:eR X K tb)
  (hs:∀x,foldedSetIterable G X.env x=pure x:=by intro _;rfl):PS X (.For tg G K [] b') (yb wi g tb):=by
 intro p s σ H D I h;refine wpAny_For (aL (hi p s σ H _ I h) λv s1 h1=>aL h1 λqo s2 h2=>?_) hs;obtain⟨it,Z,tn,c,H2,e,I2,T,uU,f2,a,⟨m0,w0⟩,P⟩:=h2;subst e;have qp:∀{C:Hp},(∀b∈Z,C b=none)->∀b∈Z,jP X p C b:=λhn b q=>⟨hn b q,(f2 b q).2⟩;refine codeAny_forLoop_any (λn s'=>∃i l C,Inv X p l C s'/\tn i s'.heap/\(∀b∈Z,C b=none)/\a i n l C) ?_ m0 ⟨0,σ,H2,I2,uU,λb q=>(f2 b q).1,w0⟩;rintro n s3 zq;obtain⟨i,k,H3,zq⟩:=qx3 zq;obtain⟨I3,Hk,Hl,w3⟩:=qa4 zq;rcases P i n k H3 w3 with⟨Q,qn⟩|⟨go,N,hN,R⟩
 ·refine wpAny_passesOwn V (aL (T.done X rfl rfl rfl hc i p s3 k H3 X.xe I3 (qp Hl) Hk Q) λr s4 ⟨hr,I4⟩=>?_);subst hr;exact wpAny_execs_nil ⟨k,H3,I4,qn⟩
 ·refine wpAny_passesOwn V (aL (T.item X rfl rfl rfl hc i p s3 k H3 X.xe I3 (qp Hl) Hk go) λr s4 ⟨u,hr,h4⟩=>?_);subst hr;refine wpAny_passesOwn V<|aL h4 λ_ s5 ⟨x,H5,I5,r5,y5,qq,BO⟩=>wpAny_passesOwn V<|aL (hg _ s5 k H5 x u _ (I5.pinned (qp BO) (T.obj _ _ qq)) r5<|R x H5 y5) λ_ s6 ⟨a',H6,I6,q6⟩=>wpAny_passesOwn V<|aL (q _ s6 a' H6 _ I6 q6) λf s7 E=>?_;have t:∀{j:St}{z:Hp},Inv X (p++sI Z s5.heap) j z s7->N j z->∃m,m<n/\∃i l C,Inv X p l C s7/\tn i s7.heap/\(∀b∈Z,C b=none)/\a i m l C:=λ{j z} y S=>by
   obtain⟨m',hm,w7⟩:=hN j z S;refine⟨m',hm,i+1,j,z,y.BN,T.keep _ _ _ qq λb q o e=>(y.pin (b,o)<|zau _<|zau _<|yc q e).1,λb q=>?_,w7⟩;obtain⟨o,e,d⟩:=T.obj _ _ qq b q;exact(y.pin (b,o)<|zau _<|zau _<|yc q e).2.1
  cases f with
  |next=>obtain⟨j,z,y,S⟩:=E;exact t y S
  |cont=>obtain⟨j,z,y,S⟩:=E;exact t y S
  |brk=>obtain⟨j,z,y,E⟩:=E;exact⟨j,z,y.BN,E⟩
  |ret v=>obtain⟨x7,j,z,zq⟩:=qx3 E;obtain⟨y,r7,E⟩:=qa3 zq;exact⟨x7,j,z,y.BN,r7,E⟩
end
theorem lR{K:Frag}{a:Addr}{xs:List V}{g:TG}{t:TS}{D:Ends}{c:St}{H:Hp}(P:Nat->St->Hp->Prop)(s:P 0 c H)(n:∀i c H,i<=xs.length->P i c H->aB K H a xs)
  (hs:∀i x c H,xs[i]?=some x->P i c H->g x c H λd j=>t {D with nx:=P (i+1),ct:=P (i+1),bk:=D.nx} d j) (r:∀c H,P xs.length c H->D.nx c H):
  ∃b:Nat->Nat->St->Hp->Prop,(∃m,b 0 m c H)/\∀i m c H,b i m c H->
   ((ky K a).stop i H/\D.nx c H)\/((ky K a).go i H/\∃N:St->Hp->Prop,(∀f h,N f h->∃k,k<m/\b (i+1) k f h)/\∀x h,(ky K a).iE i H x h->g x c h λd j=>t {D with nx:=N,ct:=N,bk:=D.nx} d j):=by
 refine⟨λi m c H=>m=xs.length - i/\i<=xs.length/\P i c H,⟨xs.length,rfl,zqZ _,s⟩,?_⟩
 rintro i m c H ⟨rfl,o,p⟩;have q:=n i c H o p;by_cases u:i<xs.length
 ·refine .inr ⟨⟨xs,xs[i],q,by simp⟩,P<|i+1,λf h l=>⟨xs.length - (i+1),by lia,rfl,u,l⟩,λx h y=>?_⟩
  obtain⟨e,y⟩:=y;subst e;exact hs i x c _ (y xs q) p
 ·have e:i=xs.length:=by lia
  subst e;exact .inl ⟨⟨xs,q,zqR _⟩,r c H p⟩
theorem BP{lo:Int}{n:Nat}{g:TG}{t:TS}{D:Ends}{b:St}{H:Hp}(P:Nat->St->Hp->Prop)(q:P 0 b H)
  (hs:∀i b H,i<n->P i b H->g (.int<|lo+i) b H λc j=>t {D with nx:=P (i+1),ct:=P (i+1),bk:=D.nx} c j) (o:∀b H,P n b H->D.nx b H):
  ∃a:Nat->Nat->St->Hp->Prop,(∃m,a 0 m b H)/\∀i m b H,a i m b H->
   ((eo lo n).stop i H/\D.nx b H)\/((eo lo n).go i H/\∃N:St->Hp->Prop,(∀d f,N d f->∃k,k<m/\a (i+1) k d f)/\∀x f,(eo lo n).iE i H x f->g x b f λc j=>t {D with nx:=N,ct:=N,bk:=D.nx} c j):=by
 refine⟨λi m b H=>m=n - i/\i<=n/\P i b H,⟨n,rfl,zqZ _,q⟩,?_⟩
 rintro i m b H ⟨rfl,r,p⟩;by_cases h:i<n
 ·refine .inr ⟨h,P<|i+1,λd f l=>⟨n - (i+1),by lia,rfl,h,l⟩,λx f y=>?_⟩
  obtain⟨e,y⟩:=y;subst e y;exact hs i b _ h p
 ·have e:i=n:=by lia
  subst e;exact .inl ⟨zqR _,o b H p⟩
abbrev R2:=V->V->Hp->VK->Prop
def bA(X:Cx)(f:Value->Value->Sem Value)(r:R2):Prop:=
 ∀(p:List (Addr×Obj)) (s:Shared) (a:St) (H:Hp) (x y:V) (v u:Value) (Q:VK),Inv X p a H s->RelV x v->RelV y u->r x y H Q->
  wpAny (model X.prog X.w) X.A (f v u) (EP X p a Q) X.xe s
def yd(X:Cx)(f:Value->Sem Value)(r:V->Hp->VK->Prop):Prop:=
 ∀(p:List (Addr×Obj)) (s:Shared) (a:St) (H:Hp) (x:V) (v:Value) (Q:VK),Inv X p a H s->RelV x v->r x H Q->
  wpAny (model X.prog X.w) X.A (f v) (EP X p a Q) X.xe s
def dD(X:Cx)(f:Value)(r:List V->Hp->VK->Prop):Prop:=
 ∀(p:List (Addr×Obj)) (s:Shared) (a:St) (H:Hp) (xs:List V) (u:List Value) (Q:VK),Inv X p a H s->Vals xs u->r xs H Q->
  wpAny (model X.prog X.w) X.A (call f u) (EP X p a Q) X.xe s
def Su(X:Cx)(r:V->Hp->(Bool->Hp->Prop)->Prop):Prop:=
 ∀(p:List (Addr×Obj)) (s:Shared) (a:St) (H:Hp) (x:V) (v:Value) (Q:Bool->Hp->Prop),Inv X p a H s->RelV x v->r x H Q->
  wpAny (model X.prog X.w) X.A (truthy v) (TP X p a Q) X.xe s
def gc(r:R2)(b t:TE):TE:=λa H Q=>b a H λx d=>t a d λy c=>r x y c Q
def Hn(r:V->Hp->VK->Prop)(t:TE):TE:=λa H Q=>t a H λx b=>r x b Q
def rI(C:Int->Int->Prop)(g:Int->Int->V):R2:=λx y H Q=>∃i j,x=.int i/\y=.int j/\C i j/\Q (g i j) H
def mW(g:Int->Int->V):R2:=λx y H Q=>∃i j,x=.int i/\y=.int j/\Q (g i j) H
def rU(g:Int->V):V->Hp->VK->Prop:=λx H Q=>∃i,x=.int i/\Q (g i) H
section
variable {X:Cx}{a b c:Expr}{ta tb tc:TE}{pos:Pos}
theorem BQ(z:PE X a ta)(t:PE X b tb){p:List (Addr×Obj)}{s:Shared}{d:St}{H:Hp}{R:V->V->Hp->Prop}(I:Inv X p d H s)
  (h:ta d H λx k=>tb d k λy e=>R x y e) {Q:Value->Shared->Prop}{f:Value->Value->Sem Value}
  (o:∀v u j x y e,Inv X p d e j->RelV x v->RelV y u->R x y e->wpAny (model X.prog X.w) X.A (f v u) Q X.xe j):
  wpAny (model X.prog X.w) X.A (eval a X.env) (λv i=>wpAny (model X.prog X.w) X.A (eval b X.env) (λu g=>wpAny (model X.prog X.w) X.A (f v u) Q X.xe g) X.xe i) X.xe s:=by
 exact aL (z p s d H _ I h) λv l ⟨x,k,D,m,n⟩=>aL (t p l d k _ D n) λu j ⟨y,e,C,r,q⟩=>o v u j x y e C m r q
theorem Sv{r:R2}(i:bA X (binaryOp o) r)(k:PE X a ta)(j:PE X b tb):PE X (.BinOp a o b pos) (gc r ta tb):=by
 intro p s d H Q I h;exact wpAny_BinOp<|BQ k j I h λv u e x y m l g f q=>i p e d m x y v u Q l g f q
theorem Sw{r:V->Hp->VK->Prop}(g:yd X (unaryOp o) r)(i:PE X a ta):PE X (.UnaryOp o a pos) (Hn r ta):=by
 intro p s d H Q I h;exact UnaryOp_<|aL (i p s d H _ I h) λv e ⟨x,k,j,f,q⟩=>g p e d k x v Q j f q
theorem ye{C:Int->Int->Prop}{g:Int->Int->Int}
  (r:∀(i j:Int) (t u:Tok) (s:Shared) (Q:Value->Shared->Prop) (E:Value->Shared->Prop),C i j->Q (.int (g i j) s.toks) {s with toks:=s.toks+1}->wpAny (model X.prog X.w) X.A (f (.int i t)<|.int j u) Q E s):
  bA X f (rI C λi j=>.int (g i j)):=by
 intro p s m H x y v u Q I k e h;obtain⟨i,j,rfl,rfl,l,q⟩:=h;obtain⟨t,rfl⟩:=k;obtain⟨d,rfl⟩:=e;exact r i j t d s _ _ l ⟨.int<|g i j,H,I.tok _,⟨_,rfl⟩,q⟩
theorem Ho{g:Int->Int->Int}
  (r:∀(i j:Int) (t u:Tok) (s:Shared) (Q:Value->Shared->Prop) (E:Value->Shared->Prop),Q (.int (g i j) s.toks) {s with toks:=s.toks+1}->wpAny (model X.prog X.w) X.A (f (.int i t)<|.int j u) Q E s):
  bA X f (mW λi j=>.int (g i j)):=by
 intro p s l H x y v u Q I k e h;obtain⟨i,j,rfl,rfl,q⟩:=h;obtain⟨t,rfl⟩:=k;obtain⟨d,rfl⟩:=e;exact r i j t d s _ _ ⟨.int<|g i j,H,I.tok _,⟨_,rfl⟩,q⟩
theorem yf{g:Int->Int->Bool}
  (r:∀(i j:Int) (t u:Tok) (s:Shared) (Q:Value->Shared->Prop) (E:Value->Shared->Prop),Q (.bool<|g i j) s->wpAny (model X.prog X.w) X.A (f (.int i t)<|.int j u) Q E s):
  bA X f (mW λi j=>.bl (g i j)):=by
 intro p s l H x y v u Q I k e h;obtain⟨i,j,rfl,rfl,q⟩:=h;obtain⟨t,rfl⟩:=k;obtain⟨d,rfl⟩:=e;exact r i j t d s _ _ ⟨.bl<|g i j,H,I,rfl,q⟩
def BR(i j:Int):Prop:=0<j/\j<1073741824
def Hq(i j:Int):Prop:=0<=j/\j<=1000000/\i.natAbs<2 ^ 64
def yg(i j:Int):Prop:=(-(2 ^ 64) <i/\i<2 ^ 64)\/(-(2 ^ 64) <j/\j<2 ^ 64)
theorem yg.ok(h:yg i j):IntMulOk i j:=by
 rcases h with⟨e,d⟩|⟨e,d⟩
 ·exact .of_left (intBits_le_64 e d)
 ·exact .of_right (intBits_le_64 e d)
theorem Sx:bA X (binaryOp .Add) (mW λi j=>.int (i+j)):=Ho λ_ _ _ _ _ _ _ q=>add_int q
theorem Sy:bA X (binaryOp .Sub) (mW λi j=>.int (i - j)):=Ho λ_ _ _ _ _ _ _ q=>sub_int q
theorem Sz:bA X (binaryOp .Mult) (rI yg λi j=>.int (i*j)):=ye λ_ _ _ _ _ _ _ h q=>mul_int q h.ok
theorem SA:bA X (binaryOp .FloorDiv) (rI BR λi j=>.int (i / j)):=ye λi j _ _ _ _ _ h q=>by
 have e:=h.1;have d:=h.2;exact floordiv_int (by omega) (by rw[Int.fdiv_eq_ediv_of_nonneg i (by omega)];exact q)<|.inl<|PyProof.noPylong_small (by omega)
theorem SD:bA X (binaryOp .Mod) (rI (λ_ j=>0<j) λi j=>.int (i % j)):=ye λi j _ _ _ _ _ h q=>by
 exact mod_int' (by lia) (by rw[Int.fmod_eq_emod_of_nonneg i (by omega)];exact q)
theorem SE:bA X (binaryOp .Pow) (rI Hq λi j=>.int (i ^ j.toNat)):=ye λ_ _ _ _ _ _ _ h q=>pow_int_small h.1 h.2.1 h.2.2 q
theorem SF{g:Int->Int}
  (r:∀(i:Int) (t:Tok) (s:Shared) (Q:Value->Shared->Prop) (E:Value->Shared->Prop),Q (.int (g i) s.toks) {s with toks:=s.toks+1}->wpAny (model X.prog X.w) X.A (f<|.int i t) Q E s):
  yd X f (rU λi=>.int (g i)):=by
 intro p s e H x v Q I d h;obtain⟨i,rfl,q⟩:=h;obtain⟨t,rfl⟩:=d;exact r i t s _ _ ⟨.int<|g i,H,I.tok _,⟨_,rfl⟩,q⟩
theorem SH:yd X (unaryOp .USub) (rU λi=>.int (-i)):=SF λ_ _ _ _ _ q=>neg_int q
end
def lS:V->V->Bool
 |.av,.av=>true|.av,.int _=>true|.int _,.av=>true|.av,.bl _=>true|.bl _,.av=>true|.av,.str _=>true|.str _,.av=>true
 |.int _,.int _=>true|.bl _,.bl _=>true|.str _,.str _=>true|.gR _,.gR _=>true
 |.int _,.str _=>true|.str _,.int _=>true|.bl _,.str _=>true|.str _,.bl _=>true
 |_,_=>false
def SI:R2:=λx y H Q=>lS x y=true/\Q (.bl<|decide<|x=y) H
def SJ:R2:=λx y H Q=>lS x y=true/\Q (.bl<|!decide (x=y)) H
theorem Hr:decide (V.int i=V.int j)=(i==j):=by lia
theorem Hs:decide (V.bl i=V.bl j)=(i==j):=by lia
theorem ie:decide (V.str i=V.str j)=(i==j):=by lia
theorem Ht:decide (V.gR i=V.gR j)=(i.toList==j.toList):=by
 rw[zbs];cases i;cases j
 simp
section
variable {X:Cx}{a b c:Expr}{ta tb tc:TE}{pos:Pos}
theorem cE{d:St}{H:Hp}{s:Shared}{Q:VK}{k f:Bool}(I:Inv X p d H s)(q:Q (.bl k) H)(e:k=f):EP X p d Q (.bool f) s:=by
 subst e;exact⟨.bl k,H,I,rfl,q⟩
theorem SK:bA X (compareOp .Eq) SI:=by
 intro p s g H x y v u Q I f r h;obtain⟨e,q⟩:=h;cases x with
 |av=>
  cases f;cases y with
  |av=>cases r;exact PySem.EqNone.eq_none_none (cE I q (rfl))
  |bl j=>cases r;exact PySem.EqNone.eq_none_bool (cE I q (rfl))
  |int j=>obtain⟨d,rfl⟩:=r;exact PySem.EqNone.eq_none_int (cE I q (rfl))
  |str j=>obtain⟨d,rfl⟩:=r;exact PySem.EqNone.eq_none_str (cE I q (rfl))
  |_=>exact absurd (show false=true from e) zas
 |bl i=>
  cases f;cases y with
  |av=>cases r;exact PySem.EqNone.eq_bool_none (cE I q (rfl))
  |bl j=>cases r;exact eq_bool (cE I q Hs)
  |str j=>obtain⟨d,rfl⟩:=r;exact PySem.EqMixed.eq_bool_str (cE I q (rfl))
  |_=>exact absurd (show false=true from e) zas
 |int i=>
  obtain⟨t,rfl⟩:=f;cases y with
  |av=>cases r;exact PySem.EqNone.eq_int_none (cE I q (rfl))
  |int j=>obtain⟨d,rfl⟩:=r;exact eq_int (cE I q Hr)
  |str j=>obtain⟨d,rfl⟩:=r;exact PySem.EqMixed.eq_int_str (cE I q (by simp))
  |_=>exact absurd (show false=true from e) zas
 |str i=>
  obtain⟨t,rfl⟩:=f;cases y with
  |av=>cases r;exact PySem.EqNone.eq_str_none (cE I q (by simp))
  |bl j=>cases r;exact PySem.EqMixed.eq_str_bool (cE I q (by lia))
  |int j=>obtain⟨d,rfl⟩:=r;exact PySem.EqMixed.eq_str_int (cE I q (by simp))
  |str j=>obtain⟨d,rfl⟩:=r;exact eq_str (cE I q ie)
  |_=>exact absurd (show false=true from e) zas
 |gR i=>
  obtain⟨t,rfl⟩:=f;cases y with
  |gR j=>obtain⟨d,rfl⟩:=r;exact PySem.W.eq_bytes (cE I q Ht)
  |_=>exact absurd (show false=true from e) zas
 |_=>cases y<;>exact absurd (show false=true from e) zas
theorem SM:bA X (compareOp .NotEq) SJ:=by
 intro p s g H x y v u Q I f r h;obtain⟨e,q⟩:=h;cases x with
 |av=>
  cases f;cases y with
  |av=>cases r;exact PySem.EqNone.ne_none_none (cE I q (rfl))
  |bl j=>cases r;exact PySem.EqNone.ne_none_bool (cE I q (rfl))
  |int j=>obtain⟨d,rfl⟩:=r;exact PySem.EqNone.ne_none_int (cE I q (rfl))
  |str j=>obtain⟨d,rfl⟩:=r;exact PySem.EqNone.ne_none_str (cE I q (rfl))
  |_=>exact absurd (show false=true from e) zas
 |bl i=>
  cases f;cases y with
  |av=>cases r;exact PySem.EqNone.ne_bool_none (cE I q (rfl))
  |bl j=>cases r;exact ne_bool (cE I q<|congrArg not Hs)
  |str j=>obtain⟨d,rfl⟩:=r;exact PySem.EqMixed.ne_bool_str (cE I q (rfl))
  |_=>exact absurd (show false=true from e) zas
 |int i=>
  obtain⟨t,rfl⟩:=f;cases y with
  |av=>cases r;exact PySem.EqNone.ne_int_none (cE I q (rfl))
  |int j=>obtain⟨d,rfl⟩:=r;exact ne_int (cE I q<|congrArg not Hr)
  |str j=>obtain⟨d,rfl⟩:=r;exact PySem.EqMixed.ne_int_str (cE I q (by simp))
  |_=>exact absurd (show false=true from e) zas
 |str i=>
  obtain⟨t,rfl⟩:=f;cases y with
  |av=>cases r;exact PySem.EqNone.ne_str_none (cE I q (by simp))
  |bl j=>cases r;exact PySem.EqMixed.ne_str_bool (cE I q (by simp))
  |int j=>obtain⟨d,rfl⟩:=r;exact PySem.EqMixed.ne_str_int (cE I q (by simp))
  |str j=>obtain⟨d,rfl⟩:=r;exact ne_str (cE I q<|congrArg not ie)
  |_=>exact absurd (show false=true from e) zas
 |gR i=>
  obtain⟨t,rfl⟩:=f;cases y with
  |gR j=>obtain⟨d,rfl⟩:=r;exact PySem.W.ne_bytes (cE I q<|congrArg not Ht)
  |_=>exact absurd (show false=true from e) zas
 |_=>cases y<;>exact absurd (show false=true from e) zas
theorem SN:bA X (compareOp .Lt) (mW λi j=>.bl (decide<|i<j)):=yf λ_ _ _ _ _ _ _ q=>lt_int q
theorem SO:bA X (compareOp .LtE) (mW λi j=>.bl (decide<|i<=j)):=yf λ_ _ _ _ _ _ _ q=>le_int q
theorem SQ:bA X (compareOp .Gt) (mW λi j=>.bl (decide<|j<i)):=yf λ_ _ _ _ _ _ _ q=>gt_int q
theorem SR:bA X (compareOp .GtE) (mW λi j=>.bl (decide<|j<=i)):=yf λ_ _ _ _ _ _ _ q=>ge_int q
theorem SS:bA X (compareOp .In) (λx y H Q=>∃i j,x=.str i/\y=.str j/\Q (.bl<|!(Builtin.Str.occurrences j i 0 j.length 1).isEmpty) H):=by
 intro p s e H x y v u Q I d r h;obtain⟨i,j,rfl,rfl,q⟩:=h;obtain⟨t,rfl⟩:=d;obtain⟨f,rfl⟩:=r;exact in_str<|cE I q rfl
theorem SU:bA X (compareOp .Is) (λx y H Q=>y=.av/\Q (.bl<|decide<|x=.av) H):=by
 intro p s e H x y v u Q I r d h;obtain⟨rfl,q⟩:=h;cases d;refine is_none_gen<|cE I q ?_;cases x<;>first
  | (cases r;rfl)
  | (obtain⟨t,rfl⟩:=r;rfl)
theorem SV:bA X (compareOp .IsNot) (λx y H Q=>y=.av/\Q (.bl<|!decide (x=.av)) H):=by
 intro p s e H x y v u Q I r d h;obtain⟨rfl,q⟩:=h;cases d;refine isnot_none_gen<|cE I q ?_;cases x<;>first
  | (cases r;rfl)
  | (obtain⟨t,rfl⟩:=r;rfl)
theorem SW:bA X (compareOp .NotIn) (λx y H Q=>∃i j,x=.str i/\y=.str j/\Q (.bl<|!(!(Builtin.Str.occurrences j i 0 j.length 1).isEmpty)) H):=by
 intro p s e H x y v u Q I d r h;obtain⟨i,j,rfl,rfl,q⟩:=h;obtain⟨t,rfl⟩:=d;obtain⟨f,rfl⟩:=r;exact notIn_str<|cE I q rfl
theorem bA.or{r r':R2}(h:bA X f r)(h':bA X f r'):bA X f (λx y H Q=>r x y H Q\/r' x y H Q):=by
 intro p s d H x y v u Q I g e q;rcases q with q|q
 ·exact h p s d H x y v u Q I g e q
 ·exact h' p s d H x y v u Q I g e q
theorem SX{r:R2}(i:bA X (compareOp o) r)(k:PE X a ta)(j:PE X b tb)(m:behindInMarks o b=false):PE X (.Compare a [o] [b] pos) (gc r ta tb):=by
 intro p s d H Q I h;exact wpAny_Compare1 (BQ k j I h λv u e x y n l g f q=>i p e d n x y v u Q l g f q) m
def sJ(t:TE):TT:=λd H Q=>t d H λx e=>∃k,x=.bl k/\Q k e
theorem SY{r:R2}(t:bA X (compareOp o) r)(C:PE X a ta)(A:PE X b tb)(w:behindInMarks o b=false):PT X (.Compare a [o] [b] pos) (sJ<|gc r ta tb):=by
 intro p s d H Q I h;refine wpAny_isTrue_Compare1 (aL (C p s d H _ I h) λv g ⟨x,P,G,l,n⟩=>aL (A p g d P _ G n) λu f ⟨y,N,E,j,m⟩=>
  aL (t p f d N x y v u _ E l j m) λc R ⟨z,K,D,i,k,e,q⟩=>?_) w
 subst e;cases i;exact wpAny_truthy_bool ⟨K,D,q⟩
def yh(r r':R2)(ta tb tc:TE):TE:=λd H Q=>ta d H λx h=>tb d h λy g=>r x y g λz e=>∃k,z=.bl k/\
 (if k=true then tc d e λw f=>r' y w f Q else Q (.bl false) e)
theorem S_{r r':R2}(R:bA X (compareOp o) r)(eQ:bA X (compareOp i) r')(Z:PE X a ta)(V:PE X b tb)(T:PE X c tc)
  (S:lastMarks [o,i] [b,c]=false:=by with_unfolding_all rfl):PE X (.Compare a [o,i] [b,c] pos) (yh r r' ta tb tc):=by
 intro p s f H Q I h;refine Compare_chain (aL (Z p s f H _ I h) λv C ⟨x,H1,I1,G,P⟩=>chain_link (aL (V p C f H1 _ I1 P) λu A ⟨y,H2,I2,g,N⟩=>
  aL (R p A f H2 x y v u _ I2 G g N) λd t ⟨z,l,j,E,k,e,q⟩=>?_)) S
 subst e;cases E;refine wpAny_truthy_bool ?_;cases k with
 |false=>exact ite_ff ⟨.bl false,l,j,rfl,q⟩
 |true=>exact ite_tt (chain_last<|aL (T p t f l _ j q) λw n ⟨m,H4,I4,D,K⟩=>eQ p n f H4 y m u w Q I4 g D K)
def Hu(K:Frag)(x:V)(H:Hp)(k:Bool):Prop:=
 match x with
 |.av=>k=false
 |.bl b=>k=b
 |.int i=>k=(i !=0)
 |.str y=>y.length<=sizeLine/\k=((y.length:Int) !=0)
 |.gR y=>y.size<=sizeLine/\k=((y.size:Int) !=0)
 |.ref p=>(∃xs,aB K H p xs/\k= !xs.isEmpty)\/(∃xs,aK K H p xs/\k= !xs.isEmpty)\/∃s,H p=some (.dK s)/\k= !s.isEmpty
 |_=>False
theorem Ta{k:List (d×V)}{vs:List (d×Value)}(r:KV k vs):(!vs.isEmpty)= !k.isEmpty:=by
 cases r<;>rfl
theorem Hv{q:List Value}(r:Vals xs q):(!q.toArray.isEmpty)= !xs.isEmpty:=by
 cases r<;>simp
theorem qr:(sizeLine:Nat) <2 ^ 63:=by decide
theorem Hw:Su X (λx H Q=>∃k,Hu X.K x H k/\Q k H):=by
 intro u s E H x v Q I f h;obtain⟨k,e,q⟩:=h;have N:=qr;have G:sizeLine=16777216:=sizeLine_eq;cases x with
 |av=>
  cases f;have d:k=false:=e;subst d;exact truthy_none ⟨H,I,q⟩
 |bl b=>
  cases f;have d:k=b:=e;subst d;exact wpAny_truthy_bool ⟨H,I,q⟩
 |int i=>
  obtain⟨t,rfl⟩:=f;have d:k=(i !=0):=e;subst d;exact PySem.P.truthy_int ⟨H,I,q⟩
 |str y=>
  obtain⟨t,rfl⟩:=f;obtain⟨C,d⟩:y.length<=sizeLine/\k=((y.length:Int) !=0):=e;subst d;exact PySem.P.truthy_str (by omega) ⟨H,I.tok _,q⟩
 |gR y=>
  obtain⟨t,rfl⟩:=f;obtain⟨C,d⟩:y.size<=sizeLine/\k=((y.size:Int) !=0):=e;subst d;exact PySem.W.truthy_bytes (by omega) ⟨H,I.tok _,q⟩
 |ref p=>
  cases f;have d:=e;rcases d with⟨A,j,d⟩|⟨A,j,d⟩|⟨g,j,d⟩
  ·subst d;obtain⟨D,r,o,z⟩:=I.list j;have n:=r.length;exact wpAny_truthy_list o.isList (by simp only[zak];omega) ⟨H,I.tok _,by rw[Hv r];exact q⟩
  ·subst d;obtain⟨D,r,o,z⟩:=I.tuple j;have n:=r.length;exact truthy_tuple o (by simp only[zak];omega) ⟨H,I.tok _,by rw[Hv r];exact q⟩
  ·subst d;obtain⟨z,S,l,r,m⟩:g.length<=sizeLine/\(p==sysModules)=false/\∃l,KV g l/\s.heap.DictOf (e8 X.prog X.w) p l:=I.aG p _ j;have n:=Paired.length r;exact wpAny_truthy_dict S m (by omega) ⟨H,I.tok _,by rw[Ta r];exact q⟩
 |_=>exact(show False from e).elim
theorem Tb:bA X (binaryOp .Add) (λx y H Q=>∃i j,x=.str i/\y=.str j/\i.length+j.length<=sizeLine/\Q (.str<|i++j) H):=by
 intro p s f H x y v u Q I e r h;obtain⟨i,j,rfl,rfl,z,q⟩:=h;obtain⟨t,rfl⟩:=e;obtain⟨d,rfl⟩:=r;exact add_str (λd k=>⟨.str<|i++j,H,I.tok _,⟨_,rfl⟩,q⟩) z
theorem vals1{s:List Value}(r:Vals [x] s):∃u,s=[u]/\RelV x u:=by
 cases r with
 |cons e d=>cases d;exact⟨_,rfl,e⟩
theorem vals2{s:List Value}(r:Vals [x,y] s):∃u w,s=[u,w]/\RelV x u/\RelV y w:=by
 cases r with
 |cons g f=>
  cases f with
  |cons e d=>cases d;exact⟨_,_,rfl,g,e⟩
theorem Tc(e:X.calm=true):dD X (.builtin "max") (λxs H Q=>∃i j,xs=[.int i,.int j]/\Q (.int (if j>i then j else i)) H):=by
 intro p s f H xs g Q I r h;obtain⟨i,j,rfl,q⟩:=h;obtain⟨u,w,rfl,⟨t,rfl⟩,⟨m,rfl⟩⟩:=vals2 r;refine max_two_ints (I.ok.hd e) λn l k=>⟨_,H,I.kept k,?_,q⟩;by_cases d:j>i
 ·rw[if_pos d,if_pos d];exact⟨_,rfl⟩
 ·rw[if_neg d,if_neg d];exact⟨_,rfl⟩
theorem Td(e:X.calm=true):dD X (.builtin "min") (λxs H Q=>∃i j,xs=[.int i,.int j]/\Q (.int (if j<i then j else i)) H):=by
 intro p s f H xs g Q I r h;obtain⟨i,j,rfl,q⟩:=h;obtain⟨u,w,rfl,⟨t,rfl⟩,⟨m,rfl⟩⟩:=vals2 r;refine min_two_ints (I.ok.hd e) λn l k=>⟨_,H,I.kept k,?_,q⟩;by_cases d:j<i
 ·rw[if_pos d,if_pos d];exact⟨_,rfl⟩
 ·rw[if_neg d,if_neg d];exact⟨_,rfl⟩
theorem Te:dD X (.type "int") (λxs H Q=>(∃i,xs=[.int i]/\Q (.int i) H)\/∃k,xs=[.bl k]/\Q (.int (if k then 1 else 0)) H):=by
 intro p s e H xs f Q I r h;rcases h with⟨i,rfl,q⟩|⟨k,rfl,q⟩
 ·obtain⟨u,rfl,t,rfl⟩:=vals1 r;exact call_int_int ⟨.int i,H,I,⟨_,rfl⟩,q⟩
 ·obtain⟨u,rfl,d⟩:=vals1 r;cases d;exact call_int_bool ⟨.int (if k then 1 else 0),H,I.tok _,⟨_,rfl⟩,q⟩
def Hx(K:Frag)(x:V)(H:Hp)(n:Nat):Prop:=
 match x with
 |.str y=>y.length<=sizeLine/\n=y.length
 |.gR y=>y.size<=sizeLine/\n=y.size
 |.ref p=>(∃xs,aB K H p xs/\n=xs.length)\/∃xs,aK K H p xs/\n=xs.length
 |_=>False
theorem Tf:dD X (.builtin "len") (λxs H Q=>∃x n,xs=[x]/\Hx X.K x H n/\Q (.int n) H):=by
 intro k s v H xs w Q I r h;obtain⟨x,n,rfl,e,q⟩:=h;obtain⟨u,rfl,g⟩:=vals1 r;have A:=sizeLine_eq;cases x with
 |str y=>
  obtain⟨t,rfl⟩:=g;obtain⟨m,f⟩:y.length<=sizeLine/\n=y.length:=e;subst f;exact len_str (by lia) ⟨.int _,H,I.tok _,⟨_,rfl⟩,q⟩
 |gR y=>
  obtain⟨t,rfl⟩:=g;obtain⟨m,f⟩:y.size<=sizeLine/\n=y.size:=e;subst f;exact PySem.W.len_bytes (by lia) ⟨.int _,H,I.tok _,⟨_,rfl⟩,q⟩
 |ref p=>
  cases g;have f:=e;rcases f with⟨xs,j,f⟩|⟨xs,j,f⟩
  ·subst f;obtain⟨o,i,l,z⟩:=I.list j;have d:=i.length;exact Calls.call_len_list l.isList (by simp;omega) ⟨.int xs.length,H,I.tok _,⟨_,by simp only[zak];rw[d]⟩,q⟩
  ·subst f;obtain⟨o,i,l,z⟩:=I.tuple j;have d:=i.length;exact len_tuple l (by simp;omega) ⟨.int xs.length,H,I.tok _,⟨_,by simp only[zak];rw[d]⟩,q⟩
 |_=>exact(show False from e).elim
end
structure qt (h:Heap) (x dx C:Addr) (mA:Str->Option Value):Prop where
 obj:h.get? x=some (instObj C dx)
 ns:h.Ns1 dx mA
 ne:dx≠x
theorem Tg{h:Heap}{x:Addr}{m:Str->Option Value}(n:h.Ns1 x m):∃d,h.get? x=some d/\∀b,lookIn b d=some (m b):=by
 obtain⟨o,s,p,f,i,k,_,g⟩:=n;refine⟨o,f,λb=>?_⟩;have e:=g b;unfold nsFind findBy at e;rw[<-Array.find?_toList] at e;unfold lookIn;rw[i]
 dsimp only
 split
 ·rename_i y q
  rw[q] at e;exact congrArg some e
 ·rename_i q
  rw[q] at e;have a:s.toList.any (·.refKey)=false:=by
   rw[List.any_eq_false];intro y c;obtain⟨z,t,T⟩:=k y (Array.mem_toList_iff.mp c)
   simp[DictEntry.refKey,T]
  have j:¬s.toList.any (·.refKey)=true:=by lia
  rw[if_neg j];exact congrArg some e
theorem qt.look{x d C:Addr}{m:Str->Option Value}(I:qt h x d C m):∃o,PySem.W.InstAt h x (instObj C d) C (some o)/\∀n,lookIn n o=some (m n):=
 let ⟨o,a,l⟩:=Tg I.ns
 ⟨o,⟨I.obj,rfl,rfl,a⟩,l⟩
section
variable {prog:Program}{w:World}{A:Around}{E:Value->Shared->Prop}{s:Shared}{K:Frag}{x dx C f:Addr}{mA:Str->Option Value}{name:Str}{v:Value}
theorem get_map{Q:Value->Shared->Prop}(X:K.In s.heap)(I:qt s.heap x dx C mA)(g:plainGet K C name=true)(c:hasDictIn K C=true)
  (d:PySem.W.findIn K (.ref C) name=some none) (b:mA name=some v) (S:handedIn v=true) (h:Q v {s with toks:=s.toks+1}):
  wpAny (model prog w) A (getAttr (.ref x) name e) Q E s:=by
 obtain⟨o,a,l⟩:=I.look;exact PySem.W.get_value X a (plainGet_of g).1 (PySem.W.findObj_own c d rfl (by rw[l,b])) S h
theorem Ti{Q:Value×List Value->Shared->Prop}(X:K.In s.heap)(I:qt s.heap x dx C mA)(g:plainGet K C name=true)
  (c:PySem.W.findIn K (.ref C) name=some (some<|.ref f)) (t:PySem.W.isFn K (.ref f)=true) (b:mA name=none) (h:Q (.ref f,[.ref x]) s):
  wpAny (model prog w) A (getMethod (.ref x) name p) Q E s:=by
 obtain⟨o,a,l⟩:=I.look;exact PySem.W.method_fn X a (plainGet_of g).1 (plainGet_of g).2 c (beq_iff_eq.mp t) (by show(lookIn name o).map (·.isSome)=some false;rw[l,b];rfl) h
theorem Tj{Q:Unit->Shared->Prop}(X:K.In s.heap)(I:qt s.heap x dx C mA)
  (hs:PySem.W.findIn K (.ref C) "__setattr__"=some (some<|.builtin "object.__setattr__")) (p:plainOver K C=true) (t:takerIn K C name=some none) (d:hasDictIn K C=true)
  (c:PySem.Within mA n) (z:n.length<=sizeLine)
  (h:∀h',qt h' x dx C (λy=>if y=name then some v else mA y)->Heap.SameBut dx s.heap h'->Q () {s with heap:=h',toks:=s.toks+2}):
  wpAny (model prog w) A (setAttr (.ref x) name v) Q E s:=by
 obtain⟨m,a,r⟩:=I.look;refine PySem.W.set_plain X a hs<|PySem.W.osa_open X a p t λb=>?_
 obtain⟨u,e,l⟩:=PySem.W.any_some d;refine wpAny_bind<|wpAny_pure<|wpAny_bind<|wpAny_bind<|wpAny_loadPart I.obj<|wpAny_bind<|PySem.W.Looks.here (PySem.W.looks_clsIn X e) ?_
 rw[l];refine wpAny_pure<|wpAny_bind<|wpAny_pure<|wpAny_bind (wpAny_nsSet1 I.ns λh' j k=>?_)
 obtain⟨q,D,g,zq⟩:=qx3 (j.count (PySem.Within.cons name v c));obtain⟨i,o,T⟩:=qa3 zq;refine wpAny_bind<|wpAny_lookBehind i (o▸pastItsLine_dict (zap T (by rw[zaz];omega))) ?_
 exact wpAny_pure<|h _ ⟨(k.2 _<|Ne.symm I.ne).trans I.obj,j,I.ne⟩ k
theorem Tq{vs:List Value}{k:List (Str×Value)}(X:K.In s.heap)(m:makesIn K C=true)
  (i:PySem.W.findIn K (.ref C) "__init__"=some (some<|.ref f)) (b:PySem.W.typeIn K (.ref f)=some (.type "function"))
  (h:codeAny (model prog w) (A.under (.builtin "type.__call__" ⟨.ref C::vs,k⟩)) (.call (.ref f) ⟨.ref (s.heap.objs.size+1)::vs,k⟩) (PySem.W.InitBack (s.heap.objs.size+1) R)
   {s with heap:=(s.heap.push emptyDict).push (instObj C s.heap.objs.size)}):
  codeAny (model prog w) A (.call (.ref C) ⟨vs,k⟩) R s:=by
 obtain⟨c,g,d,t,o⟩:=s;exact PySem.W.make_core (PySem.W.makes_of X m) (PySem.W.looks_findIn X i) (λa=>PySem.W.bind_fn X a b) (.inl rfl) h
end
def aI(f:Str)(v:V):List (Str×V)->List (Str×V)
 |[]=>[(f,v)]
 |(g,x)::r=>if g=f then (g,v)::r else (g,x)::aI f v r
theorem Hy(f g:Str)(v:V):∀s:List (Str×V),(aI f v s).lookup g=if g=f then some v else s.lookup g
 |[]=>by
  show List.lookup g [(f,v)]=_;by_cases h:g=f
  ·have b:=beq_iff_eq.mpr h
   simp only[List.lookup,b,if_pos h]
  ·have b:=beq_eq_false_iff_ne.mpr h
   simp only[List.lookup,b,if_neg h]
 |(k,x)::r=>by
  rw[show aI f v ((k,x)::r)=(if k=f then (k,v)::r else (k,x)::aI f v r) from rfl]
  by_cases a:k=f
  ·rw[if_pos a];by_cases h:g=k
   ·have b:=beq_iff_eq.mpr h
    simp only[List.lookup,b,if_pos<|h.trans a]
   ·have b:=beq_eq_false_iff_ne.mpr h
    simp only[List.lookup,b,if_neg (λe:g=f=>h (e.trans a.symm))]
  ·rw[if_neg a];by_cases h:g=k
   ·have b:(g==k)=true:=beq_iff_eq.mpr h
    simp only[List.lookup,b,if_neg (λe:g=f=>a (h.symm.trans e))]
   ·have b:=beq_eq_false_iff_ne.mpr h
    simp only[List.lookup,b]
    exact (Hy f g v r)
theorem BU(f:Str)(v:V):∀s:List (Str×V),f∈ (aI f v s).map (·.1)/\∀g,g∈s.map (·.1)->g∈ (aI f v s).map (·.1)
 |[]=>⟨by simp[aI],λg h=>by simp at h⟩
 |(k,x)::r=>by
  obtain⟨b,i⟩:=BU f v r;rw[show aI f v ((k,x)::r)=(if k=f then (k,v)::r else (k,x)::aI f v r) from rfl]
  by_cases a:k=f
  ·subst a;exact⟨by simp,λg h=>by simpa using h⟩
  ·rw[if_neg a];refine⟨?_,λg h=>?_⟩
   ·exact zay _ b
   ·rcases zaa.mp h with e|e
    ·exact zaa.mpr (.inl e)
    ·exact zay _ (i g e)
theorem Hz(f:Str)(v:V):∀s:List (Str×V),(aI f v s).length<=s.length+1
 |[]=>by simp[aI]
 |(k,x)::r=>by
  have i:=Hz f v r;rw[show aI f v ((k,x)::r)=(if k=f then (k,v)::r else (k,x)::aI f v r) from rfl]
  by_cases h:k=f
  ·rw[if_pos h,zaz,zaz];omega
  ·rw[if_neg h,zaz,zaz];omega
theorem gT.some_of{o:Option Value}(r:gT (some v) o):∃u,o=some u/\RelV v u:=by
 cases o with
 |none=>exact(show False from r).elim
 |some u=>exact⟨u,rfl,r⟩
theorem gT.none_of(r:gT none o):o=none:=by
 cases o with
 |none=>rfl
 |some u=>exact(show False from r).elim
theorem Tr{u:Value}(r:RelV v u):handedIn u=true:=by
 cases v with
 |av=>cases (show u=Value.none from r);rfl
 |bl b=>cases (show u=Value.bool b from r);rfl
 |int i=>obtain⟨t,e⟩:=(show ∃t,u=Value.int i t from r);cases e;rfl
 |str x=>obtain⟨t,e⟩:=(show ∃t,u=Value.str x t from r);cases e;rfl
 |gR b=>obtain⟨t,e⟩:=(show ∃t,u=Value.bytes b t from r);cases e;rfl
 |ot b=>obtain⟨t,e⟩:=(show ∃t,u=Value.float b t from r);cases e;rfl
 |ref a=>cases (show u=Value.ref a from r);rfl
 |ty n=>cases (show u=Value.type n from r);rfl
section
variable {P:Program}{w:World}{H H':Hp}{h h':Heap}{a C dx:Addr}{fs uR:List (Str×V)}
theorem yi(G:bH P w H h)(e:H a=some (.ins C dx fs)):∃m,qt h a dx C m/\(∀f,gT (fs.lookup f)<|m f)/\PySem.Within m (fs.map (·.1))/\fs.length<=1000/\H dx=some (.own a):=by
 obtain⟨d,z,b,o,m,n,r,q⟩:=(show cM P w H h a (.ins C dx fs) from G a _ e)
 exact⟨m,⟨o,n,b⟩,r,q,z,d⟩
end
structure e9 (K:Frag) (C:Addr):Prop where
 pg:plainGet K C Str.empty=true
 hd:hasDictIn K C=true
 po:plainOver K C=true
 sa:PySem.W.findIn K (.ref C) "__setattr__"=some (some<|.builtin "object.__setattr__")
theorem e9.get{K:Frag}{C:Addr}(c:e9 K C)(f:Str):plainGet K C f=true:=c.pg
def eE(K:Frag)(C:Addr)(f:Str):Prop:=PySem.W.findIn K (.ref C) f=some none
theorem eE.Ts{K:Frag}{C:Addr}{f:Str}(n:eE K C f):takerIn K C f=some none:=by
 unfold takerIn;rw[show PySem.W.findIn K (.ref C) f=some none from n]
 rfl
structure Meth (K:Frag) (C:Addr) (m:Str) (f:Addr):Prop where
 at_:PySem.W.findIn K (.ref C) m=some (some<|.ref f)
 fn:PySem.W.isFn K (.ref f)=true
 kp:PySem.W.keepIn K (.ref f)=true
section
variable {X:Cx}{pins:List (Addr×Obj)}{σ:St}{H:Hp}{s:Shared}{a C dx:Addr}{fs:List (Str×V)}{f:Str}{v:V}{A:Around}{E:Value->Shared->Prop}
theorem Tt{Q:Value->Shared->Prop}(I:Inv X pins σ H s)(e:H a=some (.ins C dx fs))(c:e9 X.K C)(n:eE X.K C f)(l:fs.lookup f=some v)
  (h:∀u s',Inv X pins σ H s'->RelV v u->Q u s'):wpAny (model X.prog X.w) A (getAttr (.ref a) f b) Q E s:=by
 obtain⟨m,d,r,_,_,_⟩:=yi I.aG e;obtain⟨u,i,g⟩:=gT.some_of (l▸r f)
 exact get_map I.dU d (c.get f) c.hd n i (Tr g)<|h u _ (I.tok _) g
theorem HB{g:Addr}{p:Sem Bool}{Q:Value×List Value->Shared->Prop}(I:Inv X pins σ H s)(e:H a=some (.ins C dx fs))(c:e9 X.K C)(k:Meth X.K C m g)(l:fs.lookup m=none)
  (h:Q (.ref g,[.ref a]) s):wpAny (model X.prog X.w) A (getMethod (.ref a) m p) Q E s:=by
 obtain⟨d,b,r,_,_,_⟩:=yi I.aG e
 exact Ti I.dU b (c.get m) k.at_ k.fn (gT.none_of (l▸r m)) h
theorem Tu{u:Value}{Q:Unit->Shared->Prop}(I:Inv X pins σ H s)(e:H a=some (.ins C dx fs))(c:e9 X.K C)(n:eE X.K C f)(R:fs.length<1000)(p:RelV y u)
  (h:∀s',Inv X pins σ (upd H a<|.ins C dx<|aI f y fs) s'->Q () s'):wpAny (model X.prog X.w) A (setAttr (.ref a) f u) Q E s:=by
 obtain⟨m,d,r,j,_,k⟩:=yi I.aG e;have t:(fs.map (·.1)).length<=sizeLine:=by rw[zae,sizeLine_eq];omega
 refine Tj I.dU d c.sa c.po n.Ts c.hd j t λN i l=>h _ ?_;have D:∃o,N.get? dx=some o:=let ⟨o,_,_,P,_⟩:=i.ns;⟨o,P⟩;refine I.write (e▸True.intro) (.inr k) (λb q G z=>(l.2 b G).trans z) D (⟨by rw[ax d.ne];exact k,?_,d.ne,i.obj,_,i.ns,λg=>?_,λg x=>?_⟩)
 ·have:=Hz f y fs;omega
 ·show gT ((aI f y fs).lookup g) (if g=f then some u else m g)
  rw[Hy];by_cases q:g=f
  ·rw[if_pos q,if_pos q];exact p
  ·rw[if_neg q,if_neg q];exact r g
 ·by_cases q:g=f
  ·rw[q];exact(BU f y fs).1
  ·refine(BU f y fs).2 g (j g λz=>x ?_);show(if g=f then some u else m g)=none
   rw[if_neg q];exact z
theorem Inv.made(I:Inv X pins σ H s):Inv X pins σ (upd (upd H s.heap.objs.size<|.own<|s.heap.objs.size+1) (s.heap.objs.size+1)<|.ins C s.heap.objs.size [])
  {s with heap:=(s.heap.push emptyDict).push (instObj C s.heap.objs.size)}:=by
 have c:(s.heap.push emptyDict).get? s.heap.objs.size=some emptyDict:=Heap.get?_push_size s.heap rfl;have i:=by
  have:=Heap.get?_push_size (s.heap.push emptyDict) (o:=instObj C s.heap.objs.size) rfl
  rwa [Heap.size_push] at this
 have g:(s.heap.push emptyDict).Ns s.heap.objs.size (λ_=>none):=⟨emptyDict,#[],_,c,rfl,(λe d=>absurd d (by simp)),λ_=>rfl⟩
 refine (I.laid (o:=.own (s.heap.objs.size+1)) (t':=s.toks) (λb u q=>Heap.get?_push_of_some _ q) (zqR _) ⟨_,c⟩).laid (λb u q=>Heap.get?_push_of_some _ q) (zbm<|Heap.size_push _ _) ?_;have n:s.heap.objs.size≠s.heap.objs.size+1:=zao (Nat.lt_succ_self _);refine⟨by rw[ax n,aw],zqZ _,n,i,λ_=>none,(Heap.Ns1.of_empty g).at λo q=>Heap.get?_push_of_some _ q,λ_=>True.intro,λy h=>absurd rfl h⟩
theorem Tv{w:World}{env:Env}{e:Expr}{f:Str}{c:Pos}{s:Shared}{Q:Value->Shared->Prop}(d:attributeBase e f env (eval e env)=eval e env)
  (h:wpAny (model p w) A (eval e env) (λo b=>wpAny (model p w) A (getAttr o f true) Q E b) E s):wpAny (model p w) A (eval (.Attribute e f c) env) Q E s:=
 Attribute_any_ h (by rw[arm_eval_Attribute,d])
end
def yj(K:Frag)(t:TE)(f:Str):TE:=λc H Q=>t c H λx b=>∃a C d s v,x=.ref a/\b a=some (.ins C d s)/\e9 K C/\eE K C f/\s.lookup f=some v/\Q v b
def yk(K:Frag)(e t:TE)(f:Str):TS:=λD b H=>t b H λy g=>e b g λx c=>∃a C d s,x=.ref a/\c a=some (.ins C d s)/\e9 K C/\eE K C f/\s.length<1000/\
 D.nx b (upd c a<|.ins C d<|aI f y s)
section
variable {X:Cx}{o e value:Expr}{f:Str}{pos pos' Tw:Pos}{ta tv:TE}
theorem Tx(g:PE X e ta)(i:attributeBase e f X.env (eval e X.env)=eval e X.env):PE X (.Attribute e f pos) (yj X.K ta f):=by
 intro p s b H Q I h;refine Tv i<|aL (g p s b H _ I h) λu A ⟨x,w,t,r,a,C,E,D,v,j,k,c,n,l,q⟩=>?_;subst j;obtain rfl:u=Value.ref a:=r;exact Tt t k c n l λy z m d=>⟨v,w,m,d,q⟩
theorem HC(k:PE X o ta)(j:PE X value tv)(hs:swapsWith value (some<|.Attribute o f pos') pos.line X.env=pure false):PS X (.Assign [.Attribute o f pos'] value pos) (yk X.K ta tv f):=by
 intro p s b H D I h;refine plainObj_wpAny_Assign_Attribute (aL (j p s b H _ I h) λu d ⟨y,E,A,r,q⟩=>aL (k p d b E _ A q) λv N ⟨x,R,z,g,a,C,Q,P,m,t,c,n,l,i⟩=>?_) hs;subst m;obtain rfl:v=Value.ref a:=g;exact Tu z t c n l r λG w=>⟨b,_,w,i⟩
end
section
variable {X:Cx}{pins:List (Addr×Obj)}{σ:St}{H:Hp}{s:Shared}{A:Around}{E:Value->Shared->Prop}{Q:Value->Shared->Prop}{c:Value}{b:Bool}
inductive jR (K:Frag) (H:Hp):V->Value->Prop where
 |av:jR K H .av (.type "NoneType")
 |bl (x:Bool):jR K H (.bl x) (.type "bool")
 |int (i:Int):jR K H (.int i) (.type "int")
 |str (x:Str):jR K H (.str x) (.type "str")
 |ot (x:UInt64):jR K H (.ot x) (.type "float")
 |lst {a:Addr}{xs:List V} (e:H a=some (.lst xs)):jR K H (.ref a) (.type "list")
 |cw {a:Addr}{o:Obj}{xs:List V} (e:H a=some (.cw o<|.lst xs)):jR K H (.ref a) (.type "list")
 |tup {a:Addr}{xs:List V} (e:H a=some (.tup xs)):jR K H (.ref a) (.type "tuple")
 |dK {a:Addr}{k:List (Key×V)} (e:H a=some (.dK k)):jR K H (.ref a) (.type "dict")
 |dT {a:Addr}{k:List (List Key×V)} (e:H a=some (.dT k)):jR K H (.ref a) (.type "dict")
 |ins {a C h:Addr}{g:List (Str×V)} (e:H a=some (.ins C h g)) (v:e9 K C) (p:PySem.W.findIn K (.ref C) "__class__"=some (some<|.builtin "object.__class__"))
   (n:specialIn K (.builtin "object.__class__") "__get__"=some (some<|.builtin "getset_descriptor.__get__")) (q:takesIn K (.builtin "object.__class__")=some true)
   (m:mroIn K C (.type "object")=some true):jR K H (.ref a) (.ref C)
theorem mX{u t:Value}(I:Inv X pins σ H s)(r:RelV x u)(D:jR X.K H x t)(e:kitOne X.K t c=some b)(h:∀G,Q (.bool b) {s with toks:=G}):
  wpAny (model X.prog X.w) A (call (.builtin "isinstance") [u,c]) Q E s:=by
 cases D with
 |av=>cases (show u=Value.none from r);exact kia_one PySem.W.kitx_none I.dU True.intro e (λz=>nomatch z) h
 |bl y=>cases (show u=Value.bool y from r);exact kia_one PySem.W.kitx_bool I.dU True.intro e (λz=>nomatch z) h
 |int i=>obtain⟨t,q⟩:=(show ∃t,u=Value.int i t from r);cases q;exact kia_one PySem.W.kitx_int I.dU True.intro e (λz=>nomatch z) h
 |str y=>obtain⟨t,q⟩:=(show ∃t,u=Value.str y t from r);cases q;exact kia_one PySem.W.kitx_str I.dU True.intro e (λz=>nomatch z) h
 |ot y=>obtain⟨t,q⟩:=(show ∃t,u=Value.float y t from r);cases q;exact kia_one PySem.W.kitx_float I.dU True.intro e (λz=>nomatch z) h
 | @lst a l g=>
  cases (show u=Value.ref a from r)
  obtain⟨_,_,n,_,j⟩:=(show cM X.prog X.w H s.heap a (.lst l) from I.aG a _ g)
  exact kia_one kitx_list I.dU ⟨_,j,rfl⟩ e (λz=>nomatch z) h
 | @cw a N l g=>
  cases (show u=Value.ref a from r)
  obtain⟨_,_,_,n,_,j⟩:=(show cM X.prog X.w H s.heap a (.cw N<|.lst l) from I.aG a _ g)
  exact kia_one kitx_list I.dU ⟨_,j,rfl⟩ e (λz=>nomatch z) h
 | @tup a l g=>
  cases (show u=Value.ref a from r)
  obtain⟨_,_,_,p⟩:=(show cM X.prog X.w H s.heap a (.tup l) from I.aG a _ g)
  obtain⟨o,j,m,_⟩:=p;exact kia_one PySem.W.kitx_tuple I.dU ⟨o,j,m⟩ e (λz=>nomatch z) h
 | @dK a k g=>
  cases (show u=Value.ref a from r)
  obtain⟨_,_,vs,_,p⟩:=(show cM X.prog X.w H s.heap a (.dK k) from I.aG a _ g)
  obtain⟨o,T,V,j,m,_⟩:=p;exact kia_one kitx_dict I.dU ⟨o,j,m.1⟩ e (λz=>nomatch z) h
 | @dT a k g=>
  cases (show u=Value.ref a from r)
  obtain⟨_,_,l,_,o,T,V,j,m,_⟩:=(show cM X.prog X.w H s.heap a (.dT k) from I.aG a _ g)
  exact kia_one kitx_dict I.dU ⟨o,j,m.1⟩ e (λz=>nomatch z) h
 | @ins a C dx fs g v S P Z R=>
  cases (show u=Value.ref a from r)
  obtain⟨mA,d,_⟩:=yi I.aG g;obtain⟨od,f,_⟩:=d.look;exact kia_one (PySem.W.kitx_own (v.get _) v.hd S P Z R) I.dU f e (λz=>nomatch z) h
end
structure dZ (k:Nat) (A:Around):Prop where
 hd:A.handled=none
 dp:A.depth+3*k+5<recursionLimit
 un:A.units+16*k+200<cLine
 gd:A.guards=some []:=by rfl
theorem dZ.mono{k:Nat}{A:Around}(r:dZ k A)(h:j<=k):dZ j A:=⟨r.hd,by have:=r.dp;omega,by have:=r.un;omega,r.gd⟩
theorem dZ.deeper{A:Around}(r:dZ (k+1) A)(env:Env):dZ k (A.deeper env):=
 ⟨r.hd,by have:=r.dp;show A.depth+1+3*k+5<_;omega,by have:=r.un;show A.units+3+16*k+200<_;omega,r.gd⟩
theorem Tz{A:Around}{C:Addr}{u:List Value}{k:List (Str×Value)}:(A.under<|.builtin "type.__call__" ⟨.ref C::u,k⟩).depth=A.depth+1:=rfl
theorem TB{A:Around}{C:Addr}{u:List Value}{k:List (Str×Value)}:(A.under<|.builtin "type.__call__" ⟨.ref C::u,k⟩).units=A.units+1:=rfl
theorem dZ.make{A:Around}(r:dZ (k+1) A)(C:Addr)(u:List Value)(w:List (Str×Value)):dZ k (A.under<|.builtin "type.__call__" ⟨.ref C::u,w⟩):=
 ⟨r.hd,by have:=r.dp;rw[Tz];omega,by have:=r.un;rw[TB];omega,by first|exact r.gd|simp⟩
theorem dZ.depth{A:Around}(r:dZ k A):A.depth<recursionLimit:=by have:=r.dp;omega
theorem dZ.units{A:Around}(r:dZ k A):A.units+64<cLine:=by have:=r.un;omega
def jS:TA:=λ_ H Q=>Q [] H
def fu(b:TE)(t:TA):TA:=λa H Q=>b a H λx d=>t a d λxs c=>Q (x::xs) c
section
variable {X:Cx}{e:Expr}{es:List Expr}{te:TE}{t:TA}{pos:Pos}
theorem yn:PA X [] jS:=λ_ _ _ _ H Q I h=>Calls.spliced_nil ⟨[],H,I,.nil,h⟩
theorem sM(i:PE X e te)(g:PA X es t)(hs:starEach (e::es) X.env=(false,eval e X.env)::starEach es X.env:=by rfl):PA X (e::es) (fu te t):=by
 intro pos p s a H Q I h;rw[hs];exact Calls.spliced_cons<|aL (i p s a H _ I h) λu c ⟨x,m,k,d,f⟩=>aL (g pos p c a m _ k f) λn o ⟨b,l,j,r,q⟩=>⟨x::b,l,j,.cons d r,q⟩
def HD(t:TA):TE:=λb H Q=>t b H λxs a=>xs.length<=sizeLine/\∀p,a p=none->Q (.ref p) (upd a p<|.tup xs)
def HE(t:TA):TE:=λb H Q=>t b H λxs a=>xs.length<=sizeLine/\∀p,a p=none->Q (.ref p) (upd a p<|.lst xs)
theorem TC(h:PA X es t):PE X (.Tuple es j pos) (HD t):=by
 intro p s d H Q I g;refine wpAny_Tuple_spliced<|aL (h pos p s d H _ I g) λf a ⟨x,i,c,r,z,q⟩=>⟨r.length▸z,⟨.ref a.heap.objs.size,upd i a.heap.objs.size<|.tup x,c.laid (λb u e=>Heap.get?_push_of_some _ e) (zqR _) ?_,rfl,q _ (c.aG.fresh (zqR _))⟩⟩;exact⟨z,f,r,⟨_,Heap.get?_push_size _ rfl,rfl,_,rfl⟩⟩
theorem TF(h:PA X es t):PE X (.List es pos) (HE t):=by
 intro p s d H Q I g;refine wpAny_List_spliced<|aL (h pos p s d H _ I g) λf a ⟨x,i,c,r,z,q⟩=>⟨r.length▸z,⟨.ref a.heap.objs.size,upd i a.heap.objs.size<|.lst x,c.laid (λb u e=>Heap.get?_push_of_some _ e) (zqR _) ?_,rfl,q _ (c.aG.fresh (zqR _))⟩⟩;exact⟨z,f,0,r,Heap.get?_push_size _ rfl⟩
end
abbrev Sp:=List V->Hp->VK->XK->Prop
abbrev cW:=List Env->Hp->Shared->XK->Value->Shared->Prop
structure oy (P:Program) (w:World) (K:Frag) (mg:Str->Option Value) (base:Heap) (A:Around) (outer:List Env) (s:Shared) (H:Hp):Prop where
 frames:A.frames=some outer
 mod:Mod K mg base
 bs:∀b o,base.get? b=some o->s.heap.get? b=some o/\H b=none
 ql:base.objs.size<=s.heap.objs.size
 ku:s.heap.FunFrames base outer
 sC:∀b∈bI outer,H b=none
 aG:bH P w H s.heap
 bare:AllBare s.gens
def CE(o:List Env)(P:Program)(w:World)(H:Hp)(s:Shared)(Q:VK)(u:Value)(s':Shared):Prop:=
 ∃v a,s'.os=s.os/\AllBare s'.gens/\Un (bI o) [] H a s.heap s'.heap/\bH P w a s'.heap/\RelV v u/\Q v a
def CR(CX:cW)(o:List Env)(P:Program)(w:World)(H:Hp)(s:Shared)(Q:VK)(E:XK)(r:Result)(s':Shared):Prop:=
 match r with
 |.ok (.ret u)=>CE o P w H s Q u s'
 |.ok _=>False
 |.error e=>CX o H s E e s'
structure dE (P:Program) (w:World) (K:Frag) (mg:Str->Option Value) (base:Heap) (CX:cW) (k:Nat) (f:Addr) (fd:FuncData) (ps:List Str) (sp:Sp):Prop where
 len:∀vs H Q E,sp vs H Q E->vs.length=ps.length
 run:∀(A:Around) (outer:List Env) (s:Shared) (H:Hp) (args:Args) (us:List Value) (vs:List V) (Q:VK) (E:XK),dZ k A->oy P w K mg base A outer s H->BindsTo s fd args (ps.zip us)->Vals vs us->sp vs H Q E->
  codeAny (model P w) A (.call (.ref f) args) (CR CX outer P w H s Q E) s
theorem dE.mono{w:World}{K:Frag}{m:Str->Option Value}{b:Heap}{CX:cW}{j k:Nat}{f:Addr}{d:FuncData}{ps:List Str}{sp:Sp}(a:dE P w K m b CX j f d ps sp)(h:j<=k):
  dE P w K m b CX k f d ps sp:=⟨a.len,λA o s H c u v Q E r=>a.run A o s H c u v Q E<|r.mono h⟩
theorem oy.make{w:World}{K:Frag}{m:Str->Option Value}{b:Heap}{A:Around}{o:List Env}{s:Shared}{H:Hp}(e:oy P w K m b A o s H)(C:Addr)(u:List Value)(k:List (Str×Value)):
  oy P w K m b (A.under<|.builtin "type.__call__" ⟨.ref C::u,k⟩) o s H:=⟨by first|exact e.frames| (simpa[Around.under,Code.envs,Code.isFrame,pushEnvs] using e.frames),e.mod,e.bs,e.ql,e.ku,e.sC,e.aG,e.bare⟩
section
variable {X:Cx}{pins:List (Addr×Obj)}{σ:St}{H:Hp}{s s':Shared}
theorem Inv.HF(I:Inv X pins σ H s):oy X.prog X.w X.K X.mg X.base X.A X.stack s H:=
 ⟨I.ok.frames,I.ok.mod,I.bs,zap I.ok.ql I.sz,I.stack,I.xX,I.aG,I.bare⟩
theorem Inv.after{u:Value}(I:Inv X pins σ H s)(h:CE X.stack X.prog X.w H s Q u s'):EP X pins σ Q u s':=by
 obtain⟨v,c,o,e,n,a,r,q⟩:=h;obtain⟨f,g,d,t,y⟩:=s';obtain rfl:y=s.os:=o;exact⟨v,c,I.call n a e<|λb z=>absurd z (by simp),r,q⟩
end
def BV(sp:Sp)(g:List V)(E:XK)(t:TA):TE:=λa H Q=>t a H λvs b=>sp (vs++g) b Q E
def mY(C:Addr)(m:Str)(sp:Sp)(g:List V)(E:XK)(d:TE)(t:TA):TE:=λb H Q=>d b H λx c=>∃a e f,x=.ref a/\c a=some (.ins C e f)/\f.lookup m=none/\
 t b c λvs h=>sp (x::(vs++g)) h Q E
def yp(C:Addr)(sp:Sp)(g:List V)(E:XK)(t:TA):TE:=λb H Q=>t b H λvs a=>∀x d,a x=none->a d=none->d≠x->
 sp (.ref x::(vs++g)) (upd (upd a d<|.own x) x<|.ins C d []) (λv c=>v=.av/\Q (.ref x) c) E
def Binds(K:Frag)(f:FuncData)(ps:List Str)(d:List Value):Prop:=
 ∀(s:Shared) (u:List Value),K.In s.heap->(u++d).length=ps.length->BindsTo s f ⟨u,[]⟩ (ps.zip<|u++d)
theorem Binds.all{K:Frag}{f:FuncData}{ps:List Str}(h:∀u:List Value,u.length=ps.length->bindArgs f ⟨u,[]⟩=pure (ps.zip u)):Binds K f ps []:=λs u _ l=>by
 rw[zac] at l⊢;exact .of_eq<|h u l
def Passes(CX:cW)(X:Cx)(E:XK):Prop:= ∀(p:List (Addr×Obj)) (a:St) (H:Hp) (s:Shared) (e:Value) (s':Shared),Inv X p a H s->CX X.stack H s E e s'->X.xe e s'
section
variable {X:Cx}{CX:cW}{k:Nat}{f C:Addr}{fd:FuncData}{ps:List Str}{sp:Sp}{gV:List V}{ds:List Value}{E:XK}{x m:Str}{p pos apos:Pos}{e o:Expr}{es:List Expr}{ta:TE}{t:TA}
theorem BW{d:St}{H:Hp}{s:Shared}{Q:VK}{c:List Value}{vs:List V}(a:dE X.prog X.w X.K X.mg X.base CX k f fd ps sp)(l:dZ k X.A)(v:Binds X.K fd ps ds)(n:Vals gV ds)(j:Passes CX X E)
  (I:Inv X b d H s) (r:Vals vs c) (h:sp (vs++gV) H Q E):wpAny (model X.prog X.w) X.A (call (.ref f) c) (EP X b d Q) X.xe s:=by
 have g:=r.append n
 refine wpAny_call<|codeAny_mono (a.run X.A X.stack s H ⟨c,[]⟩ (c++ds) (vs++gV) Q E l I.HF (v s c I.dU (g.length▸a.len _ _ _ _ h)) g h) λr i q=>?_;cases r with
 |error e=>exact j b d H s e i I q
 |ok y=>
  cases y with
  |ret u=>exact I.after q
  |next=>exact False.elim q
  |brk=>exact False.elim q
  |cont=>exact False.elim q
theorem TH(a:dE X.prog X.w X.K X.mg X.base CX k f fd ps sp)(i:dZ k X.A)(n:Gl X x)(j:X.mg x=some (.ref f))(l:PySem.W.keepIn X.K (.ref f)=true)(D:Binds X.K fd ps ds)(y:Vals gV ds)(g:Passes CX X E)
  (G:PA X (e::es) t) (u:(x==("__debug__":Str))=false:=by decide) (v:starEach (e::es) X.env=(false,eval e X.env)::starEach es X.env:=by rfl) (z:(backTo pos<|starEach es X.env).any (·.1)=false:=by rfl):
  PE X (.Call (.Name x p) (e::es) [] pos) (BV sp gV E t):=by
 intro b s d H Q I h;exact wpAny_Call_Name_kw<|xZ I n j (callWith_K I.ok.mod.uS l (aL (G pos b s d H _ I h) λP R ⟨N,S,c,r,q⟩=>⟨c.dU,BW a i D y g c r q⟩) v z) u
structure Mk (K:Frag) (C f:Addr):Prop where
 makes:makesIn K C=true
 init:PySem.W.findIn K (.ref C) "__init__"=some (some<|.ref f)
 fn:PySem.W.isFn K (.ref f)=true
 kp:PySem.W.keepIn K (.ref C)=true
theorem TJ{l:St}{H:Hp}{s:Shared}{Q:VK}{c:List Value}{vs:List V}(a:Mk X.K C f)(b:dE X.prog X.w X.K X.mg X.base CX k f fd ps sp)(N:dZ (k+1) X.A)(S:Binds X.K fd ps ds)(R:Vals gV ds)
  (G:Passes CX X E) (I:Inv X d l H s) (r:Vals vs c)
  (h:∀x i,H x=none->H i=none->i≠x->sp (.ref x::(vs++gV)) (upd (upd H i<|.own x) x<|.ins C i []) (λv H2=>v=.av/\Q (.ref x) H2) E):
  wpAny (model X.prog X.w) X.A (call (.ref C) c) (EP X d l Q) X.xe s:=by
 have q:=h (s.heap.objs.size+1) s.heap.objs.size (I.aG.fresh<|Nat.le_succ _) (I.aG.fresh<|zqR _) (zao<|Nat.lt_succ_self _);have j:=Inv.made (C:=C) I;have n:Vals (V.ref (s.heap.objs.size+1)::(vs++gV)) (Value.ref (s.heap.objs.size+1)::(c++ds)):=.cons rfl (r.append R);have P:=by
  have e:=n.length;rw[b.len _ _ _ _ q] at e;exact e.symm
 refine wpAny_call (Tq I.dU a.makes a.init (beq_iff_eq.mp a.fn) (codeAny_mono (b.run _ X.stack _ _ ⟨Value.ref (s.heap.objs.size+1)::c,[]⟩ (Value.ref (s.heap.objs.size+1)::(c++ds)) _ _ E (N.make C c [])
  (j.HF.make C c []) (S _ (Value.ref (s.heap.objs.size+1)::c) j.dU P) n q) λr y g=>?_))
 cases r with
 |error e=>exact G d l _ _ e y j g
 |ok T=>
  cases T with
  |ret u=>
   obtain⟨v,H',I3,z,Z,D⟩:=j.after g;subst Z;exact⟨z,⟨V.ref<|s.heap.objs.size+1,H',I3,rfl,D⟩⟩
  |next=>exact False.elim g
  |brk=>exact False.elim g
  |cont=>exact False.elim g
theorem TK(a:Mk X.K C f)(b:dE X.prog X.w X.K X.mg X.base CX k f fd ps sp)(j:dZ (k+1) X.A)(n:Gl X x)(l:X.mg x=some (.ref C))(D:Binds X.K fd ps ds)(y:Vals gV ds)(i:Passes CX X E)
  (G:PA X (e::es) t) (u:(x==("__debug__":Str))=false:=by decide) (v:starEach (e::es) X.env=(false,eval e X.env)::starEach es X.env:=by rfl) (z:(backTo pos<|starEach es X.env).any (·.1)=false:=by rfl):
  PE X (.Call (.Name x p) (e::es) [] pos) (yp C sp gV E t):=by
 intro c s g H Q I h;exact wpAny_Call_Name_kw<|xZ I n l (callWith_K I.ok.mod.uS a.kp (aL (G pos c s g H _ I h) λP R ⟨N,S,d,r,q⟩=>⟨d.dU,TJ a b j D y i d r q⟩) v z) u
end
structure uX (N P:List Str) (sc:Scope):Prop where
 kind:sc.kind=.function
 co:sc.isCoroutine=false
 gen:sc.isGenerator=false
 nd:N.Nodup
 pre:N.take P.length=P
 par:∀x∈P,sc.names.lookup x=some .local\/sc.names.lookup x=some .cell
 TL:∀y∈sc.names,y.2≠ .free
theorem HG{k:Str->Option NameKind}{x:Str}:∀{b:List (Str×Value)}{m:Str->Option Value},(∀v,(x,v)∉b)->bindL k b m x=m x
 |[],_,_=>rfl
 |(n,v)::r,m,h=>by
  unfold bindL;rw[HG λw a=>h w (zay _ a)]
  split
  ·have:x≠n:=by rintro rfl;exact h v zax
   simp[this]
  ·rfl
theorem HH{k:Str->Option NameKind}{x:Str}:∀{b:List (Str×Value)}{m:Str->Option Value},(∀v,(x,v)∉b)->bindC k b m x=m x
 |[],_,_=>rfl
 |(n,v)::r,m,h=>by
  unfold bindC;rw[HH λw a=>h w (zay _ a)]
  split
  ·rfl
  ·have:x≠n:=by rintro rfl;exact h v zax
   simp[this]
theorem HI{k:Str->Option NameKind}{x:Str}{v:Value}:∀{P:List Str}{vs:List Value}{i:Nat}{m:Str->Option Value},P.Nodup->P[i]?=some x->vs[i]?=some v->k x=some .local->
  bindL k (P.zip vs) m x=some v
 |[],_,_,_,_,h,_,_=>by simp at h
 |_::_,[],_,_,_,_,h,_=>by simp at h
 |p::P,w::vs,0,m,n,b,a,c=>by
  simp at b a;subst b;subst a
  show bindL k ((p,w)::P.zip vs) m p=_;unfold bindL;rw[HG λv d=>(zaH.mp n).1 (List.of_mem_zip d).1,if_pos c]
  simp
 |p::P,w::vs,i+1,m,n,b,a,c=>by
  unfold bindL;exact HI (zaH.mp n).2 (by simpa using b) (by simpa using a) c
theorem HJ{k:Str->Option NameKind}{x:Str}{v:Value}:∀{P:List Str}{vs:List Value}{i:Nat}{m:Str->Option Value},P.Nodup->P[i]?=some x->vs[i]?=some v->k x≠some .local->
  bindC k (P.zip vs) m x=some v
 |[],_,_,_,_,h,_,_=>by simp at h
 |_::_,[],_,_,_,_,h,_=>by simp at h
 |p::P,w::vs,0,m,n,b,a,c=>by
  simp at b a;subst b;subst a
  show bindC k ((p,w)::P.zip vs) m p=_;unfold bindC;rw[HH λv d=>(zaH.mp n).1 (List.of_mem_zip d).1,if_neg c]
  simp
 |p::P,w::vs,i+1,m,n,b,a,c=>by
  unfold bindC;exact HJ (zaH.mp n).2 (by simpa using b) (by simpa using a) c
def start(N:List Str)(vs:List V):St:=vs.map some++List.replicate (N.length - vs.length) none
def qv(CX:cW)(P:Program)(w:World)(K:Frag)(m:Str->Option Value)(b:Heap)(N:List Str)(q:Str)(a:Scope)(f:Addr)(c:Value)(A:Around)(o:List Env)(s:Shared)(H:Hp)(E:XK):Cx where
 prog:=P
 w:=w
 K:=K
 mg:=m
 base:=b
 A:=A.deeper (envOfC q a s.heap.objs.size f c)
 N:=N
 s₀:=s
 H₀:=H
 env:=envOfC q a s.heap.objs.size f c
 outer:=o
 stack:=envOfC q a s.heap.objs.size f c::o
 ex:=[]
 calm:=true
 fn:=λ_=>true
 pn:=[]
 xe:=λe s'=>wpAny (model P w) (A.deeper<|envOfC q a s.heap.objs.size f c) (leaving (envOfC q a s.heap.objs.size f c) e) (λ_ i=>CX o H s E e i) (λd i=>CX o H s E d i) s'
theorem HK{s:Scope}{n:Nat}{x:Str}(h:s.names.lookup x=some .cell):∃c,(cellsFrom n s.names []).lookup x=some c:=by
 exact Option.isSome_iff_exists.mp (cellsFrom_some s.names n [] (.inl h))
theorem TM{P:Program}{w:World}{K:Frag}{R:Str->Option Value}{j:Heap}{N ps:List Str}{l:Str}{d:Scope}{f:Addr}{G:Value}{A:Around}{o:List Env}{s T:Shared}{H:Hp}{E:XK}{I:List Value}{vs:List V}
  (S:uX N ps d) (hd:A.handled=none) (m:oy P w K R j A o s H) (hl:vs.length=ps.length) (r:Vals vs I)
  (x:InCallC s s.heap.objs.size (bindL (envOfC l d s.heap.objs.size f G).kindOf (ps.zip I) λ_=>none) (cellsFrom (s.heap.objs.size+1) d.names []) (bindC (envOfC l d s.heap.objs.size f G).kindOf (ps.zip I) λ_=>none) T):
  Inv (qv CX P w K R j N l d f G A o s H E) [] (start N vs) H T:=by
 have oz:=by have:=congrArg List.length S.pre;rw[zaA] at this;omega
 obtain⟨D,tk,rfl,Z⟩:=x.done;have Q:∀b:Addr,b∉ (qv CX P w K R j N l d f G A o s H E).ex:=λb z=>absurd (show b∈ ([]:List Addr) from z) (by simp)
 refine⟨⟨m.mod,S.kind,rfl,rfl,zqR _,λy z c D g=>?_,λy n=>?_,λy c _ h=>?_,λ_=>hd,Around.frames_deeper m.frames,.inr ⟨rfl,rfl⟩,λb z=>absurd z (Q b),m.bs,m.ql,λb _ _=>Q b,λb z=>absurd z (Q b),m.ku,m.sC⟩,
  rfl,m.bare,Un.kept Z,⟨_,x.toInCall.ns,λi y v D g h3=>?_⟩,λy c h=>⟨_,x.cell y c h⟩,m.aG.fresh (zqR _),λy c h=>?_,λp t=>absurd (show p∈ ([]:List (Addr×Obj)) from t) (by simp),m.aG.kept Z,?_⟩
 ·exact name_of_addr x.apart (PySem.mem_of_lookup D) (PySem.mem_of_lookup g)
 ·rcases n with n|n
  ·exact HK n
  ·exact absurd rfl (S.TL _<|PySem.mem_of_lookup n)
 ·exact Nat.le_of_lt (x.above y c<|PySem.mem_of_lookup h)
 ·have C:i<vs.length:=by
   unfold start at g;by_cases C:i<vs.length
   ·exact C
   ·rw[zaK (by simpa using C)] at g
    rw[zbS] at g
    split at g<;>cases g
  have ha:vs[i]?=some v:=by
   unfold start at g;rw[zaB (by simpa using C),zam] at g
   cases e:vs[i]? with
   |none=>rw[e] at g;cases g
   |some a=>rw[e] at g;cases g;rfl
  obtain⟨u,X,rv⟩:=r.get ha;have t:ps[i]?=some y:=by
   rw[<-S.pre,List.getElem?_take_of_lt (by lia)];exact D
  have HL:=S.pre▸S.nd.sublist (List.take_sublist _ _)
  refine⟨u,rv,?_⟩;rcases S.par y (zan t) with k|k
  ·exact .inl ⟨k,HI HL t X k⟩
  ·obtain⟨c,e⟩:=HK k;refine .inr ⟨.inl k,c,e,?_⟩;have q:=x.cell y c e;rw[HJ HL t X (by show d.names.lookup y≠_;rw[k];decide)] at q
   exact q
 ·exact m.aG.fresh (Nat.le_of_lt<|x.above y c<|PySem.mem_of_lookup h)
 ·unfold start;show _=N.length;rw[zqA,zae,zbt];omega
theorem TN{P:Program}{w:World}{K:Frag}{X:Str->Option Value}{g:Heap}{k:Nat}{f:Addr}{j l:Str}{p:Arguments}{h:List Stmt}{c:Scope}{dV kV T pm z ct oc:Value}{an od:Option Addr}
  {jt:Array (Option Value)}{N ps:List Str}{sp:Sp} (lk:K.lookup f=some ⟨oc,od,.func<|PySem.W.fnOf j l p h c dV kV T pm an z ct,jt⟩) (lO:PySem.W.codeIn K z l=true) (S:uX N ps c)
  (D:∀vs H Q E,sp vs H Q E->vs.length=ps.length)
  (TQ:∀(A:Around) (d:List Env) (s:Shared) (H:Hp) (vs:List V) (Q:VK) (E:XK),dZ k (A.deeper (envOfC l c s.heap.objs.size f z))->sp vs H Q E->
   ∃t,eR (qv CX P w K X g N l c f z A d s H E) h t/\t {nx:=λ_ m=>Q .av m,rt:=Q} (start N vs) H):
  dE P w K X g CX (k+1) f (PySem.W.fnOf j l p h c dV kV T pm an z ct) ps sp:=by
 refine⟨D,λA d s H a' us vs Q E hr R hb r oA=>?_⟩;have KX:=R.mod.uS.keeps λb o e=>(R.bs b o e).1;have TR:∀y∈ps.zip us,c.names.lookup y.1=some .local\/(c.names.lookup y.1=some .cell/\((cellsFrom (s.heap.objs.size+1) c.names []).lookup y.1).isSome=true):=λ⟨n,v⟩ hy=>by
  rcases S.par n (List.of_mem_zip hy).1 with q|q
  ·exact .inl q
  ·exact .inr ⟨q,cellsFrom_some _ _ _<|.inl q⟩
 refine codeAny_call_function hr.depth (KX _ _ lk) rfl S.co S.gen rfl (PySem.W.codeRec_of KX lO)<|hb _ _ _ _ (wpAny_newFunctionEnv_cells S.kind TR λb' he s1 x=>?_);subst he;refine⟨(R.mod.nolimit.keeps λb o e=>(R.bs b o e).1).keeps x.toInCall.keep,codeAny_func ?_⟩;obtain⟨t,ht,hq⟩:=TQ A d s H vs Q E (hr.deeper _) oA;have I:Inv (qv CX P w K X g N l c f z A d s H E) [] (start N vs) H s1:=TM S hr.hd R (D _ _ _ _ oA) r x;refine wpAny_mono (ht [] s1 (start N vs) H _ I hq) (λfl Z C=>?_) λe Z C=>C;have G:∀{i:St}{m:Hp}{v:V}{u:Value},Inv (qv CX P w K X g N l c f z A d s H E) [] i m Z->RelV v u->Q v m->CE d P w H s Q u Z:=
  λ{i m v u} a rv q=>⟨v,m,a.os,a.bare,a.base,a.aG,rv,q⟩
 cases fl with
 |ret u=>
  obtain⟨v,i,m,a,rv,q⟩:=C;exact G a rv q
 |next=>
  obtain⟨i,m,a,q⟩:=C;exact G (v:=V.av) a rfl q
 |brk=>
  obtain⟨_,_,_,q⟩:=C;exact False.elim q
 |cont=>
  obtain⟨_,_,_,q⟩:=C;exact False.elim q
section
variable {X:Cx}{x:Str}{p pos:Pos}{e:Expr}{es:List Expr}{t:TA}{id T:String}{r:List V->Hp->VK->Prop}
def jT(r:List V->Hp->VK->Prop)(t:TA):TE:=λa H Q=>t a H λvs b=>r vs b Q
theorem HM(k:dD X (.builtin id) r)(i:Gl X x)(m:X.mg x=none)(g:bootBuiltins x=some (.builtin id))(l:PA X (e::es) t)(n:x≠"__name__":=by decide)(q:(x==("__debug__":Str))=false:=by decide)
  (j:starEach (e::es) X.env=(false,eval e X.env)::starEach es X.env:=by rfl) (o:(backTo pos<|starEach es X.env).any (·.1)=false:=by rfl):PE X (.Call (.Name x p) (e::es) [] pos) (jT r t):=by
 intro a s b H Q I h;exact wpAny_Call_Name_kw<|uT I i m g (PyProof.Rows.callWith_builtin1 (aL (l pos a s b H _ I h) λu c ⟨v,y,w,d,f⟩=>k a c b y v u Q w d f) j o) n q
theorem HN(k:dD X (.type T) r)(i:Gl X x)(m:X.mg x=none)(g:bootBuiltins x=some (.type T))(l:PA X (e::es) t)(n:x≠"__name__":=by decide)(q:(x==("__debug__":Str))=false:=by decide)
  (j:starEach (e::es) X.env=(false,eval e X.env)::starEach es X.env:=by rfl) (o:(backTo pos<|starEach es X.env).any (·.1)=false:=by rfl):PE X (.Call (.Name x p) (e::es) [] pos) (jT r t):=by
 intro a s b H Q I h;exact wpAny_Call_Name_kw<|uT I i m g (PyProof.Rows.callWith_type1 (aL (l pos a s b H _ I h) λu c ⟨v,y,w,d,f⟩=>k a c b y v u Q w d f) j o) n q
end
end L2
namespace HT
open PySem PyProof.Rows
section
variable {prog:Program}{w:World}{A:Around}{E:Value->Shared->Prop}{s:Shared}
theorem TU{vs a:List Value}{Q:Value->Shared->Prop}(m:IsTup s.heap t vs.toArray)(r:IsTup s.heap b a.toArray)(v:vs≠ [])
  (y:a=[]->Q (.ref t) s) (x:a≠ []->Q (.ref s.heap.objs.size) {s with heap:=s.heap.push {cls:=.type "tuple",data:=.seq (vs++a).toArray}})
  (z:vs.length+a.length<=sizeLine):wpAny (model prog w) A (binaryOp .Add (.ref t)<|.ref b) Q E s:=by
 obtain⟨⟨i,k,d,l⟩,o,q,n,p⟩:=id m;obtain⟨⟨D,H,f,u⟩,g,C,j,c⟩:=id r
 subst q p C c;have e:vs.toArray++a.toArray=(vs++a).toArray:=by simp
 by_cases h:a=[]
 ·exact concat_meets ⟨_,o,rfl⟩ ⟨_,g,rfl⟩ noFill_tuple_add seq_tuple_add PySem.F.slot_tuple_add PySem.F.entry_tuple_add (PySem.F.args_tuple_add_2 _ _)
   (tuple_addW1 t b vs.toArray a.toArray n j k H l u (by simpa using v) (by simp[h])) ⟨o,g,y h⟩
 ·refine concat_meets ⟨_,o,rfl⟩ ⟨_,g,rfl⟩ noFill_tuple_add seq_tuple_add PySem.F.slot_tuple_add PySem.F.entry_tuple_add (PySem.F.args_tuple_add_2 _ _)
   (tuple_addW2 t b vs.toArray a.toArray n j k H l u (by simpa using v) (by simpa using h) (by exact z)) ⟨o,g,?_⟩
  rw[e];exact x h
def bj(n d:Nat):Option Int->Nat
 |none=>d
 |some v=>if v<0 then (v+(n:Int)).toNat else min v.toNat n
theorem BX(n d:Nat):bj n d none=d:=rfl
theorem mZ(n d k:Nat):bj n d (some (k:Int))=min k n:=rfl
theorem BY(n d:Nat)(a:d<=n)(o:Option Int):bj n d o<=n:=by
 cases o with
 |none=>exact a
 |some v=>
  show(if v<0 then (v+(n:Int)).toNat else min v.toNat n)<=n
  by_cases h:v<0
  ·rw[if_pos h];omega
  ·rw[if_neg h];exact Nat.min_le_right _ _
theorem HQ(v:Int)(n d:Nat):(if v<0 then max (v+(n:Int)) 0 else min v (n:Int))=((bj n d (some v):Nat):Int):=by
 show(if v<0 then max (v+(n:Int)) 0 else min v (n:Int))=(((if v<0 then (v+(n:Int)).toNat else min v.toNat n):Nat):Int)
 by_cases h:v<0
 ·simp only[if_pos h];omega
 ·simp only[if_neg h];omega
theorem TV(lo h:Option Int)(n:Nat):Builtin.Slice.sliceAdjust lo h 1 (n:Int)=(((bj n 0 lo:Nat):Int),((bj n n h:Nat):Int)):=by
 refine Prod.ext ?_ ?_
 ·cases lo with
  |none=>rfl
  |some v=>exact HQ v n 0
 ·cases h with
  |none=>rfl
  |some v=>exact HQ v n n
theorem TX(i j:Nat):Builtin.Slice.slicePlaces (i:Int) (j:Int) 1=j - i:=by
 unfold Builtin.Slice.slicePlaces
 split<;>omega
theorem HR{o:Option Int}{Q:Option Int->Shared->Prop}(p:IsPart v o)(h:Q o s):wpAny (model prog w) A (Builtin.Slice.slicePartIndex v) Q E s:=by
 cases p with
 |none=>exact slicePart_none h
 |int i t=>exact slicePart_int h
theorem TY{l v:Value}{lo i:Option Int}{n:Nat}{Q:Int×Int×Nat->Shared->Prop}(hs:s.heap.IsSliceOf a l v .none)(b:IsPart l lo)(p:IsPart v i)
  (h:Q (((bj n 0 lo:Nat):Int),1,bj n n i - bj n 0 lo) s):wpAny (model prog w) A (Builtin.Slice.sliceApplied (.ref a)<|pure (n:Int)) Q E s:=by
 obtain⟨o,u,H,y⟩:=id hs;refine wpAny_bind<|wpAny_bind<|wpAny_field u y rfl<|wpAny_bind<|wpAny_field u y rfl<|wpAny_bind<|wpAny_field u y rfl<|wpAny_pure (wpAny_bind<|slicePart_none (wpAny_bind<|HR b<|wpAny_bind<|HR p<|wpAny_bind<|wpAny_pure ?_));show wpAny _ _ (match Builtin.Slice.sliceAdjust lo i 1 (n:Int) with|(lo,i)=>pure (lo,(1:Int),Builtin.Slice.slicePlaces lo i 1)) _ _ s
 rw[TV lo i n];show wpAny _ _ (pure (((bj n 0 lo:Nat):Int),(1:Int),Builtin.Slice.slicePlaces ((bj n 0 lo:Nat):Int) ((bj n n i:Nat):Int) 1)) _ _ s;rw[TX];exact wpAny_pure h
theorem TZ(xs:Array Value)(i k:Nat):((List.range k).filterMap fun(m:Nat)=>xs[((i:Int)+(m:Int)*1).toNat]?).toArray=((xs.toList.drop i).take k).toArray:=by
 have e:(fun(m:Nat)=>xs[((i:Int)+(m:Int)*1).toNat]?)=λm=>xs[i+m]?:=by
  funext m
  have:((i:Int)+(m:Int)*1).toNat=i+m:=by lia
  rw[this]
 rw[e];have:=pick_run xs i k;rw[List.filterMap_map] at this;have a:((λx=>xs[x]?)∘λx=>i+x)=λm=>xs[i+m]?:=rfl;rw[a] at this;rw[this]
theorem T_{i:Array Value}{l v:Value}{lo a:Option Int}{Q:Value->Shared->Prop}(b:IsTup s.heap t i)(hs:s.heap.IsSliceOf c l v .none)(d:IsPart l lo)(p:IsPart v a)
  (e:¬(bj i.size 0 lo=0/\bj i.size i.size a=i.size))
  (h:Q (.ref s.heap.objs.size) {s with heap:=s.heap.push {cls:=.type "tuple",data:=.seq ((i.toList.drop<|bj i.size 0 lo).take<|bj i.size i.size a - bj i.size 0 lo).toArray}})
  (z:i.size<=sizeLine):wpAny (model prog w) A (getItem (.ref t)<|.ref c) Q E s:=by
 have y:=by
  show((i.toList.drop<|bj i.size 0 lo).take<|bj i.size i.size a - bj i.size 0 lo).toArray.size<=sizeLine;rw[zak,zaA,zat,zbQ];omega
 obtain⟨o,u,H,g⟩:=id hs;have f:s.TypeIs (.ref c) "slice":=⟨o,u,H⟩;unfold getItem
 try with_reducible refine wpAny_holding ?_
 refine wpAny_bind<|wpAny_sequenceKey b.typeIs (rfl) ?_
 refine wpAny_bind (wpAny_callSpecial?_slot b.typeIs PyProof.Rows.slot_tuple_getitem
  (wpAny_call_entry PyProof.Rows.slot_tuple_getitem b.typeIs entry_tuple_getitem ?_ (args_tuple_getitem _ _)))
 show wpAny _ _ (Builtin.Tuple.tupleItemsOf (.ref t) >>=_) _ _ s;refine wpAny_bind<|tupleItemsOf_ b (wpAny_bind<|wpAny_typeOf f (wpAny_bind<|TY hs d p ?_));have Z:¬((((bj i.size 0 lo:Nat):Int)==0 && (1:Int)==1 && (bj i.size i.size a - bj i.size 0 lo)==i.size)=true):=by
  intro q;rw[zag,zag] at q;have k:=eq_of_beq q.1.1;have j:=eq_of_beq q.2;exact e ⟨by lia,by lia⟩
 show wpAny _ _ (if (((bj i.size 0 lo:Nat):Int)==0 && (1:Int)==1 && (bj i.size i.size a - bj i.size 0 lo)==i.size)=true then _ else _) _ _ s
 rw[if_neg Z,TZ]
 first
  |exact wpAny_bind (wpAny_newObj_type (wpAny_pure ⟨_,rfl,wpAny_pure h⟩) y)
  |exact wpAny_bind (m:=Builtin.Tuple.tupleExact _) (wpAny_newObj_type (wpAny_bind<|wpAny_pure<|wpAny_pure ⟨_,rfl,wpAny_pure h⟩) y)
  |exact wpAny_bind (wpAny_bind<|wpAny_newObj_type (wpAny_pure<|wpAny_pure ⟨_,rfl,wpAny_pure h⟩) y)
  |exact wpAny_bind (wpAny_bind (m:=Builtin.Tuple.tupleExact _)<|wpAny_newObj_type (wpAny_pure ⟨_,rfl,wpAny_pure h⟩) y)
end
end HT
namespace L2
open PySem PySem.Spec PyProof.Rows
abbrev TO:=St->Hp->(Option Int->Hp->Prop)->Prop
def PO(X:Cx)(e:Option Expr)(t:TO):Prop:=
 ∀(p:List (Addr×Obj)) (s:Shared) (a:St) (H:Hp) (Q:Option Int->Hp->Prop),Inv X p a H s->t a H Q->
  wpAny (model X.prog X.w) X.A (evalPart e X.env) (λu s'=>∃o b,Inv X p a b s'/\IsPart u o/\Q o b) X.xe s
def HU:TO:=λ_ H Q=>Q none H
def yt(t:TE):TO:=λa H Q=>t a H λx b=>∃i,x=.int i/\Q (some i) b
theorem intsAre_of:∀{u:List Value},Vals (s.map V.int) u->IntsAre u s:=by
 induction s with
 |nil=>intro u r;cases r;exact .nil
 |cons n s i=>
  intro u r;cases r with
  |cons b a=>
   obtain⟨t,e⟩:=b;subst e;exact .cons n t<|i a
section
variable {X:Cx}{e:Expr}{te:TE}{lo hi:Option Expr}{tl th:TO}{pos p2:Pos}
theorem Ub:PO X none HU:=by
 intro p s a H Q I h;exact wpAny_pure ⟨none,H,I,.none,h⟩
theorem Uc(h:PE X e te):PO X (some e) (yt te):=by
 intro p s a H Q I w;refine aL (h p s a H _ I w) λu f ⟨x,d,c,r,b⟩=>?_;obtain⟨i,rfl,q⟩:=b;obtain⟨t,rfl⟩:=r;exact⟨some i,d,c,.int i t,q⟩
def yu(X:Cx)(r:V->Option Int->Option Int->Hp->VK->Prop):Prop:=
 ∀(p:List (Addr×Obj)) (s:Shared) (a:St) (H:Hp) (x:V) (v l u:Value) (lo hi:Option Int) (b:Addr) (Q:VK),Inv X p a H s->RelV x v->s.heap.IsSliceOf b l u .none->IsPart l lo->IsPart u hi->r x lo hi H Q->
  ∃T i,typeLookup (.type T) "__getitem__"=pure (some<|.builtin i)/\s.TypeIs v T/\wpAny (model X.prog X.w) X.A (getItem v<|.ref b) (EP X p a Q) X.xe s
def B0(r:V->Option Int->Option Int->Hp->VK->Prop)(te:TE)(tl th:TO):TE:=λa H Q=>te a H λx d=>tl a d λl c=>th a c λu b=>r x l u b Q
theorem Ud(A:yu X r)(E:PE X e te)(C:PO X lo tl)(y:PO X hi th):PE X (.Subscript e (.Slice lo hi none p2) pos) (B0 r te tl th):=by
 intro p s a H Q I h;refine Subscript_<|aL (E p s a H _ I h) λv j ⟨x,V,R,k,o⟩=>wpAny_Slice<|aL (C p j a V _ R o) λf i ⟨l,S,P,w,n⟩=>aL (y p i a S _ P n) λd c ⟨u,g,N,t,m⟩=>wpAny_pure ?_;have K:Inv X p a g {c with heap:=c.heap.push {cls:=.type "slice",data:=.fields #[f,d,.none]}}:=N.kept λb Z q=>Heap.get?_push_of_some _ q
 obtain⟨T,id,G,z,D⟩:=A p {c with heap:=c.heap.push {cls:=.type "slice",data:=.fields #[f,d,.none]}} a g x v f d l u c.heap.objs.size Q K k (Heap.IsSliceOf.new ..) w t m
 exact tail_any z G D (rfl)
def gF(xs:List V)(lo hi:Option Int):List V:=(xs.drop<|HT.bj xs.length 0 lo).take (HT.bj xs.length xs.length hi - HT.bj xs.length 0 lo)
theorem HV(xs:List V)(lo hi:Option Int):(gF xs lo hi).length<=xs.length:=by
 unfold gF;rw[zaA,zat];omega
def Ue(K:Frag):V->Option Int->Option Int->Hp->VK->Prop:=λx lo hi H Q=>∃a xs,x=.ref a/\aK K H a xs/\
 ¬(HT.bj xs.length 0 lo=0/\HT.bj xs.length xs.length hi=xs.length)/\∀p,H p=none->Q (.ref p) (upd H p<|.tup<|gF xs lo hi)
theorem Ug:yu X (Ue X.K):=by
 intro p s i H x v k j lo hi m Q I d g l u h;obtain⟨a,c,rfl,f,w,q⟩:=h;cases d;obtain⟨y,r,t,z⟩:=I.tuple f;have n:=zak▸r.length.symm
 refine⟨"tuple",_,PyProof.Rows.slot_tuple_getitem.lookup,t.typeIs,HT.T_ t g l u (by lia) ?_ (by lia)⟩
 rw[n];refine⟨.ref s.heap.objs.size,_,I.laid (λb o q=>Heap.get?_push_of_some _ q) (zqR _) ?_,rfl,q _<|I.aG.fresh<|zqR _⟩;exact⟨zap (HV c lo hi) z,_,(r.drop<|HT.bj c.length 0 lo).take<|HT.bj c.length c.length hi - HT.bj c.length 0 lo,IsTup.new _ _⟩
def HW(K:Frag):R2:=λx y H Q=>∃a b xs s,x=.ref a/\y=.ref b/\aK K H a xs/\aK K H b s/\xs≠ []/\xs.length+s.length<=sizeLine/\
 (s=[]->Q (.ref a) H)/\(s≠ []->∀p,H p=none->Q (.ref p) (upd H p<|.tup<|xs++s))
theorem Vals.B1{u:List Value}(r:Vals xs u):u=[]↔xs=[]:=by
 cases r with
 |nil=>simp
 |cons _ _=>simp
theorem Uh:bA X (binaryOp .Add) (HW X.K):=by
 intro p s o H x y v u Q I g f h;obtain⟨a,b,A,t,zq⟩:=qx4 h;obtain⟨rfl,rfl,n,m,l,d,j,i⟩:=qa8 zq;cases g;cases f;obtain⟨E,c,k,_⟩:=I.tuple n;obtain⟨D,r,p2,_⟩:=I.tuple m;refine HT.TU k p2 (λz=>l<|c.B1.mp z) (λz=>⟨.ref a,H,I,rfl,j<|r.B1.mp z⟩) (λz=>?_) (by rw[<-c.length,<-r.length];exact d)
 refine⟨.ref s.heap.objs.size,_,I.laid (λb C q=>Heap.get?_push_of_some _ q) (zqR _) ?_,rfl,i (λw=>z<|r.B1.mpr w) _<|I.aG.fresh<|zqR _⟩;exact⟨zqA▸d,_,c.append r,IsTup.new _ _⟩
end
def ju(n:Nat)(i:Int):Option Nat:=if 0<=i then (if i<n then some i.toNat else none) else if -(n:Int)<=i then some (i+n).toNat else none
def gG{a:Type}(xs:List a)(i:Int):Option a:=(ju xs.length i).bind λj=>xs[j]?
theorem HX{i:Int}{j:Nat}(h:ju n i=some j):seqIndex? i n=some j/\j<n/\ -(n:Int)<=i/\i<n:=by
 unfold ju at h;by_cases b:0<=i
 ·rw[if_pos b] at h;by_cases a:i<n
  ·rw[if_pos a] at h;exact⟨by rw[seqIndex_of b a,(zar h)],by lia,by lia,a⟩
  ·rw[if_neg a] at h;cases h
 ·rw[if_neg b] at h;by_cases a: -(n:Int)<=i
  ·rw[if_pos a] at h;exact⟨by rw[seqIndex_neg (by lia) a,(zar h)],by lia,a,by lia⟩
  ·rw[if_neg a] at h;cases h
theorem B2{xs:List a}{i:Int}{v:a}(h:gG xs i=some v):∃j,seqIndex? i xs.length=some j/\xs[j]?=some v/\j<xs.length/\ -(xs.length:Int)<=i/\i<xs.length:=by
 unfold gG at h;cases e:ju xs.length i with
 |none=>rw[e] at h;cases h
 |some j=>
  rw[e] at h;obtain⟨f,d,c,b⟩:=HX e;exact⟨j,f,h,d,c,b⟩
theorem gg{xs:List a}{j:Nat}{v:a}(h:xs[j]?=some v):gG xs (j:Int)=some v:=by
 have b:=(zad.mp h).1;have e:ju xs.length (j:Int)=some j:=by
  unfold ju;rw[if_pos (by lia),if_pos (by lia)];simp
 unfold gG;rw[e];exact h
theorem Ui(xs:List a)(v:a):gG (xs++[v]) (-1)=some v:=by
 have h:(xs++[v]).length=xs.length+1:=by simp
 have e:ju (xs++[v]).length (-1)=some xs.length:=by
  unfold ju;rw[if_neg (by lia),if_pos (by lia)]
  congr 1
  omega
 unfold gG;rw[e]
 simp
def HY(b:Expr):Prop:= ∀o i,subscripted b false o i=operate [o,i] (getItem o i)
def lU(X:Cx)(r:R2):Prop:=
 ∀(a e:Expr) (p:List (Addr×Obj)) (s:Shared) (b:St) (H:Hp) (x y:V) (v u:Value) (Q:VK),Inv X p b H s->RelV x v->RelV y u->r x y H Q->
  subscripted e false v u=operate [v,u] (getItem v u)->wpAny (model X.prog X.w) X.A (subscriptTail a e v u) (EP X p b Q) X.xe s
def qw(X:Cx)(i:String)(r:V->List V->Hp->VK->Prop):Prop:=
 ∀(p:List (Addr×Obj)) (s:Shared) (a:St) (H:Hp) (x:V) (xs:List V) (v:Value) (u:List Value) (Q:VK),Inv X p a H s->RelV x v->Vals xs u->r x xs H Q->
  wpAny (model X.prog X.w) X.A (call (.builtin i) (v::u)) (EP X p a Q) X.xe s
section
variable {X:Cx}{a b:Expr}{ta tb:TE}{pos:Pos}
theorem lU.or(h:lU X r)(h':lU X r'):lU X (λx y H Q=>r x y H Q\/r' x y H Q):=by
 intro e c p s d H x y v u Q I g f q i;rcases q with q|q
 ·exact h e c p s d H x y v u Q I g f q i
 ·exact h' e c p s d H x y v u Q I g f q i
theorem Uj(g:lU X r)(j:PE X a ta)(i:PE X b tb)(hs:HY b):PE X (.Subscript a b pos) (gc r ta tb):=by
 intro p s c H Q I h;exact Subscript_<|BQ j i I h λv u d x y l k f e q=>g a b p d c l x y v u Q k f e q (hs _ _)
def HZ(K:Frag):R2:=λx y H Q=>∃p xs i v,x=.ref p/\y=.int i/\aB K H p xs/\gG xs i=some v/\Q v H
def H_(K:Frag):R2:=λx y H Q=>∃p xs i v,x=.ref p/\y=.int i/\aK K H p xs/\gG xs i=some v/\Q v H
def Ia:R2:=λx y H Q=>∃z i c,x=.str z/\y=.int i/\z.length<=sizeLine/\gG z.cps.toList i=some c/\Q (.str ⟨#[c]⟩) H
theorem Uk:lU X (HZ X.K):=by
 intro e g c s A H x y v u Q I D C h m;obtain⟨p,Z,i,z,rfl,rfl,E,N,q⟩:=h;cases D;obtain⟨t,rfl⟩:=C;obtain⟨V,r,l,hz⟩:=I.list E;obtain⟨j,d,S,h3,R,P⟩:=B2 N;obtain⟨w,o,T⟩:=r.get S;have G:=r.length;have hn:=qr;have f:EP X c A Q w s:=⟨z,H,I,T,q⟩;by_cases n:0<=i
 ·have k:=by
   rw[seqIndex_of n P] at d;exact zar d
  exact item_listR l.isList n (by lia) (by rw[k];simpa using o) f m
 ·have k:(i+(V.toArray.size:Int)).toNat=j:=by
   rw[seqIndex_neg (by lia) R] at d
   rw[zak,<-G];exact zar d
  exact subscriptTail_builtinR l.isList.typeIs slot_list_getitem.lookup
   (wpAny_getItem_list_neg l.isList (by lia) (by rw[zak] <;>omega) (by lia) (by rw[k];simpa using o) ⟨rfl,f⟩) m
theorem Ul:lU X (H_ X.K):=by
 intro e d c s g H x y v u Q I m k h n;obtain⟨p,N,i,z,rfl,rfl,o,A,q⟩:=h;cases m;obtain⟨t,rfl⟩:=k;obtain⟨Z,r,l,P⟩:=I.tuple o;obtain⟨j,D,C,V,T,S⟩:=B2 A;obtain⟨w,G,E⟩:=r.get C;have R:=qr;have f:EP X c g Q w s:=⟨z,H,I,E,q⟩;exact subscriptTail_builtinR l.typeIs slot_tuple_getitem.lookup
  (getItem_tuple l (by lia) (by lia) (by rw[zak,<-r.length];exact D) (by simpa using G) ⟨rfl,f⟩) n
theorem Um:lU X Ia:=by
 intro e d p s D H x y v u Q I g r h k;obtain⟨z,i,c,rfl,rfl,G,m,q⟩:=h;obtain⟨t,rfl⟩:=g;obtain⟨E,rfl⟩:=r;obtain⟨j,f,w,N,o,n⟩:=B2 m;have l:z.cps.toList.length=z.length:=rfl
 rw[l] at f o n;have K:=qr;exact tail_any (typeIs_str s z t) slot_str_getitem.lookup (getItem_str (by
  have C:decide (i< -(2 ^ 63:Int))=false:=zqF (by lia)
  have A:decide (i≥2 ^ 63)=false:=zqF (by lia)
  rw[C,A,zbG]) (by rw[f];simpa using w) ⟨.str ⟨#[c]⟩,H,I.tok _,⟨_,rfl⟩,q⟩) k
theorem Uo(q:List Value)(n j:Nat)(u:Value):Obj.mapSeq (·.setIfInBounds j u) {cls:=.type "list",data:=.seq q.toArray n}={cls:=.type "list",data:=.seq (q.set j u).toArray n}:=by
 simp[Obj.mapSeq]
theorem Inv.lst{d:St}{H:Hp}{s:Shared}{p:Addr}{xs:List V}(I:Inv X c d H s)(h:H p=some (.lst xs)):
  ∃(q:List Value) (n:Nat),Vals xs q/\s.heap.get? p=some {cls:=.type "list",data:=.seq q.toArray n}/\xs.length<=sizeLine:=by
 obtain⟨z,q,n,r,e⟩:=I.aG p _ h;exact⟨q,n,r,e,z⟩
theorem Inv.Up{g:St}{H:Hp}{s:Shared}{p:Addr}{xs y:List V}{k i:List Value}{n d:Nat}{f:Obj->Obj}(I:Inv X c g H s)(h:H p=some (.lst xs))
  (o:s.heap.get? p=some {cls:=.type "list",data:=.seq k.toArray n}) (j:f {cls:=.type "list",data:=.seq k.toArray n}={cls:=.type "list",data:=.seq i.toArray d}) (r:Vals y i) (z:y.length<=sizeLine) (t:Nat):
  Inv X c g (upd H p<|.lst y) {s with heap:=s.heap.update p f,toks:=t}:=by
 have e:(s.heap.update p f).get? p=some {cls:=.type "list",data:=.seq i.toArray d}:=by
  rw[Heap.get?_update_self f o (by rw[j] <;>rfl),j]
 refine I.write (by rw[h];trivial) (.inl rfl) (λb u l q=>(Heap.get?_update_other _ _<|Ne.symm l).trans q) ⟨_,e⟩ ?_
 exact⟨z,i,d,r,e⟩
def yv:V->V->V->Hp->(Hp->Prop)->Prop:=λo i v H Q=>∃p xs k j,o=.ref p/\i=.int k/\H p=some (.lst xs)/\ju xs.length k=some j/\Q (upd H p<|.lst<|xs.set j v)
theorem set_list:G6 X yv:=by
 intro f s K H o i v P R u Q I C D A h;obtain⟨p,N,k,j,rfl,rfl,g,G,q⟩:=h;cases C;obtain⟨t,rfl⟩:=D;obtain⟨y,n,r,d,E⟩:=I.lst g;obtain⟨c,T,w,m⟩:=HX G;have l:=r.length;have S:=qr;have z:=
  I.Up g d (Uo y n j u) (r.set A j) (by rw[zaP];exact E) s.toks
 by_cases x:0<=k
 ·have e:=by
   rw[seqIndex_of x m] at c;exact zar c
  exact PySem.W.ki_setAt d x (by lia) (by rw[zak,<-l];exact m) (by rw[e];exact⟨_,z,q⟩)
 ·have e:(k+(y.toArray.size:Int)).toNat=j:=by
   rw[seqIndex_neg (by lia) w] at c
   rw[zak,<-l];exact zar c
  exact PySem.W.ki_setBack d (by lia) (by rw[zak,<-l];exact w) (by lia) (by rw[e];exact⟨_,z,q⟩)
theorem B3(lo c:Option Int)(n:Nat):(sliceBounds lo c none n).1=((HT.bj n 0 lo:Nat):Int)/\(sliceBounds lo c none n).2.1=((HT.bj n n c:Nat):Int)/\(sliceBounds lo c none n).2.2=1:=by
 refine⟨?_,?_,rfl⟩
 ·cases lo with
  |none=>simp[sliceBounds,HT.bj]
  |some i=>
   simp only[sliceBounds,HT.bj,Option.getD_none,show(1:Int) >0 by lia,if_true]
   by_cases h:i<0
   ·simp only[h,if_true] <;>omega
   ·simp only[h,if_false] <;>omega
 ·cases c with
  |none=>simp[sliceBounds,HT.bj]
  |some i=>
   simp only[sliceBounds,HT.bj,Option.getD_none,show(1:Int) >0 by lia,if_true]
   by_cases h:i<0
   ·simp only[h,if_true] <;>omega
   ·simp only[h,if_false] <;>omega
theorem Uq(q:List Value)(lo h:Option Int):slicePick q.toArray lo h none=((q.drop<|HT.bj q.length 0 lo).take<|HT.bj q.length q.length h - HT.bj q.length 0 lo).toArray:=by
 obtain⟨e,d,c⟩:=B3 lo h q.toArray.size;unfold slicePick;rw[e,d,c]
 simp only[sliceRange_one,pick_run,zak] <;>rfl
def Ur(K:Frag):V->Option Int->Option Int->Hp->VK->Prop:=λx lo h H Q=>∃a xs,x=.ref a/\aB K H a xs/\∀p,H p=none->Q (.ref p) (upd H p<|.lst<|gF xs lo h)
theorem Us:yu X (Ur X.K):=by
 intro p s j H x v m k l i o Q I d g e u h;obtain⟨a,c,rfl,f,q⟩:=h;cases d;obtain⟨y,r,t,z⟩:=I.list f;have n:=r.length;refine⟨"list",_,slot_list_getitem.lookup,t.isList.typeIs,wpAny_getItem_list_slice t.isList g e u .none (by lia) ?_ (by rw[zak] <;>omega)⟩
 rw[Uq,<-n];refine⟨.ref s.heap.objs.size,_,I.laid (λb w q=>Heap.get?_push_of_some _ q) (zqR _) ?_,rfl,q _<|I.aG.fresh<|zqR _⟩;exact⟨zap (HV c l i) z,_,0,(r.drop<|HT.bj c.length 0 l).take<|HT.bj c.length c.length i - HT.bj c.length 0 l,Heap.get?_push_size _ rfl⟩
def i6:V->Bool
 |.av=>true
 |.bl _=>true
 |.int _=>true
 |.str _=>true
 |_=>false
def iH:V->V->Bool
 |.av,.av=>true
 |.bl a,.bl b=>a==b
 |.bl a,.int b=>(if a then 1 else 0)==b
 |.int a,.bl b=>a==(if b then 1 else 0)
 |.int a,.int b=>a==b
 |.str a,.str b=>a==b
 |_,_=>false
theorem Ut{s:Shared}{y x:V}{u v:Value}(d:RelV y u)(r:RelV x v)(e:i6 y=true)(f:i6 x=true):SeqAt.EqAt A s u v (iH y x):=by
 cases y with
 |av=>
  cases d;cases x with
  |av=>cases r;exact SeqAt.EqAt.same _
  |bl b=>cases r;exact SeqAt.EqAt.none_bool b
  |int b=>obtain⟨t,rfl⟩:=r;exact SeqAt.EqAt.none_int b t
  |str b=>obtain⟨t,rfl⟩:=r;exact SeqAt.EqAt.none_str b t
  |_=>exact absurd (show false=true from f) zas
 |bl a=>
  cases d;cases x with
  |av=>cases r;exact SeqAt.EqAt.bool_none a
  |bl b=>cases r;exact SeqAt.EqAt.bool_bool a b
  |int b=>obtain⟨t,rfl⟩:=r;exact SeqAt.EqAt.bool_int a b t
  |str b=>obtain⟨t,rfl⟩:=r;exact SeqAt.EqAt.bool_str a b t
  |_=>exact absurd (show false=true from f) zas
 |int a=>
  obtain⟨c,rfl⟩:=d;cases x with
  |av=>cases r;exact SeqAt.EqAt.int_none a c
  |bl b=>cases r;exact SeqAt.EqAt.int_bool a c b
  |int b=>obtain⟨t,rfl⟩:=r;exact SeqAt.EqAt.int_int a c b t
  |str b=>obtain⟨t,rfl⟩:=r;exact SeqAt.EqAt.int_str a c b t
  |_=>exact absurd (show false=true from f) zas
 |str a=>
  obtain⟨c,rfl⟩:=d;cases x with
  |av=>cases r;exact SeqAt.EqAt.str_none a c
  |bl b=>cases r;exact SeqAt.EqAt.str_bool a c b
  |int b=>obtain⟨t,rfl⟩:=r;exact SeqAt.EqAt.str_int a c b t
  |str b=>obtain⟨t,rfl⟩:=r;exact SeqAt.EqAt.str_str a c b t
  |_=>exact absurd (show false=true from f) zas
 |_=>exact absurd (show false=true from e) zas
def gh(x:V)(u:Value):Bool:=match u with
 |.none=>iH .av x
 |.bool b=>iH (.bl b) x
 |.int i _=>iH (.int i) x
 |.str z _=>iH (.str z) x
 |_=>false
theorem B4{y:V}{u:Value}(r:RelV y u)(f:i6 y=true):gh x u=iH y x:=by
 cases y with
 |av=>cases r;rfl
 |bl b=>cases r;rfl
 |int i=>obtain⟨t,rfl⟩:=r;rfl
 |str z=>obtain⟨t,rfl⟩:=r;rfl
 |_=>exact absurd (show false=true from f) zas
theorem u1:∀{xs:List V}{s:List Value},Vals xs s->xs.all i6=true->s.any (gh x)=xs.any λy=>iH y x:=by
 intro _ _ p f;induction p with
 |nil=>rfl
 |cons r t i=>rw[zbn,zag] at f;rw[zbu,zbu,B4 r f.1,i f.2]
theorem sN{s:Shared}{x:V}{v:Value}(d:RelV x v)(e:i6 x=true):∀{xs:List V}{c:List Value},Vals xs c->xs.all i6=true->∀u∈c,SeqAt.EqAt A s u v (gh x u):=by
 intro _ _ p f;induction p with
 |nil=>nofun
 |cons r t i=>
  intro g h;rw[zbn,zag] at f;rcases zaa.mp h with rfl|h
  ·rw[B4 r f.1];exact Ut r d f.1 e
  ·exact i f.2 g h
def gX(x:V)(xs:List V):Bool:=xs.any λy=>iH y x
def B5(K:Frag)(n:Bool):R2:=λx y H Q=>∃p xs,y=.ref p/\(aB K H p xs\/aK K H p xs)/\i6 x=true/\xs.all i6=true/\Q (.bl (if n then !gX x xs else gX x xs)) H
theorem Uu:bA X (compareOp .In) (B5 X.K false):=by
 intro i s m H x y v u Q I g k h;obtain⟨p,n,rfl,c,j,f,q⟩:=h;cases k;rcases c with c|c
 ·obtain⟨d,r,l,z⟩:=I.list c;refine SeqAt.in_listAt (gh x) l.isList (λw e=>sN g j r f w (by simpa using e)) ⟨.bl _,H,I,rfl,?_⟩
  rw[show d.toArray.any (gh x)=d.any (gh x) by simp,u1 r f]
  exact q
 ·obtain⟨d,r,l,z⟩:=I.tuple c;refine SeqAt.in_tupleAt (gh x) l (λw e=>sN g j r f w (by simpa using e)) ⟨.bl _,H,I,rfl,?_⟩
  rw[show d.toArray.any (gh x)=d.any (gh x) by simp,u1 r f]
  exact q
theorem Uv:bA X (compareOp .NotIn) (B5 X.K true):=by
 intro i s m H x y v u Q I g k h;obtain⟨p,n,rfl,c,j,f,q⟩:=h;cases k;rcases c with c|c
 ·obtain⟨d,r,l,z⟩:=I.list c;refine SeqAt.notIn_listAt (gh x) l.isList (λw e=>sN g j r f w (by simpa using e)) ⟨.bl _,H,I,rfl,?_⟩
  rw[show d.toArray.any (gh x)=d.any (gh x) by simp,u1 r f]
  exact q
 ·obtain⟨d,r,l,z⟩:=I.tuple c;refine SeqAt.notIn_tupleAt (gh x) l (λw e=>sN g j r f w (by simpa using e)) ⟨.bl _,H,I,rfl,?_⟩
  rw[show d.toArray.any (gh x)=d.any (gh x) by simp,u1 r f]
  exact q
theorem dD.or{r r':List V->Hp->VK->Prop}(h:dD X f r)(h':dD X f r'):dD X f (λxs H Q=>r xs H Q\/r' xs H Q):=by
 intro p s c H xs u Q I d q;rcases q with q|q
 ·exact h p s c H xs u Q I d q
 ·exact h' p s c H xs u Q I d q
theorem Uw:dD X (.type "list") (λxs H Q=>∃p y,xs=[.ref p]/\(aB X.K H p y\/aK X.K H p y)/\∀l,H l=none->Q (.ref l) (upd H l<|.lst y)):=by
 intro i s E H xs N Q I r h;obtain⟨p,y,rfl,j,q⟩:=h;obtain⟨u,rfl,G⟩:=vals1 r;cases G;have t:∀(d:List Value),Vals y d->y.length<=sizeLine->∀(c:Heap) (g:Nat),(∀b D,s.heap.get? b=some D->c.get? b=some D)->
   c.get? s.heap.objs.size=some {cls:=.type "list",dict:=none,data:=.seq d.toArray g,slots:= #[]}->EP X i E Q (.ref s.heap.objs.size) {s with heap:=c}:=λd f z c g k e=>
  ⟨.ref s.heap.objs.size,_,I.laid k (zqR _) (show cM X.prog X.w _ c _ (.lst y) from⟨z,d,g,f,e⟩),rfl,q _<|I.aG.fresh<|zqR _⟩
 rcases j with j|j
 ·obtain⟨d,f,v,z⟩:=I.list j;have m:=f.length;obtain⟨o,x,C,n,A⟩:=v.isList;exact call_list_seq p (.inl rfl) x C A (λc g k e=>t d f z c g k e) (by simp <;>omega)
 ·obtain⟨d,f,v,z⟩:=I.tuple j;have m:=f.length;obtain⟨o,x,C,n,A⟩:=v;exact call_list_seq p (.inr rfl) x C A (λc g k e=>t d f z c g k e) (by simp <;>omega)
def sO(K:Frag)(T:String)(x:V)(H:Hp):Prop:=match x with
 |.str _=>T="str"
 |.int _=>T="int"
 |.ref p=>(T="list"/\∃xs,aB K H p xs)\/(T="tuple"/\∃o,K.lookup p=some o/\o.cls=.type "tuple"/\o.dict=none)\/
   (T="dict"/\((∃k,H p=some (.dK k))\/∃k,H p=some (.dT k)))\/(T="set"/\∃S n,H p=some (.set S n))
 |_=>False
theorem Ib{q:St}{H:Hp}{s:Shared}{T:String}{x:V}{v:Value}(I:Inv X j q H s)(r:RelV x v)(y:sO X.K T x H):
  s.TypeIs v T/\∀a,v=.ref a->∃m,s.heap.get? a=some m/\m.dict=none:=by
 cases x with
 |str z=>
  obtain⟨t,rfl⟩:=r;cases (show T="str" from y)
  exact⟨typeIs_str s z t,λ_ e=>nomatch e⟩
 |int i=>
  obtain⟨t,rfl⟩:=r;cases (show T="int" from y)
  exact⟨typeIs_int s i t,λ_ e=>nomatch e⟩
 |ref p=>
  cases r;rcases y with⟨rfl,A,u⟩|⟨rfl,o,h,w,f⟩|⟨rfl,h⟩|⟨rfl,S,n,h⟩
  ·obtain⟨C,_,l,_⟩:=I.list u;refine⟨l.isList.typeIs,λa e=>?_⟩;cases e;obtain⟨o,n,e,c,f,_⟩:=l;exact⟨o,e,f⟩
  ·refine⟨⟨o,I.dU p o h,w⟩,λa e=>?_⟩;cases e;exact⟨o,I.dU _ o h,f⟩
  ·have z:∃o,s.heap.get? p=some o/\o.ExactDict:=by
    rcases h with⟨k,h⟩|⟨k,h⟩
    ·obtain⟨_,_,_,_,o,_,_,e,d,_⟩:=I.aG p _ h;exact⟨o,e,d⟩
    ·obtain⟨_,_,_,_,o,_,_,e,d,_⟩:=I.aG p _ h;exact⟨o,e,d⟩
   obtain⟨o,e,d⟩:=z;refine⟨⟨o,e,d.1⟩,λa g=>?_⟩;cases g;exact⟨o,e,d.2.1⟩
  ·obtain⟨o,_,_,_,zq⟩:=qx4 (I.aG p _ h);obtain⟨e,d,_⟩:=qa3 zq;refine⟨⟨o,e,d.1⟩,λa g=>?_⟩;cases g;exact⟨o,e,d.2.1⟩
 |_=>exact False.elim y
def Ux(K:Frag)(T:String)(r:V->List V->Hp->VK->Prop)(t:TE):TE:=λd H Q=>t d H λx c=>sO K T x c/\r x [] c Q
def Uy(K:Frag)(T:String)(r:V->List V->Hp->VK->Prop)(o:TE)(t:TA):TE:=λc H Q=>o c H λx d=>sO K T x d/\t c d λxs e=>r x xs e Q
variable {o e:Expr}{es:List Expr}{to:TE}{t:TA}{name:Str}{apos eM:Pos}{T id:String}{r:V->List V->Hp->VK->Prop}
theorem Uz(j:PlainAttrs T)(c:Slot T name id)(P:typeOf (.builtin id)=pure (.type "method_descriptor"))(m:qw X id r)(k:PE X o to)
  (z:attributeBase o name X.env (eval o X.env)=eval o X.env:=by rfl) (w:(apos.endLine==eM.line)=true:=by rfl):PE X (.Call (.Attribute o name apos) [] [] eM) (Ux X.K T r to):=by
 intro p s d H Q I h;refine wpAny_Call_method0_late z w<|aL (k p s d H _ I h) λv i ⟨x,u,g,f,y,q⟩=>?_;obtain⟨n,l⟩:=Ib g f y;exact⟨T,id,j,c,P,n,l,Calls.callWith_builtin rfl<|PySem.evalArgs_none<|m p i d u x [] v [] Q g f .nil q⟩
theorem UA(n:PlainAttrs T)(c:Slot T name id)(P:typeOf (.builtin id)=pure (.type "method_descriptor"))(z:qw X id r)(w:PE X o to)(C:PA X (e::es) t)
  (B6:attributeBase o name X.env (eval o X.env)=eval o X.env:=by rfl)
  (N:((backTo eM (starEach (e::es) X.env)).all (λx=> !x.1) && (backToKw eM (keywordEach [] X.env)).all (λx=>x.1.isSome)
   && decide ((e::es).length+([]:List Keyword).length+(if ([]:List Keyword).isEmpty then 0 else 1) <30))=true:=by rfl)
  (B7:(apos.endLine==eM.line)=true:=by rfl) (hs:starEach (e::es) X.env=(false,eval e X.env)::starEach es X.env:=by rfl) (G:(backTo eM<|starEach es X.env).any (·.1)=false:=by rfl):
  PE X (.Call (.Attribute o name apos) (e::es) [] eM) (Uy X.K T r to t):=by
 intro p s d H Q I h;refine wpAny_Call_method_late B6 N B7 rfl<|aL (w p s d H _ I h) λv k ⟨x,Z,g,f,y,m⟩=>?_;obtain⟨E,D⟩:=Ib g f y;refine⟨T,id,n,c,P,E,D,?_⟩;have A:=C eM p k d Z _ g m;rw[hs] at A⊢;refine Calls.callWith_builtin (by show(false ||(backTo eM<|starEach es X.env).any (·.1))=false;rw[G] <;>rfl)<|Calls.evalArgs_plain ?_
 exact aL A λu j ⟨i,S,R,l,q⟩=>z p j d S x i v u Q R f l q
end
theorem Vals.one:∀{x:V}{s:List Value},Vals [x] s->∃u,s=[u]/\RelV x u:=by
 intro _ _ h;cases h with|cons r t=>cases t;exact⟨_,rfl,r⟩
theorem Vals.zero:∀{u:List Value},Vals [] u->u=[]:=by
 intro _ h;cases h;rfl
theorem Vals.dropLast{u:List Value}(h:Vals xs u):Vals xs.dropLast u.dropLast:=by
 induction h with
 |nil=>exact .nil
 |cons r t i=>
  cases t with
  |nil=>exact .nil
  |cons q a=>exact .cons r i
theorem Vals.rep{u:List Value}(h:Vals xs u):∀k:Nat,Vals (List.replicate k xs).flatten (List.replicate k u).flatten
 | 0=>.nil
 |k+1=>by
  exact Vals.append h<|Vals.rep h k
theorem UD{c:Type}(l:List c):l.eraseIdx (l.length - 1)=l.dropLast:=by
 induction l with
 |nil=>rfl
 |cons a r i=>
  cases r with
  |nil=>rfl
  |cons b r=>
   have e:(a::b::r).length - 1=((b::r).length - 1)+1:=by
    have d:(a::b::r).length=r.length+2:=rfl;have h:(b::r).length=r.length+1:=rfl;omega
   rw[e,List.eraseIdx_cons_succ,i]
   all_goals rfl
theorem foldl_rep(q:List Value):∀(k:Nat) (a:List Value),
  List.foldl (λb x=>b++x) a.toArray (List.replicate k q.toArray)=(a++(List.replicate k q).flatten).toArray
 | 0,a=>by simp
 |k+1,a=>by
  have e:a.toArray++q.toArray=(a++q).toArray:=by simp
  have c:(a++q)++(List.replicate k q).flatten=a++(List.replicate (k+1) q).flatten:=by
   rw[zaQ,zbv,zal]
  rw[<-c,<-foldl_rep q k (a++q),<-e,zaQ,List.foldl_cons]
section
variable {X:Cx}{pins:List (Addr×Obj)}{σ:St}{H:Hp}{s:Shared}{l b:Addr}{xs ys zs:List V}
theorem Inv.jv{a i:List Value}{n:Nat}{f:Array Value->Array Value}{t':Nat}(I:Inv X pins σ H s)(j:H l=some (.lst xs))
  (e:s.heap.get? l=some {cls:=.type "list",data:=.seq a.toArray n}) (d:f a.toArray=i.toArray) (v:Vals ys i) (h:ys.length<=sizeLine):
  Inv X pins σ (upd H l<|.lst ys) {s with heap:=s.heap.update l (Obj.mapSeq f),toks:=t'}:=by
 have q:=PySem.IsL.update e f;rw[d] at q;refine I.write (j▸trivial) (.inl rfl) (λk u g c=>(Heap.get?_update_other s.heap (Obj.mapSeq f)<|Ne.symm g).trans c) ⟨_,q⟩ ?_
 exact⟨h,i,_,v,q⟩
theorem Inv.Ic{t':Nat}(I:Inv X pins σ H s)(v:Vals ys a)(h:ys.length<=sizeLine):
  Inv X pins σ (upd H s.heap.objs.size<|.lst ys) {s with heap:=s.heap.push {cls:=.type "list",data:=.seq a.toArray},toks:=t'}:=
 I.laid (λ_ _ q=>Heap.get?_push_of_some _ q) (zqR _) ⟨h,a,0,v,Heap.get?_push_size _ rfl⟩
theorem Inv.fresh(I:Inv X pins σ H s):H s.heap.objs.size=none:=I.aG.fresh (zqR _)
theorem Inv.oC(I:Inv X pins σ H s)(h:H l=some (.lst xs)):xs.length<=sizeLine/\∃(a:List Value) (n:Nat),Vals xs a/\xs.length=a.length/\s.heap.get? l=some {cls:=.type "list",data:=.seq a.toArray n}:=by
 obtain⟨z,a,n,r,e⟩:=I.aG l _ h;exact⟨z,a,n,r,r.length,e⟩
theorem Ie(h:n<=sizeLine):Builtin.List.listTooLong n=false:=by
 exact zqF (by lia)
end
section
variable {X:Cx}
def UE:V->List V->Hp->VK->Prop:=λx vs H Q=>∃l xs y,x=.ref l/\vs=[y]/\H l=some (.lst xs)/\xs.length<sizeLine/\Q .av (upd H l<|.lst<|xs++[y])
theorem UG:qw X "list.append" UE:=by
 intro p s g H x j v k Q I b c h;obtain⟨l,i,y,rfl,rfl,a,m,q⟩:=h;cases b;obtain⟨u,rfl,d⟩:=c.one;obtain⟨z,f,n,r,o,e⟩:=I.oC a;refine call_meets F.slot_list_append ⟨_,e,rfl⟩ F.entry_list_append (F.args_list_append_2 _ _) (PySem.list_append l f.toArray n u (by rw[zak];omega)) ⟨e,?_⟩
 refine⟨.av,_,I.jv a e (by simp) (r.append<|.cons d .nil) ?_,rfl,q⟩
 rw[zqA,zbw];omega
def UH:V->List V->Hp->VK->Prop:=λx vs H Q=>∃l b xs z,x=.ref l/\vs=[.ref b]/\H l=some (.lst xs)/\H b=some (.lst z)/\xs.length+z.length<=sizeLine/\Q .av (upd H l<|.lst<|xs++z)
theorem UI:qw X "list.extend" UH:=by
 intro p s y H x E v G Q I f g h;obtain⟨l,b,D,A,zq⟩:=qx4 h;obtain⟨rfl,rfl,d,m,K,q⟩:=qa6 zq;cases f;obtain⟨u,rfl,i⟩:=g.one;cases i;obtain⟨z,a,n,r,N,e⟩:=I.oC d;obtain⟨C,o,k,j,P,t⟩:=I.oC m;have c:a.toArray.size+o.toArray.size<=sizeLine:=by rw[zak,zak];omega
 have w:¬(!a.toArray.isEmpty && Builtin.List.listTooLong (a.toArray.size+o.toArray.size))=true:=by
  rw[Ie c,Bool.and_false];exact zas
 refine call_meets F.slot_list_extend ⟨_,e,rfl⟩ F.entry_list_extend (F.args_list_extend_2 _ _)
  (AutoSeq1.list_extend_list_list_0 l a.toArray n b o.toArray k w (by lia) (by lia)) ⟨e,t,?_⟩
 refine⟨.av,_,I.jv d e (by simp) (r.append j) ?_,rfl,q⟩
 rw[zqA];omega
def UK:V->List V->Hp->VK->Prop:=λx vs H Q=>∃l xs y,x=.ref l/\vs=[]/\H l=some (.lst xs)/\xs[xs.length - 1]?=some y/\Q y (upd H l<|.lst xs.dropLast)
theorem UL:qw X "list.pop" UK:=by
 intro p s o H x w v A Q I c d h;obtain⟨l,t,y,rfl,rfl,b,g,q⟩:=h;cases c;have m:=d.zero;subst m;obtain⟨z,a,n,r,j,e⟩:=I.oC b;obtain⟨u,i,f⟩:=r.get g;have k:=by
  show a.toArray[a.length - 1]?=some u;rw[<-Array.getElem?_toList,<-j];exact i
 refine call_meets F.slot_list_pop ⟨_,e,rfl⟩ F.entry_list_pop (F.args_list_pop_1 _) (MeetsSeq.list_pop_last l a.toArray n u k (by rw[zak];omega)) ⟨e,?_⟩
 refine⟨y,_,I.jv b e ?_ r.dropLast ?_,f,q⟩
 ·rw[zak,List.eraseIdxIfInBounds_toArray,UD]
 ·rw[zbT];omega
def UN:V->List V->Hp->VK->Prop:=λx vs H Q=>∃l xs,x=.ref l/\vs=[]/\H l=some (.lst xs)/\Q .av (upd H l<|.lst [])
theorem UO:qw X "list.clear" UN:=by
 intro p s g H x j v u Q I b c h;obtain⟨l,i,rfl,rfl,a,q⟩:=h;cases b;have f:=c.zero;subst f;obtain⟨z,d,n,r,k,e⟩:=I.oC a;refine call_meets F.slot_list_clear ⟨_,e,rfl⟩ F.entry_list_clear (F.args_list_clear_1 _) (AutoSeq1.list_clear_list_0 l d.toArray n (by rw[zak];omega)) ⟨e,?_⟩
 exact⟨.av,_,I.jv a e rfl .nil<|zqZ _,rfl,q⟩
def Ig:R2:=λx y H Q=>∃l b xs z,x=.ref l/\y=.ref b/\H l=some (.lst xs)/\H b=some (.lst z)/\xs.length+z.length<=sizeLine/\∀p,H p=none->Q (.ref p) (upd H p<|.lst<|xs++z)
theorem UP:bA X (binaryOp .Add) Ig:=by
 intro p s m H x y v u Q I d c h;obtain⟨l,b,A,t,zq⟩:=qx4 h;obtain⟨rfl,rfl,g,i,D,q⟩:=qa6 zq;cases d;cases c;obtain⟨z,a,n,r,E,e⟩:=I.oC g;obtain⟨w,o,C,f,G,k⟩:=I.oC i;refine PySem.P.add_list e k ?_ (by rw[zak,zak];omega)
 have j:a.toArray++o.toArray=(a++o).toArray:=by simp
 rw[j];exact⟨.ref _,_,I.Ic (r.append f) (by rw[zqA];omega),rfl,q _ I.fresh⟩
def Ih:R2:=λx y H Q=>∃l k xs,x=.ref l/\y=.int k/\H l=some (.lst xs)/\ -(2 ^ 63)<=k/\k<2 ^ 63/\xs.length*k.toNat<=sizeLine/\
 ∀p,H p=none->Q (.ref p) (upd H p<|.lst (List.replicate k.toNat xs).flatten)
theorem len_rep{a:Type}(xs:List a)(k:Nat):(List.replicate k xs).flatten.length=k*xs.length:=by simp
theorem UQ:bA X (binaryOp .Mult) Ih:=by
 intro p s K H x y v u Q I o j h;obtain⟨l,k,N,zq⟩:=qx3 h;obtain⟨rfl,rfl,A,D,C,d,q⟩:=qa7 zq;cases o;obtain⟨t,rfl⟩:=j;obtain⟨z,b,n,r,w,e⟩:=I.oC A;have c:b.toArray.size*k.toNat<=sizeLine:=by rw[zak,<-w];exact d
 have R:¬b.toArray.size*k.toNat>(2 ^ 63 - 1) / 8:=by
  have:(sizeLine:Nat)<= (2 ^ 63 - 1) / 8:=by decide
  omega
 have S:¬(!Builtin.List.listFitsIndex k)=true:=by
  rw[fitsIndex_both D C];exact zas
 have G:¬Builtin.List.listTooLong (b.toArray.size*k.toNat)=true:=by
  rw[Ie c];exact zas
 have T:List.foldl (λg f=>g++f) #[] (List.replicate (if b.toArray.isEmpty=true then 0 else k.toNat) b.toArray)=(List.replicate k.toNat b).flatten.toArray:=by
  have E:=λm=>by
   have:=foldl_rep b m [];rw[zbx] at this;exact this
  rw[E];cases b with
  |nil=>simp
  |cons a P=>rw[if_neg (by simp)]
 refine wpAny_binaryOp_repeat_ref (rfl) ⟨_,e,rfl⟩ (λi=>typeIs_int i k t) noFill_list_mul F.fills_int_mul F.slot_int_rmul repeat_list F.slot_int_index.lookup
  (call_meets F.slot_int_rmul (typeIs_int s k t) F.entry_int_rmul (F.args_int_rmul_2 _ _) (int___rmul___int_list k t l b.toArray n)
   ⟨e,rfl,⟨_,e,rfl⟩,call_meets F.slot_list_mul ⟨_,e,rfl⟩ F.entry_list_mul (F.args_list_mul_2 _ _) (AutoListH.list___mul___list_int_3 l b.toArray n k t S R G) ⟨e,?_⟩⟩)
 rw[T];exact⟨.ref _,_,I.Ic (r.rep k.toNat) (by rw[len_rep,Nat.mul_comm];exact d),rfl,q _ I.fresh⟩
end
end L2
namespace Ii
open PySem PySem.W PySem.Calls PyProof.Rows
theorem UU{h:Heap}:∀(s:List Int) (vs:List Value),WellAll P h vs (s.map WData.int)->IntsAre vs s:=by
 intro s
 induction s with
 |nil=>
  intro vs w;cases w;exact .nil
 |cons n s i=>
  intro vs w;cases w with
  |cons a b=>
   cases a;exact .cons _ _<|i _ b
theorem UW{l:OpenLaw}{n:Nat}(j:l.most=some n){P:Params}{h:Heap}{s:List WData}{v:List Value}
  (m:l.row.toRowW.claim.pre s=true) (y:WellAll P h v s):
  ∃a vs b,v=[Value.ref a]/\s=[WData.list<|b.map WData.int]/\h.get? a=some {cls:=.type "list",data:=.seq vs.toArray}/\IntsAre vs b/\b.length<=n:=by
 obtain⟨d,r,rfl,t,p⟩:=hasAllW_cons ((pre_splitW m).1);obtain rfl:=hasAllW_nil p;obtain⟨x,rfl,k⟩:=hasW_list t;obtain⟨b,rfl⟩:=items_int k;have c:b.length<=n:=by
  have e:=by
   have e:=(holds_andW ((pre_splitW m).2)).1;rw[j] at e;exact e
  have f:=condW_of e (w_not<|w_lt w_lit<|w_len_list<|w_arg rfl);refine Nat.le_of_not_lt λq=>?_
  first
   | (rw[zqT q'] at f;exact absurd f (rfl))
   | (simp at f;omega)
 cases y with
 |cons g w=>
  cases w;cases g with
  |list i o=>exact⟨_,_,b,rfl,rfl,i,UU b _ o,c⟩
theorem UY(l:OpenLaw)(a:List WData):l.row.toRowW.claim.post a (.bool true) a=true:=
 postW_of
  (show WShape.has [] (.bool true) .bool=true by first|rfl|decide|simp)
  (show(WTm.eq .res<|.lit<|.bool true).value [] {args:=a,res:=some (.bool true),after:=a}=some (.bool<|true==true) from w_eq_bool (w_res rfl) w_lit) rfl
theorem UZ{l:OpenLaw}{n:Nat}{q:Program}{e:List Str}{X:(Str->Option Value)->Heap->Prop}{P:World->Heap->Prop}{d:DefRec}
  (Q:l.most=some n) (A:d.params.defaults=[])
  (k:∀(w:World) (c s:Shared) (p v:Str->Option Value) (j:Addr) (o:Obj) (u t g:Value) (a:Addr) (vs:List Value) (m:List Int),
   Ground q e [] X w c p v s.heap->P w s.heap->
   s.heap.get? j=some o->o.data=.func (docDef d.name d.params d.body d.scope u t g)->s.heap.CodeRec t d.name->p d.name=some (.ref j)->
   s.heap.get? a=some {cls:=.type "list",data:=.seq vs.toArray}->IntsAre vs m->m.length<=n->s.gens= #[]->
   codeAny (model l.prog w) callerA (.call (.ref j) ⟨[.ref a],[]⟩) (λr s'=>r=.ok (.ret (.bool true))/\OldK s.heap s'.heap/\s'.os=s.os/\AllBare s'.gens) s):
  WalkO q e X P l.row.toRowW d [] (λf vs=>PySem.call f vs):=by
 intro w c s p v G b j o u t g dV V N Z H D C T y x as E b' I z S;obtain rfl:dV=.none:=Dflts.none D A;obtain rfl:V=.none:=Dflts.noKw D;obtain⟨a,vs,m,rfl,rfl,B_,h,i⟩:=UW Q E z;refine enter_call<|codeAny_mono (k w c s p v j o u t g a vs m G b N (fd_plain Z) H C B_ h i T) λr s' K=>?_;obtain⟨rfl,h2,h3,h4⟩:=K;exact⟨.inl ⟨.bool true,.bool true,[],rfl,λ_=>rfl,.bool true,UY l _,λ_=>⟨List.Pairwise.nil,λ_ R=>(nomatch R)⟩⟩,h2,h3,h4⟩
section
variable {prog:Program}{w:World}{A:Around}{E:Value->Shared->Prop}{s:Shared}{K:Frag}
end
end Ii
namespace L2
open PySem PySem.Spec PyProof.Rows
theorem Ij:∀{vs:List Value}{s:List Int},IntsAre vs s->Vals (s.map V.int) vs:=by
 intro _ _ p;induction p with|nil=>exact .nil|cons n t h i=>exact .cons ⟨t,rfl⟩ i
def Ca(H:Hp):Prop:= ∀b,H b=none\/∃o xs,H b=some (.cw o<|.lst xs)
theorem U0{w:World}{K:Frag}{p E:Str->Option Value}{CX:cW}{k:Nat}{I a:Addr}{fd:FuncData}{x:Str}{sp:Sp}{f:Shared}{vs:List Value}{l:List Int}
  (KX:K.In f.heap) (Q:f.heap.Ns mainGlobals p) (g:f.heap.Ns builtinsNs E) (U1:∀x:Str,x≠"__name__"->E x=bootBuiltins x) (U2:f.heap.NoLimit) (hg:f.gens= #[])
  (A:f.heap.get? a=some {cls:=.type "list",data:=.seq vs.toArray}) (X:IntsAre vs l) (T:l.length<=sizeLine) (hr:dZ k callerA)
  (c:∀i:Heap,K.In i->i.Ns mainGlobals p->dE P w K p i CX k I fd [x] sp) (U3:∀(s:Shared) (u:Value),BindsTo s fd ⟨[u],[]⟩ [(x,u)])
  (oA:∀H:Hp,Ca H->aB K H a (l.map V.int)->sp [.ref a] H (λv _=>v=.bl true) λ_ _ _=>False)
  (Cb:∀H e s',CX [] H f (λ_ _ _=>False) e s'->False):
  codeAny (model P w) callerA (.call (.ref I) ⟨[.ref a],[]⟩) (λr s'=>r=.ok (.ret<|.bool true)/\OldK f.heap s'.heap/\s'.os=f.os/\AllBare s'.gens) f:=by
 have rv:=Ij X;have j:∀H:Hp,Ca H->aB K H a (l.map V.int)->bH P w H f.heap->(∀b,H b≠none->b=a)->(H a≠none->K.lookup a=none)->
   codeAny (model P w) callerA (.call (.ref I) ⟨[.ref a],[]⟩) (λr s'=>r=.ok (.ret<|.bool true)/\OldK f.heap s'.heap/\s'.os=f.os/\AllBare s'.gens) f:=by
  intro H Z hS aG hA hK;have S:∀{b:Addr}{o:Obj},f.heap.get? b=some o->H b=none->(mV f.heap H).get? b=some o:=λe n=>RF e n;have uY:∀{b:Addr}{o:Obj}{C:Array DictEntry}{D:Nat},f.heap.get? b=some o->o.data=.dict C D->H b=none:=λ{b o C D} e d=>by
   cases q:H b with
   |none=>rfl
   |some u=>
    have N:=hA b (by lia)
    subst N;rw[A] at e;cases e;cases d
  have y:∀{b:Addr}{m:Str->Option Value},f.heap.Ns b m->(mV f.heap H).Ns b m:=λ{b m} ⟨o,C,D,e,d,r⟩=>⟨o,C,D,S e<|uY e d,d,r⟩;have Ik:=λb o e=>S (KX b o e) (by
   cases q:H b with
   |none=>rfl
   |some u=>
    have N:=hA b (by rw[q];simp)
    subst N;rw[hK (by lia)] at e;cases e)
  have hM:Mod K p (mV f.heap H):=⟨Ik,y Q,⟨E,y g,U1⟩,let ⟨mc,h1,h2⟩:=U2;⟨mc,y h1,h2⟩⟩;have e0:oy P w K p (mV f.heap H) callerA [] f H:=⟨rfl,hM,λb o e=>RG e,zbm<|RD _ _,trivial,λb g=>absurd (show b∈ ([]:List Addr) from g) (by simp),aG,.of_eq hg⟩
  refine codeAny_mono ((c _ Ik<|y Q).run callerA [] f H ⟨[.ref a],[]⟩ [.ref a] [.ref a] _ _ hr e0 (U3 f<|.ref a) (.cons rfl .nil)<|oA H Z hS) λr s' h=>?_;cases r with
  |error e=>exact(Cb H e s' h).elim
  |ok fl=>
   cases fl with
   |next=>exact False.elim h
   |brk=>exact False.elim h
   |cont=>exact False.elim h
   |ret u=>
    obtain⟨v,H',os,t,R,U4,r',q⟩:=h;subst q;obtain rfl:u=Value.bool true:=r';refine⟨rfl,OldK.of_keep λb o e=>?_,os,t⟩;cases q:H b with
    |none=>exact R.keep b o e q (by intro z;exact absurd (show b∈ ([]:List Addr) from z) (by simp)) (by simp)
    |some u=>
     rcases Z b with z|⟨ob,xs,z⟩
     ·rw[q] at z;cases z
     ·obtain⟨e1,_⟩:=aG b _ z;obtain⟨e2,_⟩:=U4 b _ (R.ic b ob _ z);rw[e] at e1;cases e1;exact e2
 cases G:K.lookup a with
 |some o=>
  have e:=KX a o G;rw[A] at e;cases e;refine j (λ_=>none) (λ_=>.inl rfl) (.inr ⟨_,vs.toArray,_,G,rfl,rfl,rfl,by rw[zak,X.length];exact T,by lia⟩) (λb u z=>by lia) (λb z=>absurd rfl z) λz=>absurd rfl z
 |none=>
  refine j (λb=>if b=a then some (.cw {cls:=.type "list",data:=.seq vs.toArray}<|.lst<|l.map V.int) else none) (λb=>?_) (.inl<|.inr ⟨{cls:=.type "list",data:=.seq vs.toArray},if_pos rfl⟩) (λb u z=>?_) (λb z=>?_) λ_=>G
  ·by_cases g:b=a
   ·exact .inr ⟨_,_,if_pos g⟩
   ·exact .inl (if_neg g)
  ·by_cases g:b=a
   ·cases ((if_pos g).symm.trans z);subst g;exact⟨A,by rw[zae];exact T,vs,_,rv,A⟩
   ·cases ((if_neg g).symm.trans z)
  ·by_cases g:b=a
   ·exact g
   ·exact absurd (if_neg g) z
theorem U5{l:PySem.W.OpenLaw}{n k:Nat}{q:Program}{p:List Str}{XP:(Str->Option Value)->Heap->Prop}{P:World->Heap->Prop}{d:DefRec}{K:Params->Frag}{CX:World->cW}{sp:World->Sp}{x:Str}
  (S:l.most=some n) (Q:n<=sizeLine) (E:d.params.defaults=[]) (R:dZ k callerA)
  (hY:∀(w:World) (h:Heap),P w h->(K w.params).In h)
  (i:∀(w:World) (t:Str->Option Value) (A:Addr) (h:Heap),(K w.params).In h->h.Ns mainGlobals t->t d.name=some (.ref A)->
   ∃C:FuncData,(∀(s:Shared) (u:Value),BindsTo s C ⟨[u],[]⟩ [(x,u)])/\
    ∀j:Heap,(K w.params).In j->j.Ns mainGlobals t->dE l.prog w (K w.params) t j (CX w) k A C [x] (sp w))
  (N:∀(w:World) (H:Hp) (a:Addr) (z:List Int),z.length<=n->Ca H->aB (K w.params) H a (z.map V.int)->sp w [.ref a] H (λv _=>v=.bl true) λ_ _ _=>False)
  (Cb:∀(w:World) (H:Hp) (s:Shared) (e:Value) (s':Shared),CX w [] H s (λ_ _ _=>False) e s'->False):
  PySem.W.WalkO q p XP P l.row.toRowW d [] (λf vs=>PySem.call f vs):=by
 refine Ii.UZ S E λw D y t mb A o pm cd a' a vs z G c ho hd lO I B_ r m Z=>?_;have X:=hY w _ c;obtain⟨C,hb,hF⟩:=i w t A _ X G.T.g I;exact U0 X G.T.g G.T.b G.T.builtins G.T.nolimit Z B_ r (zap m Q) R hF hb (λH hO hS=>N w H a z m hO hS) λH e s'=>Cb w H y e s'
end L2
namespace L2
open PySem PySem.Spec PyProof.Rows
def inClass(s:Stmt)(j:Nat):Stmt:=match s with
 |.ClassDef _ _ _ b _ _ _ _ _ _ _=>b.getD j (.Pass ⟨0,0,0,0⟩)
 |_=>.Pass ⟨0,0,0,0⟩
def jw(s:Stmt):Arguments:=match s with
 |.FunctionDef _ a _ _ _ _ _ _ _ _=>a
 |_=> {posonlyargs:=[],args:=[],vararg:=none,kwonlyargs:=[],kw_defaults:=[],kwarg:=none,defaults:=[]}
def gH(s:Stmt):List Stmt:=match s with
 |.FunctionDef _ _ b _ _ _ _ _ _ _=>b
 |_=>[]
def gI(s:Stmt):Scope:=match s with
 |.FunctionDef _ _ _ _ _ _ c _ _ _=>c
 |_=> {kind:=.function,names:=[],isGenerator:=false,isCoroutine:=false}
abbrev va:cW:=λ_ _ _ _ _ _=>False
abbrev E0:XK:=λ_ _ _=>False
structure qz (K:Frag) (x qual:Str) (st:Stmt) (f:Addr) (fd:FuncData):Prop where
 ex:∃(oc:Value) (od:Option Addr) (kV doc pm:Value) (an:Option Addr) (bK ct:Value) (jt:Array (Option Value)),
  fd=PySem.W.fnOf x qual (jw st) (gH st) (gI st) .none kV doc pm an bK ct/\K.lookup f=some ⟨oc,od,.func fd,jt⟩/\PySem.W.codeIn K bK qual=true
 kp:PySem.W.keepIn K (.ref f)=true
section
variable {P:Program}{w:World}{K:Frag}{mg:Str->Option Value}{base:Heap}
theorem qz.binds{st:Stmt}{f:Addr}{e:FuncData}{ps:List Str}(a:qz K x q st f e)
  (h:∀(k d p:Value) (n:Option Addr) (b c:Value) (u:List Value),u.length=ps.length->bindArgs (PySem.W.fnOf x q (jw st) (gH st) (gI st) .none k d p n b c) ⟨u,[]⟩=pure (ps.zip u)):Binds K e ps []:=by
 obtain⟨g,o,k,d,p,n,b,c,j,zq⟩:=qx9 a.ex;obtain⟨rfl,l,i⟩:=qa3 zq;exact .all<|h k d p n b c
theorem Il{st:Stmt}{f:Addr}{e:Value}{o a:Option Addr}{j:Array (Option Value)}{V d p b t:Value}(l:K.lookup f=some ⟨e,o,.func<|PySem.W.fnOf x q (jw st) (gH st) (gI st) .none V d p a b t,j⟩)
  (c:PySem.W.codeIn K b q=true) (k:PySem.W.keepIn K (.ref f)=true):qz K x q st f (PySem.W.fnOf x q (jw st) (gH st) (gI st) .none V d p a b t):=⟨⟨e,o,V,d,p,a,b,t,j,rfl,l,c⟩,k⟩
end
theorem iI{a:Prop}(h:a):if false=true then A else a:=by lia
theorem gJ{a:Prop}(h:A):if true=true then A else a:=by lia
theorem gK{a:Prop}[Decidable c](b:c->A)(h:¬c->a):if c then A else a:=by lia
def aD(H a:Hp):Prop:= ∀b o,H b=some o->a b=some o
theorem aD.refl(H:Hp):aD H H:=λ_ _ h=>h
theorem aD.trans(a:aD H e)(b:aD e d):aD H d:=λc o h=>b c o (a c o h)
theorem aD.free(e:aD H a){l:Addr}(h:a l=Option.none):H l=Option.none:=by
 cases q:H l with
 |none=>rfl
 |some o=>
  rw[e l o q] at h;cases h
theorem aD.seq{K:Frag}{H b:Hp}{a:Addr}{xs:List V}(e:aD H b)(h:aB K H a xs):aB K b a xs:=by
 rcases h with(h|⟨o,h⟩)|h
 ·exact .inl (.inl<|e _ _ h)
 ·exact .inl (.inr ⟨o,e _ _ h⟩)
 ·exact .inr h
section
variable {κ:Type} [DecidableEq κ]
def cN(s:List (κ×V))(k:κ):Option V:=(s.find? λv=>decide (v.1=k)).map (·.2)
def putK(s:List (κ×V))(k:κ)(v:V):List (κ×V):=
 if (s.any λa=>decide (a.1=k))=true then s.map (λa=>if a.1=k then (a.1,v) else a) else s++[(k,v)]
def gj(s:List (κ×V))(k:κ):List (κ×V):=s.filter λv=>decide (v.1≠k)
theorem fU{r:List (κ×V)}{k:κ}(e:p.1=k):cN (p::r) k=some p.2:=by simp[cN,zaN,e]
theorem ig{r:List (κ×V)}{k:κ}(e:¬p.1=k):cN (p::r) k=cN r k:=by simp[cN,zaN,e]
theorem vb(k:κ):∀s:List (κ×V),(s.any λv=>decide (v.1=k))=(cN s k).isSome
 |[]=>rfl
 |p::r=>by
  rw[zbu];by_cases e:p.1=k
  ·simp only[fU e,zqT e,Bool.true_or,Option.isSome_some]
  ·rw[ig e,zqF e];exact vb k r
theorem Im(k j:κ)(y:V):∀s:List (κ×V),cN (s.map λv=>if v.1=k then (v.1,y) else v) j=(cN s j).map λx=>if j=k then y else x
 |[]=>rfl
 |p::r=>by
  have i:=Im k j y r;rw[zav];by_cases h:p.1=k
  ·rw[if_pos h];by_cases e:p.1=j
   ·rw[fU (p:=(p.1,y)) e,fU e,zaW,if_pos<|e.symm.trans h]
   ·rw[ig (p:=(p.1,y)) e,ig e,i]
  ·rw[if_neg h];by_cases e:p.1=j
   ·rw[fU e,fU e,zaW,if_neg<|λz=>h<|e.trans z]
   ·rw[ig e,ig e,i]
theorem Io(k j:κ)(y:V):∀s:List (κ×V),cN s k=none->cN (s++[(k,y)]) j=if j=k then some y else cN s j
 |[],_=>by
  by_cases e:k=j
  ·rw[if_pos e.symm];exact fU e
  ·rw[if_neg<|λz=>e z.symm];exact ig e
 |p::r,h=>by
  rw[zaX];have a:¬p.1=k:=λz=>by rw[fU z] at h;cases h
  rw[ig a] at h;by_cases e:p.1=j
  ·rw[fU e,fU e,if_neg<|λz=>a<|e.trans z]
  ·rw[ig e,ig e,(Io k j y r h)]
theorem U6(s:List (κ×V))(k j:κ)(y:V):cN (putK s k y) j=if j=k then some y else cN s j:=by
 unfold putK;by_cases a:(s.any λv=>decide (v.1=k))=true
 ·rw[if_pos a,Im];rw[vb] at a;by_cases e:j=k
  ·obtain⟨x,h⟩:=Option.isSome_iff_exists.mp a;rw[if_pos e,e,h,zaW,if_pos rfl]
  ·rw[if_neg e];cases cN s j with
   |none=>rfl
   |some x=>rw[zaW,if_neg e]
 ·rw[if_neg a];refine Io k j y s ?_;rw[vb] at a;cases q:cN s k with
  |none=>rfl
  |some x=>rw[q] at a;exact(a rfl).elim
theorem yA(s:List (κ×V))(k:κ)(v:V):(putK s k v).length<=s.length+1:=by
 unfold putK
 split
 ·rw[zae];omega
 ·rw[zqA,zaz,zbf];omega
theorem vc{k:κ}(v:V)(h:cN s k=none):putK s k v=s++[(k,v)]:=by
 unfold putK;rw[vb,h];exact if_neg (by simp)
theorem gT.ve{u:Option Value}(r:gT o u):o.isSome=u.isSome:=by
 cases o with
 |none=>cases u with
  |none=>rfl
  |some _=>exact(show False from r).elim
 |some _=>cases u with
  |none=>exact(show False from r).elim
  |some _=>rfl
theorem KV.val{vs:List (κ×Value)}(r:KV a vs)(k:κ):gT (cN a k) (valueAt vs k):=by
 induction r with
 |nil=>exact True.intro
 | @cons p q g s h t i=>
  obtain⟨d,f⟩:=h;by_cases e:p.1=k
  ·have c:=d.symm.trans e;have b:valueAt (q::s) k=some q.2:=by simp[valueAt,zaN,c]
   rw[fU e,b];exact f
  ·have c:¬q.1=k:=λz=>e (d.trans z);have b:valueAt (q::s) k=valueAt s k:=by simp[valueAt,zaN,c]
   rw[ig e,b];exact i
theorem KV.any{vs:List (κ×Value)}(r:KV s vs)(k:κ):(s.any λv=>decide (v.1=k))=vs.any λv=>decide (v.1=k):=by
 induction r with
 |nil=>rfl
 |cons h t i=>rw[zbu,zbu,i,h.1]
theorem KV.Cc{vs:List (κ×Value)}(r:KV s vs)(k:κ){y:V}{u:Value}(b:RelV y u):
  KV (s.map λv=>if v.1=k then (v.1,y) else v) (vs.map λv=>if v.1=k then (v.1,u) else v):=by
 induction r with
 |nil=>exact .nil
 | @cons p q f d h t i=>
  rw[zav,zav];refine .cons ?_ i;obtain⟨a,c⟩:=h;by_cases e:p.1=k
  ·rw[if_pos e,if_pos<|a.symm.trans e];exact⟨a,b⟩
  ·rw[if_neg e,if_neg<|λz=>e<|a.trans z];exact⟨a,c⟩
theorem KV.put{vs:List (κ×Value)}(r:KV s vs)(k:κ){y:V}{u:Value}(a:RelV y u):KV (putK s k y) (stored vs k u):=by
 unfold putK stored;rw[r.any k];by_cases e:(vs.any λv=>decide (v.1=k))=true
 ·rw[if_pos e,if_pos e];exact r.Cc k a
 ·rw[if_neg e,if_neg e];exact Paired.snoc r ⟨rfl,a⟩
theorem KV.drop{vs:List (κ×Value)}(r:KV s vs)(k:κ):KV (gj s k) (without vs k):=by
 unfold gj without
 induction r with
 |nil=>exact .nil
 | @cons p q g f h t i=>
  obtain⟨c,d⟩:=h;rw[List.filter_cons,List.filter_cons];by_cases e:p.1=k
  ·have a:¬decide (p.1≠k)=true:=by lia
   have b:¬decide (q.1≠k)=true:=by lia
   rw[if_neg a,if_neg b];exact i
  ·have j:¬q.1=k:=λz=>e (c.trans z);have a:decide (p.1≠k)=true:=by lia
   have b:decide (q.1≠k)=true:=by lia
   rw[if_pos a,if_pos b];exact .cons ⟨c,d⟩ i
theorem KV.length{vs:List (κ×Value)}(r:KV k vs):k.length=vs.length:=Paired.length r
theorem Ip(s:List (κ×V))(k:κ):(gj s k).length<=s.length:=zbU _ _
end
theorem qA{w:World}{k:Key}{u:Value}(r:RelV (kV k) u):(e8 P w).is k u=true:=by
 cases k with
 |inl i=>obtain⟨t,e⟩:=(show ∃t,u=Value.int i t from r);subst e;exact GB P w i t
 |inr x=>obtain⟨t,e⟩:=(show ∃t,u=Value.str x t from r);subst e;exact GC P w x t
theorem Iq{w:World}:∀{s:List Key}{u:List Value},Vals (s.map kV) u->ItemsAre (e8 P w) s u
 |[],_,r=>by cases r;exact .nil
 |k::s,_,r=>by
  cases r with
  |cons h t=>exact .cons (qA h) (Iq t)
abbrev KT(H:Hp):List (List Key×V)->List (List Key×Addr×Value)->Prop:=Paired λp q=>p.1=q.1/\H q.2.1=some (.tup<|p.1.map kV)/\RelV p.2 q.2.2
theorem KT.val{s:List (List Key×V)}{xs:List (List Key×Addr×Value)}(r:KT H s xs)(k:List Key):gT (cN s k) ((atKey xs k).map (·.2)):=by
 induction r with
 |nil=>exact True.intro
 | @cons p q g a h t i=>
  obtain⟨d,_,f⟩:=h;by_cases e:p.1=k
  ·have c:=d.symm.trans e;have b:atKey (q::a) k=some q.2:=by simp[atKey,zaN,c]
   rw[fU e,b];exact f
  ·have c:¬q.1=k:=λz=>e (d.trans z);have b:atKey (q::a) k=atKey a k:=by simp[atKey,zaN,c]
   rw[ig e,b];exact i
theorem KT.Cc{s:List (List Key×V)}{xs:List (List Key×Addr×Value)}(r:KT H s xs)(k:List Key){y:V}{u:Value}(c:RelV y u):
  KT H (s.map λv=>if v.1=k then (v.1,y) else v) (xs.map<|putAt k u):=by
 induction r with
 |nil=>exact .nil
 | @cons p q g f h t i=>
  rw[zav];refine .cons ?_ i;obtain⟨a,b,d⟩:=h;unfold putAt;by_cases e:p.1=k
  ·rw[if_pos e,if_pos<|a.symm.trans e];exact⟨a,b,c⟩
  ·rw[if_neg e,if_neg<|λz=>e<|a.trans z];exact⟨a,b,d⟩
theorem KT.put{s:List (List Key×V)}{xs:List (List Key×Addr×Value)}(r:KT H s xs)(k:List Key){b:Addr}{y:V}{u:Value}(h:H b=some (.tup<|k.map kV))(a:RelV y u):
  KT H (putK s k y) (storedH xs k b u):=by
 have e:(s.any λv=>decide (v.1=k))=(atKey xs k).isSome:=by
  rw[vb,(r.val k).ve,Option.isSome_map]
 unfold putK storedH;rw[e];by_cases q:(atKey xs k).isSome=true
 ·rw[if_pos q,if_pos q];exact r.Cc k a
 ·rw[if_neg q,if_neg q];exact Paired.snoc r ⟨rfl,h,a⟩
theorem KT.keeps{k:List (List Key×V)}{xs:List (List Key×Addr×Value)}(r:KT H k xs)(h:∀b y,H b=some (.tup y)->a b=some (.tup y)):KT a k xs:=
 Paired.dR r λ_ _ z=>⟨z.1,h _ _ z.2.1,z.2.2⟩
section
variable {P:Program}{w:World}{H:Hp}{h:Heap}{a:Addr}
theorem Ir(o:bH P w H h)(e:Rd H a u):cM P w H h a u:=e.ok o
theorem sQ(o:bH P w H h)(e:Rd H a (.dK k)):k.length<=sizeLine/\(a==sysModules)=false/\∃vs,KV k vs/\h.DictOf (e8 P w) a vs:=
 show cM P w H h a (.dK k) from Ir o e
theorem yB(o:bH P w H h)(e:H a=some (.dK k)):k.length<=sizeLine/\(a==sysModules)=false/\∃vs,KV k vs/\h.DictOf (e8 P w) a vs:=sQ o (.inl e)
theorem vg(b:bH P w H h)(e:H a=some (.tup<|k.map kV)):(tupleKind<|e8 P w).is h k a:=by
 obtain⟨_,q,r,o,f,d,n,c⟩:=(show cM P w H h a (.tup<|k.map kV) from b a _ e)
 exact⟨o,q.toArray,n,f,d,c,by simpa using Iq r⟩
theorem sR(d:bH P w H h)(e:Rd H a (.dT k)):k.length<=sizeLine/\(a==sysModules)=false/\
  ∃xs,KT H k xs/\h.DictOfH (tupleKind<|e8 P w) a xs:=by
 obtain⟨z,y,xs,r,o,u,v,s,n,j,g,f⟩:=(show cM P w H h a (.dT k) from Ir d e)
 refine⟨z,y,xs,r,o,u,v,s,n,j,g,λx b=>?_,f⟩;have c:∀{l:List (List Key×V)}{m:List (List Key×Addr×Value)},KT H l m->∀x∈m,(tupleKind<|e8 P w).is h x.1 x.2.1:=by
  intro l m q
  induction q with
  |nil=>intro x b;exact nomatch b
  | @cons p q C A D t i=>
   intro x b;rcases zaa.mp b with e|b
   ·exact vg d (by lia)
   ·exact i x b
 exact c r x b
theorem U7(o:bH P w H h)(e:H a=some (.dT k)):k.length<=sizeLine/\(a==sysModules)=false/\
  ∃xs,KT H k xs/\h.DictOfH (tupleKind<|e8 P w) a xs:=sR o (.inl e)
end
def dy(H:Hp)(a:Addr)(y:V)(r:Option V):Prop:=
 (∃s k,Rd H a (.dK s)/\y=kV k/\r=cN s k)\/∃s k b,Rd H a (.dT s)/\y=.ref b/\H b=some (.tup<|k.map kV)/\r=cN s k
def jU(H:Hp)(a:Addr)(y v:V)(c:Hp):Prop:=
 (∃s k,H a=some (.dK s)/\y=kV k/\s.length<sizeLine/\c=upd H a (.dK<|putK s k v))\/
 ∃s k b,H a=some (.dT s)/\y=.ref b/\H b=some (.tup<|k.map kV)/\s.length<sizeLine/\c=upd H a (.dT<|putK s k v)
theorem dy.k{a:Addr}{s:List (Key×V)}{k:Key}(e:H a=some (.dK s)):dy H a (kV k) (cN s k):=.inl ⟨s,k,.inl e,rfl,rfl⟩
theorem jU.k{a:Addr}{s:List (Key×V)}{k:Key}{v:V}(e:H a=some (.dK s))(h:s.length<sizeLine):jU H a (kV k) v (upd H a<|.dK<|putK s k v):=.inl ⟨s,k,e,rfl,h,rfl⟩
section
variable {X:Cx}{pins:List (Addr×Obj)}{σ:St}{H:Hp}{s:Shared}{a:Addr}{y v:V}{u r:Value}{o:Option V}{A:Around}{E:Value->Shared->Prop}
theorem Inv.big(I:Inv X pins σ H s):sysModules<s.heap.objs.size:=by
 exact Nat.lt_trans (by decide) ((I.mod.glob.keeps I.bk).lt)
theorem U8(t:A.units+1<cLine)(I:Inv X pins σ H s)(g:dy H a y (some v))(q:RelV y u)(h:∀d s',Inv X pins σ H s'->RelV v d->Q d s'):
  wpAny (model X.prog X.w) A (getItem (.ref a) u) Q E s:=by
 rcases g with⟨f,k,e,m,l⟩|⟨f,k,b,e,m,G,l⟩
 ·subst m;obtain⟨z,C,N,c,n⟩:=sQ I.aG e;obtain⟨d,i,j⟩:=gT.some_of (l▸c.val k)
  exact wpAny_getItem_of (qA q) n.mapOf i<|h d _ (I.tok _) j
 ·subst m;cases (show u=Value.ref b from q)
  obtain⟨z,C,K,c,n⟩:=sR I.aG e;obtain⟨d,i,j⟩:=gT.some_of (v:=v) (l▸c.val k)
  obtain⟨p,x,D⟩:=zbH.mp i;refine wpAny_getItem_heap (tupleKind_room_in1 t) (vg I.aG G) n x ?_;rw[D];exact h d _ (I.tok _) j
theorem U9(n:A.units+1<cLine)(I:Inv X pins σ H s)(g:dy H a y o)(m:RelV y u)(h:∀s',Inv X pins σ H s'->Q (.bool o.isSome) s'):
  wpAny (model X.prog X.w) A (compareOp .In u<|.ref a) Q E s:=by
 rcases g with⟨d,k,e,i,l⟩|⟨d,k,b,e,i,p,l⟩
 ·subst i;obtain⟨z,f,t,c,j⟩:=sQ I.aG e;refine wpAny_in_of (qA m) f j.mapOf ?_;rw[<-(c.val k).ve,<-l];exact h _<|I.tok _
 ·subst i;cases (show u=Value.ref b from m)
  obtain⟨z,f,x,c,j⟩:=sR I.aG e;refine wpAny_in_heap (tupleKind_room_in1 n) (vg I.aG p) f j ?_;have q:=(c.val k).ve;rw[Option.isSome_map] at q;rw[<-q,<-l];exact h _<|I.tok _
theorem U_(n:A.units+1<cLine)(I:Inv X pins σ H s)(g:dy H a y o)(m:RelV y u)(h:∀s',Inv X pins σ H s'->Q (.bool<|!o.isSome) s'):
  wpAny (model X.prog X.w) A (compareOp .NotIn u<|.ref a) Q E s:=by
 rcases g with⟨d,k,e,i,l⟩|⟨d,k,b,e,i,p,l⟩
 ·subst i;obtain⟨z,f,t,c,j⟩:=sQ I.aG e;refine wpAny_notIn_of (qA m) f j.mapOf ?_;rw[<-(c.val k).ve,<-l];exact h _<|I.tok _
 ·subst i;cases (show u=Value.ref b from m)
  obtain⟨z,f,x,c,j⟩:=sR I.aG e;refine wpAny_notIn_heap (tupleKind_room_in1 n) (vg I.aG p) f j ?_;have q:=(c.val k).ve;rw[Option.isSome_map] at q;rw[<-q,<-l];exact h _<|I.tok _
theorem yC{t':Nat}{c:HO}(I:Inv X pins σ H s)(m:uQ (H a))(hs:Heap.SameBut a s.heap h')(h:∃q,h'.get? a=some q)(n:cM X.prog X.w (upd H a c) h' a c):
  Inv X pins σ (upd H a c) {s with heap:=h',toks:=t'}:=
 I.write m (.inl rfl) (λb q d z=>(hs.2 b d).trans z) h n
theorem Cd{w:World}{b:Hp}{h':Heap}{k:List (Key×V)}{vs:List (Key×Value)}(z:k.length<=sizeLine)(h:(a==sysModules)=false)(l:KV k vs)(dd:h'.DictOf (e8 P w) a vs):
  cM P w b h' a (.dK k):=⟨z,h,vs,l,dd⟩
theorem Va{Q:Unit->Shared->Prop}(T:A.units+1<cLine)(I:Inv X pins σ H s)(g:jU H a y v H')(D:RelV y u)(G:RelV v r)(h:∀s',Inv X pins σ H' s'->Q () s'):
  wpAny (model X.prog X.w) A (setItem (.ref a) u r) Q E s:=by
 rcases g with⟨f,k,e,t,l,x⟩|⟨f,k,b,e,t,P,l,x⟩
 ·subst t x;obtain⟨z,p,vs,d,C⟩:=yB I.aG e;have S:=d.length▸z
  have n:(putK f k v).length<=sizeLine:=by have:=yA f k v;omega
  refine wpAny_setItem_pairs (qA D) C λK i m=>h _ ?_;have Z:∃q,K.get? a=some q:=let ⟨q,_,_,j,_⟩:=i;⟨q,j⟩;exact yC I (e▸True.intro) m Z<|Cd n p (d.put k G) i
 ·subst t x;cases (show u=Value.ref b from D)
  obtain⟨z,p,R,d,C⟩:=U7 I.aG e;have S:R.length<=sizeLine:=by rw[<-Paired.length d];exact z
  have n:(putK f k v).length<=sizeLine:=by have:=yA f k v;omega
  refine wpAny_setItem_heap (tupleKind_room_in1 T) (vg I.aG P) C λK i m=>h _ ?_;obtain⟨q,es,ep,zq⟩:=qx3 i;obtain⟨j,h2,h3,h4,_,h5⟩:=qa6 zq;refine yC I (e▸True.intro) m ⟨q,j⟩ ⟨n,p,_,(d.put k P G).keeps λc ys N=>?_,q,es,ep,j,h2,h3,h4,h5⟩
  rw[ax<|cA N e<|λz=>nomatch z];exact N
end
section
variable {X:Cx}{pins:List (Addr×Obj)}{σ:St}{H:Hp}{s:Shared}{a:Addr}{kvs:List (Key×V)}{k:Key}{u:Value}{A:Around}{E:Value->Shared->Prop}
theorem Vb{m:List Value}{Q:Value->Shared->Prop}(I:Inv X pins σ H s)(e:H a=some (.dK kvs))(y:RelV (kV k) u)(l:cN kvs k=some v)(d:m=[]\/∃x,m=[x])
  (h:∀b s',Inv X pins σ (upd H a<|.dK<|gj kvs k) s'->RelV v b->Q b s'):wpAny (model X.prog X.w) A (call (.builtin "dict.pop") (.ref a::u::m)) Q E s:=by
 obtain⟨z,D,g,r,f⟩:=yB I.aG e;obtain⟨b,j,N⟩:=gT.some_of (l▸r.val k)
 have p:(keyPart u).isSome=true:=by
  cases k with
  |inl i=>obtain⟨t,q⟩:=(show ∃t,u=Value.int i t from y);subst q;rfl
  |inr x=>obtain⟨t,q⟩:=(show ∃t,u=Value.str x t from y);subst q;rfl
 have G:argsOk "dict.pop" ⟨.ref a::u::m,[]⟩:=by
  rcases d with q|⟨x,q⟩
  ·subst q;exact PySem.F.args_dict_pop_2 _ _
  ·subst q;exact PySem.F.args_dict_pop_3 _ _ _
 refine call_meetsIn PySem.F.slot_dict_pop f.typeIs PySem.F.entry_dict_pop G (meets_dict_pop_there (e8 X.prog X.w) a (qA y) m d p)
  ⟨g,b,f,r.length▸z,j,λK c n=>h b _ ?_ N⟩
 have C:∃q,K.get? a=some q:=let ⟨q,_,_,o,_⟩:=c;⟨q,o⟩;exact yC I (e▸True.intro) n C<|Cd (zap (Ip kvs k) z) D (r.drop k) c
end
def Ce(i:Expr):Prop:= ∀o v,subscripted i false o v=operate [o,v] (getItem o v)
theorem Vc{w:World}{A:Around}{E:Value->Shared->Prop}{s:Shared}{env:Env}{v e:Expr}{k:Pos}{T l:String}{Q:Value->Shared->Prop}
  (m:typeLookup (.type T) "__getitem__"=pure (some<|.builtin l)) (hs:Ce e)
  (h:wpAny (model p w) A (eval v env) (λo d=>wpAny (model p w) A (eval e env) (λi a=>a.TypeIs o T/\wpAny (model p w) A (getItem o i) Q E a) E d) E s):
  wpAny (model p w) A (eval (.Subscript v e k) env) Q E s:=by
 refine Subscript_<|wpAny_mono h (λo d j=>wpAny_mono j (λi a b=>?_) λ_ _ x=>x) λ_ _ x=>x;obtain⟨n,b⟩:=b;refine wpAny_bind (wpAny_bind<|wpAny_specialOf n m ?_);have f:wpAny (model p w) A (subscripted e false o i) (λr c=>wpAny (model p w) A (letTemporaryGo v o r>>=λ_=>pure r) Q E c) E a:=by
  rw[hs o i];exact wpAny_operating<|wpAny_mono b (λr c g=>wpAny_bind<|wpAny_letTemporaryGo<|wpAny_pure g) λ_ _ x=>x
 first
  |exact wpAny_pure (wpAny_bind f)
  |exact wpAny_bind (wpAny_pure<|wpAny_bind f)
  |exact wpAny_bind f
theorem Vd{p:List (Addr×Obj)}{f:St}{H:Hp}{s:Shared}{a:Addr}{y:V}{o:Option V}(I:Inv X p f H s)(g:dy H a y o):s.TypeIs (.ref a) "dict":=by
 rcases g with⟨c,k,e,_,_⟩|⟨c,k,b,e,_,_,_⟩
 ·obtain⟨_,_,v,_,d⟩:=sQ I.aG e;exact d.typeIs
 ·obtain⟨_,_,x,_,d⟩:=sR I.aG e;exact d.typeIs
def Iu(d t:TE):TE:=λb H Q=>d b H λx e=>t b e λy c=>∃a v,x=.ref a/\dy c a y (some v)/\Q v c
def Cf(t d:TE):TE:=λb H Q=>t b H λy e=>d b e λx c=>∃a o,x=.ref a/\dy c a y o/\Q (.bl o.isSome) c
def Cg(t d:TE):TE:=λb H Q=>t b H λy e=>d b e λx c=>∃a o,x=.ref a/\dy c a y o/\Q (.bl<|!o.isSome) c
def Iw(e t d:TE):TS:=λD b H=>d b H λv h=>e b h λx g=>t b g λy f=>∃a c,x=.ref a/\jU f a y v c/\D.nx b c
section
variable {X:Cx}{o i e value:Expr}{pos pos' Tw:Pos}{td ty tv:TE}
theorem Ve(k:X.A.units+1<cLine)(l:PE X o td)(m:PE X i ty)(hs:Ce i):PE X (.Subscript o i pos) (Iu td ty):=by
 intro p s b H Q I h;refine Vc PySem.F.slot_dict_getitem.lookup hs<|aL (l p s b H _ I h) λu d ⟨x,D,z,f,j⟩=>aL (m p d b D _ z j) λN K ⟨y,C,c,r,a,v,t,g,q⟩=>?_;subst t;obtain rfl:u=Value.ref a:=f;exact⟨Vd c g,U8 k c g r λE G w n=>⟨v,C,w,n,q⟩⟩
theorem Vf(j:X.A.units+1<cLine)(l:PE X i ty)(k:PE X o td):PC X .In i o (Cf ty td):=by
 intro p s b H Q I h;refine aL (l p s b H _ I h) λG c ⟨y,C,w,r,f⟩=>aL (k p c b C _ w f) λu E ⟨x,z,t,d,a,v,m,g,q⟩=>?_;subst m;obtain rfl:u=Value.ref a:=d;exact U9 j t g r λD n=>⟨.bl v.isSome,z,n,rfl,q⟩
theorem Vg(j:X.A.units+1<cLine)(l:PE X i ty)(k:PE X o td):PC X .NotIn i o (Cg ty td):=by
 intro p s b H Q I h;refine aL (l p s b H _ I h) λG c ⟨y,C,w,r,f⟩=>aL (k p c b C _ w f) λu E ⟨x,z,t,d,a,v,m,g,q⟩=>?_;subst m;obtain rfl:u=Value.ref a:=d;exact U_ j t g r λD n=>⟨.bl<|!v.isSome,z,n,rfl,q⟩
theorem Vh(t:X.A.units+1<cLine)(w:PE X o td)(z:PE X i ty)(n:PE X value tv)(hs:swapsWith value (some<|.Subscript o i pos') pos.line X.env=pure false):
  PS X (.Assign [.Subscript o i pos'] value pos) (Iw td ty tv):=by
 intro p s b H D I h;refine wpAny_Assign_Subscript (aL (n p s b H _ I h) λr d ⟨v,R,N,k,m⟩=>aL (w p d b R _ N m) λu c ⟨x,Q,K,j,l⟩=>aL (z p c b Q _ K l) λV T ⟨y,Z,G,f,a,P,C,g,q⟩=>?_) hs;subst C;obtain rfl:u=Value.ref a:=j;exact Va t G g f k λS E=>⟨b,P,E,q⟩
end
theorem Iy{w:World}{H:Hp}(h:Heap)(b:sysModules<h.objs.size):cM P w H (h.push {cls:=.type "dict",data:=.dict #[]}) h.objs.size (.dK []):=
 ⟨zqZ _,beq_eq_false_iff_ne.mpr<|Ne.symm<|zao b,[],.nil,Heap.DictOf.new h⟩
def Vj:TE:=λ_ H Q=>∀p,H p=none->Q (.ref p) (upd H p<|.dT [])
def yD(H:Hp)(a:Addr):Prop:=(∃k,Rd H a<|.dK k)\/∃k,Rd H a (.dT k)
theorem Vk{p:List (Addr×Obj)}{i:St}{H:Hp}{s:Shared}{a:Addr}(I:Inv X p i H s)(d:yD H a):
  s.TypeIs (.ref a) "dict"/\(∀b,Value.ref a=.ref b->∃o,s.heap.get? b=some o/\o.dict=none)/\(a==sysModules)=false:=by
 rcases d with⟨k,e⟩|⟨k,e⟩
 ·obtain⟨_,h,v,_,c⟩:=sQ I.aG e;refine⟨c.typeIs,λb q=>?_,h⟩;cases q;obtain⟨o,_,_,g,f,_⟩:=c;exact⟨o,g,f.2.1⟩
 ·obtain⟨_,h,x,_,c⟩:=sR I.aG e;refine⟨c.typeIs,λb q=>?_,h⟩;cases q;obtain⟨o,_,_,g,f,_⟩:=c;exact⟨o,g,f.2.1⟩
def Vl(f t e:TE):TE:=λb H Q=>f b H λx d=>∃a,x=.ref a/\yD d a/\t b d λy g=>e b g λz c=>∃o,dy c a y o/\Q (o.getD z) c
end L2
set_option maxHeartbeats 4000000
namespace L2
open PySem PySem.Spec PyProof.Rows
section
variable {X:Cx}{pins:List (Addr×Obj)}{σ:St}{H:Hp}{s:Shared}{a:Addr}{o:HO}
theorem Inv.Vm(I:Inv X pins σ H s)(t:H a=none)(A:X.s₀.heap.objs.size<=a)(y:a≠X.env.locals)(C:∀x c,X.env.cells.lookup x=some c->c≠a)
  (r:∀p∈X.pn++pins,p.1≠a) (f:cM X.prog X.w (upd H a o) s.heap a o):Inv X pins σ (upd H a o) s:=by
 have V:∀b u,X.s₀.heap.get? b=some u->b≠a:=λb u e=>zao (zaC (Heap.lt_size e) A);have v:∀b u,H b=some u->b≠a:=λb u e=>aM e t;refine⟨I.ok,I.os,I.bare,⟨I.base.keep,I.base.slot,λb u e n l=>?_,I.base.there,λb d e=>?_,λb u d e=>?_,λb k e=>?_⟩,I.loc,I.cell,?_,λx c e=>?_,λp q=>?_,λb u e=>?_,I.len⟩
 ·rw[ax<|V b u e];exact I.base.free b u e n l
 ·have z:=I.base.dS b d e;rw[ax<|v b _ z];exact z
 ·have z:=I.base.ic b u d e;rw[ax<|v b _ z];exact z
 ·obtain⟨m,z⟩:=I.base.iD b k e;exact⟨m,by rw[ax<|v b _ z];exact z⟩
 ·rw[ax<|Ne.symm y];exact I.free
 ·rw[ax<|C x c e];exact I.js x c e
 ·obtain⟨j,i,g⟩:=I.pin p q;exact⟨j,by rw[ax<|r p q];exact i,g⟩
 ·by_cases h:b=a
  ·subst h;rw[aw] at e;cases e;exact f
  ·rw[ax h] at e;exact(I.aG b u e).ou (λ_ _ _ q=>q) (λc q=>by rw[ax<|v c _ q];exact q) λc d q=>by rw[ax<|v c _ q];exact q
end
def eN(c:List (Str×Addr)):List (Str×NameKind)->List (Str×Addr)->List (Str×Addr)
 |[],a=>a
 |(n,k)::r,a=>eN c r (if k=.free then (n,(c.lookup n).getD 0)::a else a)
theorem Iz(env:Env):∀(s:List (Str×NameKind)) (b:List (Str×Addr)),(∀y∈s,y.2=.free->∃c,env.cells.lookup y.1=some c)->
  (forIn s b (fun(x:Str×NameKind) (l:List (Str×Addr))=>match x with
   |(d,f)=>if (f==NameKind.free)=true then do let a <-cellOf env d;pure (ForInStep.yield ((d,a)::l)) else pure (ForInStep.yield l)):Sem (List (Str×Addr)))=pure (eN env.cells s b)
 |[],b,_=>rfl
 |(n,k)::r,b,h=>by
  have j:=λC=>Iz env r C λy m=>h y (zay _ m);by_cases g:k=.free
  ·subst g;obtain⟨c,e⟩:=h (n,.free) zax rfl;have p:cellOf env n=pure c:=by unfold cellOf;rw[e]
   have i:eN env.cells ((n,.free)::r) b=eN env.cells r ((n,c)::b):=by simp[eN,e]
   rw[i,<-j]
   simp[p]
  ·have o:=by simpa using g
   have i:eN env.cells ((n,k)::r) b=eN env.cells r b:=by simp[eN,g]
   rw[i,<-j]
   simp[o]
theorem Vo{env:Env}(h:∀y∈s.names,y.2=.free->∃c,env.cells.lookup y.1=some c):closureFor s env=pure (eN env.cells s.names []):=by
 have:=Iz env s.names [] h
 simp only[closureFor]
 rw[<-this]
 simp
theorem IA:∀(s:List (Str×NameKind)) (a:List (Str×Addr)) (x:Str) (c:Addr),(eN b s a).lookup x=some c->(a.lookup x=some c)\/((x,.free)∈s/\(b.lookup x).getD 0=c)
 |[],a,x,c,h=>.inl h
 |(n,k)::r,a,x,c,h=>by
  rcases IA r _ x c h with z|⟨g,f⟩
  ·by_cases e:k=.free
   ·subst e
    simp at z
    rw[zbg] at z;by_cases d:x==n
    ·simp only[d] at z
     have V:=eq_of_beq d;subst V;exact .inr ⟨zax,zar z⟩
    ·have q:(x==n)=false:=by lia
     simp only[q] at z
     exact .inl z
   ·simp only[if_neg e] at z
    exact .inl z
  ·exact .inr ⟨zay _ g,f⟩
theorem Cj:∀(s:List (Str×NameKind)) (a:List (Str×Addr)) (x:Str),((x,NameKind.free)∈s\/∃c,a.lookup x=some c)->∃c,(eN b s a).lookup x=some c
 |[],a,x,h=>by
  rcases h with h|h
  ·cases h
  ·exact h
 |(n,k)::r,a,x,h=>by
  refine Cj r _ x ?_;rcases h with h|⟨c,h⟩
  ·rcases zaa.mp h with e|h
   ·cases e;refine .inr ?_
    simp
   ·exact .inl h
  ·refine .inr ?_;by_cases d:k=.free
   ·simp only[if_pos d,zbg]
    cases f:x==n
    ·exact⟨c,h⟩
    ·exact⟨_,rfl⟩
   ·simp only[if_neg d];exact⟨c,h⟩
theorem IB{env:Env}:∀(s:List (Str×NameKind)) (x:Str),
  (s.map fun(n,k)=>if (k==NameKind.free && env.scope.kind==.function && env.kindOf n==some .cell) then (n,NameKind.cell) else (n,k)).lookup x=
   (s.lookup x).map λk=>if (k==NameKind.free && env.scope.kind==.function && env.kindOf x==some .cell) then NameKind.cell else k
 |[],_=>rfl
 |(n,k)::r,x=>by
  have i:=IB (env:=env) r x;show List.lookup x ((if (k==NameKind.free && env.scope.kind==.function && env.kindOf n==some .cell)=true then (n,NameKind.cell) else (n,k))::_)=_
  cases a:x==n with
  |true=>
   have e:=eq_of_beq a;subst e;by_cases h:(k==NameKind.free && env.scope.kind==.function && env.kindOf x==some .cell)=true
   ·rw[if_pos h];simp only[zbg,beq_self_eq_true,zaW];rw[if_pos h]
   ·rw[if_neg h];simp only[zbg,beq_self_eq_true,zaW];rw[if_neg h]
  |false=>
   by_cases h:(k==NameKind.free && env.scope.kind==.function && env.kindOf n==some .cell)=true
   ·rw[if_pos h];simp only[zbg,a];exact i
   ·rw[if_neg h];simp only[zbg,a];exact i
section
variable {prog:Program}{w:World}{A:Around}{R:Result->Shared->Prop}{s:Shared}
theorem Vq{t p:Expr}{q:List Expr}{k:Scope}{D:Pos}{it C:Value}{env:Env}(I:Nat->Shared->Prop)
  (l:∀n s,I n s->wpAny (model prog w) A (pyNext it) (λr b=>match r with
   |none=>R (.ok .next) b
   |some v=>wpAny (model prog w) A (letOwnedTupleGo t it v) (λ_ G=>wpAny (model prog w) A (assign t env v) (λ_ g=>
     wpAny (model prog w) A (forIn q true λc r=>if r=true then do let o <-isTrue c env (eval c env);pure (ForInStep.yield o) else pure (ForInStep.yield r)) (λo a=>
      if o=true then wpAny (model prog w) A (eval E env) (λx f=>
       wpAny (model prog w) A (call (.builtin "list.append") [C,x]) (λ_ e=>∃m,m<n/\I m e) (λ_ _=>False) f) (λ_ _=>False) a
      else ∃m,m<n/\I m a) (λ_ _=>False) g) (λ_ _=>False) G) (λ_ _=>False) b) (λ_ _=>False) s)
  (n:Nat) (h:I n s):codeAny (model prog w) A (.compLoop (.ListComp E [⟨t,p,q,0⟩] k D) 0 it C env) R s:=by
 refine codeAny_loop rfl I (λn s H=>wpAny_noted (wpAny_bind<|wpAny_standAt<|wpAny_bind<|wpAny_mono (l n s H) (λr b j=>?_) λ_ _ d=>d.elim)) n h;cases r with
 |none=>exact wpAny_pure j
 |some v=>
  refine wpAny_bind<|wpAny_mono j (λ_ G V=>wpAny_bind<|wpAny_mono V (λ_ g z=>wpAny_bind<|wpAny_mono z (λo a i=>?_) λ_ _ d=>d.elim) λ_ _ d=>d.elim) λ_ _ d=>d.elim;cases o with
  |false=>exact wpAny_pure ⟨rfl,i⟩
  |true=>
   exact wpAny_bind<|wpAny_bind<|wpAny_mono i (λx f y=>wpAny_bind<|wpAny_mono y (λ_ e u=>wpAny_pure<|wpAny_pure ⟨rfl,u⟩) λ_ _ d=>d.elim) λ_ _ d=>d.elim
end
def iJ(X:Cx)(e:Scope)(N:List Str)(x:List Addr)(C:Addr)(s:Shared)(H:Hp):Cx where
 prog:=X.prog
 w:=X.w
 K:=X.K
 mg:=X.mg
 base:=X.base
 A:=X.A
 N:=N
 s₀:=s
 H₀:=H
 env:=compEnvC e (eN X.env.cells e.names []) C X.env
 outer:=X.stack
 stack:=X.stack
 ex:=x
 fn:=λ_=>false
 calm:=X.calm
 pn:=[]
 xe:=λ_ _=>False
structure kD (X:Cx) (scope:Scope) (ln:List Str) (fv:List (Str×Nat)):Prop where
 kind:scope.kind=.function
 ID:∀y∈scope.names,y.2≠ .cell
 locals:∀y∈scope.names,y.2=.local->scope.names.lookup y.1=some .local
 free:∀y∈scope.names,y.2=.free->(X.env.kindOf y.1=some .cell\/X.env.kindOf y.1=some .free)
 Vs:∀p∈fv,X.N[p.2]?=some p.1/\scope.names.lookup p.1=some .free
def cI(a:St)(f:List (Str×Nat)):St:=f.map λp=>(a[p.2]?).join
def jV(K:Frag):Option Nat->V->Hp->(List V->Prop)->Prop
 |none,x,_,Q=>Q [x]
 |some n,x,H,Q=>if n=102 then ∃a xs,x=.ref a/\aB K H a xs/\xs.length=2/\Q xs else ∃a xs,x=.ref a/\aK K H a xs/\xs.length=n/\Q xs
theorem Vt{K:Frag}{n:Nat}{x:V}{H:Hp}{P Q:List V->Prop}(h:jV K (some n) x H P)(k:∀xs,P xs->Q xs):jV K (some n) x H Q:=by
 by_cases e:n=102
 ·have h:if n=102 then ∃a xs,x=.ref a/\aB K H a xs/\xs.length=2/\P xs else ∃a xs,x=.ref a/\aK K H a xs/\xs.length=n/\P xs:=h
  show if n=102 then ∃a xs,x=.ref a/\aB K H a xs/\xs.length=2/\Q xs else ∃a xs,x=.ref a/\aK K H a xs/\xs.length=n/\Q xs
  rw[if_pos e] at h⊢;obtain⟨a,xs,d,c,b,q⟩:=h;exact⟨a,xs,d,c,b,k _ q⟩
 ·have h:if n=102 then ∃a xs,x=.ref a/\aB K H a xs/\xs.length=2/\P xs else ∃a xs,x=.ref a/\aK K H a xs/\xs.length=n/\P xs:=h
  show if n=102 then ∃a xs,x=.ref a/\aB K H a xs/\xs.length=2/\Q xs else ∃a xs,x=.ref a/\aK K H a xs/\xs.length=n/\Q xs
  rw[if_neg e] at h⊢;obtain⟨a,xs,d,c,b,q⟩:=h;exact⟨a,xs,d,c,b,k _ q⟩
def lW:Option TT->TT
 |none=>λ_ H k=>k true H
 |some t=>t
def qC(K:Frag)(w:TI)(t:Option Nat)(v:List (Str×Nat))(k:Option TT)(j:TE):TE:=λf H Q=>
 w f H λc n=>∃a:Nat->Nat->List V->Hp->Prop,(∃m,a 0 m [] n)/\∀i m s d,a i m s d->
  (c.stop i d/\∀p,d p=none->Q (.ref p) (upd d p<|.lst s))\/
  (c.go i d/\∀x g,c.iE i d x g->jV K t x g λxs=>
   lW k (xs.map some++cI f v) g λb h=>
    if b=true then j (xs.map some++cI f v) h λy l=>s.length<sizeLine/\∃e,e<m/\a (i+1) e (s++[y]) l
    else ∃e,e<m/\a (i+1) e s h)
section
variable {X:Cx}{pins:List (Addr×Obj)}{σ:St}{H:Hp}{s₂ s₃:Shared}{scope:Scope}{ln:List Str}{fv:List (Str×Nat)}{fp:List Addr}{h₁:Heap}{D C:Addr}{m:Str->Option Value}{t:Nat}
theorem kD.cells(S:kD X scope ln fv)(I:Inv X pins σ H s₂){x:Str}{c:Addr}(h:(eN X.env.cells scope.names []).lookup x=some c):X.env.cells.lookup x=some c/\(x,NameKind.free)∈scope.names:=by
 rcases IA _ _ _ _ h with z|⟨b,a⟩
 ·cases z
 ·obtain⟨d,e⟩:=I.ok.has x (S.free _ b rfl);rw[e] at a;subst a;exact⟨e,b⟩
theorem kD.IE(S:kD X scope ln fv)(I:Inv X pins σ H s₂):closureFor scope X.env=pure (eN X.env.cells scope.names []):=
 Vo λy h k=>I.ok.has y.1 (S.free y h k)
theorem Vu(S:kD X scope ln fv)(I:Inv X pins σ H s₂)(G:∀b∈fp,jP X pins H b)(vi:∀b∈fp,∃o,s₂.heap.get? b=some o)
  (os:s₃.os=s₂.os) (s:s₃.gens=s₂.gens) (k3:∀b o,s₂.heap.get? b=some o->s₃.heap.get? b=some o) (A:D=s₂.heap.objs.size) (Z:s₃.heap.objs.size=s₂.heap.objs.size+1) (V:C=s₃.heap.objs.size)
  (n:∀b o,s₃.heap.get? b=some o->h₁.get? b=some o) (yy:h₁.Ns C m):
  Inv (iJ X scope (ln++fv.map (·.1)) (D::fp) C s₃ H) [] (ln.map (λ_=>none)++cI σ fv) H {s₃ with heap:=h₁,toks:=t}:=by
 have f:∀{x c},(eN X.env.cells scope.names []).lookup x=some c->X.env.cells.lookup x=some c:=λh=>(S.cells I h).1;have Vv:∀{x c},(eN X.env.cells scope.names []).lookup x=some c->c<s₂.heap.objs.size:=λh=>by
  obtain⟨v,q⟩:=I.cell _ _ (f h);exact q.lt
 have Vw:∀b∈fp,b<s₂.heap.objs.size:=λb a=>by obtain⟨o,e⟩:=vi b a;exact Heap.lt_size e
 have Vx:∀b∈D::fp,b<=s₂.heap.objs.size:=λb a=>by
  rcases zaa.mp a with e|a
  ·rw[e,A];exact zqR _
  ·exact Nat.le_of_lt (Vw b a)
 have IF:∀x,(relabel scope X.env).names.lookup x=(scope.names.lookup x).map λk=>if (k==NameKind.free && X.env.scope.kind==.function && X.env.kindOf x==some .cell) then NameKind.cell else k:=λx=>IB scope.names x
 have Vy:∀x,scope.names.lookup x=some .free->((relabel scope X.env).names.lookup x=some .cell\/(relabel scope X.env).names.lookup x=some .free):=λx e=>by
  rw[IF,e]
  simp only[zaW]
  split
  ·exact .inl rfl
  ·exact .inr rfl
 have Vz:∀x,((relabel scope X.env).names.lookup x=some .cell\/(relabel scope X.env).names.lookup x=some .free)->(x,NameKind.free)∈scope.names:=λx e=>by
  rw[IF] at e;cases q:scope.names.lookup x with
  |none=>rw[q] at e;rcases e with e|e<;>cases e
  |some k=>
   rw[q] at e;have R:=PySem.mem_of_lookup q
   simp only[zaW] at e
   by_cases g:k=.free
   ·rw[g] at R;exact R
   ·have a:(k==NameKind.free)=false:=by simpa using g
    simp only[a,Bool.false_and,zbI,if_false] at e
    rcases e with e|e
    ·exact absurd (zar e) (S.ID _ R)
    ·exact absurd (zar e) g
 refine⟨⟨I.ok.mod,S.kind,I.ok.glob,I.ok.blt,zbm V.symm,λx y c h1 h2=>I.ok.inj x y c (f h1) (f h2),λx hx=>Cj _ _ x (.inl (Vz x hx)),λx c h _=>(by cases h),I.ok.hd,I.ok.frames,.inl rfl,λb a=>⟨?_,λx c e=>?_⟩,λb o e=>⟨k3 b o (I.bs b o e).1,(I.bs b o e).2⟩,?_,λb o e a=>?_,λb a hf=>?_,?_,I.xX⟩,
  rfl,?_,Un.kept λb u e=>n b u e,⟨m,yy,λi x v e1 d e3=>?_⟩,λx c e=>?_,I.aG.fresh ?_,λx c e=>I.js x c (f e),λp hp=>absurd (show p∈ ([]:List (Addr×Obj)) from hp) (by simp),I.aG.kept λb u e=>n b u (k3 b u e),?_⟩
 ·show b≠C;have:=Vx b a;rw[V,Z];exact zao (Nat.lt_succ_of_le this)
 ·have q1:=Vv e;rcases zaa.mp a with z|z
  ·rw[z,A];exact zao q1
  ·exact(G b z).2.2.2.2.1 x c (f e)
 ·show X.base.objs.size<=s₃.heap.objs.size;have:=zap I.ok.ql I.sz;lia
 ·have d:=(I.bs b o e).1;have N:b∈D::fp:=a;rcases zaa.mp N with z|z
  ·have:=Heap.lt_size d;rw[z,A] at this;exact zaO _ this
  ·rcases (G b z).2.2.2.1 with q|q
   ·exact I.ok.xU b o e q
   ·exact absurd (zaC (Heap.lt_size (I.ok.bs b o e).1) q) (zaO _)
 ·have Ck:=hf;have N:b∈D::fp:=a;rcases zaa.mp N with z|z
  ·rcases zaa.mp (I.xW b Ck) with q|q
   ·have:=I.lt;rw[<-q,z,A] at this;exact zaO _ this
   ·exact I.GF (by lia) q
  ·rcases zaa.mp (I.xW b Ck) with q|q
   ·exact(G b z).2.1 q
   ·exact(G b z).2.2.1 q
 ·exact PySem.Heap.FunFrames.of_keeps (λb o e _=>⟨o,k3 b o e,rfl⟩) I.stack
 ·rw[s];exact I.bare
 ·have w:ln.length<=i:=by
   by_cases w:i<ln.length
   ·exfalso
    rw[zaB (by simpa using w),zam] at d
    cases q:ln[i]? with
    |none=>rw[q] at d;cases d
    |some y=>rw[q] at d;cases d
   ·lia
  have j:(ln++fv.map (·.1))[i]?=some x:=e1;rw[zaK w,zam] at j;rw[zaK (by simpa using w),zae] at d
  unfold cI at d;rw[zam] at d;cases q:fv[i - ln.length]? with
  |none=>rw[q] at j;cases j
  |some p=>
   rw[q] at j d;have ex:p.1=x:=zar j;have K:(σ[p.2]?).join=some v:=zar d;obtain⟨g1,E⟩:=S.Vs p (zan q);rw[ex] at g1 E;have VA:σ[p.2]?=some (some v):=by
    cases z:σ[p.2]? with
    |none=>rw[z] at K;cases K
    |some o=>rw[z] at K;rw[show o=some v from K]
   have g:=S.free _ (PySem.mem_of_lookup E) rfl;obtain⟨m2,jQ,hl⟩:=I.loc;obtain⟨u,r,l⟩:=hl p.2 x v g1 VA (by rcases g with k|k;exact .inr (.inl k);exact .inr (.inr k))
   refine⟨u,r,.inr ?_⟩;rcases l with⟨k,_⟩|⟨_,c,ec,z⟩
   ·rcases g with P|P<;>(rw[k] at P;cases P)
   ·refine⟨Vy x E,c,?_,?_⟩
    ·obtain⟨c',e'⟩:=Cj scope.names [] x (.inl<|PySem.mem_of_lookup E);have:=f e';rw[ec] at this;cases this;exact e'
    ·obtain⟨o,Q,T⟩:=z;exact⟨o,n c o<|k3 c o Q,T⟩
 ·obtain⟨v,o,Q,T⟩:=I.cell x c (f e);exact⟨v,o,n c o<|k3 c o Q,T⟩
 ·rw[V,Z];exact Nat.le_succ _
 ·show(ln.map (λ_=>none)++cI σ fv).length=(ln++fv.map (·.1)).length
  simp[cI]
end
structure IG (Φ:Cx->Prop) (P:Program) (w:World) (K:Frag) (tg:Expr) (J:It) (fp:List Addr) (it:Addr) (tn:Nat->Heap->Prop):Prop where
 mem:it∈fp
 obj:∀i h,tn i h->∀b∈fp,∃o,h.get? b=some o/\∀v,o.data≠ .cell v
 keep:∀i h h',tn i h->(∀b∈fp,∀o,h.get? b=some o->h'.get? b=some o)->tn i h'
 item:∀(X:Cx),X.prog=P->X.w=w->X.K=K->Φ X->∀(i:Nat) (pins:List (Addr×Obj)) (s:Shared) (σ:St) (H:Hp) (E:Value->Shared->Prop),Inv X pins σ H s->(∀b∈fp,jP X pins H b)->tn i s.heap->J.go i H->
  wpAny (model P w) X.A (pyNext (.ref it)) (λr s1=>∃u,r=some u/\
   wpAny (model P w) X.A (letOwnedTupleGo tg (.ref it) u) (λ_ s2=>∃x H',Inv X pins σ H' s2/\RelV x u/\J.iE i H x H'/\tn (i+1) s2.heap/\∀b∈fp,H' b=none) E s1) E s
 done:∀(X:Cx),X.prog=P->X.w=w->X.K=K->Φ X->∀(i:Nat) (pins:List (Addr×Obj)) (s:Shared) (σ:St) (H:Hp) (E:Value->Shared->Prop),Inv X pins σ H s->(∀b∈fp,jP X pins H b)->tn i s.heap->J.stop i H->
  wpAny (model P w) X.A (pyNext<|.ref it) (λr s1=>r=none/\Inv X pins σ H s1) E s
 self:∀(A:Around) (i:Nat) (s:Shared) (Q:Value->Shared->Prop) (E:Value->Shared->Prop),tn i s.heap->Q (.ref it) s->wpAny (model P w) A (pyIter<|.ref it) Q E s
def Cm(g:Cx->Prop)(X:Cx)(j i:Expr)(h:TI):Prop:=
 ∀(p:List (Addr×Obj)) (s:Shared) (c:St) (H:Hp) (R:It->Hp->Prop),Inv X p c H s->h c H R->
  wpAny (model X.prog X.w) X.A (eval i X.env) (λv k=>wpAny (model X.prog X.w) X.A (pyIter v) (λq e=>
   ∃(it:Addr) (f:List Addr) (t:Nat->Heap->Prop) (a:It) (d:Hp),q=.ref it/\Inv X p c d e/\IG g X.prog X.w X.K j a f it t/\t 0 e.heap/\(∀b∈f,jP X p d b)/\R a d) X.xe k) X.xe s
abbrev Calm(X:Cx):Prop:=X.calm=true
theorem PI.p{t i:Expr}{w:TI}(h:PI X t i w):Cm Calm X t i w:=λb s c H R I q=>
 aL (h b s c H R I q) λv u j=>aL j λx o ⟨g,k,n,a,m,e,l,T,d,f,r⟩=>⟨g,k,n,a,m,e,l,⟨T.mem,T.obj,T.keep,T.item,T.done,T.self⟩,d,f,r⟩
section
variable {X:Cx}{pins:List (Addr×Obj)}{σ:St}{H:Hp}{s₂:Shared}{scope:Scope}{ln:List Str}{fv:List (Str×Nat)}{elt tg iter:Expr}{ifs:List Expr}{pos:Pos}
 {J:It}{fp:List Addr}{it:Addr}{tn:Nat->Heap->Prop}{tk:Option Nat}{tc:Option TT}{te:TE}{Qv:VK}{RR:Value->Addr->Result->Shared->Prop}{E:Value->Shared->Prop}
def Cn(c:Hp->Prop)(X:Cx)(scope:Scope)(ln:List Str)(fv:List (Str×Nat))(tg:Expr)(tk:Option Nat):Prop:=
 ∀(e:List Addr) (C:Addr) (s:Shared) (H:Hp),c H->∃g,PG (iJ X scope (ln++fv.map (·.1)) e C s H) tg g/\
  ∀(x:V) (p b:St) (a:Hp) (Q:St->Hp->Prop),p.length=ln.length->jV X.K tk x a (λxs=>xs.length=ln.length->Q (xs.map some++b) a)->g x (p++b) a Q
def vj(X:Cx)(scope:Scope)(ln:List Str)(fv:List (Str×Nat))(tg:Expr)(tk:Option Nat):Prop:=
 ∀(e:List Addr) (C:Addr) (s:Shared) (H:Hp),∃g,PG (iJ X scope (ln++fv.map (·.1)) e C s H) tg g/\
  ∀(x:V) (p b:St) (a:Hp) (Q:St->Hp->Prop),p.length=ln.length->jV X.K tk x a (λxs=>xs.length=ln.length->Q (xs.map some++b) a)->g x (p++b) a Q
def vk(X:Cx)(scope:Scope)(N:List Str)(ifs:List Expr)(tc:Option TT):Prop:=
 match tc with
 |none=>ifs=[]
 |some t=>∃c,ifs=[c]/\∀(e:List Addr) (C:Addr) (s:Shared) (H:Hp),PT (iJ X scope N e C s H) c t
theorem IH{Ψ:Hp->Prop}(S:kD X scope ln fv)(hc:∀l:Cx,l.A=X.A->l.calm=X.calm->l.H₀=H->Φ l)(j':Ψ H)(hg:Cn Ψ X scope ln fv tg tk)(ht:vk X scope (ln++fv.map (·.1)) ifs tc)
  (he:∀(ex:List Addr) (C:Addr) (s:Shared) (H:Hp),PE (iJ X scope (ln++fv.map (·.1)) ex C s H) elt te)
  (I:Inv X pins σ H s₂) (T:IG Φ X.prog X.w X.K tg J fp it tn) (st:tn 0 s₂.heap) (f2:∀b∈fp,jP X pins H b)
  (h:∃a:Nat->Nat->List V->Hp->Prop,(∃m,a 0 m [] H)/\∀i m N H2,a i m N H2->
   (J.stop i H2/\∀p,H2 p=none->Qv (.ref p) (upd H2 p<|.lst N))\/
   (J.go i H2/\∀x H3,J.iE i H2 x H3->jV X.K tk x H3 λxs=>
    lW tc (xs.map some++cI σ fv) H3 λb H5=>
     if b=true then te (xs.map some++cI σ fv) H5 λy H6=>N.length<sizeLine/\∃G,G<m/\a (i+1) G (N++[y]) H6
     else ∃G,G<m/\a (i+1) G N H5))
  (VB:∀D C Q s' m,Inv X pins σ Q s'->s'.heap.Ns C m->Q C=none->C≠X.env.locals->X.s₀.heap.objs.size<=C->(∀x c,X.env.cells.lookup x=some c->c≠C)->(∀p∈X.pn++pins,p.1≠C)->Qv (.ref D) Q->RR (.ref D) C (.ok .next) s'):
  wpAny (model X.prog X.w) X.A (newList []) (λi' f=>wpAny (model X.prog X.w) X.A (newFunctionEnv scope X.env.globals (eN X.env.cells scope.names []) [] X.env.qual none .none (some X.env)) (λII R=>
   codeAny (model X.prog X.w) X.A (.compStart (.ListComp elt [⟨tg,iter,ifs,0⟩] scope pos) 0 (.ref it) i' {II with scope:=relabel scope X.env}) (RR i' II.locals) R) E f) E s₂:=by
 obtain⟨a,⟨m0,w0⟩,f'⟩:=h;refine wpAny_newObj_type<|wpAny_newFunctionEnv S.ID (by intro y hy;simp at hy) (λP yE yF=>?_) S.kind
 dsimp only at yE yF⊢
 generalize jx:({s₂ with heap:=s₂.heap.push {cls:=.type "list",dict:=none,data:=.seq ([]:List Value).toArray}}:Shared)=f
 have vm:s₂.heap.push {cls:=.type "list",dict:=none,data:=.seq ([]:List Value).toArray}=f.heap:=by rw[<-jx]
 rw[vm] at yE yF⊢;have IJ:f.os=s₂.os:=by rw[<-jx]
 have VC:f.gens=s₂.gens:=by rw[<-jx]
 have qE:f.heap.objs.size=s₂.heap.objs.size+1:=by rw[<-vm,Heap.size_push]
 have k3:∀b o,s₂.heap.get? b=some o->f.heap.get? b=some o:=λb o e=>by rw[<-vm];exact Heap.get?_push_of_some _ e
 have k4:∀b o,f.heap.get? b=some o->P.get? b=some o:=λb o e=>yF.extBut b o (zao<|Heap.lt_size e) (Heap.get?_push_of_some _ e);have gD:f.heap.get? s₂.heap.objs.size=some {cls:=.type "list",dict:=none,data:=.seq ([]:List Value).toArray}:=by rw[<-vm];exact Heap.get?_push_size _ rfl
 generalize eD:s₂.heap.objs.size=D at gD;generalize eC:f.heap.objs.size=C at yE yF⊢;have yG:D≠C:=by rw[<-eD,<-eC,qE];exact zao (Nat.lt_succ_self _)
 have vi:∀b∈fp,∃o,s₂.heap.get? b=some o:=λb j=>by obtain⟨o,e,_⟩:=T.obj 0 _ st b j;exact⟨o,e⟩
 have IL:∀b∈fp,b≠D:=λb j=>by obtain⟨o,e⟩:=vi b j;rw[<-eD];exact zao (Heap.lt_size e)
 have VD:∀b∈fp,b≠C:=λb j=>by
  obtain⟨o,e⟩:=vi b j;have:=Heap.lt_size e;rw[<-eC,qE];exact zao (zbJ this)
 generalize eX:iJ X scope (ln++fv.map (·.1)) (D::fp) C f H=l;have I4:∀t,Inv l [] (ln.map (λ_=>none)++cI σ fv) H {f with heap:=P,toks:=t}:=λt=>by
  rw[<-eX];exact Vu S I f2 vi IJ VC k3 eD.symm qE eC.symm k4 yE
 have xL:l.env.locals=C:=by rw[<-eX];rfl
 have yH:l.ex=D::fp:=by rw[<-eX];rfl
 have VE:l.fs=bI X.stack:=by rw[<-eX];rfl
 have xP:l.prog=X.prog:=by rw[<-eX];rfl
 have xw:l.w=X.w:=by rw[<-eX];rfl
 have xK:l.K=X.K:=by rw[<-eX];rfl
 have xA:l.A=X.A:=by rw[<-eX];rfl
 have xc:Φ l:=hc l xA (by rw[<-eX];rfl) (by rw[<-eX];rfl)
 have IM:l.pn=[]:=by rw[<-eX];rfl
 have Co:l.xe=λ_ _=>False:=by rw[<-eX];rfl
 have IP:l.env.cells=eN X.env.cells scope.names []:=by rw[<-eX];rfl
 have Cp:l.env=compEnvC scope (eN X.env.cells scope.names []) C X.env:=by rw[<-eX];rfl
 have cD:∀x c,l.env.cells.lookup x=some c->c≠D:=λx c e=>by
  rw[IP] at e;obtain⟨v,q⟩:=I.cell x c (S.cells I e).1;rw[<-eD];exact zao q.lt
 have cF:∀x c,l.env.cells.lookup x=some c->∀b∈fp,c≠b:=λx c e b j=>by
  rw[IP] at e;exact(f2 b j).2.2.2.2.1 x c (S.cells I e).1
 have sF:∀b∈D::fp,b∉l.fs:=λb j hf=>by
  have:=(I4 0).ok.xV b (by rw[yH];exact j)
  exact this hf
 have qp:∀{Q:Hp}{oD:Obj},(∀b∈fp,Q b=none)->∀b∈fp,jP l [(D,oD)] Q b:=λhn b j=>
  ⟨hn b j,by rw[xL];exact VD b j,sF b (zay _ j),.inl (by rw[yH];exact zay _ j),λx c e=>cF x c e b j,λp Z=>by
   rw[IM] at Z;rcases zah.mp (show p∈ [(D,_)] from Z) with rfl
   exact(IL b j).symm⟩
 have b':∀R:Shared,R={f with heap:=P,toks:=f.toks+([]:List (Str×Value)).length}->
   codeAny (model X.prog X.w) X.A (.compLoop (.ListComp elt [⟨tg,iter,ifs,0⟩] scope pos) 0 (.ref it) (.ref D)<|compEnvC scope (eN X.env.cells scope.names []) C X.env) (RR (.ref D) C) R:=by
  rintro R rfl;refine Vq (λn s'=>qX6 λi a' N aq nn Q=>qA7 (Inv l [(D,{cls:=.type "list",data:=.seq (List.toArray aq) nn})] (a'++cI σ fv) Q s') (a'.length=ln.length) (tn i s'.heap) (∀b∈fp,Q b=none) (Vals N aq) (N.length<=sizeLine) (a i n N Q)) ?_ m0
   ⟨0,ln.map<|λ_=>none,[],[],0,H,(I4 _).sD<|λp Z=>?_,by simp,T.keep 0 _ _ st<|λb _ o e=>k4 b o<|k3 b o e,λb j=>(f2 b j).1,.nil,zqZ _,w0⟩
  rotate_left
  ·have sT:=zah.mp Z;subst sT;refine⟨k4 _ _ gD,I.aG.fresh<|zbm eD,by rw[xL];exact yG,sF D zax,λv z=>by cases z⟩
  rintro n s' ⟨i,a',N,aq,nn,Q,I',m3,kz,IQ,hv,hz,w'⟩;have k':=I'.pin (D,_) (zau _ zax);rcases f' i n N Q w' with⟨g',qn⟩|⟨go,h'⟩
  ·have td:=T.done l xP xw xK xc i _ s' _ Q (λ_ _=>False) I' (qp IQ) kz g';rw[xA] at td;refine aL td λr s1 ⟨hr,I1⟩=>?_;subst hr;have Cq:=I1.pin (D,_) (zau _ zax);have b1:=I1.base;rw[VE,yH] at b1;have IS:l.s₀=f:=by rw[<-eX];rfl
   have VF:l.H₀=H:=by rw[<-eX];rfl
   rw[IS,VF] at b1;have nD:∀b o,s₂.heap.get? b=some o->b∉fp->b∉D::fp:=λb o e j hm=>by
    rcases zaa.mp hm with z|z
    ·have:=Heap.lt_size e;rw[z,eD] at this;exact zaO _ this
    ·exact j z
   have un:Un (bI X.stack) fp H Q s₂.heap s1.heap:=⟨λb o e nb j hx=>b1.keep b o (k3 b o e) nb j (nD b o e hx),λb o e nb j hx=>b1.slot b o (k3 b o e) nb j (nD b o e hx),λb o e nb hx=>b1.free b o (k3 b o e) nb (nD b o e hx),
    λb o e hx=>b1.there b o (k3 b o e) (nD b o e hx),b1.dS,b1.ic,b1.iD⟩
   have VG:s1.os=s₂.os:=by rw[I1.os,IS,IJ]
   have IT:=I1.aG;rw[xP,xw] at IT;have J1:Inv X pins σ Q s1:=I.BG VG un IT I1.bare λb j=>⟨(f2 b j).2.2.2.1,(f2 b j).2.1,(f2 b j).2.2.2.2.1,(f2 b j).2.2.2.2.2⟩;have VH:∀x c,X.env.cells.lookup x=some c->c≠D:=λx c e=>by
    obtain⟨v,q⟩:=I.cell x c e;rw[<-eD];exact zao q.lt
   have VI:∀x c,X.env.cells.lookup x=some c->c≠C:=λx c e=>by
    obtain⟨v,q⟩:=I.cell x c e;rw[<-eC,qE];exact zao (zbJ q.lt)
   have pD:∀p∈X.pn++pins,p.1≠D:=λp Z=>by rw[<-eD];exact zao (Heap.lt_size (I.pin p Z).1)
   have pC:∀p∈X.pn++pins,p.1≠C:=λp Z=>by
    rw[<-eC,qE];exact zao (zbJ<|Heap.lt_size (I.pin p Z).1)
   have lD:D≠X.env.locals:=by rw[<-eD];exact Nat.ne_of_gt I.lt
   have lC:C≠X.env.locals:=by
    rw[<-eC,qE];exact Nat.ne_of_gt (zbJ I.lt)
   have J2:Inv X pins σ (upd Q D<|.lst N) s1:=Inv.Vm J1 Cq.2.1 (by rw[<-eD];exact I.sz) lD VH pD ⟨hz,aq,nn,hv,Cq.1⟩
   obtain⟨mC,IU,_⟩:=I1.loc;rw[xL] at IU;have fC:Q C=none:=by have:=I1.free;rw[xL] at this;exact this
   exact VB D C _ s1 mC J2 IU (by rw[ax<|Ne.symm yG];exact fC) lC (by rw[<-eC,qE];exact Nat.le_succ_of_le I.sz) VI pC<|qn D Cq.2.1
  ·have ti:=T.item l xP xw xK xc i _ s' _ Q (λ_ _=>False) I' (qp IQ) kz go;rw[xA] at ti;refine aL ti λr s4 ⟨u,hr,h4⟩=>?_;subst hr;refine aL h4 λ_ s5 ⟨x,H5,I5,r5,y5,qq,BO⟩=>?_;have uV:=I5.pinned (qp BO) (T.obj _ _ qq);obtain⟨g,pg,gq⟩:=hg (D::fp) C f H j';rw[eX] at pg;have rd:=h' x H5 y5;have IV:=pg _ s5 _ H5 x u (λe' H6=>qX1 λ(xs:List V)=>qA4 (e'=xs.map some++cI σ fv) (xs.length=ln.length) (H6=H5) (lW tc (xs.map some++cI σ fv) H5 λb H5=>
     if b=true then te (xs.map some++cI σ fv) H5 λy H6=>N.length<sizeLine/\∃G,G<n/\a (i+1) G (N++[y]) H6
     else ∃G,G<n/\a (i+1) G N H5)) uV r5 (gq x a' (cI σ fv) H5 _ m3 (by
      cases tk with
      |none=>exact λhl=>⟨_,rfl,hl,rfl,rd⟩
      |some k=>exact Vt rd λxs rd hl=>⟨xs,rfl,hl,rfl,rd⟩))
   rw[xA,xP,xw,Co,Cp] at IV;refine aL IV λ_ s6 ⟨e',H6,I6,xs,e6,lX,eH,IW⟩=>?_;subst e6 eH;have IX:∀{H7:Hp}{d':St}{s7:Shared},Inv l ([(D,{cls:=.type "list",data:=.seq (List.toArray aq) nn})]++sI fp s5.heap) d' H7 s7->tn (i+1) s7.heap/\(∀b∈fp,H7 b=none)/\s7.heap.get? D=some {cls:=.type "list",data:=.seq (List.toArray aq) nn}/\H7 D=none:=λ{H7 d' s7} I7=>by
    refine⟨T.keep _ _ _ qq λb j o e=>(I7.pin (b,o)<|zau _<|zau _<|yc j e).1,λb j=>?_,?_,?_⟩
    ·obtain⟨o,e,d⟩:=T.obj _ _ qq b j;exact(I7.pin (b,o)<|zau _<|zau _<|yc j e).2.1
    ·exact(I7.pin (D,_)<|zau _<|zaG _ zax).1
    ·exact(I7.pin (D,_)<|zau _<|zaG _ zax).2.1
   have c':wpAny (model X.prog X.w) X.A (forIn ifs true λc r=>if r=true then do let ok <-isTrue c (compEnvC scope (eN X.env.cells scope.names []) C X.env) (eval c<|compEnvC scope (eN X.env.cells scope.names []) C X.env);pure (ForInStep.yield ok) else pure (ForInStep.yield r))
     (λok s7=>∃H7,Inv l ([(D,{cls:=.type "list",data:=.seq (List.toArray aq) nn})]++sI fp s5.heap) (xs.map some++cI σ fv) H7 s7/\
      if ok=true then te (xs.map some++cI σ fv) H7 λy H6=>N.length<sizeLine/\∃G,G<n/\a (i+1) G (N++[y]) H6
      else ∃G,G<n/\a (i+1) G N H7) (λ_ _=>False) s6:=by
    cases tc with
    |none=>
     have sU:ifs=[]:=ht;subst sU;exact wpAny_tests_nil ⟨_,I6,IW⟩
    |some t=>
     obtain⟨c,sU,pt⟩:=(show ∃c,ifs=[c]/\∀(ex:List Addr) (C:Addr) (s:Shared) (H:Hp),PT (iJ X scope (ln++fv.map (·.1)) ex C s H) c t from ht)
     subst sU;have IY:=pt (D::fp) C f H;rw[eX] at IY;have q:=IY _ s6 _ _ _ I6 IW;rw[xA,xP,xw,Co,Cp] at q;exact wpAny_tests_one<|aL q λb s7 ⟨H7,I7,q7⟩=>⟨H7,I7,q7⟩
   refine aL c' λok s7 ⟨H7,I7,q7⟩=>?_;cases ok with
   |false=>
    simp only[zbI,if_false] at q7⊢
    obtain⟨G,hm,w7⟩:=q7;obtain⟨t7,f7,d7,n7⟩:=IX I7;refine⟨G,hm,i+1,xs.map some,N,aq,nn,H7,I7.sD<|λp Z=>?_,by simpa using lX,t7,f7,hv,hz,w7⟩
    exact I7.pin p<|zau _<|zaG _ Z
   |true=>
    simp only[if_true] at q7⊢
    have q:=he (D::fp) C f H;rw[eX] at q;have q:=q _ s7 _ H7 _ I7 q7;rw[xA,xP,xw,Co,Cp] at q;refine aL q λuy s8 ⟨y,H8,I8,r8,bD,G,hm,w8⟩=>?_;obtain⟨t8,f8,d8,n8⟩:=qa4 (IX I8);have hl:=hv.length;refine call_meets F.slot_list_append ⟨_,d8,rfl⟩ F.entry_list_append (F.args_list_append_2 _ _) (PySem.list_append D aq.toArray nn uy (by rw[zak];lia)) ⟨d8,?_⟩
    have I9:∀t,Inv l [] (xs.map some++cI σ fv) H8 {s8 with heap:=s8.heap.update D (Obj.mapSeq (·.push uy)),toks:=t}:=λt=>
     (I8.sD (pins':=[])<|λp Z=>absurd Z (by simp)).turned (it:=D) (t':=t) (λb o j e=>(Heap.get?_update_other s8.heap (Obj.mapSeq (·.push uy))<|Ne.symm j).trans e) n8 (by rw[xL];exact yG) (.inl (by rw[yH];exact zax)) cD
      (λp Z=>by rw[IM] at Z;exact absurd Z (by simp))
    have g9:=PySem.IsL.update d8 (·.push uy);obtain⟨n9,VJ⟩:∃n9,(s8.heap.update D (Obj.mapSeq (·.push uy))).get? D=some {cls:=.type "list",data:=.seq (aq++[uy]).toArray n9}:=
     ⟨_,by rw[show(aq++[uy]).toArray=aq.toArray.push uy by simp];exact g9⟩
    refine⟨G,hm,i+1,xs.map some,N++[y],aq++[uy],n9,H8,(I9 _).sD<|λp Z=>?_,by simpa using lX,?_,f8,hv.append<|.cons r8 .nil,?_,w8⟩
    ·have sT:=zah.mp Z;subst sT;exact⟨VJ,n8,by rw[xL];exact yG,sF D zax,λv z=>by cases z⟩
    ·exact T.keep _ _ _ t8 λb j o e=>(Heap.get?_update_other s8.heap (Obj.mapSeq (·.push uy))<|Ne.symm<|IL b j).trans e
    ·rw[zqA,zbw];lia
 have VL:tn 0 P:=T.keep 0 _ _ st λb _ o e=>k4 b o (k3 b o e);have e4:({s₂ with heap:=P,toks:=s₂.toks+([]:List (Str×Value)).length}:Shared)={f with heap:=P,toks:=f.toks+([]:List (Str×Value)).length}:=by rw[<-jx]
 exact codeAny_compStart_list (b' _ e4)<|T.self X.A 0 _ _ _ VL<|b' _ e4
end
section
variable {X:Cx}{scope:Scope}{ln:List Str}{fv:List (Str×Nat)}{elt tg iter:Expr}{ifs:List Expr}{pos:Pos}{wi:TI}{tk:Option Nat}{tc:Option TT}{te:TE}
theorem VM{g:Hp->Prop}(S:kD X scope ln fv)(G:∀H,g H->∀d:Cx,d.A=X.A->d.calm=X.calm->d.H₀=H->j d)(c:∀p f H s,Inv X p f H s->g H)(w:Cm j X tg iter wi)(z:Cn g X scope ln fv tg tk)(t:vk X scope (ln++fv.map (·.1)) ifs tc)
  (E:∀(ex:List Addr) (C:Addr) (s:Shared) (H:Hp),PE (iJ X scope (ln++fv.map (·.1)) ex C s H) elt te) (hs:∀x,foldedSetIterable iter X.env x=pure x:=by intro _;rfl):
  PE X (.ListComp elt [⟨tg,iter,ifs,0⟩] scope pos) (qC X.K wi tk fv tc te):=by
 intro p s f H Q I h;refine wpAny_comprehension_free rfl hs (S.IE I) S.kind S.locals<|aL (w p s f H _ I h) λv s1 Z=>aL Z λqo s2 V=>?_;obtain⟨it,fp,tn,a,H2,zq⟩:=qx5 V;obtain⟨e,i,T,u,f2,P⟩:=qa6 zq;subst e;refine IH S (G H2<|c _ _ _ _ i) (c _ _ _ _ i) z t E i T u f2 P ?_;intro D C H' s' m I' n r R h0 y l q;exact⟨m,n,λh' k=>⟨.ref D,H',I'.turned (λb o N e=>k.extBut b o N e) r R (.inr h0) y l,rfl,q⟩⟩
theorem VN{j:Hp->Prop}{i:Nat}{y:Str}{r n:Pos}(hN:X.N.Nodup)(Q:X.N[i]?=some y)(R:Loc X.env.scope y)(Cr:swapsWith (.ListComp elt [⟨tg,iter,ifs,0⟩] scope pos) (some<|.Name y r) n.line X.env=pure true)
  (S:kD X scope ln fv) (hc:∀H,j H->∀g:Cx,g.A=X.A->g.calm=X.calm->g.H₀=H->u g) (d:∀p f H s,Inv X p f H s->j H) (hi:Cm u X tg iter wi) (hg:Cn j X scope ln fv tg tk) (V:vk X scope (ln++fv.map (·.1)) ifs tc)
  (he:∀(ex:List Addr) (C:Addr) (s:Shared) (H:Hp),PE (iJ X scope (ln++fv.map (·.1)) ex C s H) elt te) (hs:∀x,foldedSetIterable iter X.env x=pure x:=by intro _;rfl)
  (hf:X.fn y=true\/X.env.scope.names.lookup y=some .local:=by first|exact .inl rfl|exact .inr rfl|assumption):
  PS X (.Assign [.Name y r] (.ListComp elt [⟨tg,iter,ifs,0⟩] scope pos) n) (lQ (qC X.K wi tk fv tc te)<|gE i):=by
 intro p s f H D I h;rw[exec_Assign_Name_used _ _ _ _ Cr];refine wpAny_bind<|wpAny_standAt<|wpAny_bind ?_
 refine wpAny_bind (wpAny_mono (wpAny_comprehension_free rfl hs (S.IE I) S.kind S.locals
  (aL (hi p s f H _ I h) λv s1 h1=>aL h1 λqo s2 h2=>?_)) (λ_ G Z=>wpAny_pure (wpAny_pure Z)) λ_ _ e=>e)
 obtain⟨it,fp,tn,c,H2,zq⟩:=qx5 h2;obtain⟨e,k,T,w,f2,hW⟩:=qa6 zq;subst e;refine IH (Qv:=λx H1=>gE i x f H1 D.nx) S (hc H2<|d _ _ _ _ k) (d _ _ _ _ k) hg V he k T w f2 hW ?_;intro Da C H' G m I' P hn t h0 l hp q;refine wpAny_assign_Name<|GJ I' hN Q R (v:=.ref Da) rfl (λs4 I4 ⟨a,E,ha⟩=>?_) hf;have VO:C≠a:=by
  rcases ha with z|z
  ·rw[z];exact t
  ·exact Ne.symm (l _ _ z)
 exact⟨m,P.sameBut E VO,λh' VP=>⟨_,H',I4.turned (λb o hb e=>VP.extBut b o hb e) hn t (.inr h0) l hp,q⟩⟩
theorem VQ(S:kD X scope ln fv)(c:X.calm=true)(i:PI X tg iter wi)(g:vj X scope ln fv tg tk)(h:vk X scope (ln++fv.map (·.1)) ifs tc)
  (b:∀(a:List Addr) (C:Addr) (s:Shared) (H:Hp),PE (iJ X scope (ln++fv.map (·.1)) a C s H) elt te) (hs:∀x,foldedSetIterable iter X.env x=pure x:=by intro _;rfl):
  PE X (.ListComp elt [⟨tg,iter,ifs,0⟩] scope pos) (qC X.K wi tk fv tc te):=
 VM S (λ_ _ d _ e _=>e.trans c) (λ_ _ _ _ _=>trivial) i.p (λa C s H _=>g a C s H) h b hs
theorem VR{y:Str}{b v:Pos}(l:X.N.Nodup)(c:X.N[i]?=some y)(h:Loc X.env.scope y)(r:swapsWith (.ListComp elt [⟨tg,iter,ifs,0⟩] scope pos) (some<|.Name y b) v.line X.env=pure true)
  (S:kD X scope ln fv) (k:X.calm=true) (d:PI X tg iter wi) (g:vj X scope ln fv tg tk) (t:vk X scope (ln++fv.map (·.1)) ifs tc)
  (j:∀(a:List Addr) (C:Addr) (s:Shared) (H:Hp),PE (iJ X scope (ln++fv.map (·.1)) a C s H) elt te) (hs:∀x,foldedSetIterable iter X.env x=pure x:=by intro _;rfl)
  (f:X.fn y=true\/X.env.scope.names.lookup y=some .local:=by first|exact .inl rfl|exact .inr rfl|assumption):
  PS X (.Assign [.Name y b] (.ListComp elt [⟨tg,iter,ifs,0⟩] scope pos) v) (lQ (qC X.K wi tk fv tc te)<|gE i):=
 VN l c h r S (λ_ _ m _ e _=>e.trans k) (λ_ _ _ _ _=>trivial) d.p (λa C s H _=>g a C s H) t j hs f
end
section
variable {X:Cx}{scope:Scope}{fv:List (Str×Nat)}
theorem VS{b:Pos}(l:scope.names.lookup x=some .local)(y:(x::fv.map (·.1)).Nodup):vj X scope [x] fv (.Name x b) none:=by
 intro e C s H;have V:Loc (iJ X scope ([x]++fv.map (·.1)) e C s H).env.scope x:=.inl (lookup_relabel_local l);refine⟨gE 0,x_ y rfl V<|.inr<|lookup_relabel_local l,λv p d f Q c h=>?_⟩;obtain⟨a,rfl⟩:∃a,p=[a]:=by
  match p,c with
  |[a],_=>exact⟨a,rfl⟩
 exact h rfl
theorem VU{l j f:Pos}{k:Nat}(A:X.calm=true)(w:scope.names.lookup x=some .local)(u:scope.names.lookup y=some .local)(P:(x::y::fv.map (·.1)).Nodup):vj X scope [x,y] fv (.Tuple [.Name x l,.Name y j] k f) (some 2):=by
 intro D C s H;generalize eX:iJ X scope ([x,y]++fv.map (·.1)) D C s H=c;have i:c.N=x::y::fv.map (·.1):=eX▸rfl
 have o:c.calm=true:=eX▸A
 have n:c.env.scope.names.lookup x=some .local:=eX▸lookup_relabel_local w
 have m:c.env.scope.names.lookup y=some .local:=eX▸lookup_relabel_local u
 have t:PG c (.Name x l) (gE 0):=x_ (by lia) (i▸rfl) (.inl n) (.inr n)
 have r:PG c (.Name y j) (gE 1):=x_ (by lia) (i▸rfl) (.inl m) (.inr m)
 have R:c.K=X.K:=eX▸rfl
 refine⟨G8 c.K 2<|ya (gE 0)<|ya (gE 1) BK,G9 o<|BL t<|BL r G7,λv p I T Q z h=>?_⟩;obtain⟨a,b,rfl⟩:∃a b,p=[a,b]:=by
  match p,z with
  |[a,b],_=>exact⟨a,b,rfl⟩
 obtain⟨G,g,rfl,S,E,q⟩:=h;obtain⟨e,d,rfl⟩:∃e d,g=[e,d]:=by
  match g,E with
  |[e,d],_=>exact⟨e,d,rfl⟩
 exact⟨G,_,rfl,by lia,rfl,e,_,rfl,d,_,rfl,rfl,q rfl⟩
theorem bA.imp{r r':R2}(h:bA X f r)(i:∀x y H Q,r' x y H Q->r x y H Q):bA X f r':=λp s a H x y v u Q I c b q=>h p s a H x y v u Q I c b (i _ _ _ _ q)
theorem dD.imp{r r':List V->Hp->VK->Prop}(h:dD X f r)(i:∀xs H Q,r' xs H Q->r xs H Q):dD X f r':=λp s a H xs u Q I v q=>h p s a H xs u Q I v (i _ _ _ q)
def IZ(K:Frag):R2:=λx y H Q=>match x,y with
 |.int i,.int j=>Q (.int<|i+j) H
 |.str i,.str j=>i.length+j.length<=sizeLine/\Q (.str<|i++j) H
 |.ref l,.ref b=>Ig (.ref l) (.ref b) H Q\/HW K (.ref l) (.ref b) H Q
 |_,_=>False
theorem VW:bA X (binaryOp .Add) (IZ X.K):=by
 refine bA.imp ((Sx.or Tb).or<|UP.or Uh) λx y H Q h=>?_;cases x<;>cases y<;>first
  |exact False.elim h
  |exact .inl (.inl ⟨_,_,rfl,rfl,h⟩)
  |exact .inl (.inr ⟨_,_,rfl,rfl,h⟩)
  |exact .inr h
def lY(C:Int->Int->Prop)(g:Int->Int->V):R2:=λx y H Q=>match x,y with
 |.int i,.int j=>C i j/\Q (g i j) H
 |_,_=>False
theorem Cs{g:Int->Int->V}(x y:V)(H:Hp)(Q:VK)(h:lY C g x y H Q):rI C g x y H Q:=by
 cases x<;>cases y<;>first
  |exact False.elim h
  |exact⟨_,_,rfl,rfl,h⟩
theorem vp(x y:V)(H:Hp)(Q:VK)(h:lY (λ_ _=>True) g x y H Q):mW g x y H Q:=by
 cases x<;>cases y<;>first
  |exact False.elim h
  |exact⟨_,_,rfl,rfl,h.2⟩
def I0:R2:=λx y H Q=>match x,y with
 |.int i,.int j=>yg i j/\Q (.int<|i*j) H
 |.ref l,.int k=>Ih (.ref l) (.int k) H Q
 |_,_=>False
theorem VX:bA X (binaryOp .Mult) I0:=by
 refine bA.imp (Sz.or UQ) λx y H Q h=>?_;cases x<;>cases y<;>first
  |exact False.elim h
  |exact .inl ⟨_,_,rfl,rfl,h⟩
  |exact .inr h
def i8(K:Frag):Operator->R2
 |.Add=>IZ K
 |.Sub=>lY (λ_ _=>True) λi j=>.int (i - j)
 |.Mult=>I0
 |.FloorDiv=>lY BR λi j=>.int (i / j)
 |.Mod=>lY (λ_ j=>0<j) λi j=>.int (i % j)
 |.Pow=>lY Hq λi j=>.int (i ^ j.toNat)
 |_=>λ_ _ _ _=>False
theorem VY(o:Operator):bA X (binaryOp o) (i8 X.K o):=by
 cases o<;>first
  |exact VW
  |exact bA.imp Sy vp
  |exact VX
  |exact bA.imp SA Cs
  |exact bA.imp SD Cs
  |exact bA.imp SE Cs
  |exact λ_ _ _ _ _ _ _ _ _ _ _ _ h=>False.elim h
mutual
def Is(H:Hp):PyData->V->Prop
 |.none,v=>v=.av
 |.bool b,v=>v=.bl b
 |.int i,v=>v=.int i
 |.str x,v=>v=.str x
 |.list xs,v=>∃a vs,v=.ref a/\H a=some (.lst vs)/\IsL H xs vs
 |.tuple xs,v=>∃a vs,v=.ref a/\H a=some (.tup vs)/\IsL H xs vs
 |.dict _,_=>False
def IsL(H:Hp):List PyData->List V->Prop
 |[],vs=>vs=[]
 |d::ds,vs=>∃v r,vs=v::r/\Is H d v/\IsL H ds r
end
mutual
theorem Is.reads{pins:List (Addr×Obj)}{σ:St}{H:Hp}{s:Shared}(I:Inv X pins σ H s):∀(d:PyData) (v:V) (u:Value),Is H d v->RelV v u->∃as,Reads s.heap u d as
 |.none,v,u,h,r=>by rw[show v=.av from h] at r;rw[show u=.none from r];exact⟨_,.none⟩
 |.bool b,v,u,h,r=>by rw[show v=.bl b from h] at r;rw[show u=.bool b from r];exact⟨_,.bool b⟩
 |.int i,v,u,h,r=>by rw[show v=.int i from h] at r;obtain⟨t,e⟩:=r;rw[e];exact⟨_,.int i t⟩
 |.str x,v,u,h,r=>by rw[show v=.str x from h] at r;obtain⟨t,e⟩:=r;rw[e];exact⟨_,.str x t⟩
 |.list xs,v,u,h,r=>by
  obtain⟨a,vs,e,hH,hl⟩:=(show ∃a vs,v=.ref a/\H a=some (.lst vs)/\IsL H xs vs by simpa only[Is] using h)
  rw[e] at r;rw[show u=.ref a from r]
  obtain⟨_,aq,n,hv,hg⟩:=I.aG a _ hH;obtain⟨as,q⟩:=IsL.reads I xs vs aq hl hv;exact⟨_,.list hg rfl rfl (by simpa using q)⟩
 |.tuple xs,v,u,h,r=>by
  obtain⟨a,vs,e,hH,hl⟩:=(show ∃a vs,v=.ref a/\H a=some (.tup vs)/\IsL H xs vs by simpa only[Is] using h)
  rw[e] at r;rw[show u=.ref a from r]
  obtain⟨_,aq,hv,o,hg,hc,n,hd⟩:=I.aG a _ hH;obtain⟨as,q⟩:=IsL.reads I xs vs aq hl hv;exact⟨_,.tuple hg hc hd (by simpa using q)⟩
 |.dict _,v,u,h,r=>by simp only[Is] at h
theorem IsL.reads{pins:List (Addr×Obj)}{σ:St}{H:Hp}{s:Shared}(I:Inv X pins σ H s):∀(ds:List PyData) (vs:List V) (us:List Value),IsL H ds vs->Vals vs us->∃as,ReadsAll s.heap us ds as
 |[],vs,us,h,r=>by
  rw[show vs=[] from h] at r
  cases r;exact⟨_,.nil⟩
 |d::ds,vs,us,h,r=>by
  obtain⟨v,q,e,h1,h2⟩:=(show ∃v r,vs=v::r/\Is H d v/\IsL H ds r by simpa only[IsL] using h)
  rw[e] at r;cases r with
  |cons r1 r2=>
   obtain⟨as,q1⟩:=Is.reads I d v _ h1 r1;obtain⟨bs,q2⟩:=IsL.reads I ds q _ h2 r2;exact⟨_,.cons q1 q2⟩
end
def VZ:V->Bool
 |.ot _=>false
 |.gR _=>false
 |_=>true
def V0:R2:=λx y H Q=>∃a b xs,x=.ref a/\y=.ref b/\H a=some (.lst xs)/\H b=some (.lst xs)/\xs.all VZ=true/\Q (.bl true) H
def m5(n:Bool):R2:=λx y H Q=>match lS x y with
 |true=>Q (.bl<|n ^^ decide (x=y)) H
 |false=>∃d e,Is H d x/\Is H e y/\SeqAt.shaped d=true/\SeqAt.shaped e=true/\Q (.bl<|n ^^ PyData.eqv d e) H
def V1:R2:=λx y H Q=>m5 false x y H Q\/V0 x y H Q
theorem V2(i:X.A.units+64<cLine):bA X (compareOp .Eq) (m5 false):=by
 intro p s c H x y v u Q I a r h;unfold m5 at h;by_cases b:lS x y=true
 ·rw[b] at h
  simp at h
  exact SK p s c H x y v u Q I a r ⟨b,h⟩
 ·rw[show lS x y=false by lia] at h
  obtain⟨d,e,m,l,k,j,q⟩:=h;rw[zaL] at q;obtain⟨o,g⟩:=Is.reads I d x v m a;obtain⟨n,f⟩:=Is.reads I e y u l r;exact eq_dataH g f k j i ⟨.bl _,H,I,rfl,q⟩
theorem V3(i:X.A.units+64<cLine):bA X (compareOp .NotEq) (m5 true):=by
 intro p s c H x y v u Q I a r h;unfold m5 at h;by_cases b:lS x y=true
 ·rw[b] at h
  simp at h
  exact SM p s c H x y v u Q I a r ⟨b,h⟩
 ·rw[show lS x y=false by lia] at h
  obtain⟨d,e,m,l,k,j,q⟩:=h;rw[zaM] at q;obtain⟨o,g⟩:=Is.reads I d x v m a;obtain⟨n,f⟩:=Is.reads I e y u l r;exact ne_dataH g f k j i ⟨.bl _,H,I,rfl,q⟩
def aiM(K:Frag)(H:Hp)(a:Addr):Prop:=(∃xs,aB K H a xs)\/(∃xs,aK K H a xs)\/∃k,H a=some (.dK k)
def yK(K:Frag)(n:Bool):R2:=λx y H Q=>match y with
 |.str j=>∃i,x=.str i/\Q (.bl (if n then !(!(Builtin.Str.occurrences j i 0 j.length 1).isEmpty) else !(Builtin.Str.occurrences j i 0 j.length 1).isEmpty)) H
 |.ref p=>match x with
  |.ref _=>False
  |x=>B5 K n x (.ref p) H Q
 |_=>False
theorem V4(f:X.A.units+64<cLine):bA X (compareOp .In) (yK X.K false):=by
 intro b s c H x y v u Q I d r h;cases y with
 |str j=>
  obtain⟨i,e,q⟩:=h;exact SS b s c H x _ v u Q I d r ⟨i,j,e,rfl,q⟩
 |ref p=>
  cases x with
  |ref a=>exact False.elim h
  |_=>exact Uu b s c H _ _ v u Q I d r h
 |_=>exact False.elim h
theorem V_(f:X.A.units+64<cLine):bA X (compareOp .NotIn) (yK X.K true):=by
 intro b s c H x y v u Q I d r h;cases y with
 |str j=>
  obtain⟨i,e,q⟩:=h;exact SW b s c H x _ v u Q I d r ⟨i,j,e,rfl,q⟩
 |ref p=>
  cases x with
  |ref a=>exact False.elim h
  |_=>exact Uv b s c H _ _ v u Q I d r h
 |_=>exact False.elim h
theorem Wa{A:Around}{E:Value->Shared->Prop}{s:Shared}{Q:Value->Shared->Prop}{v:Value}{d:Bool}(b:∀i,v≠ .builtin i)(h:Q (.bool<|v==.bool d) s):wpAny a A (compareOp .Is v<|.bool d) Q E s:=by
 cases v<;>first|exact wpAny_pure h|exact absurd rfl (b _)
theorem Wb{A:Around}{E:Value->Shared->Prop}{s:Shared}{Q:Value->Shared->Prop}{v:Value}{d:Bool}(b:∀i,v≠ .builtin i)(h:Q (.bool<|!(v==.bool d)) s):wpAny a A (compareOp .IsNot v<|.bool d) Q E s:=by
 cases v<;>first|exact wpAny_pure h|exact absurd rfl (b _)
def I_:R2:=λx y H Q=>match y with
 |.bl b=>Q (.bl<|decide<|x=.bl b) H
 |_=>y=.av/\Q (.bl<|decide<|x=.av) H
def Ja:R2:=λx y H Q=>match y with
 |.bl b=>Q (.bl<|!decide (x=.bl b)) H
 |_=>y=.av/\Q (.bl<|!decide (x=.av)) H
theorem Wc:bA X (compareOp .Is) I_:=by
 intro p s d H x y v u Q I r c h;cases y with
 |bl b=>
  cases c;have n:∀i,v≠ .builtin i:=λi z=>by
   subst z;cases x<;>first
    | (obtain⟨t,e⟩:=r;cases e)
    | (cases r)
  refine Wa n<|cE I (show Q (.bl<|decide<|x=.bl b) H from h) ?_
  cases x<;>first
   | (cases r;rfl)
   | (obtain⟨t,rfl⟩:=r;rfl)
   | (cases r;rename_i a;cases a<;>cases b<;>rfl)
 |_=>exact SU p s d H x _ v u Q I r c h
theorem Wd:bA X (compareOp .IsNot) Ja:=by
 intro p s d H x y v u Q I r c h;cases y with
 |bl b=>
  cases c;have n:∀i,v≠ .builtin i:=λi z=>by
   subst z;cases x<;>first
    | (obtain⟨t,e⟩:=r;cases e)
    | (cases r)
  refine Wb n<|cE I (show Q (.bl<|!decide (x=.bl b)) H from h) ?_
  cases x<;>first
   | (cases r;rfl)
   | (obtain⟨t,rfl⟩:=r;rfl)
   | (cases r;rename_i a;cases a<;>cases b<;>rfl)
 |_=>exact SV p s d H x _ v u Q I r c h
def da(K:Frag):CmpOp->R2
 |.Eq=>m5 false
 |.NotEq=>m5 true
 |.Lt=>lY (λ_ _=>True) λi j=>.bl (decide<|i<j)
 |.LtE=>lY (λ_ _=>True) λi j=>.bl (decide<|i<=j)
 |.Gt=>lY (λ_ _=>True) λi j=>.bl (decide<|j<i)
 |.GtE=>lY (λ_ _=>True) λi j=>.bl (decide<|j<=i)
 |.In=>yK K false
 |.NotIn=>yK K true
 |.Is=>I_
 |.IsNot=>Ja
theorem yL(h:X.A.units+64<cLine)(o:CmpOp):bA X (compareOp o) (da X.K o):=by
 cases o with
 |Eq=>exact V2 h
 |NotEq=>exact V3 h
 |Lt=>exact bA.imp SN vp
 |LtE=>exact bA.imp SO vp
 |Gt=>exact bA.imp SQ vp
 |GtE=>exact bA.imp SR vp
 |In=>exact V4 h
 |NotIn=>exact V_ h
 |Is=>exact Wc
 |IsNot=>exact Wd
inductive Ty where|int|str|bool|list|tuple|dict
 deriving DecidableEq
def Ty.nm:Ty->String
 |.int=> "int" |.str=> "str" |.bool=> "bool" |.list=> "list" |.tuple=> "tuple" |.dict=> "dict"
def cj(T:Ty)(x:V)(H:Hp)(Q:Bool->Prop):Prop:=match x with
 |.av=>Q false
 |.bl _=>Q (T==.bool ||T==.int)
 |.int _=>Q (T==.int)
 |.str _=>Q (T==.str)
 |.ref a=>match H a with
  |some (.lst _)=>Q (T==.list)
  |some (.cw _<|.lst _)=>Q (T==.list)
  |some (.tup _)=>Q (T==.tuple)
  |some (.dK _)=>Q (T==.dict)
  |some (.dT _)=>Q (T==.dict)
  |_=>False
 |_=>False
theorem oG(K:Frag)(S T:Ty):kitOne K (.type S.nm) (.type T.nm)=some (S==T ||(S==.bool && T==.int)):=by
 cases S<;>cases T<;>rfl
theorem We(K:Frag)(T:Ty):kitOne K (.type "NoneType") (.type T.nm)=some false:=by
 cases T<;>rfl
theorem Wf(d:X.calm=true):dD X (.builtin "sum") (λxs H Q=>∃(p:Addr) (n:List Int),xs=[.ref p]/\aB X.K H p (n.map V.int)/\Q (.int n.sum) H):=by
 intro a s j H xs m Q I r h;obtain⟨p,n,rfl,c,q⟩:=h;obtain⟨u,rfl,b⟩:=vals1 r;cases b;obtain⟨g,v,l,z⟩:=I.list c;have i:=intsAre_of v;obtain⟨xs,x⟩:=i.allInts.items;refine sum_intListG (I.ok.hd d) (x ▸ l.isList) λw o t k=>?_;have f:n=xs.toList.map (·.1):=by
  rw[<-nums_intItems,<-x];exact(show numsOf g.toArray.toList=n from i.numsOf).symm
 have e:preSum (numAt xs) xs.size=n.sum:=by
  rw[preSum_eq,zaI (by simp),f]
 rw[e];exact⟨.int n.sum,H,I.kept k,⟨t,rfl⟩,q⟩
theorem Jb:∀{s:List Str}{u:List Value},Vals (s.map V.str) u->∃l:List (Str×Tok),u=strValues l/\l.map (·.1)=s:=by
 intro s;induction s with
 |nil=>intro _ h;cases h;exact⟨[],rfl,rfl⟩
 |cons x s i=>
  intro _ h;cases h with|cons e r=>obtain⟨t,e⟩:=e;obtain⟨l,b,a⟩:=i r;subst e b;exact⟨(x,t)::l,rfl,by simp[a]⟩
def rJoin(K:Frag):V->List V->Hp->VK->Prop:=λx vs H Q=>∃(s:Str) (p:Addr) (t:List Str),x=.str s/\vs=[.ref p]/\aB K H p (t.map V.str)/\JoinOk s t=true/\Q (.str<|Txt.join s t) H
theorem Wg:qw X "str.join" (rJoin X.K):=by
 intro a s m H x n v o Q I d r h;obtain⟨c,p,w,rfl,rfl,g,j,q⟩:=h;obtain⟨t,rfl⟩:=d;obtain⟨u,rfl,e⟩:=vals1 r;cases e;obtain⟨y,r,f,z⟩:=I.list g;obtain⟨l,rfl,i⟩:=Jb r;exact SC.join f.isList i j λb k=>⟨.str _,H,I.tok k,⟨b,rfl⟩,q⟩
def Wh:V->List V->Hp->VK->Prop:=λx vs H Q=>∃z y,x=.str z/\vs=[.str y]/\z.length<=sizeLine/\Q (.str<|Txt.lstripChars z y) H
theorem Wi:qw X "str.lstrip" Wh:=by
 intro p s e H x f v g Q I r c h;obtain⟨z,y,rfl,rfl,d,q⟩:=h;obtain⟨t,rfl⟩:=r;obtain⟨u,rfl,⟨a,rfl⟩⟩:=vals1 c;exact call_gives F.slot_str_lstrip (typeIs_str _ _ _) F.entry_str_lstrip (F.args_str_lstrip_2 _ _) (gives_str_lstrip_chars z y t a)<|post_val_or_made (λ_=>fits_stripped _ _ _ d) λb k=>⟨.str _,H,I.tok k,⟨b,rfl⟩,q⟩
def Wj:V->List V->Hp->VK->Prop:=λx vs H Q=>∃z y i,x=.str z/\vs=[.str y,.int i]/\Q (.bl<|decide (fromIndex z.length i+y.length<=z.length) && Builtin.Str.subAt z y (fromIndex z.length i)) H
theorem Wk:qw X "str.startswith" Wj:=by
 intro p s d H x e v f Q I r c h;obtain⟨z,y,i,rfl,rfl,q⟩:=h;obtain⟨t,rfl⟩:=r;obtain⟨u,w,rfl,⟨b,rfl⟩,⟨a,rfl⟩⟩:=vals2 c;exact call_gives F.slot_str_startswith (typeIs_str _ _ _) F.entry_str_startswith (F.args_str_startswith_3 _ _ _) (gives_str_startswith_from z y i t b a) ⟨.bl _,H,I,rfl,q⟩
def m6{a:Type}(xs:List a)(lo h:Option Int):List a:=(xs.drop<|HT.bj xs.length 0 lo).take (HT.bj xs.length xs.length h - HT.bj xs.length 0 lo)
def m8(z:Str)(lo h:Option Int):Str:=⟨(m6 z.cps.toList lo h).toArray⟩
theorem Wl(z:Str)(lo h:Option Int):((Builtin.Str.strSliceIndices lo h 1 z.length).filterMap (z.cps[·]?))=m6 z.cps.toList lo h:=by
 obtain⟨d,c,b⟩:=B3 lo h z.length;have e:Builtin.Str.strSliceIndices lo h 1 z.length=sliceRange (sliceBounds lo h none z.length).1 (sliceBounds lo h none z.length).2.1 (sliceBounds lo h none z.length).2.2:=rfl;have a:z.cps.toList.length=z.length:=rfl
 rw[e,d,c,b,sliceRange_one,pick_run];unfold m6;rw[a]
def yM(K:Frag)(n:Bool):R2:=λx y H Q=>∃p xs d s,y=.ref p/\aB K H p xs/\Is H d x/\IsL H s xs/\SeqAt.shaped d=true/\d.depth<=60/\(∀e∈s,SeqAt.shaped e=true)/\Q (.bl<|n ^^ s.any λe=>PyData.eqv e d) H
open Classical in
end
def qF:HO:=.ext λ_=>True
structure yN (ob:Obj) (cls:Value) (vs:Array Value):Prop where
 cls:ob.cls=cls
 data:ob.data=.fields vs
 aiN:vs[2]?=some .none
 dict:ob.dict=none
def ExcAt(H:Hp)(e D:Addr):Prop:= ∃o vs,H e=some (.cw o qF)/\yN o (.ref D) vs
structure Wm (K:Frag) (D:Addr):Prop where
 Jc:PySem.W.findIn K (.ref D) "__getattribute__"=some (some<|.builtin "BaseException.__getattribute__")
 hgn:PySem.W.findIn K (.ref D) "__getattr__"=some none
 hk:(PySem.W.clsIn K D).isSome=true
 ha:PySem.W.findIn K (.ref D) "__class__"=some (some<|.builtin "object.__class__")
 hn:specialIn K (.builtin "object.__class__") "__get__"=some (some<|.builtin "getset_descriptor.__get__")
 e_:takesIn K (.builtin "object.__class__")=some true
 hm:mroIn K D (.type "object")=some true
 hb:mroIn K D (.type "BaseException")=some true
def cV:V->Value
 |.ref a=>.ref a
 |.ty n=>.type n
 |_=>.none
def Jd(K:Frag):List V->Hp->VK->Prop
 |[.ref e,c],H,Q=>∃D b,ExcAt H e D/\Wm K D/\((∃C,c=.ref C)\/∃n,c=.ty n)/\kitOne K (.ref D) (cV c)=some b/\Q (.bl b) H
 |_,_,_=>False
def Wn(sp:Sp)(h:Option Addr)(t:TA):TE:=λb H Q=>t b H λvs a=>(∃e D,h=some e/\ExcAt a e D)/\sp vs a Q E0
def Ct(C:Addr)(E:XK)(t:TA):TS:=λ_ a H=>t a H λvs b=>vs.length<=sizeLine/\E (.ref C) none b
def Je(K:Frag)(C:Addr)(i n:Nat)(t:Addr->TS)(D:Ends):XK:=λc _ H=>exmOne K c (.ref C)=some true/\
 ∀(e:Addr) (o:Obj) (vs:Array Value) (a:St),H e=none->a.length=n->yN o c vs->t e {nx:=λ_ _=>False,rt:=D.rt} (a.set i<|some<|.ref e) (upd H e<|.cw o qF)
def yO(K:Frag)(C:Addr)(i n:Nat)(b:XK->TS)(t:Addr->TS):TS:=λD a H=>b (Je K C i n t D) {nx:=D.nx,rt:=D.rt} a H
def Wo(K:Frag)(C:Addr)(i:Nat)(t:Addr->TS)(D:Ends)(a:St):XK:=λc _ H=>exmOne K c (.ref C)=some true/\
 ∀(e:Addr) (o:Obj) (vs:Array Value),H e=none->yN o c vs->t e {nx:=λ_ _=>False,rt:=D.rt} (a.set i<|some<|.ref e) (upd H e<|.cw o qF)
def Wq(K:Frag)(C:Addr)(i k:Nat)(sp:Sp)(b:TA)(t:Addr->TS):TS:=λD a H=>b a H λvs d=>sp vs d (λv c=>D.nx (a.set k<|some v) c) (Wo K C i t D a)
inductive m9 where|len|min|max|sum|int|list|tuple|abs
 deriving DecidableEq
inductive i9 where|append|pop|extend|join|lstrip|starts|reverse|clear|index|find|count|Jf|Cu
 deriving DecidableEq
inductive IK where|list|tup|fS|yP|zip|Wr|txt|Ws|Wt
 deriving DecidableEq
inductive RE where
 |v (i:Nat)|c (x:V)|g (j:Nat)
 |bin (p:Operator) (a b:RE)|neg (a:RE)
 |cmp (p:CmpOp) (a b:RE)|vq (p z:CmpOp) (a b d:RE)|Jg (p z Jh:CmpOp) (a b d f:RE)
 |and (s:List RE)|or (s:List RE)|not (a:RE)|kE (t a b:RE)
 |call (j:Nat) (s:List RE)|blt (b:m9) (s:List RE)|ij (T:Ty) (a:RE)
 |bE (m:i9) (o:RE) (s:List RE)
 |ix (a b:RE)|sl (a:RE) (lo hi:Option RE)
 |tup (s:List RE)|lst (s:List RE)
 |comp (X:Option Nat) (fv:List (Str×Nat)) (k:IK) (aq:List RE) (l:Option RE) (C:RE)
 |Ji (a c:RE)|Wu (j:Nat) (a:RE)|yQ|same (a b:RE)
 |Wv|dc (a b:RE)|vt (a b:RE)|vv (a b:RE)|Ww (o a b:RE)|inD (a b:RE)|Jj (a b:RE)
 |xt (T:Frag->TA->TE) (s:List RE)|xm (T:Frag->TE->TA->TE) (o:RE) (s:List RE)
 |fld (o:RE) (f:Str)|aS (j:Nat) (m:Str) (o:RE) (s:List RE)|make (j:Nat) (s:List RE)
structure aQ where
 K:Frag
 fs:Nat->Sp
 gv:Nat->V
 E:XK
 sd:Addr->List (Key×V)->Prop
 ms:Nat->Addr×Sp
 kt:Nat->Addr×Sp
 ex:Nat->Addr
 hs:Nat->Sp
 hv:Option Addr
abbrev aQ.calm(Γ:aQ):aQ:={Γ with E:=E0}
inductive RS where
 |asg (i:Nat) (e:RE)|yR (i:Nat) (e:RE)|set (o A e:RE)
 |drop (e:RE)|ret (e:RE)|Cv
 |ite (c:RE) (t e:List RS)
 |jy (i:Nat) (k:IK) (x:List RE) (b:List RS)
 |sV (q:List Nat) (k:IK) (x:List RE) (b:List RS)
 |qG (c:RE) (b:List RS)
 |pass|brk|cont|never
 |Wx (o lo C e:RE)|bS (o:RE) (f:Str) (e:RE)
 |Wy (q:List Nat) (e:RE)|dput (o i e:RE)|fg (j:Nat) (w:List RE)|Cw (n i j:Nat) (b s:List RS)|Wz (k i j f:Nat) (w:List RE) (s:List RS)
 |xs (T:aQ->TS)
def jW(K:Frag)(x:V)(H:Hp)(Q:Bool->Prop):Prop:=match x with
 |.av=>Q false
 |.bl b=>Q b
 |.int i=>Q (i !=0)
 |.str y=>y.length<=sizeLine/\Q ((y.length:Int) !=0)
 |.ref p=>(∃xs,aB K H p xs/\Q (!xs.isEmpty))\/(∃xs,aK K H p xs/\Q (!xs.isEmpty))\/∃k,H p=some (.dK k)/\Q (!k.isEmpty)
 |_=>False
theorem Jk{K:Frag}{x:V}{H:Hp}{Q:Bool->Prop}(h:jW K x H Q):∃k,Hu K x H k/\Q k:=by
 cases x with
 |av=>exact⟨_,rfl,h⟩
 |bl b=>exact⟨_,rfl,h⟩
 |int i=>exact⟨_,rfl,h⟩
 |str y=>exact⟨_,⟨h.1,rfl⟩,h.2⟩
 |ref p=>
  rcases h with⟨s,c,a⟩|⟨s,c,a⟩|⟨s,c,a⟩
  ·exact⟨_,.inl ⟨s,c,rfl⟩,a⟩
  ·exact⟨_,.inr<|.inl ⟨s,c,rfl⟩,a⟩
  ·exact⟨_,.inr<|.inr ⟨s,c,rfl⟩,a⟩
 |_=>exact False.elim h
def gY(K:Frag)(t:TE):TT:=λc H Q=>t c H λx a=>jW K x a λb=>Q b a
def Cy(K:Frag)(t:TE):TE:=λc H Q=>t c H λx a=>jW K x a λb=>Q (.bl<|!b) a
def Jl:V->Hp->VK->Prop:=λx H Q=>match x with|.int i=>Q (.int<|-i) H|_=>False
def qy(K:Frag)(x:V)(H:Hp)(Q:Nat->Prop):Prop:=match x with
 |.str y=>y.length<=sizeLine/\Q y.length
 |.ref p=>(∃xs,aB K H p xs/\Q xs.length)\/∃xs,aK K H p xs/\Q xs.length
 |_=>False
def signs(x:Str):List V:=x.cps.toList.map λc=>V.str ⟨#[c]⟩
def Jm:TE:=λ_ H Q=>∀p,H p=none->Q (.ref p) (upd H p<|.dK [])
def oH(K:Frag):m9->List V->Hp->VK->Prop
 |.len,[x],H,Q=>qy K x H λn=>Q (.int n) H
 |.min,[.int i,.int j],H,Q=>Q (.int (if j<i then j else i)) H
 |.max,[.int i,.int j],H,Q=>Q (.int (if j>i then j else i)) H
 |.min,[.ref p],H,Q=>∃s:List Int,aB K H p (s.map V.int)/\s≠ []/\∀m:Int,m∈s->(∀n∈s,m<=n)->Q (.int m) H
 |.max,[.ref p],H,Q=>∃s:List Int,aB K H p (s.map V.int)/\s≠ []/\∀m:Int,m∈s->(∀n∈s,n<=m)->Q (.int m) H
 |.sum,[.ref p],H,Q=>∃s:List Int,aB K H p (s.map V.int)/\Q (.int s.sum) H
 |.int,[.int i],H,Q=>Q (.int i) H
 |.int,[.bl k],H,Q=>Q (.int (if k then 1 else 0)) H
 |.list,[.ref p],H,Q=>∃y,(aB K H p y\/aK K H p y)/\∀l,H l=none->Q (.ref l) (upd H l<|.lst y)
 |.list,[.str x],H,Q=>x.length<=sizeLine/\∀l,H l=none->Q (.ref l) (upd H l<|.lst<|signs x)
 |_,_,_,_=>False
def oI(T:Ty):List V->Hp->VK->Prop
 |[x,.ty n],H,Q=>n=T.nm/\cj T x H λb=>Q (.bl b) H
 |_,_,_=>False
def Cz(K:Frag):i9->V->List V->Hp->VK->Prop
 |.append,.ref l,[y],H,Q=>∃xs,H l=some (.lst xs)/\xs.length<sizeLine/\Q .av (upd H l<|.lst<|xs++[y])
 |.pop,.ref l,[],H,Q=>∃xs y,H l=some (.lst xs)/\xs[xs.length - 1]?=some y/\Q y (upd H l<|.lst xs.dropLast)
 |.extend,.ref l,[.ref b],H,Q=>∃xs a,H l=some (.lst xs)/\H b=some (.lst a)/\xs.length+a.length<=sizeLine/\Q .av (upd H l<|.lst<|xs++a)
 |.join,.str s,[.ref p],H,Q=>∃t:List Str,aB K H p (t.map V.str)/\JoinOk s t=true/\Q (.str<|Txt.join s t) H
 |.lstrip,.str z,[.str y],H,Q=>z.length<=sizeLine/\Q (.str<|Txt.lstripChars z y) H
 |.starts,.str z,[.str y,.int i],H,Q=>Q (.bl<|decide (fromIndex z.length i+y.length<=z.length) && Builtin.Str.subAt z y (fromIndex z.length i)) H
 |.count,.str z,[.str y],H,Q=>Q (.int (Builtin.Str.occurrences z y 0 z.length<|z.length+1).length) H
 |.clear,.ref l,[],H,Q=>∃xs,H l=some (.lst xs)/\Q .av (upd H l<|.lst [])
 |.Cu,.ref l,[y],H,Q=>∃xs,aB K H l xs/\i6 y=true/\xs.all i6=true/\gX y xs=true/\Q (.int (xs.findIdx (λz=>iH z y):Nat)) H
 |_,_,_,_,_=>False
def yS:i9->String
 |.join|.lstrip|.starts|.find|.count=> "str"
 |_=> "list"
def sW(K:Frag)(m:i9)(o:TE)(t:TA):TE:=λa H Q=>o a H λx b=>sO K (yS m) x b/\t a b λxs c=>Cz K m x xs c Q
def sX(K:Frag):V->Option Int->Option Int->Hp->VK->Prop:=λx lo h H Q=>match x with
 |.str z=>z.length<=sizeLine/\Q (.str<|m8 z lo h) H
 |.ref a=>(∃xs,aB K H a xs/\∀p,H p=none->Q (.ref p) (upd H p<|.lst<|gF xs lo h))\/
  (∃xs,aK K H a xs/\ ¬(HT.bj xs.length 0 lo=0/\HT.bj xs.length xs.length h=xs.length)/\∀p,H p=none->Q (.ref p) (upd H p<|.tup<|gF xs lo h))
 |_=>False
def qH(s:List (Key×V))(k:Key):Option V:=(s.find? λv=>decide (v.1=k)).map (·.2)
def Jn(d:Addr->List (Key×V)->Prop):R2:=λx y H Q=>∃p s k v,x=.ref p/\y=kV k/\d p s/\qH s k=some v/\Q v H
def oJ(K:Frag)(s:Addr->List (Key×V)->Prop):R2:=λx y H Q=>HZ K x y H Q\/H_ K x y H Q\/Ia x y H Q\/Jn s x y H Q
def WA(r r' i:R2)(h g f t:TE):TT:=λa H Q=>h a H λx o=>g a o λy n=>r x y n λz c=>∃k,z=.bl k/\
 (if k=true then f a c λw m=>r' y w m λe b=>∃k2,e=.bl k2/\(if k2=true then t a b λu l=>i w u l λd j=>∃k3,d=.bl k3/\Q k3 j else Q false b) else Q false c)
def WB(K:Frag)(a b:Addr):It:=
  ⟨λi H=>∃xs y,aB K H a xs/\aB K H b y/\i<xs.length/\i<y.length,
   λi H x c=>∃T,H T=none/\x=.ref T/\∀xs y u v,aB K H a xs->aB K H b y->xs[i]?=some u->y[i]?=some v->c=upd H T (.tup [u,v]),
   λi H=>∃xs y,aB K H a xs/\aB K H b y/\i=min xs.length y.length⟩
def WC(K:Frag)(a:Addr):It:=
  ⟨λi H=>∃xs,aB K H a xs/\i<xs.length,
   λi H x b=>∃T,H T=none/\x=.ref T/\∀xs u,aB K H a xs->xs[i]?=some u->b=upd H T (.tup [.int (i:Nat),u]),
   λi H=>∃xs,aB K H a xs/\i=xs.length⟩
def WD(K:Frag)(t:TA):TI:=λc H R=>t c H λvs b=>∃a,vs=[.ref a]/\(∃xs,aB K b a xs)/\R (WC K a) b
def WE(K:Frag)(t:TA):TI:=λd H R=>t d H λvs c=>∃a b,vs=[.ref a,.ref b]/\(∃xs,aB K c a xs)/\(∃y,aB K c b y)/\R (WB K a b) c
def WG(K:Frag)(a b:Addr):It:=
  ⟨λi H=>∃xs y,aK K H a xs/\aK K H b y/\i<xs.length/\i<y.length,
   λi H x c=>∃T,H T=none/\x=.ref T/\∀xs y u v,aK K H a xs->aK K H b y->xs[i]?=some u->y[i]?=some v->c=upd H T (.tup [u,v]),
   λi H=>∃xs y,aK K H a xs/\aK K H b y/\i=min xs.length y.length⟩
def WH(K:Frag)(t:TA):TI:=λd H R=>t d H λvs c=>∃a b,vs=[.ref a,.ref b]/\(∃xs,aK K c a xs)/\(∃y,aK K c b y)/\R (WG K a b) c
def WI(z:Str):It:=⟨λi _=>i<z.length,λi H x a=>a=H/\∃c,z.cps[i]?=some c/\x=.str ⟨#[c]⟩,λi _=>i=z.length⟩
def WJ(t:TE):TI:=λa H R=>t a H λx b=>∃z,x=.str z/\R (WI z) b
def WK(lo c:Int)(n:Nat):It:=⟨λi _=>i<n,λi H x a=>a=H/\x=.int (lo+i*c),λi _=>n<=i⟩
def WL(t:TA):TI:=λa H R=>t a H λvs b=>∃(i j c:Int) (n:Nat),vs=[.int i,.int j,.int c]/\c≠0/\Builtin.Range.small i j c=true/\Builtin.divisionGoesByPylong (j - i) c=false/\Builtin.Range.rangeSize i j c=n/\R (WK i c n) b
mutual
def ag(Γ:aQ):RE->TE
 |.v i=>BH i
 |.c x=>tC x
 |.g j=>tC (Γ.gv j)
 |.bin op a b=>gc (i8 Γ.K op) (ag Γ a) (ag Γ b)
 |.neg a=>Hn Jl (ag Γ a)
 |.cmp op a b=>gc (da Γ.K op) (ag Γ a) (ag Γ b)
 |.vq op gU a b d=>yh (da Γ.K op) (da Γ.K gU) (ag Γ a) (ag Γ b) (ag Γ d)
 |.Jg _ _ _ _ _ _ _=>λ_ _ _=>False
 |.and as=>Jo Γ as
 |.or as=>Jp Γ as
 |.not a=>Cy Γ.K (ag Γ a)
 |.kE t a b=>GX (aY Γ t) (ag Γ a) (ag Γ b)
 |.call j as=>BV (Γ.fs j) [] Γ.E (bu Γ as)
 |.blt b as=>jT (oH Γ.K b) (bu Γ as)
 |.ij T a=>jT (oI T) (fu (ag Γ a)<|fu (tC<|.ty T.nm) jS)
 |.bE m o as=>sW Γ.K m (ag Γ o) (bu Γ as)
 |.ix a b=>gc (oJ Γ.K Γ.sd) (ag Γ a) (ag Γ b)
 |.sl a lo hi=>B0 (sX Γ.K) (ag Γ a) (oK Γ lo) (oK Γ hi)
 |.tup as=>HD (bu Γ as)
 |.lst as=>HE (bu Γ as)
 |.comp tk fv k aq cond elt=>qC Γ.K (jz Γ k aq) tk fv (yT Γ.calm cond) (ag Γ.calm elt)
 |.Ji a c=>jT (Jd Γ.K) (fu (ag Γ a)<|fu (ag Γ c) jS)
 |.yQ=>Jm
 |.same a b=>gc V1 (ag Γ a) (ag Γ b)
 |.inD a b=>gc (yM Γ.K false) (ag Γ a) (ag Γ b)
 |.Jj a b=>gc (yM Γ.K true) (ag Γ a) (ag Γ b)
 |.Wv=>Vj
 |.dc a b=>Iu (ag Γ a) (ag Γ b)
 |.vt a b=>Cf (ag Γ a) (ag Γ b)
 |.vv a b=>Cg (ag Γ a) (ag Γ b)
 |.Ww o a b=>Vl (ag Γ o) (ag Γ a) (ag Γ b)
 |.xt T as=>T Γ.K (bu Γ as)
 |.xm T o as=>T Γ.K (ag Γ o) (bu Γ as)
 |.Wu j a=>Wn (Γ.hs j) Γ.hv (fu (ag Γ a) jS)
 |.fld o f=>yj Γ.K (ag Γ o) f
 |.aS j m o as=>mY (Γ.ms j).1 m (Γ.ms j).2 [] Γ.E (ag Γ o) (bu Γ as)
 |.make j as=>yp (Γ.kt j).1 (Γ.kt j).2 [] Γ.E (bu Γ as)
def aY(Γ:aQ):RE->TT
 |.not a=>GV (aY Γ a)
 |.inD a b=>sJ (gc (yM Γ.K false) (ag Γ a)<|ag Γ b)
 |.Jj a b=>sJ (gc (yM Γ.K true) (ag Γ a)<|ag Γ b)
 |.vt a b=>tB (Cf (ag Γ a)<|ag Γ b)
 |.vv a b=>tB (Cg (ag Γ a)<|ag Γ b)
 |.and as=>Jq Γ as
 |.or as=>Jr Γ as
 |.cmp op a b=>sJ (gc (da Γ.K op) (ag Γ a)<|ag Γ b)
 |.vq op gU a b d=>sJ (yh (da Γ.K op) (da Γ.K gU) (ag Γ a) (ag Γ b)<|ag Γ d)
 |.Jg op gU Jh a b d f=>WA (da Γ.K op) (da Γ.K gU) (da Γ.K Jh) (ag Γ a) (ag Γ b) (ag Γ d) (ag Γ f)
 |.v i=>gY Γ.K (BH i)
 |.call j as=>gY Γ.K (BV (Γ.fs j) [] Γ.E<|bu Γ as)
 |.ij T a=>gY Γ.K (jT (oI T)<|fu (ag Γ a)<|fu (tC<|.ty T.nm) jS)
 |.Ji a c=>gY Γ.K (jT (Jd Γ.K)<|fu (ag Γ a)<|fu (ag Γ c) jS)
 |.bE m o as=>gY Γ.K (sW Γ.K m (ag Γ o)<|bu Γ as)
 |.ix a b=>gY Γ.K (gc (oJ Γ.K Γ.sd) (ag Γ a)<|ag Γ b)
 |.bin op a b=>gY Γ.K (gc (i8 Γ.K op) (ag Γ a)<|ag Γ b)
 |.fld o f=>gY Γ.K (yj Γ.K (ag Γ o) f)
 |.xt T as=>gY Γ.K (T Γ.K<|bu Γ as)
 |.xm T o as=>gY Γ.K (T Γ.K (ag Γ o)<|bu Γ as)
 |.aS j m o as=>gY Γ.K (mY (Γ.ms j).1 m (Γ.ms j).2 [] Γ.E (ag Γ o)<|bu Γ as)
 |_=>λ_ _ _=>False
def bu(Γ:aQ):List RE->TA
 |[]=>jS
 |a::r=>fu (ag Γ a) (bu Γ r)
def Jo(Γ:aQ):List RE->TE
 |[]=>λ_ _ _=>False
 |[a]=>ag Γ a
 |a::r=>GW (ag Γ a) (Jo Γ r)
def Jp(Γ:aQ):List RE->TE
 |[]=>λ_ _ _=>False
 |[a]=>ag Γ a
 |a::r=>RY (ag Γ a) (Jp Γ r)
def Jq(Γ:aQ):List RE->TT
 |[]=>λ_ _ _=>False
 |[a]=>aY Γ a
 |a::r=>GS (aY Γ a) (Jq Γ r)
def Jr(Γ:aQ):List RE->TT
 |[]=>λ_ _ _=>False
 |[a]=>aY Γ a
 |a::r=>GU (aY Γ a) (Jr Γ r)
def oK(Γ:aQ):Option RE->TO
 |none=>HU
 |some a=>yt (ag Γ a)
def yT(Γ:aQ):Option RE->Option TT
 |none=>none
 |some a=>some (aY Γ a)
def jz(Γ:aQ)(k:IK):List RE->TI
 |[]=>λ_ _ _=>False
 |a::r=>match k with
  |.list=>BM Γ.K (ag Γ a)
  |.tup=>Sn Γ.K (ag Γ a)
  |.fS=>Hh (fu (ag Γ a)<|bu Γ r)
  |.yP=>Hi (fu (ag Γ a)<|bu Γ r)
  |.zip=>WE Γ.K (fu (ag Γ a)<|bu Γ r)
  |.Wr=>WD Γ.K (fu (ag Γ a)<|bu Γ r)
  |.txt=>WJ (ag Γ a)
  |.Ws=>WH Γ.K (fu (ag Γ a)<|bu Γ r)
  |.Wt=>WL (fu (ag Γ a)<|bu Γ r)
end
structure df where
 N:List Str
 sc:Scope
 fn:List Str
 gn:List Str
 bl:List Str
 mn:List Str
 kn:List Str
 en:List Str
 hn:List Str
 md:Nat
def CA(s:Scope)(x:Str):Bool:=match s.names.lookup x with
 |some .local=>true|some .cell=>true|some .free=>true|_=>false
def loc(s:Scope)(x:Str):Bool:=match s.names.lookup x with
 |some .local=>true|some .cell=>true|_=>false
def oM(s:Scope)(x:Str):Bool:=match s.names.lookup x with
 |some .globalImplicit=>true|_=>false
theorem WM{x:Str}(h:CA s x=true):xS s x:=by
 unfold CA at h;unfold xS;cases e:s.names.lookup x with
 |none=>rw[e] at h;cases h
 |some k=>rw[e] at h;cases k<;>first|exact .inl rfl|exact .inr (.inl rfl)|exact .inr (.inr rfl)|cases h
theorem CC{x:Str}(h:loc s x=true):Loc s x:=by
 unfold loc at h;unfold Loc;cases e:s.names.lookup x with
 |none=>rw[e] at h;cases h
 |some k=>rw[e] at h;cases k<;>first|exact .inl rfl|exact .inr rfl|cases h
theorem WN{x:Str}(h:oM s x=true):s.names.lookup x=some .globalImplicit:=by
 unfold oM at h;cases e:s.names.lookup x with
 |none=>rw[e] at h;cases h
 |some k=>rw[e] at h;cases k<;>first|rfl|cases h
structure vw where
 elt:Expr
 tg:Expr
 iter:Expr
 ifs:List Expr
 sc:Scope
def m9.nm:m9->Str
 |.len=> "len" |.min=> "min" |.max=> "max" |.sum=> "sum" |.int=> "int" |.list=> "list" |.tuple=> "tuple" |.abs=> "abs"
def i9.nm:i9->Str
 |.append=> "append" |.pop=> "pop" |.extend=> "extend" |.join=> "join" |.lstrip=> "lstrip" |.starts=> "startswith" |.reverse=> "reverse" |.clear=> "clear" |.index=> "index" |.find=> "find" |.count=> "count" |.Jf=> "count" |.Cu=> "index"
def oN:Expr->Bool
 |.Call (.Name _ _) [] [] _=>false
 |_=>true
def noStar:Expr->Bool
 |.Starred ..=>false
 |_=>true
def vx:Expr->Bool
 |.Set ..=>false
 |_=>true
def CF(a s:Scope):Scope:=
 {a with names:=a.names.map fun(n,k)=>if (k==.free && s.kind==.function && s.names.lookup n==some .cell) then (n,.cell) else (n,k)}
def CG(t:Option Nat)(g:Expr):Option (List Str):=match t,g with
 |none,.Name x _=>some [x]
 |some 2,.Tuple [.Name x _,.Name y _] _ _=>some [x,y]
 |_,_=>none
def Jt(S:df)(c:vw)(ln:List Str)(f:List (Str×Nat)):df:={S with N:=ln++f.map (·.1),sc:=CF c.sc S.sc,en:=[],md:=if S.md=0 then 0 else 2}
def CH(S:df)(c:vw)(ln:List Str)(f:List (Str×Nat)):Bool:=
 decide (c.sc.kind=.function) && c.sc.names.all (λy=>decide<|y.2≠ .cell) && c.sc.names.all (λy=>decide (y.2≠ .local)||decide (c.sc.names.lookup y.1=some .local))
 && c.sc.names.all (λy=>decide (y.2≠ .free)||decide (S.sc.names.lookup y.1=some .cell)||decide (S.sc.names.lookup y.1=some .free))
 && f.all (λp=>decide (S.N[p.2]?=some p.1) && decide (c.sc.names.lookup p.1=some .free))
 && ln.all (λx=>decide<|c.sc.names.lookup x=some .local) && decide ((ln++f.map (·.1)).Nodup) && vx c.iter
end L2
set_option maxHeartbeats 400000
namespace L2
open PySem PySem.Spec PyProof.Rows
end L2
set_option maxHeartbeats 1000000
set_option maxHeartbeats 400000
namespace L2
open PySem PySem.Spec PyProof.Rows
inductive cb (b:Shared->Prop) {c:Type}:Sem c->Prop
 |pure (a:c):cb b (.pure a)
 |raise (e:Value):cb b (.raise e)
 |unsupported (w:String):cb b (.unsupported w)
 |rule {t:String}{k:Unit->Sem c}:cb b (k ())->cb b (.rule t k)
 |load {a:Addr}{p:Option Value}{k:Obj->Sem c}:(∀o,cb b<|k o)->cb b (.load a p k)
 |update {a:Addr}{p:Option Value}{f:Obj->Obj}{k:Unit->Sem c}:(∀s,b s->b {s with heap:=s.heap.update a f})->cb b (k ())->cb b (.update a p f k)
 |alloc {o:Obj}{k:Addr->Sem c}:(∀s,b s->b {s with heap:=s.heap.push o})->(∀a,cb b<|k a)->cb b (.alloc o k)
 |stack {k:List (Code×Pos)->Sem c}:(∀t,cb b<|k t)->cb b (.stack k)
theorem WO{Γ:PySem.Ctx}{c:Shared->Prop}{d:Type}{t:Sem d}(k:cb c t):∀{Q:d->Pos->Shared->Prop}{E:Value->Pos->Shared->Prop}{p:Pos}{s:Shared},c s->Sem.wp b Γ t Q E p s->
  Sem.wp b Γ t (λa p s=>Q a p s/\c s) (λe p s=>E e p s/\c s) p s:=by
 induction k with
 |pure a=>intro Q E p s j h;exact⟨h,j⟩
 |raise e=>intro Q E p s j h;rw[Sem.wp] at h⊢;exact⟨h,j⟩
 |unsupported w=>intro Q E p s j h;exact h.elim
 |rule _ i=>intro Q E p s j h;exact i j h
 |load _ i=>intro Q E p s j h;obtain⟨o,e,h⟩:=h;exact⟨o,e,i o j h⟩
 |update f _ i=>intro Q E p s j h;exact⟨h.1,i (f _ j) h.2⟩
 |alloc f _ i=>intro Q E p s j h;exact i _ (f _ j) h
 |stack _ i=>intro Q E p s j h;rw[Sem.wp] at h⊢;exact i _ j h
theorem vy{A:Around}{c:Shared->Prop}{f:Type}{t:Sem f}{Q:f->Shared->Prop}{E:Value->Shared->Prop}{s:Shared}(k:cb c t)(j:c s)(h:wpAny b A t Q E s):
  wpAny b A t (λa s=>Q a s/\c s) (λe s=>E e s/\c s) s:=λg p d=>WO k j (h g p d)
def fh(e:Addr)(s:Shared):Prop:= ∃o vs,s.heap.get? e=some o/\o.data=.fields vs/\vs[2]?=some .none/\o.dict=none
theorem WQ(f:Array Value->Array Value)(o:Obj):(Obj.mapFields f o).dict=o.dict:=by
 unfold Obj.mapFields
 split<;>rfl
theorem WR{i:Nat}{v:Value}(k:i≠2)(s:Shared)(j:fh e s):fh e {s with heap:=s.heap.update a (Obj.mapFields (·.setIfInBounds i v))}:=by
 obtain⟨o,g,f,c,b,h⟩:=j;by_cases z:a=e
 ·subst z;have d:=Obj.data_mapFields c (·.setIfInBounds i v);exact⟨_,_,Heap.get?_update_self _ f<|Obj.isFreed_of_fields d,d,by rw[Array.getElem?_setIfInBounds_ne k];exact b,(WQ _ _).trans h⟩
 ·exact⟨o,g,(Heap.get?_update_other _ _ z).trans f,c,b,h⟩
theorem WS{f:Obj->Obj}(h:∀o,(f o).data=o.data/\(f o).dict=o.dict)(s:Shared)(j:fh e s):fh e {s with heap:=s.heap.update a f}:=by
 obtain⟨o,v,g,b,d,c⟩:=j;by_cases z:a=e
 ·subst z;exact⟨_,v,Heap.get?_update_self _ g<|Obj.isFreed_of_fields<|(h o).1.trans b,(h o).1.trans b,d,(h o).2.trans c⟩
 ·exact⟨o,v,(Heap.get?_update_other _ _ z).trans g,b,d,c⟩
theorem WT{b:Obj}(s:Shared)(j:fh e s):fh e {s with heap:=s.heap.push b}:=by
 obtain⟨o,v,d,c,a,h⟩:=j;exact⟨o,v,Heap.get?_push_of_some _ d,c,a,h⟩
theorem cb.bind{c d:Type}{t:Sem c}{f:c->Sem d}(k:cb b t)(h:∀a,cb b<|f a):cb b (t>>=f):=by
 induction k with
 |pure a=>exact h a
 |raise e=>exact .raise e
 |unsupported w=>exact .unsupported w
 |rule _ i=>exact .rule i
 |load _ i=>exact .load i
 |update g _ i=>exact .update g i
 |alloc g _ i=>exact .alloc g i
 |stack _ i=>exact .stack i
section
variable {e:Addr}
theorem CI{a:Addr}:cb (fh e) (load a):=.load λo=>.pure o
theorem CJ{i:Nat}(h:i≠2):cb (fh e) (setField v i x):=by
 unfold setField
 split
 ·refine CI.bind λo=>?_
  split
  ·split
   ·exact .update (λs j=>WR h s j) (.pure ())
   ·exact .unsupported _
  ·exact .unsupported _
 ·exact .unsupported _
theorem WU:cb (fh e) (fieldsOf v):=by
 unfold fieldsOf
 split
 ·refine CI.bind λo=>?_
  split
  ·exact .pure _
  ·exact .unsupported _
 ·exact .unsupported _
theorem yU{i:Nat}:cb (fh e) (field v i):=by
 refine WU.bind λs=>?_
 split
 ·exact .pure _
 ·exact .unsupported _
theorem CK{f:Option Addr}:cb (fh e) (setFlight v f):=by
 refine yU.bind λt=>?_
 split
 ·exact CJ (by lia)
 ·exact .pure _
theorem CM:cb (fh e) stack:=.stack λt=>.pure t
theorem WV{vs:List Value}:cb (fh e) (newFields t vs):=by
 show cb (fh e) (if vs.toArray.size>sizeLine+2 then (unsupported "record:memory" >>=_) else _)
 split
 ·exact .unsupported _
 ·exact cb.bind (.alloc (λs j=>WT s j) λa=>.pure a) λa=>.pure _
theorem WW{b:Bool}:cb (fh e) (entryPlaceOf f b):=by
 refine CM.bind λa=>?_
 split
 ·exact .pure _
 ·exact .pure _
theorem Ju:∀l:List Env,cb (fh e) (readyFrames l)
 |[]=>.pure _
 |v::r=>by
  unfold readyFrames
  split
  ·refine CI.bind λo=>?_
   split
   ·exact .pure _
   ·refine cb.bind ?_ λi=>cb.bind ?_ λb=>cb.bind (.update (λs j=>WS (by lia) s j)<|.pure ()) λ_=>Ju r
    ·unfold behindIsImport
     split
     ·exact .pure _
     ·split
      ·exact .pure _
      ·exact yU.bind λ_=>.pure _
    ·unfold keptBack
     split
     ·split
      ·exact .pure _
      ·exact cb.bind (CM.bind λ_=>.pure _) λ_=>.pure _
     ·exact .pure _
  ·exact .unsupported _
theorem WX:cb (fh e) (PySem.frameOf env):=by
 refine cb.bind (CM.bind λ_=>.pure _) λl=>cb.bind ?_ λr=>?_
 ·unfold frameObject
  split
  ·exact .pure _
  ·exact(Ju _).bind λ_=>.pure _
 ·split
  ·exact .pure _
  ·exact .unsupported _
theorem Jv{env:Env}:cb (fh e) (noteFrame v env):=by
 unfold noteFrame
 split
 ·rename_i x d hq
  refine yU.bind λh=>?_;have t:cb (fh e) (do let a <-PySem.frameOf env;let p <-entryPlaceOf d (h !=.none);let b <-EntryCells.newEntry h a .none (rawInt d) .none p;setField v 1 b):=
   WX.bind λa=>WW.bind λp=>cb.bind WV λb=>CJ (by lia)
  split
  ·refine yU.bind λx=>?_
   split
   ·exact .pure _
   ·exact(CJ (by lia)).bind λ_=>t
  ·exact t
 ·exact .unsupported _
theorem Jw{env:Env}:cb (fh e) (leaving env v):=by
 exact Jv.bind λ_=>CK
end
end L2
set_option maxHeartbeats 4000000
namespace L2
open PySem PySem.Spec PyProof.Rows
theorem cM.yV{w:World}{H:Hp}{h:Heap}{a:Addr}{o:HO}(x:cM P w H h a o):∃b,h.get? a=some b:=by
 cases o with
 |lst s=>obtain⟨_,_,_,_,e⟩:=x;exact⟨_,e⟩
 |tup s=>obtain⟨_,_,_,b,e,_⟩:=x;exact⟨_,e⟩
 |dK k=>obtain⟨_,_,_,_,o,_,_,e,_⟩:=x;exact⟨_,e⟩
 |dT k=>obtain⟨_,_,_,_,o,_,_,e,_⟩:=x;exact⟨_,e⟩
 |set S n=>obtain⟨o,_,_,_,e,_⟩:=x;exact⟨_,e⟩
 |ins C g c=>obtain⟨_,_,_,e,_⟩:=x;exact⟨_,e⟩
 |own y=>obtain⟨_,e⟩:=x;exact⟨_,e⟩
 |xd c=>obtain⟨_,⟨_,_,_,e,_⟩,_⟩:=x;exact⟨_,e⟩
 |fS l i=>obtain⟨_,_,_,e⟩:=x;exact⟨_,e⟩
 |cw b u=>obtain⟨e,_⟩:=x;exact⟨_,e⟩
 |lL p=>exact⟨_,(show h.get? a=some _ from x)⟩
 |met f y=>exact⟨_,(show h.get? a=some _ from x)⟩
 |ext d=>obtain⟨_,⟨_,e⟩,_⟩:=x;exact⟨_,e⟩
theorem bH.CO{w:World}{H:Hp}{h h':Heap}(d:bH P w H h)(k:∀b u,H b≠none->h.get? b=some u->h'.get? b=some u):bH P w H h':=λa o e=>
 (d a o e).ou (λb u c f=>k b u (by
  rcases c with rfl|c
  ·rw[e];exact Option.some_ne_none _
  ·rw[c];exact Option.some_ne_none _) f) (λ_ z=>z) (λ_ _ z=>z)
def gL(P:Program)(w:World):cW:=λr H s E e s'=>∃(f:Addr) (c:Value) (t:Addr) (a:Heap) (d:Hp),
 e=.ref f/\s'.os=s.os/\AllBare s'.gens/\Un (bI r) [] H d s.heap s'.heap/\bH P w d s'.heap/\Heap.FlyingW a r f c (.ref t) s'.heap/\fh f s'/\d f=none/\
 (∀b,d b≠none->∀o,s'.heap.get? b=some o->a.get? b=some o)/\(∀b o,s.heap.get? b=some o->b∉bI r->∀g,s'.heap.get? b=some g->a.get? b=some g)/\E c none d
theorem Jx{w:World}{o:List Env}{H:Hp}{s:Shared}{e:Value}{s':Shared}(h:gL P w o H s E0 e s'):False:=by
 obtain⟨_,_,_,_,_,zq⟩:=qx5 h;obtain⟨_,_,_,_,_,_,_,_,_,_,h⟩:=qa11 zq;exact h
section
variable {P:Program}{w:World}{K:Frag}{mg:Str->Option Value}{base:Heap}{N:List Str}{qual:Str}{scope:Scope}{f:Addr}{cd:Value}{A:Around}{outer:List Env}{s₀:Shared}{H₀:Hp}{E:XK}
theorem WY:Passes (gL P w) (qv (gL P w) P w K mg base N qual scope f cd A outer s₀ H₀ E) E:=by
 intro a' σ H s e S I hx;obtain⟨ea,y,t,a,H',zq⟩:=qx5 hx;obtain⟨rfl,os,C,u,aG,fl,vz,i_,c1,c2,hE⟩:=qa11 zq;have nL:∀b o,s₀.heap.get? b=some o->b∉bI outer->b∉bI (envOfC qual scope s₀.heap.objs.size f cd::outer):=λb o h d D=>by
  rcases zaa.mp D with rfl|z
  ·exact absurd (Heap.lt_size h) (Nat.not_lt.mpr I.ok.above)
  ·exact d z
 have kr:∀b∈bI (envOfC qual scope s₀.heap.objs.size f cd::outer),H' b=none:=λb h=>by
  obtain⟨o,k,_⟩:=(I.stack.mem h).2;exact u.free b o k (I.xX b h) zaf
 refine wpAny_mono (vy Jw vz<|wpAny_leaves_onW (Q:=λ_ iG=>∃r,iG={S with heap:=r}/\Heap.FlyingW a outer ea y (.ref t) r/\S.heap.UpToSlots r) (E:=λ_ _=>False) I.ok.frames rfl fl λr g G=>⟨r,rfl,g,G⟩)
  (λ_ iG hq=>?_) (λ_ _ z=>z.1.elim)
 obtain⟨⟨r,rfl,g,G⟩,CQ⟩:=hq;have i:=λb o h d V X=>g.1 b V (c2 b o h d V X);have lM:=λb o h k=>g.1 b o (c1 b h o k);have iK:∀b∈bI (envOfC qual scope s₀.heap.objs.size f cd::outer),∀o,S.heap.get? b=some o->∃R,r.get? b=some {o with slots:=R}:=λb h o k=>by
  obtain⟨l,ja,hd⟩:=(fl.2.2.1.mem h).2;rw[k] at ja;cases ja;exact G b o k hd
 refine⟨ea,y,t,a,H',rfl,os.trans I.os,C,⟨λb o q n d _=>?_,λb o q n d _=>?_,λb o q n _=>?_,λb o q _=>?_,λb Z q=>u.dS b Z (I.base.dS b Z q),λb o v q=>u.ic b o v (I.base.ic b o v q),λb ps q=>?_⟩,
  aG.CO (λb o h k=>lM b o h k),g,CQ,i_,λb h o k=>?_,λb o q d V X=>?_,hE⟩
 ·have c:=I.base.keep b o q n d zaf;have m:=nL b o q d;exact i b o c m o<|u.keep b o c (I.base.free b o q n zaf) m zaf
 ·obtain⟨R,c⟩:=I.base.slot b o q n d zaf;have m:b∈bI (envOfC qual scope s₀.heap.objs.size f cd::outer):=zay _ d;obtain⟨uZ,j⟩:=u.slot b _ c (I.base.free b o q n zaf) m zaf;obtain⟨CT,T⟩:=iK b m _ j;exact⟨CT,T⟩
 ·obtain⟨l,c⟩:=I.base.there b o q zaf;exact u.free b l c (I.base.free b o q n zaf) zaf
 ·obtain⟨l,c⟩:=I.base.there b o q zaf;obtain⟨p,j⟩:=u.there b l c zaf;by_cases D:b∈bI (envOfC qual scope s₀.heap.objs.size f cd::outer)
  ·obtain⟨R,T⟩:=iK b D p j;exact⟨_,T⟩
  ·exact⟨p,i b l c D p j⟩
 ·obtain⟨m1,e1⟩:=I.base.iD b ps q;obtain⟨m2,e2⟩:=u.iD b _ e1;exact⟨m1++m2,by rw[e2,Array.append_assoc]⟩
 ·obtain⟨gf,hH⟩:=zby.mp h;obtain⟨p,j⟩:=(aG b gf hH).yV;have x:=k;rw[(lM b p h j)] at x;cases x;exact c1 b h _ j
 ·obtain⟨l,c⟩:=I.base.there b o q zaf;obtain⟨p,j⟩:=u.there b l c zaf;have m:=nL b o q d;have x:=X;rw[(i b l c m p j)] at x;cases x;exact c2 b l c m _ j
def Raises(X:Cx)(E:XK):Prop:= ∀(p:List (Addr×Obj)) (a:St) (H:Hp) (s:Shared) (h':Heap) (e:Addr) (c:Value) (vs:List Value),Inv X p a H s->Heap.MadeExcOf s.heap h' e c vs->E c none H->X.xe (.ref e) {s with heap:=h'}
theorem WZ:Raises (qv (gL P w) P w K mg base N qual scope f cd A outer s₀ H₀ E) E:=by
 intro G σ H s Z e r vs I x hE;have S:∀b o,s₀.heap.get? b=some o->b∉bI outer->b∉bI (envOfC qual scope s₀.heap.objs.size f cd::outer):=λb o h a m=>by
  rcases zaa.mp m with rfl|z
  ·exact absurd (Heap.lt_size h) (Nat.not_lt.mpr I.ok.above)
  ·exact a z
 have oO:∀v∈ (envOfC qual scope s₀.heap.objs.size f cd::outer),∀b,v.frame=some b->b∈bI (envOfC qual scope s₀.heap.objs.size f cd::outer):=λv he b h=>zbR.mpr ⟨v,he,h⟩;have vz:fh e {s with heap:=Z}:=by
  obtain⟨t,ht,_,_⟩:=x.there;exact⟨_,_,ht,rfl,rfl,rfl⟩
 refine wpAny_mono (vy Jw vz (wpAny_leaves_madeW (Q:=λ_ X=>∃j t,X={s with heap:=j}/\Heap.FlyingW (hideAll s.heap (bI (envOfC qual scope s₀.heap.objs.size f cd::outer))) outer e r (.ref t) j/\Z.UpToSlots j) (E:=λ_ _=>False)
  I.ok.frames rfl (λb o q=>of_hideAll _ q) (PySem.W.funFrames_hide I.stack oO) x λj t c _ _ u=>⟨j,t,rfl,c,u⟩)) (λ_ X hq=>?_) (λ_ _ z=>z.1.elim)
 obtain⟨⟨j,t,rfl,c,u⟩,CQ⟩:=hq;have i:=λb o h a=>c.1 b o (hideAll_get _ h a);have D:∀b,H b≠none->b∉bI (envOfC qual scope s₀.heap.objs.size f cd::outer):=λb h m=>h (I.xX b m);have V:∀b∈bI (envOfC qual scope s₀.heap.objs.size f cd::outer),∀o,s.heap.get? b=some o->∃y,j.get? b=some {o with slots:=y}:=λb h o d=>by
  obtain⟨k,T,hd⟩:=(I.stack.mem h).2;rw[d] at T;cases T;exact u b o (x.keeps b o d) hd
 refine⟨e,r,t,_,H,rfl,I.os,I.bare,⟨λb o q n a _=>?_,λb o q n a _=>?_,λb o q n _=>I.base.free b o q n zaf,λb o q _=>?_,I.base.dS,I.base.ic,I.base.iD⟩,
  I.aG.CO (λb o h d=>i b o d (D b h)),c,CQ,?_,λb h o d=>?_,λb o q a o' eQ=>?_,hE⟩
 ·exact i b o (I.base.keep b o q n a zaf) (S b o q a)
 ·obtain⟨y,g⟩:=I.base.slot b o q n a zaf;obtain⟨CT,C⟩:=V b (zay _ a) _ g;exact⟨CT,C⟩
 ·obtain⟨k,g⟩:=I.base.there b o q zaf;by_cases m:b∈bI (envOfC qual scope s₀.heap.objs.size f cd::outer)
  ·obtain⟨y,C⟩:=V b m k g;exact⟨_,C⟩
  ·exact⟨k,i b k g m⟩
 ·cases q:H e with
  |none=>rfl
  |some d=>
   obtain⟨R,l⟩:=(I.aG e d q).yV;rw[x.new] at l;cases l
 ·obtain⟨gf,hH⟩:=zby.mp h;obtain⟨R,l⟩:=(I.aG b gf hH).yV;have p:=d;rw[(i b R l (D b h))] at p;cases p;exact hideAll_get _ l<|D b h
 ·obtain⟨k,g⟩:=I.base.there b o q zaf;have fB:=S b o q a;have p:=eQ;rw[(i b k g fB)] at p;cases p;exact hideAll_get _ g fB
end
section
variable {X:Cx}
theorem W0{C:Addr}{S:List Value}{b n sY:String}{e:Expr}{d:List Expr}{t:TA}{u j m:Pos}{E:XK}(hc:X.calm=true)(a:OwnCls x C S n X.mg X.base)(Z:ExcBaseFacts b n sY S)(CW:Gl X x)
  (hd:(x==("__debug__":Str))=false) (ha:PA X (e::d) t) (hs:starEach (e::d) X.env=(false,eval e X.env)::starEach d X.env) (h1:(backTo j<|starEach d X.env).any (·.1)=false) (hR:Raises X E):
  PS X (.Raise (some<|.Call (.Name x u) (e::d) [] j) none m) (Ct C E t):=by
 intro p s i H D I h;obtain⟨tl,N,w,q,R,c,r,g,V,l,Q,K,G,A,z,y,mN,hC,hN,yW,T⟩:=a.obj;have hg:PE X (.Name x u) (tC<|.ref C):=GQ CW a.bound rfl hd;refine wpAny_Raise_call_subT (C:=C) (nm:=w) (q:=q) (N:=N) (bs:=R) (hdct:=c) (sn:=r) (sub:=g) (ab:=V) (col:=l) (dd:=Q) (k0:=K) (k1:=G) (k2:=A) (k3:=z) (k5:=y)
  Z (T.hasType Z.hasBase) (I.ok.hd hc) (by rw[hs];show(false ||(backTo j<|starEach d X.env).any (·.1))=false;rw[h1];rfl) yW
  (aL (hg p s i H (λv o=>v=.ref C/\Ct C E t D i o) I ⟨rfl,h⟩) λf s1 ⟨v,o,I1,r1,ev,q1⟩=>?_)
 subst ev;obtain rfl:f=Value.ref C:=r1;refine⟨rfl,?_⟩;have P:=ha j p s1 i o _ I1 q1;rw[hs] at P⊢;refine Calls.evalArgs_plain<|aL P λus s2 ⟨vs,H2,k,r2,hl,q2⟩=>⟨rfl,?_,k.bk _ _ hC,hN.keeps k.bk,T.keeps k.bk,λh' e' hm=>hR p i H2 s2 h' e' _ _ k hm q2⟩;have:=r2.length;lia
end
theorem Jy{w:World}{l:List Env}{H k:Hp}{h j h' a:Heap}(u:Un (bI l) [] H k h j)(G:bH P w k j)(N:j.FunFrames a l)
  (z:∀b,k b≠none->∀o,j.get? b=some o->a.get? b=some o) (y:∀b o,h.get? b=some o->b∉bI l->∀e,j.get? b=some e->a.get? b=some e) (st:a.StaysIn h') (A:j.UpToSlots h'):
  Un (bI l) [] H k h h'/\bH P w k h'/\(∀b,k b≠none->∀o,h'.get? b=some o->a.get? b=some o)/\(∀b o,h.get? b=some o->b∉bI l->∀e,h'.get? b=some e->a.get? b=some e):=by
 have t:=λb o c f=>st b o (z b c o f);have i:=λb o c d e Q=>st b e (y b o c d e Q);have K:∀b∈bI l,∀o,j.get? b=some o->∃s,h'.get? b=some {o with slots:=s}:=λb c o f=>by
  obtain⟨p,v,D⟩:=(N.mem c).2;rw[f] at v;cases v;exact A b o f D
 refine⟨⟨λb o q n d _=>i b o q d o<|u.keep b o q n d zaf,λb o q n d _=>?_,u.free,λb o q _=>?_,u.dS,u.ic,u.iD⟩,G.CO<|λb o c f=>t b o c f,λb c o f=>?_,λb o q d e Q=>?_⟩
 ·obtain⟨s,m⟩:=u.slot b o q n d zaf;obtain⟨Z,g⟩:=K b d _ m;exact⟨Z,g⟩
 ·obtain⟨p,m⟩:=u.there b o q zaf;by_cases x:b∈bI l
  ·obtain⟨s,C⟩:=K b x p m;exact⟨_,C⟩
  ·exact⟨p,i b o q x p m⟩
 ·obtain⟨I,E⟩:=zby.mp c;obtain⟨r,g⟩:=(G b I E).yV;rw[(t b r c g)] at f;cases f;exact z b c _ g
 ·obtain⟨r,g⟩:=u.there b o q zaf;rw[(i b o q d r g)] at Q;cases Q;exact y b o q d _ g
def Cx.alt(X:Cx)(A:Around)(c:Bool)(p:List (Addr×Obj))(x:Value->Shared->Prop):Cx:={X with A:=A,calm:=c,pn:=p,xe:=x}
theorem Inv.alt{a pins' pn':List (Addr×Obj)}{c:St}{H:Hp}{s:Shared}{b:Around}{calm':Bool}{C:Value->Shared->Prop}(I:Inv X a c H s)(f:b.frames=X.A.frames)(e:calm'=true->b.handled=none)(d:∀p∈pn'++pins',p∈X.pn++a):
  Inv (X.alt b calm' pn' C) pins' c H s where
 ok:=⟨I.ok.mod,I.ok.kind,I.ok.glob,I.ok.blt,I.ok.above,I.ok.inj,I.ok.has,I.ok.xT,e,f.trans I.ok.frames,I.ok.kr,I.ok.RH,I.ok.bs,I.ok.ql,I.ok.xU,I.ok.xV,I.ok.ku,I.ok.sC⟩
 os:=I.os
 bare:=I.bare
 base:=I.base
 loc:=I.loc
 cell:=I.cell
 free:=I.free
 js:=I.js
 pin:=λp h=>I.pin p (d p h)
 aG:=I.aG
 len:=I.len
theorem Inv.CZ{a pins' pn':List (Addr×Obj)}{b:St}{H:Hp}{s:Shared}{A:Around}{calm':Bool}{C:Value->Shared->Prop}(o:X.Ok)(I:Inv (X.alt A calm' pn' C) pins' b H s)(c:∀p∈X.pn++a,p∈pn'++pins'):
  Inv X a b H s where
 ok:=o
 os:=I.os
 bare:=I.bare
 base:=I.base
 loc:=I.loc
 cell:=I.cell
 free:=I.free
 js:=I.js
 pin:=λp h=>I.pin p (c p h)
 aG:=I.aG
 len:=I.len
theorem W_{w:World}{H:Hp}{h:Heap}{e:Addr}{o:Obj}(a:h.get? e=some o):cM P w H h e (.cw o qF):=
 ⟨a,trivial,⟨o,a⟩,λ_ _ _ _=>trivial⟩
theorem bH.more{w:World}{H:Hp}{h:Heap}{a:Addr}{o:HO}(k:bH P w H h)(d:H a=none)(x:cM P w (upd H a o) h a o):bH P w (upd H a o) h:=λb u e=>by
 by_cases z:b=a
 ·subst z;rw[aw] at e;cases e;exact x
 ·rw[ax z] at e;exact(k b u e).ou (λ_ _ _ q=>q) (λc q=>by rw[ax<|aM q d];exact q) (λc s q=>by rw[ax<|aM q d];exact q)
def Jz(A:Around)(H:Hp):Prop:= ∃e D,A.handled=some (.ref e)/\ExcAt H e D
def Hd(X:Cx):Prop:=Jz X.A X.H₀
structure sZ (k:Nat) (A:Around):Prop where
 dp:A.depth+3*k+5<recursionLimit
 un:A.units+16*k+200<cLine
 gd:A.guards=some []:=by rfl
theorem dZ.h{A:Around}(r:dZ k A):sZ k A:=⟨r.dp,r.un,r.gd⟩
theorem sZ.mark{A:Around}(r:sZ k A)(v:Option Value):sZ k (A.mark v):=⟨r.dp,r.un,r.gd⟩
def Xa(o:List Env)(P:Program)(w:World)(H:Hp)(s:Shared)(Q:VK)(r:Result)(s':Shared):Prop:=
 match r with
 |.ok (.ret u)=>CE o P w H s Q u s'
 |_=>False
structure JA (P:Program) (w:World) (K:Frag) (mg:Str->Option Value) (base:Heap) (k:Nat) (f:Addr) (fd:FuncData) (ps:List Str) (sp:Sp):Prop where
 len:∀vs H Q E,sp vs H Q E->vs.length=ps.length
 run:∀(A:Around) (outer:List Env) (s:Shared) (H:Hp) (args:Args) (us:List Value) (vs:List V) (Q:VK),sZ k A->Jz A H->oy P w K mg base A outer s H->BindsTo s fd args (ps.zip us)->Vals vs us->sp vs H Q E0->
  codeAny (model P w) A (.call (.ref f) args) (Xa outer P w H s Q) s
def JB(CX:cW)(X:Cx)(x:Str)(sp:Sp):Prop:=
 ∃k f d ps,dE X.prog X.w X.K X.mg X.base CX k f d ps sp/\dZ k X.A/\X.mg x=some (.ref f)/\PySem.W.keepIn X.K (.ref f)=true/\Binds X.K d ps []
def yX(CX:cW)(X:Cx)(C:Addr)(m:Str)(sp:Sp):Prop:=
 e9 X.K C/\∃k f d ps,Meth X.K C m f/\dE X.prog X.w X.K X.mg X.base CX k f d ps sp/\dZ k X.A/\Binds X.K d ps []
def JC(CX:cW)(X:Cx)(x:Str)(C:Addr)(sp:Sp):Prop:=
 ∃k f d ps,Mk X.K C f/\dE X.prog X.w X.K X.mg X.base CX k f d ps sp/\dZ (k+1) X.A/\X.mg x=some (.ref C)/\Binds X.K d ps []
def JD(X:Cx)(x:Str)(sp:Sp):Prop:=
 ∃k f d ps,JA X.prog X.w X.K X.mg X.base k f d ps sp/\sZ k X.A/\X.mg x=some (.ref f)/\PySem.W.keepIn X.K (.ref f)=true/\Binds X.K d ps []
def JE(X:Cx)(x:Str)(C:Addr):Prop:= ∃b a n s,OwnCls x C b n X.mg X.base/\ExcBaseFacts a n s b
structure Good (CX:cW) (S:df) (Γ:aQ) (X:Cx):Prop where
 N:X.N=S.N
 sc:X.env.scope=S.sc
 K:X.K=Γ.K
 calm:S.md=0->X.calm=true
 units:X.A.units+64<cLine
 gd:X.A.guards=some []
 fns:S.md=0->∀j x,S.fn[j]?=some x->JB CX X x (Γ.fs j)
 fD:∀j x,S.gn[j]?=some x->∃u,X.mg x=some u/\RelV (Γ.gv j) u
 jb:∀x,S.bl.contains x=true->X.mg x=none
 pass:Passes CX X Γ.E
 ng:∀outer H s e s',CX outer H s E0 e s'->False
 oP:∀p kvs,Γ.sd p kvs->∀h:Heap,X.K.In h->∃vs,KV kvs vs/\h.DictOf (e8 X.prog X.w) p vs
 oQ:S.md=0->∀j m,S.mn[j]?=some m->yX CX X (Γ.ms j).1 m (Γ.ms j).2
 qI:S.md=0->∀j x,S.kn[j]?=some x->JC CX X x (Γ.kt j).1 (Γ.kt j).2
 vB:∀j x,S.en[j]?=some x->JE X x (Γ.ex j)
 qJ:∀j x,S.hn[j]?=some x->JD X x (Γ.hs j)
 s_:∀e,Γ.hv=some e->X.A.handled=some (.ref e)
 vC:S.md=1->Hd X
theorem yY{S:df}(h:(if S.md=0 then 0 else 2)=0):S.md=0:=by lia
section
variable {CX:cW}{S:df}{Γ:aQ}{X:Cx}
theorem Good.inner(G:Good CX S Γ X)(c:vw)(ln:List Str)(f:List (Str×Nat))(b:List Addr)(C:Addr)(s:Shared)(H:Hp):
  Good CX (Jt S c ln f) Γ.calm (iJ X c.sc (ln++f.map (·.1)) b C s H) where
 N:=rfl
 sc:=by
  show relabel c.sc X.env=CF c.sc S.sc;rw[<-G.sc];rfl
 K:=G.K
 calm:=λh=>G.calm (yY h)
 units:=G.units
 gd:=G.gd
 fns:=λm j x h=>G.fns (yY m) j x h
 fD:=G.fD
 jb:=G.jb
 pass:=λ_ _ _ _ _ _ _ h=>(G.ng _ _ _ _ _ h).elim
 ng:=G.ng
 oP:=G.oP
 oQ:=λz j m h=>G.oQ (yY z) j m h
 qI:=λz j x h=>G.qI (yY z) j x h
 vB:=λj x h=>by simp[Jt] at h
 qJ:=λj x h=>G.qJ j x h
 s_:=λe h=>G.s_ e h
 vC:=λh=>by
  have a:(if S.md=0 then 0 else 2)=1:=h
  split at a<;>cases a
theorem Good.gl(G:Good CX S Γ X){x:Str}(h:oM S.sc x=true):Gl X x:=by
 show X.env.scope.names.lookup x=_;rw[G.sc];exact WN h
theorem fE{s:List Expr}{env:Env}(h:noStar e=true):starEach (e::s) env=(false,eval e env)::starEach s env:=by
 cases e<;>first|rfl|cases h
theorem oF{x:Str}{env:Env}(h:oN o=true):attributeBase o x env (eval o env)=eval o env:=by
 unfold attributeBase
 split
 ·cases h
 ·rfl
theorem yZ{env:Env}(h:vx e=true):∀x,foldedSetIterable e env x=pure x:=by
 intro x;cases e<;>first|rfl|cases h
def iL(e:List Expr):Bool:=e.all noStar
theorem nh(env:Env)(p:Pos):∀(s:List Expr),iL s=true->(backTo p<|starEach s env).any (·.1)=false
 |[],h=>rfl
 |e::s,h=>by
  simp only[iL,zbn,zag] at h
  rw[fE h.1];show(false ||(backTo p<|starEach s env).any (·.1))=false;rw[(nh env p s h.2)];rfl
theorem y3(env:Env)(p:Pos):∀(s:List Expr),iL s=true->(backTo p<|starEach s env).all (λx=> !x.1)=true
 |[],h=>rfl
 |e::s,h=>by
  simp only[iL,zbn,zag] at h
  rw[fE h.1];show(!false && (backTo p<|starEach s env).all (λx=> !x.1))=true;rw[(y3 env p s h.2)];rfl
theorem gZ{s:List Expr}(h:iL (e::s)=true):noStar e=true/\iL s=true:=by
 simp only[iL,zbn,zag] at h
 exact h
theorem JF(G:Good CX S Γ X){c:vw}{ln:List Str}{f:List (Str×Nat)}(h:CH S c ln f=true):
  kD X c.sc ln f/\(∀x∈ln,c.sc.names.lookup x=some .local)/\(ln++f.map (·.1)).Nodup/\vx c.iter=true:=by
 simp only[CH,zag,decide_eq_true_eq,zbK,Bool.or_eq_true] at h
 obtain⟨⟨⟨⟨⟨⟨⟨o,n⟩,m⟩,k⟩,j⟩,i⟩,g⟩,e⟩:=h;refine⟨⟨o,λy a=>n y a,λy a l=>?_,λy a d=>?_,λp b=>?_⟩,i,g,e⟩
 ·rcases m y a with z|z
  ·exact absurd l z
  ·exact z
 ·show X.env.scope.names.lookup y.1=_\/X.env.scope.names.lookup y.1=_;rw[G.sc];rcases k y a with(z|z)|z
  ·exact absurd d z
  ·exact .inl z
  ·exact .inr z
 ·rw[G.N];exact j p b
theorem JG(b:X.calm=true){c:vw}{t:Option Nat}{ln:List Str}{f:List (Str×Nat)}(h:CG t c.tg=some ln)(l:∀x∈ln,c.sc.names.lookup x=some .local)(n:(ln++f.map (·.1)).Nodup):
  vj X c.sc ln f c.tg t:=by
 unfold CG at h
 split at h
 ·rename_i x p he
  cases h;rw[he];exact VS (l x (by simp)) n
 ·rename_i x p y q k a he
  cases h;rw[he];exact VU b (l x (by simp)) (l y (by simp)) n
 ·cases h
theorem Xb{H:Hp}{Q:VK}{K:Frag}(h:oH K .int xs H Q):(∃i,xs=[.int i]/\Q (.int i) H)\/∃k,xs=[.bl k]/\Q (.int (if k then 1 else 0)) H:=by
 match xs,h with
 |[.int i],h=>exact .inl ⟨i,rfl,h⟩
 |[.bl k],h=>exact .inr ⟨k,rfl,h⟩
theorem Xd{K:Frag}{x:V}{H:Hp}{Q:Nat->Prop}(h:qy K x H Q):∃n,Hx K x H n/\Q n:=by
 match x,h with
 |.str y,h=>exact⟨_,⟨h.1,rfl⟩,h.2⟩
 |.ref p,.inl ⟨s,a,b⟩=>exact⟨_,.inl ⟨s,a,rfl⟩,b⟩
 |.ref p,.inr ⟨s,a,b⟩=>exact⟨_,.inr ⟨s,a,rfl⟩,b⟩
inductive Xe (X:Cx) (b:m9):Prop where
 |fn (i:String) (h:bootBuiltins b.nm=some (.builtin i)) (c:dD X (.builtin i) (oH X.K b))
 |ty (T:String) (h:bootBuiltins b.nm=some (.type T)) (c:dD X (.type T) (oH X.K b))
theorem boot_min:bootBuiltins "min"=some (.builtin "min"):=rfl
theorem boot_max:bootBuiltins "max"=some (.builtin "max"):=rfl
theorem boot_abs:bootBuiltins "abs"=some (.builtin "abs"):=rfl
theorem boot_sum:bootBuiltins "sum"=some (.builtin "sum"):=rfl
theorem Xf:bootBuiltins "isinstance"=some (.builtin "isinstance"):=rfl
theorem Xg:bootBuiltins "int"=some (.type "int"):=rfl
theorem Xh:bootBuiltins "list"=some (.type "list"):=rfl
theorem Xi:bootBuiltins "tuple"=some (.type "tuple"):=rfl
theorem C0(f:Nat->Int)(l:Nat->Nat->Bool)(h:∀i j,l i j=decide (f i<f j)):∀n,argBest l n<=n/\∀i,i<=n->f (argBest l n)<=f i
 | 0=>⟨zqR _,λi c=>by
   obtain rfl:i=0:=by lia
   exact zaR _⟩
 |n+1=>by
  obtain⟨a,b⟩:=C0 f l h n;have e:argBest l (n+1)=if l (n+1) (argBest l n)=true then n+1 else argBest l n:=rfl
  rw[e,h]
  split
  ·refine⟨zqR _,λi c=>?_⟩;by_cases z:i=n+1
   ·rw[z];exact zaR _
   ·have:=b i (by lia);lia
  ·refine⟨by lia,λi c=>?_⟩
   by_cases z:i=n+1
   ·lia
   ·exact b i (by lia)
theorem JH{i:Nat}(h:i<xs.size):numAt xs i=xs[i].1:=by
 unfold numAt;rw[Array.getElem?_eq_getElem h];rfl
theorem JI{i:Nat}(h:i<xs.size):numAt xs i∈xs.toList.map (·.1):=by
 rw[JH h];exact zai.mpr ⟨xs[i],by simp,rfl⟩
theorem JJ{n:Int}(h:n∈xs.toList.map (·.1)):∃i,i<xs.size/\n=numAt xs i:=by
 obtain⟨y,b,rfl⟩:=zai.mp h;obtain⟨i,c,rfl⟩:=List.getElem_of_mem b;have a:=by simpa using c
 exact⟨i,a,by rw[JH a];simp⟩
theorem JK{b:St}{H:Hp}{s:Shared}{p:Addr}{n:List Int}(I:Inv X a b H s)(q:aB X.K H p (n.map V.int)):∃xs:Array (Int×Tok),s.heap.IsList p (intItems xs)/\n=xs.toList.map (·.1):=by
 obtain⟨c,r,l,z⟩:=I.list q;have i:=intsAre_of r;obtain⟨xs,h⟩:=i.allInts.items;refine⟨xs,h ▸ l.isList,?_⟩;rw[<-nums_intItems,<-h];exact(show numsOf c.toArray.toList=n from i.numsOf).symm
theorem Xj(o:X.calm=true):dD X (.builtin "min") (λxs H Q=>∃(p:Addr) (a:List Int),xs=[.ref p]/\aB X.K H p (a.map V.int)/\a≠ []/\∀m:Int,m∈a->(∀n∈a,m<=n)->Q (.int m) H):=by
 intro b s y H xs A Q I r h;obtain⟨p,a,rfl,f,w,q⟩:=h;obtain⟨u,rfl,d⟩:=vals1 r;cases d;obtain⟨xs,l,rfl⟩:=JK I f;have c:0<xs.size:=Nat.pos_of_ne_zero λz=>w (by rw[zbL z];rfl)
 refine min_intList (I.ok.hd o) l c λv E C e k=>?_;obtain⟨t,rfl⟩:=intItems_at e;obtain⟨G,x⟩:=C0 (numAt xs) (λi j=>decide<|numAt xs i<numAt xs j) (λ_ _=>rfl) (xs.size - 1);refine⟨.int _,H,I.kept k,⟨t,rfl⟩,q _ (JI (by lia)) λn g=>?_⟩
 obtain⟨i,D,rfl⟩:=JJ g;exact x i (by lia)
theorem Xk(o:X.calm=true):dD X (.builtin "max") (λxs H Q=>∃(p:Addr) (a:List Int),xs=[.ref p]/\aB X.K H p (a.map V.int)/\a≠ []/\∀m:Int,m∈a->(∀n∈a,n<=m)->Q (.int m) H):=by
 intro b s y H xs A Q I r h;obtain⟨p,a,rfl,f,w,q⟩:=h;obtain⟨u,rfl,d⟩:=vals1 r;cases d;obtain⟨xs,l,rfl⟩:=JK I f;have c:0<xs.size:=Nat.pos_of_ne_zero λz=>w (by rw[zbL z];rfl)
 refine max_intList (I.ok.hd o) l c λv E C e k=>?_;obtain⟨t,rfl⟩:=intItems_at e;obtain⟨G,x⟩:=C0 (λi=> - numAt xs i) (λi j=>decide<|numAt xs i>numAt xs j) (λi j=>decide_eq_decide.mpr (by lia)) (xs.size - 1)
 refine⟨.int _,H,I.kept k,⟨t,rfl⟩,q _ (JI (by lia)) λn g=>?_⟩
 obtain⟨i,D,rfl⟩:=JJ g;have:=x i (by lia)
 lia
theorem Xl{a:Array Value}(h:ItemsOf (SignAt x) a x.cps.size):Vals (signs x) a.toList:=by
 have o:∀(l:List Nat) (s:List Value),s.length=l.length->(∀(j:Nat) (v:Value),s[j]?=some v->∃(c:Nat) (t:Tok),l[j]?=some c/\v=Value.str ⟨#[c]⟩ t)->Vals (l.map λc=>V.str ⟨#[c]⟩) s:=by
  intro l
  induction l with
  |nil=>
   intro s b _;rw[zaE.mp b];exact .nil
  |cons c l k=>
   intro s b g;cases s with
   |nil=>cases b
   |cons u s=>
    obtain⟨r,t,f,e⟩:=g 0 u rfl;have q:=by simpa using f
    subst q;exact .cons ⟨t,e⟩ (k s (by simpa using b) λj v d=>by
     obtain⟨p,i,n,m⟩:=g (j+1) v (by simpa using d)
     exact⟨p,i,by simpa using n,m⟩)
 refine o x.cps.toList a.toList ?_ λj v d=>?_
 ·have:=h.1;simpa using this
 ·obtain⟨c,t,f,e⟩:=h.2 j v (by simpa using d)
  exact⟨c,t,by simpa using f,e⟩
theorem Xm(x:Str):(signs x).length=x.length:=by simp[signs,Str.length]
theorem Xn(c:X.calm=true):dD X (.type "list") (λxs H Q=>∃x,xs=[.str x]/\x.length<=sizeLine/\∀l,H l=none->Q (.ref l) (upd H l<|.lst<|signs x)):=by
 intro p s f H xs g Q I r h;obtain⟨x,rfl,a,q⟩:=h;obtain⟨u,rfl,t,rfl⟩:=vals1 r;exact call_list_str (I.ok.hd c) x t (λb i C d k e o=>⟨.ref s.heap.objs.size,_,I.laid k (zqR _) (show cM X.prog X.w _ b _ (.lst<|signs x) from⟨by rw[Xm];exact a,C.toList,d,(Xl o),by simpa using e⟩),rfl,q _<|I.aG.fresh<|zqR _⟩) a
theorem Xp:PE X (.Dict [] [] a) Jm:=λp s c H Q I h=>by
 have b:sysModules<s.heap.objs.size:=Nat.lt_trans (by decide) (I.mod.glob.keeps I.bk).lt
 have o:cM X.prog X.w (upd H s.heap.objs.size<|.dK []) (s.heap.push {cls:=.type "dict",data:=.dict #[]}) s.heap.objs.size (.dK []):=
  ⟨zqZ _,beq_eq_false_iff_ne.mpr<|Ne.symm<|zao b,[],.nil,Heap.DictOf.new s.heap⟩
 exact wpAny_Dict_empty ⟨.ref s.heap.objs.size,_,I.laid (λ_ _ q=>Heap.get?_push_of_some _ q) (zqR _) o,rfl,h _<|I.aG.fresh<|zqR _⟩
theorem Xq(d:X.calm=true)(b:m9):Xe X b:=by
 cases b with
 |len=>exact .fn "len" boot_len (dD.imp Tf λs H Q h=>by
   rcases s with _|⟨x,_|⟨_,_⟩⟩ <;>(try exact False.elim h)
   obtain⟨n,c,a⟩:=Xd (Q:=λn=>Q (.int n) H) h;exact⟨x,n,rfl,c,a⟩)
 |min=>exact .fn "min" boot_min (dD.imp ((Td d).or (Xj d)) λs H Q h=>by
   match s,h with
   |[.int i,.int j],h=>exact .inl ⟨i,j,rfl,h⟩
   |[.ref p],⟨e,c,a,f⟩=>exact .inr ⟨p,e,rfl,c,a,f⟩)
 |max=>exact .fn "max" boot_max (dD.imp ((Tc d).or (Xk d)) λs H Q h=>by
   match s,h with
   |[.int i,.int j],h=>exact .inl ⟨i,j,rfl,h⟩
   |[.ref p],⟨e,c,a,f⟩=>exact .inr ⟨p,e,rfl,c,a,f⟩)
 |sum=>exact .fn "sum" boot_sum (dD.imp (Wf d) λs H Q h=>by
   rcases s with _|⟨x,_|⟨_,_⟩⟩ <;>(try exact False.elim h) <;>cases x<;>(try exact False.elim h)
   obtain⟨e,c,a⟩:=h;exact⟨_,e,rfl,c,a⟩)
 |abs=>exact .fn "abs" boot_abs λ_ _ _ _ s _ _ _ _ h=>by rcases s with _|⟨y,_|⟨k,_⟩⟩ <;>first|exact False.elim h| (cases y<;>exact False.elim h)
 |int=>exact .ty "int" Xg (dD.imp Te λs H Q h=>Xb h)
 |list=>exact .ty "list" Xh (dD.imp (Uw.or (Xn d)) λs H Q h=>by
   rcases s with _|⟨x,_|⟨_,_⟩⟩ <;>(try exact False.elim h) <;>cases x<;>(try exact False.elim h)
   ·exact .inr ⟨_,rfl,h.1,h.2⟩
   ·obtain⟨g,c,a⟩:=h;exact .inl ⟨_,g,rfl,c,a⟩)
 |tuple=>exact .ty "tuple" Xi λ_ _ _ _ s _ _ _ _ h=>by rcases s with _|⟨y,_|⟨k,_⟩⟩ <;>first|exact False.elim h| (cases y<;>exact False.elim h)
structure Xr (X:Cx) (m:i9) (id:String):Prop where
 pa:PlainAttrs (yS m)
 slot:Slot (yS m) m.nm id
 ty:typeOf (.builtin id)=pure (.type "method_descriptor")
 mt:qw X id (Cz X.K m)
theorem Xt{vs:List (Key×Value)}(r:KV d vs)(k:Key){v:V}(h:qH d k=some v):∃u,valueAt vs k=some u/\RelV v u:=by
 induction r with
 |nil=>cases h
 | @cons p q c s j t i=>
  obtain⟨g,l⟩:=j;by_cases e:p.1=k
  ·have f:=g.symm.trans e;have b:valueAt (q::s) k=some q.2:=by simp[valueAt,zaN,f]
   have a:qH (p::c) k=some p.2:=by simp[qH,zaN,e]
   rw[a] at h;cases h;exact⟨_,b,l⟩
  ·have f:¬q.1=k:=λz=>e (g.trans z);have b:valueAt (q::s) k=valueAt s k:=by simp[valueAt,zaN,f]
   have a:qH (p::c) k=qH c k:=by simp[qH,zaN,e]
   rw[a] at h;rw[b];exact i h
theorem Xu(C:∀p a,f p a->∀h:Heap,X.K.In h->∃vs,KV a vs/\h.DictOf (e8 X.prog X.w) p vs):lU X (Jn f):=by
 intro e b c s t H x y v u Q I i g h j;obtain⟨p,a,k,z,rfl,rfl,l,m,q⟩:=h;cases i;obtain⟨vs,r,d⟩:=C p a l s.heap I.dU;obtain⟨w,o,n⟩:=Xt r k m;exact subscriptTail_builtinR d.mapOf.typeIs PySem.F.slot_dict_getitem.lookup
  (wpAny_getItem_of (qA g) d.mapOf o ⟨rfl,z,H,I.tok _,n,q⟩) j
theorem Xv(C:∀p k,s p k->∀h:Heap,X.K.In h->∃vs,KV k vs/\h.DictOf (e8 X.prog X.w) p vs):lU X (oJ X.K s):=Uk.or (Ul.or<|Um.or<|Xu C)
theorem Xw:qw X "list.index" (λx vs H Q=>∃(l:Addr) (y:V) (xs:List V),x=.ref l/\vs=[y]/\aB X.K H l xs/\i6 y=true/\xs.all i6=true/\gX y xs=true/\Q (.int (xs.findIdx (λz=>iH z y):Nat)) H):=by
 intro p s σ H x vs v us Q I A C h;obtain⟨l,y,xs,rfl,rfl,P,fy,g,G,q⟩:=h;cases A;obtain⟨u,rfl,D⟩:=vals1 C;obtain⟨a,r,⟨⟨a',dd,m,t⟩,n,o,Z,R,T⟩,hz⟩:=I.list P
 subst Z T;have b:=r.length;have e:∀j (f:j<a.length) (d:j<xs.length),gh y a[j]=iH xs[j] y:=λj f d=>by
  obtain⟨w,e1,E⟩:=r.get (i:=j) (x:=xs[j]) (by simp)
  have k:=zaj f;rw[e1] at k;rw[<-zar k];exact B4 E<|zbK.mp g _<|List.getElem_mem d
 have c:=List.findIdx_lt_length.mpr (List.any_eq_true.mp G);have hn:=qr;refine call_meets PySem.F.slot_list_index ⟨_,o,rfl⟩ PySem.F.entry_list_index (PySem.F.args_list_index_2 _ _)
  (PySem.SeqAt.list_indexAt l a.toArray n dd t u (gh y) (xs.findIdx λz=>iH z y) (by simp;lia) (by lia) ?_ ?_) ⟨o,λz N=>sN D fy r g z (by simpa using N),⟨.int _,H,I.tok _,⟨_,rfl⟩,q⟩⟩
 ·show gh y a[xs.findIdx λz=>iH z y]=true;rw[e _ (by lia) c]
  exact List.findIdx_getElem (w:=c)
 ·intro j Xx bD;show gh y a[j]=false;rw[e j (by lia) (by lia)]
  simpa using List.not_of_lt_findIdx bD
theorem JL(m:i9):∃w,Xr X m w:=by
 cases m with
 |append=>exact⟨_,F.plainAttrs_list,F.slot_list_append,F.type_list_append,λp s d H x a v e Q I r c h=>by
   cases x<;>(try exact False.elim h) <;>rcases a with _|⟨b,_|⟨_,_⟩⟩ <;>(try exact False.elim h)
   obtain⟨i,f,g,j⟩:=h;exact UG p s d H _ _ v e Q I r c ⟨_,i,_,rfl,rfl,f,g,j⟩⟩
 |pop=>exact⟨_,F.plainAttrs_list,F.slot_list_pop,F.type_list_pop,λp s d H x a v e Q I r c h=>by
   cases x<;>(try exact False.elim h) <;>rcases a with _|⟨_,_⟩ <;>(try exact False.elim h)
   obtain⟨i,y,f,g,j⟩:=h;exact UL p s d H _ _ v e Q I r c ⟨_,i,y,rfl,rfl,f,g,j⟩⟩
 |extend=>exact⟨_,F.plainAttrs_list,F.slot_list_extend,F.type_list_extend,λp s d H x a v e Q I r c h=>by
   cases x<;>(try exact False.elim h) <;>rcases a with _|⟨b,_|⟨_,_⟩⟩ <;>(try exact False.elim h) <;>cases b<;>(try exact False.elim h)
   obtain⟨n,i,f,g,j,l⟩:=h;exact UI p s d H _ _ v e Q I r c ⟨_,_,n,i,rfl,rfl,f,g,j,l⟩⟩
 |join=>exact⟨_,F.plainAttrs_str,F.slot_str_join,F.type_str_join,λp s d H x a v e Q I r c h=>by
   cases x<;>(try exact False.elim h) <;>rcases a with _|⟨b,_|⟨_,_⟩⟩ <;>(try exact False.elim h) <;>cases b<;>(try exact False.elim h)
   obtain⟨o,f,g,j⟩:=h;exact Wg p s d H _ _ v e Q I r c ⟨_,_,o,rfl,rfl,f,g,j⟩⟩
 |lstrip=>exact⟨_,F.plainAttrs_str,F.slot_str_lstrip,F.type_str_lstrip,λp s d H x a v e Q I r c h=>by
   cases x<;>(try exact False.elim h) <;>rcases a with _|⟨b,_|⟨_,_⟩⟩ <;>(try exact False.elim h) <;>cases b<;>(try exact False.elim h)
   obtain⟨f,g⟩:=h;exact Wi p s d H _ _ v e Q I r c ⟨_,_,rfl,rfl,f,g⟩⟩
 |starts=>exact⟨_,F.plainAttrs_str,F.slot_str_startswith,F.type_str_startswith,λp s d H x a v e Q I r c h=>by
   cases x<;>(try exact False.elim h) <;>rcases a with _|⟨b,_|⟨k,_|⟨_,_⟩⟩⟩ <;>(try exact False.elim h) <;>cases b<;>(try exact False.elim h) <;>cases k<;>(try exact False.elim h)
   exact Wk p s d H _ _ v e Q I r c ⟨_,_,_,rfl,rfl,h⟩⟩
 |find=>exact⟨_,F.plainAttrs_str,F.slot_str_find,F.type_str_find,λ_ _ _ _ x a _ _ _ _ _ _ h=>by cases x<;>rcases a with _|⟨b,_|⟨k,_⟩⟩ <;>first|exact False.elim h| (cases b<;>exact False.elim h)⟩
 |count=>exact⟨_,F.plainAttrs_str,F.slot_str_count,F.type_str_count,λp s d H x a v e Q I r c h=>by
   match x,a,h with
   |.str z,[.str y],f=>
    obtain⟨t,rfl⟩:=r;obtain⟨u,rfl,⟨q,rfl⟩⟩:=vals1 c;exact call_gives F.slot_str_count (typeIs_str _ _ _) F.entry_str_count (F.args_str_count_2 _ _) (gives_str_count z y t q) ⟨.int _,H,I.tok _,⟨_,rfl⟩,f⟩⟩
 |reverse=>exact⟨_,F.plainAttrs_list,F.slot_list_reverse,F.type_list_reverse,λ_ _ _ _ x a _ _ _ _ _ _ h=>by cases x<;>rcases a with _|⟨b,_|⟨k,_⟩⟩ <;>first|exact False.elim h| (cases b<;>exact False.elim h)⟩
 |index=>exact⟨_,F.plainAttrs_list,F.slot_list_index,F.type_list_index,λ_ _ _ _ x a _ _ _ _ _ _ h=>by cases x<;>rcases a with _|⟨b,_|⟨k,_⟩⟩ <;>first|exact False.elim h| (cases b<;>exact False.elim h)⟩
 |Jf=>exact⟨_,F.plainAttrs_list,F.slot_list_count,F.type_list_count,λ_ _ _ _ x a _ _ _ _ _ _ h=>by cases x<;>rcases a with _|⟨b,_|⟨k,_⟩⟩ <;>first|exact False.elim h| (cases b<;>exact False.elim h)⟩
 |Cu=>exact⟨_,F.plainAttrs_list,F.slot_list_index,F.type_list_index,λp s d H x a v e Q I r c h=>by
   cases x<;>(try exact False.elim h) <;>rcases a with _|⟨b,_|⟨_,_⟩⟩ <;>(try exact False.elim h)
   obtain⟨i,f,g,j,l,A⟩:=h;exact Xw p s d H _ _ v e Q I r c ⟨_,_,i,rfl,rfl,f,g,j,l,A⟩⟩
 |clear=>exact⟨_,F.plainAttrs_list,F.slot_list_clear,F.type_list_clear,λp s d H x a v e Q I r c h=>by
   cases x<;>(try exact False.elim h) <;>rcases a with _|⟨_,_⟩ <;>(try exact False.elim h)
   obtain⟨i,f,g⟩:=h;exact UO p s d H _ _ v e Q I r c ⟨_,i,rfl,rfl,f,g⟩⟩
theorem Xy{g:St}{H:Hp}{s:Shared}{T:Ty}{x:V}{u:Value}{f:Bool->Prop}{Q:Value->Shared->Prop}{E:Value->Shared->Prop}(I:Inv X p g H s)(r:RelV x u)(h:cj T x H f)
  (q:∀b t,f b->Q (.bool b) {s with toks:=t}):wpAny (model X.prog X.w) X.A (call (.builtin "isinstance") [u,.type T.nm]) Q E s:=by
 match x,r,h with
 |.av,r,h=>exact mX I r (.av) (We _ T) λt=>q _ _ h
 |.bl b,r,h=>exact mX I r (.bl b) (oG X.K .bool T) λt=>q _ _ (by cases T<;>exact h)
 |.int i,r,h=>exact mX I r (.int i) (oG X.K .int T) λt=>q _ _ (by cases T<;>exact h)
 |.str i,r,h=>exact mX I r (.str i) (oG X.K .str T) λt=>q _ _ (by cases T<;>exact h)
 |.ref a,r,h=>
  cases e:H a with
  |none=>simp only[cj,e] at h
  |some o=>
   match o,e with
   |.lst d,e=>simp only[cj,e] at h;exact mX I r (.lst e) (oG X.K .list T) λt=>q _ _ (by lia)
   |.cw c (.lst d),e=>simp only[cj,e] at h;exact mX I r (.cw e) (oG X.K .list T) λt=>q _ _ (by lia)
   |.tup d,e=>simp only[cj,e] at h;exact mX I r (.tup e) (oG X.K .tuple T) λt=>q _ _ (by lia)
   |.dK d,e=>simp only[cj,e] at h;exact mX I r (.dK e) (oG X.K .dict T) λt=>q _ _ (by lia)
   |.dT d,e=>simp only[cj,e] at h;exact mX I r (.dT e) (oG X.K .dict T) λt=>q _ _ (by lia)
   |.set _ _,e=>simp only[cj,e] at h
   |.ins _ _ _,e=>simp only[cj,e] at h
   |.own _,e=>simp only[cj,e] at h
   |.xd _,e=>simp only[cj,e] at h
   |.met _ _,e=>simp only[cj,e] at h
   |.fS _ _,e=>simp only[cj,e] at h
   |.lL _,e=>simp only[cj,e] at h
   |.ext _,e=>simp only[cj,e] at h
   |.cw c (.tup d),e=>simp only[cj,e] at h
   |.cw c (.dK d),e=>simp only[cj,e] at h
   |.cw c (.dT d),e=>simp only[cj,e] at h
   |.cw c (.set _ _),e=>simp only[cj,e] at h
   |.cw c (.ins _ _ _),e=>simp only[cj,e] at h
   |.cw c (.own _),e=>simp only[cj,e] at h
   |.cw c (.xd _),e=>simp only[cj,e] at h
   |.cw c (.met _ _),e=>simp only[cj,e] at h
   |.cw c (.fS _ _),e=>simp only[cj,e] at h
   |.cw c (.lL _),e=>simp only[cj,e] at h
   |.cw c (.ext _),e=>simp only[cj,e] at h
   |.cw c (.cw _ _),e=>simp only[cj,e] at h
theorem Xz(T:Ty):bootBuiltins (Str.ofString T.nm)=some (.type T.nm):=by cases T<;>decide+kernel
theorem XA(T:Ty):dD X (.builtin "isinstance") (oI T):=by
 intro p s f H a i Q I r h
 match a,r,h with
 |[x,.ty n],r,⟨e,h⟩=>
  subst e;obtain⟨u,w,rfl,c,g⟩:=vals2 r;cases g;exact Xy I c h λb t d=>⟨.bl b,H,I.tok t,rfl,d⟩
theorem XB{a:Expr}{t:TE}{p q s:Pos}(b:PE X a t)(hs:noStar a=true)(g:Gl X "isinstance")(h:X.mg "isinstance"=none)(C:Gl X (Str.ofString T.nm))(D:X.mg (Str.ofString T.nm)=none):
  PE X (.Call (.Name "isinstance" p) [a,.Name (Str.ofString T.nm) q] [] s) (jT (oI T)<|fu t<|fu (tC<|.ty T.nm) jS):=by
 have c:PE X (.Name (Str.ofString T.nm) q) (tC<|.ty T.nm):=RW C D (Xz T) rfl (by cases T<;>decide) (by cases T<;>decide)
 exact HM (XA T) g h Xf (sM b (sM c yn rfl)<|fE hs) (by decide) (rfl) (fE hs) rfl
theorem XE:yu X (sX X.K):=by
 intro p s w H x v j g o b y Q I r q n m h
 match x,r,h with
 |.ref a,r,.inl ⟨f,d,c⟩=>exact Us p s w H _ v j g o b y Q I r q n m ⟨a,f,rfl,d,c⟩
 |.ref a,r,.inr ⟨f,d,c,P⟩=>exact Ug p s w H _ v j g o b y Q I r q n m ⟨a,f,rfl,d,c,P⟩
 |.str z,r,⟨d,c⟩=>
  obtain⟨t,rfl⟩:=r;obtain⟨l,V,C⟩:∃l:Option (Int×Tok),j=partValue l/\l.map (·.1)=o:=by
   cases n with
   |none=>exact⟨none,rfl,rfl⟩
   |int i t=>exact⟨some (i,t),rfl,rfl⟩
  obtain⟨u,T,A⟩:∃u:Option (Int×Tok),g=partValue u/\u.map (·.1)=b:=by
   cases m with
   |none=>exact⟨none,rfl,rfl⟩
   |int i t=>exact⟨some (i,t),rfl,rfl⟩
  subst V T;refine⟨"str",_,F.slot_str_getitem.lookup,typeIs_str _ _ _,?_⟩;refine wpAny_getItem_str_slice (l:=l) (u:=u) (st:=none) q rfl ?_;obtain⟨b1,b2,b3⟩:=B3 o b z.length;have N:slicePicked z l u none=(List.range<|HT.bj z.length z.length b - HT.bj z.length 0 o).map (HT.bj z.length 0 o+ ·):=by
   show Builtin.Str.strSliceIndices (l.map (·.1)) (u.map (·.1)) 1 z.length=_;rw[C,A];have Z:Builtin.Str.strSliceIndices o b 1 z.length=sliceRange (sliceBounds o b none z.length).1 (sliceBounds o b none z.length).2.1 (sliceBounds o b none z.length).2.2:=rfl;rw[Z,b1,b2,b3,sliceRange_one]
  have E:((slicePicked z l u none).filterMap (z.cps[·]?))=m6 z.cps.toList o b:=by
   show(Builtin.Str.strSliceIndices (l.map (·.1)) (u.map (·.1)) 1 z.length).filterMap (z.cps[·]?)=_;rw[C,A,Wl]
  have D:z.cps.toList.length=z.length:=by simp[Str.length]
  have hA:=HT.BY z.length 0 (zqZ _) o;have hB:=HT.BY z.length z.length (zqR _) b;unfold sliceMade;refine post_val_or_made (λ_=>?_) λG k=>?_
  ·show(List.toArray ((slicePicked z l u none).filterMap (z.cps[·]?))).size<=sizeLine;rw[E,zak];have:(m6 z.cps.toList o b).length<=z.cps.toList.length:=by unfold m6;simp only[zaA,zat];lia
   lia
  ·have e:(if (((none:Option (Int×Tok)).map (·.1)).getD 1==1 && (slicePicked z l u none).length==z.length)=true then z else ⟨((slicePicked z l u none).filterMap (z.cps[·]?)).toArray⟩)=m8 z o b:=by
    split
    ·rename_i hq
     simp only[zag,beq_iff_eq] at hq
     have R:=hq.2;rw[N,zae,zaS] at R;have a0:HT.bj z.length 0 o=0:=by lia
     have b0:HT.bj z.length z.length b=z.length:=by lia
     unfold m8 m6;rw[D,a0,b0,<-D,Nat.sub_zero,zbh,zbz]
    ·rw[E];rfl
   rw[e];exact⟨.str _,H,I.tok k,⟨G,rfl⟩,c⟩
theorem XF:yd X (unaryOp .USub) Jl:=by
 intro p s a H x v Q I r h
 match x,r,h with
 |.int i,r,h=>exact SH p s a H _ v Q I r ⟨i,rfl,h⟩
theorem XG{t:TE}{c:Pos}(i:PE X a t):PE X (.UnaryOp .Not a c) (Cy X.K t):=by
 intro p s e H Q I h;exact UnaryOp_<|aL (i p s e H _ I h) λv f ⟨x,l,k,r,g⟩=>not_of (aL (Hw p f e l x v (λb d=>Q (.bl<|!b) d) k r<|Jk g) λb m ⟨d,j,q⟩=>⟨.bl<|!b,d,j,rfl,q⟩)
theorem y6{t:TE}(d:PE X a t)(e:∀w,isTrue a X.env w=(do let v <-w;standAt a.pos;holding [v] (truthy v))):PT X a (gY X.K t):=by
 intro p s b H Q I h;exact isTrue_plain (aL (d p s b H _ I h) λv c ⟨x,g,f,r,q⟩=>Hw p c b g x v Q f r (Jk q))<|e _
theorem XH{o e:Expr}{s:List Expr}{d:TE}{t:TA}{b c:Pos}(h:PE X o d)(g:PA X (e::s) t)(f:oN o=true)(l:(b.endLine==c.line)=true)(n:(e::s).length<29)
  (hs:starEach (e::s) X.env=(false,eval e X.env)::starEach s X.env) (j:(backTo c<|starEach s X.env).any (·.1)=false) (i:(backTo c<|starEach (e::s) X.env).all (λx=> !x.1)=true):
  PE X (.Call (.Attribute o m.nm b) (e::s) [] c) (sW X.K m d t):=by
 obtain⟨k,a⟩:=JL m;exact UA a.pa a.slot a.ty a.mt h g (oF f) (by
  rw[i];show(true && true && decide ((e::s).length+0+0<30))=true;rw[zqT (by lia)];rfl) l hs j
theorem XI{o:Expr}{t:TE}{s e:Pos}(h:PE X o t)(b:oN o=true)(l:(s.endLine==e.line)=true):
  PE X (.Call (.Attribute o m.nm s) [] [] e) (sW X.K m t jS):=by
 obtain⟨i,a⟩:=JL m;exact Uz a.pa a.slot a.ty a.mt h (oF b) l
theorem JM{m:Str}{b p:Pos}{a:List Expr}{Q:Value->Shared->Prop}{E:Value->Shared->Prop}{A:Around}{s:Shared}{env:Env}{g:Program}{w:World}
  (n:oN o=true) (j:(b.endLine==p.line)=true) (u:a.length<29) (k:(backTo p<|starEach a env).all (λx=> !x.1)=true)
  (h:wpAny (model g w) A (eval o env) (λv d=>∀i,wpAny (model g w) A (getMethod v m i) (λf c=>wpAny (model g w) A (callWith p f.1 f.2 (backTo p<|starEach a env)<|backToKw p<|keywordEach [] env) Q E c) E d) E s):
  wpAny (model g w) A (eval (.Call (.Attribute o m b) a [] p) env) Q E s:=by
 have t:methodCallForm (a.length+0) (backTo p<|starEach a env) (backToKw p<|keywordEach [] env)=true:=by
  show((backTo p<|starEach a env).all (λx=> !x.1) && true && decide (a.length+0+0<30))=true;rw[k,zqT (by lia)];rfl
 have l:methodCallPos true o env b p=pure p:=by unfold methodCallPos;simp[j]
 rw[arm_eval_Call,oF n];refine wpAny_bind<|wpAny_mono h (λv d r=>wpAny_bind<|wpAny_standAt ?_) λ_ _ e=>e;unfold methodCall;rw[show([]:List Keyword).length=0 from rfl,t]
 exact wpAny_bind<|wpAny_holding<|wpAny_mono (r _) (λf c q=>wpAny_bind<|wpAny_of_eq l q) λ_ _ e=>e
theorem XM{j:List Expr}{w:TE}{t:TA}{i p:Pos}{C:Addr}{m:Str}{sp:Sp}{E:XK}(b:yX CX X C m sp)(N:Passes CX X E)(R:PE X o w)(ha:PA X (e::j) t)(Z:oN o=true)(V:(i.endLine==p.line)=true)(T:(e::j).length<29)
  (hs:starEach (e::j) X.env=(false,eval e X.env)::starEach j X.env) (h1:(backTo p<|starEach j X.env).any (·.1)=false) (h2:(backTo p<|starEach (e::j) X.env).all (λx=> !x.1)=true):
  PE X (.Call (.Attribute o m i) (e::j) [] p) (mY C m sp [] E w t):=by
 obtain⟨c,k,f,fd,ps,y,d,P,C2⟩:=b;intro g s n H Q I h;refine JM Z V T h2<|aL (R g s n H _ I h) λu D ⟨x,H1,A,G,a,dx,fs,ex,ea,l,q⟩=>λpl=>?_;subst ex;obtain rfl:u=Value.ref a:=G;exact HB A ea c y l (callWith_K I.ok.mod.uS y.kp (aL (ha p g D n H1 _ A q) λus s2 ⟨v,H2,z,r,K⟩=>⟨z.dU,BW (vs:=.ref a::v) d P C2 .nil N z (.cons rfl r) K⟩) hs h1)
theorem XN{t:TE}{e p:Pos}{C:Addr}{m:Str}{sp:Sp}{E:XK}(b:yX CX X C m sp)(v:Passes CX X E)(y:PE X o t)(A:oN o=true)(z:(e.endLine==p.line)=true):
  PE X (.Call (.Attribute o m e) [] [] p) (mY C m sp [] E t jS):=by
 obtain⟨c,k,f,Z,R,j,d,w,K⟩:=b;intro g s n H Q I h;refine JM A z (by simp) rfl<|aL (y g s n H _ I h) λu P ⟨x,H1,i,r,a,dx,V,D,G,l,q⟩=>λT=>?_
 subst D;obtain rfl:u=Value.ref a:=r;exact HB i G c j l (PySem.W.callWith_K0 i.dU j.kp<|BW (vs:=[.ref a]) d w K .nil v i (.cons rfl .nil) q)
variable {prog:Program}{w:World}{A:Around}{E:Value->Shared->Prop}{s:Shared}
theorem JN{l:Addr}{a:Array Value}(g:l≠it):∀(n i:Nat) (s:Shared) (Q:List Value->Shared->Prop),s.heap.IsListIter it l i->s.heap.IsList l a->i+n<=a.size->
  (∀h',h'.IsListIter it l (i+n)->Heap.SameBut it s.heap h'->Q ((a.toList.drop i).take n) {s with heap:=h'})->wpAny (model prog w) A (draw (.ref it) n) Q E s
 | 0,i,s,Q,h,_,_,c=>by
  exact wpAny_pure (by simpa using c s.heap h (Heap.SameBut.refl ..))
 |n+1,i,s,Q,h,t,e,c=>by
  have D:i<a.size:=by lia
  refine wpAny_bind<|wpAny_pyNext_list_item h t (x:=a[i]) (by simp) λd C v=>?_
  refine wpAny_bind<|wpAny_holding<|JN g n (i+1) _ _ C (t.extBut v.extBut g) (by lia) λb k j=>wpAny_pure ?_
  have f:a.toList.drop i=a[i]::a.toList.drop (i+1):=by simp[zaY,D]
  have:=c b (by lia) (v.trans j)
  rw[f] at this;exact this
theorem XR{i:Array Value}{Q:List Value->Shared->Prop}(j:A.handled=none)(a:s.heap.IsList t i)
  (k:∀h',Heap.ExtBut s.heap.objs.size s.heap h'->Q i.toList {s with heap:=h'}):wpAny (model prog w) A (unpackItems (.ref t) i.size none) Q E s:=by
 have D:t≠s.heap.objs.size:=by obtain⟨o,g,_⟩:=a;exact zao (Heap.lt_size g)
 refine wpAny_bind ?_
 ·refine wpAny_bind<|wpAny_specialOf a.typeIs slot_list_iter.lookup ?_;refine wpAny_pure ?_
  refine wpAny_bind<|wpAny_holding<|wpAny_pyIter_list a (wpAny_bind<|wpAny_holding<|JN D i.size 0 _ _ ⟨_,Heap.get?_push_size _ rfl,rfl,rfl⟩ (a.push _) (by lia) λc C v=>?_)
  have f:List.take i.size (List.drop 0 i.toList)=i.toList:=by
   exact zaI (by simp)
  rw[f];rw[if_neg (by simp)]
  refine wpAny_bind<|wpAny_holding<|wpAny_pyNext_list_end j C ((a.push _).extBut v.extBut D) (by simp) λh T=>?_
  refine wpAny_pure<|k h λb o d e=>T b o d (v.extBut b o d<|Heap.get?_push_of_some _ e)
theorem XU{e:List Expr}{x}{p:Pos}{t:Addr}{i:Array Value}{Q:Unit->Shared->Prop}(b:A.handled=none)(a:s.heap.IsList t i)
  (n:(assignEach e env).length=i.size) (c:(assignEach e env).findIdx? (·.1)=none)
  (h:∀h',Heap.ExtBut s.heap.objs.size s.heap h'->wpAny (model prog w) A (assignInOrder ((assignEach e env).map (·.2)) i.toList) Q E {s with heap:=h'}):
  wpAny (model prog w) A (assign (.Tuple e x p) env<|.ref t) Q E s:=by
 refine wpAny_bind<|wpAny_standAt ?_;unfold unpack;rw[n,c];exact wpAny_bind<|wpAny_holding<|XR b a h
end
def y7(K:Frag)(n:Nat)(t:lP):TG:=λv b H Q=>∃a xs,v=.ref a/\(aK K H a xs\/aB K H a xs)/\xs.length=n/\t xs b H Q
theorem XX{c:List Expr}{k:Nat}{t:lP}{n:Nat}{d:Pos}(j:X.calm=true)(h:sG X c t)
  (i:(assignEach c X.env).length=n) (g:(assignEach c X.env).findIdx? (·.1)=none):PG X (.Tuple c k d) (y7 X.K n t):=by
 intro p s f H v u Q I r w;obtain⟨a,x,m,q,l,w⟩:=w;rcases q with q|q
 ·exact G9 j h i g p s f H v u Q I r ⟨a,x,m,q,l,w⟩
 ·subst m;cases r;obtain⟨E,y,A,C⟩:=I.list q;refine XU (I.ok.hd j) A.isList (by simp[i,<-l,y.length]) g λD z=>?_
  exact h p _ f H x _ Q (I.kept λb o e=>z b o (zao<|Heap.lt_size e) e) (by lia) w
def vE:List Nat->lP
 |[]=>BK
 |i::r=>ya (gE i) (vE r)
def XY(t:TE)(f h:TO):TG:=λv d H Q=>t d H λo k=>f d k λi g=>h d g λj e=>∃l b xs y a c,o=.ref l/\v=.ref b/\i=some a/\j=some c/\e l=some (.lst xs)/\e b=some (.lst y)/\l≠b/\
 0<=a/\a<=c/\c<=xs.length/\xs.length+y.length<=sizeLine/\Q d (upd e l<|.lst<|xs.take a.toNat++y++xs.drop c.toNat)
mutual
def cX(Γ:aQ):RS->TS
 |.asg i e=>lQ (ag Γ e) (gE i)
 |.yR i e=>lQ (ag Γ e) (gE i)
 |.set o ix e=>lQ (ag Γ e) (G_ (ag Γ o) (ag Γ ix) yv)
 |.dput o i e=>Iw (ag Γ o) (ag Γ i) (ag Γ e)
 |.drop e=>G1 (ag Γ e)
 |.ret e=>G3 (ag Γ e)
 |.Cv=>G4
 |.ite c t e=>G5 (aY Γ c) (aE Γ t) (aE Γ e)
 |.jy i k aq body=>yb (jz Γ k aq) (gE i) (aE Γ body)
 |.sV is k aq body=>yb (jz Γ k aq) (y7 Γ.K is.length<|vE is) (aE Γ body)
 |.qG c body=>Ha (aY Γ c) (aE Γ body)
 |.pass=>BI
 |.brk=>R6
 |.cont=>G0
 |.never=>Sb
 |.Wx o lo hi e=>lQ (ag Γ e) (XY (ag Γ o) (yt<|ag Γ lo)<|yt<|ag Γ hi)
 |.bS o f e=>yk Γ.K (ag Γ o) (ag Γ e) f
 |.Wy is e=>lQ (ag Γ e) (y7 Γ.K is.length<|vE is)
 |.fg j as=>Ct (Γ.ex j) Γ.E (bu Γ as)
 |.Cw n i j body su=>λD σ H=>∃C,Γ.gv j=.ref C/\yO Γ.K C i n (λE=>aE {Γ with E:=E} body) (λea=>aE {Γ with E:=E0,hv:=some ea} su) D σ H
 |.Wz k i j f as su=>λD σ H=>∃C,Γ.gv j=.ref C/\Wq Γ.K C i k (Γ.fs f) (bu {Γ with E:=E0} as) (λea=>aE {Γ with E:=E0,hv:=some ea} su) D σ H
 |.xs T=>T Γ
def aE(Γ:aQ):List RS->TS
 |[]=>BI
 |s::r=>GY (cX Γ s) (aE Γ r)
end
def vF:Expr->Bool
 |.Slice ..=>false|_=>true
def y8:Expr->Bool
 |.ListComp ..=>false|.SetComp ..=>false|.DictComp ..=>false|_=>true
def JO(c:Scope)(x:Str)(l:Nat)(s:Scope)(p:Pos):Bool:=
 decide (c.kind=.function) && decide (c.names.lookup x=some .local) && (l==p.line) && !(s.names.any fun(n,k)=>n==x && (k==.local ||k==.cell))
def tj(N:List Str)(s:Scope):List Nat->List Str->Bool
 |[],xs=>xs.isEmpty
 |i::r,xs=>match xs with
  |[]=>false
  |x::t=>decide (N[i]?=some x) && loc s x && tj N s r t
structure eF (CX:cW) (S:df) (Γ:aQ) (X:Cx):Prop extends Good CX S Γ X where
 nd:S.N.Nodup
 oS:∀x,X.fn x=true
 own:PassesOwn (model X.prog X.w) X.A X.env X.xe
 tm:X.env.scope.kind=.function
 rs:∀(j:Nat) (x:Str),S.en[j]?=some x->Raises X Γ.E
 kr:X.stack=X.env::X.outer
 iK:X.env.frame=some X.env.locals
 tq:X.ex=[]
 tu:CX=gL X.prog X.w
def qV(S:df)(i:Nat)(x:Str):Bool:=decide (S.N[i]?=some x) && CA S.sc x && !(x==("__debug__":Str)) && !(x==("__classdict__":Str))
def kG(S:df)(j:Nat)(x:Str):Bool:=decide (S.gn[j]?=some x) && oM S.sc x && !(x==("__debug__":Str))
def kF(S:df)(j:Nat)(x:Str):Bool:=decide (S.fn[j]?=some x) && oM S.sc x && !(x==("__debug__":Str))
def kK(S:df)(j:Nat)(x:Str):Bool:=decide (S.kn[j]?=some x) && oM S.sc x && !(x==("__debug__":Str))
def kB(S:df)(x y:Str):Bool:=decide (x=y) && oM S.sc x && S.bl.contains x
def kM(o:Expr)(m:Str)(x:Str)(n:Nat)(a c:Pos):Bool:=decide (x=m) && oN o && (a.endLine==c.line) && decide (n<29)
def kL(S:df)(i:Nat)(x:Str):Bool:=decide (S.N[i]?=some x) && loc S.sc x
section
variable {CX:cW}{S:df}{Γ:aQ}{X:Cx}{e e2 a b c d:Expr}{es:List Expr}{x:Str}{p q pos:Pos}{r ra rb rc:RE}{rs:List RE}{i j:Nat}
theorem aa(G:Good CX S Γ X)(h:qV S i x=true:=by kernel_rfl):PE X (.Name x p) (ag Γ<|.v i):=by
 simp only[qV,zag,decide_eq_true_eq,zaZ] at h
 exact RP (G.N▸h.1.1.1) (G.sc▸WM h.1.1.2) h.1.2 h.2
theorem aA{k:Nat}:PE X (.Constant (.int v) k p) (ag Γ<|.c<|.int v):=RQ
theorem aF{k:Nat}:PE X (.Constant (.str v) k p) (ag Γ<|.c<|.str v):=RV
theorem lZ{k:Nat}:PE X (.Constant (.bool v) k p) (ag Γ<|.c<|.bl v):=RT
theorem ik:PE X (.Constant .none k p) (ag Γ<|.c .av):=RU
theorem y9(G:Good CX S Γ X)(h:kG S j x=true:=by kernel_rfl):PE X (.Name x p) (ag Γ<|.g j):=by
 simp only[kG,zag,decide_eq_true_eq,zaZ] at h
 obtain⟨u,m,r⟩:=G.fD j x h.1.1;exact GQ (G.gl h.1.2) m r h.2
theorem bf(G:Good CX S Γ X)(f:PE X a (ag Γ ra))(h:PE X b (ag Γ rb)):PE X (.BinOp a o b p) (ag Γ<|.bin o ra rb):=by
 show PE X _ (gc (i8 Γ.K o) (ag Γ ra)<|ag Γ rb);rw[<-G.K];exact Sv (VY o) f h
theorem nk(h:PE X a (ag Γ ra)):PE X (.UnaryOp .USub a p) (ag Γ<|.neg ra):=Sw XF h
theorem kI(G:Good CX S Γ X)(g:PE X a (ag Γ ra))(f:PE X b (ag Γ rb))(h:behindInMarks o b=false:=by kernel_rfl):PE X (.Compare a [o] [b] p) (ag Γ<|.cmp o ra rb):=by
 show PE X _ (gc (da Γ.K o) (ag Γ ra)<|ag Γ rb);rw[<-G.K];exact SX (yL G.units o) g f h
theorem XZ(G:Good CX S Γ X)(l:PE X a (ag Γ ra))(k:PE X b (ag Γ rb))(f:PE X c (ag Γ rc))(h:lastMarks [o,g] [b,c]=false:=by kernel_rfl):PE X (.Compare a [o,g] [b,c] p) (ag Γ<|.vq o g ra rb rc):=by
 show PE X _ (yh (da Γ.K o) (da Γ.K g) (ag Γ ra) (ag Γ rb)<|ag Γ rc);rw[<-G.K];exact S_ (yL G.units o) (yL G.units g) l k f h
theorem kJ(h:PE X e (ag Γ r)):PE X (.BoolOp .And [e] p) (ag Γ<|.and [r]):=RZ h
theorem jc(h:PE X e (ag Γ r))(t:PE X (.BoolOp .And (e2::es) p) (ag Γ<|.and (f::rs))):PE X (.BoolOp .And (e::e2::es) p) (ag Γ<|.and (r::f::rs)):=R0 h t
theorem JP(G:Good CX S Γ X)(h:PE X a (ag Γ ra)):PE X (.UnaryOp .Not a p) (ag Γ<|.not ra):=by
 show PE X _ (Cy Γ.K<|ag Γ ra);rw[<-G.K];exact XG h
theorem qK(h:PT X c (aY Γ rc))(g:PE X a (ag Γ ra))(f:PE X b (ag Γ rb)):PE X (.IfExp c a b p) (ag Γ<|.kE rc ra rb):=R1 h g f
theorem X0:PE X (.Dict [] [] p) (ag Γ .yQ):=Xp
theorem ao:PA X [] (bu Γ []):=yn
theorem ah(hs:noStar e=true)(h:PE X e (ag Γ r))(t:PA X es (bu Γ rs)):PA X (e::es) (bu Γ (r::rs)):=sM h t (fE hs)
theorem aT(G:Good CX S Γ X)(A:PA X (e::es) (bu Γ (r::rs)))(h:kF S j x=true:=by kernel_rfl)(n:iL (e::es)=true:=by kernel_rfl)(m:S.md=0:=by rfl):PE X (.Call (.Name x p) (e::es) [] pos) (ag Γ<|.call j (r::rs)):=by
 simp only[kF,zag,decide_eq_true_eq,zaZ] at h
 obtain⟨k,f,v,u,zq⟩:=qx4 (G.fns m j x h.1.1);obtain⟨g,l,o,s,t⟩:=qa5 zq;exact TH g l (G.gl h.1.2) o s t .nil G.pass A h.2 (fE (gZ n).1)<|nh _ _ es (gZ n).2
theorem qL(G:Good CX S Γ X)(A:PA X (e::es) (bu Γ (r::rs)))(h:kK S j x=true:=by kernel_rfl)(n:iL (e::es)=true:=by kernel_rfl)(o:S.md=0:=by rfl):PE X (.Call (.Name x p) (e::es) [] pos) (ag Γ<|.make j (r::rs)):=by
 simp only[kK,zag,decide_eq_true_eq,zaZ] at h
 obtain⟨k,f,v,u,zq⟩:=qx4 (G.qI o j x h.1.1);obtain⟨g,l,m,s,t⟩:=qa5 zq;exact TK g l m (G.gl h.1.2) s t .nil G.pass A h.2 (fE (gZ n).1)<|nh _ _ es (gZ n).2
theorem cm{t:m9}(G:Good CX S Γ X)(A:PA X (e::es) (bu Γ (r::rs)))(h:kB S x t.nm=true:=by kernel_rfl)(n:iL (e::es)=true:=by kernel_rfl)(o:S.md=0:=by rfl):PE X (.Call (.Name x p) (e::es) [] pos) (ag Γ<|.blt t (r::rs)):=by
 simp only[kB,zag,decide_eq_true_eq] at h
 obtain⟨⟨rfl,m⟩,l⟩:=h;have k:t.nm≠"__name__":=by cases t<;>decide
 have g:(t.nm==("__debug__":Str))=false:=by cases t<;>decide
 show PE X _ (jT (oH Γ.K t)<|bu Γ (r::rs));rw[<-G.K];cases Xq (G.calm o) t with
 |fn s v f=>exact HM f (G.gl m) (G.jb _ l) v A k g (fE (gZ n).1) (nh _ _ es (gZ n).2)
 |ty T v f=>exact HN f (G.gl m) (G.jb _ l) v A k g (fE (gZ n).1) (nh _ _ es (gZ n).2)
theorem nr{T:Ty}{y:Str}(G:Good CX S Γ X)(l:PE X a (ag Γ ra))(h:kB S x "isinstance"=true:=by kernel_rfl)(f:kB S y (Str.ofString T.nm)=true:=by kernel_rfl)(hs:noStar a=true:=by kernel_rfl):PE X (.Call (.Name x p) [a,.Name y q] [] pos) (ag Γ<|.ij T ra):=by
 simp only[kB,zag,decide_eq_true_eq] at h f
 obtain⟨⟨rfl,n⟩,m⟩:=h;obtain⟨⟨rfl,g⟩,k⟩:=f;exact XB l hs (G.gl n) (G.jb _ m) (G.gl g)<|G.jb _ k
theorem X1{o:Expr}{f:RE}{g:Pos}(G:Good CX S Γ X)(k:PE X o (ag Γ f))(h:kM o m.nm x 0 g pos=true:=by kernel_rfl):PE X (.Call (.Attribute o x g) [] [] pos) (ag Γ<|.bE m f []):=by
 simp only[kM,zag,decide_eq_true_eq] at h
 obtain⟨⟨⟨rfl,n⟩,l⟩, -⟩:=h;show PE X _ (sW Γ.K m (ag Γ f) jS);rw[<-G.K];exact XI k n l
theorem cP{m:i9}{o:Expr}{f:RE}{g:Pos}(G:Good CX S Γ X)(k:PE X o (ag Γ f))(A:PA X (e::es) (bu Γ (r::rs)))(h:kM o m.nm x (es.length+1) g pos=true:=by kernel_rfl)(n:iL (e::es)=true:=by kernel_rfl):PE X (.Call (.Attribute o x g) (e::es) [] pos) (ag Γ<|.bE m f (r::rs)):=by
 simp only[kM,zag,decide_eq_true_eq] at h
 obtain⟨⟨⟨rfl,t⟩,s⟩,l⟩:=h;show PE X _ (sW Γ.K m (ag Γ f)<|bu Γ (r::rs));rw[<-G.K];exact XH k A t s l (fE (gZ n).1) (nh _ _ es (gZ n).2)<|y3 _ _ (e::es) n
theorem a_{o:RE}(G:Good CX S Γ X)(g:PE X a (ag Γ o))(h:oN a=true:=by kernel_rfl):PE X (.Attribute a f p) (ag Γ<|.fld o f):=by
 show PE X _ (yj Γ.K (ag Γ o) f);rw[<-G.K];exact Tx g<|oF h
theorem d2{o:Expr}{f:RE}{g:Pos}(G:Good CX S Γ X)(l:PE X o (ag Γ f))(h:(kM o m m 0 g pos && decide (S.mn[j]?=some m))=true:=by kernel_rfl)(k:S.md=0:=by rfl):PE X (.Call (.Attribute o m g) [] [] pos) (ag Γ<|.aS j m f []):=by
 simp only[kM,zag,decide_eq_true_eq] at h
 obtain⟨⟨⟨⟨-,t⟩,s⟩, -⟩,n⟩:=h;exact XN (G.oQ k j _ n) G.pass l t s
theorem eS{o:Expr}{f:RE}{g:Pos}(G:Good CX S Γ X)(l:PE X o (ag Γ f))(A:PA X (e::es) (bu Γ (r::rs)))(h:(kM o m m (es.length+1) g pos && decide (S.mn[j]?=some m))=true:=by kernel_rfl)(n:iL (e::es)=true:=by kernel_rfl)(k:S.md=0:=by rfl):PE X (.Call (.Attribute o m g) (e::es) [] pos) (ag Γ<|.aS j m f (r::rs)):=by
 simp only[kM,zag,decide_eq_true_eq] at h
 obtain⟨⟨⟨⟨-,v⟩,u⟩,t⟩,s⟩:=h;exact XM (G.oQ k j _ s) G.pass l A v u t (fE (gZ n).1) (nh _ _ es (gZ n).2)<|y3 _ _ (e::es) n
theorem X3(h:vF b=true):HY b:=λo i=>by cases b<;>first|rfl|cases h
theorem aJ(G:Good CX S Γ X)(g:PE X a (ag Γ ra))(f:PE X b (ag Γ rb))(h:vF b=true:=by kernel_rfl):PE X (.Subscript a b p) (ag Γ<|.ix ra rb):=by
 show PE X _ (gc (oJ Γ.K Γ.sd) (ag Γ ra)<|ag Γ rb);rw[<-G.K];exact Uj (Xv G.oP) g f<|X3 h
theorem X4(h:vF b=true):Ce b:=λo v=>by cases b<;>first|rfl|cases h
theorem eG(G:Good CX S Γ X)(g:PE X a (ag Γ ra))(f:PE X b (ag Γ rb))(h:vF b=true:=by kernel_rfl):PE X (.Subscript a b p) (ag Γ<|.dc ra rb):=
 Ve (by have:=G.units;lia) g f (X4 h)
theorem X5(G:Good CX S Γ X)(g:PE X a (ag Γ ra))(f:PE X b (ag Γ rb))(h:behindInMarks .In b=false:=by kernel_rfl):PT X (.Compare a [.In] [b] p) (aY Γ<|.vt ra rb):=
 GR (Vf (by have:=G.units;lia) g f) h
theorem X6(G:Good CX S Γ X)(g:PE X a (ag Γ ra))(f:PE X b (ag Γ rb))(h:behindInMarks .NotIn b=false:=by kernel_rfl):PT X (.Compare a [.NotIn] [b] p) (aY Γ<|.vv ra rb):=
 GR (Vg (by have:=G.units;lia) g f) h
theorem oU{lo f:Option Expr}{l h:Option RE}(G:Good CX S Γ X)(m:PE X a (ag Γ ra))(g:PO X lo (oK Γ l))(k:PO X f (oK Γ h)):PE X (.Subscript a (.Slice lo f none q) p) (ag Γ<|.sl ra l h):=by
 show PE X _ (B0 (sX Γ.K) (ag Γ ra) (oK Γ l)<|oK Γ h);rw[<-G.K];exact Ud XE m g k
theorem y_:PO X none (oK Γ none):=Ub
theorem jX(h:PE X a (ag Γ ra)):PO X (some a) (oK Γ<|some ra):=Uc h
theorem dW(h:PA X es (bu Γ rs)):PE X (.Tuple es k p) (ag Γ<|.tup rs):=TC h
theorem cG(h:PA X es (bu Γ rs)):PE X (.List es p) (ag Γ<|.lst rs):=TF h
def za(CX:cW)(S:df)(Γ:aQ)(f:Option RE)(s:List Expr):Prop:=match f with
 |none=>s=[]
 |some r=>∃g,s=[g]/\∀X,Good CX S Γ X->PT X g (aY Γ r)
theorem vG:za CX S Γ none []:=rfl
theorem zb(h:∀X,Good CX S Γ X->PT X e (aY Γ r)):za CX S Γ (some r) [e]:=⟨e,rfl,h⟩
def kC(S:df)(t:Option Nat)(g f:Expr)(s:Scope)(k:IK)(ln:List Str)(v:List (Str×Nat)):Bool:=decide (CG t g=some ln) && (decide (k≠ .zip)||t.isSome) && CH S ⟨.Constant .none 0 ⟨0,0,0,0⟩,g,f,[],s⟩ ln v
abbrev cS(S:df)(s:Scope)(ln:List Str)(f:List (Str×Nat)):df:={S with N:=ln++f.map (·.1),sc:=CF s S.sc,en:=[],md:=if S.md=0 then 0 else 2}
theorem oV{v:List (Str×Nat)}{k:IK}{w:List RE}{g:Option RE}{t:RE}{A m f:Expr}{n:List Expr}{l:Scope}{ln:List Str}(G:Good CX S Γ X)(h:kC S y m f l k ln v=true)(P:PI X m f (jz Γ k w))
  (z:za CX (cS S l ln v) Γ.calm g n) (Q:∀X,Good CX (cS S l ln v) Γ.calm X->PE X A (ag Γ.calm t)) (o:S.md=0:=by rfl):PE X (.ListComp A [⟨m,f,n,0⟩] l p) (ag Γ<|.comp y v k w g t):=by
 simp only[kC,zag,decide_eq_true_eq] at h
 obtain⟨⟨T,Z⟩,R⟩:=h;obtain⟨N,I,E,D⟩:=JF G R;show PE X _ (qC Γ.K (jz Γ k w) y v (yT Γ.calm g)<|ag Γ.calm t);rw[<-G.K];refine VQ N (G.calm o) P (JG (G.calm o) T I E) ?_ (λu C s H=>Q _<|G.inner ⟨.Constant .none 0 ⟨0,0,0,0⟩,m,f,[],l⟩ ln v u C s H)<|yZ D;cases g with
 |none=>exact z
 |some r=>
  obtain⟨V,q,o⟩:=z;exact⟨V,q,λu C s H=>o _<|G.inner ⟨.Constant .none 0 ⟨0,0,0,0⟩,m,f,[],l⟩ ln v u C s H⟩
theorem fF(h:PT X a (aY Γ ra)):PT X (.UnaryOp .Not a p) (aY Γ<|.not ra):=RX h
theorem vH(h:PT X e (aY Γ r)):PW X (.BoolOp .And [e] p) (aY Γ<|.and [r]):=pw_and1 h
theorem tw(h:PT X e (aY Γ r))(t:PW X (.BoolOp .And (e2::es) p) (aY Γ<|.and (f::rs))):PW X (.BoolOp .And (e::e2::es) p) (aY Γ<|.and (r::f::rs)):=pw_and h t
theorem nA(h:PT X e (aY Γ r)):PW X (.BoolOp .Or [e] p) (aY Γ<|.or [r]):=pw_or1 h
theorem jY(h:PT X e (aY Γ r))(t:PW X (.BoolOp .Or (e2::es) p) (aY Γ<|.or (f::rs))):PW X (.BoolOp .Or (e::e2::es) p) (aY Γ<|.or (r::f::rs)):=pw_or h t
theorem aW(G:Good CX S Γ X)(g:PE X a (ag Γ ra))(f:PE X b (ag Γ rb))(h:behindInMarks o b=false:=by kernel_rfl):PT X (.Compare a [o] [b] p) (aY Γ<|.cmp o ra rb):=by
 show PT X _ (sJ<|gc (da Γ.K o) (ag Γ ra)<|ag Γ rb);rw[<-G.K];exact SY (yL G.units o) g f h
theorem iM(G:Good CX S Γ X)(h:PE X (.Call a es [] p) (ag Γ<|.call j rs)):PT X (.Call a es [] p) (aY Γ<|.call j rs):=by
 show PT X _ (gY Γ.K<|ag Γ<|.call j rs);rw[<-G.K];exact y6 h λ_=>rfl
theorem vI(G:Good CX S Γ X)(h:PE X (.Call a es [] p) (ag Γ<|.ij T ra)):PT X (.Call a es [] p) (aY Γ<|.ij T ra):=by
 exact y6 h λ_=>rfl
theorem X7{o:RE}(G:Good CX S Γ X)(h:PE X (.Call a es [] p) (ag Γ<|.bE m o rs)):PT X (.Call a es [] p) (aY Γ<|.bE m o rs):=by
 show PT X _ (gY Γ.K<|ag Γ<|.bE m o rs);rw[<-G.K];exact y6 h λ_=>rfl
theorem C4{o:RE}(G:Good CX S Γ X)(h:PE X (.Call a es [] p) (ag Γ<|.aS j m o rs)):PT X (.Call a es [] p) (aY Γ<|.aS j m o rs):=by
 show PT X _ (gY Γ.K<|ag Γ<|.aS j m o rs);rw[<-G.K];exact y6 h λ_=>rfl
theorem jd(G:Good CX S Γ X)(h:PE X a (ag Γ ra)):PI X t a (jz Γ .list [ra]):=by
 show PI X t a (BM Γ.K<|ag Γ ra);rw[<-G.K];exact So h
theorem qM{t:Expr}(G:Good CX S Γ X)(f:PE X a (ag Γ ra))(h:kB S x "range"=true:=by kernel_rfl)(hs:noStar a=true:=by kernel_rfl):PI X t (.Call (.Name x p) [a] [] pos) (jz Γ .fS [ra]):=by
 simp only[kB,zag,decide_eq_true_eq] at h
 obtain⟨⟨rfl,k⟩,g⟩:=h;exact Sq (G.gl k) (G.jb _ g) (sM f yn<|fE hs)<|fE hs
theorem X8{t:Expr}(G:Good CX S Γ X)(g:PE X a (ag Γ ra))(f:PE X b (ag Γ rb))(h:kB S x "range"=true:=by kernel_rfl)(hs:noStar a=true:=by kernel_rfl)(k:noStar b=true:=by kernel_rfl):PI X t (.Call (.Name x p) [a,b] [] pos) (jz Γ .yP [ra,rb]):=by
 simp only[kB,zag,decide_eq_true_eq] at h
 obtain⟨⟨rfl,m⟩,l⟩:=h;exact Sr (G.gl m) (G.jb _ l) (sM g (sM f yn<|fE k)<|fE hs) (by rw[fE hs,fE k];rfl)<|fE k
end
section
variable {CX:cW}{S:df}{Γ:aQ}{X:Cx}{e a b c v:Expr}{es:List Expr}{x:Str}{p q pos:Pos}{r ra rb rc:RE}{i j:Nat}{st:Stmt}{JQ:List Stmt}{s:RS}{ss t u:List RS}
theorem C5{t:Option Expr}{l:Nat}{env:Env}(h:y8 v=true):swapsWith v t l env=pure false:=by
 cases v<;>first|rfl|cases h
theorem X9{x:Str}{p:Pos}{l:Nat}{env:Env}(h:env.kindOf x=some .cell):swapsWith v (some<|.Name x p) l env=pure false:=by
 cases v<;>first
  |rfl
  |(unfold swapsWith;simp only[h];have q:(some NameKind.cell==some NameKind.local)=false:=rfl;simp only[q,Bool.and_false,Bool.false_and])
theorem JR{i:Expr}{p:Pos}{l:Nat}{env:Env}:swapsWith v (some<|.Subscript o i p) l env=pure false:=by
 cases v<;>rfl
theorem X_{i:Expr}{p:Pos}{env:Env}:swappedStores [.Subscript o i p] v env=pure none:=rfl
theorem eF.name(G:eF CX S Γ X)(h:kL S i x=true):PG X (.Name x p) (gE i):=by
 simp only[kL,zag,decide_eq_true_eq] at h
 exact x_ (G.N▸G.nd) (G.N▸h.1) (G.sc▸CC h.2)<|.inl<|G.oS x
theorem au:eR X [] (aE Γ []):=GZ
theorem aj(h:PS X st (cX Γ s))(t:eR X JQ (aE Γ ss)):eR X (st::JQ) (aE Γ (s::ss)):=R5 h t
theorem aZ(G:eF CX S Γ X)(g:PE X v (ag Γ r))(h:kL S i x=true:=by kernel_rfl)(f:(y8 v ||decide (S.sc.names.lookup x=some .cell))=true:=by kernel_rfl):PS X (.Assign [.Name x p] v q) (cX Γ<|.asg i r):=by
 simp only[kL,zag,decide_eq_true_eq,Bool.or_eq_true] at h f
 refine Sh (G.N▸G.nd) (G.N▸h.1) (G.sc▸CC h.2) g ?_<|.inl<|G.oS x
 rcases f with d|d
 ·exact C5 d
 ·exact X9 (by show X.env.scope.names.lookup x=_;rw[G.sc];exact d)
theorem Ya{l:List (Str×Nat)}{k:IK}{D:List RE}{f:Option RE}{m:RE}{P n d:Expr}{o:List Expr}{g:Scope}{ln:List Str}{w:Pos}(G:eF CX S Γ X)(z:kL S i x=true)(hs:JO S.sc x p.line g w=true)(h:kC S E n d g k ln l=true)(Z:PI X n d (jz Γ k D))
  (I:za CX (cS S g ln l) Γ.calm f o) (he:∀X,Good CX (cS S g ln l) Γ.calm X->PE X P (ag Γ.calm m)) (y:S.md=0:=by rfl):PS X (.Assign [.Name x p] (.ListComp P [⟨n,d,o,0⟩] g w) q) (cX Γ<|.yR i<|.comp E l k D f m):=by
 simp only[kC,kL,JO,zag,decide_eq_true_eq,beq_iff_eq,zaZ] at h z hs
 obtain⟨⟨h1,h2⟩,h3⟩:=h;obtain⟨V,T,R,Q⟩:=JF G.toGood h3;show PS X _ (lQ (qC Γ.K (jz Γ k D) E l (yT Γ.calm f)<|ag Γ.calm m)<|gE i);rw[<-G.K];refine VR (G.N▸G.nd) (G.N▸z.1) (G.sc▸CC z.2) ?_ V (G.calm y) Z (JG (G.calm y) h1 T R) ?_ (λA C s H=>he _<|G.toGood.inner ⟨.Constant .none 0 ⟨0,0,0,0⟩,n,d,[],g⟩ ln l A C s H) (yZ Q)<|.inl<|G.oS x
 ·have e1:X.env.kindOf x=some .local:=by show X.env.scope.names.lookup x=_;rw[G.sc];exact hs.1.1.2
  have e2:X.env.blockKind=.function:=by unfold Env.blockKind;rw[G.tm];rfl
  unfold swapsWith
  simp only[e1,e2,hs.1.2,hs.2]
  show pure (true && true && (w.line==w.line) && !false)=pure true;rw[beq_self_eq_true];rfl
 ·cases f with
  |none=>exact I
  |some r=>
   obtain⟨e0,q,y⟩:=I;exact⟨e0,q,λA C s H=>y _<|G.toGood.inner ⟨.Constant .none 0 ⟨0,0,0,0⟩,n,d,[],g⟩ ln l A C s H⟩
theorem zc(d:PE X v (ag Γ r))(g:PE X a (ag Γ ra))(f:PE X b (ag Γ rb))(h:vF b=true:=by kernel_rfl):PS X (.Assign [.Subscript a b p] v q) (cX Γ<|.set ra rb r):=
 Sf d (Se g f set_list (by intro w;cases b<;>first|rfl|cases h)) (by exact JR (o:=a) (i:=b) (p:=p) (l:=q.line) (env:=X.env)) X_ rfl
theorem qN(G:eF CX S Γ X)(h:PE X v (ag Γ r))(f:PE X a (ag Γ ra))(d:PE X b (ag Γ rb)):PS X (.Assign [.Subscript a b p] v q) (cX Γ<|.dput ra rb r):=
 Vh (by have:=G.toGood.units;lia) f d h (by exact JR)
theorem cJ(G:eF CX S Γ X)(o:PE X a (ag Γ ra))(d:PE X v (ag Γ r))(h:y8 v=true:=by kernel_rfl):PS X (.Assign [.Attribute a f p] v q) (cX Γ<|.bS ra f r):=by
 show PS X _ (yk Γ.K (ag Γ ra) (ag Γ r) f);rw[<-G.K];exact HC o d<|C5 h
theorem cf(d:PE X v (ag Γ r))(h:y8 v=true:=by kernel_rfl):PS X (.Expr v p) (cX Γ<|.drop r):=R8 d (C5 h)
theorem bq(h:PE X v (ag Γ r)):PS X (.Return (some v) p) (cX Γ<|.ret r):=R9 h
theorem Yb:PS X (.Return none p) (cX Γ .Cv):=R_
theorem bo(h:PT X c (aY Γ rc))(f:eR X g (aE Γ t))(d:eR X bs (aE Γ u)):PS X (.If c g bs p) (cX Γ<|.ite rc t u):=Sa h f d
theorem zd(G:eF CX S Γ X)(h:PT X c (aY Γ rc))(d:eR X f (aE Γ t)):PS X (.While c f [] p) (cX Γ<|.qG rc t):=Sj G.own h d
theorem nB{g:List RE}{d:Expr}{f:List Stmt}(G:eF CX S Γ X)(m:PI X (.Name x p) d (jz Γ k g))(n:eR X f (aE Γ t))(h:kL S i x=true:=by kernel_rfl)(hs:vx d=true:=by kernel_rfl)(l:S.md=0:=by rfl):PS X (.For (.Name x p) d f [] q) (cX Γ<|.jy i k g t):=
 Hj G.own (G.calm l) m (G.name h) n (yZ hs)
theorem JS(G:eF CX S Γ X):∀(d:List Nat) (xs:List (Str×Pos)),tj S.N S.sc d (xs.map (·.1))=true->
  sG X (xs.map λy=>.Name y.1 y.2) (vE d)/\(assignEach (xs.map λy=>Expr.Name y.1 y.2) X.env).length=d.length/\(assignEach (xs.map λy=>Expr.Name y.1 y.2) X.env).findIdx? (·.1)=none
 |[],xs,h=>by
  simp only[tj,List.isEmpty_iff,List.map_eq_nil_iff] at h
  subst h;exact⟨G7,rfl,rfl⟩
 |i::r,[],h=>by cases h
 |i::r,y::t,h=>by
  simp only[zav,tj,zag] at h
  obtain⟨k,g,f⟩:=JS G r t h.2;refine⟨BL (G.name (by simp only[kL,zag];exact h.1)) k rfl,?_,?_⟩
  ·show(assignEach _ X.env).length+1=r.length+1;rw[g]
  ·show List.findIdx? (·.1) ((false,assign (.Name y.1 y.2) X.env)::assignEach _ X.env)=none;rw[List.findIdx?_cons,f];rfl
theorem ze{k:IK}{g:List RE}{d:Expr}{o:List Stmt}{m}{l:Pos}(xs:List (Str×Pos))(G:eF CX S Γ X)(C:PI X (.Tuple (xs.map λy=>.Name y.1 y.2) m l) d (jz Γ k g))(D:eR X o (aE Γ t))(h:tj S.N S.sc f (xs.map (·.1))=true:=by kernel_rfl)(hs:vx d=true:=by kernel_rfl)(n:S.md=0:=by rfl):
  PS X (.For (.Tuple (xs.map λy=>.Name y.1 y.2) m l) d o [] q) (cX Γ<|.sV f k g t):=by
 obtain⟨A,z,w⟩:=JS G f xs h;show PS X _ (yb (jz Γ k g) (y7 Γ.K f.length<|vE f)<|aE Γ t);rw[<-G.K];exact Hj G.own (G.calm n) C (XX (G.calm n) A z w) D<|yZ hs
def kX(S:df)(j:Nat)(x:Str):Bool:=decide (S.en[j]?=some x) && oM S.sc x && !(x==("__debug__":Str))
theorem fV{l o:Pos}(G:eF CX S Γ X)(A:PA X (e::es) (bu Γ (r::k)))(h:kX S j x=true:=by kernel_rfl)(g:iL (e::es)=true:=by kernel_rfl)(m:S.md=0:=by rfl):PS X (.Raise (some<|.Call (.Name x l) (e::es) [] o) none pos) (cX Γ<|.fg j (r::k)):=by
 simp only[kX,zag,decide_eq_true_eq,zaZ] at h
 obtain⟨z,f,n,y,d,w⟩:=G.vB j x h.1.1;exact W0 (G.calm m) d w (G.gl h.1.2) h.2 A (fE (gZ g).1) (nh _ _ es (gZ g).2)<|G.rs j x h.1.1
abbrev tS(S:df):df:={S with en:=[]}
abbrev hS(S:df):df:={S with en:=[],md:=2}
theorem eF.Yc(G:eF CX S Γ X)(n:List (Addr×Obj))(d:Value->Shared->Prop)(E:XK)(o:PassesOwn (model X.prog X.w) X.A X.env d)(f:Passes (gL X.prog X.w) (X.alt X.A X.calm n d) E):
  eF CX (tS S) {Γ with E:=E} (X.alt X.A X.calm n d):=
 {N:=G.N,sc:=G.sc,K:=G.K,calm:=G.calm,units:=G.units,gd:=G.gd,fns:=G.fns,fD:=G.fD,jb:=G.jb,pass:=G.tu▸f,ng:=G.ng,oP:=G.oP,oQ:=G.oQ,qI:=G.qI,
  vB:=λ_ _ h=>(by simp at h),qJ:=G.qJ,s_:=G.s_,vC:=G.vC,nd:=G.nd,oS:=G.oS,own:=o,tm:=G.tm,rs:=λ_ _ h=>(by simp at h),kr:=G.kr,iK:=G.iK,tq:=G.tq,tu:=G.tu}
theorem eF.held(G:eF CX S Γ X)(g:Addr)(n:List (Addr×Obj)):
  eF CX (hS S) {Γ with E:=E0,hv:=some g} (X.alt (X.A.mark<|some<|.ref g) false n λ_ _=>False):=
 {N:=G.N,sc:=G.sc,K:=G.K,calm:=λh=>(nomatch h),units:=G.units,gd:=G.gd,fns:=λh=>(nomatch h),fD:=G.fD,jb:=G.jb,pass:=λ_ _ _ _ _ _ _ h=>(G.ng _ _ _ _ _ h).elim,ng:=G.ng,oP:=G.oP,oQ:=λh=>(nomatch h),qI:=λh=>(nomatch h),
  vB:=λ_ _ h=>(by simp at h),qJ:=λj x h=>(by
   obtain⟨k,f,o,l,zq⟩:=qx4 (G.qJ j x h);obtain⟨d,r,m⟩:=qa3 zq;exact⟨k,f,o,l,d,r.mark _,m⟩),
  s_:=λe h=>(by cases h;rfl),vC:=λh=>(nomatch h),nd:=G.nd,oS:=G.oS,own:=PassesOwn.never,tm:=G.tm,rs:=λ_ _ h=>(by simp at h),kr:=G.kr,iK:=G.iK,tq:=G.tq,tu:=G.tu}
theorem Yd:PS X (.Continue p) (cX Γ .cont):=R7
end
section
variable {P:Program}{w:World}{K:Frag}{mg:Str->Option Value}{base:Heap}
def l7(P:Program)(w:World)(K:Frag)(mg:Str->Option Value)(base:Heap)(k:Nat)(x:Str)(sp:Sp):Prop:=
 ∃f d ps,dE P w K mg base (gL P w) k f d ps sp/\mg x=some (.ref f)/\PySem.W.keepIn K (.ref f)=true/\Binds K d ps []
theorem l7.mono{x:Str}{sp:Sp}(h:l7 P w K mg base j x sp)(b:j<=k):l7 P w K mg base k x sp:=by
 obtain⟨f,d,p,a,r⟩:=h;exact⟨f,d,p,a.mono b,r⟩
def oW(t:List (Str×Sp))(j:Nat):Sp:=match t[j]? with
 |some p=>p.2
 |none=>λ_ _ _ _=>False
def zf(t:List (Str×V))(j:Nat):V:=match t[j]? with
 |some p=>p.2
 |none=>.av
structure C6 (mg:Str->Option Value) (p:Str×V):Prop where
 ex:∃u,mg p.1=some u/\RelV p.2 u
def l8(t:List (Str×Addr×Sp))(j:Nat):Addr×Sp:=match t[j]? with
 |some p=>p.2
 |none=>(0,λ_ _ _ _=>False)
def zg(t:List (Str×Addr))(j:Nat):Addr:=match t[j]? with
 |some p=>p.2
 |none=>0
abbrev aO(K:Frag)(t:List (Str×Sp))(g:List (Str×V))(d:List (Addr×List (Key×V)):=[])(m a:List (Str×Addr×Sp):=[])(et:List (Str×Addr):=[])(h:List (Str×Sp):=[])(E:XK:=E0):aQ:=
 {K:=K,fs:=oW t,gv:=zf g,E:=E,sd:=λp k=>(p,k)∈d,ms:=l8 m,kt:=l8 a,ex:=zg et,hs:=oW h,hv:=none}
def l9(P:Program)(w:World)(K:Frag)(mg:Str->Option Value)(base:Heap)(k:Nat)(p:Str×Addr×Sp):Prop:=
 e9 K p.2.1/\∃f d ps,Meth K p.2.1 p.1 f/\dE P w K mg base (gL P w) k f d ps p.2.2/\Binds K d ps []
def qO(P:Program)(w:World)(K:Frag)(mg:Str->Option Value)(base:Heap)(k:Nat)(p:Str×Addr×Sp):Prop:=
 ∃j f d ps,j+1<=k/\Mk K p.2.1 f/\dE P w K mg base (gL P w) j f d ps p.2.2/\mg p.1=some (.ref p.2.1)/\Binds K d ps []
theorem l9.mono{p:Str×Addr×Sp}(h:l9 P w K mg base j p)(d:j<=k):l9 P w K mg base k p:=by
 obtain⟨c,f,e,s,m,a,b⟩:=h;exact⟨c,f,e,s,m,a.mono d,b⟩
theorem qO.mono{p:Str×Addr×Sp}(h:qO P w K mg base j p)(a:j<=k):qO P w K mg base k p:=by
 obtain⟨i,f,d,s,m,r⟩:=h;exact⟨i,f,d,s,zap m a,r⟩
def JT(P:Program)(w:World)(K:Frag)(q:Addr×List (Key×V)):Prop:= ∀h:Heap,K.In h->∃vs,KV q.2 vs/\h.DictOf (e8 P w) q.1 vs
abbrev zh(N:List Str)(s:Scope)(t:List Str)(g:List Str)(b:List Str)(m kn:List Str:=[])(e h:List Str:=[])(d:Nat:=0):df:={N:=N,sc:=s,fn:=t,gn:=g,bl:=b,mn:=m,kn:=kn,en:=e,hn:=h,md:=d}
def zi(mg:Str->Option Value)(base:Heap)(p:Str×Addr):Prop:= ∃b a n s,OwnCls p.1 p.2 b n mg base/\ExcBaseFacts a n s b
def C7(P:Program)(w:World)(K:Frag)(mg:Str->Option Value)(base:Heap)(k:Nat)(x:Str)(sp:Sp):Prop:=
 ∃f d ps,JA P w K mg base k f d ps sp/\mg x=some (.ref f)/\PySem.W.keepIn K (.ref f)=true/\Binds K d ps []
theorem Ye{st:Stmt}{f:Addr}{fd:FuncData}{N ps:List Str}{k:Nat}{sp:Sp}(a:qz K x c' st f fd)(S:uX N ps (gI st))
  (t:List (Str×Sp)) (R:List (Str×V)) (bl:List Str) (n r:List (Str×Addr×Sp)) (et:List (Str×Addr)) (G:List (Str×Sp)) (l:List RS)
  (hm:∀{CX:cW}{Γ:aQ}{X:Cx},eF CX (zh N (gI st) (t.map (·.1)) (R.map (·.1)) bl (n.map (·.1)) (r.map (·.1)) (et.map (·.1)) (G.map (·.1))) Γ X->eR X (gH st) (aE Γ l))
  (C8:∀p∈t,l7 P w K mg base k p.1 p.2) (C9:∀p∈R,C6 mg p) (C_:∀y∈bl,mg y=none) (dk:List (Addr×List (Key×V))) (Dc:∀q∈dk,JT P w K q)
  (Dd:∀p∈n,l9 P w K mg base k p) (De:∀p∈r,qO P w K mg base k p) (a':∀p∈et,zi mg base p) (Df:∀p∈G,C7 P w K mg base k p.1 p.2)
  (Z:∀vs H Q E,sp vs H Q E->vs.length=ps.length)
  (Dg:∀vs H Q E,sp vs H Q E->aE (aO K t R dk n r et G E) l {nx:=λ_ H'=>Q .av H',rt:=Q} (start N vs) H):dE P w K mg base (gL P w) (k+1) f fd ps sp:=by
 obtain⟨oc,od,kV,e',pm,an,bK,ct,jt,zq⟩:=qx9 a.ex;obtain⟨rfl,lk,lO⟩:=qa3 zq;refine TN lk lO S Z λA T s H vs Q E I oA=>⟨_,hm (CX:=gL P w) ?_,Dg vs H Q E oA⟩;refine {N:=rfl,sc:=rfl,K:=rfl,calm:=λ_=>rfl,units:=I.units,gd:=I.gd,fns:=λ_ j y d=>?_,fD:=λj y d=>?_,jb:=λy hy=>?_,pass:=WY,ng:=λ_ _ _ _ _ h=>Jx h,oP:=λp d' h=>Dc _ h,oQ:=λ_ j y d=>?_,qI:=λ_ j y d=>?_,vB:=λj y d=>?_,qJ:=λj y d=>?_,s_:=λ_ h=>(nomatch h),vC:=λh=>(nomatch h),nd:=S.nd,oS:=λ_=>rfl,own:=PassesOwn.leaving,tm:=S.kind,rs:=λ_ _ _=>WZ,kr:=rfl,iK:=rfl,tq:=rfl,tu:=rfl}
 ·have b:=d;rw[zam] at b;cases q:t[j]? with
  |none=>rw[q] at b;cases b
  |some p=>
   rw[q] at b;have e:p.1=y:=zar b;obtain⟨z,m,v,D,o,k',C⟩:=C8 p (zan q);have g:oW t j=p.2:=by unfold oW;rw[q]
   show JB (gL P w) _ y (oW t j);rw[g,<-e];exact⟨k,z,m,v,D,I,o,k',C⟩
 ·have b:=d;rw[zam] at b;cases q:R[j]? with
  |none=>rw[q] at b;cases b
  |some p=>
   rw[q] at b;have e:p.1=y:=zar b;obtain⟨u,h1,h2⟩:=(C9 p<|zan q).ex;have g:zf R j=p.2:=by unfold zf;rw[q]
   show ∃u,mg y=some u/\RelV (zf R j) u;rw[g,<-e];exact⟨u,h1,h2⟩
 ·exact C_ y (by simpa using hy)
 ·have b:=d;rw[zam] at b;cases q:n[j]? with
  |none=>rw[q] at b;cases b
  |some p=>
   rw[q] at b;have e:p.1=y:=zar b;obtain⟨c,z,m,v,o,D,C⟩:=Dd p (zan q);have g:l8 n j=p.2:=by unfold l8;rw[q]
   show yX (gL P w) _ (l8 n j).1 y (l8 n j).2;rw[g,<-e];exact⟨c,k,z,m,v,o,D,I,C⟩
 ·have b:=d;rw[zam] at b;cases q:r[j]? with
  |none=>rw[q] at b;cases b
  |some p=>
   rw[q] at b;have e:p.1=y:=zar b;obtain⟨i,z,m,v,zq⟩:=qx4 (De p (zan q));obtain⟨hi,o,D,g',C⟩:=qa5 zq;have g:l8 r j=p.2:=by unfold l8;rw[q]
   show JC (gL P w) _ y (l8 r j).1 (l8 r j).2;rw[g,<-e];exact⟨i,z,m,v,o,D,I.mono hi,g',C⟩
 ·have b:=d;rw[zam] at b;cases q:et[j]? with
  |none=>rw[q] at b;cases b
  |some p=>
   rw[q] at b;have e:p.1=y:=zar b;have g:zg et j=p.2:=by unfold zg;rw[q]
   show JE _ y (zg et j);rw[g,<-e];exact a' p<|zan q
 ·have b:=d;rw[zam] at b;cases q:G[j]? with
  |none=>rw[q] at b;cases b
  |some p=>
   rw[q] at b;have e:p.1=y:=zar b;obtain⟨z,m,v,D,o,k',C⟩:=Df p (zan q);have g:oW G j=p.2:=by unfold oW;rw[q]
   show JD _ y (oW G j);rw[g,<-e];exact⟨k,z,m,v,D,I.h,o,k',C⟩
variable {x qual:Str}{st:Stmt}{f:Addr}{fd:FuncData}{N ps:List Str}{k:Nat}{sp:Sp}
theorem dE.top{k:Nat}(a:dE P w K mg base (gL P w) k f fd ps sp):dE P w K mg base va k f fd ps (λvs H Q _=>sp vs H Q E0):=
 ⟨λvs H Q E h=>a.len vs H Q E0 h,λA o s H b u vs Q E d i g v c=>codeAny_mono (a.run A o s H b u vs Q E0 d i g v c) λr j h=>by
  cases r with
  |error e=>exact(Jx h).elim
  |ok l=>cases l<;>exact h⟩
end
section
variable {Γ:aQ}{D:Ends}{σ:St}{H:Hp}{r:List RS}{Q:VK}
theorem JU{e:RE}(h:ag Γ e σ H λx a=>aE Γ r D (σ.set i<|some x) a):aE Γ (.asg i e::r) D σ H:=h
theorem JV{a:List RE}(h:bu Γ a σ H λvs c=>oH Γ.K b vs c Q):ag Γ (.blt b a) σ H Q:=h
theorem JW{Q:List V->Hp->Prop}(h:ag Γ a σ H λx b=>Q [x] b):bu Γ [a] σ H Q:=h
end
end L2
variable {H H' H1 H2:L2.Hp}{σ:L2.St}{v:L2.V}{Γ:L2.aQ}{a o:L2.RE}{Q:L2.VK}{xs ys vs:List L2.V}{j i n:Nat}{C L z mk:PySem.Addr}{as:List L2.RE}{r:List Nat}{y s:PySem.Str}{fv:List (PySem.Str×Nat)}
namespace L2.B
open PySem PySem.Spec PyProof.Rows
def jB:List Str:=["thing"]
noncomputable def JX:List RS:=
 [.ret<|.and [(.ij .int<|.v 0),(.not<|.ij .bool<|.v 0)]]
def ae:List Str:=[]
def Yf:List Str:=["isinstance","int","bool"]
def Dh:List Str:=["thing","words"]
noncomputable def Di:List RS:=
 [.ret<|.and [(.ij .str<|.v 0),(.cmp .In (.v 0)<|.v 1)]]
def JY:List Str:=["isinstance","str"]
noncomputable def Dj:List RS:=
 [.ret<|.and [(.ij .str<|.v 0),(.cmp .Eq (.bE .lstrip (.v 0) [.g 0])<|.c<|.str "")]]
def Yg:List Str:=["SIGNS"]
noncomputable def JZ:List RS:=
 [.ite (.not<|.call 0 [.v 0]) [.fg 0 [(.c<|.str "a text is a str of signs from the blank to the tilde, and line feeds")]] []]
def Yh:List Str:=["is_text"]
def Yi:List Str:=["BadText"]
noncomputable def zj:List RS:=
 [.ite (.or [(.not (.ij .tuple (.v 0))),(.cmp .NotEq (.blt .len [.v 0]) (.c (.int 2)))]) [.ret (.c (.bl false))] [],
 .ite (.call 0 [(.ix (.v 0)<|.c<|.int 0),(.tup [(.c<|.str "keep")])]) [.ret<|.and [(.call 1 [(.ix (.v 0)<|.c<|.int 1)]),(.cmp .GtE (.ix (.v 0)<|.c<|.int 1)<|.c<|.int 1)]] [],
 .ret (.and [(.call 0 [(.ix (.v 0) (.c (.int 0))),(.tup [(.c (.str "cut")),(.c (.str "put"))])]),(.call 2 [(.ix (.v 0) (.c (.int 1)))]),(.cmp .NotEq (.ix (.v 0) (.c (.int 1))) (.c (.str "")))])]
def Yj:List Str:=["is_word","is_whole","is_text"]
def J0:List Str:=["isinstance","tuple","len"]
def J3:List Str:=["word","ahead"]
noncomputable def J4:List RS:=
 [.ret<|.and [(.cmp .NotEq (.v 0)<|.v 1),(.not<|.and [(.cmp .Eq (.v 1)<|.c<|.str "cut"),(.cmp .Eq (.v 0)<|.c<|.str "put")])]]
def J5:List Str:=["change","ahead","part"]
noncomputable def J6:List RS:=
 [.ite (.not (.ij .list (.v 0))) [.fg 0 [(.c (.str "a change is a list"))]] [],
 .asg 1 (.c<|.str ""),
 .jy 2 .list [.v 0] [.ite (.not (.call 0 [.v 2])) [.fg 0 [(.c (.str "a part is a keep of 1 sign or more, or a cut or put of a text that is not empty"))]] [],
  .ite (.not<|.call 1 [(.ix (.v 2)<|.c<|.int 0),.v 1]) [.fg 0 [(.c<|.str "neighbours have two words, and no put stands right behind a cut")]] [],
  .asg 1 (.ix (.v 2) (.c (.int 0)))]]
def Yk:List Str:=["is_part","may_follow"]
def J7:List Str:=["isinstance","list"]
def J8:List Str:=["BadChange"]
def J9:List Str:=["part"]
noncomputable def J_:List RS:=
 [.ret<|.kE (.cmp .Eq (.ix (.v 0)<|.c<|.int 0)<|.c<|.str "keep") (.ix (.v 0)<|.c<|.int 1)<|.blt .len [(.ix (.v 0)<|.c<|.int 1)]]
def l_:List Str:=["len"]
def Ka:List Str:=["change","over","gives"]
noncomputable def Kb:List RS:=
 [.drop (.call 0 [.v 0]),
 .asg 1 (.blt .sum [(.comp none [] .list [.v 0] (some<|.cmp .NotEq (.ix (.v 0)<|.c<|.int 0)<|.c<|.str "put")<|.call 1 [.v 0])]),
 .asg 2 (.blt .sum [(.comp none [] .list [.v 0] (some<|.cmp .NotEq (.ix (.v 0)<|.c<|.int 0)<|.c<|.str "cut")<|.call 1 [.v 0])]),
 .ret (.tup [.v 1,.v 2])]
def Yl:List Str:=["need_change","part_size"]
def Ym:List Str:=["sum"]
def Kc:List Str:=["change","size"]
noncomputable def Kd:List RS:=
 [.ite (.and [(.cmp .Gt (.blt .len [.v 0]) (.c (.int 0))),(.cmp .Eq (.ix (.ix (.v 0) (.neg (.c (.int 1)))) (.c (.int 0))) (.c (.str "keep")))]) [.asg 1 (.bin .Add (.v 1) (.ix (.bE .pop (.v 0) []) (.c (.int 1))))] [],
 .drop (.bE .append (.v 0) [(.tup [(.c (.str "keep")),.v 1])])]
def Ke:List Str:=["change","puts","cuts","put","cut"]
noncomputable def Kf:List RS:=
 [.asg 3 (.bE .join (.c (.str "")) [.v 1]),
 .asg 4 (.bE .join (.c<|.str "") [.v 2]),
 .ite (.cmp .NotEq (.v 3)<|.c<|.str "") [.drop<|.bE .append (.v 0) [(.tup [(.c<|.str "put"),.v 3])]] [],
 .ite (.cmp .NotEq (.v 4) (.c (.str ""))) [.drop (.bE .append (.v 0) [(.tup [(.c (.str "cut")),.v 4])])] []]
def Kg:List Str:=["parts","change","puts","cuts","word","what"]
noncomputable def Kh:List RS:=
 [.asg 1 (.lst []),
 .asg 2 (.lst []),
 .asg 3 (.lst []),
 .sV [4,5] .list [.v 0] [.ite (.cmp .Eq (.v 4) (.c (.str "put"))) [.drop (.bE .append (.v 2) [.v 5])] [.ite (.cmp .Eq (.v 4) (.c (.str "cut"))) [.drop (.bE .append (.v 3) [.v 5])] [.ite (.cmp .Gt (.v 5) (.c (.int 0))) [.drop (.call 0 [.v 1,.v 2,.v 3]),
     .asg 2 (.lst []),
     .asg 3 (.lst []),
     .drop (.call 1 [.v 1,.v 5])] []]]],
 .drop (.call 0 [.v 1,.v 2,.v 3]),
 .ret (.v 1)]
def Yn:List Str:=["add_texts","add_keep"]
def Ki:List Str:=["text","change","place","pieces","word","what"]
noncomputable def Kj:List RS:=
 [.drop (.call 0 [.v 0]),
 .ite (.cmp .NotEq (.ix (.call 1 [.v 1])<|.c<|.int 0)<|.blt .len [.v 0]) [.fg 0 [(.c<|.str "the change is over a text of another number of signs")]] [],
 .asg 2 (.c<|.int 0),
 .asg 3 (.lst []),
 .sV [4,5] .list [.v 1] [.ite (.cmp .Eq (.v 4) (.c (.str "put"))) [.drop (.bE .append (.v 3) [.v 5])] [.ite (.cmp .Eq (.v 4) (.c (.str "keep"))) [.drop (.bE .append (.v 3) [(.sl (.v 0) (some (.v 2)) (some (.bin .Add (.v 2) (.v 5))))]),
    .asg 2 (.bin .Add (.v 2) (.v 5))] [.ite (.not (.bE .starts (.v 0) [.v 5,.v 2])) [.fg 0 [(.c (.str "what is cut is not what stands there"))]] [.asg 2 (.bin .Add (.v 2) (.blt .len [.v 5]))]]]],
 .ret (.bE .join (.c (.str "")) [.v 3])]
def Yo:List Str:=["need_text","sizes"]
def vJ:List Str:=["BadFit"]
def Kk:List Str:=["_law_script","_law_k"]
noncomputable def Km:List RS:=
 [.ite (.cmp .Lt (.v 1) (.blt .len [.v 0])) [.ret (.ix (.v 0) (.v 1))] [],
 .ret (.c (.int 0))]
def Kn:List Str:=["_law_cell","_law_k","_law_number"]
noncomputable def Ko:List RS:=
 [.asg 2 (.bin .Mod (.bin .Add (.bin .Add (.bin .Mult (.v 0) (.c (.int 48271))) (.bin .Mult (.c (.int 7919)) (.v 1))) (.c (.int 11))) (.c (.int 1000003))),
 .ret (.bin .Mod (.bin .Mult (.bin .Mod (.bin .Mult (.v 2) (.v 2)) (.c (.int 1000003))) (.v 2)) (.c (.int 1000003)))]
def Dk:List Str:=["_law_cell","_law_size_here","_law_some"]
noncomputable def Kq:List RS:=
 [.asg 2 (.c (.str " !\"#$&'()*+,-./0123456789:;<=>?@ABCDEFGHIJKLMNOPQRSTUVWXYZ[\\]^_`")),
 .asg 2 (.bin .Add (.v 2)<|.c<|.str "abcdefghijklmnopqrstuvwxyz{|}~\n"),
 .ite (.cmp .Eq (.bin .Mod (.v 0)<|.c<|.int 3)<|.c<|.int 0) [.asg 2<|.c<|.str "ab\n"] [],
 .ret (.bE .join (.c (.str "")) [(.comp none [("_law_some",2),("_law_cell",0)] .fS [.v 1] none (.ix (.v 1) (.bin .Mod (.bin .FloorDiv (.call 0 [.v 2,.v 0]) (.c (.int 7))) (.blt .len [.v 1]))))])]
def Yp:List Str:=["_law_mixed"]
def Yq:List Str:=["range","len"]
def Kr:List Str:=["_law_parts_here","_law_rows","_law_word","_law_thing","_law_found","_law_put","_law_cut","_law_keep","_law_some"]
noncomputable def Ks:List RS:=
 [.asg 1 (.lst [(.lst [(.c (.str "")),(.c (.str "")),(.c (.int 0))])]),
 .sV [2,3] .list [.v 0] [.ite (.cmp .Eq (.v 2) (.c (.str "keep"))) [.set (.ix (.v 1) (.neg (.c (.int 1)))) (.c (.int 2)) (.bin .Add (.ix (.ix (.v 1) (.neg (.c (.int 1)))) (.c (.int 2))) (.v 3))] [.ite (.cmp .NotEq (.v 3) (.c (.str ""))) [.ite (.cmp .Gt (.ix (.ix (.v 1) (.neg (.c (.int 1)))) (.c (.int 2))) (.c (.int 0))) [.drop (.bE .append (.v 1) [(.lst [(.c (.str "")),(.c (.str "")),(.c (.int 0))])])] [],
    .set (.ix (.v 1) (.neg (.c (.int 1)))) (.blt .int [(.cmp .Eq (.v 2) (.c (.str "cut")))]) (.bin .Add (.ix (.ix (.v 1) (.neg (.c (.int 1)))) (.blt .int [(.cmp .Eq (.v 2) (.c (.str "cut")))])) (.v 3))] []]],
 .asg 4 (.lst []),
 .sV [5,6,7] .list [.v 1] [.asg 8 (.lst [(.tup [(.c (.str "put")),.v 5]),(.tup [(.c (.str "cut")),.v 6]),(.tup [(.c (.str "keep")),.v 7])]),
  .asg 4 (.bin .Add (.v 4) (.comp none [] .list [.v 8] (some (.and [(.cmp .NotEq (.ix (.v 0) (.c (.int 1))) (.c (.str ""))),(.cmp .NotEq (.ix (.v 0) (.c (.int 1))) (.c (.int 0)))])) (.v 0)))],
 .ret (.v 4)]
def Yr:List Str:=["int"]
def Kt:List Str:=["thing","least","most"]
noncomputable def Ku:List RS:=
 [.ret<|.and [(.call 0 [.v 0]),(.vq .LtE .LtE (.v 1) (.v 0)<|.v 2)]]
def Ys:List Str:=["is_whole"]
def Kv:List Str:=["self","change"]
noncomputable def Kw:List RS:=
 [.bS (.v 0) "parts" (.blt .list [.v 1]),
 .bS (.v 0) "passed_by" (.c<|.int 0),
 .bS (.v 0) "offset" (.c (.int 0))]
def tD:List Str:=["list"]
def ip:List Str:=["self"]
noncomputable def Kx:List RS:=
 [.ret<|.kE (.cmp .Lt (.fld (.v 0) "passed_by")<|.blt .len [(.fld (.v 0) "parts")]) (.ix (.ix (.fld (.v 0) "parts")<|.fld (.v 0) "passed_by")<|.c<|.int 0)<|.c<|.str ""]
noncomputable def Ky:List RS:=
 [.ret<|.bin .Sub (.call 0 [(.ix (.fld (.v 0) "parts")<|.fld (.v 0) "passed_by")])<|.fld (.v 0) "offset"]
def Kz:List Str:=["part_size"]
def KA:List Str:=["self","size","part","begin","end"]
noncomputable def Dl:List RS:=
 [.asg 2 (.ix (.fld (.v 0) "parts") (.fld (.v 0) "passed_by")),
 .asg 3 (.fld (.v 0) "offset"),
 .asg 4 (.bin .Add (.v 3)<|.v 1),
 .bS (.v 0) "offset" (.v 4),
 .ite (.cmp .Eq (.aS 0 "left" (.v 0) []) (.c (.int 0))) [.bS (.v 0) "passed_by" (.bin .Add (.fld (.v 0) "passed_by") (.c (.int 1))),
  .bS (.v 0) "offset" (.c (.int 0))] [],
 .ret (.tup [(.ix (.v 2) (.c (.int 0))),(.kE (.cmp .Eq (.ix (.v 2) (.c (.int 0))) (.c (.str "keep"))) (.v 1) (.sl (.ix (.v 2) (.c (.int 1))) (some (.v 3)) (some (.v 4))))])]
def Yt:List Str:=["left"]
def KC:List Str:=["walk","putting","keeping","part"]
noncomputable def KD:List RS:=
 [.asg 3 (.aS 0 "take" (.v 0) [(.aS 1 "left" (.v 0) [])]),
 .drop (.bE .append (.v 1) [.v 3]),
 .drop (.bE .append (.v 2) [(.tup [(.c (.str "keep")),(.call 0 [.v 3])])])]
def Yu:List Str:=["take","left"]
def KG:List Str:=["first","second","ones","others"]
noncomputable def KH:List RS:=
 [.ite (.and [(.cmp .Eq (.ix (.v 0) (.c (.int 0))) (.c (.str "cut"))),(.cmp .Eq (.ix (.v 1) (.c (.int 0))) (.c (.str "cut")))]) [.ite (.cmp .NotEq (.ix (.v 0) (.c (.int 1))) (.ix (.v 1) (.c (.int 1)))) [.fg 0 [(.c (.str "both changes cut a sign, and tell it otherwise"))]] []] [.ite (.cmp .Eq (.ix (.v 1) (.c (.int 0))) (.c (.str "keep"))) [.drop (.bE .append (.v 2) [.v 0]),
   .ite (.cmp .Eq (.ix (.v 0) (.c (.int 0))) (.c (.str "keep"))) [.drop (.bE .append (.v 3) [.v 1])] []] [.drop (.bE .append (.v 3) [.v 1])]]]
def KI:List Str:=["one","other","first","second","ones","others","size"]
noncomputable def KJ:List RS:=
 [.ite (.cmp .NotEq (.ix (.call 0 [.v 0]) (.c (.int 0))) (.ix (.call 0 [.v 1]) (.c (.int 0)))) [.fg 0 [(.c (.str "the changes are over unlike numbers of signs"))]] [],
 .asg 2 (.make 0 [.v 0]),
 .asg 3 (.make 0 [.v 1]),
 .asg 4 (.lst []),
 .asg 5 (.lst []),
 .qG (.or [(.cmp .NotEq (.aS 0 "word" (.v 2) []) (.c (.str ""))),(.cmp .NotEq (.aS 0 "word" (.v 3) []) (.c (.str "")))]) [.ite (.cmp .Eq (.aS 0 "word" (.v 2) []) (.c (.str "put"))) [.drop (.call 1 [.v 2,.v 4,.v 5])] [.ite (.cmp .Eq (.aS 0 "word" (.v 3) []) (.c (.str "put"))) [.drop (.call 1 [.v 3,.v 5,.v 4])] [.asg 6 (.blt .min [(.aS 1 "left" (.v 2) []),(.aS 1 "left" (.v 3) [])]),
    .drop (.call 2 [(.aS 2 "take" (.v 2) [.v 6]),(.aS 2 "take" (.v 3) [.v 6]),.v 4,.v 5])]]],
 .ret (.tup [(.call 3 [.v 4]),(.call 3 [.v 5])])]
def Yv:List Str:=["sizes","put_first","share","neat"]
def KL:List Str:=["min"]
def Yw:List Str:=["word","left","take"]
def KN:List Str:=["Walk"]
def KO:List Str:=["given","text"]
noncomputable def KP:List RS:=
 [.ite (.cmp .Eq (.ix (.v 0) (.c (.int 0))) (.c (.str "keep"))) [.ret (.lst [(.tup [(.c (.str "cut")),.v 1])])] [],
 .ite (.cmp .NotEq (.ix (.v 0)<|.c<|.int 1)<|.v 1) [.fg 0 [(.c<|.str "what the first change puts is cut otherwise")]] [],
 .ret (.lst [])]
def KQ:List Str:=["walk","part","parts","place","size","given"]
noncomputable def KR:List RS:=
 [.asg 2 (.lst []),
 .asg 3 (.c<|.int 0),
 .qG (.cmp .Lt (.v 3) (.call 0 [.v 1])) [.ite (.cmp .Eq (.aS 0 "word" (.v 0) []) (.c (.str "cut"))) [.drop (.bE .append (.v 2) [(.aS 1 "take" (.v 0) [(.aS 2 "left" (.v 0) [])])]),
   .cont] [],
  .asg 4 (.blt .min [(.aS 2 "left" (.v 0) []),(.bin .Sub (.call 0 [.v 1])<|.v 3)]),
  .asg 5 (.aS 1 "take" (.v 0) [.v 4]),
  .ite (.cmp .Eq (.ix (.v 1)<|.c<|.int 0)<|.c<|.str "keep") [.drop<|.bE .append (.v 2) [.v 5]] [.drop<|.bE .extend (.v 2) [(.call 1 [.v 5,(.sl (.ix (.v 1)<|.c<|.int 1) (some<|.v 3)<|some<|.bin .Add (.v 3)<|.v 4)])]],
  .asg 3 (.bin .Add (.v 3) (.v 4))],
 .ret (.v 2)]
def Yx:List Str:=["part_size","cut_behind"]
def KS:List Str:=["word","take","left"]
def KU:List Str:=["one","other","walk","parts","part"]
noncomputable def KW:List RS:=
 [.ite (.cmp .NotEq (.ix (.call 0 [.v 0]) (.c (.int 1))) (.ix (.call 0 [.v 1]) (.c (.int 0)))) [.fg 0 [(.c (.str "the other change is over another number of signs than the first one gives"))]] [],
 .asg 2 (.make 0 [.v 0]),
 .asg 3 (.lst []),
 .jy 4 .list [.v 1] [.ite (.cmp .Eq (.ix (.v 4)<|.c<|.int 0)<|.c<|.str "put") [.drop<|.bE .append (.v 3) [.v 4]] [.drop<|.bE .extend (.v 3) [(.call 1 [.v 2,.v 4])]]],
 .qG (.cmp .NotEq (.aS 0 "word" (.v 2) [])<|.c<|.str "") [.drop<|.bE .append (.v 3) [(.aS 1 "take" (.v 2) [(.aS 2 "left" (.v 2) [])])]],
 .ret (.call 2 [.v 3])]
def Yy:List Str:=["sizes","parts_behind","neat"]
structure oX (K:Frag) (C:Addr):Prop where
 cl:e9 K C
 vK:eE K C "parts"
 qQ:eE K C "passed_by"
 vL:eE K C "offset"
end L2.B
namespace L2
open PySem PySem.Spec PyProof.Rows
section
variable {X:Cx}
end
def vM:List (TE×TE)->St->Hp->(List (V×V)->Hp->Prop)->Prop
 |[],_,H,Q=>Q [] H
 |(k,t)::r,σ,H,Q=>k σ H λx H1=>t σ H1 λy H2=>vM r σ H2 λps b=>Q ((x,y)::ps) b
abbrev VV:List (V×V)->List (Value×Value)->Prop:=Paired λp q=>RelV p.1 q.1/\RelV p.2 q.2
def oY(X:Cx)(c:Pos)(k:List (Option Expr))(b:List Expr)(d:List (TE×TE)):Prop:=
 ∀(p:List (Addr×Obj)) (s:Shared) (σ:St) (H:Hp) (Q:List (V×V)->Hp->Prop),Inv X p σ H s->vM d σ H Q->
  wpAny (model X.prog X.w) X.A (evalPairs<|pairTrees k b X.env c) (λvs s'=>∃ps H',Inv X p σ H' s'/\VV ps vs/\Q ps H') X.xe s
theorem Yz{p:Pos}:oY X p [] [] []:=λb s σ H Q I h=>pairTrees_nil_walk ⟨[],H,I,.nil,h⟩
theorem YA{b:Pos}{k v:Expr}{e:List (Option Expr)}{vs:List Expr}{c t:TE}{d:List (TE×TE)}(N:PE X k c)(G:PE X v t)(K:oY X b e vs d):
  oY X b (some k::e) (v::vs) ((c,t)::d):=λp s σ H Q I h=>
 pairTrees_cons_walk (aL (N p s σ H _ I h) λu g ⟨x,H1,S,q,D⟩=>aL (G p g σ H1 _ S D) λZ f ⟨y,H2,R,m,A⟩=>
  aL (K p f σ H2 _ R A) λV s3 ⟨E,T,P,l,w⟩=>⟨(x,y)::E,T,P,.cons ⟨q,m⟩ l,w⟩)
def jZ(k m:List (Key×V)):List (Key×V):=m.foldl (λc b=>putK c b.1 b.2) k
theorem KV.merge:∀{m:List (Key×V)}{b:List (Key×Value)}{k:List (Key×V)}{vs:List (Key×Value)},KV m b->KV k vs->KV (jZ k m) (merged vs b):=by
 intro m b k vs r
 induction r generalizing k vs with
 |nil=>intro q;exact q
 | @cons p q g f h t d=>
  intro c;have e:KV (putK k p.1 p.2) (stored vs q.1 q.2):=by
   have:=c.put p.1 h.2;rw[<-h.1];exact this
  exact d e
theorem KY:∀(m k:List (Key×V)),(jZ k m).length<=k.length+m.length
 |[],k=>by show k.length<=k.length+0;omega
 |p::r,k=>by
  have b:=KY r (putK k p.1 p.2);have h:=yA k p.1 p.2;show(jZ (putK k p.1 p.2) r).length<=_;rw[zaz];omega
theorem KZ{w:World}:∀{k:List (Key×V)}{e:List (Value×Value)},VV (k.map λf=>(kV f.1,f.2)) e->∃d,Carries (e8 P w) e d/\KV k d
 |[],_,r=>by cases r;exact⟨[],True.intro,.nil⟩
 |p::k,_,r=>by
  cases r with
  | @cons a b as l h t=>
   obtain⟨d,c,q⟩:=KZ t;obtain⟨m,g⟩:=b;exact⟨(p.1,g)::d,⟨qA h.1,rfl,c⟩,.cons ⟨rfl,h.2⟩ q⟩
def Dm(c:List (TE×TE)):TE:=λσ H Q=>∀p,H p=none->vM c σ (upd H p<|.dK []) λps H2=>H2 p=some (.dK [])/\∃k:List (Key×V),ps=k.map (λb=>(kV b.1,b.2))/\k.length<=15/\Q (.ref p) (upd H2 p<|.dK<|jZ [] k)
theorem YB{p:Pos}{k:List (Option Expr)}{b:List Expr}{g:List (TE×TE)}(h:oY X p k b g)(E:k.all (·.isSome)=true)(P:k.length=b.length)(Z:k≠ [])
  (YC:k.length<=15):PE X (.Dict k b p) (Dm g):=by
 intro d s σ H Q I q;refine wpAny_Dict_walk (knd:=e8 X.prog X.w) E P Z YC<|aL (h d _ σ _ _ (I.laid (λ_ _ q=>Heap.get?_push_of_some _ q) (zqR _) (Iy s.heap I.big))<|q _ (I.aG.fresh (zqR s.heap.objs.size))) λws s2 ⟨ps,H2,m,l,e,f,ep,lk,D⟩=>?_;subst ep;obtain⟨u,c,x⟩:=KZ l;obtain⟨z,S,t,A,dd⟩:=yB m.aG e;cases A;refine⟨u,c,dd,λh' V K=>⟨.ref s.heap.objs.size,_,?_,rfl,D⟩⟩;have G:(jZ [] f).length<=sizeLine:=by
  have T:=KY f [];rw[zbf] at T;rw[sizeLine_eq];omega
 have R:∃q,h'.get? s.heap.objs.size=some q:=let ⟨q,_,_,N,_⟩:=V;⟨q,N⟩;exact yC m (e▸True.intro) K R<|Cd G S (x.merge .nil) V
def qR:List (Key×V)->List V
 |[]=>[]
 |k::r=>kV k.1::k.2::qR r
def qS:List (V×V)->List V
 |[]=>[]
 |p::r=>p.1::p.2::qS r
def tE:Frag->TA->TE:=λ_ t σ H Q=>∀p,H p=none->t σ (upd H p<|.dK []) λvs H2=>H2 p=some (.dK [])/\∃k:List (Key×V),vs=qR k/\k.length<=15/\Q (.ref p) (upd H2 p<|.dK<|jZ [] k)
def oZ(Γ:aQ):List RE->List (TE×TE)
 |a::b::r=>(ag Γ a,ag Γ b)::oZ Γ r
 |_=>[]
theorem Dp{σ:St}:∀(d:List RE) (H:Hp) (Q:List V->Hp->Prop),d.length % 2=0->bu Γ d σ H Q=vM (oZ Γ d) σ H λps H2=>Q (qS ps) H2
 |[],H,Q,_=>rfl
 |[a],H,Q,e=>absurd e (by simp)
 |a::b::r,H,Q,e=>by
  have f:r.length % 2=0:=by
   have:(r.length+1+1) % 2=0:=e;lia
  show(ag Γ a σ H λx H1=>ag Γ b σ H1 λy H2=>bu Γ r σ H2 λvs c=>Q (x::y::vs) c)=ag Γ a σ H λx H1=>ag Γ b σ H1 λy H2=>vM (oZ Γ r) σ H2 λps c=>Q (x::y::qS ps) c
  congr 1
  funext x H1
  congr 1
  funext y H2
  exact Dp r H2 (λvs c=>Q (x::y::vs) c) f
theorem zk:∀(ps:List (V×V)) (b:List (Key×V)),qS ps=qR b↔ps=b.map λk=>(kV k.1,k.2)
 |[],[]=>⟨λ_=>rfl,λ_=>rfl⟩
 |[],k::r=>⟨nofun,nofun⟩
 |p::ps,[]=>⟨nofun,nofun⟩
 |p::ps,k::r=>by
  constructor
  ·intro h;have d:=(zbo h).1;have c:=(zbo (zbo h).2).1;rw[((zk ps r).mp (zbo (zbo h).2).2),zav,<-d,<-c]
  ·intro h;obtain⟨d,c⟩:=zbo h;show p.1::p.2::qS ps=kV k.1::k.2::qR r;rw[(zk ps r).mpr c,d]
theorem YD{K:Frag}(c:List RE)(e:c.length % 2=0):tE K (bu Γ c)=Dm (oZ Γ c):=by
 funext σ H Q
 apply propext
 constructor
 ·intro h p f;have:=h p f;rw[Dp c _ _ e] at this;have g:(fun(b:List (V×V)) (H2:Hp)=>H2 p=some (.dK [])/\∃k:List (Key×V),qS b=qR k/\k.length<=15/\Q (.ref p) (upd H2 p<|.dK<|jZ [] k))=λb H2=>H2 p=some (.dK [])/\∃k:List (Key×V),b=k.map (λd=>(kV d.1,d.2))/\k.length<=15/\Q (.ref p) (upd H2 p<|.dK<|jZ [] k):=by
   simp only[zk]
  rw[g] at this;exact this
 ·intro h p f;have:=h p f;rw[Dp c _ _ e];have g:(fun(b:List (V×V)) (H2:Hp)=>H2 p=some (.dK [])/\∃k:List (Key×V),qS b=qR k/\k.length<=15/\Q (.ref p) (upd H2 p<|.dK<|jZ [] k))=λb H2=>H2 p=some (.dK [])/\∃k:List (Key×V),b=k.map (λd=>(kV d.1,d.2))/\k.length<=15/\Q (.ref p) (upd H2 p<|.dK<|jZ [] k):=by
   funext b H2
   simp only[zk]
  rw[g];exact this
section
variable {CX:cW}{S:df}{Γ:aQ}{X:Cx}{pos:Pos}{k v:Expr}{ks:List (Option Expr)}{vs:List Expr}{rk rv:RE}{rs:List RE}
theorem YE:oY X pos [] [] (oZ Γ []):=Yz
theorem zl(c:PE X k (ag Γ rk))(b:PE X v (ag Γ rv))(h:oY X pos ks vs (oZ Γ rs)):oY X pos (some k::ks) (v::vs) (oZ Γ (rk::rv::rs)):=YA c b h
def K0(b:List (Option Expr))(c:List Expr)(rs:List RE):Bool:=b.all (·.isSome) && decide (b.length=c.length) && decide (b.length≠0) && decide (b.length<=15) && decide (rs.length % 2=0)
theorem YF(p:oY X pos ks vs (oZ Γ rs))(h:K0 ks vs rs=true:=by kernel_rfl):PE X (.Dict ks vs pos) (ag Γ<|.xt tE rs):=by
 simp only[K0,zag,decide_eq_true_eq] at h
 obtain⟨⟨⟨⟨f,e⟩,d⟩,c⟩,b⟩:=h;show PE X _ (tE Γ.K<|bu Γ rs);rw[YD rs b];exact YB p f e (λz=>d (z▸rfl)) c
variable {a:Expr}{p q:Pos}{ra r:RE}
theorem YG{o:Expr}{f:Str}{p:Pos}{l:Nat}{env:Env}:swapsWith v (some<|.Attribute o f p) l env=pure false:=by
 cases v<;>rfl
theorem YH(G:eF CX S Γ X)(h:PE X a (ag Γ ra))(e:PE X v (ag Γ r)):PS X (.Assign [.Attribute a f p] v q) (cX Γ<|.bS ra f r):=by
 show PS X _ (yk Γ.K (ag Γ ra) (ag Γ r) f);rw[<-G.K];exact HC h e (by exact YG)
end
end L2
namespace L2
open PySem PySem.Spec PyProof.Rows PySem.W
end L2
namespace L2
open PySem PySem.Spec PyProof.Rows
section
variable {X:Cx}
theorem YI{a':List Stmt}{T:Stmt}{Dq:List Stmt}{tb:XK->TS}{th:Addr->TS}{np zm i':Pos}(ox:X.stack=X.env::X.outer)(vA:X.env.frame=some X.env.locals)(m':X.ex=[])
  (CW:Gl X x) (hd:(x==("__debug__":Str))=false) (qx:X.mg x=some (.ref C))
  (hb:∀(pn:List (Addr×Obj)) (xe:Value->Shared->Prop) (E:XK),PassesOwn (model X.prog X.w) X.A X.env xe->Passes (gL X.prog X.w) (X.alt X.A X.calm pn xe) E->eR (X.alt X.A X.calm pn xe) a' (tb E))
  (hh:∀(g:Addr) (pn:List (Addr×Obj)),eR (X.alt (X.A.mark<|some<|.ref g) false pn λ_ _=>False) (T::Dq)<|th g):
  PS X (.Try a' [.ExceptHandler (some<|.Name x np) none (T::Dq) zm] [] [] i') (yO X.K C X.N.length X.N.length tb th):=by
 intro d s σ H D I h;refine wpAny_Try_except ?_;have P1:Passes (gL X.prog X.w) (X.alt X.A X.calm (X.pn++d) λe f'=>wpAny (model X.prog X.w) X.A (noteFrame e X.env) (λ_ d'=>wpAny (model X.prog X.w) X.A (setFlight e none) (λ_ c'=>wpAny (model X.prog X.w) X.A (handleBy e X.env [.ExceptHandler (some<|.Name x np) none (T::Dq) zm]) (SP X d D) X.xe c') X.xe d') X.xe f') (Je X.K C X.N.length X.N.length th D):=by
  intro R k H1 s1 e' P I1 hx;obtain⟨g,m,t,c,H',zq⟩:=qx5 hx;obtain⟨rfl,os,b',u,aG,fl,vz,i_,c1,c2,hm,YJ⟩:=qa12 zq;have YK:X.A.frames=some (X.env::X.outer):=by rw[I.ok.frames,ox]
  have l':Heap.FlyingW c (X.env::X.outer) g m (.ref t) P.heap:=by rw[<-ox];exact fl
  refine wpAny_mono (vy Jv vz<|wpAny_looks_onW (Q:=λ_ iG=>∃S,iG={P with heap:=S}/\Heap.HeldW c (X.env::X.outer) g m (.ref t) X.env.locals S/\P.heap.UpToSlots S) (E:=λ_ _=>False) YK vA l' λh4 Dr Ds=>⟨h4,rfl,Dr,Ds⟩)
   (λ_ s4 hq=>?_) (λ_ _ z=>z.1.elim)
  obtain⟨⟨h4,rfl,Dr,Ds⟩,YL⟩:=hq;refine wpAny_mono (vy CK YL<|wpAny_landsW (Q:=λ_ iG=>∃S,iG={P with heap:=S}/\Heap.FlyingW c (X.env::X.outer) g m (.ref t) S/\h4.UpToSlots S) (E:=λ_ _=>False) Dr λh5 tF Dt=>⟨h5,rfl,tF,Dt⟩)
   (λ_ s5 hq=>?_) (λ_ _ z=>z.1.elim)
  obtain⟨⟨h5,rfl,YM,Dt⟩,YN⟩:=hq;have tF:Heap.FlyingW c X.stack g m (.ref t) h5:=by rw[ox];exact YM
  obtain⟨u5,K1,YO,YQ⟩:=qa4 (Jy (l:=X.stack) u aG fl.2.2.1 c1 c2 tF.1 (Ds.trans Dt));obtain⟨oe,ws,YR,YS,r',p'⟩:=tF.first
  have I5:=I1.BG (s':={P with heap:=h5}) (ch:=[]) os u5 K1 b' (λb z=>absurd z zaf)
  refine wpAny_handleBy_cons (codeAny_handlers_test ?_) (by intro q;cases q)
  have uV:Inv (X.alt (X.A.mark<|some<|.ref g) false (X.pn++d) λ_ _=>False) [] k H' {P with heap:=h5}:=I5.alt (calm':=false) (pn':=X.pn++d) (pins':=[]) rfl (λz=>nomatch z) (λp G=>zab.mpr<|.inl (by rw[zac] at G;exact G))
  refine xZ uV CW qx ?_ hd;have LT:PySem.W.Looks (model X.prog X.w) h5 (typeOf<|.ref g) m:=by
   subst YS;exact(PySem.W.Looks.ld YR).andThen .now
  refine(PySem.W.exm_one I5.dU LT hm).here ?_;refine codeAny_handlers_suite ?_;refine wpAny_mono (vy CK YN<|lands_againW (Q:=λ_ iG=>∃S,iG={P with heap:=S}/\Heap.FlyingW c X.stack g m (.ref t) S/\h5.UpToSlots S) (E:=λ_ _=>False) tF λh6 tG Du=>⟨h6,rfl,tG,Du⟩)
   (λ_ s6 hq=>?_) (λ_ _ z=>z.1.elim)
  obtain⟨⟨h6,rfl,tG,Du⟩,YT⟩:=hq;obtain⟨u6,YU,n',YV⟩:=qa4 (Jy (l:=X.stack) u5 K1 tF.2.2.1 YO YQ tG.1 Du);obtain⟨tH,K2,zq⟩:=qx2 tG.first;obtain⟨zo,YW,Dv,_⟩:=qa4 zq
  have YX:yN tH m K2:=by
   obtain⟨o',bT,q1,q2,q3,q4⟩:=YT;have ma:h6.get? g=some o':=q1;rw[zo] at ma;cases ma;rw[Dv] at q2;cases q2;exact⟨YW,Dv,q3,q4⟩
  have j':s1.heap.get? g=none:=by
   cases q:s1.heap.get? g with
   |none=>rfl
   |some o1=>
    by_cases K3:g∈bI X.stack
    ·obtain⟨o2,gf,k'⟩:=(tG.2.2.1.mem K3).2;rw[zo] at gf;cases gf;exact(k' _ Dv).elim
    ·have:=YV g o1 q K3 tH zo;rw[tG.2.1] at this;cases this
  have u7:Un (bI X.stack) [] H1 (upd H' g (.cw tH qF)) s1.heap h6:=⟨u6.keep,u6.slot,λb o q n hx=>by
    rw[ax (λz=>by rw[z,j'] at q;cases q)];exact u6.free b o q n hx,u6.there,λb xs q=>by
    have Z:=u6.dS b xs q;rw[ax<|aM Z i_];exact Z,λb o v q=>by
    have Z:=u6.ic b o v q;rw[ax<|aM Z i_];exact Z,λb ps q=>by
    obtain⟨g',Z⟩:=u6.iD b ps q;exact⟨g',by rw[ax (aM Z i_)];exact Z⟩⟩
  have YY:=YU.more i_ (W_ zo);have I7:=I1.BG (s':={P with heap:=h6}) (ch:=[]) os u7 YY b' (λb z=>absurd z zaf)
  have I8:Inv (X.alt (X.A.mark<|some<|.ref g) false (X.pn++d) λ_ _=>False) [] k (upd H' g<|.cw tH qF) {P with heap:=h6}:=I7.alt (calm':=false) (pn':=X.pn++d) (pins':=[]) rfl (λz=>nomatch z) (λp G=>zab.mpr<|.inl (by rw[zac] at G;exact G))
  refine wpAny_mono (hh g (X.pn++d) [] _ _ _ {nx:=λ_ _=>False,rt:=D.rt} I8 (by have z:=YJ g tH K2 k i_ I1.len YX;rw[List.set_eq_of_length_le (show k.length<=X.N.length from zbm I1.len)] at z;exact z)) (λf j0 V=>?_) λ_ _ z=>z.elim
  cases f with
  |next=>obtain⟨_,_,_,z⟩:=V;exact z.elim
  |brk=>obtain⟨_,_,_,z⟩:=V;exact z.elim
  |cont=>obtain⟨_,_,_,z⟩:=V;exact z.elim
  |ret v=>
   obtain⟨v',YZ,tI,zq⟩:=qx3 V;obtain⟨Y0,r,q⟩:=qa3 zq;have Y1:Inv X d YZ tI j0:=Y0.CZ I.ok (λp G=>by simpa using G)
   exact⟨v',_,tI,Y1,r,q⟩
 refine wpAny_mono (hb _ _ _ PassesOwn.looking P1 [] s σ H {nx:=D.nx,rt:=D.rt} (I.alt rfl I.ok.hd (λp G=>by simpa using G)) h) (λf s1 V=>?_) λe' P hx=>hx
 cases f with
 |next=>
  obtain⟨k,H',I',q⟩:=V;exact GZ d s1 k H' D (I'.CZ I.ok (λp G=>by simpa using G)) q
 |brk=>obtain⟨_,_,_,z⟩:=V;exact z.elim
 |cont=>obtain⟨_,_,_,z⟩:=V;exact z.elim
 |ret v=>
  obtain⟨v',k,H',I',r,q⟩:=V;exact⟨v',k,H',I'.CZ I.ok (λp G=>by simpa using G),r,q⟩
variable {CX:cW}{S:df}{Γ:aQ}{e:Expr}{es:List Expr}{x:Str}{p q pos:Pos}{r:RE}{rs:List RE}{i j:Nat}
theorem Y2{c m:List Stmt}{b:Stmt}{k g:List RS}(G:eF CX S Γ X)(h:kG S j x=true)(w:decide (S.N.length=n)=true)
  (hb:∀{Γ:aQ}{X:Cx},eF CX (tS S) Γ X->eR X c (aE Γ k)) (hs:∀{Γ:aQ}{X:Cx},eF CX (hS S) Γ X->eR X (b::m) (aE Γ g)):
  PS X (.Try c [.ExceptHandler (some<|.Name x np) none (b::m) zm] [] [] pos) (cX Γ<|.Cw n n j k g):=by
 simp only[kG,zag,decide_eq_true_eq,zaZ] at h w
 obtain⟨u,V,t⟩:=G.fD j x h.1.1;intro d s σ H D I q;obtain⟨C,e,q⟩:=(show ∃C,Γ.gv j=.ref C/\yO Γ.K C n n (λE=>aE {Γ with E:=E} k) (λf=>aE {Γ with E:=E0,hv:=some f} g) D σ H from q)
 rw[e] at t;subst t;have Z:=G.N▸w
 have P:yO X.K C X.N.length X.N.length (λE=>aE {Γ with E:=E} k) (λf=>aE {Γ with E:=E0,hv:=some f} g) D σ H:=by rw[G.K,Z];exact q
 exact YI G.kr G.iK G.tq (G.gl h.1.2) h.2 V
  (λl A E T R=>hb<|G.Yc l A E T R) (λf l=>hs<|G.held f l) d s σ H D I P
end
end L2
open PySem PySem.Spec PyProof.Rows
namespace L2
def Dw(K:Frag):List V->Hp->VK->Prop:=λxs H Q=>∃p k,xs=[.ref p]/\H p=some (.dK k)/\∀l,H l=none->Q (.ref l) (upd H l<|.dK k)
section
variable {X:Cx}
theorem Y4:dD X (.type "dict") (Dw X.K):=by
 intro d s σ H xs G Q I r h;obtain⟨p,k,rfl,t,q⟩:=h;obtain⟨u,rfl,g⟩:=vals1 r;cases g;obtain⟨l,A,vs,f,E⟩:=yB I.aG t;have N:=f.length;refine kt_call_dict A E (by lia) λD x m=>?_
 have c:cM X.prog X.w (upd H s.heap.objs.size<|.dK k) D s.heap.objs.size (.dK k):=⟨l,(Iy (P:=X.prog) (w:=X.w) (H:=H) s.heap I.big).2.1,vs,f,x⟩;exact⟨.ref s.heap.objs.size,_,I.laid (λb o e=>(m.2 b<|zao<|Heap.lt_size e).trans<|Heap.get?_push_of_some _ e) (zqR _) c,rfl,q _<|I.aG.fresh<|zqR _⟩
end
theorem Y5:bootBuiltins "dict"=some (.type "dict"):=rfl
def Dy:Frag->TA->TE:=λK t=>jT (Dw K) t
section
variable {CX:cW}{S:df}{Γ:aQ}{X:Cx}{e:Expr}{es:List Expr}{x:Str}{p pos:Pos}{r:RE}{rs:List RE}
theorem Y6(G:Good CX S Γ X)(A:PA X (e::es) (bu Γ (r::rs)))(h:kB S x "dict"=true:=by kernel_rfl)(b:iL (e::es)=true:=by kernel_rfl)(q:S.md=0:=by rfl):PE X (.Call (.Name x p) (e::es) [] pos) (ag Γ<|.xt Dy (r::rs)):=by
 simp only[kB,zag,decide_eq_true_eq] at h
 obtain⟨⟨rfl,d⟩,c⟩:=h;exact HN Y4 (G.gl d) (G.jb _ c) Y5 A (by decide) (rfl) (fE (gZ b).1)<|nh _ _ es (gZ b).2
end
end L2
namespace L2
open PySem PySem.Spec PyProof.Rows PySem.W
def K4(a:Addr):List V->Hp->VK->Prop
 |[y]=>λH Q=>∃b k v,H a=some (.dK b)/\y=kV k/\cN b k=some v/\Q v (upd H a<|.dK<|gj b k)
 |_=>λ_ _=>False
def zq:Frag->TE->TA->TE:=λ_ t b σ H Q=>t σ H λx H1=>∃a,x=.ref a/\yD H1 a/\b σ H1 λys H2=>K4 a ys H2 Q
section
variable {CX:cW}{S:df}{Γ:aQ}{X:Cx}{e o:PySem.Expr}{x:Str}{ap pos:Pos}{r ro:RE}
theorem Y7(G:Good CX S Γ X)(R:PE X o (ag Γ ro))(T:PE X e (ag Γ r))(h:kM o "pop" x 1 ap pos=true:=by kernel_rfl)(b:iL [e]=true:=by kernel_rfl):PE X (.Call (.Attribute o x ap) [e] [] pos) (ag Γ<|.xm zq ro [r]):=by
 simp only[kM,zag,decide_eq_true_eq] at h
 obtain⟨⟨⟨rfl,Z⟩,V⟩,h4⟩:=h;intro p s σ H Q I q;have Y8:((backTo pos<|starEach [e] X.env).all (λx=> !x.1) && (backToKw pos<|keywordEach [] X.env).all (λx=>x.1.isSome) && decide (([e]:List PySem.Expr).length+([]:List Keyword).length+(if ([]:List Keyword).isEmpty then 0 else 1) <30))=true:=by rw[y3 _ _ [e] b];rfl
 have t:backTo pos (starEach [e] X.env)=[(false,eval e X.env)]:=by rw[fE (gZ b).1];rfl
 refine wpAny_Call_method (oF Z) Y8 V PySem.F.plainAttrs_dict PySem.F.slot_dict_pop PySem.F.type_dict_pop<|aL (R p s σ H _ I q) λu A w=>?_;obtain⟨x,H1,c,E,a,ex,d,N⟩:=w;subst ex;cases (show u=Value.ref a from E)
 obtain⟨m,g,_⟩:=Vk c d;refine⟨m,g,?_⟩;rw[t];refine Calls.callWith_builtin rfl<|Calls.evalArgs_plain<|Calls.spliced_cons<|aL (T p A σ H1 _ c N) λiv s2 f=>Calls.spliced_nil ?_;obtain⟨y,H2,I2,D,P,k,v,ea,ey,l,K⟩:=f;subst ey;exact Vb I2 ea D l (.inl rfl) λw' s3 I3 gW=>⟨v,_,I3,gW,K⟩
end
end L2
namespace L2.fG
open PySem PySem.Spec PyProof.Rows L2.B
def br(i:Nat):Stmt:=(PySem.Challenge.pw_inkloom_k38_whole_all_meet.main.body).getD i (.Pass ⟨0,0,0,0⟩)
structure me (K:Frag) (C:Addr):Prop where
 cl:e9 K C
 jC:eE K C "signs"
 tJ:eE K C "serials"
 vO:eE K C "changes"
 Dz:eE K C "makers"
structure iq (K:Frag) (C:Addr):Prop where
 cl:e9 K C
 jC:eE K C "signs"
 mf:eE K C "known"
 tK:eE K C "serial"
 iN:eE K C "flying"
 j4:eE K C "delayed"
 qT:eE K C "early"
structure iO (K:Frag) (C:Addr):Prop where
 cl:e9 K C
 vP:eE K C "number"
 kN:eE K C "stand_now"
def K5:Stmt:=br 10
abbrev fX(s:Stmt)(k:Nat):Stmt:=(gH s).getD k (.Pass ⟨0,0,0,0⟩)
abbrev fY(b:List RS)(k:Nat):RS:=b.getD k (.ret<|.c .av)
abbrev MX(N:List Str)(s:Stmt)(f g l m kn e h:List Str)(b:List RS)(d:Nat):Prop:= ∀{CX:cW}{Γ:aQ}{X:Cx},eF CX (zh N (gI s) f g l m kn e h d) Γ X->eR X (gH s) (aE Γ b)
abbrev MY(N:List Str)(s:Stmt)(f g l m kn e h:List Str)(b:List RS)(d k:Nat):Prop:= ∀{CX:cW}{Γ:aQ}{X:Cx},eF CX (zh N (gI s) f g l m kn e h d) Γ X->PS X (fX s k) (cX Γ<|fY b k)
theorem Y9:MX jB K5 ae ae Yf ae ae ae ae JX 0:=λG=>have g:=G.toGood;(aj (bq<|jc (nr g<|aa g)<|kJ<|JP g<|nr g<|aa g) au)
def K6:Stmt:=br 11
theorem Y_:MX Kt K6 Ys ae ae ae ae ae ae Ku 0:=λG=>have g:=G.toGood;(aj (bq<|jc (aT g<|ah (rfl) (aa g) ao)<|kJ<|XZ g (aa g) (aa g)<|aa g) au)
def K7:Stmt:=br 12
theorem Za:MX Dh K7 ae ae JY ae ae ae ae Di 0:=λG=>have g:=G.toGood;(aj (bq<|jc (nr g<|aa g)<|kJ<|kI g (aa g)<|aa g) au)
def K8:Stmt:=br 13
theorem Zb:MX jB K8 ae Yg JY ae ae ae ae Dj 0:=λG=>have g:=G.toGood;(aj (bq<|jc (nr g<|aa g)<|kJ<|kI g (cP g (aa g)<|ah (rfl) (y9 g) ao) aF) au)
def K9:Stmt:=br 14
theorem Zc:MX jB K9 Yh ae ae ae ae Yi ae JZ 0:=λG=>have g:=G.toGood;(aj (bo (fF<|iM g<|aT g<|ah (rfl) (aa g) ao) (aj (fV G<|ah (rfl) aF ao) au) au) au)
def K_:Stmt:=br 16
theorem Zd:MX jB K_ Yj ae J0 ae ae ae ae zj 0:=λG=>have g:=G.toGood;(aj (bo (PW.pt<|jY (fF<|vI g<|nr g<|aa g)<|nA<|aW g (cm g<|ah (rfl) (aa g) ao) aA) (aj (bq lZ) au) au)<|aj (bo (iM g<|aT g<|ah (rfl) (aJ g (aa g) aA)<|ah (rfl) (dW<|ah (rfl) aF ao) ao) (aj (bq<|jc (aT g<|ah (rfl) (aJ g (aa g) aA) ao)<|kJ<|kI g (aJ g (aa g) aA) aA) au) au)<|aj (bq<|jc (aT g<|ah (by kernel_rfl) (aJ g (aa g) aA)<|ah (rfl) (dW<|ah (rfl) aF<|ah (rfl) aF ao) ao)<|jc (aT g<|ah (by kernel_rfl) (aJ g (aa g) aA) ao)<|kJ<|kI g (aJ g (aa g) aA) aF) au)
def La:Stmt:=br 17
theorem Ze:MX J3 La ae ae ae ae ae ae ae J4 0:=λG=>have g:=G.toGood;(aj (bq<|jc (kI g (aa g)<|aa g)<|kJ<|JP g<|jc (kI g (aa g) aF)<|kJ<|kI g (aa g) aF) au)
def Lb:Stmt:=br 18
theorem Zf:MX J5 Lb Yk ae J7 ae ae J8 ae J6 0:=λG=>have g:=G.toGood;(aj (bo (fF<|vI g<|nr g<|aa g) (aj (fV G<|ah (rfl) aF ao) au) au)<|aj (aZ G aF)<|aj (nB G (jd g<|aa g)<|aj (bo (fF<|iM g<|aT g<|ah (rfl) (aa g) ao) (aj (fV G<|ah (by kernel_rfl) aF ao) au) au)<|aj (bo (fF<|iM g<|aT g<|ah (rfl) (aJ g (aa g) aA)<|ah (rfl) (aa g) ao) (aj (fV G<|ah (by kernel_rfl) aF ao) au) au)<|aj (aZ G<|aJ g (aa g) aA) au) au)
noncomputable def Lc:List RS:=
 [.Cw 1 1 0 [.drop (.call 0 [.v 0])] [.ret (.c (.bl false))],
 .ret (.c (.bl true))]
def Zg:List Str:=["need_change"]
def Ld:Stmt:=br 19
theorem Zh:MX jB Ld Zg J8 ae ae ae ae ae Lc 0:=λG=>have g:=G.toGood;(aj (Y2 G (rfl) (rfl) (λG=>(λg=>(aj (cf<|aT g<|ah (rfl) (aa g) ao) au)) G.toGood)<|λG=>(λg=>(aj (bq lZ) au)) G.toGood)<|aj (bq lZ) au)
def Le:Stmt:=br 20
theorem Zi:MX J9 Le ae ae l_ ae ae ae ae J_ 0:=λG=>have g:=G.toGood;(aj (bq<|qK (aW g (aJ g (aa g) aA) aF) (aJ g (aa g) aA)<|cm g<|ah (rfl) (aJ g (aa g) aA) ao) au)
def Lf:Stmt:=br 21
theorem Zj:MX Ka Lf Yl ae Ym ae ae ae ae Kb 0:=λG=>have g:=G.toGood;(aj (cf<|aT g<|ah (rfl) (aa g) ao)<|aj (aZ G<|cm g<|ah (rfl) (oV (ln:=["part"]) g (rfl) (jd g<|aa g) (zb λ_ g=>(aW g (aJ g (aa g) aA) aF))<|λ_ g=>(aT g<|ah (rfl) (aa g) ao)) ao)<|aj (aZ G<|cm g<|ah (by kernel_rfl) (oV (ln:=["part"]) g (by kernel_rfl) (jd g<|aa g) (zb λ_ g=>(aW g (aJ g (aa g) aA) aF))<|λ_ g=>(aT g<|ah (by kernel_rfl) (aa g) ao)) ao)<|aj (bq<|dW<|ah (rfl) (aa g)<|ah (rfl) (aa g) ao) au)
def Lg:Stmt:=inClass (br 22) 0
theorem Zk:MX Kv Lg ae ae tD ae ae ae ae Kw 0:=λG=>have g:=G.toGood;(aj (cJ G (aa g)<|cm g<|ah (rfl) (aa g) ao)<|aj (cJ G (aa g) aA)<|aj (cJ G (aa g) aA) au)
def Lh:Stmt:=inClass (br 22) 1
theorem Zl:MX ip Lh ae ae l_ ae ae ae ae Kx 0:=λG=>have g:=G.toGood;(aj (bq<|qK (aW g (a_ g<|aa g)<|cm g<|ah (rfl) (a_ g<|aa g) ao) (aJ g (aJ g (a_ g<|aa g)<|a_ g<|aa g) aA) aF) au)
def Li:Stmt:=inClass (br 22) 2
theorem Zm:MX ip Li Kz ae ae ae ae ae ae Ky 0:=λG=>have g:=G.toGood;(aj (bq<|bf g (aT g<|ah (rfl) (aJ g (a_ g<|aa g)<|a_ g<|aa g) ao)<|a_ g<|aa g) au)
def Lj:Stmt:=inClass (br 22) 3
theorem Zn:MX KA Lj ae ae ae Yt ae ae ae Dl 0:=λG=>have g:=G.toGood;(aj (aZ G<|aJ g (a_ g<|aa g)<|a_ g<|aa g)<|aj (aZ G<|a_ g<|aa g)<|aj (aZ G<|bf g (aa g)<|aa g)<|aj (cJ G (aa g)<|aa g)<|aj (bo (aW g (d2 g<|aa g) aA) (aj (cJ G (aa g)<|bf g (a_ g<|aa g) aA)<|aj (cJ G (aa g) aA) au) au)<|aj (bq<|dW<|ah (rfl) (aJ g (aa g) aA)<|ah (rfl) (qK (aW g (aJ g (aa g) aA) aF) (aa g)<|oU g (aJ g (aa g) aA) (jX<|aa g)<|jX<|aa g) ao) au)
def Lk:Stmt:=br 23
theorem Zo:MX Kc Lk ae ae l_ ae ae ae ae Kd 0:=λG=>have g:=G.toGood;(aj (bo (PW.pt<|tw (aW g (cm g<|ah (rfl) (aa g) ao) aA)<|vH<|aW g (aJ g (aJ g (aa g)<|nk aA) aA) aF) (aj (aZ G<|bf g (aa g)<|aJ g (X1 g<|aa g) aA) au) au)<|aj (cf<|cP g (aa g)<|ah (rfl) (dW<|ah (rfl) aF<|ah (rfl) (aa g) ao) ao) au)
def Ll:Stmt:=br 24
theorem Zp:MX Ke Ll ae ae ae ae ae ae ae Kf 0:=λG=>have g:=G.toGood;(aj (aZ G<|cP g aF<|ah (by kernel_rfl) (aa g) ao)<|aj (aZ G<|cP g aF<|ah (by kernel_rfl) (aa g) ao)<|aj (bo (aW g (aa g) aF) (aj (cf<|cP g (aa g)<|ah (by kernel_rfl) (dW<|ah (by kernel_rfl) aF<|ah (by kernel_rfl) (aa g) ao) ao) au) au)<|aj (bo (aW g (aa g) aF) (aj (cf<|cP g (aa g)<|ah (by kernel_rfl) (dW<|ah (by kernel_rfl) aF<|ah (by kernel_rfl) (aa g) ao) ao) au) au) au)
def Lm:Stmt:=br 25
theorem Zq:MX Kg Lm Yn ae ae ae ae ae ae Kh 0:=λG=>have g:=G.toGood;(aj (aZ G<|cG ao)<|aj (aZ G<|cG ao)<|aj (aZ G<|cG ao)<|aj (ze [(_,_),(_,_)] G (jd g<|aa g)<|aj (bo (aW g (aa g) aF) (aj (cf<|cP g (aa g)<|ah (rfl) (aa g) ao) au)<|aj (bo (aW g (aa g) aF) (aj (cf<|cP g (aa g)<|ah (by kernel_rfl) (aa g) ao) au)<|aj (bo (aW g (aa g) aA) (aj (cf<|aT g<|ah (rfl) (aa g)<|ah (rfl) (aa g)<|ah (by kernel_rfl) (aa g) ao)<|aj (aZ G<|cG ao)<|aj (aZ G<|cG ao)<|aj (cf<|aT g<|ah (by kernel_rfl) (aa g)<|ah (by kernel_rfl) (aa g) ao) au) au) au) au) au)<|aj (cf<|aT g<|ah (by kernel_rfl) (aa g)<|ah (by kernel_rfl) (aa g)<|ah (by kernel_rfl) (aa g) ao)<|aj (bq<|aa g) au)
def Ln:Stmt:=br 26
theorem Zr:MX Ki Ln Yo ae l_ ae ae vJ ae Kj 0:=λG=>have g:=G.toGood;(aj (cf<|aT g<|ah (rfl) (aa g) ao)<|aj (bo (aW g (aJ g (aT g<|ah (by kernel_rfl) (aa g) ao) aA)<|cm g<|ah (by kernel_rfl) (aa g) ao) (aj (fV G<|ah (by kernel_rfl) aF ao) au) au)<|aj (aZ G aA)<|aj (aZ G<|cG ao)<|aj (ze [(_,_),(_,_)] G (jd g<|aa g)<|aj (bo (aW g (aa g) aF) (aj (cf<|cP g (aa g)<|ah (by kernel_rfl) (aa g) ao) au)<|aj (bo (aW g (aa g) aF) (aj (cf<|cP g (aa g)<|ah (by kernel_rfl) (oU g (aa g) (jX<|aa g)<|jX<|bf g (aa g)<|aa g) ao)<|aj (aZ G<|bf g (aa g)<|aa g) au)<|aj (bo (fF<|X7 g<|cP g (aa g)<|ah (by kernel_rfl) (aa g)<|ah (by kernel_rfl) (aa g) ao) (aj (fV G<|ah (by kernel_rfl) aF ao) au)<|aj (aZ G<|bf g (aa g)<|cm g<|ah (by kernel_rfl) (aa g) ao) au) au) au) au)<|aj (bq<|cP g aF<|ah (by kernel_rfl) (aa g) ao) au)
def Lo:Stmt:=br 28
theorem Zs:MX KO Lo ae ae ae ae ae vJ ae KP 0:=λG=>have g:=G.toGood;(aj (bo (aW g (aJ g (aa g) aA) aF) (aj (bq<|cG<|ah (rfl) (dW<|ah (rfl) aF<|ah (rfl) (aa g) ao) ao) au) au)<|aj (bo (aW g (aJ g (aa g) aA)<|aa g) (aj (fV G<|ah (by kernel_rfl) aF ao) au) au)<|aj (bq<|cG ao) au)
def Lp:Stmt:=br 29
theorem Zt:MX KQ Lp Yx ae KL KS ae ae ae KR 0:=λG=>have g:=G.toGood;(aj (aZ G<|cG ao)<|aj (aZ G aA)<|aj (zd G (aW g (aa g)<|aT g<|ah (rfl) (aa g) ao)<|aj (bo (aW g (d2 g<|aa g) aF) (aj (cf<|cP g (aa g)<|ah (rfl) (eS g (aa g)<|ah (rfl) (d2 g<|aa g) ao) ao)<|aj Yd au) au)<|aj (aZ G<|cm g<|ah (rfl) (d2 g<|aa g)<|ah (rfl) (bf g (aT g<|ah (rfl) (aa g) ao)<|aa g) ao)<|aj (aZ G<|eS g (aa g)<|ah (rfl) (aa g) ao)<|aj (bo (aW g (aJ g (aa g) aA) aF) (aj (cf<|cP g (aa g)<|ah (by kernel_rfl) (aa g) ao) au)<|aj (cf<|cP g (aa g)<|ah (rfl) (aT g<|ah (rfl) (aa g)<|ah (by kernel_rfl) (oU g (aJ g (aa g) aA) (jX<|aa g)<|jX<|bf g (aa g)<|aa g) ao) ao) au)<|aj (aZ G<|bf g (aa g)<|aa g) au)<|aj (bq<|aa g) au)
def Lq:Stmt:=br 30
theorem Zu:MX KU Lq Yy ae ae KS KN vJ ae KW 0:=λG=>have g:=G.toGood;(aj (bo (aW g (aJ g (aT g<|ah (rfl) (aa g) ao) aA)<|aJ g (aT g<|ah (by kernel_rfl) (aa g) ao) aA) (aj (fV G<|ah (rfl) aF ao) au) au)<|aj (aZ G<|qL g<|ah (rfl) (aa g) ao)<|aj (aZ G<|cG ao)<|aj (nB G (jd g<|aa g)<|aj (bo (aW g (aJ g (aa g) aA) aF) (aj (cf<|cP g (aa g)<|ah (rfl) (aa g) ao) au)<|aj (cf<|cP g (aa g)<|ah (rfl) (aT g<|ah (rfl) (aa g)<|ah (by kernel_rfl) (aa g) ao) ao) au) au)<|aj (zd G (aW g (d2 g<|aa g) aF)<|aj (cf<|cP g (aa g)<|ah (rfl) (eS g (aa g)<|ah (rfl) (d2 g<|aa g) ao) ao) au)<|aj (bq<|aT g<|ah (rfl) (aa g) ao) au)
def Lr:Stmt:=br 32
theorem Zv:MX KC Lr Kz ae ae Yu ae ae ae KD 0:=λG=>have g:=G.toGood;(aj (aZ G<|eS g (aa g)<|ah (rfl) (d2 g<|aa g) ao)<|aj (cf<|cP g (aa g)<|ah (rfl) (aa g) ao)<|aj (cf<|cP g (aa g)<|ah (rfl) (dW<|ah (rfl) aF<|ah (rfl) (aT g<|ah (rfl) (aa g) ao) ao) ao) au)
def Ls:Stmt:=br 33
theorem Zw:MX KG Ls ae ae ae ae ae vJ ae KH 0:=λG=>have g:=G.toGood;(aj (bo (PW.pt<|tw (aW g (aJ g (aa g) aA) aF)<|vH<|aW g (aJ g (aa g) aA) aF) (aj (bo (aW g (aJ g (aa g) aA)<|aJ g (aa g) aA) (aj (fV G<|ah (rfl) aF ao) au) au) au)<|aj (bo (aW g (aJ g (aa g) aA) aF) (aj (cf<|cP g (aa g)<|ah (rfl) (aa g) ao)<|aj (bo (aW g (aJ g (aa g) aA) aF) (aj (cf<|cP g (aa g)<|ah (by kernel_rfl) (aa g) ao) au) au) au)<|aj (cf<|cP g (aa g)<|ah (by kernel_rfl) (aa g) ao) au) au) au)
def Lu:Stmt:=br 34
theorem Zx:MX KI Lu Yv ae KL Yw KN vJ ae KJ 0:=λG=>have g:=G.toGood;(aj (bo (aW g (aJ g (aT g<|ah (rfl) (aa g) ao) aA)<|aJ g (aT g<|ah (by kernel_rfl) (aa g) ao) aA) (aj (fV G<|ah (rfl) aF ao) au) au)<|aj (aZ G<|qL g<|ah (rfl) (aa g) ao)<|aj (aZ G<|qL g<|ah (by kernel_rfl) (aa g) ao)<|aj (aZ G<|cG ao)<|aj (aZ G<|cG ao)<|aj (zd G (PW.pt<|jY (aW g (d2 g<|aa g) aF)<|nA<|aW g (d2 g<|aa g) aF)<|aj (bo (aW g (d2 g<|aa g) aF) (aj (cf<|aT g<|ah (rfl) (aa g)<|ah (rfl) (aa g)<|ah (rfl) (aa g) ao) au)<|aj (bo (aW g (d2 g<|aa g) aF) (aj (cf<|aT g<|ah (by kernel_rfl) (aa g)<|ah (by kernel_rfl) (aa g)<|ah (by kernel_rfl) (aa g) ao) au)<|aj (aZ G<|cm g<|ah (rfl) (d2 g<|aa g)<|ah (by kernel_rfl) (d2 g<|aa g) ao)<|aj (cf<|aT g<|ah (by kernel_rfl) (eS g (aa g)<|ah (by kernel_rfl) (aa g) ao)<|ah (by kernel_rfl) (eS g (aa g)<|ah (by kernel_rfl) (aa g) ao)<|ah (by kernel_rfl) (aa g)<|ah (by kernel_rfl) (aa g) ao) au) au) au)<|aj (bq<|dW<|ah (by kernel_rfl) (aT g<|ah (by kernel_rfl) (aa g) ao)<|ah (by kernel_rfl) (aT g<|ah (by kernel_rfl) (aa g) ao) ao) au)
def Lw:List Str:=["self","text","hands"]
noncomputable def Lx:List RS:=
 [.drop (.call 0 [.v 1]),
 .ite (.not<|.call 1 [.v 2,(.c<|.int 1),.g 0]) [.fg 0 [(.c<|.str "there are 1 to 8 hands")]] [],
 .bS (.v 0) "signs" (.v 1),
 .bS (.v 0) "serials" (.comp none [] .fS [.v 2] none<|.c<|.int 0),
 .bS (.v 0) "changes" (.lst []),
 .bS (.v 0) "makers" (.lst [])]
def Zy:List Str:=["need_text","is_between"]
def DA:List Str:=["MOST_HANDS"]
def DB:List Str:=["range"]
def Ly:List Str:=["NoHand"]
def Lz:Stmt:=inClass (br 37) 0
theorem Zz:MX Lw Lz Zy DA DB ae ae Ly ae Lx 0:=λG=>have g:=G.toGood;(aj (cf<|aT g<|ah (rfl) (aa g) ao)<|aj (bo (fF<|iM g<|aT g<|ah (rfl) (aa g)<|ah (rfl) aA<|ah (rfl) (y9 g) ao) (aj (fV G<|ah (rfl) aF ao) au) au)<|aj (cJ G (aa g)<|aa g)<|aj (YH G (aa g)<|oV (ln:=["hand"]) g (rfl) (qM g<|aa g) vG<|λ_ g=>aA)<|aj (cJ G (aa g)<|cG ao)<|aj (cJ G (aa g)<|cG ao) au)
noncomputable def LA:List RS:=
 [.ret<|.fld (.v 0) "signs"]
def LB:Stmt:=inClass (br 37) 1
theorem ZA:MX ip LB ae ae ae ae ae ae ae LA 0:=λG=>have g:=G.toGood;(aj (bq<|a_ g<|aa g) au)
noncomputable def LC:List RS:=
 [.ret<|.blt .len [(.fld (.v 0) "changes")]]
def LD:Stmt:=inClass (br 37) 2
theorem ZC:MX ip LD ae ae l_ ae ae ae ae LC 0:=λG=>have g:=G.toGood;(aj (bq<|cm g<|ah (rfl) (a_ g<|aa g) ao) au)
def LF:List Str:=["self","number"]
noncomputable def LG:List RS:=
 [.ite (.not (.call 0 [.v 1,(.c (.int 1)),(.aS 0 "many" (.v 0) [])])) [.fg 0 [(.c (.str "no change of that number was taken"))]] [],
 .ret (.blt .list [(.ix (.fld (.v 0) "changes") (.bin .Sub (.v 1) (.c (.int 1))))])]
def LH:List Str:=["is_between"]
def LI:List Str:=["many"]
def ZD:List Str:=["NoLetter"]
def LJ:Stmt:=inClass (br 37) 3
theorem ZE:MX LF LJ LH ae tD LI ae ZD ae LG 0:=λG=>have g:=G.toGood;(aj (bo (fF<|iM g<|aT g<|ah (rfl) (aa g)<|ah (rfl) aA<|ah (rfl) (d2 g<|aa g) ao) (aj (fV G<|ah (rfl) aF ao) au) au)<|aj (bq<|cm g<|ah (rfl) (aJ g (a_ g<|aa g)<|bf g (aa g) aA) ao) au)
def zr:List Str:=["self","hand","number"]
noncomputable def LK:List RS:=
 [.ret<|.tup [(.c<|.str "took"),.v 1,.v 2,(.ix (.fld (.v 0) "makers")<|.bin .Sub (.v 2)<|.c<|.int 1),(.aS 0 "change" (.v 0) [.v 2])]]
def DC:List Str:=["change"]
def LL:Stmt:=inClass (br 37) 4
theorem ZF:MX zr LL ae ae ae DC ae ae ae LK 0:=λG=>have g:=G.toGood;(aj (bq<|dW<|ah (rfl) aF<|ah (rfl) (aa g)<|ah (rfl) (aa g)<|ah (rfl) (aJ g (a_ g<|aa g)<|bf g (aa g) aA)<|ah (rfl) (eS g (aa g)<|ah (rfl) (aa g) ao) ao) au)
def o5:List Str:=["self","letter"]
noncomputable def LM:List RS:=
 [.ite (.or [(.cmp .NotEq (.blt .len [.v 1]) (.c (.int 5))),(.not (.call 0 [(.ix (.v 1) (.c (.int 0))),(.tup [(.c (.str "ask"))])])),(.not (.aS 0 "is_known" (.v 0) [(.ix (.v 1) (.c (.int 1))),(.ix (.v 1) (.c (.int 3)))]))]) [.ret (.c (.bl false))] [],
 .ret (.and [(.call 1 [(.ix (.v 1) (.c (.int 2)))]),(.cmp .GtE (.ix (.v 1) (.c (.int 2))) (.c (.int 1))),(.call 2 [(.ix (.v 1) (.c (.int 4)))])])]
def ZG:List Str:=["is_word","is_whole","is_change"]
def LN:List Str:=["is_known"]
def LO:Stmt:=inClass (br 37) 5
theorem ZH:MX o5 LO ZG ae l_ LN ae ae ae LM 0:=λG=>have g:=G.toGood;(aj (bo (PW.pt<|jY (aW g (cm g<|ah (rfl) (aa g) ao) aA)<|jY (fF<|iM g<|aT g<|ah (rfl) (aJ g (aa g) aA)<|ah (rfl) (dW<|ah (rfl) aF ao) ao)<|nA<|fF<|C4 g<|eS g (aa g)<|ah (rfl) (aJ g (aa g) aA)<|ah (rfl) (aJ g (aa g) aA) ao) (aj (bq lZ) au) au)<|aj (bq<|jc (aT g<|ah (rfl) (aJ g (aa g) aA) ao)<|jc (kI g (aJ g (aa g) aA) aA)<|kJ<|aT g<|ah (by kernel_rfl) (aJ g (aa g) aA) ao) au)
noncomputable def LP:List RS:=
 [.ret<|.and [(.cmp .Eq (.blt .len [.v 1])<|.c<|.int 3),(.call 0 [(.ix (.v 1)<|.c<|.int 0),(.tup [(.c<|.str "again")])]),(.aS 0 "is_known" (.v 0) [(.ix (.v 1)<|.c<|.int 1),(.ix (.v 1)<|.c<|.int 2)])]]
def ZI:List Str:=["is_word"]
def LQ:Stmt:=inClass (br 37) 6
theorem ZJ:MX o5 LQ ZI ae l_ LN ae ae ae LP 0:=λG=>have g:=G.toGood;(aj (bq<|jc (kI g (cm g<|ah (rfl) (aa g) ao) aA)<|jc (aT g<|ah (rfl) (aJ g (aa g) aA)<|ah (rfl) (dW<|ah (rfl) aF ao) ao)<|kJ<|eS g (aa g)<|ah (rfl) (aJ g (aa g) aA)<|ah (rfl) (aJ g (aa g) aA) ao) au)
noncomputable def LR:List RS:=
 [.ret<|.and [(.call 0 [.v 1,(.c<|.int 0),(.bin .Sub (.blt .len [(.fld (.v 0) "serials")])<|.c<|.int 1)]),(.call 0 [.v 2,(.c<|.int 0),(.aS 0 "many" (.v 0) [])])]]
def LS:Stmt:=inClass (br 37) 7
theorem ZK:MX zr LS LH ae l_ LI ae ae ae LR 0:=λG=>have g:=G.toGood;(aj (bq<|jc (aT g<|ah (rfl) (aa g)<|ah (rfl) aA<|ah (rfl) (bf g (cm g<|ah (rfl) (a_ g<|aa g) ao) aA) ao)<|kJ<|aT g<|ah (rfl) (aa g)<|ah (rfl) aA<|ah (rfl) (d2 g<|aa g) ao) au)
noncomputable def LU:List RS:=
 [.ite (.not (.ij .tuple (.v 1))) [.fg 0 [(.c (.str "a letter is a tuple"))]] [],
 .ite (.aS 0 "is_again" (.v 0) [.v 1]) [.ret<|.comp none [("self",0),("letter",1)] .yP [(.bin .Add (.ix (.v 1)<|.c<|.int 2)<|.c<|.int 1),(.bin .Add (.aS 1 "many" (.v 0) [])<|.c<|.int 1)] none<|.aS 2 "took" (.v 1) [(.ix (.v 2)<|.c<|.int 1),.v 0]] [],
 .ite (.not<|.aS 3 "is_ask" (.v 0) [.v 1]) [.fg 0 [(.c<|.str "this is no letter to the server of these hands")]] [],
 .ite (.cmp .NotEq (.ix (.v 1)<|.c<|.int 2)<|.bin .Add (.ix (.fld (.v 0) "serials")<|.ix (.v 1)<|.c<|.int 1)<|.c<|.int 1) [.ret<|.lst []] [],
 .ret (.aS 4 "take_in" (.v 0) [(.ix (.v 1) (.c (.int 1))),(.ix (.v 1) (.c (.int 3))),(.ix (.v 1) (.c (.int 4)))])]
def ZL:List Str:=["isinstance","tuple","range"]
def ZM:List Str:=["is_again","many","took","is_ask","take_in"]
def DD:List Str:=["BadLetter"]
def LV:Stmt:=inClass (br 37) 8
theorem ZN:MX o5 LV ae ae ZL ZM ae DD ae LU 0:=λG=>have g:=G.toGood;(aj (bo (fF<|vI g<|nr g<|aa g) (aj (fV G<|ah (rfl) aF ao) au) au)<|aj (bo (C4 g<|eS g (aa g)<|ah (rfl) (aa g) ao) (aj (bq<|oV (ln:=["number"]) g (rfl) (X8 g (bf g (aJ g (aa g) aA) aA)<|bf g (d2 g<|aa g) aA) vG<|λ_ g=>(eS g (aa g)<|ah (rfl) (aJ g (aa g) aA)<|ah (rfl) (aa g) ao)) au) au)<|aj (bo (fF<|C4 g<|eS g (aa g)<|ah (by kernel_rfl) (aa g) ao) (aj (fV G<|ah (by kernel_rfl) aF ao) au) au)<|aj (bo (aW g (aJ g (aa g) aA)<|bf g (aJ g (a_ g<|aa g)<|aJ g (aa g) aA) aA) (aj (bq<|cG ao) au) au)<|aj (bq<|eS g (aa g)<|ah (by kernel_rfl) (aJ g (aa g) aA)<|ah (rfl) (aJ g (aa g) aA)<|ah (by kernel_rfl) (aJ g (aa g) aA) ao) au)
def LW:List Str:=["self","hand","number","change","taken"]
noncomputable def LX:List RS:=
 [.jy 4 .list [(.sl (.fld (.v 0) "changes") (some (.v 2)) none)] [.asg 3 (.ix (.call 0 [.v 4,.v 3]) (.c (.int 1)))],
 .bS (.v 0) "signs" (.call 1 [(.fld (.v 0) "signs"),.v 3]),
 .set (.fld (.v 0) "serials") (.v 1) (.bin .Add (.ix (.fld (.v 0) "serials")<|.v 1)<|.c<|.int 1),
 .drop (.bE .append (.fld (.v 0) "changes") [(.blt .list [.v 3])]),
 .drop (.bE .append (.fld (.v 0) "makers") [.v 1]),
 .ret (.comp none [("self",0)] .fS [(.blt .len [(.fld (.v 0) "serials")])] none (.aS 0 "took" (.v 1) [.v 0,(.aS 1 "many" (.v 1) [])]))]
def LY:List Str:=["passed","done"]
def ZO:List Str:=["list","range","len"]
def ZP:List Str:=["took","many"]
def LZ:Stmt:=inClass (br 37) 9
theorem ZQ:MX LW LZ LY ae ZO ZP ae ae ae LX 0:=λG=>have g:=G.toGood;(aj (nB G (jd g<|oU g (a_ g<|aa g) (jX<|aa g) y_)<|aj (aZ G<|aJ g (aT g<|ah (rfl) (aa g)<|ah (rfl) (aa g) ao) aA) au)<|aj (cJ G (aa g)<|aT g<|ah (rfl) (a_ g<|aa g)<|ah (rfl) (aa g) ao)<|aj (zc (bf g (aJ g (a_ g<|aa g)<|aa g) aA) (a_ g<|aa g)<|aa g)<|aj (cf<|cP g (a_ g<|aa g)<|ah (rfl) (cm g<|ah (rfl) (aa g) ao) ao)<|aj (cf<|cP g (a_ g<|aa g)<|ah (by kernel_rfl) (aa g) ao)<|aj (bq<|oV (ln:=["other"]) g (rfl) (qM g<|cm g<|ah (rfl) (a_ g<|aa g) ao) vG<|λ_ g=>(eS g (aa g)<|ah (rfl) (aa g)<|ah (rfl) (d2 g<|aa g) ao)) au)
def L0:List Str:=["self","text"]
noncomputable def L4:List RS:=
 [.bS (.v 0) "signs" (.v 1),
 .bS (.v 0) "known" (.c<|.int 0),
 .bS (.v 0) "serial" (.c<|.int 0),
 .bS (.v 0) "flying" (.c .av),
 .bS (.v 0) "delayed" (.c .av),
 .bS (.v 0) "early" .yQ]
def L5:Stmt:=inClass (br 39) 0
theorem ZR:MX L0 L5 ae ae ae ae ae ae ae L4 0:=λG=>have g:=G.toGood;(aj (cJ G (aa g)<|aa g)<|aj (cJ G (aa g) aA)<|aj (cJ G (aa g) aA)<|aj (cJ G (aa g) ik)<|aj (cJ G (aa g) ik)<|aj (cJ G (aa g) X0) au)
def L6:List Str:=["stand","other"]
noncomputable def L7:List RS:=
 [.asg 1 (.make 0 [(.fld (.v 0) "signs")]),
 .bS (.v 1) "known" (.fld (.v 0) "known"),
 .bS (.v 1) "serial" (.fld (.v 0) "serial"),
 .bS (.v 1) "flying" (.fld (.v 0) "flying"),
 .bS (.v 1) "delayed" (.fld (.v 0) "delayed"),
 .bS (.v 1) "early" (.xt Dy [(.fld (.v 0) "early")]),
 .ret (.v 1)]
def ZS:List Str:=["dict"]
def L8:List Str:=["Stand"]
def L9:Stmt:=br 40
theorem ZT:MX L6 L9 ae ae ZS ae L8 ae ae L7 0:=λG=>have g:=G.toGood;(aj (aZ G<|qL g<|ah (rfl) (a_ g<|aa g) ao)<|aj (cJ G (aa g)<|a_ g<|aa g)<|aj (cJ G (aa g)<|a_ g<|aa g)<|aj (cJ G (aa g)<|a_ g<|aa g)<|aj (cJ G (aa g)<|a_ g<|aa g)<|aj (cJ G (aa g)<|Y6 g<|ah (rfl) (a_ g<|aa g) ao)<|aj (bq<|aa g) au)
noncomputable def L_:List RS:=
 [.ret<|.kE (.cmp .Is (.v 0)<|.c .av) (.c .av)<|.blt .list [.v 0]]
def Ma:Stmt:=br 41
theorem ZU:MX DC Ma ae ae tD ae ae ae ae L_ 0:=λG=>have g:=G.toGood;(aj (bq<|qK (aW g (aa g) ik) ik<|cm g<|ah (rfl) (aa g) ao) au)
def Mb:List Str:=["stand","change","pair"]
noncomputable def Mc:List RS:=
 [.ite (.cmp .IsNot (.fld (.v 0) "flying") (.c .av)) [.asg 2 (.call 0 [.v 1,(.fld (.v 0) "flying")]),
  .asg 1 (.ix (.v 2)<|.c<|.int 0),
  .bS (.v 0) "flying" (.ix (.v 2) (.c (.int 1)))] [],
 .ite (.cmp .IsNot (.fld (.v 0) "delayed") (.c .av)) [.asg 2 (.call 0 [.v 1,(.fld (.v 0) "delayed")]),
  .asg 1 (.ix (.v 2)<|.c<|.int 0),
  .bS (.v 0) "delayed" (.ix (.v 2) (.c (.int 1)))] [],
 .bS (.v 0) "signs" (.call 1 [(.fld (.v 0) "signs"),.v 1]),
 .ret (.v 1)]
def Md:Stmt:=br 42
theorem ZV:MX Mb Md LY ae ae ae ae ae ae Mc 0:=λG=>have g:=G.toGood;(aj (bo (aW g (a_ g<|aa g) ik) (aj (aZ G<|aT g<|ah (rfl) (aa g)<|ah (rfl) (a_ g<|aa g) ao)<|aj (aZ G<|aJ g (aa g) aA)<|aj (cJ G (aa g)<|aJ g (aa g) aA) au) au)<|aj (bo (aW g (a_ g<|aa g) ik) (aj (aZ G<|aT g<|ah (by kernel_rfl) (aa g)<|ah (by kernel_rfl) (a_ g<|aa g) ao)<|aj (aZ G<|aJ g (aa g) aA)<|aj (cJ G (aa g)<|aJ g (aa g) aA) au) au)<|aj (cJ G (aa g)<|aT g<|ah (rfl) (a_ g<|aa g)<|ah (rfl) (aa g) ao)<|aj (bq<|aa g) au)
def Me:List Str:=["self","number","text"]
noncomputable def Mf:List RS:=
 [.ite (.not (.call 0 [.v 1,(.c (.int 0)),(.bin .Sub (.g 0) (.c (.int 1)))])) [.fg 0 [(.c (.str "hands are numbered from 0 to 7"))]] [],
 .drop (.call 1 [.v 2]),
 .bS (.v 0) "number" (.v 1),
 .bS (.v 0) "stand_now" (.make 0 [.v 2])]
def ZW:List Str:=["is_between","need_text"]
def Mg:Stmt:=inClass (br 43) 0
theorem ZX:MX Me Mg ZW DA ae ae L8 Ly ae Mf 0:=λG=>have g:=G.toGood;(aj (bo (fF<|iM g<|aT g<|ah (rfl) (aa g)<|ah (rfl) aA<|ah (rfl) (bf g (y9 g) aA) ao) (aj (fV G<|ah (rfl) aF ao) au) au)<|aj (cf<|aT g<|ah (rfl) (aa g) ao)<|aj (cJ G (aa g)<|aa g)<|aj (cJ G (aa g)<|qL g<|ah (rfl) (aa g) ao) au)
noncomputable def Mh:List RS:=
 [.ret<|.fld (.fld (.v 0) "stand_now") "signs"]
def Mi:Stmt:=inClass (br 43) 1
theorem ZY:MX ip Mi ae ae ae ae ae ae ae Mh 0:=λG=>have g:=G.toGood;(aj (bq<|a_ g<|a_ g<|aa g) au)
noncomputable def Mj:List RS:=
 [.ret<|.fld (.fld (.v 0) "stand_now") "known"]
def Ml:Stmt:=inClass (br 43) 2
theorem ZZ:MX ip Ml ae ae ae ae ae ae ae Mj 0:=λG=>have g:=G.toGood;(aj (bq<|a_ g<|a_ g<|aa g) au)
noncomputable def Mm:List RS:=
 [.ret<|.call 0 [(.fld (.fld (.v 0) "stand_now") "flying")]]
def Mn:List Str:=["copied"]
def Mo:Stmt:=inClass (br 43) 3
theorem Z0:MX ip Mo Mn ae ae ae ae ae ae Mm 0:=λG=>have g:=G.toGood;(aj (bq<|aT g<|ah (rfl) (a_ g<|a_ g<|aa g) ao) au)
noncomputable def Mp:List RS:=
 [.ret<|.call 0 [(.fld (.fld (.v 0) "stand_now") "delayed")]]
def Mq:Stmt:=inClass (br 43) 4
theorem Z1:MX ip Mq Mn ae ae ae ae ae ae Mp 0:=λG=>have g:=G.toGood;(aj (bq<|aT g<|ah (rfl) (a_ g<|a_ g<|aa g) ao) au)
def Mr:List Str:=["self","stand"]
noncomputable def Ms:List RS:=
 [.ret<|.tup [(.c<|.str "ask"),(.fld (.v 0) "number"),(.fld (.v 1) "serial"),(.fld (.v 1) "known"),(.blt .list [(.fld (.v 1) "flying")])]]
def Mt:Stmt:=inClass (br 43) 5
theorem Z2:MX Mr Mt ae ae tD ae ae ae ae Ms 0:=λG=>have g:=G.toGood;(aj (bq<|dW<|ah (rfl) aF<|ah (rfl) (a_ g<|aa g)<|ah (rfl) (a_ g<|aa g)<|ah (by kernel_rfl) (a_ g<|aa g)<|ah (rfl) (cm g<|ah (rfl) (a_ g<|aa g) ao) ao) au)
def zt:List Str:=["self","stand","change"]
noncomputable def Mu:List RS:=
 [.bS (.v 1) "serial" (.bin .Add (.fld (.v 1) "serial") (.c (.int 1))),
 .bS (.v 1) "flying" (.v 2),
 .ret (.lst [(.aS 0 "ask" (.v 0) [.v 1])])]
def Z3:List Str:=["ask"]
def Mv:Stmt:=inClass (br 43) 6
theorem Z4:MX zt Mv ae ae ae Z3 ae ae ae Mu 0:=λG=>have g:=G.toGood;(aj (cJ G (aa g)<|bf g (a_ g<|aa g) aA)<|aj (cJ G (aa g)<|aa g)<|aj (bq<|cG<|ah (rfl) (eS g (aa g)<|ah (rfl) (aa g) ao) ao) au)
def Mw:List Str:=["self","change","stand","signs"]
noncomputable def Mx:List RS:=
 [.asg 2 (.fld (.v 0) "stand_now"),
 .asg 3 (.call 0 [(.fld (.v 2) "signs"),.v 1]),
 .ite (.cmp .IsNot (.fld (.v 2) "delayed")<|.c .av) [.bS (.v 2) "delayed"<|.call 1 [(.fld (.v 2) "delayed"),.v 1]] [.ite (.cmp .IsNot (.fld (.v 2) "flying")<|.c .av) [.bS (.v 2) "delayed"<|.blt .list [.v 1]] []],
 .bS (.v 2) "signs" (.v 3),
 .ret (.kE (.cmp .Is (.fld (.v 2) "flying") (.c .av)) (.aS 0 "take_off" (.v 0) [.v 2,(.blt .list [.v 1])]) (.lst []))]
def Z5:List Str:=["done","then"]
def My:List Str:=["take_off"]
def Mz:Stmt:=inClass (br 43) 7
theorem Z6:MX Mw Mz Z5 ae tD My ae ae ae Mx 0:=λG=>have g:=G.toGood;(aj (aZ G<|a_ g<|aa g)<|aj (aZ G<|aT g<|ah (rfl) (a_ g<|aa g)<|ah (rfl) (aa g) ao)<|aj (bo (aW g (a_ g<|aa g) ik) (aj (cJ G (aa g)<|aT g<|ah (by kernel_rfl) (a_ g<|aa g)<|ah (by kernel_rfl) (aa g) ao) au)<|aj (bo (aW g (a_ g<|aa g) ik) (aj (cJ G (aa g)<|cm g<|ah (rfl) (aa g) ao) au) au) au)<|aj (cJ G (aa g)<|aa g)<|aj (bq<|qK (aW g (a_ g<|aa g) ik) (eS g (aa g)<|ah (rfl) (aa g)<|ah (rfl) (cm g<|ah (rfl) (aa g) ao) ao)<|cG ao) au)
noncomputable def MA:List RS:=
 [.ite (.or [(.not (.ij .tuple (.v 1))),(.cmp .NotEq (.blt .len [.v 1]) (.c (.int 5))),(.not (.call 0 [(.ix (.v 1) (.c (.int 0))),(.tup [(.c (.str "took"))])]))]) [.fg 0 [(.c (.str "a took letter is a tuple of five"))]] [],
 .ite (.or [(.not<|.call 1 [(.ix (.v 1)<|.c<|.int 1)]),(.cmp .NotEq (.ix (.v 1)<|.c<|.int 1)<|.fld (.v 0) "number")]) [.fg 0 [(.c<|.str "this letter is not for this hand")]] [],
 .ite (.or [(.not<|.call 1 [(.ix (.v 1)<|.c<|.int 2)]),(.cmp .Lt (.ix (.v 1)<|.c<|.int 2)<|.c<|.int 1),(.not<|.call 2 [(.ix (.v 1)<|.c<|.int 3),(.c<|.int 0),(.bin .Sub (.g 0)<|.c<|.int 1)])]) [.fg 0 [(.c<|.str "no hand's change is taken with this number")]] [],
 .ite (.not (.call 3 [(.ix (.v 1) (.c (.int 4)))])) [.fg 0 [(.c (.str "what was taken is a change"))]] []]
def Z7:List Str:=["is_word","is_whole","is_between","is_change"]
def MB:Stmt:=inClass (br 43) 8
theorem Z8:MX o5 MB Z7 DA J0 ae ae DD ae MA 0:=λG=>have g:=G.toGood;(aj (bo (PW.pt<|jY (fF<|vI g<|nr g<|aa g)<|jY (aW g (cm g<|ah (rfl) (aa g) ao) aA)<|nA<|fF<|iM g<|aT g<|ah (rfl) (aJ g (aa g) aA)<|ah (rfl) (dW<|ah (rfl) aF ao) ao) (aj (fV G<|ah (rfl) aF ao) au) au)<|aj (bo (PW.pt<|jY (fF<|iM g<|aT g<|ah (by kernel_rfl) (aJ g (aa g) aA) ao)<|nA<|aW g (aJ g (aa g) aA)<|a_ g<|aa g) (aj (fV G<|ah (by kernel_rfl) aF ao) au) au)<|aj (bo (PW.pt<|jY (fF<|iM g<|aT g<|ah (by kernel_rfl) (aJ g (aa g) aA) ao)<|jY (aW g (aJ g (aa g) aA) aA)<|nA<|fF<|iM g<|aT g<|ah (by kernel_rfl) (aJ g (aa g) aA)<|ah (rfl) aA<|ah (by kernel_rfl) (bf g (y9 g) aA) ao) (aj (fV G<|ah (by kernel_rfl) aF ao) au) au)<|aj (bo (fF<|iM g<|aT g<|ah (by kernel_rfl) (aJ g (aa g) aA) ao) (aj (fV G<|ah (by kernel_rfl) aF ao) au) au) au)
noncomputable def MC:List RS:=
 [.ite (.cmp .Is (.fld (.v 1) "flying") (.c .av)) [.fg 0 [(.c (.str "nothing is in flight"))]] [],
 .asg 2 (.fld (.v 1) "delayed"),
 .bS (.v 1) "flying" (.c .av),
 .bS (.v 1) "delayed" (.c .av),
 .ret (.kE (.cmp .Is (.v 2) (.c .av)) (.lst []) (.aS 0 "take_off" (.v 0) [.v 1,.v 2]))]
def MD:Stmt:=inClass (br 43) 9
theorem Z9:MX zt MD ae ae ae My ae DD ae MC 0:=λG=>have g:=G.toGood;(aj (bo (aW g (a_ g<|aa g) ik) (aj (fV G<|ah (rfl) aF ao) au) au)<|aj (aZ G<|a_ g<|aa g)<|aj (cJ G (aa g) ik)<|aj (cJ G (aa g) ik)<|aj (bq<|qK (aW g (aa g) ik) (cG ao)<|eS g (aa g)<|ah (rfl) (aa g)<|ah (rfl) (aa g) ao) au)
def ME:List Str:=["self","letter","stand","posted","told","taken"]
noncomputable def zu:List RS:=
 [.drop (.aS 0 "need_took" (.v 0) [.v 1]),
 .asg 2 (.call 0 [(.fld (.v 0) "stand_now")]),
 .asg 3 (.lst []),
 .asg 4 (.lst []),
 .ite (.and [(.cmp .Gt (.ix (.v 1)<|.c<|.int 2)<|.fld (.v 2) "known"),(.vv (.ix (.v 1)<|.c<|.int 2)<|.fld (.v 2) "early")]) [.dput (.fld (.v 2) "early") (.ix (.v 1)<|.c<|.int 2)<|.tup [(.ix (.v 1)<|.c<|.int 3),(.blt .list [(.ix (.v 1)<|.c<|.int 4)])]] [],
 .qG (.vt (.bin .Add (.fld (.v 2) "known") (.c (.int 1))) (.fld (.v 2) "early")) [.bS (.v 2) "known" (.bin .Add (.fld (.v 2) "known") (.c (.int 1))),
  .asg 5 (.xm zq (.fld (.v 2) "early") [(.fld (.v 2) "known")]),
  .ite (.cmp .Eq (.ix (.v 5) (.c (.int 0))) (.fld (.v 0) "number")) [.drop (.bE .extend (.v 3) [(.aS 1 "land" (.v 0) [.v 2])])] [.drop (.bE .append (.v 4) [(.call 1 [.v 2,(.ix (.v 5) (.c (.int 1)))])])]],
 .bS (.v 0) "stand_now" (.v 2),
 .ret (.tup [.v 3,.v 4])]
def Z_:List Str:=["twin_of","let_in"]
def aaa:List Str:=["need_took","land"]
def MF:Stmt:=inClass (br 43) 10
theorem aab:MX ME MF Z_ ae tD aaa ae ae ae zu 0:=λG=>have g:=G.toGood;(aj (cf<|eS g (aa g)<|ah (rfl) (aa g) ao)<|aj (aZ G<|aT g<|ah (rfl) (a_ g<|aa g) ao)<|aj (aZ G<|cG ao)<|aj (aZ G<|cG ao)<|aj (bo (PW.pt<|tw (aW g (aJ g (aa g) aA)<|a_ g<|aa g)<|vH<|X6 g (aJ g (aa g) aA)<|a_ g<|aa g) (aj (qN G (dW<|ah (rfl) (aJ g (aa g) aA)<|ah (rfl) (cm g<|ah (rfl) (aJ g (aa g) aA) ao) ao) (a_ g<|aa g)<|aJ g (aa g) aA) au) au)<|aj (zd G (X5 g (bf g (a_ g<|aa g) aA)<|a_ g<|aa g)<|aj (cJ G (aa g)<|bf g (a_ g<|aa g) aA)<|aj (aZ G<|Y7 g (a_ g<|aa g)<|a_ g<|aa g)<|aj (bo (aW g (aJ g (aa g) aA)<|a_ g<|aa g) (aj (cf<|cP g (aa g)<|ah (rfl) (eS g (aa g)<|ah (by kernel_rfl) (aa g) ao) ao) au)<|aj (cf<|cP g (aa g)<|ah (rfl) (aT g<|ah (rfl) (aa g)<|ah (rfl) (aJ g (aa g) aA) ao) ao) au) au)<|aj (cJ G (aa g)<|aa g)<|aj (bq<|dW<|ah (rfl) (aa g)<|ah (by kernel_rfl) (aa g) ao) au)
def MG:List Str:=["self","again"]
noncomputable def MH:List RS:=
 [.asg 1 (.tup [(.c (.str "again")),(.fld (.v 0) "number"),(.aS 0 "seen" (.v 0) [])]),
 .ret (.kE (.cmp .Is (.fld (.fld (.v 0) "stand_now") "flying") (.c .av)) (.lst [.v 1]) (.lst [.v 1,(.aS 1 "ask" (.v 0) [(.fld (.v 0) "stand_now")])]))]
def aac:List Str:=["seen","ask"]
def MI:Stmt:=inClass (br 43) 11
theorem aad:MX MG MI ae ae ae aac ae ae ae MH 0:=λG=>have g:=G.toGood;(aj (aZ G<|dW<|ah (rfl) aF<|ah (rfl) (a_ g<|aa g)<|ah (rfl) (d2 g<|aa g) ao)<|aj (bq<|qK (aW g (a_ g<|a_ g<|aa g) ik) (cG<|ah (rfl) (aa g) ao)<|cG<|ah (rfl) (aa g)<|ah (rfl) (eS g (aa g)<|ah (rfl) (a_ g<|aa g) ao) ao) au)
def MJ:Stmt:=br 45
theorem aae:MX Kk MJ ae ae l_ ae ae ae ae Km 0:=λG=>have g:=G.toGood;(aj (bo (aW g (aa g)<|cm g<|ah (rfl) (aa g) ao) (aj (bq<|aJ g (aa g)<|aa g) au) au)<|aj (bq aA) au)
def MK:Stmt:=br 47
theorem aaf:MX Kn MK ae ae ae ae ae ae ae Ko 0:=λG=>have g:=G.toGood;(aj (aZ G<|bf g (bf g (bf g (bf g (aa g) aA)<|bf g aA<|aa g) aA) aA)<|aj (bq<|bf g (bf g (bf g (bf g (aa g)<|aa g) aA)<|aa g) aA) au)
def Dk:List Str:=["_law_cell","_law_size","_law_some"]
def ML:Stmt:=br 48
theorem aag:MX Dk ML Yp ae Yq ae ae ae ae Kq 0:=λG=>have g:=G.toGood;(aj (aZ G aF)<|aj (aZ G<|bf g (aa g) aF)<|aj (bo (aW g (bf g (aa g) aA) aA) (aj (aZ G aF) au) au)<|aj (bq<|cP g aF<|ah (by kernel_rfl) (oV (ln:=["_law_k"]) g (by kernel_rfl) (qM g<|aa g) vG<|λ_ g=>(aJ g (aa g)<|bf g (bf g (aT g<|ah (by kernel_rfl) (aa g)<|ah (by kernel_rfl) (aa g) ao) aA)<|cm g<|ah (by kernel_rfl) (aa g) ao)) ao) au)
def MM:Stmt:=br 50
theorem aah:MX Kr MM ae ae Yr ae ae ae ae Ks 0:=λG=>have g:=G.toGood;(aj (aZ G<|cG<|ah (rfl) (cG<|ah (rfl) aF<|ah (by kernel_rfl) aF<|ah (by kernel_rfl) aA ao) ao)<|aj (ze [(_,_),(_,_)] G (jd g<|aa g)<|aj (bo (aW g (aa g) aF) (aj (zc (bf g (aJ g (aJ g (aa g)<|nk aA) aA)<|aa g) (aJ g (aa g)<|nk aA) aA) au)<|aj (bo (aW g (aa g) aF) (aj (bo (aW g (aJ g (aJ g (aa g)<|nk aA) aA) aA) (aj (cf<|cP g (aa g)<|ah (by kernel_rfl) (cG<|ah (by kernel_rfl) aF<|ah (by kernel_rfl) aF<|ah (by kernel_rfl) aA ao) ao) au) au)<|aj (zc (bf g (aJ g (aJ g (aa g)<|nk aA)<|cm g<|ah (by kernel_rfl) (kI g (aa g) aF) ao)<|aa g) (aJ g (aa g)<|nk aA)<|cm g<|ah (by kernel_rfl) (kI g (aa g) aF) ao) au) au) au) au)<|aj (aZ G<|cG ao)<|aj (ze [(_,_),(_,_),(_,_)] G (jd g<|aa g)<|aj (aZ G<|cG<|ah (by kernel_rfl) (dW<|ah (by kernel_rfl) aF<|ah (by kernel_rfl) (aa g) ao)<|ah (by kernel_rfl) (dW<|ah (by kernel_rfl) aF<|ah (by kernel_rfl) (aa g) ao)<|ah (by kernel_rfl) (dW<|ah (by kernel_rfl) aF<|ah (by kernel_rfl) (aa g) ao) ao)<|aj (aZ G<|bf g (aa g)<|oV (ln:=["_law_part"]) g (by kernel_rfl) (jd g<|aa g) (zb λ_ g=>(PW.pt<|tw (aW g (aJ g (aa g) aA) aF)<|vH<|aW g (aJ g (aa g) aA) aA))<|λ_ g=>(aa g)) au)<|aj (bq<|aa g) au)
def MN:List Str:=["_law_script","_law_size","_law_text_here","_law_hands","_law_some"]
noncomputable def MO:List RS:=
 [.asg 1 (.bin .Mod (.call 0 [.v 0,(.c (.int 0))]) (.c (.int 25))),
 .asg 2 (.call 1 [(.call 0 [.v 0,(.c<|.int 1)]),.v 1]),
 .asg 3 (.bin .Add (.c<|.int 1)<|.bin .Mod (.call 0 [.v 0,(.c<|.int 2)])<|.c<|.int 4),
 .yR 4 (.comp none [("_law_text_here",2)] .fS [.v 3] none<|.make 0 [.v 0,.v 1]),
 .ret (.xt tE [(.c (.str "server")),(.make 1 [.v 2,.v 3]),(.c (.str "hands")),.v 4,(.c (.str "post")),(.lst []),(.c (.str "first")),.v 2])]
def aai:List Str:=["_law_cell_at","_law_text"]
def aaj:List Str:=["Hand","Server"]
def MP:Stmt:=br 53
theorem aak:MX MN MP aai ae DB ae aaj ae ae MO 0:=λG=>have g:=G.toGood;(aj (aZ G<|bf g (aT g<|ah (rfl) (aa g)<|ah (by kernel_rfl) aA ao) aA)<|aj (aZ G<|aT g<|ah (by kernel_rfl) (aT g<|ah (by kernel_rfl) (aa g)<|ah (by kernel_rfl) aA ao)<|ah (by kernel_rfl) (aa g) ao)<|aj (aZ G<|bf g aA<|bf g (aT g<|ah (by kernel_rfl) (aa g)<|ah (by kernel_rfl) aA ao) aA)<|aj (Ya (ln:=["_law_k"]) G (by kernel_rfl) (by kernel_rfl) (by kernel_rfl) (qM g<|aa g) vG<|λ_ g=>(qL g<|ah (by kernel_rfl) (aa g)<|ah (by kernel_rfl) (aa g) ao))<|aj (bq<|YF<|zl aF (qL g<|ah (by kernel_rfl) (aa g)<|ah (by kernel_rfl) (aa g) ao)<|zl aF (aa g)<|zl aF (cG ao)<|zl aF (aa g) YE) au)
def MQ:List Str:=["_law_room_here","_law_letter","_law_told"]
noncomputable def vQ:List RS:=
 [.ite (.cmp .NotEq (.ix (.v 1) (.c (.int 0))) (.c (.str "took"))) [.dput (.v 0) (.c (.str "post")) (.bin .Add (.dc (.v 0) (.c (.str "post"))) (.aS 0 "came" (.dc (.v 0) (.c (.str "server"))) [.v 1])),
  .ret (.lst [])] [],
 .asg 2 (.aS 1 "came" (.ix (.dc (.v 0)<|.c<|.str "hands")<|.ix (.v 1)<|.c<|.int 1) [.v 1]),
 .dput (.v 0) (.c<|.str "post") (.bin .Add (.dc (.v 0)<|.c<|.str "post")<|.ix (.v 2)<|.c<|.int 0),
 .ret (.ix (.v 2) (.c (.int 1)))]
def aal:List Str:=["came","came"]
def MR:Stmt:=br 54
theorem aam:MX MQ MR ae ae ae aal ae ae ae vQ 0:=λG=>have g:=G.toGood;(aj (bo (aW g (aJ g (aa g) aA) aF) (aj (qN G (bf g (eG g (aa g) aF)<|eS g (eG g (aa g) aF)<|ah (rfl) (aa g) ao) (aa g) aF)<|aj (bq<|cG ao) au) au)<|aj (aZ G<|eS g (aJ g (eG g (aa g) aF)<|aJ g (aa g) aA)<|ah (rfl) (aa g) ao)<|aj (qN G (bf g (eG g (aa g) aF)<|aJ g (aa g) aA) (aa g) aF)<|aj (bq<|aJ g (aa g) aA) au)
def DE:List Str:=["_law_letter"]
noncomputable def DF:List RS:=
 [.ite (.ij .list (.ix (.v 0) (.neg (.c (.int 1))))) [.ret (.bin .Add (.sl (.v 0) none (some (.neg (.c (.int 1))))) (.tup [(.blt .list [(.ix (.v 0) (.neg (.c (.int 1))))])]))] [],
 .ret (.v 0)]
def MT:Stmt:=br 55
theorem aan:MX DE MT ae ae J7 ae ae ae ae DF 0:=λG=>have g:=G.toGood;(aj (bo (vI g<|nr g<|aJ g (aa g)<|nk aA) (aj (bq<|bf g (oU g (aa g) y_<|jX<|nk aA)<|dW<|ah (rfl) (cm g<|ah (rfl) (aJ g (aa g)<|nk aA) ao) ao) au) au)<|aj (bq<|aa g) au)
def kO:List Str:=["_law_room_here","_law_cell","_law_at","_law_hand","_law_text_here","_law_place","_law_sign","_law_parts_here"]
noncomputable def eO:List RS:=
 [.asg 2 (.bin .Mod (.v 1) (.blt .len [(.dc (.v 0) (.c (.str "hands")))])),
 .asg 3 (.ix (.dc (.v 0)<|.c<|.str "hands")<|.v 2),
 .asg 4 (.aS 0 "text" (.v 3) []),
 .asg 5 (.bin .Mod (.bin .FloorDiv (.v 1)<|.c<|.int 4)<|.bin .Add (.blt .len [.v 4])<|.c<|.int 1),
 .asg 6 (.ix (.c<|.str "0123")<|.v 2),
 .asg 7 (.lst [(.tup [(.c<|.str "keep"),.v 5]),(.tup [(.c<|.str "put"),.v 6])]),
 .ite (.and [(.cmp .Lt (.v 5)<|.blt .len [.v 4]),(.cmp .Eq (.bin .Mod (.bin .FloorDiv (.bin .FloorDiv (.v 1)<|.c<|.int 4)<|.bin .Add (.blt .len [.v 4])<|.c<|.int 1)<|.c<|.int 3)<|.c<|.int 1),(.cmp .NotIn (.ix (.v 4)<|.v 5)<|.c<|.str "0123")]) [.drop<|.bE .append (.v 7) [(.tup [(.c<|.str "cut"),(.ix (.v 4)<|.v 5)])]] [.drop<|.bE .append (.v 7) [(.tup [(.c<|.str "keep"),(.blt .min [(.c<|.int 1),(.bin .Sub (.blt .len [.v 4])<|.v 5)])])]],
 .set (.dc (.v 0)<|.c<|.str "many") (.v 2) (.bin .Add (.ix (.dc (.v 0)<|.c<|.str "many")<|.v 2)<|.c<|.int 1),
 .dput (.v 0) (.c (.str "post")) (.bin .Add (.dc (.v 0) (.c (.str "post"))) (.aS 1 "do" (.v 3) [(.call 0 [(.bin .Add (.v 7) (.lst [(.tup [(.c (.str "keep")),(.blt .max [(.c (.int 0)),(.bin .Sub (.bin .Sub (.blt .len [.v 4]) (.v 5)) (.c (.int 1)))])])]))])]))]
def mh:List Str:=["_law_neat"]
def mi:List Str:=["len","min","max"]
def mj:List Str:=["text","do"]
def fI:Stmt:=br 56
theorem aao:MY kO fI mh ae mi mj ae ae ae eO 0 0:=by
 intro b Γ X G;have g:=G.toGood;show PS X (.Assign [.Name "_law_at" _] _ _) (cX Γ<|.asg 2 _)
 with_reducible exact(aZ G<|bf g (aa g)<|cm g<|ah (rfl) (eG g (aa g) aF) ao)
theorem aap:MY kO fI mh ae mi mj ae ae ae eO 0 1:=by
 intro b Γ X G;have g:=G.toGood;show PS X (.Assign [.Name "_law_hand" _] _ _) (cX Γ<|.asg 3 _)
 with_reducible exact(aZ G<|aJ g (eG g (aa g) aF)<|aa g)
theorem aaq:MY kO fI mh ae mi mj ae ae ae eO 0 2:=by
 intro b Γ X G;have g:=G.toGood;show PS X (.Assign [.Name "_law_text_here" _] _ _) (cX Γ<|.asg 4 _)
 with_reducible exact(aZ G<|d2 g<|aa g)
theorem aar:MY kO fI mh ae mi mj ae ae ae eO 0 3:=by
 intro b Γ X G;have g:=G.toGood;show PS X (.Assign [.Name "_law_place" _] _ _) (cX Γ<|.asg 5 _)
 with_reducible exact(aZ G<|bf g (bf g (aa g) aA)<|bf g (cm g<|ah (rfl) (aa g) ao) aA)
theorem aas:MY kO fI mh ae mi mj ae ae ae eO 0 4:=by
 intro b Γ X G;have g:=G.toGood;show PS X (.Assign [.Name "_law_sign" _] _ _) (cX Γ<|.asg 6 _)
 with_reducible exact(aZ G<|aJ g aF<|aa g)
theorem aat:MY kO fI mh ae mi mj ae ae ae eO 0 5:=by
 intro b Γ X G;have g:=G.toGood;show PS X (.Assign [.Name "_law_parts_here" _] _ _) (cX Γ<|.asg 7 _)
 with_reducible exact(aZ G<|cG<|ah (rfl) (dW<|ah (rfl) aF<|ah (rfl) (aa g) ao)<|ah (rfl) (dW<|ah (by kernel_rfl) aF<|ah (by kernel_rfl) (aa g) ao) ao)
theorem aau:MY kO fI mh ae mi mj ae ae ae eO 0 6:=λG=>have g:=G.toGood;(bo (PW.pt<|tw (aW g (aa g)<|cm g<|ah (rfl) (aa g) ao)<|tw (aW g (bf g (bf g (bf g (aa g) aA)<|bf g (cm g<|ah (rfl) (aa g) ao) aA) aA) aA)<|vH<|aW g (aJ g (aa g)<|aa g) aF) (aj (cf<|cP g (aa g)<|ah (rfl) (dW<|ah (rfl) aF<|ah (rfl) (aJ g (aa g)<|aa g) ao) ao) au)<|aj (cf<|cP g (aa g)<|ah (rfl) (dW<|ah (rfl) aF<|ah (rfl) (cm g<|ah (rfl) aA<|ah (rfl) (bf g (cm g<|ah (by kernel_rfl) (aa g) ao)<|aa g) ao) ao) ao) au)
theorem aav:MY kO fI mh ae mi mj ae ae ae eO 0 7:=λG=>have g:=G.toGood;(zc (bf g (aJ g (eG g (aa g) aF)<|aa g) aA) (eG g (aa g) aF)<|aa g)
theorem aaw:MY kO fI mh ae mi mj ae ae ae eO 0 8:=λG=>have g:=G.toGood;(qN G (bf g (eG g (aa g) aF)<|eS g (aa g)<|ah (rfl) (aT g<|ah (rfl) (bf g (aa g)<|cG<|ah (rfl) (dW<|ah (rfl) aF<|ah (rfl) (cm g<|ah (rfl) aA<|ah (rfl) (bf g (bf g (cm g<|ah (rfl) (aa g) ao)<|aa g) aA) ao) ao) ao) ao) ao) (aa g) aF)
theorem aax:MX kO fI mh ae mi mj ae ae ae eO 0:=by
 intro c Γ X G;have e:gH fI=[fX fI 0,fX fI 1,fX fI 2,fX fI 3,fX fI 4,fX fI 5,fX fI 6,fX fI 7,fX fI 8]:=rfl
 have b:eO=[fY eO 0,fY eO 1,fY eO 2,fY eO 3,fY eO 4,fY eO 5,fY eO 6,fY eO 7,fY eO 8]:=rfl
 rw[e,b]
 with_reducible exact aj (aao G) (aj (aap G)<|aj (aaq G)<|aj (aar G)<|aj (aas G)<|aj (aat G)<|aj (aau G)<|aj (aav G)<|aj (aaw G)<|au)
def MU:List Str:=["_law_room_here","_law_cell","_law_way","_law_at","_law_letter"]
noncomputable def DG:List RS:=
 [.asg 3 (.bin .Mod (.v 1) (.blt .len [(.dc (.v 0) (.c (.str "post")))])),
 .asg 4 (.ix (.dc (.v 0)<|.c<|.str "post")<|.v 3),
 .ite (.cmp .NotEq (.v 2)<|.c<|.int 1) [.dput (.v 0) (.c<|.str "post")<|.bin .Add (.sl (.dc (.v 0)<|.c<|.str "post") none<|some<|.v 3)<|.sl (.dc (.v 0)<|.c<|.str "post") (some<|.bin .Add (.v 3)<|.c<|.int 1) none] [],
 .ite (.cmp .Lt (.v 2) (.c (.int 2))) [.drop (.call 0 [.v 0,(.call 1 [.v 4])])] []]
def aay:List Str:=["_law_came","_law_copied"]
def MV:Stmt:=br 57
theorem aaz:MX MU MV aay ae l_ ae ae ae ae DG 0:=λG=>have g:=G.toGood;(aj (aZ G<|bf g (aa g)<|cm g<|ah (rfl) (eG g (aa g) aF) ao)<|aj (aZ G<|aJ g (eG g (aa g) aF)<|aa g)<|aj (bo (aW g (aa g) aA) (aj (qN G (bf g (oU g (eG g (aa g) aF) y_<|jX<|aa g)<|oU g (eG g (aa g) aF) (jX<|bf g (aa g) aA) y_) (aa g) aF) au) au)<|aj (bo (aW g (aa g) aA) (aj (cf<|aT g<|ah (rfl) (aa g)<|ah (rfl) (aT g<|ah (rfl) (aa g) ao) ao) au) au) au)
def MW:List Str:=["_law_room_here","_law_hand"]
noncomputable def MZ:List RS:=
 [.jy 1 .list [(.dc (.v 0) (.c (.str "hands")))] [.ite (.or [(.cmp .IsNot (.aS 0 "flight" (.v 1) []) (.c .av)),(.cmp .IsNot (.aS 1 "waiting" (.v 1) []) (.c .av))]) [.ret (.c (.bl false))] [],
  .ite (.cmp .NotEq (.aS 2 "seen" (.v 1) []) (.aS 3 "many" (.dc (.v 0) (.c (.str "server"))) [])) [.ret (.c (.bl false))] []],
 .ret (.c (.bl true))]
def aaA:List Str:=["flight","waiting","seen","many"]
def M0:Stmt:=br 58
theorem aaB:MX MW M0 ae ae ae aaA ae ae ae MZ 0:=λG=>have g:=G.toGood;(aj (nB G (jd g<|eG g (aa g) aF)<|aj (bo (PW.pt<|jY (aW g (d2 g<|aa g) ik)<|nA<|aW g (d2 g<|aa g) ik) (aj (bq lZ) au) au)<|aj (bo (aW g (d2 g<|aa g)<|d2 g<|eG g (aa g) aF) (aj (bq lZ) au) au) au)<|aj (bq lZ) au)
def M1:List Str:=["_law_room_here","_law_cell","_law_hand","_law_turn"]
noncomputable def M3:List RS:=
 [.jy 2 .list [(.dc (.v 0) (.c (.str "hands")))] [.dput (.v 0) (.c (.str "post")) (.bin .Add (.dc (.v 0) (.c (.str "post"))) (.aS 0 "nudge" (.v 2) []))],
 .jy 3 .fS [(.c (.int 200))] [.ite (.cmp .Eq (.dc (.v 0) (.c (.str "post"))) (.lst [])) [.Cv] [],
  .drop (.call 0 [.v 0,(.call 1 [.v 1,.v 3]),(.c (.int 0))])]]
def aaC:List Str:=["_law_handed","_law_mixed"]
def aaD:List Str:=["nudge"]
def M4:Stmt:=br 59
theorem aaE:MX M1 M4 aaC ae DB aaD ae ae ae M3 0:=λG=>have g:=G.toGood;(aj (nB G (jd g<|eG g (aa g) aF)<|aj (qN G (bf g (eG g (aa g) aF)<|d2 g<|aa g) (aa g) aF) au)<|aj (nB G (qM g aA)<|aj (bo (aW g (eG g (aa g) aF)<|cG ao) (aj Yb au) au)<|aj (cf<|aT g<|ah (rfl) (aa g)<|ah (rfl) (aT g<|ah (rfl) (aa g)<|ah (rfl) (aa g) ao)<|ah (rfl) aA ao) au) au)
def j5:List Str:=["_law_script","_law_room_here","_law_first","_law_cell","_law_kind","_law_turn","_law_text_here","_law_hands","_law_k","_law_sign"]
noncomputable def d3:List RS:=
 [.asg 1 (.call 0 [.v 0]),
 .dput (.v 1) (.c<|.str "many") (.bin .Mult (.lst [(.c<|.int 0)])<|.blt .len [(.dc (.v 1)<|.c<|.str "hands")]),
 .asg 2 (.dc (.v 1)<|.c<|.str "first"),
 .jy 3 .list [(.sl (.v 0) (some (.c (.int 3))) (some (.c (.int 19))))] [.asg 4 (.bin .Mod (.v 3) (.c (.int 7))),
  .ite (.or [(.cmp .Lt (.v 4) (.c (.int 3))),(.cmp .Eq (.dc (.v 1) (.c (.str "post"))) (.lst []))]) [.drop (.call 1 [.v 1,(.bin .FloorDiv (.v 3) (.c (.int 7)))])] [.drop (.call 2 [.v 1,(.bin .FloorDiv (.v 3) (.c (.int 7))),(.ix (.lst [(.c (.int 0)),(.c (.int 0)),(.c (.int 1)),(.c (.int 2))]) (.bin .Sub (.v 4) (.c (.int 3))))])]],
 .jy 5 .fS [(.bin .Add (.blt .sum [(.dc (.v 1)<|.c<|.str "many")])<|.c<|.int 3)] [.ite (.not<|.call 3 [.v 1]) [.drop<|.call 4 [.v 1,(.bin .Add (.call 5 [.v 0,(.c<|.int 1)])<|.v 5)]] []],
 .asg 6 (.aS 0 "text" (.dc (.v 1)<|.c<|.str "server") []),
 .asg 7 (.dc (.v 1)<|.c<|.str "hands"),
 .ite (.or [(.not<|.call 3 [.v 1]),(.cmp .NotEq (.comp none [("_law_text_here",6)] .list [.v 7] (some<|.cmp .NotEq (.aS 1 "text" (.v 0) [])<|.v 1)<|.v 0)<|.lst [])]) [.ret<|.c<|.bl false] [],
 .jy 8 .fS [(.blt .len [.v 7])] [.asg 9 (.ix (.c (.str "0123")) (.v 8)),
  .ite (.cmp .NotEq (.bE .count (.v 6) [.v 9]) (.bin .Add (.bE .count (.v 2) [.v 9]) (.ix (.dc (.v 1) (.c (.str "many"))) (.v 8)))) [.ret (.c (.bl false))] []],
 .ret (.c (.bl true))]
def kP:List Str:=["_law_room","_law_put_in","_law_handed","_law_rests","_law_round","_law_cell_at"]
def kQ:List Str:=["len","range","sum"]
def kR:List Str:=["text","text"]
def eT:Stmt:=br 60
theorem aaF:MY j5 eT kP ae kQ kR ae ae ae d3 0 0:=by
 intro b Γ X G;have g:=G.toGood;show PS X (.Assign [.Name "_law_room_here" _] _ _) (cX Γ<|.asg 1 _)
 with_reducible exact(aZ G<|aT g<|ah (rfl) (aa g) ao)
theorem aaG:MY j5 eT kP ae kQ kR ae ae ae d3 0 1:=λG=>have g:=G.toGood;(qN G (bf g (cG<|ah (rfl) aA ao)<|cm g<|ah (rfl) (eG g (aa g) aF) ao) (aa g) aF)
theorem aaH:MY j5 eT kP ae kQ kR ae ae ae d3 0 2:=by
 intro b Γ X G;have g:=G.toGood;show PS X (.Assign [.Name "_law_first" _] _ _) (cX Γ<|.asg 2 _)
 with_reducible exact(aZ G<|eG g (aa g) aF)
theorem aaI:MY j5 eT kP ae kQ kR ae ae ae d3 0 3:=λG=>have g:=G.toGood;(nB G (jd g<|oU g (aa g) (jX aA)<|jX aA)<|aj (aZ G<|bf g (aa g) aA)<|aj (bo (PW.pt<|jY (aW g (aa g) aA)<|nA<|aW g (eG g (aa g) aF)<|cG ao) (aj (cf<|aT g<|ah (rfl) (aa g)<|ah (rfl) (bf g (aa g) aA) ao) au)<|aj (cf<|aT g<|ah (by kernel_rfl) (aa g)<|ah (by kernel_rfl) (bf g (aa g) aA)<|ah (rfl) (aJ g (cG<|ah (rfl) aA<|ah (rfl) aA<|ah (rfl) aA<|ah (rfl) aA ao)<|bf g (aa g) aA) ao) au) au)
theorem aaJ:MY j5 eT kP ae kQ kR ae ae ae d3 0 4:=λG=>have g:=G.toGood;(nB G (qM g<|bf g (cm g<|ah (rfl) (eG g (aa g) aF) ao) aA)<|aj (bo (fF<|iM g<|aT g<|ah (rfl) (aa g) ao) (aj (cf<|aT g<|ah (rfl) (aa g)<|ah (rfl) (bf g (aT g<|ah (rfl) (aa g)<|ah (rfl) aA ao)<|aa g) ao) au) au) au)
theorem aaK:MY j5 eT kP ae kQ kR ae ae ae d3 0 5:=by
 intro b Γ X G;have g:=G.toGood;show PS X (.Assign [.Name "_law_text_here" _] _ _) (cX Γ<|.asg 6 _)
 with_reducible exact(aZ G<|d2 g<|eG g (aa g) aF)
theorem aaL:MY j5 eT kP ae kQ kR ae ae ae d3 0 6:=by
 intro b Γ X G;have g:=G.toGood;show PS X (.Assign [.Name "_law_hands" _] _ _) (cX Γ<|.asg 7 _)
 with_reducible exact(aZ G<|eG g (aa g) aF)
theorem aaM:MY j5 eT kP ae kQ kR ae ae ae d3 0 7:=λG=>have g:=G.toGood;(bo (PW.pt<|jY (fF<|iM g<|aT g<|ah (rfl) (aa g) ao)<|nA<|aW g (oV (ln:=["_law_hand"]) g (rfl) (jd g<|aa g) (zb λ_ g=>(aW g (d2 g<|aa g)<|aa g))<|λ_ g=>(aa g))<|cG ao) (aj (bq lZ) au) au)
theorem aaN:MY j5 eT kP ae kQ kR ae ae ae d3 0 8:=λG=>have g:=G.toGood;(nB G (qM g<|cm g<|ah (rfl) (aa g) ao)<|aj (aZ G<|aJ g aF<|aa g)<|aj (bo (aW g (cP g (aa g)<|ah (rfl) (aa g) ao)<|bf g (cP g (aa g)<|ah (by kernel_rfl) (aa g) ao)<|aJ g (eG g (aa g) aF)<|aa g) (aj (bq lZ) au) au) au)
theorem aaO:MY j5 eT kP ae kQ kR ae ae ae d3 0 9:=by
 intro b Γ X G;show PS X (.Return (some _) _) (cX Γ<|.ret _)
 with_reducible exact(bq lZ)
theorem aaP:MX j5 eT kP ae kQ kR ae ae ae d3 0:=by
 intro c Γ X G;have e:gH eT=[fX eT 0,fX eT 1,fX eT 2,fX eT 3,fX eT 4,fX eT 5,fX eT 6,fX eT 7,fX eT 8,fX eT 9]:=rfl
 have b:d3=[fY d3 0,fY d3 1,fY d3 2,fY d3 3,fY d3 4,fY d3 5,fY d3 6,fY d3 7,fY d3 8,fY d3 9]:=rfl
 rw[e,b]
 with_reducible exact aj (aaF G) (aj (aaG G)<|aj (aaH G)<|aj (aaI G)<|aj (aaJ G)<|aj (aaK G)<|aj (aaL G)<|aj (aaM G)<|aj (aaN G)<|aj (aaO G)<|au)
end L2.fG
namespace L2.B
def eI(H H':Hp):Prop:= ∀b xs,H b=some (.tup xs)->H' b=some (.tup xs)
theorem bV(h:aD H H'):eI H H':=λb xs e=>h b _ e
theorem eI.trans(a:eI H H1)(b:eI H1 H2):eI H H2:=λc xs e=>b c xs (a c xs e)
theorem sameNew{o:HO}(h:H p=none):aD H (upd H p o):=λb u e=>by rw[ax<|aM e h];exact e
def aR(c:Addr)(H H':Hp):Prop:= ∀b o,H b=some o->b≠c->H' b=some o
theorem aR.upd{o:HO}:aR c H (upd H c o):=λb u e n=>by rw[ax n];exact e
theorem aR.trans(a:aR c H H1)(b:aR c H1 H2):aR c H H2:=λd o e n=>b d o (a d o e n) n
theorem sameBut(a:aD H H1)(b:aR c H1 H2):aR c H H2:=λd o e n=>b d o (a d o e) n
theorem o6(a:aD H H1)(h:H c=none)(b:aR c H1 H2):aD H H2:=λd o e=>b d o (a d o e) (aM e h)
theorem aR.dS(h:aR c H H')(d:H c=some (.lst xs)):eI H H':=λb ys e=>h b _ e (λz=>by lia)
theorem iF{A b:Prop}(q:b)(h:c=false:=by first|rfl|decide):if c=true then A else b:=by lia
theorem iT{A b:Prop}(q:A)(h:c=true:=by first|rfl|decide):if c=true then A else b:=by lia
inductive Pt where|keep (n:Int)|put (s:Str)|cut (s:Str)
 deriving DecidableEq
def Pt.word:Pt->Str|.keep _=> "keep" |.put _=> "put" |.cut _=> "cut"
def Pt.val:Pt->V|.keep n=>.int n|.put s=>.str s|.cut s=>.str s
def je(H:Hp)(v:V)(p:Pt):Prop:= ∃a,v=.ref a/\H a=some (.tup [.str p.word,p.val])
abbrev aH(H:Hp):List V->List Pt->Prop:=Paired (je H)
theorem je.mono(t:eI H H')(h:je H v p):je H' v p:=by
 obtain⟨a,e,h⟩:=h;exact⟨a,e,t _ _ h⟩
theorem aH.mono(t:eI H H'):∀{vs:List V}{ps:List Pt},aH H vs ps->aH H' vs ps:=by
 intro _ _ p;induction p with|nil=>exact .nil|cons h _ i=>exact .cons (h.mono t) i
theorem aH.get:∀{vs:List V}{ps:List Pt}{i:Nat}{v:V},aH H vs ps->vs[i]?=some v->∃p,ps[i]?=some p/\je H v p:=by
 intro _ _ i _ p h;induction p generalizing i with
 |nil=>simp at h
 |cons a r k=>cases i with|zero=>cases h;exact⟨_,rfl,a⟩|succ i=>exact k (by simpa using h)
theorem aH.snoc{p:Pt}(h:aH H vs ps)(q:je H v p):aH H (vs++[v]) (ps++[p]):=Paired.snoc h q
theorem aH.dropLast:∀{vs:List V}{ps:List Pt},aH H vs ps->aH H vs.dropLast ps.dropLast:=by
 intro _ _ p;induction p with|nil=>exact .nil|cons h r i=>cases r with|nil=>exact .nil|cons a b=>exact .cons h i
inductive qU(vs:List V)(H:Hp)(Q:VK)(E:XK):Prop|i(i:_)(_:vs=[.int i])(_:Q (.bl true) H)
def o7(w a:Str):Bool:=w !=a && !(a=="cut" && w=="put")
inductive M5(vs:List V)(H:Hp)(Q:VK)(E:XK):Prop|i(w a:_)(_:vs=[.str w,.str a])(_:Q (.bl<|o7 w a) H)
theorem aaQ{K:Frag}(vs:List V)(H:Hp)(Q:VK)(E:XK)(h:M5 vs H Q E):aE (aO K [] [] (E:=E)) J4 {nx:=λ_ H'=>Q .av H',rt:=Q} (start J3 vs) H:=by
 obtain⟨w,a,rfl,q⟩:=h;refine⟨_,rfl,_,rfl,_,rfl,?_⟩;unfold o7 at q;refine gK (λh=>?_)<|λh=>?_
 ·rw[zaM,ie] at h;have e:(w !=a)=true:=h;rw[e] at q;refine⟨_,rfl,_,rfl,?_⟩;refine gK (λb=>?_)<|λb=>?_
  ·rw[zaL,ie] at b;rw[b] at q;refine⟨_,rfl,?_⟩;show Q (.bl<|!(false ^^ decide (V.str w=V.str "put"))) H;rw[zaL,ie];exact q
  ·have c:(a=="cut")=false:=by lia
   rw[c] at q;exact q
 ·have e:(w !=a)=false:=by lia
  rw[e] at q;exact q
def qW:Pt->Int|.keep n=>n|.put s=>s.length|.cut s=>s.length
def M6:Pt->Prop|.keep _=>True|.put s=>s.length<=1000000|.cut s=>s.length<=1000000
theorem dz(h:n<=1000000):n<=sizeLine:=zap h (by decide)
theorem dh(h:n<=1000000):n<sizeLine:=Nat.lt_of_le_of_lt h (by decide)
inductive o8(vs:List V)(H:Hp)(Q:VK)(E:XK):Prop|i(v p:_)(_:vs=[v])(_:je H v p)(_:M6 p)(_:Q (.int<|qW p) H)
theorem aaR{K:Frag}(vs:List V)(H:Hp)(Q:VK)(E:XK)(h:o8 vs H Q E):aE (aO K [] [] (E:=E)) J_ {nx:=λ_ H'=>Q .av H',rt:=Q} (start J9 vs) H:=by
 obtain⟨v,p,rfl,⟨a,rfl,b⟩,c,q⟩:=h;refine⟨_,rfl,.inr<|.inl ⟨_,_,_,_,rfl,rfl,aK.of b,rfl,_,rfl,?_⟩⟩;cases p with
 |keep n=>exact gJ ⟨_,rfl,.inr<|.inl ⟨_,_,_,_,rfl,rfl,aK.of b,rfl,q⟩⟩
 |put s=>exact iI ⟨_,rfl,.inr<|.inl ⟨_,_,_,_,rfl,rfl,aK.of b,rfl,dz c,q⟩⟩
 |cut s=>exact iI ⟨_,rfl,.inr<|.inl ⟨_,_,_,_,rfl,rfl,aK.of b,rfl,dz c,q⟩⟩
def cell(b:List Int)(k:Nat):Int:=b.getD k 0
inductive qX(K:Frag)(vs:List V)(H:Hp)(Q:VK)(E:XK):Prop|i(a:Addr)(b:List Int)(k:Int)(_:vs=[.ref a,.int k])(_:aB K H a (b.map V.int))(_:0<=k)(_:Q (.int<|cell b k.toNat) H)
theorem aaS{K:Frag}(vs:List V)(H:Hp)(Q:VK)(E:XK)(h:qX K vs H Q E):aE (aO K [] [] (E:=E)) Km {nx:=λ_ H'=>Q .av H',rt:=Q} (start Kk vs) H:=by
 obtain⟨a,b,k,rfl,c,d,q⟩:=h;refine⟨_,rfl,_,rfl,.inl ⟨_,c,trivial,_,rfl,?_⟩⟩;rw[zae];refine gK (λh=>?_)<|λh=>?_
 ·refine⟨_,rfl,_,rfl,.inl ⟨_,_,_,_,rfl,rfl,c,?_,q⟩⟩;have e:=gg (xs:=b.map V.int) (j:=k.toNat) (v:=.int (cell b k.toNat)) (by
   have:k.toNat<b.length:=by lia
   simp[cell,this])
  rw[show((k.toNat:Nat):Int)=k by lia] at e
  exact e
 ·have e:cell b k.toNat=0:=by
   have z:b[k.toNat]?=none:=List.getElem?_eq_none_iff.mpr (by lia)
   unfold cell;rw[zaF,z];rfl
  rw[e] at q;exact q
theorem DH:(0:Int) <1000003:=by decide
def mixed(c k:Int):Int:=let n:=(c*48271+7919*k+11) % 1000003;n*n % 1000003*n % 1000003
inductive zv(vs:List V)(H:Hp)(Q:VK)(E:XK):Prop|i(c k:_)(_:vs=[.int c,.int k])(_:Q (.int<|mixed c k) H)
theorem aaT{K:Frag}(vs:List V)(H:Hp)(Q:VK)(E:XK)(h:zv vs H Q E):aE (aO K [] [] (E:=E)) Ko {nx:=λ_ H'=>Q .av H',rt:=Q} (start Kn vs) H:=by
 obtain⟨c,k,rfl,q⟩:=h
 refine⟨_,rfl,.inr ⟨by lia,by lia⟩,_,rfl,.inl ⟨by lia,by lia⟩,DH,?_⟩
 refine⟨_,rfl,_,rfl,.inl ⟨by lia,by lia⟩,DH,_,rfl,.inl ⟨by lia,by lia⟩,DH,?_⟩
 exact q
theorem aaU(c k:Int):0<=mixed c k/\mixed c k<1000003:=⟨zba _ (by lia),zaT _ (by lia)⟩
def SG:Str:=" !\"#$&'()*+,-./0123456789:;<=>?@ABCDEFGHIJKLMNOPQRSTUVWXYZ[\\]^_`abcdefghijklmnopqrstuvwxyz{|}~\n"
def good(x:Str):Prop:=x.length<=1000000/\∀c∈x.cps.toList,SG.cps.contains c=true
theorem takeWhile_all{b:Type}(p:b->Bool):∀l:List b,(∀c∈l,p c=true)->l.takeWhile p=l
 |[],_=>rfl
 |c::l,h=>by rw[List.takeWhile_cons,h c zax,takeWhile_all p l λd e=>h d (zay _ e)];rfl
theorem aaV(x y:Str)(h:∀c∈x.cps.toList,y.cps.contains c=true):Txt.lstripChars x y="":=by
 have e:stripLo y.cps.contains true x=x.length:=by
  unfold stripLo;rw[takeWhile_all _ _ h]
  simp[Str.length]
 have b:stripHi y.cps.contains false x x.length=x.length:=rfl;unfold Txt.lstripChars Txt.stripBy stripSame stripped;rw[e]
 split
 ·rename_i q
  simp only[zag,beq_iff_eq] at q
  have:=zbL q.1;obtain⟨c⟩:=x;subst this
  rfl
 ·show(⟨x.cps.extract x.length x.length⟩:Str)=_;have:x.cps.extract x.length x.length= #[]:=by simp[Str.length]
  rw[this];rfl
theorem vR{a:Addr}{T:Ty}{k:Bool->Prop}(h:H a=some (.tup xs))(q:k (T==.tuple)):cj T (.ref a) H k:=by
 show(match H a with|some (.lst _)=>k (T==.list)|some (.cw _<|.lst _)=>k (T==.list)|some (.tup _)=>k (T==.tuple)|some (.dK _)=>k (T==.dict)|some (.dT _)=>k (T==.dict)|_=>False)
 rw[h];exact q
theorem M7{a:Addr}{T:Ty}{k:Bool->Prop}(h:H a=some (.lst xs))(q:k (T==.list)):cj T (.ref a) H k:=by
 show(match H a with|some (.lst _)=>k (T==.list)|some (.cw _<|.lst _)=>k (T==.list)|some (.tup _)=>k (T==.tuple)|some (.dK _)=>k (T==.dict)|some (.dT _)=>k (T==.dict)|_=>False)
 rw[h];exact q
abbrev gS:List (Str×V):=[("SIGNS",.str SG)]
inductive aaW(vs:List V)(H:Hp)(Q:VK)(E:XK):Prop|i(x:_)(_:vs=[.str x])(_:good x)(_:Q (.bl true) H)
theorem aaX{K:Frag}(vs:List V)(H:Hp)(Q:VK)(E:XK)(h:aaW vs H Q E):aE (aO K [] gS (E:=E)) Dj {nx:=λ_ H'=>Q .av H',rt:=Q} (start jB vs) H:=by
 obtain⟨x,rfl,b,q⟩:=h;refine⟨_,rfl,rfl,_,rfl,gJ ⟨_,rfl,rfl,dz b.1,?_⟩⟩;show Q (.bl<|false ^^ decide (V.str (Txt.lstripChars x SG)=V.str "")) H;rw[aaV x SG b.2];exact q
def aX:Pt->Prop|.keep n=>1<=n|.put s=>good s/\s≠"" |.cut s=>good s/\s≠""
inductive mq(K:Frag)(vs:List V)(H:Hp)(Q:VK)(E:XK):Prop|i(w p xs:_)(_:vs=[.str w,.ref p])(_:aK K H p xs)(_:xs.all i6=true)(_:Q (.bl<|gX (.str w) xs) H)
theorem aaY{K:Frag}(vs:List V)(H:Hp)(Q:VK)(E:XK)(h:mq K vs H Q E):aE (aO K [] [] (E:=E)) Di {nx:=λ_ H'=>Q .av H',rt:=Q} (start Dh vs) H:=by
 obtain⟨w,p,xs,rfl,b,f,q⟩:=h;exact⟨_,rfl,rfl,_,rfl,gJ ⟨_,rfl,_,rfl,p,xs,rfl,.inr b,rfl,f,q⟩⟩
inductive DI(vs:List V)(H:Hp)(Q:VK)(E:XK):Prop|i(v p:_)(_:vs=[v])(_:je H v p)(_:aX p)(_:∀H',aD H H'->Q (.bl true) H')
def chainOk:Str->List Pt->Bool
 |_,[]=>true
 |a,p::r=>o7 p.word a && chainOk p.word r
def qY(a:Str)(ps:List Pt):Nat->Str
 | 0=>a
 |i+1=>match ps[i]? with|some p=>p.word|none=> ""
theorem M8:∀(ps:List Pt) (a:Str) (i:Nat) (p:Pt),chainOk a ps=true->ps[i]?=some p->o7 p.word (qY a ps i)=true
 |[],_,_,_,_,h=>by simp at h
 |q::r,a,0,p,h,e=>by
  simp only[chainOk,zag] at h
  simp at e;subst e;exact h.1
 |q::r,a,i+1,p,h,e=>by
  simp only[chainOk,zag] at h
  have b:=M8 r q.word i p h.2 (by simpa using e);cases i with
  |zero=>simpa[qY] using b
  |succ i=>simpa[qY] using b
abbrev aaZ:List (Str×Sp):=[("is_part",DI),("may_follow",M5)]
inductive zw(vs:List V)(H:Hp)(Q:VK)(E:XK):Prop|i(a xs ps:_)(_:vs=[.ref a])(_:H a=some (.lst xs))(_:aH H xs ps)(_:(∀p∈ps,aX p))(_:chainOk "" ps=true)(_:∀H',aD H H'->Q .av H')
theorem aa0{K:Frag}{et:List (Str×Addr)}(vs:List V)(H:Hp)(Q:VK)(E:XK)(h:zw vs H Q E):aE (aO K aaZ [] (et:=et) (E:=E)) J6 {nx:=λ_ H'=>Q .av H',rt:=Q} (start J5 vs) H:=by
 obtain⟨a,xs,e,rfl,l,u,G,w,q⟩:=h;refine⟨_,rfl,rfl,M7 l ⟨_,rfl,a,rfl,⟨_,aB.of l⟩,lR (λi σ H2=>∃v,σ=[some (.ref a),some (.str (qY "" e i)),v]/\aD H H2) ⟨none,rfl,aD.refl _⟩
  (λi σ H2 _ ⟨_,_,d⟩=>aB.of (d _ _ l)) ?_ ?_⟩⟩
 ·rintro i x σ H2 m ⟨v,rfl,d⟩;obtain⟨p,g,S⟩:=u.get m;obtain⟨b,rfl,k⟩:=S.mono (bV d);refine⟨_,rfl,_,p,rfl,⟨b,rfl,k⟩,G p<|zan g,λA f=>⟨_,rfl,.inr<|.inl ⟨_,_,_,_,rfl,rfl,aK.of<|f _ _ k,rfl,_,rfl,p.word,_,rfl,?_⟩⟩⟩;show(λc H1=>if (!c)=true then _ else _) (o7 p.word<|qY "" e i) A
  rw[(M8 e "" i p w g)];refine⟨_,rfl,.inr<|.inl ⟨_,_,_,_,rfl,rfl,aK.of<|f _ _ k,rfl,some<|.ref b,?_,d.trans f⟩⟩;show[some<|V.ref a,some<|V.str p.word,some<|V.ref b]=_;have t:qY "" e (i+1)=p.word:=by simp only[qY,g]
  rw[t]
 ·rintro σ H2 ⟨v,rfl,d⟩;exact q H2 d
def overOf(ps:List Pt):List Int:=(ps.filter λp=>decide (p.word≠ ("put":Str))).map qW
def vS(ps:List Pt):List Int:=(ps.filter λp=>decide (p.word≠ ("cut":Str))).map qW
abbrev M9:List (Str×Sp):=[("need_change",zw),("part_size",o8)]
inductive nE(vs:List V)(H:Hp)(Q:VK)(E:XK):Prop|i(a xs ps:_)(_:vs=[.ref a])(_:H a=some (.lst xs))(_:aH H xs ps)(_:(∀p∈ps,aX p))(_:chainOk "" ps=true)(_:ps.length<=1000000)(_:∀t H',aD H H'->H' t=some (.tup [.int (overOf ps).sum,.int (vS ps).sum])->Q (.ref t) H')
theorem zx(h:aX p):M6 p:=by
 cases p with
 |keep n=>trivial
 |put s=>exact h.1.1
 |cut s=>exact h.1.1
theorem aa1{b:Type}(p:b->Bool)(l:List b)(i:Nat)(v:b)(h:l[i]?=some v):(l.take<|i+1).filter p=(l.take i).filter p++(if p v then [v] else []):=by
 rw[zbA,h];cases c:p v<;>simp[c]
theorem aa2{K:Frag}(vs:List V)(H:Hp)(Q:VK)(E:XK)(h:nE vs H Q E):aE (aO K M9 [] (E:=E)) Kb {nx:=λ_ H'=>Q .av H',rt:=Q} (start Ka vs) H:=by
 obtain⟨a,xs,g,rfl,k,D,S,b_,P,q⟩:=h;refine⟨_,rfl,a,xs,g,rfl,k,D,S,b_,λH1 l=>?_⟩;have hl:=Paired.length D;have f:∀(w:Str) (H1:Hp) (I:VK) (σ:St),aD H H1->σ[0]?=some (some<|.ref a)->
   (∀b H2,aD H H2->H2 b=some (.lst<|((g.filter λp=>decide (p.word≠w)).map qW).map V.int)->I (.ref b) H2)->
   ag (aO K M9 [] (E:=E)) (.comp none [] .list [.v 0] (some<|.cmp .NotEq (.ix (.v 0)<|.c<|.int 0)<|.c<|.str w)<|.call 1 [.v 0]) σ H1 I:=by
  intro w H1 I σ l A hq;refine⟨_,A,a,rfl,⟨_,aB.of<|l _ _ k⟩,λi m ys H2=>m=xs.length - i/\i<=xs.length/\aD H H2/\ys=(((g.take i).filter λp=>decide (p.word≠w)).map qW).map V.int,⟨_,rfl,zqZ _,l,rfl⟩,?_⟩;rintro i m ys H2 ⟨rfl,hi,d,rfl⟩;by_cases G:i<xs.length
  ·refine .inr ⟨⟨xs,xs[i],aB.of<|d _ _ k,by simp[G]⟩,?_⟩
   rintro x H3 ⟨rfl,hx⟩;obtain⟨p,u,X⟩:=D.get (hx xs (aB.of<|d _ _ k));obtain⟨b,rfl,R⟩:=X.mono (bV d);refine⟨_,rfl,.inr<|.inl ⟨_,_,_,_,rfl,rfl,aK.of R,rfl,_,rfl,?_⟩⟩;have N:=aa1 (λp=>decide<|p.word≠w) g i p u;have hc:((g.take i).filter λp=>decide (p.word≠w)).length<=1000000:=zap (zbU _ _) (zap (List.length_take_le _ _) (by lia))
   refine gK (λh=>?_)<|λh=>?_
   ·have e:decide (p.word≠w)=true:=by lia
    refine⟨_,rfl,_,p,rfl,⟨b,rfl,R⟩,zx<|S p<|zan u,?_,xs.length - (i+1),by lia,rfl,G,d,?_⟩
    ·rw[zae,zae];exact dh hc
    ·rw[N,e];simp
   ·have e:=by simpa using h
    refine⟨xs.length - (i+1),by lia,rfl,G,d,?_⟩
    rw[N,e];simp
  ·have Z:i=xs.length:=by lia
   subst Z;refine .inl ⟨⟨xs,aB.of<|d _ _ k,zqR _⟩,λp u=>?_⟩;have e:g.take xs.length=g:=zaI (by lia)
   rw[e];exact hq p _ (d.trans<|sameNew u) aw
 refine JU<|JV<|JW<|f "put" H1 _ _ l rfl λb1 H2 d e2=>⟨_,aB.of e2,JU<|JV<|JW<|f "cut" H2 _ _ d rfl λb2 H3 T e3=>⟨_,aB.of e3,?_⟩⟩;exact⟨_,rfl,_,rfl,fQ,λt ht=>q t _ (T.trans<|sameNew ht) aw⟩
def cat(t:List Str):Str:=Txt.join "" t
def sz(t:List Str):Nat:=(t.map Str.length).sum
theorem ofString_empty:(Str.ofString "")=⟨#[]⟩:=rfl
theorem tL(b:List Str):(cat b).cps.toList=(b.map λt=>t.cps.toList).flatten:=by
 have e:(Str.ofString "").cps= #[]:=rfl;cases b with
 |nil=>rfl
 |cons t r=>
  show(r.foldl (λc p=>c++(Str.ofString "").cps++p.cps) t.cps).toList=_;rw[e];have g:∀(r:List Str) (c:Array Nat),(r.foldl (λc p=>c++ #[]++p.cps) c).toList=c.toList++(r.map λt=>t.cps.toList).flatten:=by
   intro r
   induction r with
   |nil=>intro c;simp
   |cons q r h=>
    intro c;show(r.foldl (λc p=>c++ #[]++p.cps)<|c++ #[]++q.cps).toList=_;rw[h];simp
  rw[g];simp
theorem jE(h:x.cps.toList=y.cps.toList):x=y:=by
 obtain⟨x⟩:=x;obtain⟨y⟩:=y;exact congrArg Str.mk<|Array.toList_inj.mp h
theorem app_list(x y:Str):(x++y).cps.toList=x.cps.toList++y.cps.toList:=by
 show(x.cps++y.cps).toList=_
 simp
theorem DJ(a b:List Str):cat (a++b)=cat a++cat b:=jE (by rw[app_list,tL,tL,tL];simp)
theorem DK(x:Str):cat [x]=x:=jE (by rw[tL];simp)
theorem len_list(x:Str):x.length=x.cps.toList.length:=rfl
theorem DL(t:List Str):(cat t).length=sz t:=by
 rw[len_list,tL,List.length_flatten];rw[List.map_map]
 congr 1
theorem M_(x:Str):x++(Str.ofString "")=x:=rfl
theorem tM(x:Str):(Str.ofString "")++x=x:=jE (by rw[app_list];simp[ofString_empty])
theorem Na(a b:List Str):sz (a++b)=sz a+sz b:=by simp[sz]
theorem joinOk_of(h:sz b<=1000000):JoinOk "" b=true:=by
 have g:∀(l:List Str) (n:Nat),l.foldl (· + ·.length+(Str.ofString "").length) n=n+sz l:=by
  intro l
  induction l with
  |nil=>intro n;rfl
  |cons t r c=>
   intro n;show r.foldl _ (n+t.length+0)=_;rw[c];show n+t.length+0+sz r=n+(t.length+sz r);lia
 unfold JoinOk;have e:b.toArray.foldl (· + ·.length+(Str.ofString "").length) 0=sz b:=by
  rw[List.foldl_toArray,g,zbi]
 rw[e];show(!decide (sz b>sizeLine))=true;rw[zqF (by have:=dz h;lia)]
 rfl
def txt(mk:Str->Pt)(x:Str):List Pt:=if x="" then [] else [mk x]
def d4(ch:List Pt)(c b:List Str):List Pt:=ch++txt .put (cat c)++txt .cut (cat b)
inductive Nb(vs:List V)(H:Hp)(Q:VK)(E:XK):Prop|i(c p q xs ps b d:_)(_:vs=[.ref c,.ref p,.ref q])(_:H c=some (.lst xs))(_:aH H xs ps)(_:H p=some (.lst<|b.map .str))(_:H q=some (.lst<|d.map .str))(_:sz b<=1000000)(_:sz d<=1000000)(_:ps.length<=900000)(_:∀H' e,aR c H H'->H' c=some (.lst e)->aH H' e (d4 ps b d)->Q .av H')
theorem aa3{K:Frag}(vs:List V)(H:Hp)(Q:VK)(E:XK)(h:Nb vs H Q E):aE (aO K [] [] (E:=E)) Kf {nx:=λ_ H'=>Q .av H',rt:=Q} (start Ke vs) H:=by
 obtain⟨c,p,q,xs,I,f,T,rfl,hc,dj,hp,hq,Z,DM,hl,k⟩:=h;refine⟨rfl,_,rfl,f,aB.of hp,joinOk_of Z,?_⟩;refine⟨rfl,_,rfl,T,aB.of hq,joinOk_of DM,?_⟩;have X:∀(i:Nat) (w x:Str) (mk:Str->Pt) (H1:Hp) (g:List V) (m:List Pt) (σ:St) (D:Ends),(∀y,(mk y).word=w/\(mk y).val=.str y)->H1 c=some (.lst g)->aH H1 g m->m.length<=950000->σ[0]?=some (some<|.ref c)->σ[i]?=some (some<|.str x)->
   (∀H2 d,aR c H1 H2->H2 c=some (.lst d)->aH H2 d (m++txt mk x)->D.nx σ H2)->
   cX (aO K [] [] (E:=E)) (.ite (.cmp .NotEq (.v i)<|.c<|.str "") [.drop<|.bE .append (.v 0) [(.tup [(.c<|.str w),.v i])]] []) D σ H1:=by
  intro i w x mk H1 g m σ D S u N c6 h0 R P;have a':=Paired.length N;refine⟨_,R,_,rfl,?_⟩;rw[zaM,ie];refine gK (λh=>?_)<|λh=>?_
  ·have ne:x≠"":=by simpa using h
   refine⟨_,h0,.inl ⟨rfl,_,aB.of u⟩,_,R,fQ,λt l=>?_⟩;have G:c≠t:=aM u l;refine⟨g,(by rw[ax G];exact u),dh (by lia),P _ (g++[.ref t]) ((sameBut (sameNew l) aR.upd)) aw ?_⟩
   have tt:eI H1 (upd (upd H1 t<|.tup [.str w,.str x]) c<|.lst<|g++[.ref t]):=(sameBut (sameNew l) aR.upd).dS u;unfold txt;rw[if_neg ne];refine aH.snoc (N.mono tt) ⟨t,rfl,?_⟩;rw[ax G.symm,aw,(S x).1,(S x).2]
  ·have e:x="":=by simpa using h
   refine P H1 g (λb o e _=>e) u ?_;unfold txt;rw[if_pos e,zac];exact N
 refine X 3 "put" (cat f) .put H xs I _ _ (λ_=>⟨rfl,rfl⟩) hc dj (by lia) rfl rfl λH2 d b2 c4 nF=>?_
 have l2:(I++txt .put (cat f)).length<=950000:=by
  rw[zqA];have:(txt .put<|cat f).length<=1:=by unfold txt;split<;>simp
  lia
 refine X 4 "cut" (cat T) .cut H2 d _ _ _ (λ_=>⟨rfl,rfl⟩) c4 nF l2 rfl rfl λH3 j6 b3 kT A=>?_;exact k H3 j6 (b2.trans b3) kT A
def eU(ch:List Pt)(n:Int):List Pt:=match ch.getLast? with
 |some (.keep m)=>ch.dropLast++[.keep<|n+m]
 |_=>ch++[.keep n]
inductive Nd(vs:List V)(H:Hp)(Q:VK)(E:XK):Prop|i(c n xs ps:_)(_:vs=[.ref c,.int n])(_:H c=some (.lst xs))(_:aH H xs ps)(_:ps.length<=900000)(_:∀H' b,aR c H H'->H' c=some (.lst b)->aH H' b (eU ps n)->Q .av H')
theorem aH.last(h:aH H xs ps)(d:xs.length≠0):∃v p,xs[xs.length - 1]?=some v/\gG xs (-1)=some v/\ps.getLast?=some p/\je H v p:=by
 have D:xs.length - 1<xs.length:=by lia
 obtain⟨p,c,b⟩:=h.get (i:=xs.length - 1) (v:=xs[xs.length - 1]) (by simp)
 refine⟨xs[xs.length - 1],p,by simp,?_,?_,b⟩
 ·unfold gG ju;have:¬(0:Int)<= -1:=by lia
  rw[if_neg this,if_pos (by lia)]
  have e:((-1:Int)+(xs.length:Int)).toNat=xs.length - 1:=by lia
  rw[e];simp
 ·rw[List.getLast?_eq_getElem?,<-Paired.length h];exact c
theorem aa6{K:Frag}(vs:List V)(H:Hp)(Q:VK)(E:XK)(h:Nd vs H Q E):aE (aO K [] [] (E:=E)) Kd {nx:=λ_ H'=>Q .av H',rt:=Q} (start Kc vs) H:=by
 obtain⟨c,n,xs,g,rfl,d,l,x,k⟩:=h;have P:=Paired.length l;have f:∀(m:Int) (H1:Hp) (N:List V) (q:List Pt),aR c H H1->H1 c=some (.lst N)->aH H1 N q->q.length<=900000->eU g n=q++[.keep m]->
   aE (aO K [] [] (E:=E)) [.drop<|.bE .append (.v 0) [(.tup [(.c<|.str "keep"),.v 1])]] {nx:=λ_ H'=>Q .av H',rt:=Q} [some<|.ref c,some<|.int m] H1:=by
  intro m H1 N q b1 u I c6 e;have a':=Paired.length I;refine⟨_,rfl,.inl ⟨rfl,_,aB.of u⟩,_,rfl,fQ,λt w=>?_⟩;have G:c≠t:=aM u w;refine⟨N,(by rw[ax G];exact u),dh (by lia),k _ (N++[.ref t]) (b1.trans<|sameBut (sameNew w) aR.upd) aw ?_⟩
  rw[e];refine aH.snoc (I.mono<|(sameBut (sameNew w) aR.upd).dS u) ⟨t,rfl,?_⟩;rw[ax G.symm,aw];rfl
 refine⟨_,rfl,.inl ⟨_,aB.of d,trivial,_,rfl,?_⟩⟩;refine gK (λh=>?_)<|λh=>?_
 ·have S:xs.length≠0:=by
   lia
  obtain⟨v,p,X,T,D,a,rfl,A⟩:=l.last S;refine⟨_,rfl,.inl ⟨_,_,_,_,rfl,rfl,aB.of d,T,.inr<|.inl ⟨_,_,_,_,rfl,rfl,aK.of A,rfl,_,rfl,?_⟩⟩⟩;rw[zaL,ie];cases p with
  |keep m=>
   have R:upd H c (.lst xs.dropLast) a=some (.tup [.str "keep",.int m]):=by rw[ax<|cA A d (by intro z;cases z)];exact A
   refine⟨_,rfl,_,rfl,.inl ⟨rfl,_,aB.of d⟩,xs,_,d,X,.inr<|.inl ⟨_,_,_,_,rfl,rfl,aK.of R,rfl,?_⟩⟩
   ·refine f (n+m) _ xs.dropLast g.dropLast aR.upd aw (l.dropLast.mono<|aR.upd.dS d) (by rw[zbT];lia) ?_
    unfold eU;rw[D]
  |put s=>exact f n H xs g (λb o e _=>e) d l x (by unfold eU;rw[D])
  |cut s=>exact f n H xs g (λb o e _=>e) d l x (by unfold eU;rw[D])
 ·have Z:g=[]:=by
   exact zaE.mp (by lia)
  exact f n H xs g (λb o e _=>e) d l x (by rw[Z];rfl)
abbrev NS:=List Pt×List Str×List Str
def dG:NS->Pt->NS
 |(ch,p,c),.put s=>(ch,p++[s],c)
 |(ch,p,c),.cut s=>(ch,p,c++[s])
 |(ch,p,c),.keep n=>if 0<n then (eU (d4 ch p c) n,[],[]) else (ch,p,c)
def jF(ps:List Pt):List Pt:=let s:=ps.foldl dG ([],[],[]);d4 s.1 s.2.1 s.2.2
def dX:Pt->Nat|.keep _=>0|.put s=>s.length|.cut s=>s.length
def az(ps:List Pt):Nat:=(ps.map dX).sum
theorem DN(ps:List Pt)(i:Nat):az (ps.take i)<=az ps:=by
 have:az ps=az (ps.take i)+az (ps.drop i):=by
  unfold az;rw[<-zbb,<-zaq,zbc]
 lia
theorem Nf{ps:List Pt}{p:Pt}(h:ps[i]?=some p):az (ps.take<|i+1)=az (ps.take i)+dX p:=by
 rw[zbA,h]
 simp[az]
theorem Ng{d c:Type}{f:c->d->c}{b:c}{l:List d}{i:Nat}{p:d}(h:l[i]?=some p):(l.take<|i+1).foldl f b=f ((l.take i).foldl f b) p:=by
 rw[zbA,h,List.foldl_append]
 rfl
theorem Nh(mk:Str->Pt)(x:Str):(txt mk x).length<=1:=by unfold txt;split<;>simp
theorem zy(ch:List Pt)(p c:List Str):(d4 ch p c).length<=ch.length+2:=by
 unfold d4;have:=Nh .put (cat p);have:=Nh .cut (cat c)
 simp
 lia
theorem Ni(ch:List Pt)(n:Int):(eU ch n).length<=ch.length+1:=by
 unfold eU
 split
 ·simp only[zqA,zbT,zbw];lia
 ·simp
abbrev aa7:List (Str×Sp):=[("add_texts",Nb),("add_keep",Nd)]
inductive qZ(vs:List V)(H:Hp)(Q:VK)(E:XK):Prop|i(a xs ps:_)(_:vs=[.ref a])(_:H a=some (.lst xs))(_:aH H xs ps)(_:ps.length<=100000)(_:az ps<=100000)(_:∀b H' ys,aD H H'->H b=none->H' b=some (.lst ys)->aH H' ys (jF ps)->Q (.ref b) H')
theorem aa8{K:Frag}(vs:List V)(H:Hp)(Q:VK)(E:XK)(h:qZ vs H Q E):aE (aO K aa7 [] (E:=E)) Kh {nx:=λ_ H'=>Q .av H',rt:=Q} (start Kg vs) H:=by
 obtain⟨a,xs,m,rfl,ha,dj,hl,ht,k⟩:=h;have d':=Paired.length dj;refine⟨zqZ _,λc D=>⟨zqZ _,λp0 Z=>⟨zqZ _,λq0 N=>?_⟩⟩⟩;have DO:c≠p0:=λz=>by rw[<-z,aw] at Z;cases Z
 have Nj:c≠q0:=λz=>by rw[<-z,ax DO,aw] at N;cases N
 have Nk:p0≠q0:=λz=>by rw[<-z,aw] at N;cases N
 have s0:aD H (upd (upd (upd H c<|.lst []) p0<|.lst []) q0<|.lst []):=(sameNew D).trans ((sameNew Z).trans<|sameNew N);have c':H p0=none:=(sameNew D).free Z;have b':H q0=none:=((sameNew D).trans<|sameNew Z).free N;refine⟨_,rfl,a,rfl,⟨_,aB.of (s0 _ _ ha)⟩,lR (K:=K) (a:=a) (xs:=xs) (λi σ H2=>qX8 λp q g d f G w x=>qA16 (σ=[some (.ref a),some (.ref c),some (.ref p),some (.ref q),w,x]) (H p=none) (H q=none) (p≠c) (q≠c) (p≠q) (aD H H2) (H2 c=some (.lst G)) (aH H2 G g) (H2 p=some (.lst (d.map .str))) (H2 q=some (.lst (f.map .str))) ((m.take i).foldl dG ([],[],[])=(g,d,f)) (g.length<=3*i) (d.length<=i) (f.length<=i) (sz d+sz f<=az (m.take i)))
  ⟨p0,q0,[],[],[],[],none,none,rfl,c',b',DO.symm,Nj.symm,Nk,s0,(by rw[ax Nj,ax DO,aw]),.nil,(by rw[ax Nk,aw];rfl),aw,rfl,by simp,by simp,by simp,by simp[sz]⟩
  (λi σ H2 _ ⟨_,_,_,_,_,_,_,_,_,_,_,_,_,_,l,_,_,_,_,_,_,_,_,_⟩=>aB.of (l _ _ ha)) ?_ ?_⟩
 ·rintro i x σ H2 hi ⟨p,q,g,d,f,G,w,x',rfl,fp,fq,pc,X,R,l,P,T,A,u,ef,l1,l2,l3,l4⟩;obtain⟨pt,kU,kS⟩:=dj.get hi;obtain⟨b,rfl,hb⟩:=kS.mono (bV l);have i7:i<m.length:=(zad.mp kU).1;have ph:(m.take<|i+1).foldl dG ([],[],[])=dG (g,d,f) pt:=by rw[Ng kU,ef]
  have et:=Nf kU;have tb:=DN m i;refine⟨b,_,rfl,.inl<|aK.of hb,rfl,_,_,rfl,_,_,rfl,rfl,?_⟩;cases pt with
  |put s=>
   refine⟨_,rfl,_,rfl,_,rfl,.inl ⟨rfl,_,aB.of A⟩,_,rfl,_,A,dh (by rw[zae];lia),?_⟩
   have t:aR p H2 (upd H2 p<|.lst<|d.map V.str++[.str s]):=aR.upd;refine⟨p,q,g,d++[s],f,G,_,_,rfl,fp,fq,pc,X,R,o6 l fp t,t _ _ P pc.symm,T.mono<|t.dS A,(by rw[aw,zaq];rfl),t _ _ u R.symm,ph,by lia,by simp;lia,by lia,?_⟩
   rw[Na,et];show sz d+(s.length+0)+sz f<=az (m.take i)+s.length;lia
  |cut s=>
   refine⟨_,rfl,_,rfl,_,rfl,_,rfl,_,rfl,.inl ⟨rfl,_,aB.of u⟩,_,rfl,_,u,dh (by rw[zae];lia),?_⟩
   have t:aR q H2 (upd H2 q<|.lst<|f.map V.str++[.str s]):=aR.upd;refine⟨p,q,g,d,f++[s],G,_,_,rfl,fp,fq,pc,X,R,o6 l fq t,t _ _ P X.symm,T.mono<|t.dS u,t _ _ A R,(by rw[aw,zaq];rfl),ph,by lia,by lia,by simp;lia,?_⟩
   rw[Na,et];show sz d+(sz f+(s.length+0))<=az (m.take i)+s.length;lia
  |keep n=>
   refine⟨_,rfl,_,rfl,_,rfl,_,rfl,_,rfl,trivial,_,rfl,?_⟩;refine gK (λh=>?_)<|λh=>?_
   ·have hn:0<n:=of_decide_eq_true h;have e2:dG (g,d,f) (.keep n)=(eU (d4 g d f) n,[],[]):=if_pos hn;refine⟨_,rfl,_,rfl,_,rfl,c,p,q,G,g,d,f,rfl,P,T,A,u,by lia,by lia,by lia,λI j6 b3 zz DP=>?_⟩
    have s3:aD H I:=o6 l D b3;refine⟨zqZ _,λS eV=>⟨zqZ _,λq1 fk=>?_⟩⟩;have DQ:c≠S:=aM zz eV;have j7:upd I S (.lst []) c=some (.lst j6):=by rw[ax DQ];exact zz
    have DR:c≠q1:=aM j7 fk;have Nl:S≠q1:=λz=>by rw[<-z,aw] at fk;cases fk
    have nH:upd (upd I S<|.lst []) q1 (.lst []) c=some (.lst j6):=by rw[ax DR];exact j7
    have s5:aD I (upd (upd I S<|.lst []) q1<|.lst []):=(sameNew eV).trans (sameNew fk);refine⟨_,rfl,_,rfl,c,n,j6,_,rfl,nH,DP.mono<|bV s5,?_,λH6 a' b6 iQ zA=>?_⟩
    ·have:=zy g d f;lia
    ·refine⟨S,q1,_,[],[],a',_,_,rfl,s3.free eV,(s3.trans<|sameNew eV).free fk,DQ.symm,DR.symm,Nl,o6 (s3.trans s5) D b6,iQ,zA,b6 _ _ (by rw[ax Nl,aw];rfl) DQ.symm,b6 _ _ (by rw[aw];rfl) DR.symm,ph.trans e2,?_,by simp,by simp,by simp[sz]⟩
     have:=zy g d f;have:=Ni (d4 g d f) n;lia
   ·have hn:¬0<n:=λz=>h (zqT z);have e2:dG (g,d,f) (.keep n)=(g,d,f):=if_neg hn;refine⟨p,q,g,d,f,G,_,_,rfl,fp,fq,pc,X,R,l,P,T,A,u,ph.trans e2,by lia,by lia,by lia,by lia⟩
 ·rintro σ H2 ⟨p,q,g,d,f,G,w,x',rfl,fp,fq,pc,X,R,l,P,T,A,u,ef,l1,l2,l3,l4⟩;have e:m.take xs.length=m:=zaI (by lia)
  rw[e] at ef l4;refine⟨_,rfl,_,rfl,_,rfl,c,p,q,G,g,d,f,rfl,P,T,A,u,by lia,by lia,by lia,λI j6 b3 zz DP=>?_⟩
  refine⟨_,rfl,k c I j6 (o6 l D b3) D zz ?_⟩;unfold jF;rw[ef];exact DP
def A1:Str:=" !\"#$&'()*+,-./0123456789:;<=>?@ABCDEFGHIJKLMNOPQRSTUVWXYZ[\\]^_`"
def A2:Str:="abcdefghijklmnopqrstuvwxyz{|}~\n"
def A3:Str:="ab\n"
def zB(l:Str):Prop:=0<l.length/\l.length<=1000/\∀c∈l.cps.toList,SG.cps.contains c=true
theorem Nm(h:(decide (0<l.length) && decide (l.length<=1000) && l.cps.toList.all λc=>SG.cps.contains c)=true):zB l:=by
 simp only[zag,decide_eq_true_eq,zbK] at h
 exact⟨h.1.1,h.1.2,h.2⟩
theorem abb:zB (A1++A2):=Nm (by decide+kernel)
theorem nI:zB A3:=Nm (by decide+kernel)
theorem abc:A1.length+A2.length<=sizeLine:=by decide+kernel
abbrev Nn:List (Str×Sp):=[("_law_mixed",zv)]
inductive DS(vs:List V)(H:Hp)(Q:VK)(E:XK):Prop|i(c n:_)(_:vs=[.int c,.int n])(_:0<=n)(_:n<=1000)(_:∀x H',good x->x.length=n.toNat->aD H H'->Q (.str x) H')
def DT(t:Str):Prop:=t.length=1/\∀c∈t.cps.toList,SG.cps.contains c=true
theorem zC:∀(b:List Str),(∀t∈b,DT t)->sz b=b.length
 |[],_=>rfl
 |t::r,h=>by
  show t.length+sz r=r.length+1;rw[(h t zax).1,zC r λq c=>h q (zay _ c)];lia
theorem abd(h:∀t∈d,DT t)(e:d.length<=1000):good (cat d):=by
 refine⟨by rw[DL,zC d h];lia,λc b=>?_⟩
 rw[tL,zbM] at b;obtain⟨l,e,b⟩:=b;obtain⟨t,f,rfl⟩:=zai.mp e;exact(h t f).2 c b
theorem abe{K:Frag}(vs:List V)(H:Hp)(Q:VK)(E:XK)(h:DS vs H Q E):aE (aO K Nn [] (E:=E)) Kq {nx:=λ_ H'=>Q .av H',rt:=Q} (start Dk vs) H:=by
 obtain⟨c,n,rfl,T,Z,k⟩:=h;have g:∀(l:Str),zB l->aE (aO K Nn [] (E:=E)) [.ret<|.bE .join (.c<|.str "") [(.comp none [("_law_some",2),("_law_cell",0)] .fS [.v 1] none<|.ix (.v 1)<|.bin .Mod (.bin .FloorDiv (.call 0 [.v 2,.v 0])<|.c<|.int 7)<|.blt .len [.v 1])]]
   {nx:=λ_ H'=>Q .av H',rt:=Q} [some<|.int c,some<|.int n,some<|.str l] H:=by
  intro l f;refine⟨rfl,_,rfl,n,rfl,by lia,by lia,λi m ys H2=>m=n.toNat - i/\i<=n.toNat/\H2=H/\∃b:List Str,ys=b.map V.str/\b.length=i/\∀t∈b,DT t,⟨_,rfl,zqZ _,rfl,[],rfl,rfl,λt q=>by cases q⟩,?_⟩
  rintro i m ys H2 ⟨rfl,X,rfl,b,rfl,A,D⟩;by_cases I:i<n.toNat
  ·refine .inr ⟨I,?_⟩;rintro x H3 ⟨rfl,rfl⟩;refine⟨_,rfl,_,rfl,_,rfl,_,_,rfl,⟨by decide,by decide⟩,_,rfl,dz (by have:=f.2.1;lia),(by have:=f.1;lia),?_⟩
   have w:0<=mixed c (0+(i:Int)) / 7 % (l.length:Int):=zba _ (by have:=f.1;lia)
   have u:mixed c (0+(i:Int)) / 7 % (l.length:Int) < (l.length:Int):=zaT _ (by have:=f.1;lia)
   obtain⟨j,G⟩:∃j,j=mixed c (0+(i:Int)) / 7 % (l.length:Int):=⟨_,rfl⟩;rw[<-G] at w u;have N:j.toNat<l.cps.toList.length:=by rw[<-len_list];lia
   refine .inr<|.inr<|.inl ⟨l,j,l.cps.toList[j.toNat],rfl,(by rw[G]),dz (by have:=f.2.1;lia),?_,?_,n.toNat - (i+1),by lia,rfl,I,rfl,b++[⟨#[l.cps.toList[j.toNat]]⟩],(by rw[zaq];rfl),by simp[A],?_⟩
   ·have e:=gg (xs:=l.cps.toList) (j:=j.toNat) (v:=l.cps.toList[j.toNat]) (by simp[N])
    rw[show((j.toNat:Nat):Int)=j by lia] at e
    exact e
   ·rw[zae];exact dh (by lia)
   ·intro t q;rcases zab.mp q with z|z
    ·exact D t z
    ·rw[zah.mp z];refine⟨rfl,λd S=>?_⟩;have:d=l.cps.toList[j.toNat]:=by simpa using S
     rw[this];exact f.2.2 _<|List.getElem_mem N
  ·have P:i=n.toNat:=by lia
   refine .inl ⟨by show n.toNat<=i;lia,λp R=>?_⟩
   refine⟨b,aB.of aw,joinOk_of (by rw[zC b D];lia),?_⟩
   exact k (cat b) _ (abd D (by lia)) (by rw[DL,zC b D,A,P])<|sameNew R
 refine⟨_,rfl,abc,_,rfl,(by show(0:Int) <3;decide),_,rfl,?_⟩
 refine gK (λh=>?_)<|λh=>?_
 ·exact g A3 nI
 ·exact g (A1++A2) abb
def gO:Pt->Prop|.keep n=>0<=n|.put s=>good s/\s.length<=100000|.cut s=>good s/\s.length<=100000
abbrev Row:=Str×Str×Int
def kW(r:Row):List V:=[.str r.1,.str r.2.1,.int r.2.2]
def Nq(H:Hp)(v:V)(r:Row):Prop:= ∃b,v=.ref b/\H b=some (.lst<|kW r)
abbrev nJ(H:Hp):List V->List Row->Prop:=Paired (Nq H)
theorem nJ.mono:∀{vs:List V}{ps:List Row},nJ H vs ps->(∀v∈vs,∀b,v=.ref b->∀o,H b=some o->H' b=some o)->nJ H' vs ps:=by
 intro _ _ p k;induction p with
 |nil=>exact .nil
 |cons x r i=>obtain⟨b,e,h⟩:=x;exact .cons ⟨b,e,k _ zax b e _ h⟩ (i λv c=>k v (zay _ c))
theorem nJ.get:∀{vs:List V}{ps:List Row}{i:Nat}{v:V},nJ H vs ps->vs[i]?=some v->∃p,ps[i]?=some p/\Nq H v p:=by
 intro _ _ i _ p h;induction p generalizing i with
 |nil=>simp at h
 |cons a r k=>cases i with|zero=>cases h;exact⟨_,rfl,a⟩|succ i=>exact k (by simpa using h)
def bz:List Row×Row->Pt->List Row×Row
 |(p,r),.keep n=>(p,(r.1,r.2.1,r.2.2+n))
 |(p,r),.put s=>if s="" then (p,r) else if 0<r.2.2 then (p++[r],(Str.ofString ""++s,"",0)) else (p,(r.1++s,r.2.1,r.2.2))
 |(p,r),.cut s=>if s="" then (p,r) else if 0<r.2.2 then (p++[r],("",Str.ofString ""++s,0)) else (p,(r.1,r.2.1++s,r.2.2))
def eW(r:Row):List Pt:=txt .put r.1++txt .cut r.2.1++(if r.2.2=0 then [] else [.keep r.2.2])
def cR(b:List Row):List Pt:=(b.map eW).flatten
def tQ(ps:List Pt):List Row:=let s:=ps.foldl bz ([],("","",0));s.1++[s.2]
def fJ(ps:List Pt):List Pt:=cR (tQ ps)
structure j8 (H H2:Hp) (R:Addr) (rs:List V) (b:Addr) (pre:List Row) (r:Row):Prop where
 same:aD H H2
 lst:H2 R=some (.lst<|rs++[.ref b])
 fr:H R=none
 rows:nJ H2 rs pre
 last:H2 b=some (.lst<|kW r)
 fb:H b=none
 bI:∀v∈rs,∀x,v=.ref x->H x=none/\x≠b/\x≠R
 ne:b≠R
theorem vW(xs:List V)(v:V):gG (xs++[v]) (-1)=some v:=Ui xs v
theorem j8.set{c:List V}{p:List Row}{r r':Row}(S:j8 H H2 R c b p r):j8 H (upd H2 b<|.lst<|kW r') R c b p r' where
 same:=o6 S.same S.fb aR.upd
 lst:=by rw[ax S.ne.symm];exact S.lst
 fr:=S.fr
 rows:=S.rows.mono λv d x e o h=>by rw[ax (S.bI v d x e).2.1];exact h
 last:=aw
 fb:=S.fb
 bI:=S.bI
 ne:=S.ne
theorem j8.grow{f:List V}{d:List Row}{r r':Row}(S:j8 H H2 R f b d r)(c:H2 t=none):
  j8 H (upd (upd H2 t<|.lst<|kW r') R<|.lst<|f++[.ref b]++[.ref t]) R (f++[.ref b]) t (d++[r]) r':=by
 have E:t≠R:=λz=>by rw[z,S.lst] at c;cases c
 have l:b≠t:=aM S.last c;have k:∀x o,H2 x=some o->x≠R->upd (upd H2 t<|.lst<|kW r') R (.lst<|f++[.ref b]++[.ref t]) x=some o:=λx o e n=>by rw[ax n,ax<|aM e c];exact e
 exact {
  same:=λx o e=>k x o (S.same x o e) (aM e S.fr)
  lst:=aw
  fr:=S.fr
  rows:=Paired.snoc (S.rows.mono λv g x e o h=>k x o h (S.bI v g x e).2.2) ⟨b,rfl,k b _ S.last S.ne⟩
  last:=by rw[ax E,aw]
  fb:=S.same.free c
  bI:=λv g x e=>by
   rcases zab.mp g with z|z
   ·obtain⟨D,G,A⟩:=S.bI v z x e;refine⟨D,λq=>?_,A⟩;obtain⟨i,w⟩:=zbd z;obtain⟨p,_,y,u,m⟩:=S.rows.get w;rw[e] at u;cases u;rw[q,c] at m;cases m
   ·rw[zah.mp z] at e;cases e;exact⟨S.fb,l,S.ne⟩
  ne:=E}
abbrev Dn(Q:VK):Ends:={nx:=λ_ H'=>Q .av H',rt:=Q}
abbrev cp(sp:Sp)(Γ:XK->aQ)(b:List RS)(N:List Str):Prop:= ∀vs H Q E,sp vs H Q E->aE (Γ E) b (Dn Q) (start N vs) H
inductive DU(vs:List V)(H:Hp)(Q:VK)(E:XK):Prop|i(a xs ps:_)(_:vs=[.ref a])(_:H a=some (.lst xs))(_:aH H xs ps)(_:ps.length<=100000)(_:az ps<=100000)(_:∀b H' ys,aD H H'->H b=none->H' b=some (.lst ys)->aH H' ys (fJ ps)->Q (.ref b) H')
theorem zF{K:Frag}{R b:Addr}{h:List V}{p:List Row}{r r':Row}{D:Ends}{a:Addr}{w:Str}{g f e d x:Option V}(S:j8 H H2 R h b p r)(i:Nat)(G:i<2)
  (A:(if (w=="cut")=true then 1 else 0:Int)=(i:Int)) (o:Str) (u:(kW r)[i]?=some (.str o)) (t:(kW r).set i (.str<|o++s)=kW r') (hs:o.length+s.length<=sizeLine)
  (k:∀m,j8 H m R h b p r'->D.nx [some<|.ref a,some<|.ref R,some<|.str w,some<|.str s,g,f,e,d,x] m):
  cX (aO K [] [] (E:=E)) (.set (.ix (.v 1)<|.neg<|.c<|.int 1) (.blt .int [(.cmp .Eq (.v 2)<|.c<|.str "cut")])<|.bin .Add (.ix (.ix (.v 1)<|.neg<|.c<|.int 1)<|.blt .int [(.cmp .Eq (.v 2)<|.c<|.str "cut")])<|.v 3) D
   [some<|.ref a,some<|.ref R,some<|.str w,some<|.str s,g,f,e,d,x] H2:=by
 have q:aB K H2 b (kW r):=aB.of S.last;have l:(if (false ^^ decide (V.str w=V.str "cut"))=true then 1 else 0:Int)=(i:Int):=by lia
 refine⟨_,rfl,.inl ⟨_,_,_,_,rfl,rfl,aB.of S.lst,vW _ _,_,rfl,?_⟩⟩;show oJ K (aO K [] []).sd (.ref b) (.int (if (false ^^ decide (V.str w=V.str "cut"))=true then 1 else 0)) H2 _
 rw[l];refine .inl ⟨b,_,_,_,rfl,rfl,q,gg u,_,rfl,hs,_,rfl,.inl ⟨_,_,_,_,rfl,rfl,aB.of S.lst,vW _ _,_,rfl,?_⟩⟩;show yv (.ref b) (.int (if (false ^^ decide (V.str w=V.str "cut"))=true then 1 else 0)) (.str<|o++s) H2 _
 rw[l];refine⟨b,kW r,(i:Int),i,rfl,rfl,S.last,?_,?_⟩
 ·unfold ju;rw[if_pos (by lia),if_pos (by show(i:Int) < ((3:Nat):Int);lia)]
  simp
 ·rw[t];exact k _ S.set
theorem abi{b:List Row}{r:Row}(h:b[i]?=some r):cR (b.take<|i+1)=cR (b.take i)++eW r:=by
 unfold cR;rw[zbA,h]
 simp
theorem Nr{K:Frag}{R b:Addr}{u:List V}{d:List Row}{r:Row}{D:Ends}{a:Addr}{w:Str}{T P N I G:Option V}(S:j8 H H2 R u b d r)(p:Pt)(A:(p=.put s/\w="put")\/(p=.cut s/\w="cut"))
  (hs:s.length<=100000) (h1:r.1.length<=100000) (h2:r.2.1.length<=100000) (hn:u.length<=100000)
  (k:∀f dA b',j8 H f R dA b' (bz (d,r) p).1 (bz (d,r) p).2->dA.length<=u.length+1->D.nx [some<|.ref a,some<|.ref R,some<|.str w,some<|.str s,T,P,N,I,G] f):
  aE (aO K [] [] (E:=E)) [.ite (.cmp .NotEq (.v 3) (.c (.str ""))) [.ite (.cmp .Gt (.ix (.ix (.v 1) (.neg (.c (.int 1)))) (.c (.int 2))) (.c (.int 0))) [.drop (.bE .append (.v 1) [(.lst [(.c (.str "")),(.c (.str "")),(.c (.int 0))])])] [],
    .set (.ix (.v 1) (.neg (.c (.int 1)))) (.blt .int [(.cmp .Eq (.v 2) (.c (.str "cut")))]) (.bin .Add (.ix (.ix (.v 1) (.neg (.c (.int 1)))) (.blt .int [(.cmp .Eq (.v 2) (.c (.str "cut")))])) (.v 3))] []] D
   [some<|.ref a,some<|.ref R,some<|.str w,some<|.str s,T,P,N,I,G] H2:=by
 refine⟨_,rfl,_,rfl,?_⟩;rw[zaM,ie];refine gK (λh=>?_)<|λh=>?_
 ·have x:s≠"":=by simpa using h
  refine⟨_,rfl,.inl ⟨_,_,_,_,rfl,rfl,aB.of S.lst,vW _ _,.inl ⟨_,_,_,_,rfl,rfl,aB.of S.last,rfl,trivial,_,rfl,?_⟩⟩⟩;have l:∀n:Nat,n<=100000->n+s.length<=sizeLine:=λn hn=>dz (by lia)
  have Z:(Str.ofString "").length=0:=rfl;refine gK (λh=>?_)<|λh=>?_
  ·have q:0<r.2.2:=of_decide_eq_true h;refine⟨_,rfl,.inl ⟨rfl,_,aB.of S.lst⟩,xQ,λt X=>?_⟩;have zE:R≠t:=aM S.lst X;refine⟨_,(by rw[ax zE];exact S.lst),dh (by rw[zqA,zbw];lia),?_⟩
   have S':=S.grow (r':=((Str.ofString "",Str.ofString "",0):Row)) X;rcases A with⟨rfl,rfl⟩|⟨rfl,rfl⟩
   ·have g:bz (d,r) (.put s)=(d++[r],((Str.ofString ""++s,Str.ofString "",0):Row)):=by show(if s="" then _ else if 0<r.2.2 then _ else _)=_;rw[if_neg x,if_pos q]
    rw[g] at k;exact zF S' 0 (by lia) rfl "" rfl rfl (l _ (by rw[Z];lia)) λf m=>k f _ t m (by simp)
   ·have g:bz (d,r) (.cut s)=(d++[r],((Str.ofString "",Str.ofString ""++s,0):Row)):=by show(if s="" then _ else if 0<r.2.2 then _ else _)=_;rw[if_neg x,if_pos q]
    rw[g] at k;exact zF S' 1 (by lia) rfl "" rfl rfl (l _ (by rw[Z];lia)) λf m=>k f _ t m (by simp)
  ·have q:¬0<r.2.2:=λz=>h (zqT z);rcases A with⟨rfl,rfl⟩|⟨rfl,rfl⟩
   ·have g:bz (d,r) (.put s)=(d,(r.1++s,r.2.1,r.2.2)):=by show(if s="" then _ else if 0<r.2.2 then _ else _)=_;rw[if_neg x,if_neg q]
    rw[g] at k;exact zF S 0 (by lia) rfl r.1 rfl rfl (l _ h1) λf m=>k f _ b m (by lia)
   ·have g:bz (d,r) (.cut s)=(d,(r.1,r.2.1++s,r.2.2)):=by show(if s="" then _ else if 0<r.2.2 then _ else _)=_;rw[if_neg x,if_neg q]
    rw[g] at k;exact zF S 1 (by lia) rfl r.2.1 rfl rfl (l _ h2) λf m=>k f _ b m (by lia)
 ·have e:s="":=by simpa using h
  have g:bz (d,r) p=(d,r):=by
   rcases A with⟨rfl,rfl⟩|⟨rfl,rfl⟩
   ·show(if s="" then _ else _)=_;rw[if_pos e]
   ·show(if s="" then _ else _)=_;rw[if_pos e]
  rw[g] at k;exact k H2 u b S (by lia)
theorem kY(x y:Str):(x++y).length=x.length+y.length:=by rw[len_list,app_list,zqA,<-len_list,<-len_list]
theorem abj(e:List Row)(r:Row)(p:Pt)(n:Nat)(c:r.1.length<=n)(h:r.2.1.length<=n):(bz (e,r) p).2.1.length<=n+dX p/\(bz (e,r) p).2.2.1.length<=n+dX p:=by
 have b:(Str.ofString "").length=0:=rfl;cases p with
 |keep m=>exact⟨by show r.1.length<=n+0;lia,by show r.2.1.length<=n+0;lia⟩
 |put s=>
  show(if s="" then (e,r) else if 0<r.2.2 then (e++[r],((Str.ofString ""++s,Str.ofString "",0):Row)) else (e,(r.1++s,r.2.1,r.2.2))).2.1.length<=n+s.length/\
   (if s="" then (e,r) else if 0<r.2.2 then (e++[r],((Str.ofString ""++s,Str.ofString "",0):Row)) else (e,(r.1++s,r.2.1,r.2.2))).2.2.1.length<=n+s.length
  split
  ·exact⟨by lia,by lia⟩
  ·split
   ·exact⟨by rw[kY,b];lia,by lia⟩
   ·exact⟨by rw[kY];lia,by lia⟩
 |cut s=>
  show(if s="" then (e,r) else if 0<r.2.2 then (e++[r],((Str.ofString "",Str.ofString ""++s,0):Row)) else (e,(r.1,r.2.1++s,r.2.2))).2.1.length<=n+s.length/\
   (if s="" then (e,r) else if 0<r.2.2 then (e++[r],((Str.ofString "",Str.ofString ""++s,0):Row)) else (e,(r.1,r.2.1++s,r.2.2))).2.2.1.length<=n+s.length
  split
  ·exact⟨by lia,by lia⟩
  ·split
   ·exact⟨by lia,by rw[kY,b];lia⟩
   ·exact⟨by lia,by rw[kY];lia⟩
theorem Nt{x:V}(h:da Γ.K p x v H Q):ag Γ (.c v) σ H λy H2=>da Γ.K p x y H2 Q:=h
theorem Nu{K:Frag}{x y:V}(hs:lS x y=true)(q:Q (.bl<|true ^^ decide (x=y)) H):da K .NotEq x y H Q:=by
 show m5 true x y H Q;unfold m5;rw[hs];exact q
theorem abk{K:Frag}{l t1 t2 t3:Addr}{r:Row}{Q1:VK}(hl:H1 l=some (.lst [.ref t1,.ref t2,.ref t3]))(h1:H1 t1=some (.tup [.str "put",.str r.1]))(h2:H1 t2=some (.tup [.str "cut",.str r.2.1]))(h3:H1 t3=some (.tup [.str "keep",.int r.2.2]))
  (R:σ[8]?=some (some<|.ref l)) (k:∀p ys,H1 p=none->aH H1 ys (eW r)->ys.length<=3->Q1 (.ref p) (upd H1 p<|.lst ys)):
  ag (aO K [] [] (E:=E)) (.comp none [] .list [.v 8] (some<|.and [(.cmp .NotEq (.ix (.v 0)<|.c<|.int 1)<|.c<|.str ""),(.cmp .NotEq (.ix (.v 0)<|.c<|.int 1)<|.c<|.int 0)])<|.v 0) σ H1 Q1:=by
 have G:aB K H1 l [.ref t1,.ref t2,.ref t3]:=aB.of hl
 let q:Nat->List Pt:=λi=>match i with| 0=>[]| 1=>txt .put r.1| 2=>txt .put r.1++txt .cut r.2.1|_=>eW r
 refine⟨_,R,l,rfl,⟨_,G⟩,λi m ys H2=>m=3 - i/\i<=3/\H2=H1/\aH H1 ys (q i)/\ys.length<=i,⟨_,rfl,zqZ _,rfl,.nil,zqR _⟩,?_⟩;rintro i m ys H2 ⟨rfl,hi,rfl,D,DV⟩;have d:ys.length<sizeLine:=dh (by lia)
 have X:∀(t:Addr) (p:Pt) (j:Nat),H2 t=some (.tup [.str p.word,p.val])->i=j->j<3->(q (j+1)=q j++[p]/\p.val≠ .str ""/\p.val≠ .int 0\/q (j+1)=q j/\(p.val=.str ""\/p.val=.int 0))->
   (∃s,p.val=.str s)\/(∃n,p.val=.int n)->
   lW (yT (aO K [] [] (E:=E)).calm<|some<|.and [(.cmp .NotEq (.ix (.v 0)<|.c<|.int 1)<|.c<|.str ""),(.cmp .NotEq (.ix (.v 0)<|.c<|.int 1)<|.c<|.int 0)]) ([V.ref t].map some++cI σ []) H2 λb H5=>
    if b=true then ag (aO K [] [] (E:=E)).calm (.v 0) ([V.ref t].map some++cI σ []) H5 λy H6=>ys.length<sizeLine/\∃g,g<3 - i/\g=3 - (i+1)/\i+1<=3/\H6=H2/\aH H2 (ys++[y]) (q<|i+1)/\(ys++[y]).length<=i+1
    else ∃g,g<3 - i/\g=3 - (i+1)/\i+1<=3/\H5=H2/\aH H2 ys (q<|i+1)/\ys.length<=i+1:=by
  intro t p j S ej hj T h;subst ej;have N:lS p.val (.str "")=true:=by rcases h with⟨s,e⟩|⟨n,e⟩ <;>rw[e] <;>rfl
  have I:lS p.val (.int 0)=true:=by rcases h with⟨s,e⟩|⟨n,e⟩ <;>rw[e] <;>rfl
  refine⟨_,rfl,.inr<|.inl ⟨_,_,_,_,rfl,rfl,aK.of S,rfl,Nt<|Nu N ⟨_,rfl,?_⟩⟩⟩;by_cases A:p.val=.str ""
  ·rw[zqT A];rcases T with⟨_,z,_⟩|⟨e,_⟩
   ·exact absurd A z
   ·exact⟨3 - (i+1),by lia,rfl,by lia,rfl,by rw[e];exact D,by lia⟩
  ·rw[zqF A];refine⟨_,rfl,.inr<|.inl ⟨_,_,_,_,rfl,rfl,aK.of S,rfl,Nt<|Nu I ⟨_,rfl,?_⟩⟩⟩;by_cases w:p.val=.int 0
   ·rw[zqT w];rcases T with⟨_,_,z⟩|⟨e,_⟩
    ·exact absurd w z
    ·exact⟨3 - (i+1),by lia,rfl,by lia,rfl,by rw[e];exact D,by lia⟩
   ·rw[zqF w];rcases T with⟨e,_,_⟩|⟨_,z⟩
    ·refine⟨_,rfl,d,3 - (i+1),by lia,rfl,by lia,rfl,?_,by simp;lia⟩
     rw[e];exact aH.snoc D ⟨t,rfl,S⟩
    ·rcases z with z|z
     ·exact absurd z A
     ·exact absurd z w
 have Z:∀(mk:Str->Pt) (x:Str) (l:List Pt),(mk x).val=.str x->(l++txt mk x=l++[mk x]/\(mk x).val≠ .str ""/\(mk x).val≠ .int 0\/l++txt mk x=l/\((mk x).val=.str ""\/(mk x).val=.int 0)):=by
  intro mk x l h;unfold txt;by_cases e:x=""
  ·rw[if_pos e];exact .inr ⟨by simp,.inl (by rw[h,e])⟩
  ·rw[if_neg e];exact .inl ⟨rfl,by rw[h];exact λz=>e (by injection z),by rw[h];exact λz=>by cases z⟩
 by_cases bD:i<3
 ·refine .inr ⟨⟨_,[V.ref t1,V.ref t2,V.ref t3][i],G,by simp[bD]⟩,?_⟩
  rintro x H3 ⟨rfl,hx⟩;have P:=hx _ G;have:i=0\/i=1\/i=2:=by lia
  rcases this with rfl|rfl|rfl
  ·have u:x=.ref t1:=by simpa using P.symm
   subst u;exact X t1 (.put r.1) 0 h1 rfl (by lia) (Z .put r.1 [] rfl)<|.inl ⟨_,rfl⟩
  ·have u:x=.ref t2:=by simpa using P.symm
   subst u;exact X t2 (.cut r.2.1) 1 h2 rfl (by lia) (Z .cut r.2.1 _ rfl)<|.inl ⟨_,rfl⟩
  ·have u:x=.ref t3:=by simpa using P.symm
   subst u;refine X t3 (.keep r.2.2) 2 h3 rfl (by lia) ?_<|.inr ⟨_,rfl⟩
   by_cases e:r.2.2=0
   ·refine .inr ⟨?_,.inr (by show V.int r.2.2=_;rw[e])⟩
    show eW r=txt .put r.1++txt .cut r.2.1;unfold eW;rw[if_pos e,zac]
   ·refine .inl ⟨?_,?_,?_⟩
    ·show eW r=txt .put r.1++txt .cut r.2.1++[.keep r.2.2];unfold eW;rw[if_neg e]
    ·intro z;have f:V.int r.2.2=V.str "":=z;cases f
    ·intro z;have f:V.int r.2.2=V.int 0:=z
     injection f with f
     exact e f
 ·have jD:i=3:=by lia
  subst jD;refine .inl ⟨⟨_,G,by simp⟩,λp hp=>?_⟩
  exact k p ys hp D DV
theorem abn{K:Frag}(vs:List V)(H:Hp)(Q:VK)(E:XK)(h:DU vs H Q E):aE (aO K [] [] (E:=E)) Ks {nx:=λ_ H'=>Q .av H',rt:=Q} (start Kr vs) H:=by
 obtain⟨a,xs,d,rfl,ha,dj,hl,ht,k⟩:=h;have k':=Paired.length dj;refine⟨xQ,λb0 DW=>⟨jN,λR hR=>?_⟩⟩;have Nv:b0≠R:=λz=>by rw[<-z,aw] at hR;cases hR
 have fR:H R=none:=(sameNew DW).free hR;have S0:j8 H (upd (upd H b0<|.lst [.str "",.str "",.int 0]) R<|.lst [.ref b0]) R [] b0 [] ((Str.ofString "",Str.ofString "",0):Row):=
  {same:=(sameNew DW).trans (sameNew hR),lst:=aw,fr:=fR,rows:=.nil,last:=(by rw[ax Nv,aw];rfl),fb:=DW,bI:=(λv hv=>by cases hv),ne:=Nv}
 refine⟨_,rfl,a,rfl,⟨_,aB.of (S0.same _ _ ha)⟩,lR (K:=K) (a:=a) (xs:=xs) (λi σ H2=>qX6 λu v m b c r=>qA6 (σ=[some (.ref a),some (.ref R),u,v,none,none,none,none,none]) (j8 H H2 R m b c r) ((d.take i).foldl bz ([],((Str.ofString "",Str.ofString "",0):Row))=(c,r)) (m.length<=i) (r.1.length<=az (d.take i)) (r.2.1.length<=az (d.take i)))
  ⟨none,none,[],b0,[],_,rfl,S0,rfl,zqR _,zqZ _,zqZ _⟩ (λi σ H2 _ ⟨_,_,_,_,_,_,_,S,_,_,_,_⟩=>aB.of (S.same _ _ ha)) ?_ ?_⟩
 ·rintro i x σ H2 hi ⟨u,v,m,b,c,r,rfl,S,ef,l1,l2,l3⟩;obtain⟨pt,kU,kS⟩:=dj.get hi;obtain⟨t,rfl,hb⟩:=kS.mono (bV S.same);have i7:i<d.length:=(zad.mp kU).1;have ph:(d.take<|i+1).foldl bz ([],((Str.ofString "",Str.ofString "",0):Row))=bz (c,r) pt:=by rw[Ng kU,ef]
  have et:=Nf kU;have tb:=DN d i;have l':=DN d (i+1);have sl:=abj c r pt _ l2 l3;refine⟨t,_,rfl,.inl<|aK.of hb,rfl,_,_,rfl,_,_,rfl,rfl,?_⟩;refine⟨_,rfl,_,rfl,?_⟩;cases pt with
  |keep n=>
   refine⟨_,rfl,.inl ⟨_,_,_,_,rfl,rfl,aB.of S.lst,vW _ _,.inl ⟨_,_,_,_,rfl,rfl,aB.of S.last,rfl,_,rfl,_,rfl,.inl ⟨_,_,_,_,rfl,rfl,aB.of S.lst,vW _ _,b,kW r,2,2,rfl,rfl,S.last,rfl,?_⟩⟩⟩⟩;refine⟨_,_,m,b,c,(r.1,r.2.1,r.2.2+n),rfl,S.set (r':=(r.1,r.2.1,r.2.2+n)),ph,by lia,?_,?_⟩
   ·show r.1.length<=_;lia
   ·show r.2.1.length<=_;lia
  |put s=>
   refine Nr S (.put s) (.inl ⟨rfl,rfl⟩) ?_ (by lia) (by lia) (by lia) λX dA b' S' a'=>⟨_,_,dA,b',_,_,rfl,S',ph,by lia,by lia,by lia⟩
   have:dX (.put s)=s.length:=rfl;lia
  |cut s=>
   refine Nr S (.cut s) (.inr ⟨rfl,rfl⟩) ?_ (by lia) (by lia) (by lia) λX dA b' S' a'=>⟨_,_,dA,b',_,_,rfl,S',ph,by lia,by lia,by lia⟩
   have:dX (.cut s)=s.length:=rfl;lia
 ·rintro σ Hm ⟨u,v,m,b,c,r,rfl,S,ef,l1,l2,l3⟩;have e:d.take xs.length=d:=zaI (by lia)
  rw[e] at ef;have j':tQ d=c++[r]:=by
   show(d.foldl bz ([],((Str.ofString "",Str.ofString "",0):Row))).1++[(d.foldl bz ([],((Str.ofString "",Str.ofString "",0):Row))).2]=_;rw[ef]
  have Nw:nJ Hm (m++[.ref b]) (tQ d):=by rw[j'];exact Paired.snoc S.rows ⟨b,rfl,S.last⟩
  have Nx:=Paired.length Nw;refine⟨zqZ _,λf0 DX=>?_⟩;refine⟨_,rfl,R,rfl,⟨_,aB.of (sameNew DX _ _ S.lst)⟩,lR (K:=K) (a:=R) (xs:=m++[.ref b]) (λi σ H2=>qX6 λf ys p5 p6 p7 p8=>qA6 (σ=[some (.ref a),some (.ref R),u,v,some (.ref f),p5,p6,p7,p8]) (aD Hm H2) (H f=none) (H2 f=some (.lst ys)) (aH H2 ys (cR ((tQ d).take i))) (ys.length<=3*i))
   ⟨f0,[],none,none,none,none,rfl,sameNew DX,S.same.free DX,aw,.nil,zqR _⟩ (λi σ H2 _ ⟨_,_,_,_,_,_,_,P,_,_,_,_⟩=>aB.of (P _ _ S.lst)) ?_ ?_⟩
  ·rintro i x σ H2 hi ⟨f,ys,p5,p6,p7,p8,rfl,P,ff,DY,hV,DV⟩;obtain⟨g,i',w,rfl,hw⟩:=Nw.get hi;have d':=P _ _ hw;have i7:i< (m++[V.ref b]).length:=(zad.mp hi).1;have m':m.length<=100000:=by lia
   have zG:i<=100000:=by simp only[zqA,zbw] at i7;lia
   refine⟨w,_,rfl,.inr<|aB.of d',rfl,_,_,rfl,_,_,rfl,_,_,rfl,rfl,?_⟩;refine⟨_,rfl,fQ,λI kZ=>⟨_,rfl,fQ,λD mv=>⟨_,rfl,fQ,λA q9=>⟨xQ,λl T=>?_⟩⟩⟩⟩;have c1:I≠D:=λz=>by rw[<-z,aw] at mv;cases mv
   have Ny:I≠A:=λz=>by rw[<-z,ax c1,aw] at q9;cases q9
   have Nz:D≠A:=λz=>by rw[<-z,aw] at q9;cases q9
   have g':I≠l:=λz=>by rw[<-z,ax Ny,ax c1,aw] at T;cases T
   have f':D≠l:=λz=>by rw[<-z,ax Nz,aw] at T;cases T
   have e':A≠l:=λz=>by rw[<-z,aw] at T;cases T
   have Z:=((sameNew (o:=.tup [.str "put",.str g.1]) kZ).trans<|sameNew (o:=.tup [.str "cut",.str g.2.1]) mv).trans ((sameNew (o:=.tup [.str "keep",.int g.2.2]) q9).trans<|sameNew (o:=.lst [.ref I,.ref D,.ref A]) T);refine⟨_,rfl,abk (r:=g) (l:=l) (t1:=I) (t2:=D) (t3:=A) aw (by rw[ax g',ax Ny,ax c1,aw]) (by rw[ax f',ax Nz,aw]) (by rw[ax e',aw]) rfl λp N hp NA DZ=>?_⟩
   generalize vm:upd (upd (upd (upd H2 I<|.tup [.str "put",.str g.1]) D<|.tup [.str "cut",.str g.2.1]) A<|.tup [.str "keep",.int g.2.2]) l (.lst [.ref I,.ref D,.ref A])=X at Z hp NA;have NB:=Z _ _ DY;have c':upd X p (.lst N) f=some (.lst ys):=by rw[ax<|aM NB hp];exact NB
   refine .inl ⟨f,p,ys,N,rfl,rfl,c',aw,dz (by lia),λq hq=>?_⟩
   have s5:aD Hm (upd (upd X p<|.lst N) q<|.lst<|ys++N):=P.trans (Z.trans<|(sameNew hp).trans<|sameNew hq);have t5:eI X (upd (upd X p<|.lst N) q<|.lst<|ys++N):=bV ((sameNew hp).trans<|sameNew hq);refine⟨q,ys++N,_,_,_,_,rfl,s5,S.same.free<|(P.trans<|Z.trans<|sameNew hp).free hq,aw,?_,by rw[zqA];lia⟩
   rw[abi i'];have h':∀{vs:List V}{as:List Pt}{ws:List V}{bs:List Pt}{G:Hp},aH G vs as->aH G ws bs->aH G (vs++ws) (as++bs):=λ{vs as ws bs G} h1 h2=>by
    induction h1 with
    |nil=>exact h2
    |cons a _ ih=>exact .cons a ih
   exact h' ((hV.mono<|bV Z).mono t5)<|NA.mono t5
  ·rintro σ H2 ⟨f,ys,p5,p6,p7,p8,rfl,P,ff,DY,hV,DV⟩;have e2:(tQ d).take (m++[V.ref b]).length=tQ d:=zaI (by lia)
   rw[e2] at hV;exact⟨_,rfl,k f H2 ys (S.same.trans P) ff DY hV⟩
theorem zH(a b:List Row):cR (a++b)=cR a++cR b:=by simp[cR]
theorem vX(r:Row):cR [r]=eW r:=by simp[cR]
theorem D0{r:Row}(h:0<r.2.2):eW r=txt .put r.1++txt .cut r.2.1++[.keep r.2.2]:=by
 unfold eW;rw[if_neg (by lia)]
theorem NC{r:Row}(h:r.2.2=0):eW r=txt .put r.1++txt .cut r.2.1:=by
 unfold eW;rw[if_pos h,zac]
def ND:Pt->Bool|.keep _=>true|_=>false
theorem abx{n:Int}(h:∀p,ch.getLast?=some p->ND p=false):eU ch n=ch++[.keep n]:=by
 unfold eU
 split
 ·rename_i m e
  have:=h _ e;cases this
 ·rfl
theorem aby(ch:List Pt)(m n:Int):eU (ch++[.keep m]) n=ch++[.keep<|n+m]:=by
 unfold eU
 simp
theorem txt_nil(mk:Str->Pt):txt mk ""=[]:=if_pos rfl
theorem j9{mk:Str->Pt}{x:Str}(h:x≠""):txt mk x=[mk x]:=if_neg h
theorem abz{r:Row}(h:e≠ []->r.1≠""\/r.2.1≠""):∀p,(cR e++txt .put r.1++txt .cut r.2.1).getLast?=some p->ND p=false:=by
 intro p b;by_cases c:r.2.1=""
 ·rw[c,txt_nil] at b;by_cases d:r.1=""
  ·rw[d,txt_nil] at b;by_cases m:e=[]
   ·rw[m] at b
    simp[cR] at b
   ·rcases h m with z|z
    ·exact absurd d z
    ·exact absurd c z
  ·rw[j9 d] at b
   simp at b;subst b;rfl
 ·rw[j9 c] at b
  simp at b;subst b;rfl
def Rel(s:NS)(t:List Row×Row):Prop:=
 (∀x∈t.1,0<x.2.2)/\(t.1≠ []->t.2.1≠""\/t.2.2.1≠"")/\0<=t.2.2.2/\
  ((t.2.2.2=0/\s.1=cR t.1/\cat s.2.1=t.2.1/\cat s.2.2=t.2.2.1)\/(0<t.2.2.2/\s.1=cR (t.1++[t.2])/\cat s.2.1=""/\cat s.2.2=""))
theorem pA(a:List Str)(s:Str):cat (a++[s])=cat a++s:=by rw[DJ,DK]
theorem abA{s:NS}{t:List Row×Row}{p:Pt}(R:Rel s t)(T:gO p):Rel (dG s p) (bz t p):=by
 obtain⟨q,u,d⟩:=s;obtain⟨b,r⟩:=t;obtain⟨m,E,D,l⟩:=qa4 R
 simp only at m E D l
 cases p with
 |keep n=>
  have X:0<=n:=T;by_cases S:0<n
  ·have P:dG (q,u,d) (.keep n)=(eU (d4 q u d) n,[],[]):=if_pos S;rw[P];refine⟨m,E,by show 0<=r.2.2+n;lia,.inr ⟨by show 0<r.2.2+n;lia,?_,rfl,rfl⟩⟩
   show eU (d4 q u d) n=cR (b++[(r.1,r.2.1,r.2.2+n)]);rw[zH,vX,D0 (r:=(r.1,r.2.1,r.2.2+n)) (by show 0<r.2.2+n;lia)]
   rcases l with⟨k,c,g,f⟩|⟨k,c,g,f⟩
   ·have N:d4 q u d=cR b++txt .put r.1++txt .cut r.2.1:=by unfold d4;rw[c,g,f]
    rw[N,abx<|abz E];show _=cR b++(txt .put r.1++txt .cut r.2.1++[.keep<|r.2.2+n]);rw[k,Int.zero_add];simp
   ·have N:d4 q u d=cR b++(txt .put r.1++txt .cut r.2.1)++[.keep r.2.2]:=by
     unfold d4;rw[c,g,f,txt_nil,txt_nil,zac,zac,zH,vX,D0 k];simp
    rw[N,aby];show _=cR b++(txt .put r.1++txt .cut r.2.1++[.keep<|r.2.2+n]);rw[Int.add_comm n];simp
  ·have V:n=0:=by lia
   have P:dG (q,u,d) (.keep n)=(q,u,d):=if_neg S;have c:bz (b,r) (.keep n)=(b,r):=by show(b,(r.1,r.2.1,r.2.2+n))=_;rw[V,Int.add_zero]
   rw[P,c];exact⟨m,E,D,l⟩
 |put x=>
  show Rel (q,u++[x],d) (bz (b,r)<|.put x);by_cases h:x=""
  ·have c:bz (b,r) (.put x)=(b,r):=if_pos h;rw[c];refine⟨m,E,D,?_⟩;have e:cat (u++[x])=cat u:=by rw[pA,h];exact M_ _
   show _\/_
   simp only[e]
   exact l
  ·by_cases w:0<r.2.2
   ·have c:bz (b,r) (.put x)=(b++[r],((Str.ofString ""++x,Str.ofString "",0):Row)):=by show(if x="" then _ else if 0<r.2.2 then _ else _)=_;rw[if_neg h,if_pos w]
    rw[c];rcases l with⟨k,_⟩|⟨_,A,g,f⟩
    ·lia
    ·refine⟨λy K=>?_,λ_=>.inl (by rw[tM];exact h),zaR _,.inl ⟨rfl,A,?_,f⟩⟩
     ·rcases zab.mp K with z|z
      ·exact m y z
      ·rw[zah.mp z];exact w
     ·show cat (u++[x])=_;rw[pA,g]
   ·have c:bz (b,r) (.put x)=(b,(r.1++x,r.2.1,r.2.2)):=by show(if x="" then _ else if 0<r.2.2 then _ else _)=_;rw[if_neg h,if_neg w]
    rw[c];rcases l with⟨k,A,g,f⟩|⟨k,_⟩
    ·refine⟨m,λ_=>.inl ?_,D,.inl ⟨k,A,?_,f⟩⟩
     ·intro z;have:=congrArg Str.length z;rw[kY] at this;have I:(Str.ofString "").length=0:=rfl;rw[I] at this;have G:x.length=0:=by lia
      exact h<|jE (by rw[len_list] at G;rw[zaE.mp G];rfl)
     ·show cat (u++[x])=_;rw[pA,g]
    ·lia
 |cut x=>
  show Rel (q,u,d++[x]) (bz (b,r)<|.cut x);by_cases h:x=""
  ·have c:bz (b,r) (.cut x)=(b,r):=if_pos h;rw[c];refine⟨m,E,D,?_⟩;have e:cat (d++[x])=cat d:=by rw[pA,h];exact M_ _
   show _\/_
   simp only[e]
   exact l
  ·by_cases w:0<r.2.2
   ·have c:bz (b,r) (.cut x)=(b++[r],((Str.ofString "",Str.ofString ""++x,0):Row)):=by show(if x="" then _ else if 0<r.2.2 then _ else _)=_;rw[if_neg h,if_pos w]
    rw[c];rcases l with⟨k,_⟩|⟨_,A,g,f⟩
    ·lia
    ·refine⟨λy K=>?_,λ_=>.inr (by rw[tM];exact h),zaR _,.inl ⟨rfl,A,g,?_⟩⟩
     ·rcases zab.mp K with z|z
      ·exact m y z
      ·rw[zah.mp z];exact w
     ·show cat (d++[x])=_;rw[pA,f]
   ·have c:bz (b,r) (.cut x)=(b,(r.1,r.2.1++x,r.2.2)):=by show(if x="" then _ else if 0<r.2.2 then _ else _)=_;rw[if_neg h,if_neg w]
    rw[c];rcases l with⟨k,A,g,f⟩|⟨k,_⟩
    ·refine⟨m,λ_=>.inr ?_,D,.inl ⟨k,A,g,?_⟩⟩
     ·intro z;have:=congrArg Str.length z;rw[kY] at this;have I:(Str.ofString "").length=0:=rfl;rw[I] at this;have G:x.length=0:=by lia
      exact h<|jE (by rw[len_list] at G;rw[zaE.mp G];rfl)
     ·show cat (d++[x])=_;rw[pA,f]
    ·lia
theorem NF:∀(ps:List Pt) (s:NS) (t:List Row×Row),Rel s t->(∀p∈ps,gO p)->Rel (ps.foldl dG s) (ps.foldl bz t)
 |[],s,t,R,_=>R
 |p::r,s,t,R,h=>NF r _ _ (abA R<|h p zax) λq b=>h q (zay _ b)
theorem abB(ps:List Pt)(h:∀p∈ps,gO p):Rel (ps.foldl dG ([],[],[])) (ps.foldl bz ([],((Str.ofString "",Str.ofString "",0):Row))):=
 NF ps _ _ ⟨nofun,λz=>absurd rfl z,zaR _,.inl ⟨rfl,rfl,rfl,rfl⟩⟩ h
theorem vY(ps:List Pt)(h:∀p∈ps,gO p):jF ps=fJ ps:=by
 obtain⟨l,g,f,d⟩:=qa4 (abB ps h);show d4 _ _ _=cR (_++[_]);unfold d4;rcases d with⟨k,e,c,b⟩|⟨k,e,c,b⟩
 ·rw[e,c,b,zH,vX,NC k];simp
 ·rw[e,c,b,txt_nil,txt_nil];simp
def sg(x:Str):Prop:= ∀c∈x.cps.toList,SG.cps.contains c=true
theorem zI(a:sg x)(b:sg y):sg (x++y):=λc h=>by
 rw[app_list] at h;rcases zab.mp h with z|z
 ·exact a c z
 ·exact b c z
theorem pE:sg (Str.ofString ""):=λc h=>by cases h
def k6(r:Row):Nat:=r.1.length+r.2.1.length
structure RI (n:Nat) (t:List Row×Row):Prop where
 pos:∀x∈t.1,0<x.2.2
 nn:0<=t.2.2.2
 s1:∀x∈t.1++[t.2],sg x.1/\sg x.2.1
 tl:∀x∈ (t.1++[t.2]).tail,x.1≠""\/x.2.1≠""
 az:((t.1++[t.2]).map k6).sum=n
theorem NG{x:Str}(h:x≠""):x++y≠"":=λz=>by
 have:=congrArg Str.length z;rw[kY] at this;have l:(Str.ofString "").length=0:=rfl;have p:x.length=0:=by lia
 exact h<|jE (by rw[zaE.mp p];rfl)
theorem NH{c:Type}(l:List c)(a:c):(l++[a]).tail=if l=[] then [] else l.tail++[a]:=by
 cases l with
 |nil=>rfl
 |cons b r=>simp
theorem D1{p:List Row}{r r':Row}(I:RI n (p,r))(e:0<=r'.2.2)(d:sg r'.1/\sg r'.2.1)(c:(r.1≠""->r'.1≠"")/\(r.2.1≠""->r'.2.1≠""))(f:k6 r'=k6 r+m):RI (n+m) (p,r'):=by
 refine⟨I.pos,e,λx h=>?_,λx h=>?_,?_⟩
 ·rcases zab.mp h with z|z
  ·exact I.s1 x (zaG _ z)
  ·rw[zah.mp z];exact d
 ·have t:=I.tl
  rw[NH] at h t;by_cases b:p=[]
  ·rw[if_pos b] at h;cases h
  ·rw[if_neg b] at h t;rcases zab.mp h with z|z
   ·exact t x (zaG _ z)
   ·rw[zah.mp z];rcases t r (by simp) with q|q
    ·exact .inl (c.1 q)
    ·exact .inr (c.2 q)
 ·have:=I.az
  simp at this⊢
  lia
theorem NI{p:List Row}{r r':Row}(I:RI n (p,r))(k:0<r.2.2)(d:0<=r'.2.2)(c:sg r'.1/\sg r'.2.1)(b:r'.1≠""\/r'.2.1≠"")(e:k6 r'=m):RI (n+m) (p++[r],r'):=by
 refine⟨λx h=>?_,d,λx h=>?_,λx h=>?_,?_⟩
 ·rcases zab.mp h with z|z
  ·exact I.pos x z
  ·rw[zah.mp z];exact k
 ·rcases zab.mp h with z|z
  ·exact I.s1 x z
  ·rw[zah.mp z];exact c
 ·have t:=I.tl
  rw[NH,if_neg (by simp)] at h
  rcases zab.mp h with z|z
  ·exact t x z
  ·rw[zah.mp z];exact b
 ·have:=I.az
  simp at this⊢
  lia
theorem abC{p:Pt}(I:RI n t)(d:gO p):RI (n+dX p) (bz t p):=by
 obtain⟨e,r⟩:=t;have c:=I.s1 r (by simp)
 have N:=I.nn;have l:(Str.ofString "").length=0:=rfl;cases p with
 |keep m=>exact D1 I (by have:0<=m:=d;lia) c ⟨λz=>z,λz=>z⟩ rfl
 |put x=>
  have g:sg x:=d.1.2;by_cases h:x=""
  ·have b:bz (e,r) (.put x)=(e,r):=if_pos h;have f:dX (.put x)=0:=by rw[h];rfl
   rw[b,f];exact I
  ·by_cases k:0<r.2.2
   ·have b:bz (e,r) (.put x)=(e++[r],((Str.ofString ""++x,Str.ofString "",0):Row)):=by show(if x="" then _ else if 0<r.2.2 then _ else _)=_;rw[if_neg h,if_pos k]
    rw[b];refine NI I k (zaR _) ⟨zI pE g,pE⟩ (.inl (by rw[tM];exact h)) ?_
    show(Str.ofString ""++x).length+(Str.ofString "").length=x.length;rw[kY,l];lia
   ·have b:bz (e,r) (.put x)=(e,(r.1++x,r.2.1,r.2.2)):=by show(if x="" then _ else if 0<r.2.2 then _ else _)=_;rw[if_neg h,if_neg k]
    rw[b];refine D1 I N ⟨zI c.1 g,c.2⟩ ⟨NG,λz=>z⟩ ?_;show(r.1++x).length+r.2.1.length=r.1.length+r.2.1.length+x.length;rw[kY];lia
 |cut x=>
  have g:sg x:=d.1.2;by_cases h:x=""
  ·have b:bz (e,r) (.cut x)=(e,r):=if_pos h;have f:dX (.cut x)=0:=by show x.length=0;rw[h];rfl
   rw[b,f];exact I
  ·by_cases k:0<r.2.2
   ·have b:bz (e,r) (.cut x)=(e++[r],((Str.ofString "",Str.ofString ""++x,0):Row)):=by show(if x="" then _ else if 0<r.2.2 then _ else _)=_;rw[if_neg h,if_pos k]
    rw[b];refine NI I k (zaR _) ⟨pE,zI pE g⟩ (.inr (by rw[tM];exact h)) ?_
    show(Str.ofString "").length+(Str.ofString ""++x).length=x.length;rw[kY,l];lia
   ·have b:bz (e,r) (.cut x)=(e,(r.1,r.2.1++x,r.2.2)):=by show(if x="" then _ else if 0<r.2.2 then _ else _)=_;rw[if_neg h,if_neg k]
    rw[b];refine D1 I N ⟨c.1,zI c.2 g⟩ ⟨λz=>z,NG⟩ ?_;show r.1.length+(r.2.1++x).length=r.1.length+r.2.1.length+x.length;rw[kY];lia
theorem D5:∀(ps:List Pt) (n:Nat) (t:List Row×Row),RI n t->(∀p∈ps,gO p)->RI (n+az ps) (ps.foldl bz t)
 |[],n,t,I,_=>I
 |p::r,n,t,I,h=>by
  have:=D5 r _ _ (abC I<|h p zax) λq b=>h q (zay _ b);have e:n+dX p+az r=n+az (p::r):=by show _=n+(dX p+az r);lia
  rw[e] at this;exact this
theorem NK{r:Row}{a:Str}{rest:List Pt}(d:a=""\/(a="keep"/\(r.1≠""\/r.2.1≠"")))(k:0<r.2.2)(h:chainOk "keep" rest=true):chainOk a (eW r++rest)=true:=by
 rw[D0 k];by_cases c:r.1="" <;>by_cases b:r.2.1=""
 ·rw[c,b];rcases d with rfl|⟨_,z|z⟩
  ·exact h
  ·exact absurd c z
  ·exact absurd b z
 ·rw[c,j9 b];rcases d with rfl|⟨rfl,_⟩ <;>exact h
 ·rw[b,j9 c];rcases d with rfl|⟨rfl,_⟩ <;>exact h
 ·rw[j9 c,j9 b];rcases d with rfl|⟨rfl,_⟩ <;>exact h
theorem chain_last{r:Row}{a:Str}(h:a=""\/(a="keep"/\(r.1≠""\/r.2.1≠"")))(k:0<=r.2.2):chainOk a (eW r)=true:=by
 by_cases d:0<r.2.2
 ·have:=NK (rest:=[]) h d rfl;rw[zac] at this;exact this
 ·rw[NC (by lia)]
  by_cases c:r.1="" <;>by_cases b:r.2.1=""
  ·rw[c,b];rfl
  ·rw[c,j9 b];rcases h with rfl|⟨rfl,_⟩ <;>rfl
  ·rw[b,j9 c];rcases h with rfl|⟨rfl,_⟩ <;>rfl
  ·rw[j9 c,j9 b];rcases h with rfl|⟨rfl,_⟩ <;>rfl
theorem NL:∀(p:List Row) (r:Row) (a:Str),(∀x∈p,0<x.2.2)->0<=r.2.2->(a=""\/(a="keep"/\∀x,(p++[r]).head?=some x->x.1≠""\/x.2.1≠""))->(∀x∈ (p++[r]).tail,x.1≠""\/x.2.1≠"")->
  chainOk a (cR<|p++[r])=true
 |[],r,a,_,k,b,_=>by
  rw[zbx,vX];exact chain_last (b.imp id λ⟨x,y⟩=>⟨x,y r rfl⟩) k
 |q::p,r,a,c,k,b,t=>by
  exact NK (b.imp id λ⟨x,y⟩=>⟨x,y q rfl⟩) (c q zax) (NL p r "keep" (λx h=>c x<|zay _ h) k (.inr ⟨rfl,λx h=>t x (List.mem_of_mem_head? h)⟩) λx h=>t x (List.mem_of_mem_tail h))
theorem abD{r:Row}{p:Pt}(hs:sg r.1/\sg r.2.1)(l:k6 r<=1000000)(k:0<=r.2.2)(h:p∈eW r):aX p:=by
 unfold eW txt at h;unfold k6 at l;rcases zab.mp h with h|h
 ·rcases zab.mp h with h|h
  ·split at h
   ·cases h
   ·rename_i ne
    rw[zah.mp h];exact⟨⟨by lia,hs.1⟩,ne⟩
  ·split at h
   ·cases h
   ·rename_i ne
    rw[zah.mp h];exact⟨⟨by lia,hs.2⟩,ne⟩
 ·split at h
  ·cases h
  ·rw[zah.mp h];show 1<=r.2.2;lia
theorem abE(r:Row):az (eW r)=k6 r:=by
 have c:∀(mk:Str->Pt) (x:Str),(∀y,dX (mk y)=y.length)->az (txt mk x)=x.length:=by
  intro mk x h;unfold txt;by_cases e:x=""
  ·rw[e];rfl
  ·rw[if_neg e];show dX (mk x)+0=_;rw[h,Nat.add_zero]
 have t:∀a b:List Pt,az (a++b)=az a+az b:=λa b=>by simp[az]
 unfold eW k6;rw[t,t,c .put _ λ_=>rfl,c .cut _ λ_=>rfl]
 split
 ·rfl
 ·rfl
theorem D6:∀c:List Row,az (cR c)=(c.map k6).sum
 |[]=>rfl
 |r::c=>by
  have e:cR (r::c)=eW r++cR c:=rfl
  have t:∀a b:List Pt,az (a++b)=az a+az b:=λa b=>by simp[az]
  rw[e,t,abE,D6 c];rfl
theorem abF{l:List Row}{x:Row}(h:x∈l):k6 x<= (l.map k6).sum:=by
 induction l with
 |nil=>cases h
 |cons a l b=>
  rw[zav,zbp];rcases zaa.mp h with rfl|h
  ·lia
  ·lia
theorem pG(ps:List Pt)(h:∀p∈ps,gO p)(f:az ps<=100000):chainOk "" (fJ ps)=true/\(∀p∈fJ ps,aX p)/\az (fJ ps)<=100000:=by
 have I:=D5 ps 0 ([],((Str.ofString "",Str.ofString "",0):Row)) ⟨nofun,zaR _,(λx b=>by rw[zah.mp b];exact⟨pE,pE⟩),nofun,rfl⟩ h
 rw[zbi] at I;have e:fJ ps=cR ((ps.foldl bz ([],((Str.ofString "",Str.ofString "",0):Row))).1++[(ps.foldl bz ([],((Str.ofString "",Str.ofString "",0):Row))).2]):=rfl;rw[e];generalize ps.foldl bz ([],((Str.ofString "",Str.ofString "",0):Row))=t at I;refine⟨NL t.1 t.2 "" I.pos I.nn (.inl rfl) I.tl,λp c=>?_,by rw[D6,I.az];exact f⟩
 unfold cR at c;rw[zbM] at c;obtain⟨l,g,c⟩:=c;obtain⟨x,b,rfl⟩:=zai.mp g;have d:=abF b;rw[I.az] at d;refine abD (I.s1 x b) (by lia) ?_ c
 rcases zab.mp b with z|z
 ·have:=I.pos x z;lia
 ·rw[zah.mp z];exact I.nn
theorem D7(ps:List Pt):(jF ps).length<=3*ps.length+2:=by
 have g:∀(l:List Pt) (s:NS),(l.foldl dG s).1.length<=s.1.length+3*l.length:=by
  intro l
  induction l with
  |nil=>intro s;simp
  |cons p l e=>
   intro s;have d:=e (dG s p);have f:(dG s p).1.length<=s.1.length+3:=by
    obtain⟨c,u,b⟩:=s;cases p with
    |keep n=>
     by_cases h:0<n
     ·have k:dG (c,u,b) (.keep n)=(eU (d4 c u b) n,[],[]):=if_pos h;have:=zy c u b;have:=Ni (d4 c u b) n;lia
     ·have k:dG (c,u,b) (.keep n)=(c,u,b):=if_neg h;lia
    |put x=>show c.length<=c.length+3;lia
    |cut x=>show c.length<=c.length+3;lia
   rw[List.foldl_cons,zaz];lia
 have d:=g ps ([],[],[]);have f:=zy (ps.foldl dG ([],[],[])).1 (ps.foldl dG ([],[],[])).2.1 (ps.foldl dG ([],[],[])).2.2;show(d4 _ _ _).length<=_
 simp at d
 lia
def abG:Pt->PyData|.keep n=>.int n|.put s=>.str s|.cut s=>.str s
def toD(p:Pt):PyData:=.tuple [.str p.word,abG p]
def jf:Pt->Prop|.keep _=>True|.put s=>sg s|.cut s=>sg s
theorem NM(h:sg x):PyData.strOk x=true:=by
 have l:∀c,SG.cps.contains c=true->c<0x110000:=by
  have d:SG.cps.toList.all (λc=>decide<|c<0x110000)=true:=rfl
  intro c b;have m:c∈SG.cps.toList:=by simpa using b
  exact of_decide_eq_true<|zbK.mp d c m
 unfold PyData.strOk;rw[Array.all_eq_true'];intro c b;exact zqT<|l c<|h c (by simpa using b)
theorem toD_ok(h:jf p):(toD p).canLay0=true/\(toD p).depth=1:=by
 cases p with
 |keep n=>exact⟨(by show(PyData.strOk (Str.ofString "keep") && (true && true))=true;decide+kernel),rfl⟩
 |put s=>
  refine⟨?_,rfl⟩;show(PyData.strOk (Str.ofString "put") && (PyData.strOk s && true))=true;rw[NM h];decide+kernel
 |cut s=>
  refine⟨?_,rfl⟩;show(PyData.strOk (Str.ofString "cut") && (PyData.strOk s && true))=true;rw[NM h];decide+kernel
theorem NN:∀(ps:List Pt),(∀p∈ps,jf p)->PyData.canLayAll0 (ps.map toD)=true/\PyData.depthAll (ps.map toD)<=1
 |[],_=>⟨rfl,zqZ _⟩
 |p::r,h=>by
  obtain⟨a,b⟩:=toD_ok (h p zax);obtain⟨c,d⟩:=NN r λq e=>h q (zay _ e);refine⟨?_,?_⟩
  ·show((toD p).canLay0 && PyData.canLayAll0 (r.map toD))=true;rw[a,c];rfl
  ·show max (toD p).depth (PyData.depthAll<|r.map toD)<=1;lia
theorem D8:∀{vs:List V}{ps:List Pt},aH H vs ps->IsL H (ps.map toD) vs:=by
 intro _ _ p;induction p with
 |nil=>rfl
 |@cons v p _ _ x r i=>
  obtain⟨a,e,h⟩:=x;refine⟨v,_,rfl,⟨a,_,e,h,.str p.word,[p.val],rfl,rfl,p.val,[],rfl,?_,rfl⟩,i⟩;cases p<;>rfl
theorem NO(h:aX p):jf p:=by
 cases p with
 |keep n=>trivial
 |put s=>exact h.1.2
 |cut s=>exact h.1.2
def Pt.zJ:Pt->Pt|.keep n=>.keep n|.put s=>.cut s|.cut s=>.put s
def zK(ps:List Pt):List Pt:=ps.map Pt.zJ
theorem abH(ps:List Pt)(h:∀p∈ps,gO p):RI (az ps) (ps.foldl bz ([],((Str.ofString "",Str.ofString "",0):Row))):=by
 have I:=D5 ps 0 ([],((Str.ofString "",Str.ofString "",0):Row)) ⟨nofun,zaR _,(λx b=>by rw[zah.mp b];exact⟨pE,pE⟩),nofun,rfl⟩ h
 rwa [zbi] at I
theorem abI(h:aX p)(t:dX p<=100000):gO p:=by
 cases p with
 |keep n=>exact Int.le_trans (by lia) (show(1:Int)<=n from h)
 |put s=>exact⟨h.1,t⟩
 |cut s=>exact⟨h.1,t⟩
theorem zL{p:Pt}(h:p∈ps):dX p<=az ps:=by
 induction ps with
 |nil=>cases h
 |cons q ps b=>
  have e:az (q::ps)=dX q+az ps:=rfl
  rcases zaa.mp h with rfl|h
  ·lia
  ·lia
theorem NP(h:∀p∈ps,aX p)(t:az ps<=100000):∀p∈ps,gO p:=λp b=>abI (h p b) (zap (zL b) t)
inductive Run:List Nat->List Pt->List Nat->Prop
 |nil:Run [] [] []
 |keep {a l r:List Nat}{n:Int}{ps:List Pt}:n=a.length->Run l ps r->Run (a++l) (.keep n::ps) (a++r)
 |put {s:Str}{l r:List Nat}{ps:List Pt}:Run l ps r->Run l (.put s::ps) (s.cps.toList++r)
 |cut {s:Str}{l r:List Nat}{ps:List Pt}:Run l ps r->Run (s.cps.toList++l) (.cut s::ps) r
theorem Run.zJ{ps:List Pt}(h:Run l ps r):Run r (zK ps) l:=by
 induction h with
 |nil=>exact .nil
 |keep e _ b=>exact .keep e b
 |put _ b=>exact .cut b
 |cut _ b=>exact .put b
theorem Run.app{ps q:List Pt}(h:Run l ps r)(h':Run c q r'):Run (l++c) (ps++q) (r++r'):=by
 induction h with
 |nil=>exact h'
 |keep e _ b=>rw[zal,zal];exact .keep e b
 |put _ b=>rw[zal];exact .put b
 |cut _ b=>rw[zal];exact .cut b
theorem Run.over{ps:List Pt}(h:Run l ps r):(overOf ps).sum=l.length:=by
 induction h with
 |nil=>rfl
 | @keep a l r n ps e _ b=>
  have c:overOf (.keep n::ps)=n::overOf ps:=rfl;rw[c,zbp,b,e]
  simp
 | @put s l r ps _ b=>
  have c:overOf (.put s::ps)=overOf ps:=rfl;rw[c,b]
 | @cut s l r ps _ b=>
  have c:overOf (.cut s::ps)=(s.length:Int)::overOf ps:=rfl;rw[c,zbp,b,len_list]
  simp
def q_(r:Row)(l q:List Nat):Prop:= ∃k:List Nat,r.2.2=k.length/\l=r.2.1.cps.toList++k/\q=r.1.cps.toList++k
inductive nK:List Row->List Nat->List Nat->Prop
 |nil:nK [] [] []
 |snoc {b:List Row}{r:Row}{l q e d:List Nat}:nK b l q->q_ r e d->nK (b++[r]) (l++e) (q++d)
theorem NQ:Run [] (txt .put s) s.cps.toList:=by
 by_cases h:s=""
 ·rw[h];exact .nil
 ·rw[j9 h];have:=Run.put (s:=s) Run.nil
  rwa [zac] at this
theorem abJ:Run s.cps.toList (txt .cut s) []:=by
 have:=(NQ (s:=s)).zJ;have e:zK (txt .put s)=txt .cut s:=by
  unfold txt;split<;>rfl
 rwa [e] at this
theorem q_.run{r:Row}{l q:List Nat}(h:q_ r l q):Run l (eW r) q:=by
 obtain⟨k,b,rfl,rfl⟩:=h;have c:Run k (if r.2.2=0 then [] else [.keep r.2.2]) k:=by
  split
  ·rename_i h
   have:k=[]:=zaE.mp (by lia)
   rw[this];exact .nil
  ·have:=Run.keep b Run.nil
   rwa [zac] at this
 have:=((NQ (s:=r.1)).app<|abJ (s:=r.2.1)).app c
 simpa[eW] using this
theorem nK.run{l q:List Nat}(h:nK b l q):Run l (cR b) q:=by
 induction h with
 |nil=>exact .nil
 |snoc _ d c=>rw[zH,vX];exact c.app d.run
def One:Pt->List Nat->List Nat->Prop
 |.keep n,l,q=>l=q/\n=l.length
 |.put s,l,q=>l=[]/\q=s.cps.toList
 |.cut s,l,q=>l=s.cps.toList/\q=[]
theorem NR{l q:List Nat}{ps:List Pt}(h:Run l (p::ps) q):∃f d c b,l=f++d/\q=c++b/\Run d ps b/\
  One p f c:=by
 cases h with
 |keep e h=>exact⟨_,_,_,_,rfl,rfl,h,rfl,e⟩
 |put h=>exact⟨[],_,_,_,rfl,rfl,h,rfl,rfl⟩
 |cut h=>exact⟨_,_,[],_,rfl,rfl,h,rfl,rfl⟩
theorem abK{r:Row}{p:Pt}{l q t g m D:List Nat}(f:nK b l q)(d:q_ r t g)
  (u:One p m D):
  ∃A x w E,nK (bz (b,r) p).1 A x/\q_ (bz (b,r) p).2 w E/\l++t++m=A++w/\q++g++D=x++E:=by
 cases p with
 |keep n=>
  obtain⟨rfl,rfl⟩:=u;obtain⟨k,c,rfl,rfl⟩:=d;refine⟨l,q,_,_,f,⟨k++m,?_,rfl,rfl⟩,by simp[bz],by simp[bz]⟩
  show r.2.2+(m.length:Int)=_;rw[c,zqA];simp
 |put s=>
  obtain⟨rfl,rfl⟩:=u;by_cases h:s=""
  ·have e:bz (b,r) (.put s)=(b,r):=by simp only[bz,if_pos h]
   rw[e];refine⟨l,q,t,g,f,d,by simp,?_⟩
   rw[h];rw[ofString_empty];simp
  ·by_cases c:0<r.2.2
   ·have e:bz (b,r) (.put s)=(b++[r],((Str.ofString ""++s,"",0):Row)):=by simp only[bz,if_neg h,if_pos c]
    rw[e];refine⟨_,_,[],s.cps.toList,f.snoc d,⟨[],rfl,rfl,?_⟩,rfl,rfl⟩
    rw[tM];simp
   ·have e:bz (b,r) (.put s)=(b,(r.1++s,r.2.1,r.2.2)):=by simp only[bz,if_neg h,if_neg c]
    rw[e];obtain⟨k,R,rfl,rfl⟩:=d;have:k=[]:=zaE.mp (by lia)
    subst this;refine⟨l,q,r.2.1.cps.toList,r.1.cps.toList++s.cps.toList,f,⟨[],R,by simp,by simp[app_list]⟩,by simp,by simp⟩
 |cut s=>
  obtain⟨rfl,rfl⟩:=u;by_cases h:s=""
  ·have e:bz (b,r) (.cut s)=(b,r):=by simp only[bz,if_pos h]
   rw[e];refine⟨l,q,t,g,f,d,?_,by simp⟩
   rw[h];rw[ofString_empty];simp
  ·by_cases c:0<r.2.2
   ·have e:bz (b,r) (.cut s)=(b++[r],(("",Str.ofString ""++s,0):Row)):=by simp only[bz,if_neg h,if_pos c]
    rw[e];refine⟨_,_,s.cps.toList,[],f.snoc d,⟨[],rfl,?_,rfl⟩,by simp,by simp⟩
    show s.cps.toList=(Str.ofString ""++s).cps.toList++[];rw[tM];simp
   ·have e:bz (b,r) (.cut s)=(b,(r.1,r.2.1++s,r.2.2)):=by simp only[bz,if_neg h,if_neg c]
    rw[e];obtain⟨k,R,rfl,rfl⟩:=d;have:k=[]:=zaE.mp (by lia)
    subst this;refine⟨l,q,r.2.1.cps.toList++s.cps.toList,r.1.cps.toList,f,⟨[],R,by simp[app_list],by simp⟩,by simp,by simp⟩
theorem NT:∀(ps:List Pt) (e:List Row) (r:Row) (g f l q w t:List Nat),nK e g f->q_ r l q->Run w ps t->
  ∃m k h u,nK (ps.foldl bz (e,r)).1 m k/\q_ (ps.foldl bz (e,r)).2 h u/\g++l++w=m++h/\f++q++t=k++u:=by
 intro p;induction p with
 |nil=>intro e r g f l q w t D A x;cases x;exact⟨g,f,l,q,D,A,by simp,by simp⟩
 |cons p ps Y=>
  intro e r g f l q w t D A x;obtain⟨a,b,c,d,rfl,rfl,P,K⟩:=NR x;obtain⟨m,k,h,u,zq⟩:=qx4 (abK D A K);obtain⟨S,R,e1,e2⟩:=qa4 zq;obtain⟨I,G,N,E,zq⟩:=qx4 (Y _ _ m k h u b d S R P);obtain⟨V,T,Z,X⟩:=qa4 zq;refine⟨I,G,N,E,V,T,?_,?_⟩
  ·rw[<-Z,<-e1];simp
  ·rw[<-X,<-e2];simp
theorem tU{l q:List Nat}(h:Run l ps q):Run l (fJ ps) q:=by
 obtain⟨m,g,k,f,c,b,d,e⟩:=NT ps [] ("","",0) [] [] [] [] l q .nil ⟨[],rfl,rfl,rfl⟩ h;have:=(c.snoc b).run;rw[<-d,<-e] at this;exact this
inductive rm(vs:List V)(H:Hp)(Q:VK)(E:XK):Prop|i(x:_)(_:vs=[.str x])(_:good x)(_:Q .av H)
theorem abP{a b c:List Nat}(h:x.cps.toList=a++(b++c))(n:Int)(f:n=b.length):m8 x (some (a.length:Int)) (some<|(a.length:Int)+n)=⟨b.toArray⟩:=by
 have e:(a.length:Int)+n=((a.length+b.length:Nat):Int):=by lia
 unfold m8 m6;rw[e,HT.mZ,HT.mZ,h];have l:(a++(b++c)).length=a.length+(b.length+c.length):=by simp
 rw[l];have d:min a.length (a.length+(b.length+c.length))=a.length:=by lia
 have m:min (a.length+b.length) (a.length+(b.length+c.length))=a.length+b.length:=by lia
 rw[d,m,List.drop_left,show a.length+b.length - a.length=b.length by lia,List.take_left]
theorem abQ{a c:List Nat}(h:x.cps.toList=a++(s.cps.toList++c)):(decide (fromIndex x.length (a.length:Int)+s.length<=x.length) && Builtin.Str.subAt x s (fromIndex x.length (a.length:Int)))=true:=by
 have e:fromIndex x.length (a.length:Int)=a.length:=rfl
 have l:x.length=a.length+(s.length+c.length):=by rw[len_list x,h,len_list s];simp
 rw[e,zag];refine⟨by lia,?_⟩
 unfold Builtin.Str.subAt;rw[beq_iff_eq]
 apply Array.toList_inj.mp
 rw[Array.toList_extract,h,len_list s]
 simp
theorem zM(x:Str):(⟨x.cps.toList.toArray⟩:Str)=x:=rfl
abbrev abR:List (Str×Sp):=[("need_text",rm),("sizes",nE)]
inductive rn(vs:List V)(H:Hp)(Q:VK)(E:XK):Prop|i(x a xs ps r:_)(_:vs=[.str x,.ref a])(_:good x)(_:H a=some (.lst xs))(_:aH H xs ps)(_:(∀p∈ps,aX p))(_:chainOk "" ps=true)(_:ps.length<=100000)(_:Run x.cps.toList ps r)(_:r.length<=1000000)(_:∀H',aD H H'->Q (.str ⟨r.toArray⟩) H')
theorem abS{K:Frag}{et:List (Str×Addr)}(vs:List V)(H:Hp)(Q:VK)(E:XK)(h:rn vs H Q E):aE (aO K abR [] (et:=et) (E:=E)) Kj {nx:=λ_ H'=>Q .av H',rt:=Q} (start Ki vs) H:=by
 obtain⟨x,a,xs,G,r,rfl,hx,ha,dj,aG,b_,hl,hr,Nx,q⟩:=h;have N:=Paired.length dj;refine⟨_,rfl,x,rfl,hx,?_⟩;refine⟨_,rfl,a,xs,G,rfl,ha,dj,aG,b_,by lia,λt H1 s1 ht=>?_⟩
 refine .inr<|.inl ⟨_,_,_,_,rfl,rfl,aK.of ht,rfl,_,rfl,dz hx.1,_,rfl,?_⟩;rw[hr.over,<-len_list,zaM,zqT rfl];refine⟨zqZ _,λm NU=>?_⟩;have s2:aD H (upd H1 m<|.lst []):=s1.trans (sameNew NU);have NV:H m=none:=s1.free NU;refine⟨_,rfl,a,rfl,⟨_,aB.of (s2 _ _ ha)⟩,lR (K:=K) (a:=a) (xs:=xs) (λi σ H2=>qX7 λl R f P d w v=>qA8 (σ=[some (.str x),some (.ref a),some (.int ((l.length:Nat):Int)),some (.ref m),w,v]) (aD H H2) (H2 m=some (.lst (d.map V.str))) (x.cps.toList=l++R) (r=f++P) (Run R (G.drop i) P) ((cat d).cps.toList=f) (d.length<=i))
  ⟨[],x.cps.toList,[],r,[],none,none,rfl,s2,aw,rfl,rfl,hr,rfl,zqR _⟩
  (λi σ H2 _ ⟨_,_,_,_,_,_,_,_,e,_,_,_,_,_,_⟩=>aB.of (e _ _ ha)) ?_ ?_⟩
 ·rintro i y σ H2 hi ⟨l,R,f,P,d,w,v,rfl,e,p,D,A,I,u,tl⟩;obtain⟨pt,Z,kS⟩:=dj.get hi;obtain⟨b,rfl,hb⟩:=kS.mono (bV e);have i7:i<G.length:=(zad.mp Z).1;have ed:G.drop i=pt::G.drop (i+1):=by
   rw[zaY i7]
   congr 1
   exact zar<|(zaj i7).symm.trans Z
  rw[ed] at I;obtain⟨X,T,qa,S,rfl,rfl,D_,g⟩:=NR I;refine⟨b,_,rfl,.inl<|aK.of hb,rfl,_,_,rfl,_,_,rfl,rfl,?_⟩;have bt:∀o,aR m H2 (upd H2 m o):=λo=>aR.upd;cases pt with
  |put s=>
   obtain⟨rfl,rfl⟩:=g;refine⟨_,rfl,_,rfl,_,rfl,.inl ⟨rfl,_,aB.of p⟩,_,rfl,_,p,dh (by rw[zae];lia),?_⟩
   refine⟨l,T,f++s.cps.toList,S,d++[s],_,_,rfl,o6 e NV<|bt _,(by rw[aw,zaq];rfl),by simpa using D,by rw[A];simp,D_,by rw[DJ,DK,app_list,u],by simp;lia⟩
  |keep n=>
   obtain⟨rfl,hn⟩:=g;refine⟨_,rfl,_,rfl,_,rfl,_,rfl,_,rfl,.inl ⟨rfl,_,aB.of p⟩,?_⟩;refine⟨_,rfl,_,rfl,_,rfl,_,rfl,_,rfl,_,rfl,dz hx.1,?_⟩;rw[abP D n hn];refine⟨_,p,dh (by rw[zae];lia),?_⟩
   refine⟨_,rfl,_,rfl,?_⟩;refine⟨l++X,T,f++X,S,d++[⟨X.toArray⟩],some<|.str "keep",some<|.int n,?_,o6 e NV<|bt _,(by rw[aw,zaq];rfl),by rw[D];simp,by rw[A];simp,D_,by rw[DJ,DK,app_list,u],by simp;lia⟩
   show[_,_,some<|V.int<|(l.length:Int)+n,_,_,_]=_;rw[zqA,hn,zbB]
   rfl
  |cut s=>
   obtain⟨rfl,rfl⟩:=g;refine⟨_,rfl,_,rfl,_,rfl,_,rfl,_,rfl,rfl,_,rfl,_,rfl,?_⟩;show(λc H1=>if (!c)=true then _ else _) (decide (fromIndex x.length (l.length:Int)+s.length<=x.length) && Builtin.Str.subAt x s (fromIndex x.length (l.length:Int))) H2
   rw[abQ D];refine⟨_,rfl,_,rfl,dz (aG _<|zan Z).1.1,?_⟩;refine⟨l++s.cps.toList,T,f,S,d,some<|.str "cut",some<|.str s,?_,e,p,by rw[D];simp,A,D_,u,by lia⟩
   show[_,_,some<|V.int<|(l.length:Int)+(s.length:Int),_,_,_]=_;rw[zqA,<-len_list,zbB]
   rfl
 ·rintro σ H2 ⟨l,R,f,P,d,w,v,rfl,e,p,D,A,I,u,tl⟩;rw[N,List.drop_length] at I;cases I;rw[zac] at A;subst A;have a':sz d<=1000000:=by
   have:=DL d;rw[len_list,u] at this;lia
  have er:(⟨r.toArray⟩:Str)=cat d:=jE (by rw[u])
  refine⟨rfl,_,rfl,d,aB.of p,joinOk_of a',?_⟩;have k:=q H2 e;rw[er] at k;exact k
theorem tV(ps:List Pt)(h:∀p∈ps,gO p):az (fJ ps)=az ps:=by
 have e:fJ ps=cR ((ps.foldl bz ([],((Str.ofString "",Str.ofString "",0):Row))).1++[(ps.foldl bz ([],((Str.ofString "",Str.ofString "",0):Row))).2]):=rfl;rw[e,D6,(abH ps h).az]
inductive At where|K|P (c:Nat)|C (c:Nat)
 deriving DecidableEq
abbrev Form:=List Nat×List Nat×List (List Nat×List Nat)
def nb:List At->Form
 |[]=>([],[],[])
 |.P c::xs=>(c::(nb xs).1,(nb xs).2.1,(nb xs).2.2)
 |.C c::xs=>((nb xs).1,c::(nb xs).2.1,(nb xs).2.2)
 |.K::xs=>([],[],((nb xs).1,(nb xs).2.1)::(nb xs).2.2)
def fit:List Nat->List At->Prop
 |l,[]=>l=[]
 |l,.P _::xs=>fit l xs
 |[],.K::_=>False
 |_::l,.K::xs=>fit l xs
 |[],.C _::_=>False
 |a::l,.C c::xs=>a=c/\fit l xs
abbrev Sg:=Sum Nat Nat
def res(i:Nat):List At->List Sg
 |[]=>[]
 |.P c::xs=>.inr c::res i xs
 |.K::xs=>.inl i::res (i+1) xs
 |.C _::xs=>res (i+1) xs
theorem rp:∀(xs:List At) (i j:Nat),Sum.inl j∈res i xs->i<=j
 |[],i,j,h=>by cases h
 |.P c::xs,i,j,h=>by
  rcases zaa.mp h with z|z
  ·cases z
  ·exact rp xs i j z
 |.K::xs,i,j,h=>by
  rcases zaa.mp h with z|z
  ·cases z;exact zqR _
  ·have:=rp xs (i+1) j z;lia
 |.C c::xs,i,j,h=>by have:=rp xs (i+1) j h;lia
def out:List Nat->List At->List Nat
 |l,[]=>[]
 |l,.P c::xs=>c::out l xs
 |[],.K::xs=>out [] xs
 |a::l,.K::xs=>a::out l xs
 |[],.C _::xs=>out [] xs
 |_::l,.C _::xs=>out l xs
inductive bX:List At->List At->List At->Prop
 |nil:bX [] [] []
 |p {c xs ys b}:bX xs ys b->bX xs (.P c::ys) (.P c::b)
 |c {c xs ys b}:bX xs ys b->bX (.C c::xs) ys (.C c::b)
 |kk {xs ys b}:bX xs ys b->bX (.K::xs) (.K::ys) (.K::b)
 |kc {c xs ys b}:bX xs ys b->bX (.K::xs) (.C c::ys) (.C c::b)
 |pk {c xs ys b}:bX xs ys b->bX (.P c::xs) (.K::ys) (.P c::b)
 |pc {c xs ys b}:bX xs ys b->bX (.P c::xs) (.C c::ys) b
def sb(r:List Sg)(k:Nat):Sg->Sg
 |.inr c=>.inr c
 |.inl j=>r.getD (j - k) (.inr 0)
def sub(r:List Sg)(k:Nat)(t:List Sg):List Sg:=t.map (sb r k)
theorem zN(x:Sg)(r:List Sg)(k:Nat)(t:List Sg)(h:∀j,Sum.inl j∈t->k+1<=j):sub (x::r) k t=sub r (k+1) t:=by
 refine List.map_congr_left λy b=>?_;cases y with
 |inr c=>rfl
 |inl j=>
  have:=h j b
  simp only[sb]
  rw[show j - k=(j - (k+1))+1 by lia,List.getD_cons_succ]
theorem abT{xs ys e:List At}(h:bX xs ys e):∀(l:List Nat) (i k:Nat),fit l xs->fit (out l xs) ys->fit l e/\out l e=out (out l xs) ys/\res i e=sub (res i xs) k (res k ys):=by
 induction h with
 |nil=>intro l i k f g;exact⟨f,rfl,rfl⟩
 | @p c xs ys e _ m=>
  intro l i k f g;obtain⟨a,b,d⟩:=m l i k f g;refine⟨a,?_,?_⟩
  ·show c::out l e=c::out (out l xs) ys;rw[b]
  ·show Sum.inr c::res i e=_;rw[d];rfl
 | @c c xs ys e _ m=>
  intro l i k f g;cases l with
  |nil=>exact f.elim
  |cons a l=>
   obtain⟨rfl,f⟩:=f;obtain⟨u,t,q⟩:=m l (i+1) k f g;exact⟨⟨rfl,u⟩,t,q⟩
 | @kk xs ys e _ m=>
  intro l i k f g;cases l with
  |nil=>exact f.elim
  |cons a l=>
   obtain⟨u,t,q⟩:=m l (i+1) (k+1) f g;refine⟨u,?_,?_⟩
   ·show a::out l e=a::out (out l xs) ys;rw[t]
   ·show Sum.inl i::res (i+1) e=sub (Sum.inl i::res (i+1) xs) k (Sum.inl k::res (k+1) ys);rw[q];show _=sb (Sum.inl i::res (i+1) xs) k (Sum.inl k)::sub (Sum.inl i::res (i+1) xs) k (res (k+1) ys);rw[zN _ _ _ _ λj w=>rp ys (k+1) j w]
    simp only[sb]
    rw[zaJ,List.getD_cons_zero]
 | @kc c xs ys e _ m=>
  intro l i k f g;cases l with
  |nil=>exact f.elim
  |cons a l=>
   obtain⟨rfl,g⟩:=g;obtain⟨u,t,q⟩:=m l (i+1) (k+1) f g;refine⟨⟨rfl,u⟩,t,?_⟩;show res (i+1) e=sub (Sum.inl i::res (i+1) xs) k (res (k+1) ys);rw[q,zN _ _ _ _ λj w=>rp ys (k+1) j w]
 | @pk c xs ys e _ m=>
  intro l i k f g;obtain⟨u,t,q⟩:=m l i (k+1) f g;refine⟨u,?_,?_⟩
  ·show c::out l e=c::out (out l xs) ys;rw[t]
  ·show Sum.inr c::res i e=sub (Sum.inr c::res i xs) k (Sum.inl k::res (k+1) ys);rw[q];show _=sb (Sum.inr c::res i xs) k (Sum.inl k)::sub (Sum.inr c::res i xs) k (res (k+1) ys);rw[zN _ _ _ _ λj w=>rp ys (k+1) j w]
   simp only[sb]
   rw[zaJ,List.getD_cons_zero]
 | @pc c xs ys e _ m=>
  intro l i k f g;obtain⟨_,g⟩:=g;obtain⟨u,t,q⟩:=m l i (k+1) f g;refine⟨u,t,?_⟩;show res i e=sub (Sum.inr c::res i xs) k (res (k+1) ys);rw[q,zN _ _ _ _ λj w=>rp ys (k+1) j w]
def mw:Nat->List Nat->List Nat->List (List Nat×List Nat)->List Sg
 |i,p,q,[]=>p.map .inr
 |i,p,q,(c,b)::r=>p.map .inr++ .inl (i+q.length)::mw (i+q.length+1) c b r
theorem abU(c:Nat):∀(r:List (List Nat×List Nat)) (i:Nat) (p q:List Nat),mw (i+1) p q r=mw i p (c::q) r
 |[],i,p,q=>rfl
 |(d,b)::r,i,p,q=>by
  simp only[mw,zaz]
  rw[show i+1+q.length=i+(q.length+1) by lia]
theorem abV(c:Nat):∀(r:List (List Nat×List Nat)) (i:Nat) (p q:List Nat),mw i (c::p) q r=.inr c::mw i p q r
 |[],i,p,q=>rfl
 |(d,b)::r,i,p,q=>rfl
theorem vZ:∀(xs:List At) (i:Nat),res i xs=mw i (nb xs).1 (nb xs).2.1 (nb xs).2.2
 |[],i=>rfl
 |.P c::xs,i=>by
  show Sum.inr c::res i xs=mw i (c::(nb xs).1) _ _;rw[vZ xs i,abV];rfl
 |.C c::xs,i=>by
  show res (i+1) xs=mw i (nb xs).1 (c::(nb xs).2.1) _;rw[vZ xs<|i+1,abU c];rfl
 |.K::xs,i=>by
  show Sum.inl i::res (i+1) xs=Sum.inl (i+0)::mw (i+0+1) _ _ _;rw[vZ xs<|i+1];rfl
theorem abW{xs ys:List At}(h:nb xs=nb ys)(i:Nat):res i xs=res i ys:=by rw[vZ,vZ,h]
def jG:List Nat->List Nat->List (List Nat×List Nat)->Form->Form
 |p,q,[],c=>(p++c.1,q++c.2.1,c.2.2)
 |p,q,(a,b)::r,c=>(p,q,((jG a b r c).1,(jG a b r c).2.1)::(jG a b r c).2.2)
theorem abX(c:Nat)(p q:List Nat)(r:List (List Nat×List Nat))(b:Form):jG (c::p) q r b=(c::(jG p q r b).1,(jG p q r b).2.1,(jG p q r b).2.2):=by
 cases r<;>rfl
theorem abY(c:Nat)(p q:List Nat)(r:List (List Nat×List Nat))(b:Form):jG p (c::q) r b=((jG p q r b).1,c::(jG p q r b).2.1,(jG p q r b).2.2):=by
 cases r<;>rfl
theorem nN:∀(xs ys:List At),nb (xs++ys)=jG (nb xs).1 (nb xs).2.1 (nb xs).2.2 (nb ys)
 |[],ys=>rfl
 |.K::xs,ys=>by
  simp only[zaX,nb,nN xs ys];rfl
 |.P c::xs,ys=>by
  simp only[zaX,nb,nN xs ys,abX]
 |.C c::xs,ys=>by
  simp only[zaX,nb,nN xs ys,abY]
theorem Ea{xs b ys d:List At}(h:nb xs=nb b)(h':nb ys=nb d):nb (xs++ys)=nb (b++d):=by rw[nN,nN,h,h']
theorem Eb:∀(p:List Nat),nb (p.map .P)=(p,[],[])
 |[]=>rfl
 |c::p=>by simp only[zav,nb,Eb p]
theorem Ec:∀(p:List Nat),nb (p.map .C)=([],p,[])
 |[]=>rfl
 |c::p=>by simp only[zav,nb,Ec p]
theorem abZ(p q:List Nat):nb (q.map .C++p.map .P)=nb (p.map .P++q.map .C):=by
 rw[nN,nN,Eb,Ec]
 simp[jG]
def rK(n:Nat):List At:=List.replicate n .K
theorem ab0(n:Nat)(xs:List At):nb (rK (n+1)++xs)=([],[],List.replicate n ([],[])++((nb xs).1,(nb xs).2.1)::(nb xs).2.2):=by
 induction n with
 |zero=>rfl
 |succ n h=>
  have e:rK (n+1+1)++xs=.K::(rK (n+1)++xs):=rfl;rw[e]
  simp only[nb,h]
  rfl
theorem Ed:∀(a l:List Nat) (xs:List At),fit (a++l) (rK a.length++xs)↔fit l xs
 |[],l,xs=>Iff.rfl
 |c::a,l,xs=>Ed a l xs
theorem Ee:∀(a l:List Nat) (xs:List At),out (a++l) (rK a.length++xs)=a++out l xs
 |[],l,xs=>rfl
 |c::a,l,xs=>by
  show c::out (a++l) (rK a.length++xs)=_;rw[Ee a l xs];rfl
theorem rq:∀(s l:List Nat) (xs:List At),fit l (s.map .P++xs)↔fit l xs
 |[],l,xs=>Iff.rfl
 |c::s,l,xs=>rq s l xs
theorem zO:∀(s l:List Nat) (xs:List At),out l (s.map .P++xs)=s++out l xs
 |[],l,xs=>rfl
 |c::s,l,xs=>by
  show c::out l (s.map .P++xs)=_;rw[zO s l xs];rfl
theorem Ef:∀(s l:List Nat) (xs:List At),fit (s++l) (s.map .C++xs)↔fit l xs
 |[],l,xs=>Iff.rfl
 |c::s,l,xs=>by
  show c=c/\fit (s++l) (s.map .C++xs)↔_;rw[Ef s l xs];simp
theorem zP:∀(s l:List Nat) (xs:List At),out (s++l) (s.map .C++xs)=out l xs
 |[],l,xs=>rfl
 |c::s,l,xs=>zP s l xs
inductive cY:List At->List At->List At->List At->Prop
 |nil:cY [] [] [] []
 |p1 {c xs ys b t}:cY xs ys b t->cY (.P c::xs) ys (.P c::b) (.K::t)
 |p2 {c xs ys b t}:cY xs ys b t->cY xs (.P c::ys) (.K::b) (.P c::t)
 |kk {xs ys b t}:cY xs ys b t->cY (.K::xs) (.K::ys) (.K::b) (.K::t)
 |kc {c xs ys b t}:cY xs ys b t->cY (.K::xs) (.C c::ys) b (.C c::t)
 |ck {c xs ys b t}:cY xs ys b t->cY (.C c::xs) (.K::ys) (.C c::b) t
 |cc {c xs ys b t}:cY xs ys b t->cY (.C c::xs) (.C c::ys) b t
theorem cY.fits{xs ys k t:List At}(h:cY xs ys k t):∀l,fit l xs->fit l ys->fit (out l xs) t/\fit (out l ys) k/\out (out l xs) t=out (out l ys) k:=by
 induction h with
 |nil=>intro l e f;cases e;exact⟨rfl,rfl,rfl⟩
 | @p1 c xs ys k t _ g=>
  intro l e f;obtain⟨a,b,d⟩:=g l e f;exact⟨a,b,by show c::_=c::_;rw[d]⟩
 | @p2 c xs ys k t _ g=>
  intro l e f;obtain⟨a,b,d⟩:=g l e f;exact⟨a,b,by show c::_=c::_;rw[d]⟩
 | @kk xs ys k t _ g=>
  intro l e f;cases l with
  |nil=>exact e.elim
  |cons x l=>
   obtain⟨a,b,d⟩:=g l e f;exact⟨a,b,by show x::_=x::_;rw[d]⟩
 | @kc c xs ys k t _ g=>
  intro l e f;cases l with
  |nil=>exact e.elim
  |cons x l=>
   obtain⟨rfl,f⟩:=f;obtain⟨a,b,d⟩:=g l e f;exact⟨⟨rfl,a⟩,b,d⟩
 | @ck c xs ys k t _ g=>
  intro l e f;cases l with
  |nil=>exact e.elim
  |cons x l=>
   obtain⟨rfl,e⟩:=e;obtain⟨a,b,d⟩:=g l e f;exact⟨a,⟨rfl,b⟩,d⟩
 | @cc c xs ys k t _ g=>
  intro l e f;cases l with
  |nil=>exact e.elim
  |cons x l=>
   obtain⟨rfl,e⟩:=e;obtain⟨_,f⟩:=f;exact g l e f
end L2.B
variable {ps other c:List L2.B.Pt}{ts:List L2.B.At}{tx:List (List Nat)}{C' d' CB:PySem.Addr}{cC:Nat}
namespace L2.B
def ba:Pt->List At
 |.keep n=>rK n.toNat
 |.put s=>s.cps.toList.map .P
 |.cut s=>s.cps.toList.map .C
def ar(ps:List Pt):List At:=(ps.map ba).flatten
theorem c8(p:Pt)(ps:List Pt):ar (p::ps)=ba p++ar ps:=rfl
theorem fm(ps q:List Pt):ar (ps++q)=ar ps++ar q:=by simp[ar]
theorem hX(p:Pt):ar [p]=ba p:=by simp[ar]
def hZ:Pt->Prop|.keep n=>0<=n|_=>True
theorem tW(h:gO p):hZ p:=by cases p<;>first|exact h|trivial
theorem pH(h:aX p):hZ p:=by
 cases p with
 |keep n=>exact Int.le_trans (by lia) (show(1:Int)<=n from h)
 |_=>trivial
theorem Run.fits(h:Run l ps r):fit l (ar ps)/\out l (ar ps)=r:=by
 induction h with
 |nil=>exact⟨rfl,rfl⟩
 | @keep a l r n ps e _ b=>
  rw[c8];have d:ba (.keep n)=rK a.length:=by show rK n.toNat=_;rw[e];simp
  rw[d];exact⟨(Ed a l _).mpr b.1,by rw[Ee,b.2]⟩
 | @put s l r ps _ b=>
  rw[c8];exact⟨(rq _ l _).mpr b.1,by show out l (s.cps.toList.map .P++_)=_;rw[zO,b.2]⟩
 | @cut s l r ps _ b=>
  rw[c8];exact⟨(Ef _ l _).mpr b.1,by show out _ (s.cps.toList.map .C++_)=_;rw[zP,b.2]⟩
theorem NW:∀(n:Nat) (l:List Nat) (xs:List At),fit l (rK n++xs)->∃a b,l=a++b/\a.length=n
 | 0,l,xs,h=>⟨[],l,rfl,rfl⟩
 |n+1,[],xs,h=>(show False from h).elim
 |n+1,c::l,xs,h=>by
  obtain⟨a,b,e,d⟩:=NW n l xs h;exact⟨c::a,b,e▸rfl,by simp[d]⟩
theorem v5:∀(s l:List Nat) (xs:List At),fit l (s.map .C++xs)->∃b,l=s++b
 |[],l,xs,h=>⟨l,rfl⟩
 |c::s,[],xs,h=>(show False from h).elim
 |c::s,d::l,xs,h=>by
  obtain⟨e,h⟩:=(show d=c/\fit l (s.map .C++xs) from h)
  obtain⟨b,f⟩:=v5 s l xs h;exact⟨b,by rw[e,f];rfl⟩
theorem pI:∀(ps:List Pt) (l:List Nat),(∀p∈ps,hZ p)->fit l (ar ps)->Run l ps (out l<|ar ps)
 |[],l,_,h=>by
  have:=h;subst this;exact .nil
 |.keep n::ps,l,d,h=>by
  rw[c8] at h⊢;obtain⟨a,b,rfl,f⟩:=NW _ _ _ h;have V:0<=n:=d _ (.head _);have g:ba (.keep n)=rK a.length:=by show rK n.toNat=_;rw[f]
  rw[g] at h⊢;rw[Ee];exact .keep (by lia)<|pI ps b (λp e=>d p<|.tail _ e)<|(Ed a b _).mp h
 |.put s::ps,l,d,h=>by
  show Run l _ (out l<|s.cps.toList.map .P++_);rw[zO];exact .put<|pI ps l (λp e=>d p<|.tail _ e)<|(rq _ l _).mp h
 |.cut s::ps,l,d,h=>by
  obtain⟨b,rfl⟩:=v5 _ _ _ h;show Run _ _ (out _<|s.cps.toList.map .C++_);rw[zP];exact .cut<|pI ps b (λp e=>d p<|.tail _ e)<|(Ef _ b _).mp h
def k7(s:NS):List At:=ar s.1++((cat s.2.1).cps.toList.map .P++(cat s.2.2).cps.toList.map .C)
theorem NX(mk:Str->Pt)(f:Nat->At)(h:∀s,ba (mk s)=s.cps.toList.map f)(x:Str):ar (txt mk x)=x.cps.toList.map f:=by
 by_cases b:x=""
 ·rw[b];rfl
 ·rw[j9 b,hX,h]
theorem NY(ch:List Pt)(p c:List Str):ar (d4 ch p c)=k7 (ch,p,c):=by
 unfold d4 k7;rw[fm,fm,NX .put .P<|λ_=>rfl,NX .cut .C<|λ_=>rfl,zal]
theorem NZ(m n:Nat):rK m++rK n=rK (m+n):=by unfold rK;rw[List.replicate_append_replicate]
theorem ab1(ch:List Pt)(n:Int)(k:0<=n)(h:∀p∈ch,hZ p):ar (eU ch n)=ar ch++rK n.toNat:=by
 unfold eU
 split
 ·rename_i m e
  have b:=List.mem_of_getLast? e;have d:0<=m:=h _ b;have f:ch=ch.dropLast++[.keep m]:=by
   have g:ch≠ []:=by intro z;rw[z] at b;cases b
   rw[List.getLast?_eq_some_getLast g] at e;rw[<-(zar e),List.dropLast_concat_getLast]
  conv=>rhs;rw[f]
  rw[fm,fm,hX,hX,zal];show _++rK (n+m).toNat=_++(rK m.toNat++rK n.toNat);rw[NZ,show(n+m).toNat=m.toNat+n.toNat by lia]
 ·rw[fm,hX];rfl
theorem N1{mk:Str->Pt}(h:∀s,hZ<|mk s)(x:Str):∀p∈txt mk x,hZ p:=by
 intro p b;unfold txt at b
 split at b
 ·cases b
 ·rw[zah.mp b];exact h x
theorem N2(p c:List Str)(h:∀p∈ch,hZ p):∀q∈d4 ch p c,hZ q:=by
 intro q b;rcases zab.mp b with z|z
 ·rcases zab.mp z with z|z
  ·exact h q z
  ·exact N1 (mk:=.put) (λ_=>trivial) _ q z
 ·exact N1 (mk:=.cut) (λ_=>trivial) _ q z
theorem ab3{n:Int}(d:0<=n)(h:∀p∈ch,hZ p):∀q∈eU ch n,hZ q:=by
 intro q b;unfold eU at b
 split at b
 ·rename_i m e
  rcases zab.mp b with z|z
  ·exact h q ((List.dropLast_sublist ch).subset z)
  ·rw[zah.mp z];have f:0<=m:=h _ (List.mem_of_getLast? e);show 0<=n+m;lia
 ·rcases zab.mp b with z|z
  ·exact h q z
  ·rw[zah.mp z];exact d
theorem ab4(s:NS)(p:Pt)(g:hZ p)(h:∀q∈s.1,hZ q):nb (k7<|dG s p)=nb (k7 s++ba p)/\∀q∈ (dG s p).1,hZ q:=by
 obtain⟨d,u,b⟩:=s;cases p with
 |put x=>
  refine⟨?_,h⟩;show nb (ar d++((cat<|u++[x]).cps.toList.map .P++(cat b).cps.toList.map .C))=nb (ar d++((cat u).cps.toList.map .P++(cat b).cps.toList.map .C)++x.cps.toList.map .P);rw[pA,app_list,zaq,zal,zal,zal];exact Ea rfl<|Ea rfl ((abZ _ _).symm)
 |cut x=>
  refine⟨?_,h⟩;show nb (ar d++((cat u).cps.toList.map .P++(cat<|b++[x]).cps.toList.map .C))=nb (ar d++((cat u).cps.toList.map .P++(cat b).cps.toList.map .C)++x.cps.toList.map .C);rw[pA,app_list,zaq,zal,zal]
 |keep n=>
  have V:=g;by_cases f:0<n
  ·have e:dG (d,u,b) (.keep n)=(eU (d4 d u b) n,[],[]):=if_pos f;rw[e];refine⟨?_,ab3 V<|N2 _ _ h⟩;show nb (ar (eU (d4 d u b) n)++[])=nb (k7 (d,u,b)++rK n.toNat);rw[zac,ab1 _ _ V<|N2 _ _ h,NY]
  ·have e:dG (d,u,b) (.keep n)=(d,u,b):=if_neg f;rw[e];refine⟨?_,h⟩;show _=nb (k7 (d,u,b)++rK n.toNat);rw[show n.toNat=0 by lia]
   show _=nb (_++[]);rw[zac]
theorem N3:∀(ps:List Pt) (s:NS),(∀p∈ps,hZ p)->(∀q∈s.1,hZ q)->nb (k7<|ps.foldl dG s)=nb (k7 s++ar ps)
 |[],s,_,_=>by show nb (k7 s)=nb (k7 s++[]);rw[zac]
 |p::ps,s,h,d=>by
  obtain⟨a,b⟩:=ab4 s p (h p<|.head _) d;show nb (k7<|ps.foldl dG<|dG s p)=_;rw[N3 ps _ (λq e=>h q<|.tail _ e) b,c8,<-zal];exact Ea a rfl
theorem pJ(ps:List Pt)(h:∀p∈ps,hZ p):nb (ar<|jF ps)=nb (ar ps):=by
 unfold jF
 rw[NY];exact (N3 ps ([],[],[]) h nofun)
theorem jg(h:s≠""):∃c r,s.cps.toList=c::r:=by
 cases e:s.cps.toList with
 |nil=>exact absurd (jE (e▸rfl)) h
 |cons c r=>exact⟨c,r,rfl⟩
theorem tX(s:Str)(xs:List At):nb (s.cps.toList.map .P++xs)=(s.cps.toList++(nb xs).1,(nb xs).2.1,(nb xs).2.2):=by
 rw[nN,Eb];rfl
theorem rz(s:Str)(xs:List At):nb (s.cps.toList.map .C++xs)=((nb xs).1,s.cps.toList++(nb xs).2.1,(nb xs).2.2):=by
 rw[nN,Ec];rfl
theorem rA{n:Int}(h:1<=n)(xs:List At):nb (rK n.toNat++xs)=([],[],List.replicate (n.toNat - 1) ([],[])++((nb xs).1,(nb xs).2.1)::(nb xs).2.2):=by
 obtain⟨m,e⟩:∃m,n.toNat=m+1:=⟨n.toNat - 1,by lia⟩
 rw[e,ab0];rfl
theorem N4(h:o7 "put" w=true):w≠"put"/\w≠"cut":=by
 refine⟨λz=>?_,λz=>?_⟩ <;>subst z<;>exact absurd h (by decide)
theorem ab5(h:o7 "cut" w=true):w≠"cut":=by
 intro z;subst z;exact absurd h (by decide)
theorem N5(h:o7 "keep" w=true):w≠"keep":=by
 intro z;subst z;exact absurd h (by decide)
theorem pK{ps:List Pt}{w:Str}(h:chainOk w ps=true)(d:∀p∈ps,aX p)(e:w="put"\/w="cut"):(nb<|ar ps).1=[]:=by
 cases ps with
 |nil=>rfl
 |cons p ps=>
  simp only[chainOk,zag] at h
  have g:=d p (.head _);cases p with
  |keep n=>show(nb<|rK n.toNat++_).1=_;rw[rA g]
  |put s=>
   obtain⟨a,b⟩:=N4 h.1;rcases e with z|z
   ·exact absurd z a
   ·exact absurd z b
  |cut s=>
   show(nb<|s.cps.toList.map .C++_).1=_;rw[rz];exact pK h.2 (λq f=>d q<|.tail _ f)<|.inr rfl
theorem Eg(h:chainOk "cut" ps=true)(d:∀p∈ps,aX p):(nb<|ar ps).2.1=[]:=by
 cases ps with
 |nil=>rfl
 |cons p ps=>
  simp only[chainOk,zag] at h
  have b:=d p (.head _);cases p with
  |keep n=>show(nb<|rK n.toNat++_).2.1=_;rw[rA b]
  |put s=>exact absurd rfl (N4 h.1).2
  |cut s=>exact absurd rfl (ab5 h.1)
theorem N6(d:chainOk "keep" ps=true)(f:∀p∈ps,aX p)(l:(nb<|ar ps).1=[])(k:(nb<|ar ps).2.1=[]):ps=[]:=by
 cases ps with
 |nil=>rfl
 |cons p ps=>
  simp only[chainOk,zag] at d
  have h:=f p (.head _);cases p with
  |keep n=>exact absurd rfl (N5 d.1)
  |put s=>
   obtain⟨c,r,e⟩:=jg h.2;have g:(nb<|s.cps.toList.map .P++ar ps).1=[]:=l;rw[e] at g;cases g
  |cut s=>
   obtain⟨c,r,e⟩:=jg h.2;have b:(nb<|s.cps.toList.map .C++ar ps).2.1=[]:=k;rw[e] at b;cases b
theorem N7{a b:List Nat×List Nat}{r s:List (List Nat×List Nat)}:∀{m n:Nat},List.replicate m (([],[]):List Nat×List Nat)++a::r=List.replicate n ([],[])++b::s->(m=n/\a=b/\r=s)\/(m<n/\a=([],[])/\r≠ [])\/(n<m/\b=([],[])/\s≠ [])
 | 0,0,h=>by
  injection h with e d
  exact .inl ⟨rfl,e,d⟩
 | 0,n+1,h=>by
  injection h with e d
  exact .inr<|.inl ⟨by lia,e,by rw[d];simp⟩
 |m+1,0,h=>by
  injection h with e d
  exact .inr<|.inr ⟨by lia,e.symm,by rw[<-d];simp⟩
 |m+1,n+1,h=>by
  injection h with _ d
  rcases N7 d with⟨x,y⟩|⟨x,y⟩|⟨x,y⟩
  ·exact .inl ⟨by lia,y⟩
  ·exact .inr (.inl ⟨by lia,y⟩)
  ·exact .inr (.inr ⟨by lia,y⟩)
theorem N8(q:Pt)(d:List Pt)(k:∀p∈q::d,aX p)(h:([],[],[])=nb (ar (q::d))):False:=by
 have f:=k q (.head _);have g:=h;cases q with
 |keep n=>
  have b:([],[],[])=nb (rK n.toNat++ar d):=g;rw[rA f] at b;have:=congrArg (λx=>x.2.2) b
  simp at this
 |put s=>
  obtain⟨c,r,e⟩:=jg f.2;have b:([],[],[])=nb (s.cps.toList.map .P++ar d):=g;rw[tX,e] at b;have:=congrArg (λx=>x.1) b
  simp at this
 |cut s=>
  obtain⟨c,r,e⟩:=jg f.2;have b:([],[],[])=nb (s.cps.toList.map .C++ar d):=g;rw[rz,e] at b;have:=congrArg (λx=>x.2.1) b
  simp at this
theorem Eh:∀(ps d:List Pt) (w v:Str),chainOk w ps=true->chainOk v d=true->(∀p∈ps,aX p)->(∀p∈d,aX p)->nb (ar ps)=nb (ar d)->ps=d
 |[],[],_,_,_,_,_,_,_=>rfl
 |[],q::d,_,_,_,_,_,G,h=>(N8 q d G h).elim
 |p::ps,[],_,_,_,_,G,_,h=>(N8 p ps G h.symm).elim
 |p::ps,q::d,w,v,E,g,G,eQ,h=>by
  simp only[chainOk,zag] at E g
  have R:=G p (.head _);have t:=eQ q (.head _);have T:∀x∈ps,aX x:=λx X=>G x (.tail _ X);have l:∀x∈d,aX x:=λx X=>eQ x (.tail _ X);rw[c8,c8] at h;have u:p=q->nb (ar ps)=nb (ar d)->p::ps=q::d:=λS k=>by
   rw[S,Eh ps d p.word q.word E.2 g.2 T l k]
  cases p with
  |keep n=>
   have f:nb (rK n.toNat++ar ps)=nb (ba q++ar d):=h;rw[rA R] at f;cases q with
   |keep m=>
    have b:_=nb (rK m.toNat++ar d):=f;rw[rA t] at b;have h3:=congrArg (λx=>x.2.2) b;have fB:(1:Int)<=n:=R;have a':(1:Int)<=m:=t;rcases N7 h3 with⟨S,k,A⟩|⟨S,k,A⟩|⟨S,k,A⟩
    ·refine u (by congr 1;lia) ?_
     have I:=congrArg Prod.fst k;have Z:=congrArg Prod.snd k
     exact Prod.ext I<|Prod.ext Z A
    ·have I:=congrArg Prod.fst k;have Z:=congrArg Prod.snd k;have:=N6 E.2 T I Z;rw[this] at A;exact absurd rfl A
    ·have I:=congrArg Prod.fst k;have Z:=congrArg Prod.snd k;have:=N6 g.2 l I Z;rw[this] at A;exact absurd rfl A
   |put s=>
    exfalso
    obtain⟨c,r,e⟩:=jg t.2;have b:_=nb (s.cps.toList.map .P++ar d):=f;rw[tX,e] at b;have:=congrArg (λx=>x.1) b
    simp at this
   |cut s=>
    exfalso
    obtain⟨c,r,e⟩:=jg t.2;have b:_=nb (s.cps.toList.map .C++ar d):=f;rw[rz,e] at b;have:=congrArg (λx=>x.2.1) b
    simp at this
  |put x=>
   obtain⟨c0,r0,V⟩:=jg R.2;have f:nb (x.cps.toList.map .P++ar ps)=nb (ba q++ar d):=h;rw[tX] at f;have D:=pK E.2 T (.inl rfl);cases q with
   |keep m=>
    exfalso
    have b:_=nb (rK m.toNat++ar d):=f;rw[rA t,V] at b;have:=congrArg (λx=>x.1) b
    simp at this
   |put s=>
    have b:_=nb (s.cps.toList.map .P++ar d):=f;rw[tX,D,pK g.2 l<|.inl rfl,zac,zac] at b;have N:=congrArg (λx=>x.1) b;have K:=congrArg (λx=>x.2) b
    simp only at N K
    refine u (by rw[jE N]) ?_
    exact Prod.ext (by rw[D,pK g.2 l<|.inl rfl]) K
   |cut s=>
    exfalso
    have b:_=nb (s.cps.toList.map .C++ar d):=f;rw[rz,pK g.2 l<|.inr rfl,V] at b;have:=congrArg (λx=>x.1) b
    simp at this
  |cut x=>
   obtain⟨c0,r0,V⟩:=jg R.2;have f:nb (x.cps.toList.map .C++ar ps)=nb (ba q++ar d):=h;have D:=pK E.2 T (.inr rfl);have k2:=Eg E.2 T;rw[rz] at f;cases q with
   |keep m=>
    exfalso
    have b:_=nb (rK m.toNat++ar d):=f;rw[rA t,V] at b;have:=congrArg (λx=>x.2.1) b
    simp at this
   |put s=>
    exfalso
    obtain⟨c,r,e⟩:=jg t.2;have b:_=nb (s.cps.toList.map .P++ar d):=f;rw[tX,D,e] at b;have:=congrArg (λx=>x.1) b
    simp at this
   |cut s=>
    have b:_=nb (s.cps.toList.map .C++ar d):=f;rw[rz,D,k2,pK g.2 l<|.inr rfl,Eg g.2 l,zac,zac] at b;have N:=congrArg (λx=>x.2.1) b;have K:=congrArg (λx=>x.2.2) b
    simp only at N K
    refine u (by rw[jE N]) ?_
    exact Prod.ext (by rw[D,pK g.2 l<|.inr rfl])<|Prod.ext (by rw[k2,Eg g.2 l]) K
theorem iR{r:List (Str×V)}:((k,v)::r).lookup k=some v:=by simp
theorem cO{j:Str}{r:List (Str×V)}(h:¬k=j):((j,v)::r).lookup k=r.lookup k:=by
 have:(k==j)=false:=by lia
 simp[List.lookup,this]
theorem mx{w:V}{r:List (Str×V)}:aI k v ((k,w)::r)=(k,v)::r:=by simp[aI]
theorem eJ{j:Str}{w:V}{r:List (Str×V)}(h:¬j=k):aI k v ((j,w)::r)=(j,w)::aI k v r:=by simp[aI,h]
theorem ab6{P Q:Bool->Prop}(h:cj T v H P)(i:∀b,P b->Q b):cj T v H Q:=by
 cases v with
 |ref a=>
  unfold cj at h⊢
  simp only at h⊢
  split at h
  all_goals first|exact i _ h|exact h.elim
 |av=>exact i _ h
 |bl b=>exact i _ h
 |int _=>exact i _ h
 |str _=>exact i _ h
 |_=>exact False.elim h
theorem ab7{P:Bool->Prop}(h:cj T v H P)(s:aD H H'):cj T v H' P:=by
 cases v with
 |ref a=>
  unfold cj at h⊢
  simp only at h⊢
  cases e:H a with
  |none=>rw[e] at h;exact h.elim
  |some o=>rw[e] at h;rw[s _ _ e];exact h
 |av=>exact h
 |bl b=>exact h
 |int _=>exact h
 |str _=>exact h
 |_=>exact False.elim h
def ka(T:Ty)(v:V)(H:Hp):Prop:=cj T v H λb=>b=false
theorem ka.same(h:ka T v H)(s:aD H H'):ka T v H':=ab7 h s
theorem ka.go{Q:Bool->Prop}(h:ka T v H)(q:Q false):cj T v H Q:=ab6 h λb e=>e▸q
def ab8(x:Str):Bool:=x.cps.toList.all λc=>SG.cps.contains c
theorem N9{b:Type}(p:b->Bool):∀l:List b,l.all p=false->(l.takeWhile p).length<l.length
 |[],h=>by cases h
 |c::l,h=>by
  rw[List.takeWhile_cons];cases d:p c with
  |false=>simp
  |true=>
   rw[zbn,d] at h;have:=N9 p l h
   simp;lia
theorem ab9(x y:Str)(h:(x.cps.toList.all λc=>y.cps.contains c)=false):Txt.lstripChars x y≠"":=by
 have l:=N9 _ _ h;have g:stripLo y.cps.contains true x=(x.cps.toList.takeWhile y.cps.contains).length:=by
  unfold stripLo;rw[if_pos rfl]
 have f:∀n,stripHi y.cps.contains false x n=x.length:=λn=>rfl;intro z;have b:=congrArg Str.length z;unfold Txt.lstripChars Txt.stripBy stripSame stripped at b;have e:x.cps.size=x.cps.toList.length:=rfl
 split at b
 ·have:x.cps.size=0:=b;lia
 ·have d:(x.cps.extract (x.cps.toList.takeWhile y.cps.contains).length x.cps.size).size=0:=b;rw[Array.size_extract] at d;lia
def t4(v:V)(H:Hp):Prop:=(∃x,v=.str x/\x.length<=1000000/\ab8 x=false)\/ka .str v H
theorem t4.same(h:t4 v H)(s:aD H H'):t4 v H':=by
 rcases h with h|h
 ·exact .inl h
 ·exact .inr (h.same s)
def t6(v:V)(H:Hp):Prop:=(∃b,v=.bl b)\/ka .int v H
theorem t6.same(h:t6 v H)(s:aD H H'):t6 v H':=by
 rcases h with h|h
 ·exact .inl h
 ·exact .inr (h.same s)
inductive v7(vs:List V)(H:Hp)(Q:VK)(E:XK):Prop|i(v:_)(_:vs=[v])(_:((∃i,v=.int i/\Q (.bl true) H)\/(t6 v H/\Q (.bl false) H)))
theorem ab_{K:Frag}:cp (v7) (λE=>aO K [] [] (E:=E)) JX jB:=by
 intro vs H Q E h;obtain⟨v,rfl,⟨i,rfl,q⟩|⟨⟨b,rfl⟩|d,q⟩⟩:=h
 ·exact⟨_,rfl,rfl,_,rfl,gJ ⟨_,rfl,rfl,q⟩⟩
 ·exact⟨_,rfl,rfl,_,rfl,gJ ⟨_,rfl,rfl,q⟩⟩
 ·exact⟨_,rfl,rfl,d.go ⟨_,rfl,iI q⟩⟩
theorem aca(h:qU vs H Q E):v7 vs H Q E:=by
 obtain⟨i,rfl,q⟩:=h;exact⟨_,rfl,.inl ⟨i,rfl,q⟩⟩
inductive Ei(vs:List V)(H:Hp)(Q:VK)(E:XK):Prop|i(v:_)(_:vs=[v])(_:((∃x,v=.str x/\good x/\Q (.bl true) H)\/(t4 v H/\Q (.bl false) H)))
theorem acb{K:Frag}:cp (Ei) (λE=>aO K [] gS (E:=E)) Dj jB:=by
 intro vs H Q E h;obtain⟨v,rfl,⟨x,rfl,b,q⟩|⟨⟨x,rfl,l,b⟩|d,q⟩⟩:=h
 ·exact aaX _ _ _ _ ⟨x,rfl,b,q⟩
 ·refine⟨_,rfl,rfl,_,rfl,gJ ⟨_,rfl,rfl,dz l,?_⟩⟩;show Q (.bl<|false ^^ decide (V.str (Txt.lstripChars x SG)=V.str "")) H;rw[zqF<|λz=>ab9 x SG b (by lia)]
  exact q
 ·exact⟨_,rfl,rfl,d.go ⟨_,rfl,iI q⟩⟩
abbrev acd:List (Str×Sp):=[("is_text",Ei)]
inductive N_(C:Addr)(vs:List V)(H:Hp)(Q:VK)(E:XK):Prop|i(v:_)(_:vs=[v])(_:((∃x,v=.str x/\good x/\Q .av H)\/(t4 v H/\E (.ref C) none H)))
theorem ace{K:Frag}:cp (N_ C) (λE=>aO K acd [] (et:=[("BadText",C)]) (E:=E)) JZ jB:=by
 intro vs H Q E h;obtain⟨v,rfl,⟨x,rfl,b,q⟩|⟨d,q⟩⟩:=h
 ·exact⟨_,rfl,_,rfl,.inl ⟨x,rfl,b,q⟩⟩
 ·exact⟨_,rfl,_,rfl,.inr ⟨d,jN,q⟩⟩
theorem acf(h:rm vs H Q E):N_ C vs H Q E:=by
 obtain⟨x,rfl,b,q⟩:=h;exact⟨_,rfl,.inl ⟨x,rfl,b,q⟩⟩
inductive Ej(K:Frag)(vs:List V)(H:Hp)(Q:VK)(E:XK):Prop|i(v p xs:_)(_:vs=[v,.ref p])(_:aK K H p xs)(_:xs.all i6=true)(_:((∃w,v=.str w/\Q (.bl<|gX (.str w) xs) H)\/(ka .str v H/\Q (.bl false) H)))
theorem acg{K:Frag}:cp (Ej K) (λE=>aO K [] [] (E:=E)) Di Dh:=by
 intro vs H Q E h;obtain⟨v,p,xs,rfl,b,f,⟨w,rfl,q⟩|⟨d,q⟩⟩:=h
 ·exact aaY _ _ _ _ ⟨w,p,xs,rfl,b,f,q⟩
 ·exact⟨_,rfl,rfl,d.go ⟨_,rfl,iI q⟩⟩
theorem ach{K:Frag}{E:XK}(h:mq K vs H Q E):Ej K vs H Q E:=by
 obtain⟨w,p,xs,rfl,b,f,q⟩:=h;exact⟨_,p,xs,rfl,b,f,.inl ⟨w,rfl,q⟩⟩
def aci(v:V)(H:Hp):Prop:=ka .tuple v H\/∃a xs,v=.ref a/\H a=some (.tup xs)/\xs.length<=1000000/\(xs.length≠2\/∃w t,xs=[w,t]/\
 (ka .str w H\/(∃s,w=.str s/\s≠"keep"/\s≠"cut"/\s≠"put")\/(w=.str "keep"/\(t6 t H\/∃n,t=.int n/\n<1))\/((w=.str "cut"\/w=.str "put")/\(t4 t H\/t=.str ""))))
abbrev zQ(K:Frag):List (Str×Sp):=[("is_word",Ej K),("is_whole",v7),("is_text",Ei)]
inductive Oa(vs:List V)(H:Hp)(Q:VK)(E:XK):Prop|i(v:_)(_:vs=[v])(_:((∃p,je H v p/\aX p/\∀H',aD H H'->Q (.bl true) H')\/(aci v H/\∀H',aD H H'->Q (.bl false) H')))
theorem Ob(s t:Str):gX (.str s) [.str t]=(t==s):=by
 show(iH (.str t) (.str s)||false)=_;rw[zbG];rfl
theorem acj{K:Frag}:cp (Oa) (λE=>aO K (zQ K) [] (E:=E)) zj jB:=by
 intro vs H Q E h;have m:∀(a:Addr) (w t:V) (Q1:VK) (H1:Hp) (σ:St),σ[0]?=some (some<|.ref a)->H1 a=some (.tup [w,t])->
   (∀(R:Addr) H2,aD H1 H2->∀b:Bool,(b=true->w=.str "cut"\/w=.str "put")->(b=false->w≠ .str "cut"/\w≠ .str "put")->Q1 (.bl b) H2)->(ka .str w H1\/∃s,w=.str s)->
   ag (aO K (zQ K) [] (E:=E)) (.call 0 [(.ix (.v 0)<|.c<|.int 0),(.tup [(.c<|.str "cut"),(.c<|.str "put")])]) σ H1 Q1:=by
  intro a w t Q1 H1 σ h0 k q g;refine⟨_,h0,.inr<|.inl ⟨_,_,_,_,rfl,rfl,aK.of k,rfl,fQ,λt ht=>?_⟩⟩;have f:=sameNew (o:=.tup [V.str "cut",V.str "put"]) ht;refine⟨w,t,_,rfl,aK.of aw,rfl,?_⟩;rcases g with g|⟨s,rfl⟩
  ·refine .inr ⟨g.same f,q t _ f false (λz=>by cases z) λ_=>⟨?_,?_⟩⟩
   ·rintro rfl;cases (show true=false from g)
   ·rintro rfl;cases (show true=false from g)
  ·refine .inl ⟨s,rfl,q t _ f _ (λz=>?_) λz=>?_⟩
   ·have l:((Str.ofString "cut"==s)||((Str.ofString "put"==s)||false))=true:=z
    simp only[zbG,Bool.or_eq_true,beq_iff_eq] at l
    rcases l with l|l<;>subst l
    ·exact .inl rfl
    ·exact .inr rfl
   ·have l:((Str.ofString "cut"==s)||((Str.ofString "put"==s)||false))=false:=z
    simp only[zbG,Bool.or_eq_false_iff,beq_eq_false_iff_ne] at l
    exact⟨λy=>l.1 (by injection y with y;exact y.symm),λy=>l.2 (by injection y with y;exact y.symm)⟩
 obtain⟨v,rfl,⟨p,⟨a,rfl,k⟩,x,q⟩|⟨hn|⟨a,xs,rfl,k,hl,d⟩,q⟩⟩:=h
 ·refine⟨_,rfl,rfl,vR k ⟨_,rfl,.inr ⟨_,aK.of k,_,rfl,?_⟩⟩⟩;refine⟨_,rfl,.inr<|.inl ⟨_,_,_,_,rfl,rfl,aK.of k,rfl,jN,λu Z=>?_⟩⟩;have e:=sameNew (o:=.tup [V.str "keep"]) Z;refine⟨.str p.word,u,[.str "keep"],rfl,aK.of aw,rfl,.inl ⟨p.word,rfl,?_⟩⟩;have P:=e _ _ k;generalize upd H u (.tup [V.str "keep"])=H1 at e P;have A:∀(s:Str),good s->s≠""->H1 a=some (.tup [.str p.word,.str s])->p.word="put"\/p.word="cut"->aE (aO K (zQ K) [] (E:=E)) (zj.drop 2) (Dn Q) (start jB [.ref a]) H1:=by
   intro s gs ns hs g;refine m a (.str p.word) (.str s) _ H1 _ rfl hs (λR H2 f b Ek G=>?_)<|.inr ⟨_,rfl⟩;have D:b=true:=by
    cases b with
    |true=>rfl
    |false=>
     obtain⟨N,I⟩:=G rfl;rcases g with z|z
     ·exact absurd (congrArg V.str z) I
     ·exact absurd (congrArg V.str z) N
   subst D;have aV:=f _ _ hs;refine⟨_,rfl,gJ ⟨_,rfl,.inr<|.inl ⟨_,_,_,_,rfl,rfl,aK.of aV,rfl,.str s,rfl,.inl ⟨s,rfl,gs,_,rfl,?_⟩⟩⟩⟩;refine gJ ⟨_,rfl,.inr<|.inl ⟨_,_,_,_,rfl,rfl,aK.of aV,rfl,?_⟩⟩;show Q (.bl<|true ^^ decide (V.str s=V.str "")) _;rw[zqF<|λz=>ns (by injection z)]
   exact q _<|e.trans f
  cases p with
  |keep n=>
   refine⟨_,rfl,.inr<|.inl ⟨_,_,_,_,rfl,rfl,aK.of P,rfl,.int n,rfl,.inl ⟨n,rfl,_,rfl,?_⟩⟩⟩;refine gJ ⟨_,rfl,.inr<|.inl ⟨_,_,_,_,rfl,rfl,aK.of P,rfl,trivial,?_⟩⟩;show Q (.bl<|decide<|1<=n) H1;rw[zqT (show(1:Int)<=n from x)]
   exact q _ e
  |put s=>
   exact A s x.1 x.2 P<|.inl rfl
  |cut s=>
   exact A s x.1 x.2 P<|.inr rfl
 ·exact⟨_,rfl,rfl,hn.go<|q _<|aD.refl _⟩
 ·refine⟨_,rfl,rfl,vR k ⟨_,rfl,.inr ⟨_,aK.of k,_,rfl,?_⟩⟩⟩;show if (true ^^ decide (V.int (xs.length:Int)=V.int 2))=true then _ else _
  rcases d with d|⟨w,t,rfl,d⟩
  ·rw[zqF<|λz=>d (by injection z with z;lia)]
   exact q _<|aD.refl _
  ·refine⟨_,rfl,.inr<|.inl ⟨_,_,_,_,rfl,rfl,aK.of k,rfl,jN,λu Z=>?_⟩⟩;have e:=sameNew (o:=.tup [V.str "keep"]) Z;refine⟨w,u,[.str "keep"],rfl,aK.of aw,rfl,?_⟩;have P:=e _ _ k;generalize upd H u (.tup [V.str "keep"])=H1 at e P;have no:(ka .str w H1\/∃s,w=.str s)->w≠ .str "cut"->w≠ .str "put"->aE (aO K (zQ K) [] (E:=E)) (zj.drop 2) (Dn Q) (start jB [.ref a]) H1:=by
    intro g T S;refine m a w t _ H1 _ rfl P (λR H2 f b Ek G=>?_) g;have D:b=false:=by
     cases b with
     |false=>rfl
     |true=>rcases Ek rfl with z|z;exact absurd z T;exact absurd z S
    subst D;exact⟨_,rfl,iI<|q _<|e.trans f⟩
   rcases d with d|⟨s,rfl,n0,T,S⟩|⟨rfl,d⟩|⟨g,d⟩
   ·refine .inr ⟨d.same e,no (.inl<|d.same e) ?_ ?_⟩
    ·rintro rfl;cases (show true=false from d)
    ·rintro rfl;cases (show true=false from d)
   ·refine .inl ⟨s,rfl,?_⟩;rw[Ob,beq_eq_false_iff_ne.mpr<|Ne.symm n0];exact no (.inr ⟨s,rfl⟩) (λz=>T (by injection z))<|λz=>S (by injection z)
   ·refine .inl ⟨_,rfl,?_⟩;rw[show gX (.str "keep") [.str "keep"]=true by decide]
    refine⟨_,rfl,.inr<|.inl ⟨_,_,_,_,rfl,rfl,aK.of P,rfl,t,rfl,?_⟩⟩;rcases d with d|⟨n,rfl,hn⟩
    ·exact .inr ⟨d.same e,_,rfl,iI<|q _ e⟩
    ·refine .inl ⟨n,rfl,_,rfl,gJ ⟨_,rfl,.inr<|.inl ⟨_,_,_,_,rfl,rfl,aK.of P,rfl,trivial,?_⟩⟩⟩;show Q (.bl<|decide<|1<=n) H1;rw[zqF (by lia)]
     exact q _ e
   ·have X:∃s,w=.str s/\(Str.ofString "keep"==s)=false:=by
     rcases g with rfl|rfl
     ·exact⟨_,rfl,by decide⟩
     ·exact⟨_,rfl,by decide⟩
    obtain⟨s,rfl,hk⟩:=X;refine .inl ⟨s,rfl,?_⟩;rw[Ob,hk];refine m a (.str s) t _ H1 _ rfl P (λR H2 f b Ek G=>?_)<|.inr ⟨s,rfl⟩;have D:b=true:=by
     cases b with
     |true=>rfl
     |false=>
      obtain⟨N,I⟩:=G rfl;rcases g with z|z
      ·exact absurd z N
      ·exact absurd z I
    subst D;have h_:=f _ _ P;refine⟨_,rfl,gJ ⟨_,rfl,.inr<|.inl ⟨_,_,_,_,rfl,rfl,aK.of h_,rfl,t,rfl,?_⟩⟩⟩;rcases d with d|rfl
    ·exact .inr ⟨d.same<|e.trans f,_,rfl,iI<|q _<|e.trans f⟩
    ·refine .inl ⟨_,rfl,⟨by decide,λc hc=>by cases hc⟩,_,rfl,gJ ⟨_,rfl,.inr<|.inl ⟨_,_,_,_,rfl,rfl,aK.of h_,rfl,?_⟩⟩⟩
     exact q _<|e.trans f
theorem acm(h:DI vs H Q E):Oa vs H Q E:=by
 obtain⟨v,p,rfl,b,d,q⟩:=h;exact⟨_,rfl,.inl ⟨p,b,d,q⟩⟩
end L2.B
namespace L2
section
variable {Γ:aQ}{D:Ends}{σ:St}{H:Hp}{r:List RS}{Q:VK}{QA:List V->Hp->Prop}{QT:Bool->Hp->Prop}
theorem af(h:σ[i]?=some (some v))(q:Q v H):ag Γ (.v i) σ H Q:=⟨_,h,q⟩
theorem ay(q:Q v H):ag Γ (.c v) σ H Q:=q
theorem El(q:Q (Γ.gv j) H):ag Γ (.g j) σ H Q:=q
theorem bL{b:RE}(h:ag Γ a σ H λx H1=>ag Γ b σ H1 λy H2=>i8 Γ.K p x y H2 Q):ag Γ (.bin p a b) σ H Q:=h
theorem Em{b:RE}(h:ag Γ a σ H λx H1=>ag Γ b σ H1 λy H2=>da Γ.K p x y H2 Q):ag Γ (.cmp p a b) σ H Q:=h
theorem bx(h:ag Γ a σ H λx H1=>ag Γ b σ H1 λy H2=>oJ Γ.K Γ.sd x y H2 Q):ag Γ (.ix a b) σ H Q:=h
theorem acn(h:bu Γ as σ H λvs H1=>Γ.fs j (vs++[]) H1 Q Γ.E):ag Γ (.call j as) σ H Q:=h
theorem bP(sp:Sp)(hs:Γ.fs j=sp)(h:bu Γ as σ H λvs H1=>sp vs H1 Q Γ.E):ag Γ (.call j as) σ H Q:=by
 subst hs;refine acn ?_;have e:(fun(vs:List V) (H1:Hp)=>Γ.fs j (vs++[]) H1 Q Γ.E)=λvs H1=>Γ.fs j vs H1 Q Γ.E:=by
  funext vs H1;rw[zac]
 rw[e];exact h
theorem v8(h:bu Γ as σ H λvs H1=>oH Γ.K b vs H1 Q):ag Γ (.blt b as) σ H Q:=h
theorem jh(h:bu Γ as σ H λxs H1=>xs.length<=sizeLine/\∀p,H1 p=none->Q (.ref p) (upd H1 p<|.tup xs)):ag Γ (.tup as) σ H Q:=h
theorem eY(h:bu Γ as σ H λxs H1=>xs.length<=sizeLine/\∀p,H1 p=none->Q (.ref p) (upd H1 p<|.lst xs)):ag Γ (.lst as) σ H Q:=h
theorem aN(q:QA [] H):bu Γ [] σ H QA:=q
theorem aC(h:ag Γ a σ H λx H1=>bu Γ as σ H1 λxs H2=>QA (x::xs) H2):bu Γ (a::as) σ H QA:=h
theorem bW(h:ag Γ e σ H λx H1=>aE Γ r D (σ.set i<|some x) H1):aE Γ (.asg i e::r) D σ H:=h
theorem d5(h:ag Γ e σ H λ_ H1=>aE Γ r D σ H1):aE Γ (.drop e::r) D σ H:=h
theorem cq(h:ag Γ e σ H D.rt):aE Γ (.ret e::r) D σ H:=h
end
end L2
namespace L2.B
theorem Paired.app{R:f->e->Prop}:∀{xs b:List f}{ys d:List e},Paired R xs ys->Paired R b d->Paired R (xs++b) (ys++d):=by
 intro _ _ _ _ p s;induction p with|nil=>exact s|cons r _ i=>exact .cons r i
theorem Run.good(h:Run l ps r)(f:∀c∈l,SG.cps.contains c=true)(g:∀p∈ps,jf p):∀c∈r,SG.cps.contains c=true:=by
 induction h with
 |nil=>exact f
 |keep e _ b=>
  intro c m;rcases zab.mp m with z|z
  ·exact f c (zab.mpr<|.inl z)
  ·exact b (λd k=>f d<|zab.mpr<|.inr k) (λp h=>g p<|.tail _ h) c z
 |put _ b=>
  intro c m;rcases zab.mp m with z|z
  ·exact(g _ (.head _):sg _) c z
  ·exact b f (λp h=>g p<|.tail _ h) c z
 |cut _ b=>exact b (λd k=>f d<|zab.mpr<|.inr k) (λp h=>g p<|.tail _ h)
theorem Run.len(h:Run l ps r):r.length<=l.length+az ps:=by
 induction h with
 |nil=>simp
 | @keep a l r n ps e _ b=>
  have:az (.keep n::ps)=0+az ps:=rfl
  simp;lia
 | @put s l r ps _ b=>
  have:az (.put s::ps)=s.length+az ps:=rfl
  have e:=len_list s
  simp only[zqA];lia
 | @cut s l r ps _ b=>
  have:az (.cut s::ps)=s.length+az ps:=rfl
  simp;lia
theorem En(k:Nat)(n:Int)(m:Nat)(b:n=m):m8 x (some (k:Int)) (some<|(k:Int)+n)=⟨((x.cps.toList.drop k).take m).toArray⟩:=by
 have e:(k:Int)+n=((k+m:Nat):Int):=by lia
 unfold m8 m6;rw[e,HT.mZ,HT.mZ]
 by_cases h:k<=x.cps.toList.length
 ·rw[show min k x.cps.toList.length=k by lia]
  by_cases d:k+m<=x.cps.toList.length
  ·rw[show min (k+m) x.cps.toList.length=k+m by lia,Nat.add_sub_cancel_left]
  ·rw[zaI (by rw[zat];lia),zaI (by rw[zat];lia)]
 ·rw[show min k x.cps.toList.length=x.cps.toList.length by lia,List.drop_length,List.drop_of_length_le (by lia),zbC,zbC]
def aU:Pt->Nat|.keep n=>n.toNat|.put s=>s.length|.cut s=>s.length
def cK:Pt->Nat->Pt
 |.keep n,o=>.keep (n - o)
 |.put s,o=>.put ⟨(s.cps.toList.drop o).toArray⟩
 |.cut s,o=>.cut ⟨(s.cps.toList.drop o).toArray⟩
def aP:Pt->Nat->Pt
 |.keep _,o=>.keep o
 |.put s,o=>.put ⟨(s.cps.toList.take o).toArray⟩
 |.cut s,o=>.cut ⟨(s.cps.toList.take o).toArray⟩
theorem Oc(p:Pt)(o:Nat):(cK p o).word=p.word:=by cases p<;>rfl
theorem aco(p:Pt)(o:Nat):(aP p o).word=p.word:=by cases p<;>rfl
theorem kf(h:aX p):qW p=(aU p:Int)/\1<=aU p:=by
 cases p with
 |keep n=>
  have b:(1:Int)<=n:=h;exact⟨by show n=(n.toNat:Int);lia,by show 1<=n.toNat;lia⟩
 |put s=>
  obtain⟨c,r,e⟩:=jg h.2;exact⟨rfl,by show 1<=s.length;rw[len_list,e];simp⟩
 |cut s=>
  obtain⟨c,r,e⟩:=jg h.2;exact⟨rfl,by show 1<=s.length;rw[len_list,e];simp⟩
theorem k9(l:List Nat):(⟨l.toArray⟩:Str).length=l.length:=rfl
theorem my(p:Pt)(o:Nat)(h:o<=aU p):aU (cK p o)=aU p - o:=by
 cases p with
 |keep n=>
  show(n - (o:Int)).toNat=n.toNat - o;lia
 |put s=>show(⟨(s.cps.toList.drop o).toArray⟩:Str).length=s.length - o;rw[k9,zat,<-len_list]
 |cut s=>show(⟨(s.cps.toList.drop o).toArray⟩:Str).length=s.length - o;rw[k9,zat,<-len_list]
theorem v9(p:Pt)(o:Nat)(h:o<=aU p):aU (aP p o)=o:=by
 cases p with
 |keep n=>show((o:Int)).toNat=o;lia
 |put s=>
  have b:o<=s.length:=h;rw[len_list] at b;show(⟨(s.cps.toList.take o).toArray⟩:Str).length=o;rw[k9,zaA];lia
 |cut s=>
  have b:o<=s.length:=h;rw[len_list] at b;show(⟨(s.cps.toList.take o).toArray⟩:Str).length=o;rw[k9,zaA];lia
theorem drop_zero(p:Pt):cK p 0=p:=by
 cases p with
 |keep n=>show Pt.keep (n - ((0:Nat):Int))=_;rw[show n - ((0:Nat):Int)=n by lia]
 |put s=>show Pt.put ⟨(s.cps.toList.drop 0).toArray⟩=_;rw[zbh]
 |cut s=>show Pt.cut ⟨(s.cps.toList.drop 0).toArray⟩=_;rw[zbh]
theorem drop_drop(p:Pt)(a b:Nat):cK (cK p a) b=cK p (a+b):=by
 cases p with
 |keep n=>show Pt.keep (n - (a:Int) - (b:Int))=Pt.keep (n - ((a+b:Nat):Int));lia
 |put s=>show Pt.put ⟨((s.cps.toList.drop a).drop b).toArray⟩=Pt.put ⟨(s.cps.toList.drop<|a+b).toArray⟩;rw[List.drop_drop]
 |cut s=>show Pt.cut ⟨((s.cps.toList.drop a).drop b).toArray⟩=Pt.cut ⟨(s.cps.toList.drop<|a+b).toArray⟩;rw[List.drop_drop]
theorem take_all(p:Pt)(h:hZ p):aP p (aU p)=p:=by
 cases p with
 |keep n=>
  have b:0<=n:=h;show Pt.keep ((n.toNat:Nat):Int)=_;rw[show((n.toNat:Nat):Int)=n by lia]
 |put s=>show Pt.put ⟨(s.cps.toList.take s.length).toArray⟩=_;rw[len_list,zbz]
 |cut s=>show Pt.cut ⟨(s.cps.toList.take s.length).toArray⟩=_;rw[len_list,zbz]
theorem zR(p:Pt)(o:Nat)(h:o<=aU p):ba p=ba (aP p o)++ba (cK p o):=by
 cases p with
 |keep n=>
  have b:o<=n.toNat:=h;show rK n.toNat=rK ((o:Nat):Int).toNat++rK (n - (o:Int)).toNat;rw[NZ];congr 1;lia
 |put s=>
  show s.cps.toList.map At.P=(s.cps.toList.take o).map At.P++(s.cps.toList.drop o).map At.P;rw[<-zaq,zbc]
 |cut s=>
  show s.cps.toList.map At.C=(s.cps.toList.take o).map At.C++(s.cps.toList.drop o).map At.C;rw[<-zaq,zbc]
theorem zS(h:good s)(l:List Nat)(b:l.length<=s.length)(m:∀c∈l,c∈s.cps.toList):good ⟨l.toArray⟩:=
 ⟨by exact zap b h.1,λc d=>h.2 c<|m c d⟩
theorem zT(h:l≠ []):(⟨l.toArray⟩:Str)≠"":=λz=>h (by have:=congrArg (λs=>s.cps.toList) z;exact this)
theorem Eo{o:Nat}(h:aX p)(b:o<aU p):aX (cK p o):=by
 cases p with
 |keep n=>
  have e:o<n.toNat:=b;show(1:Int)<=n - (o:Int);lia
 |put s=>
  have e:o<s.cps.toList.length:=by exact b
  exact⟨zS h.1 _ (by rw[zat,<-len_list];lia) λc d=>zbD d,zT (by intro z;have:=congrArg List.length z;rw[zat] at this;have t:s.cps.toList.length - o=0:=this;lia)⟩
 |cut s=>
  have e:o<s.cps.toList.length:=by rw[<-len_list];exact b
  exact⟨zS h.1 _ (by rw[zat,<-len_list];lia) λc d=>zbD d,zT (by intro z;have:=congrArg List.length z;rw[zat] at this;have t:s.cps.toList.length - o=0:=this;lia)⟩
theorem zU{o:Nat}(h:aX p)(f:1<=o)(d:o<=aU p):aX (aP p o):=by
 cases p with
 |keep n=>show(1:Int)<= (o:Int);lia
 |put s=>
  have e:o<=s.cps.toList.length:=by exact d
  exact⟨zS h.1 _ (by rw[zaA,<-len_list];lia) λc b=>zbX b,zT (by intro z;have:=congrArg List.length z;rw[zaA] at this;have t:min o s.cps.toList.length=0:=this;lia)⟩
 |cut s=>
  have e:o<=s.cps.toList.length:=by rw[<-len_list];exact d
  exact⟨zS h.1 _ (by rw[zaA,<-len_list];lia) λc b=>zbX b,zT (by intro z;have:=congrArg List.length z;rw[zaA] at this;have t:min o s.cps.toList.length=0:=this;lia)⟩
def wf(L:Addr)(i o:Int):List (Str×V):=[("parts",.ref L),("passed_by",.int i),("offset",.int o)]
theorem zV{i o:Int}:(wf L i o).lookup ("parts":Str)=some (.ref L):=iR
theorem v_{i o:Int}:(wf L i o).lookup ("passed_by":Str)=some (.int i):=rfl
theorem Od{i o:Int}:(wf L i o).lookup ("offset":Str)=some (.int o):=rfl
theorem zW{i o:Int}{m:Str}(d:¬m="parts")(b:¬m="passed_by")(h:¬m="offset"):(wf L i o).lookup m=none:=(cO d).trans ((cO b).trans<|(cO h).trans rfl)
theorem Oe{i o k:Int}:aI "offset" (.int k) (wf L i o)=wf L i k:=rfl
theorem acp{i o k:Int}:aI "passed_by" (.int k) (wf L i o)=wf L k o:=rfl
theorem acq:aI "offset" (.int 0) (aI "passed_by" (.int 0)<|aI "parts" (.ref L) [])=wf L 0 0:=rfl
def bM(C:Addr)(H:Hp)(w L:Addr)(b:List Pt):Prop:= ∃(d:Addr) (xs:List V) (ps:List Pt) (i o:Nat),H w=some (.ins C d<|wf L i o)/\H L=some (.lst xs)/\aH H xs ps/\(∀p∈ps,aX p)/\ps.length<=100000/\
 ((ps.drop i=[]/\b=[])\/∃p t,ps.drop i=p::t/\o<aU p/\b=cK p o::t)
theorem bM.keep{d:List Pt}(h:bM C H w L d)(k:∀b o,H b=some o->b=w\/b=L\/(∃xs,o=.tup xs)->H' b=some o):bM C H' w L d:=by
 obtain⟨x,xs,ps,i,o,zq⟩:=qx5 h;obtain⟨m,l,g,f⟩:=qa4 zq;exact⟨x,xs,ps,i,o,k _ _ m<|.inl rfl,k _ _ l<|.inr<|.inl rfl,g.mono λb ys e=>k _ _ e (.inr<|.inr ⟨ys,rfl⟩),f⟩
theorem bM.same{d:List Pt}(h:bM C H w L d)(s:aD H H'):bM C H' w L d:=h.keep λb o e _=>s b o e
theorem bM.but{c:Addr}{f:List Pt}(h:bM C H w L f)(b:aR c H H')(g:H c=some (.lst xs))(k:c≠L):bM C H' w L f:=by
 refine h.keep λd o e z=>b d o e ?_;obtain⟨x,_,_,_,_,l,_⟩:=qx5 h;rcases z with rfl|rfl|⟨ys,rfl⟩
 ·exact cA l g (by lia)
 ·exact k.symm
 ·exact cA e g (by lia)
theorem bM.ok{d:List Pt}(h:bM C H w L d):∀p∈d,aX p:=by
 obtain⟨D,xs,ps,i,o,zq⟩:=qx5 h;obtain⟨A,x,u,k,l,⟨_,rfl⟩|⟨p,t,e,g,rfl⟩⟩:=qa6 zq
 ·intro p f;cases f
 ·have m:=λq b=>k q (zbD (by rw[e];exact b))
  intro q b;rcases zaa.mp b with rfl|b
  ·exact Eo (m p<|.head _) g
  ·exact m q (.tail _ b)
def pL:List Pt->Str
 |[]=> ""
 |p::_=>p.word
inductive k_(C:Addr)(vs:List V)(H:Hp)(Q:VK)(E:XK):Prop|i(w d a:Addr)(xs:List V)(ps:List Pt)(_:vs=[.ref w,.ref a])(_:H w=some (.ins C d []))(_:H a=some (.lst xs))(_:aH H xs ps)(_:(∀p∈ps,aX p))(_:ps.length<=100000)(_:∀L H',H L=none->L≠w->aR w H H'->bM C H' w L ps->Q .av H')
theorem acr{K:Frag}(T:oX K C):cp (k_ C) (λE=>aO K [] [] (E:=E)) Kw Kv:=by
 intro vs H Q E h;obtain⟨w,d,a,xs,ps,rfl,g,q,u,G,m,k⟩:=h;refine⟨_,rfl,xs,.inl<|aB.of q,λL l=>?_⟩;have f:=aM g l;refine⟨_,rfl,w,C,d,[],rfl,(by rw[ax f];exact g),T.cl,T.vK,(by simp),?_⟩
 refine⟨_,rfl,w,C,d,_,rfl,aw,T.cl,T.qQ,(by show 1<1000;decide),?_⟩
 refine⟨_,rfl,w,C,d,_,rfl,aw,T.cl,T.vL,(by show 2<1000;decide),?_⟩
 rw[xR,xR];have b:aR w H (upd (upd H L<|.lst xs) w<|.ins C d<|aI "offset" (.int 0)<|aI "passed_by" (.int 0)<|aI "parts" (.ref L) []):=λc o e n=>by rw[ax n,ax<|aM e l];exact e
 refine k L _ l f.symm b ⟨d,xs,ps,0,0,?_,?_,u.mono ?_,G,m,?_⟩
 ·rw[aw];rfl
 ·rw[ax f.symm,aw]
 ·intro c ys e;exact b c _ e<|cA e g (by lia)
 ·cases ps with
  |nil=>exact .inl ⟨rfl,rfl⟩
  |cons p t=>exact .inr ⟨p,t,rfl,(kf<|G p<|.head _).2,by rw[drop_zero]⟩
theorem Ep{t:List Pt}(h:ps.drop i=p::t):ps[i]?=some p/\ps.drop (i+1)=t/\i<ps.length:=by
 have l:i<ps.length:=by
  rcases Nat.lt_or_ge i ps.length with z|z
  ·exact z
  ·rw[List.drop_of_length_le z] at h;cases h
 refine⟨?_,?_,l⟩
 ·have:=congrArg List.head? h;rw[List.head?_drop] at this
  simpa using this
 ·rw[<-List.drop_drop,h];rfl
theorem aH.at(h:aH H xs ps)(e:ps[i]?=some p):∃a,xs[i]?=some (.ref a)/\H a=some (.tup [.str p.word,p.val]):=by
 have g:i<xs.length:=by rw[(Paired.length h)];exact(zad.mp e).1
 obtain⟨q,b,a,f,d⟩:=h.get (i:=i) (v:=xs[i]) (by simp)
 rw[e] at b;cases b;exact⟨a,by rw[<-f];simp,d⟩
inductive pM(C:Addr)(vs:List V)(H:Hp)(Q:VK)(E:XK):Prop|i(w L:Addr)(b:List Pt)(_:vs=[.ref w])(_:bM C H w L b)(_:Q (.str<|pL b) H)
theorem acs{K:Frag}(T:oX K C):cp (pM C) (λE=>aO K [] [] (E:=E)) Kx ip:=by
 intro vs H Q E h;obtain⟨w,L,x,rfl,⟨d,xs,ps,i,o,b,g,f,I,G,l⟩,q⟩:=h;have D:=Paired.length f;refine⟨_,rfl,w,C,d,_,_,rfl,b,T.cl,T.qQ,v_,_,rfl,w,C,d,_,_,rfl,b,T.cl,T.vK,zV,.inl ⟨_,aB.of g,trivial,_,rfl,?_⟩⟩;rcases l with⟨e,rfl⟩|⟨p,t,e,A,rfl⟩
 ·have:ps.length<=i:=by
   rcases Nat.lt_or_ge i ps.length with z|z
   ·rw[zaY z] at e;cases e
   ·exact z
  exact iF q<|zqF (by lia)
 ·obtain⟨u,P,N⟩:=Ep e;obtain⟨a,m,k⟩:=f.at u;refine iT ?_<|zqT (by lia)
  refine⟨_,rfl,w,C,d,_,_,rfl,b,T.cl,T.vK,zV,_,rfl,w,C,d,_,_,rfl,b,T.cl,T.qQ,v_,.inl ⟨_,_,_,_,rfl,rfl,aB.of g,gg m,.inr<|.inl ⟨_,_,_,_,rfl,rfl,aK.of k,rfl,?_⟩⟩⟩;rw[show pL (cK p o::t)=p.word from Oc p o] at q
  exact q
inductive zX(C:Addr)(vs:List V)(H:Hp)(Q:VK)(E:XK):Prop|i(w L d:Addr)(xs:List V)(ps:List Pt)(i o:Nat)(p:Pt)(_:vs=[.ref w])(_:H w=some (.ins C d<|wf L i o))(_:H L=some (.lst xs))(_:aH H xs ps)(_:ps[i]?=some p)(_:aX p)(_:Q (.int<|(aU p:Int) - (o:Int)) H)
theorem acu{K:Frag}(T:oX K C):cp (zX C) (λE=>aO K [("part_size",o8)] [] (E:=E)) Ky ip:=by
 intro vs H Q E h;obtain⟨w,L,d,xs,ps,i,o,p,rfl,b,k,g,m,e,q⟩:=h;obtain⟨a,l,f⟩:=g.at m;refine⟨_,rfl,w,C,d,_,_,rfl,b,T.cl,T.vK,zV,_,rfl,w,C,d,_,_,rfl,b,T.cl,T.qQ,v_,.inl ⟨_,_,_,_,rfl,rfl,aB.of k,gg l,⟨_,p,rfl,⟨a,rfl,f⟩,zx e,⟨_,rfl,w,C,d,_,_,rfl,b,T.cl,T.vL,Od,trivial,?_⟩⟩⟩⟩;rw[(kf e).1];exact q
inductive mB(C:Addr)(vs:List V)(H:Hp)(Q:VK)(E:XK):Prop|i(w L:Addr)(p:Pt)(t:List Pt)(_:vs=[.ref w])(_:bM C H w L (p::t))(_:Q (.int (aU p:Int)) H)
theorem acv(h:mB C vs H Q E):zX C vs H Q E:=by
 obtain⟨w,L,p,t,rfl,⟨x,xs,ps,i,o,l,k,g,f,D,⟨_,e⟩|⟨b,u,e,A,m⟩⟩,q⟩:=h
 ·cases e
 ·cases m;obtain⟨d,_,_⟩:=Ep e;refine⟨w,L,x,xs,ps,i,o,b,rfl,l,k,g,d,f _<|zan d,?_⟩;rw[my b o (by lia)] at q
  rw[show((aU b:Int) - (o:Int))=((aU b - o:Nat):Int) by lia]
  exact q
def d9(p:Pt)(t:List Pt)(k:Nat):List Pt:=if k=aU p then t else cK p k::t
inductive nQ(C:Addr)(vs:List V)(H:Hp)(Q:VK)(E:XK):Prop|i(w L:Addr)(p:Pt)(t:List Pt)(k:Nat)(_:vs=[.ref w,.int (k:Int)])(_:bM C H w L (p::t))(_:1<=k)(_:k<=aU p)(_:∀r H',aR w H H'->H' r=some (.tup [.str (aP p k).word,(aP p k).val])->H r=none->bM C H' w L (d9 p t k)->Q (.ref r) H')
theorem acw{K:Frag}(T:oX K C):cp (nQ C) (λE=>aO K [] [] [] [("left",C,zX C)] (E:=E)) Dl KA:=by
 intro vs H Q E h;obtain⟨w,L,p,t,k,rfl,⟨x,xs,ps,i,o,m,G,h3,h4,h5,⟨_,e⟩|⟨d,N,e,ho,e'⟩⟩,a',Z,q⟩:=h
 ·cases e
 cases e';obtain⟨e1,e2,e3⟩:=Ep e;obtain⟨a,ea,ha⟩:=h3.at e1;have X:=h4 _ (zan e1);rw[my d o (by lia)] at Z
 have Of:w≠L:=cA m G (by intro z;cases z)
 have S:a≠w:=cA ha m (by intro z;cases z)
 refine⟨_,rfl,w,C,x,_,_,rfl,m,T.cl,T.vK,zV,_,rfl,w,C,x,_,_,rfl,m,T.cl,T.qQ,v_,.inl ⟨_,_,_,_,rfl,rfl,aB.of G,gg ea,?_⟩⟩;refine⟨_,rfl,w,C,x,_,_,rfl,m,T.cl,T.vL,Od,?_⟩;refine⟨_,rfl,_,rfl,?_⟩;refine⟨_,rfl,_,rfl,w,C,x,_,rfl,m,T.cl,T.vL,(by show 3<1000;decide),?_⟩
 rw[Oe,show(o:Int)+(k:Int)=((o+k:Nat):Int) by lia]
 have I:∀(fs:List (Str×V)),eI H (upd H w<|.ins C x fs):=λfs b ys u=>by rw[ax<|cA u m (by intro z;cases z)];exact u
 refine⟨_,rfl,w,x,_,rfl,aw,zW (by decide+kernel) (by decide+kernel) (by decide+kernel),w,L,x,xs,ps,i,o+k,d,rfl,aw,(by rw[ax Of.symm];exact G),h3.mono<|I _,e1,X,?_⟩
 have A:∀(l g:Nat),((ps.drop l=[]/\d9 (cK d o) t k=[])\/∃p N,ps.drop l=p::N/\g<aU p/\d9 (cK d o) t k=cK p g::N)->
   aE (aO K [] [] [] [("left",C,zX C)] (E:=E)) (Dl.drop 5) (Dn Q) [some<|.ref w,some<|.int (k:Int),some<|.ref a,some<|.int (o:Int),some<|.int ((o+k:Nat):Int)] (upd H w<|.ins C x<|wf L (l:Int) (g:Int)):=by
  intro l g hr;have P:upd H w (.ins C x<|wf L (l:Int) (g:Int)) a=some (.tup [.str d.word,d.val]):=by rw[ax S];exact ha
  have f:∀v:V,v=(aP (cK d o) k).val->∀r,upd H w (.ins C x<|wf L (l:Int) (g:Int)) r=none->Q (.ref r) (upd (upd H w<|.ins C x<|wf L (l:Int) (g:Int)) r<|.tup [.str d.word,v]):=by
   rintro v rfl r D;have Og:r≠w:=λz=>by rw[z,aw] at D;cases D
   have Oh:H r=none:=by rw[ax Og] at D;exact D
   have bt:aR w H (upd (upd H w<|.ins C x<|wf L (l:Int) (g:Int)) r<|.tup [.str d.word,(aP (cK d o) k).val]):=λb ob u wa=>by rw[ax<|aM u Oh,ax wa];exact u
   refine q r _ bt (by rw[aw,aco,Oc]) Oh ⟨x,xs,ps,l,g,?_,bt _ _ G Of.symm,h3.mono λb ys u=>bt b _ u (cA u m (by intro z;cases z)),h4,h5,hr⟩
   rw[ax Og.symm,aw]
  refine⟨_,rfl,.inr<|.inl ⟨_,_,_,_,rfl,rfl,aK.of P,rfl,?_⟩⟩;refine⟨_,rfl,.inr<|.inl ⟨_,_,_,_,rfl,rfl,aK.of P,rfl,_,rfl,?_⟩⟩;rw[zaL,ie];cases d with
  |keep n=>exact gJ ⟨_,rfl,fQ,f _ rfl⟩
  |put s=>
   refine iI ⟨_,rfl,.inr<|.inl ⟨_,_,_,_,rfl,rfl,aK.of P,rfl,_,rfl,_,rfl,_,rfl,_,rfl,dz X.1.1,fQ,f _ ?_⟩⟩;show V.str (m8 s (some (o:Int))<|some ((o+k:Nat):Int))=V.str ⟨((s.cps.toList.drop o).take k).toArray⟩;rw[zbB,En o (k:Int) k rfl]
  |cut s=>
   refine iI ⟨_,rfl,.inr<|.inl ⟨_,_,_,_,rfl,rfl,aK.of P,rfl,_,rfl,_,rfl,_,rfl,_,rfl,dz X.1.1,fQ,f _ ?_⟩⟩;show V.str (m8 s (some (o:Int))<|some ((o+k:Nat):Int))=V.str ⟨((s.cps.toList.drop o).take k).toArray⟩;rw[zbB,En o (k:Int) k rfl]
 refine⟨_,rfl,?_⟩;rw[zaL];by_cases hz:k=aU d - o
 ·refine iT ?_ (zqT (by congr 1;lia))
  refine⟨_,rfl,w,C,x,_,_,rfl,aw,T.cl,T.qQ,v_,_,rfl,w,C,x,_,rfl,aw,T.cl,T.qQ,(by show 3<1000;decide),?_⟩
  rw[xR,acp];refine⟨_,rfl,w,C,x,_,rfl,aw,T.cl,T.vL,(by show 3<1000;decide),?_⟩
  rw[xR,Oe,show(i:Int)+1=((i+1:Nat):Int) by lia]
  refine A (i+1) 0 ?_;have er:d9 (cK d o) t k=t:=if_pos (by rw[my d o (by lia)];exact hz)
  rw[er,e2];cases t with
  |nil=>exact .inl ⟨rfl,rfl⟩
  |cons R t2=>
   have hm:aX R:=h4 R (zbD (by rw[e];exact .tail _ (.head _)))
   exact .inr ⟨R,t2,rfl,(kf hm).2,by rw[drop_zero]⟩
 ·refine iF ?_ (zqF (by lia))
  refine A i (o+k)<|.inr ⟨d,t,e,by lia,?_⟩
  have er:d9 (cK d o) t k=cK (cK d o) k::t:=if_neg (by rw[my d o (by lia)];exact hz)
  rw[er,drop_drop]
theorem bX.app{xs ys d f e x:List At}(h:bX xs ys d)(h':bX f e x):bX (xs++f) (ys++e) (d++x):=by
 induction h with
 |nil=>exact h'
 |p _ b=>exact .p b
 |c _ b=>exact .c b
 |kk _ b=>exact .kk b
 |kc _ b=>exact .kc b
 |pk _ b=>exact .pk b
 |pc _ b=>exact .pc b
theorem Oi:∀s:List Nat,bX [] (s.map .P) (s.map .P)
 |[]=>.nil
 |c::s=>.p (Oi s)
theorem Er:∀s:List Nat,bX (s.map .C) [] (s.map .C)
 |[]=>.nil
 |c::s=>.c (Er s)
theorem Ol:∀n:Nat,bX (rK n) (rK n) (rK n)
 | 0=>.nil
 |n+1=>.kk (Ol n)
theorem Om:∀s:List Nat,bX (rK s.length) (s.map .C) (s.map .C)
 |[]=>.nil
 |c::s=>.kc (Om s)
theorem Oo:∀s:List Nat,bX (s.map .P) (rK s.length) (s.map .P)
 |[]=>.nil
 |c::s=>.pk (Oo s)
theorem Oq:∀s:List Nat,bX (s.map .P) (s.map .C) []
 |[]=>.nil
 |c::s=>.pc (Oq s)
def dH:List At->Nat
 |[]=>0
 |.P _::xs=>dH xs
 |.K::xs=>dH xs+1
 |.C _::xs=>dH xs+1
def fD:List At->Nat
 |[]=>0
 |.P _::xs=>fD xs+1
 |.K::xs=>fD xs+1
 |.C _::xs=>fD xs
def cnt:List At->Nat
 |[]=>0
 |.K::xs=>cnt xs
 |.P _::xs=>cnt xs+1
 |.C _::xs=>cnt xs+1
theorem mD:∀(xs:List At) (l:List Nat),fit l xs->l.length=dH xs
 |[],l,h=>by cases h;rfl
 |.P c::xs,l,h=>mD xs l h
 |.K::xs,[],h=>h.elim
 |.K::xs,a::l,h=>by simp[dH,mD xs l h]
 |.C c::xs,[],h=>h.elim
 |.C c::xs,a::l,h=>by simp[dH,mD xs l h.2]
theorem zY:∀(xs:List At) (l:List Nat),fit l xs->(out l xs).length=fD xs:=by
 intro x;induction x with
 |nil=>exact λ_ _=>rfl
 |cons a x i=>
  intro l h;cases a with
  |P c=>simp[out,fD,i l h]
  |K=>cases l with|nil=>exact h.elim|cons a l=>simp[out,fD,i l h]
  |C c=>cases l with|nil=>exact h.elim|cons a l=>exact i l h.2
theorem wb:∀(xs ys:List At),dH (xs++ys)=dH xs+dH ys
 |[],ys=>by simp[dH]
 |.P c::xs,ys=>wb xs ys
 |.K::xs,ys=>by simp only[zaX,dH,wb xs ys];lia
 |.C c::xs,ys=>by simp only[zaX,dH,wb xs ys];lia
theorem zZ:∀(xs ys:List At),cnt (xs++ys)=cnt xs+cnt ys
 |[],ys=>by simp[cnt]
 |.K::xs,ys=>zZ xs ys
 |.P c::xs,ys=>by simp only[zaX,cnt,zZ xs ys];lia
 |.C c::xs,ys=>by simp only[zaX,cnt,zZ xs ys];lia
theorem bX.cnt{xs ys b:List At}(h:bX xs ys b):cnt b<=B.cnt xs+B.cnt ys:=by
 induction h<;>simp only[B.cnt] <;>lia
theorem pN{ys:List At}:∀(xs:List At) (l:List Nat),fit l (xs++ys)->∃g f,l=g++f/\fit g xs/\fit f ys/\out l (xs++ys)=out g xs++out f ys:=by
 intro x;induction x with
 |nil=>exact λl h=>⟨[],l,rfl,rfl,h,rfl⟩
 |cons y xs i=>
  intro l h;cases y with
  |P c=>
   obtain⟨g,f,rfl,a,b,d⟩:=i l h;exact⟨g,f,rfl,a,b,by show c::out _ (xs++ys)=c::(out g xs++out f ys);rw[d]⟩
  |K=>cases l with
   |nil=>exact h.elim
   |cons e l=>obtain⟨g,f,rfl,a,b,d⟩:=i l h;exact⟨e::g,f,rfl,a,b,by show e::out _ (xs++ys)=e::(out g xs++out f ys);rw[d]⟩
  |C c=>cases l with
   |nil=>exact h.elim
   |cons e l=>
    obtain⟨k,h⟩:=(show e=c/\fit l (xs++ys) from h)
    obtain⟨g,f,rfl,a,b,d⟩:=i l h;exact⟨e::g,f,rfl,⟨k,a⟩,b,d⟩
theorem Ot{a b:List Nat}{ys d:List At}(h:fit (a++b) (ys++d))(m:a.length=dH ys):fit a ys/\fit b d:=by
 obtain⟨k,l,e,f,g,_⟩:=pN ys _ h;have:=mD _ _ f;obtain⟨rfl,rfl⟩:=List.append_inj e (by lia)
 exact⟨f,g⟩
theorem wc(n:Nat):dH (rK n)=n:=by
 induction n with
 |zero=>rfl
 |succ n h=>show dH (rK n)+1=_;rw[h]
theorem nS(s:List Nat):dH (s.map .C)=s.length:=by
 induction s with
 |nil=>rfl
 |cons c s h=>show dH (s.map .C)+1=_;rw[h];rfl
theorem acz(n:Nat):fD (rK n)=n:=by
 induction n with
 |zero=>rfl
 |succ n h=>show fD (rK n)+1=_;rw[h]
theorem acA(s:List Nat):fD (s.map .P)=s.length:=by
 induction s with
 |nil=>rfl
 |cons c s h=>show fD (s.map .P)+1=_;rw[h];rfl
theorem Ou:∀(xs:List At) (l:List Nat),fit l xs->out l xs=[]->∀x∈xs,∃c,x=.C c
 |[],l,_,_,x,b=>by cases b
 |.P c::xs,l,h,e,x,b=>by cases e
 |.K::xs,[],h,_,_,_=>h.elim
 |.K::xs,a::l,h,e,x,b=>by cases e
 |.C c::xs,[],h,_,_,_=>h.elim
 |.C c::xs,a::l,h,e,x,b=>by
  rcases zaa.mp b with rfl|b
  ·exact⟨c,rfl⟩
  ·exact Ou xs l h.2 e x b
theorem cY.app{xs ys e g f d k:List At}(h:cY xs ys e ts)(h':cY g f d k):cY (xs++g) (ys++f) (e++d) (ts++k):=by
 induction h with
 |nil=>exact h'
 |p1 _ b=>exact .p1 b
 |p2 _ b=>exact .p2 b
 |kk _ b=>exact .kk b
 |kc _ b=>exact .kc b
 |ck _ b=>exact .ck b
 |cc _ b=>exact .cc b
theorem Ow:∀s:List Nat,cY (s.map .P) [] (s.map .P) (rK s.length)
 |[]=>.nil
 |c::s=>.p1 (Ow s)
theorem Ox:∀s:List Nat,cY [] (s.map .P) (rK s.length) (s.map .P)
 |[]=>.nil
 |c::s=>.p2 (Ox s)
theorem Oz:∀n:Nat,cY (rK n) (rK n) (rK n) (rK n)
 | 0=>.nil
 |n+1=>.kk (Oz n)
theorem OA:∀s:List Nat,cY (rK s.length) (s.map .C) [] (s.map .C)
 |[]=>.nil
 |c::s=>.kc (OA s)
theorem OB:∀s:List Nat,cY (s.map .C) (rK s.length) (s.map .C) []
 |[]=>.nil
 |c::s=>.ck (OB s)
theorem OD:∀s:List Nat,cY (s.map .C) (s.map .C) [] []
 |[]=>.nil
 |c::s=>.cc (OD s)
theorem cY.OE{xs ys b:List At}(h:cY xs ys b ts):cnt b<=B.cnt xs/\cnt ts<=B.cnt ys:=by
 induction h<;>simp only[B.cnt] <;>lia
end L2.B
namespace L2
section
variable {Γ:aQ}{D:Ends}{σ:St}{H:Hp}{r:List RS}{Q:VK}{QA:List V->Hp->Prop}{QT:Bool->Hp->Prop}
theorem iS(C:Addr)(sp:Sp)(b:Γ.ms j=(C,sp))(h:ag Γ o σ H λx H1=>∃a d f,x=.ref a/\H1 a=some (.ins C d f)/\f.lookup m=none/\sp [x] H1 Q Γ.E):ag Γ (.aS j m o []) σ H Q:=by
 show mY (Γ.ms j).1 m (Γ.ms j).2 [] Γ.E (ag Γ o) (bu Γ []) σ H Q;rw[b];exact h
theorem jH(C:Addr)(sp:Sp)(b:Γ.ms j=(C,sp))(h:ag Γ o σ H λx H1=>∃p d f,x=.ref p/\H1 p=some (.ins C d f)/\f.lookup m=none/\ag Γ a σ H1 λy H2=>sp [x,y] H2 Q Γ.E):ag Γ (.aS j m o [a]) σ H Q:=by
 show mY (Γ.ms j).1 m (Γ.ms j).2 [] Γ.E (ag Γ o) (bu Γ [a]) σ H Q;rw[b];exact h
theorem we(C:Addr)(sp:Sp)(m:Γ.kt j=(C,sp))(h:ag Γ a σ H λy H1=>∀x d,H1 x=none->H1 d=none->d≠x->sp [.ref x,y] (upd (upd H1 d<|.own x) x<|.ins C d []) (λv H2=>v=.av/\Q (.ref x) H2) Γ.E):ag Γ (.make j [a]) σ H Q:=by
 show yp (Γ.kt j).1 (Γ.kt j).2 [] Γ.E (bu Γ [a]) σ H Q;rw[m];exact h
theorem z5{c:RE}{e:List RS}(d:Nat->St->Hp->Prop)(k:∃m,d m σ H)
  (h:∀m σ H,d m σ H->aY Γ c σ H λb H1=>if b=true then ∃N:St->Hp->Prop,(∀f H',N f H'->∃g,g<m/\d g f H')/\aE Γ e {{D with nx:=aE Γ r D} with nx:=N,ct:=N,bk:=aE Γ r D} σ H1 else aE Γ r D σ H1):aE Γ (.qG c e::r) D σ H:=⟨d,k,h⟩
theorem bQ{c:RE}{t e:List RS}(h:aY Γ c σ H λb H1=>if b=true then aE Γ t {D with nx:=aE Γ r D} σ H1 else aE Γ e {D with nx:=aE Γ r D} σ H1):aE Γ (.ite c t e::r) D σ H:=h
theorem bF{b:RE}(h:ag Γ a σ H λx H1=>ag Γ b σ H1 λy H2=>da Γ.K p x y H2 λz d=>∃k,z=.bl k/\QT k d):aY Γ (.cmp p a b) σ H QT:=h
theorem bp(h:ag Γ o σ H λx H1=>∃a C d b v,x=.ref a/\H1 a=some (.ins C d b)/\e9 Γ.K C/\eE Γ.K C f/\b.lookup f=some v/\Q v H1):ag Γ (.fld o f) σ H Q:=h
theorem iU(h:ag Γ o σ H λx H1=>sO Γ.K (yS m) x H1/\ag Γ a σ H1 λy H2=>Cz Γ.K m x [y] H2 Q):ag Γ (.bE m o [a]) σ H Q:=h
theorem wg{K:Frag}{x:Str}(q:Q (.bl<|x==y) H):da K .Eq (.str x) (.str y) H Q:=by
 show Q (.bl<|false ^^ decide (V.str x=V.str y)) H;rw[zaL,ie];exact q
theorem rD{K:Frag}{x:Str}(q:Q (.bl<|x !=y) H):da K .NotEq (.str x) (.str y) H Q:=by
 show Q (.bl<|true ^^ decide (V.str x=V.str y)) H;rw[zaM,ie];exact q
end
end L2
namespace L2.B
theorem bM.ob{b:List Pt}(h:bM C H w L b):∃(d:Addr) (i o:Int),H w=some (.ins C d<|wf L i o):=by
 obtain⟨d,xs,ps,i,o,e,_⟩:=qx5 h;exact⟨d,i,o,e⟩
theorem Es{i o:Int}:(wf L i o).lookup ("word":Str)=none/\(wf L i o).lookup ("left":Str)=none/\(wf L i o).lookup ("take":Str)=none:=
 ⟨zW (by decide+kernel) (by decide+kernel) (by decide+kernel),zW (by decide+kernel) (by decide+kernel) (by decide+kernel),zW (by decide+kernel) (by decide+kernel) (by decide+kernel)⟩
inductive z6(vs:List V)(H:Hp)(Q:VK)(E:XK):Prop|i(v:V)(p:Pt)(u:Str)(_:vs=[v,.str u])(_:je H v p)(_:((∃n,p=.keep n/\∀c t H',aD H H'->H c=none->H' c=some (.lst [.ref t])->H' t=some (.tup [.str "cut",.str u])->Q (.ref c) H')\/
 (p=.put u/\∀c H',aD H H'->H c=none->H' c=some (.lst [])->Q (.ref c) H')))
theorem acB{K:Frag}{et:List (Str×Addr)}:cp (z6) (λE=>aO K [] [] (et:=et) (E:=E)) KP KO:=by
 intro vs H Q E h;obtain⟨v,p,u,rfl,⟨a,rfl,d⟩,⟨n,rfl,q⟩|⟨rfl,q⟩⟩:=h
 ·refine⟨_,rfl,.inr<|.inl ⟨_,_,_,_,rfl,rfl,aK.of d,rfl,_,rfl,⟨_,rfl,fQ,λt g=>⟨jN,λc b=>?_⟩⟩⟩⟩;have f:=sameNew (o:=.tup [V.str "cut",V.str u]) g;have e:=sameNew (o:=.lst [V.ref t]) b;exact q c t _ (f.trans e) (f.free b) aw<|e _ _ aw
 ·refine⟨_,rfl,.inr<|.inl ⟨_,_,_,_,rfl,rfl,aK.of d,rfl,_,rfl,⟨_,rfl,.inr<|.inl ⟨_,_,_,_,rfl,rfl,aK.of d,rfl,_,rfl,_,rfl,?_⟩⟩⟩⟩;rw[zqT (show(Pt.put u).val=V.str u from rfl)]
  exact⟨zqZ _,λc b=>q c _ (sameNew b) b aw⟩
theorem Et(p:Pt)(t:List Pt)(k:Nat):(d9 p t k).length<=t.length+1:=by
 unfold d9;split<;>simp
theorem z7(t:List Pt){k:Nat}(d:k<=aU p):ar (p::t)=ba (aP p k)++ar (d9 p t k):=by
 unfold d9;rw[c8,zR p k d]
 split
 ·rename_i e
  have:ba (cK p k)=[]:=by
   have h:=my p k d;rw[e,zaJ] at h;cases p with
   |keep n=>
    have b:(n - (k:Int)).toNat=0:=e▸h
    show rK (n - (k:Int)).toNat=[];rw[b];rfl
   |put s=>
    rw[<-e] at h;have b:(⟨(s.cps.toList.drop k).toArray⟩:Str).length=0:=h;rw[k9] at b;show(s.cps.toList.drop k).map At.P=[];rw[zaE.mp b];rfl
   |cut s=>
    rw[<-e] at h;have b:(⟨(s.cps.toList.drop k).toArray⟩:Str).length=0:=h;rw[k9] at b;show(s.cps.toList.drop k).map At.C=[];rw[zaE.mp b];rfl
  rw[this,zac]
 ·rw[c8,zal]
theorem t9(p:Pt):(ba p).length=aU p:=by
 cases p with
 |keep n=>show(rK n.toNat).length=_;unfold rK;rw[zbt];rfl
 |put s=>show(s.cps.toList.map At.P).length=_;rw[zae];rfl
 |cut s=>show(s.cps.toList.map At.C).length=_;rw[zae];rfl
theorem Eu(t:List Pt){k:Nat}(b:1<=k)(h:k<=aU p):(ar<|d9 p t k).length< (ar (p::t)).length:=by
 rw[z7 t h,zqA,t9,v9 p k h];lia
theorem t_{e:List Pt}(h:Γ.ms j=(C,pM C))(f:σ[i]?=some (some<|.ref w))(d:bM C H w L e)(q:Q (.str<|pL e) H):ag Γ (.aS j "word" (.v i) []) σ H Q:=by
 obtain⟨x,a,b,g⟩:=d.ob;exact iS C (pM C) h<|af f ⟨w,x,_,rfl,g,Es.1,w,L,e,rfl,d,q⟩
theorem ua{p:Pt}{t:List Pt}(h:Γ.ms j=(C,mB C))(e:σ[i]?=some (some<|.ref w))(d:bM C H w L (p::t))(q:Q (.int (aU p:Int)) H):ag Γ (.aS j "left" (.v i) []) σ H Q:=by
 obtain⟨x,a,b,f⟩:=d.ob;exact iS C (mB C) h<|af e ⟨w,x,_,rfl,f,Es.2.1,w,L,p,t,rfl,d,q⟩
theorem ub{p:Pt}{t:List Pt}{k:Nat}(h:Γ.ms j=(C,nQ C))(g:σ[i]?=some (some<|.ref w))(d:bM C H w L (p::t))(m:1<=k)(f:k<=aU p)
  (l:∀e:VK,e (.int (k:Int)) H->ag Γ a σ H e) (q:∀r H',aR w H H'->H' r=some (.tup [.str (aP p k).word,(aP p k).val])->H r=none->bM C H' w L (d9 p t k)->Q (.ref r) H'):ag Γ (.aS j "take" (.v i) [a]) σ H Q:=by
 obtain⟨A,x,b,u⟩:=d.ob;exact jH C (nQ C) h<|af g ⟨w,A,_,rfl,u,Es.2.2,l _ (⟨w,L,p,t,k,rfl,d,m,f,q⟩)⟩
inductive z8(C:Addr)(vs:List V)(H:Hp)(Q:VK)(E:XK):Prop|i(w L:Addr)(v:V)(d:List Pt)(t:Pt)(l:List Nat)(ys:List At)(_:vs=[.ref w,v])(_:bM C H w L d)(_:je H v t)(_:aX t)(_:(∀s,t≠ .put s))(_:d.length<=100000)(_:fit l (ar d))(_:fit (out l<|ar d) (ba t++ys))(_:∀(c:Addr) (H':Hp) (g:List V) (b A:List Pt) (f:List Nat) (e:List At),aR w H H'->H c=none->H' c=some (.lst g)->aH H' g b->(∀p∈b,aX p)->bM C H' w L A->ar d=e++ar A->bX e (ba t) (ar b)->
  fit f (ar A)->fit (out f<|ar A) ys->b.length+A.length<=d.length+1->Q (.ref c) H')
theorem aR.uc{d:Addr}{f:List (Str×V)}(b:aR w H H')(h:H w=some (.ins C d f)):eI H H':=λc xs e=>b c _ e (cA e h (by lia))
theorem acC:aP (cK (.cut s) k) m=.cut ⟨((s.cps.toList.drop k).take m).toArray⟩:=rfl
theorem acD{K:Frag}:cp (z8 C) (λE=>aO K [("part_size",o8),("cut_behind",z6)] [] [] [("word",C,pM C),("take",C,nQ C),("left",C,mB C)] (E:=E)) KR KQ:=by
 intro vs H Q E h;obtain⟨w,L,v,rs,g,l,ys,rfl,f,⟨pa,rfl,nT⟩,aG,wj,Nx,q',p',q⟩:=h;obtain⟨v',E'⟩:=kf aG;refine bW<|eY<|aN ⟨zqZ _,λc hc=>?_⟩;refine bW<|ay ?_;have b0:aR w H (upd H c<|.lst []):=λb o e _=>by rw[ax<|aM e hc];exact e
 obtain⟨D',i0,o0,OF⟩:=f.ob;have mE:c≠w:=λz=>by rw[z,OF] at hc;cases hc
 have lg:c≠L:=by
  obtain⟨_,_,_,_,_,zq⟩:=qx5 f;obtain⟨_,hL,_⟩:=qa3 zq;exact(aM hL hc).symm
 refine z5 (λm σ H'=>∃(k:Nat) (u4 u5:Option V) (D:List V) (A I:List Pt) (l':List Nat) (S:List At),m=(ar I).length/\σ=[some (.ref w),some (.ref pa),some (.ref c),some (.int (k:Int)),u4,u5]/\aR w H H'/\H' c=some (.lst D)/\aH H' D A/\
   (∀p∈A,aX p)/\bM C H' w L I/\ar rs=S++ar I/\bX S (ba (aP g k)) (ar A)/\k<=aU g/\fit l' (ar I)/\fit (out l' (ar I)) (ba (cK g k)++ys)/\A.length+I.length<=rs.length+(if k=aU g then 1 else 0))
  ⟨_,0,none,none,[],[],rs,l,[],rfl,rfl,b0,aw,.nil,(λp hp=>by cases hp),f.same<|sameNew hc,rfl,?_,zqZ _,q',by rw[drop_zero];exact p',by simp⟩ ?_
 ·have e:ba (aP g 0)=[]:=zaE.mp (by rw[t9,v9 g 0<|zqZ _])
  rw[e];exact .nil
 rintro m σ H1 ⟨k,u4,u5,D,A,I,l',S,rfl,rfl,b1,z9,iV,ji,W1,ez,ir,hk,nU,T,G⟩;have Ew:H1 pa=some (.tup [.str g.word,g.val]):=b1 _ _ nT (cA nT OF (by intro z;cases z))
 have x':=Paired.length iV;have sz:∀{σ:St}{Q1:VK},σ[1]?=some (some<|.ref pa)->Q1 (.int (aU g:Int)) H1->ag (aO K [("part_size",o8),("cut_behind",z6)] [] [] [("word",C,pM C),("take",C,nQ C),("left",C,mB C)] (E:=E)) (.call 0 [.v 1]) σ H1 Q1:=by
  intro σ Q1 h1 hq;refine bP o8 rfl<|aC<|af h1<|aN ⟨_,g,rfl,⟨pa,rfl,Ew⟩,zx aG,?_⟩;rw[v'];exact hq
 refine bF<|af rfl<|sz rfl ⟨trivial,_,rfl,?_⟩;by_cases Ex:k<aU g
 ·refine iT ⟨_,λw' H' z=>z,?_⟩ (zqT (by lia))
  have z':=Eo aG Ex;have sU:(if k=aU g then 1 else 0)=0:=if_neg (by lia)
  rw[sU] at G;cases I with
  |nil=>
   exfalso
   have e1:out l' (ar [])=[]:=rfl;rw[e1] at T;have:=mD _ _ T;rw[wb] at this;have y':dH (ba<|cK g k)=aU g - k:=by
    rw[<-my g k hk];cases g with
    |keep n=>exact wc _
    |put s=>exact absurd rfl (wj s)
    |cut s=>show dH ((s.cps.toList.drop k).map At.C)=_;rw[nS];show _=(⟨(s.cps.toList.drop k).toArray⟩:Str).length;rw[k9]
   simp only[zbf] at this
   lia
  |cons p t=>
   have hp:=W1.ok p (.head _);obtain⟨OG,wk⟩:=kf hp;refine bQ<|bF<|t_ (C:=C) rfl rfl W1<|ay<|wg ⟨_,rfl,?_⟩;show if ((p.word:Str)=="cut")=true then _ else _
   have b':∀(H2:Hp) (X:List V) (a:Addr) (pt:Pt),aR w H H2->H2 c=some (.lst X)->aH H2 X A->H2 a=some (.tup [.str pt.word,pt.val])->
     aR w H (upd H2 c<|.lst<|X++[V.ref a])/\aH (upd H2 c<|.lst<|X++[V.ref a]) (X++[V.ref a]) (A++[pt]):=by
    intro H2 X a pt bb R nF h_;have tt:eI H2 (upd H2 c<|.lst<|X++[V.ref a]):=aR.upd.dS R;exact⟨λb o e n=>by rw[ax<|aM e hc];exact bb b o e n,aH.snoc (nF.mono tt) ⟨a,rfl,tt _ _ h_⟩⟩
   have z_:∀(H2:Hp) (X OH:List V) (Ey:List Pt),H2 c=some (.lst X)->bM C H2 w L Ey->bM C (upd H2 c<|.lst OH) w L Ey:=λH2 X OH Ey R W2=>W2.but aR.upd R lg;by_cases kh:p.word="cut"
   ·
    rw[kh];obtain⟨s,rfl⟩:∃s,p=.cut s:=by
     cases p with
     |keep n=>exact absurd (show(Str.ofString "keep")="cut" from kh) (by decide)
     |put s=>exact absurd (show(Str.ofString "put")="cut" from kh) (by decide)
     |cut s=>exact⟨s,rfl⟩
    have ta:aP (.cut s) (aU<|.cut s)=.cut s:=take_all _ trivial;have re:d9 (.cut s) t (aU<|.cut s)=t:=if_pos rfl;refine d5<|iU<|af rfl ⟨.inl ⟨rfl,_,aB.of z9⟩,ub (C:=C) (k:=aU (.cut s)) rfl rfl W1 wk (zqR _) (λQ' hq=>ua (C:=C) rfl rfl W1 hq) λa H2 b2 ha sE W2=>?_⟩;rw[ta] at ha;rw[re] at W2;have R:H2 c=some (.lst D):=b2 _ _ z9 mE;obtain⟨t',i1,o1,Aa⟩:=W1.ob;have nF:aH H2 D A:=iV.mono (b2.uc Aa);obtain⟨bb,pp⟩:=b' H2 D a (.cut s) (b1.trans b2) R nF ha;refine⟨D,R,dh (by lia),?_⟩
    rw[c8] at nU T ez;obtain⟨la,lb,rfl,f1,f2,f3⟩:=pN _ _ nU;have f0:out la (ba<|.cut s)=[]:=by
     obtain⟨b,rfl⟩:=v5 s.cps.toList la [] (by rw[zac];exact f1)
     have:=mD _ _ f1;have e1:dH (ba<|.cut s)=s.cps.toList.length:=nS _;rw[e1,zqA] at this;have:b=[]:=zaE.mp (by lia)
     subst this;have:=zP s.cps.toList [] []
     simp only[zac] at this
     rw[zac];exact this
    rw[f3,f0,zbx] at T;refine⟨_,?_,k,u4,u5,D++[V.ref a],A++[.cut s],t,lb,S++ba (.cut s),rfl,rfl,bb,aw,pp,?_,z_ H2 _ _ _ R W2,by rw[ez,zal],?_,hk,f2,T,?_⟩
    ·rw[c8,zqA,t9];lia
    ·intro x hx;rcases zab.mp hx with z|z
     ·exact ji x z
     ·rw[zah.mp z];exact hp
    ·have:=ir.app (Er s.cps.toList);rw[zac] at this;rw[fm,hX];exact this
    ·rw[sU];simp only[zqA,zaz,zbf] at G⊢;lia
   ·have gM:((p.word:Str)=="cut")=false:=beq_eq_false_iff_ne.mpr kh;rw[gM];obtain⟨n,hn⟩:∃n,n=min (aU p) (aU g - k):=⟨_,rfl⟩;have fB:1<=n:=by lia
    have jQ:n<=aU p:=by lia
    have A':n<=aU g - k:=by lia
    have c':(if ((aU g:Int) - (k:Int)) < (aU p:Int) then ((aU g:Int) - (k:Int)) else (aU p:Int))=(n:Int):=by
     split<;>lia
    refine bW<|v8<|aC<|ua (C:=C) rfl rfl W1<|aC<|bL<|sz rfl<|af rfl ⟨trivial,aN ?_⟩;show aE _ _ _ ([some<|.ref w,some<|.ref pa,some<|.ref c,some<|.int (k:Int),u4,u5].set 4 (some<|V.int (if ((aU g:Int) - (k:Int)) < (aU p:Int) then ((aU g:Int) - (k:Int)) else (aU p:Int)))) H1
    rw[c'];refine bW<|ub (C:=C) (k:=n) rfl rfl W1 fB jQ (λQ' hq=>af rfl hq) λa H2 b2 ha sE W2=>?_;have R:H2 c=some (.lst D):=b2 _ _ z9 mE;obtain⟨t',i1,o1,Aa⟩:=W1.ob;have nF:aH H2 D A:=iV.mono (b2.uc Aa);have OI:H2 pa=some (.tup [.str g.word,g.val]):=b2 _ _ Ew (cA Ew Aa (by intro z;cases z))
    have Ez:=b1.trans b2;have u':=zU hp fB jQ;have eA:=z7 t jQ;have eB:ba (cK g k)=ba (aP (cK g k) n)++ba (cK g<|k+n):=by
     rw[zR (cK g k) n (by rw[my g k hk];lia),drop_drop]
    have eC:ba (aP g<|k+n)=ba (aP g k)++ba (aP (cK g k) n):=by
     have h1:=zR g (k+n) (by lia)
     have h2:=zR g k hk;rw[eB] at h2;rw[h2,<-zal] at h1;exact(List.append_inj_left' h1 rfl).symm
    rw[eA] at nU T ez;obtain⟨la,lb,rfl,f1,f2,f3⟩:=pN _ _ nU;rw[f3,eB,zal] at T;have h':(out la<|ba<|aP p n).length=n:=by
     rw[zY _ _ f1];cases p with
     |keep m=>exact acz n
     |put s=>show fD ((s.cps.toList.take n).map At.P)=n;rw[acA,zaA];have hh:n<=s.length:=jQ;rw[len_list] at hh;lia
     |cut s=>exact absurd rfl kh
    have EA:dH (ba<|aP (cK g k) n)=n:=by
     have e:aU (aP (cK g k) n)=n:=v9 _ _ (by rw[my g k hk];lia)
     cases g with
     |keep m=>exact wc n
     |put s=>exact absurd rfl (wj s)
     |cut s=>
      have e':(⟨((s.cps.toList.drop k).take n).toArray⟩:Str).length=n:=e;rw[k9] at e';show dH (((s.cps.toList.drop k).take n).map At.C)=n;rw[nS];exact e'
    obtain⟨g1,g2⟩:=Ot T (by rw[h',EA])
    have a':∀(N:Hp) (j6:List V) (ud:List Pt),aR w H N->N c=some (.lst j6)->aH N j6 ud->(∀x∈ud,aX x)->bM C N w L (d9 p t n)->bX (S++ba (aP p n)) (ba<|aP g<|k+n) (ar ud)->ud.length<=A.length+1->
      ∃m',m'< (ar (p::t)).length/\∃(k':Nat) (g' f':Option V) (D:List V) (A I:List Pt) (l':List Nat) (S:List At),m'=(ar I).length/\[some<|V.ref w,some<|.ref pa,some<|.ref c,some<|.int<|(k:Int)+(n:Int),some<|.int (n:Int),some<|.ref a]=[some<|.ref w,some<|.ref pa,some<|.ref c,some<|.int (k':Int),g',f']/\aR w H N/\N c=some (.lst D)/\aH N D A/\
      (∀p∈A,aX p)/\bM C N w L I/\ar rs=S++ar I/\bX S (ba<|aP g k') (ar A)/\k'<=aU g/\fit l' (ar I)/\fit (out l'<|ar I) (ba (cK g k')++ys)/\A.length+I.length<=rs.length+(if k'=aU g then 1 else 0):=by
     intro N j6 ud b3 kT wm n' W3 q9 B';refine⟨_,Eu t fB jQ,k+n,some<|.int (n:Int),some<|.ref a,j6,ud,d9 p t n,lb,S++ba (aP p n),rfl,by rw[zbB],b3,kT,wm,n',W3,by rw[ez,zal],q9,by lia,f2,g2,?_⟩
     have r1:=Et p t n
     simp only[zaz] at G
     by_cases hz:n=aU p
     ·have r2:d9 p t n=t:=if_pos hz;rw[r2];split<;>lia
     ·rw[if_pos (show k+n=aU g by lia)];lia
    refine bQ<|bF<|bx<|af rfl<|ay<|.inr<|.inl ⟨_,_,_,_,rfl,rfl,aK.of OI,rfl,ay<|wg ⟨_,rfl,?_⟩⟩;cases g with
    |put s=>exact absurd rfl (wj s)
    |keep m=>
     refine gJ ?_;refine d5<|iU<|af rfl ⟨.inl ⟨rfl,_,aB.of R⟩,af rfl ⟨D,R,dh (by lia),?_⟩⟩
     obtain⟨bb,pp⟩:=b' H2 D a (aP p n) Ez R nF ha;refine bW<|bL<|af rfl<|af rfl ?_;refine a' _ _ (A++[aP p n]) bb aw pp ?_ (z_ H2 _ _ _ R W2) ?_ (by simp)
     ·intro x hx;rcases zab.mp hx with z|z
      ·exact ji x z
      ·rw[zah.mp z];exact u'
     ·rw[eC,fm,hX];refine ir.app ?_;show bX (ba<|aP p n) (rK ((n:Nat):Int).toNat) (ba<|aP p n);rw[zaD];cases p with
      |keep m'=>show bX (rK ((n:Nat):Int).toNat) (rK n) (rK ((n:Nat):Int).toNat);rw[zaD];exact Ol n
      |put s=>
       have:=Oo (s.cps.toList.take n);rw[zaA] at this;have hh:n<=s.length:=jQ;rw[len_list] at hh;rw[show min n s.cps.toList.length=n by lia] at this
       exact this
      |cut s=>exact absurd rfl kh
    |cut s=>
     refine iI ?_;have kA:H2 pa=some (.tup [.str "cut",.str s]):=OI;refine d5<|iU<|af rfl ⟨.inl ⟨rfl,_,aB.of R⟩,bP z6 rfl<|aC<|af rfl<|aC ?_⟩;refine⟨_,rfl,.inr<|.inl ⟨_,_,_,_,rfl,rfl,aK.of kA,rfl,_,rfl,_,rfl,_,rfl,_,rfl,_,rfl,dz aG.1.1,?_⟩⟩;rw[En k (n:Int) n rfl];generalize hu:((s.cps.toList.drop k).take n)=u at*;have pO:ba (aP (cK (.cut s) k) n)=u.map At.C:=by rw[<-hu];rfl
     have i':u.length=n:=by rw[pO,nS] at EA;exact EA
     rw[pO] at g1;refine⟨_,aP p n,⟨u.toArray⟩,rfl,⟨a,rfl,ha⟩,?_⟩;cases p with
     |cut s'=>exact absurd rfl kh
     |keep m=>
      refine .inl ⟨_,rfl,λd tt N Z hd EB j'=>?_⟩;have kT:=Z _ _ R;refine⟨D,[V.ref tt],kT,EB,dz (by simp;lia),?_⟩
      obtain⟨bb,pp⟩:=b' N D tt (.cut ⟨u.toArray⟩) (λb o e nn=>Z b o<|Ez b o e nn) kT (nF.mono<|bV Z) j';refine bW<|bL<|af rfl<|af rfl ?_;refine a' _ _ (A++[.cut ⟨u.toArray⟩]) bb aw pp ?_ (z_ N _ _ _ kT<|W2.same Z) ?_ (by simp)
      ·intro x hx;rcases zab.mp hx with z|z
       ·exact ji x z
       ·rw[zah.mp z];have:=zU (Eo aG Ex) fB (show n<=aU (cK (.cut s) k) by rw[my _ k hk];lia)
        rw[acC,hu] at this;exact this
      ·rw[eC,fm,hX,pO];refine ir.app ?_;show bX (rK ((n:Nat):Int).toNat) (u.map At.C) (u.map At.C);rw[zaD,<-i'];exact Om u
     |put s'=>
      have eu:(s'.cps.toList.take n)=u:=by
       have r':fit la ((s'.cps.toList.take n).map At.P++[]):=by rw[zac];exact f1
       have wo:la=[]:=(rq _ _ _).mp r';subst wo;have o1:out [] (ba<|aP (.put s') n)=s'.cps.toList.take n:=by
        have:=zO (s'.cps.toList.take n) [] [];rw[zac] at this;exact this.trans<|zac _
       rw[o1] at g1;obtain⟨b,e⟩:=v5 u _ [] (by rw[zac];exact g1)
       have c6:=mD _ _ g1;rw[nS] at c6;rw[e,zqA] at c6;have:b=[]:=zaE.mp (by lia)
       rw[this,zac] at e;exact e
      refine .inr ⟨by show Pt.put ⟨(s'.cps.toList.take n).toArray⟩=_;rw[eu],λd N Z hd EB=>?_⟩
      have kT:=Z _ _ R;refine⟨D,[],kT,EB,dz (by simp;lia),?_⟩
      rw[zac];have tt:eI N (upd N c<|.lst D):=aR.upd.dS kT;refine bW<|bL<|af rfl<|af rfl ?_;refine a' _ _ A (λb o e nn=>by rw[ax<|aM e hc];exact Z b o (Ez b o e nn)) aw ((nF.mono<|bV Z).mono tt) ji (z_ N _ _ _ kT<|W2.same Z) ?_ (by lia)
      rw[eC,pO];have:=ir.app (Oq u);rw[zac] at this;show bX (S++(s'.cps.toList.take n).map At.P) _ _;rw[eu];exact this
 ·refine iF ?_ (zqF (by lia))
  have o':k=aU g:=by lia
  subst o';rw[take_all g<|pH aG] at ir;have e0:ba (cK g<|aU g)=[]:=zaE.mp (by rw[t9,my g _<|zqR _,zaJ])
  rw[e0,zbx] at T;rw[if_pos rfl] at G;exact cq<|af rfl<|q c H1 D A I l' S b1 hc z9 iV ji W1 ez ir nU T G
theorem acR(ps:List Pt):vS ps=overOf (zK ps):=by
 unfold vS overOf zK;rw[List.filter_map,List.map_map]
 congr 1
 ·funext p;cases p<;>rfl
 ·congr 1
  funext p
  cases p with
  |keep n=>show(decide<|(Str.ofString "keep")≠"cut")=decide ((Str.ofString "keep")≠"put");decide
  |put n=>show(decide<|(Str.ofString "put")≠"cut")=decide ((Str.ofString "cut")≠"put");decide
  |cut n=>show(decide<|(Str.ofString "cut")≠"cut")=decide ((Str.ofString "put")≠"put");decide
theorem Run.gives(h:Run l ps r):(vS ps).sum=r.length:=by
 rw[acR];exact h.zJ.over
theorem acS(p:Pt):cnt (ba p)=dX p:=by
 cases p with
 |keep n=>
  have:∀m,cnt (rK m)=0:=λm=>by
   induction m with
   |zero=>rfl
   |succ m h=>exact h
  exact this _
 |put s=>
  show cnt (s.cps.toList.map At.P)=s.length;rw[len_list]
  induction s.cps.toList with
  |nil=>rfl
  |cons c t h=>show cnt (t.map At.P)+1=_;rw[h];rfl
 |cut s=>
  show cnt (s.cps.toList.map At.C)=s.length;rw[len_list]
  induction s.cps.toList with
  |nil=>rfl
  |cons c t h=>show cnt (t.map At.C)+1=_;rw[h];rfl
theorem lq(ps:List Pt):cnt (ar ps)=az ps:=by
 induction ps with
 |nil=>rfl
 |cons p ps h=>
  rw[c8,zZ,acS,h]
  simp[az]
theorem OJ(h:ps[i]?=some p):ar (ps.take<|i+1)=ar (ps.take i)++ba p:=by
 rw[zbA,h]
 simp[ar]
theorem drop_cons(h:ps[i]?=some p):ps.drop i=p::ps.drop (i+1):=by
 have b:=(zad.mp h).1;rw[zaY b]
 congr 1
 exact zar<|(zaj b).symm.trans h
structure EC (one other ps:List Pt) (l r:List Nat):Prop where
 ok:∀p∈ps,aX p
 ch:chainOk "" ps=true
 run:Run l ps r
 res:res 0 (ar ps)=sub (res 0<|ar one) 0 (res 0<|ar other)
 len:ps.length<=3* (one.length+other.length)+2
 az:az ps<=az one+az other
 aL:∃zs,bX (ar one) (ar other) zs/\nb (ar ps)=nb zs
inductive ED(vs:List V)(H:Hp)(Q:VK)(E:XK):Prop|i(a b:Addr)(xs ys:List V)(e other:List Pt)(l m r:List Nat)(_:vs=[.ref a,.ref b])(_:H a=some (.lst xs))(_:H b=some (.lst ys))(_:aH H xs e)(_:aH H ys other)(_:(∀p∈e,aX p))(_:(∀p∈other,aX p))(_:chainOk "" e=true)(_:chainOk "" other=true)(_:e.length+other.length<=30000)(_:az e+az other<=100000)(_:Run l e m)(_:Run m other r)(_:∀(c:Addr) (H':Hp) (d:List V) (ps:List Pt),aD H H'->H c=none->H' c=some (.lst d)->aH H' d ps->EC e other ps l r->Q (.ref c) H')
theorem acT{b:List Pt}{l m:List Nat}(x:Run l e m)(w:Run m other r)(f:∀p∈b,aX p)(T:b.length<=e.length+other.length)(S:B.az e+B.az other<=100000)(h:bX (ar e) (ar other) (ar b)):EC e other (jF b) l r/\B.az b<=100000:=by
 have R:=by
  have:=h.cnt;rw[lq,lq,lq] at this;exact this
 have E:=NP f (by lia)
 have q:=vY b E;obtain⟨V,A,_⟩:=pG b E (by lia)
 obtain⟨G,D⟩:=x.fits;obtain⟨k,g⟩:=w.fits;rw[<-D] at k g;obtain⟨P,N,I⟩:=abT h l 0 0 G k;have K:=pJ b λp d=>pH (f p d);have t:=by
  have:=pI b l (λp d=>pH<|f p d) P;rw[N,g] at this;exact this
 have u:=D7 b;refine⟨⟨q▸A,by lia,q▸tU t,by rw[abW K,I],by lia,by rw[q,tV b E];exact R,_,h,K⟩,by lia⟩
theorem acU{K:Frag}{et:List (Str×Addr)}(T:oX K C):cp (ED) (λE=>aO K [("sizes",nE),("parts_behind",z8 C),("neat",qZ)] [] [] [("word",C,pM C),("take",C,nQ C),("left",C,mB C)] [("Walk",C,k_ C)] (et:=et) (E:=E)) KW KU:=by
 intro vs H Q E h;obtain⟨a,b,xs,ys,N,other,l,m,r,rfl,ha,hb,lX,hV,ja,gf,gu,c4,q',EF,rF,kg,q⟩:=h;have lx:=Paired.length lX;have ly:=Paired.length hV;obtain⟨f1,f2⟩:=rF.fits;obtain⟨f3,f4⟩:=kg.fits;rw[<-f2] at f3;refine bQ<|bF<|bx<|bP nE rfl<|aC<|af rfl<|aN ⟨a,xs,N,rfl,ha,lX,ja,gu,by lia,λt1 H1 s1 kZ=>?_⟩
 refine ay<|.inr<|.inl ⟨_,_,_,_,rfl,rfl,aK.of kZ,rfl,?_⟩;refine bx<|bP nE rfl<|aC<|af rfl<|aN ⟨b,ys,other,rfl,s1 _ _ hb,hV.mono<|bV s1,gf,c4,by lia,λt2 H2 s2 mv=>?_⟩
 refine ay<|.inr<|.inl ⟨_,_,_,_,rfl,rfl,aK.of mv,rfl,?_⟩;refine⟨_,rfl,?_⟩;rw[rF.gives,kg.over,zqT rfl];have mG:=s1.trans s2;refine bW<|we C (k_ C) rfl<|af rfl λw dx hw EG gM=>?_;have s3:aD H2 (upd (upd H2 dx<|.own w) w<|.ins C dx []):=λb o e=>by rw[ax<|aM e hw,ax<|aM e EG];exact e
 have gw:=mG.trans s3;refine⟨w,dx,a,xs,N,rfl,aw,gw _ _ ha,lX.mono<|bV gw,ja,by lia,λL H3 hL s' b3 f=>⟨rfl,?_⟩⟩
 have fK:aD H H3:=λb o e=>b3 b o (gw b o e) (aM (mG b o e) hw);have fw:H w=none:=mG.free hw;refine bW<|eY<|aN ⟨zqZ _,λc hc=>?_⟩;have fc:H c=none:=fK.free hc;have lg:c≠L:=by
  obtain⟨_,_,_,_,_,zq⟩:=qx5 f;obtain⟨_,i',_⟩:=qa3 zq;exact(aM i' hc).symm
 have mE:c≠w:=by
  obtain⟨_,_,_,hW⟩:=f.ob;exact(aM hW hc).symm
 have OL:∀{I X:Hp},aD H I->aR w I X->aD H X:=λs b d o e=>b d o (s d o e) (aM e fw);have EH:∀{I:Hp}{o:HO},aD H I->aD H (upd I c o):=λs d o e=>by rw[ax<|aM e fc];exact s d o e
 refine⟨_,rfl,b,rfl,⟨_,aB.of ((sameNew (o:=.lst []) hc) _ _ (fK _ _ hb))⟩,lR (K:=K) (a:=b) (xs:=ys) (λi σ I=>∃(u:Option V) (G:List V) (A D:List Pt) (S:List Nat) (R:List At),σ=[some (.ref a),some (.ref b),some (.ref w),some (.ref c),u]/\aD H I/\I c=some (.lst G)/\
   aH I G A/\(∀p∈A,aX p)/\bM C I w L D/\ar N=R++ar D/\bX R (ar (other.take i)) (ar A)/\fit S (ar D)/\fit (out S (ar D)) (ar (other.drop i))/\A.length+D.length<=N.length+i)
  ⟨none,[],[],N,l,[],rfl,fK.trans<|sameNew hc,aw,.nil,(λp hp=>by cases hp),f.same<|sameNew hc,rfl,.nil,f1,f3,by simp⟩
  (λi σ I _ ⟨_,_,_,_,_,_,_,s4,_⟩=>aB.of (s4 _ _ hb)) ?_ ?_⟩
 ·rintro i y σ I hi zq;obtain⟨u,G,A,D,S,R,zq⟩:=qx6 zq;obtain⟨rfl,s4,j7,iV,ji,W4,ez,ir,fa,fb,pQ⟩:=qa11 zq;obtain⟨p,hp,kS⟩:=hV.get hi;obtain⟨Z,rfl,nT⟩:=kS.mono (bV s4);have i7:i<other.length:=(zad.mp hp).1;have iu:=gf p (zan hp);have DZ:=Paired.length iV;rw[drop_cons hp,c8] at fb;refine bQ<|bF<|bx<|af rfl<|ay<|.inr<|.inl ⟨_,_,_,_,rfl,rfl,aK.of nT,rfl,ay<|wg ⟨_,rfl,?_⟩⟩;have a':(∀s,p≠ .put s)->aE (aO K [("sizes",nE),("parts_behind",z8 C),("neat",qZ)] [] [] [("word",C,pM C),("take",C,nQ C),("left",C,mB C)] [("Walk",C,k_ C)] (et:=et) (E:=E)) [.drop<|.bE .extend (.v 3) [(.call 1 [.v 2,.v 4])]]
    {nx:=λσ I=>∃(u:Option V) (G:List V) (A D:List Pt) (S:List Nat) (R:List At),σ=[some (.ref a),some (.ref b),some (.ref w),some (.ref c),u]/\aD H I/\I c=some (.lst G)/\
   aH I G A/\(∀p∈A,aX p)/\bM C I w L D/\ar N=R++ar D/\bX R (ar (other.take (i+1))) (ar A)/\fit S (ar D)/\fit (out S (ar D)) (ar (other.drop (i+1)))/\A.length+D.length<=N.length+(i+1),rt:=Q} [some (.ref a),some (.ref b),some (.ref w),some (.ref c),some (.ref Z)] I:=by
   intro wj;refine d5<|iU<|af rfl ⟨.inl ⟨rfl,_,aB.of j7⟩,bP (z8 C) rfl<|aC<|af rfl<|aC<|af rfl<|aN ?_⟩;refine⟨w,L,_,D,p,S,_,rfl,W4,⟨Z,rfl,nT⟩,iu,wj,by lia,fa,fb,λd X EI o' e' l5 b' b5 hd j' OM p' W5 n' f' m' k' Ab=>?_⟩
   have nH:X c=some (.lst G):=b5 _ _ j7 mE;obtain⟨_,_,_,h'⟩:=W4.ob;have t':=Paired.length OM;refine⟨G,EI,nH,j',dz (by lia),?_⟩
   have tt:eI X (upd X c<|.lst<|G++EI):=aR.upd.dS nH;refine⟨some<|.ref Z,G++EI,A++o',e',l5,R++b',rfl,EH<|OL s4 b5,aw,Paired.app ((iV.mono<|b5.uc h').mono tt)<|OM.mono tt,?_,W5.but aR.upd nH lg,by rw[ez,n',zal],?_,m',k',?_⟩
   ·intro x hx;rcases zab.mp hx with z|z
    ·exact ji x z
    ·exact p' x z
   ·rw[OJ hp,fm];exact ir.app f'
   ·simp only[zqA];lia
  cases p with
  |put s=>
   refine gJ ?_;refine d5<|iU<|af rfl ⟨.inl ⟨rfl,_,aB.of j7⟩,af rfl ⟨G,j7,dh (by lia),?_⟩⟩
   have tt:eI I (upd I c<|.lst<|G++[V.ref Z]):=aR.upd.dS j7;refine⟨some<|.ref Z,G++[V.ref Z],A++[.put s],D,S,R,rfl,EH s4,aw,aH.snoc (iV.mono tt) ⟨Z,rfl,tt _ _ nT⟩,?_,W4.but aR.upd j7 lg,ez,?_,fa,(rq _ _ _).mp fb,by simp;lia⟩
   ·intro x hx;rcases zab.mp hx with z|z
    ·exact ji x z
    ·rw[zah.mp z];exact iu
   ·rw[OJ hp,fm,hX];have:=ir.app (Oi s.cps.toList);rw[zac] at this;exact this
  |keep n=>exact iI (a' λs z=>by cases z)
  |cut s=>exact iI (a' λs z=>by cases z)
 ·rintro σ I ⟨u,G,A,D,S,R,rfl,s4,j7,iV,ji,W4,ez,ir,fa,fb,pQ⟩;rw[ly,zbz] at ir;rw[ly,List.drop_length] at fb;have oe:out S (ar D)=[]:=fb;refine z5 (λmm σ X=>∃(G:List V) (A D:List Pt) (S:List Nat) (R:List At),mm=D.length/\σ=[some (.ref a),some (.ref b),some (.ref w),some (.ref c),u]/\aD H X/\X c=some (.lst G)/\
   aH X G A/\(∀p∈A,aX p)/\bM C X w L D/\ar N=R++ar D/\bX R (ar other) (ar A)/\fit S (ar D)/\out S (ar D)=[]/\A.length+D.length<=N.length+other.length)
   ⟨_,G,A,D,S,R,rfl,rfl,s4,j7,iV,ji,W4,ez,ir,fa,oe,by lia⟩ ?_
  clear ir fa oe fb ez W4 iV ji j7 s4 pQ A D S R G I;rintro mm σ X ⟨G,A,D,S,R,rfl,rfl,s5,nH,iV,ji,W5,ez,ir,fa,oe,Ab⟩;have DZ:=Paired.length iV;refine bF<|t_ (C:=C) rfl rfl W5<|ay<|rD ⟨_,rfl,?_⟩;cases D with
  |nil=>
   refine iF ?_ rfl;rw[show ar []=[] from rfl,zac] at ez
   subst ez;obtain⟨g,EE⟩:=acT rF kg ji (by simp at Ab;lia) EF ir
   refine cq<|bP qZ rfl<|aC<|af rfl<|aN ⟨c,G,A,rfl,nH,iV,by simp at Ab;lia,EE,λd H6 ws s6 hd h6 pR=>?_⟩
   exact q d H6 ws _ (s5.trans s6) (s5.free hd) h6 pR g
  |cons p t=>
   have iu:=W5.ok p (.head _);obtain⟨OG,wk⟩:=kf iu;have kh:∃s,p=.cut s:=by
    have oE:=Ou _ _ fa oe;cases p with
    |cut s=>exact⟨s,rfl⟩
    |keep n=>
     exfalso
     have fB:(1:Int)<=n:=iu;obtain⟨c',e⟩:=oE .K (by rw[c8];refine zaG _ ?_;show At.K∈rK n.toNat;unfold rK;rw[List.mem_replicate];exact⟨by lia,rfl⟩)
     cases e
    |put s=>
     exfalso
     obtain⟨c0,r0,e0⟩:=jg iu.2;obtain⟨c',e⟩:=oE (.P c0) (by rw[c8];refine zaG _ ?_;show At.P c0∈s.cps.toList.map At.P;rw[e0];exact .head _)
     cases e
   obtain⟨s,rfl⟩:=kh;have ta:aP (.cut s) (aU<|.cut s)=.cut s:=take_all _ trivial;have re:d9 (.cut s) t (aU<|.cut s)=t:=if_pos rfl;refine iT ⟨_,λr' H' z=>z,?_⟩ rfl;refine d5<|iU<|af rfl ⟨.inl ⟨rfl,_,aB.of nH⟩,ub (C:=C) (k:=aU (.cut s)) rfl rfl W5 wk (zqR _) (λQ' hq=>ua (C:=C) rfl rfl W5 hq) λZ H6 b6 nT sE W6=>?_⟩;rw[ta] at nT;rw[re] at W6;have iQ:H6 c=some (.lst G):=b6 _ _ nH mE;obtain⟨_,_,_,g'⟩:=W5.ob
   simp only[zaz] at Ab
   refine⟨G,iQ,dh (by lia),?_⟩
   have tt:eI H6 (upd H6 c<|.lst<|G++[V.ref Z]):=aR.upd.dS iQ;rw[c8] at fa oe ez;obtain⟨la,lb,zq⟩:=qx2 (pN _ _ fa);obtain⟨rfl,g1,g2,g3⟩:=qa4 zq;rw[g3] at oe;refine⟨t.length,by simp,G++[V.ref Z],A++[.cut s],t,lb,R++ba (.cut s),rfl,rfl,EH<|OL s5 b6,aw,aH.snoc ((iV.mono<|b6.uc g').mono tt) ⟨Z,rfl,tt _ _ nT⟩,?_,W6.but aR.upd iQ lg,by rw[ez,zal],?_,g2,(List.append_eq_nil_iff.mp oe).2,by simp;lia⟩
   ·intro x hx;rcases zab.mp hx with z|z
    ·exact ji x z
    ·rw[zah.mp z];exact iu
   ·rw[fm,hX];have:=ir.app (Er s.cps.toList);rw[zac] at this;exact this
def wq(w c d:Addr)(H H':Hp):Prop:= ∀b o,H b=some o->b≠w->b≠c->b≠d->H' b=some o
theorem bM.ON{v c d:Addr}{g:List Pt}(h:bM C H w L g)(b:wq v c d H H')(m:H c=some (.lst xs))(l:H d=some (.lst ys))(A:c≠L)(u:d≠L)(q:w≠v)(t:∃C' x E,H v=some (.ins C' x E)):bM C H' w L g:=by
 obtain⟨C',G,R,k⟩:=t;refine h.keep λe o f z=>b e o f ?_ ?_ ?_
 all_goals obtain⟨x,_,_,_,_,p,D,_⟩:=h
 ·rcases z with rfl|rfl|⟨ys,rfl⟩
  ·exact q
  ·exact cA D k (by lia)
  ·exact cA f k (by lia)
 ·rcases z with rfl|rfl|⟨ys,rfl⟩
  ·exact cA p m (by lia)
  ·exact A.symm
  ·exact cA f m (by lia)
 ·rcases z with rfl|rfl|⟨ys,rfl⟩
  ·exact cA p l (by lia)
  ·exact u.symm
  ·exact cA f l (by lia)
inductive Ac(C:Addr)(vs:List V)(H:Hp)(Q:VK)(E:XK):Prop|i(w L c d:Addr)(s:Str)(t:List Pt)(xs ys:List V)(_:vs=[.ref w,.ref c,.ref d])(_:bM C H w L (.put s::t))(_:H c=some (.lst xs))(_:H d=some (.lst ys))(_:c≠d)(_:c≠L)(_:d≠L)(_:xs.length<=100000)(_:ys.length<=100000)(_:∀(a b:Addr) (H':Hp),wq w c d H H'->H' c=some (.lst<|xs++[.ref a])->H' d=some (.lst<|ys++[.ref b])->H' a=some (.tup [.str "put",.str s])->H' b=some (.tup [.str "keep",.int (s.length:Int)])->bM C H' w L t->Q .av H')
theorem ac8{K:Frag}:cp (Ac C) (λE=>aO K [("part_size",o8)] [] [] [("take",C,nQ C),("left",C,mB C)] (E:=E)) KD KC:=by
 intro vs H Q E h;obtain⟨w,L,c,d,s,t,xs,ys,rfl,f,P,N,R,lg,jj,lx,ly,q⟩:=h;have G:=f.ok _ (.head _);obtain⟨OG,Z⟩:=kf G;have ta:aP (.put s) (aU<|.put s)=.put s:=take_all _ trivial;have re:d9 (.put s) t (aU<|.put s)=t:=if_pos rfl;refine bW<|ub (C:=C) rfl rfl f Z (zqR _) (λQ' hq=>ua (C:=C) rfl rfl f hq) λa H1 p x sE S=>?_;rw[ta] at x;rw[re] at S;obtain⟨_,_,_,I⟩:=f.ob;have mE:c≠w:=cA P I (by lia)
 have Ad:d≠w:=cA N I (by lia)
 have u:=p _ _ P mE;refine d5<|iU<|af rfl ⟨.inl ⟨rfl,_,aB.of u⟩,af rfl ⟨xs,u,dh (by lia),?_⟩⟩
 have g:upd H1 c (.lst<|xs++[V.ref a]) d=some (.lst ys):=by rw[ax R.symm];exact (p _ _ N Ad)
 have m:upd H1 c (.lst<|xs++[V.ref a]) a=some (.tup [.str "put",.str s]):=by rw[ax<|cA x u (by lia)];exact x
 refine d5<|iU<|af rfl ⟨.inl ⟨rfl,_,aB.of g⟩,jh<|aC<|ay<|aC<|bP o8 rfl<|aC<|af rfl<|aN ⟨_,.put s,rfl,⟨a,rfl,m⟩,zx G,aN ⟨fQ,λl k=>?_⟩⟩⟩;have X:upd (upd H1 c<|.lst<|xs++[V.ref a]) l (.tup [.str "keep",.int<|qW<|.put s]) d=some (.lst ys):=by rw[ax<|aM g k];exact g
 refine⟨ys,X,dh (by lia),?_⟩
 have T:c≠l:=λz=>by rw[<-z,aw] at k;cases k
 have A:d≠l:=aM g k;have f2:H1 l=none:=by rw[ax T.symm] at k;exact k
 refine q a l _ ?_ ?_ aw ?_ ?_ ?_
 ·intro b o e D n2 n3;rw[ax n3,ax<|aM (p b o e D) f2,ax n2];exact p b o e D
 ·rw[ax R,ax T,aw]
 ·rw[ax<|cA m g (by lia),ax<|aM m k];exact m
 ·rw[ax A.symm,aw];rfl
 ·refine((S.but aR.upd u lg).same<|sameNew k).but aR.upd X jj
inductive EK(vs:List V)(H:Hp)(Q:VK)(E:XK):Prop|i(g f:V)(c d:Addr)(e p:Pt)(xs ys:List V)(_:vs=[g,f,.ref c,.ref d])(_:je H g e)(_:je H f p)(_:(∀s,e≠ .put s))(_:(∀s,p≠ .put s))(_:(∀s s',e=.cut s->p=.cut s'->s=s'))(_:H c=some (.lst xs))(_:H d=some (.lst ys))(_:c≠d)(_:xs.length<=100000)(_:ys.length<=100000)(_:∀(H':Hp),(∀b o,H b=some o->b≠c->b≠d->H' b=some o)->H' c=some (.lst<|xs++if ND p then [g] else [])->H' d=some (.lst<|ys++if ND e then [f] else [])->Q .av H')
theorem ada{K:Frag}{et:List (Str×Addr)}:cp (EK) (λE=>aO K [] [] (et:=et) (E:=E)) KH KG:=by
 intro vs H Q E h;obtain⟨v1,v2,c,d,X,S,xs,ys,rfl,⟨u,rfl,l⟩,⟨a2,rfl,t⟩,Ae,I,A,g,p,D,lx,ly,q⟩:=h;have N:∀f,upd H c (.lst f) d=some (.lst ys):=λf=>by rw[ax D.symm];exact p
 have bc:∀f b o,H b=some o->b≠c->b≠d->upd H c (.lst f) b=some o:=λf b o e x _=>by rw[ax x];exact e
 have Z:∀f b o,H b=some o->b≠c->b≠d->upd H d (.lst f) b=some o:=λf b o e _ w=>by rw[ax w];exact e
 have G:∀f R b o,H b=some o->b≠c->b≠d->upd (upd H c<|.lst f) d (.lst R) b=some o:=λf R b o e x w=>by rw[ax w,ax x];exact e
 cases X with
 |put s=>exact absurd rfl (Ae s)
 |keep n=>
  refine⟨_,rfl,.inr<|.inl ⟨_,_,_,_,rfl,rfl,aK.of l,rfl,_,rfl,?_⟩⟩;refine⟨_,rfl,.inr<|.inl ⟨_,_,_,_,rfl,rfl,aK.of t,rfl,_,rfl,?_⟩⟩;cases S with
  |put s=>exact absurd rfl (I s)
  |keep m=>
   refine⟨_,rfl,.inl ⟨rfl,_,aB.of g⟩,_,rfl,xs,g,dh (by lia),?_⟩
   have P:upd H c (.lst<|xs++[V.ref u]) u=some (.tup [.str "keep",.int n]):=by rw[ax<|cA l g (by intro z;cases z)];exact l
   refine⟨_,rfl,.inr<|.inl ⟨_,_,_,_,rfl,rfl,aK.of P,rfl,_,rfl,?_⟩⟩;refine⟨_,rfl,.inl ⟨rfl,_,aB.of<|N _⟩,_,rfl,ys,N _,dh (by lia),?_⟩
   exact q _ (G _ _) (by rw[ax D,aw];rfl) (by rw[aw];rfl)
  |cut s=>
   refine⟨_,rfl,.inl ⟨rfl,_,aB.of p⟩,_,rfl,ys,p,dh (by lia),?_⟩
   exact q _ (Z _) (by rw[ax D,g];simp[ND]) (by rw[aw];rfl)
 |cut s=>
  refine⟨_,rfl,.inr<|.inl ⟨_,_,_,_,rfl,rfl,aK.of l,rfl,_,rfl,?_⟩⟩;refine⟨_,rfl,.inr<|.inl ⟨_,_,_,_,rfl,rfl,aK.of t,rfl,_,rfl,?_⟩⟩;cases S with
  |put s=>exact absurd rfl (I s)
  |keep m=>
   refine⟨_,rfl,.inr<|.inl ⟨_,_,_,_,rfl,rfl,aK.of t,rfl,_,rfl,?_⟩⟩;refine⟨_,rfl,.inl ⟨rfl,_,aB.of g⟩,_,rfl,xs,g,dh (by lia),?_⟩
   have P:upd H c (.lst<|xs++[V.ref u]) u=some (.tup [.str "cut",.str s]):=by rw[ax<|cA l g (by intro z;cases z)];exact l
   refine⟨_,rfl,.inr<|.inl ⟨_,_,_,_,rfl,rfl,aK.of P,rfl,_,rfl,?_⟩⟩;exact q _ (bc _) (by rw[aw];rfl) (by rw[N];simp[ND])
  |cut T=>
   have e:=A s T rfl rfl;subst e;refine⟨_,rfl,.inr<|.inl ⟨_,_,_,_,rfl,rfl,aK.of l,rfl,_,rfl,.inr<|.inl ⟨_,_,_,_,rfl,rfl,aK.of t,rfl,_,rfl,?_⟩⟩⟩;rw[zaM,zqT (show(Pt.cut s).val=(Pt.cut s).val from rfl)]
   exact q _ (λb o e _ _=>e) (by rw[g];simp[ND]) (by rw[p];simp[ND])
end L2.B
namespace L2
theorem ade{T:Bool->Hp->Prop}(h:aY Γ a σ H λc H1=>if c=true then T true H1 else aY Γ b σ H1 T):aY Γ (.or [a,b]) σ H T:=h
end L2
namespace L2.B
inductive c9:List At->List At->List At->List At->Prop
 |nil:c9 [] [] [] []
 |p1 {c xs ys b ts}:c9 xs ys b ts->c9 (.P c::xs) ys (.P c::b) (.K::ts)
 |p2 {c xs ys b ts}:(∀d e,xs≠ .P d::e)->c9 xs ys b ts->c9 xs (.P c::ys) (.K::b) (.P c::ts)
 |kk {xs ys b ts}:c9 xs ys b ts->c9 (.K::xs) (.K::ys) (.K::b) (.K::ts)
 |kc {c xs ys b ts}:c9 xs ys b ts->c9 (.K::xs) (.C c::ys) b (.C c::ts)
 |ck {c xs ys b ts}:c9 xs ys b ts->c9 (.C c::xs) (.K::ys) (.C c::b) ts
 |cc {c xs ys b ts}:c9 xs ys b ts->c9 (.C c::xs) (.C c::ys) b ts
def Seg(a b o t:List At):Prop:=cY a b o t/\∀xs ys d ts,c9 xs ys d ts->c9 (a++xs) (b++ys) (o++d) (t++ts)
theorem adf(s:List Nat):Seg (s.map .P) [] (s.map .P) (rK s.length):=⟨Ow s,by
 induction s with
 |nil=>intro xs ys b ts h;exact h
 |cons c s d=>intro xs ys b ts h;exact .p1 (d xs ys b ts h)⟩
theorem adg(n:Nat):Seg (rK n) (rK n) (rK n) (rK n):=⟨Oz n,by
 induction n with
 |zero=>intro xs ys b ts h;exact h
 |succ n d=>intro xs ys b ts h;exact .kk (d xs ys b ts h)⟩
theorem adh(s:List Nat):Seg (rK s.length) (s.map .C) [] (s.map .C):=⟨OA s,by
 induction s with
 |nil=>intro xs ys b ts h;exact h
 |cons c s d=>intro xs ys b ts h;exact .kc (d xs ys b ts h)⟩
theorem adi(s:List Nat):Seg (s.map .C) (rK s.length) (s.map .C) []:=⟨OB s,by
 induction s with
 |nil=>intro xs ys b ts h;exact h
 |cons c s d=>intro xs ys b ts h;exact .ck (d xs ys b ts h)⟩
theorem adj(s:List Nat):Seg (s.map .C) (s.map .C) [] []:=⟨OD s,by
 induction s with
 |nil=>intro xs ys b ts h;exact h
 |cons c s d=>intro xs ys b ts h;exact .cc (d xs ys b ts h)⟩
theorem OQ{xs ys b ts:List At}(e:∀d f,xs≠ .P d::f)(h:c9 xs ys b ts):∀s:List Nat,c9 xs (s.map .P++ys) (rK s.length++b) (s.map .P++ts)
 |[]=>h
 |c::s=>.p2 e (OQ e h s)
def lu(xs ys a b f e o t:List At):Prop:=cY f e o t/\∀d ts,c9 a b d ts->c9 xs ys (o++d) (t++ts)
theorem lu.seg{xs ys d a b1 b f e o t g t1:List At}(h:lu xs ys (d++a) (b1++b) f e o t)(s:Seg d b1 g t1):lu xs ys a b (f++d) (e++b1) (o++g) (t++t1):=
 ⟨h.1.app s.1,λk ts p=>by rw[zal,zal];exact h.2 _ _ (s.2 _ _ _ _ p)⟩
theorem lu.p2{xs ys a b f e o t:List At}{s:List Nat}(k:∀d g,a≠ .P d::g)(h:lu xs ys a (s.map .P++b) f e o t):lu xs ys a b f (e++s.map .P) (o++rK s.length) (t++s.map .P):=
 ⟨by have:=h.1.app (Ox s);rw[zac] at this;exact this,λl ts p=>by rw[zal,zal];exact h.2 _ _ (OQ k p s)⟩
theorem adk(g:∀p∈ps,aX p)(h:pL ps≠"put"):∀d b,ar ps≠ .P d::b:=by
 intro d b;cases ps with
 |nil=>intro z;cases z
 |cons p t=>
  have f:=g p (.head _);cases p with
  |put s=>exact absurd rfl h
  |keep n=>
   obtain⟨m,e⟩:∃m,n.toNat=m+1:=⟨n.toNat - 1,by have:1<=n:=f;lia⟩
   show rK n.toNat++_≠_;rw[e];intro z;cases z
  |cut s=>
   obtain⟨c,r,e⟩:=jg f.2;show s.cps.toList.map At.C++_≠_;rw[e];intro z;cases z
structure Passed (one other ps qs:List Pt) (l m n:List Nat):Prop where
 ok1:∀p∈ps,aX p
 ok2:∀p∈qs,aX p
 ch1:chainOk "" ps=true
 ch2:chainOk "" qs=true
 runs:∃r,Run n ps r/\Run m qs r
 wx:ps.length<=3* (one.length+other.length)+2
 wz:qs.length<=3* (one.length+other.length)+2
 ai9:az ps<=az one
 ai_:az qs<=az other
 pas:∃os ts,cY (ar one) (ar other) os ts/\nb (ar ps)=nb os/\nb (ar qs)=nb ts
 OR:∃os ts,c9 (ar one) (ar other) os ts/\nb (ar ps)=nb os/\nb (ar qs)=nb ts
theorem OS(b:∀p∈ps,aX p)(t:az ps<=100000)(h:fit l (ar ps)):(∀p∈jF ps,aX p)/\chainOk "" (jF ps)=true/\Run l (jF ps) (out l<|ar ps)/\az (jF ps)=az ps:=by
 have E:=NP b t;obtain⟨e,g,_⟩:=pG ps E t;rw[(vY ps E)];exact⟨g,e,tU<|pI ps l (λp d=>pH<|b p d) h,tV ps E⟩
theorem adp{l m n:List Nat}(A:Run l e m)(x:Run l other n)(k:∀p∈d,aX p)(g:∀p∈b,aX p)(l1:d.length<=e.length+other.length)(l2:b.length<=e.length+other.length)(ht:az e+az other<=100000)
  (h:cY (ar e) (ar other) (ar d) (ar b)) (w:c9 (ar e) (ar other) (ar d) (ar b)):Passed e other (jF d) (jF b) l m n/\az d<=100000/\az b<=100000:=by
 obtain⟨N,K⟩:=h.OE;rw[lq,lq] at N K;obtain⟨I,G⟩:=A.fits;obtain⟨E,D⟩:=x.fits;obtain⟨u,t,q⟩:=h.fits l I E;rw[G] at u q;rw[D] at t q;obtain⟨V,T,S,a4⟩:=OS k (by lia) t
 obtain⟨R,P,b3,b4⟩:=OS g (by lia) u
 have Z:=D7 d;have X:=D7 b;refine⟨⟨V,R,T,P,⟨_,S,by lia⟩,by lia,by lia,by lia,by lia,⟨_,_,h,pJ d λp f=>pH (k p f),pJ b λp f=>pH (g p f)⟩,⟨_,_,w,pJ d λp f=>pH (k p f),pJ b λp f=>pH (g p f)⟩⟩,by lia,by lia⟩
inductive wA(vs:List V)(H:Hp)(Q:VK)(E:XK):Prop|i(a b:Addr)(xs ys:List V)(e other:List Pt)(l m n:List Nat)(_:vs=[.ref a,.ref b])(_:H a=some (.lst xs))(_:H b=some (.lst ys))(_:aH H xs e)(_:aH H ys other)(_:(∀p∈e,aX p))(_:(∀p∈other,aX p))(_:chainOk "" e=true)(_:chainOk "" other=true)(_:e.length+other.length<=30000)(_:az e+az other<=100000)(_:Run l e m)(_:Run l other n)(_:∀(t c d:Addr) (H':Hp) (f w:List V) (ps q:List Pt),aD H H'->H c=none->H d=none->c≠d->H' t=some (.tup [.ref c,.ref d])->H' c=some (.lst f)->H' d=some (.lst w)->aH H' f ps->aH H' w q->Passed e other ps q l m n->Q (.ref t) H')
abbrev wB(C:Addr):List (Str×Sp):=[("sizes",nE),("put_first",Ac C),("share",EK),("neat",qZ)]
abbrev wC(C:Addr):List (Str×Addr×Sp):=[("word",C,pM C),("left",C,mB C),("take",C,nQ C)]
theorem OT{t:List Pt}:(pL (p::t) !="")=true:=by
 cases p<;>rfl
theorem adq{K:Frag}{et:List (Str×Addr)}(T:oX K C):cp (wA) (λE=>aO K (wB C) [] [] (wC C) [("Walk",C,k_ C)] (et:=et) (E:=E)) KJ KI:=by
 intro vs H Q E h;obtain⟨a,b,xs,ys,R,other,l,m,n,rfl,ha,hb,lX,hV,ja,gf,gu,c4,N',EF,rF,kg,q⟩:=h;have lx:=Paired.length lX;have ly:=Paired.length hV;obtain⟨f1,f2⟩:=rF.fits;obtain⟨f3,f4⟩:=kg.fits;refine bQ<|bF<|bx<|bP nE rfl<|aC<|af rfl<|aN ⟨a,xs,R,rfl,ha,lX,ja,gu,by lia,λt1 H1 s1 kZ=>?_⟩
 refine ay<|.inr<|.inl ⟨_,_,_,_,rfl,rfl,aK.of kZ,rfl,?_⟩;refine bx<|bP nE rfl<|aC<|af rfl<|aN ⟨b,ys,other,rfl,s1 _ _ hb,hV.mono<|bV s1,gf,c4,by lia,λt2 H2 s2 mv=>?_⟩
 refine ay<|.inr<|.inl ⟨_,_,_,_,rfl,rfl,aK.of mv,rfl,?_⟩;show ∃k,V.bl (true ^^ decide (V.int (overOf R).sum=V.int (overOf other).sum))=V.bl k/\_;refine⟨_,rfl,?_⟩;rw[rF.over,kg.over,zqT rfl];have mG:=s1.trans s2;refine bW<|we C (k_ C) rfl<|af rfl λw dx hw EG gM=>?_;have s3:aD H2 (upd (upd H2 dx<|.own w) w<|.ins C dx []):=λb o e=>by rw[ax<|aM e hw,ax<|aM e EG];exact e
 have gw:=mG.trans s3;refine⟨w,dx,a,xs,R,rfl,aw,gw _ _ ha,lX.mono<|bV gw,ja,by lia,λL H3 hL a0 b3 f=>⟨rfl,?_⟩⟩
 have fK:aD H H3:=λb o e=>b3 b o (gw b o e) (aM (mG b o e) hw);have fw:H w=none:=mG.free hw;refine bW<|we C (k_ C) rfl<|af rfl λv EL hv J' f0=>?_;have s4:aD H3 (upd (upd H3 EL<|.own v) v<|.ins C EL []):=λb o e=>by rw[ax<|aM e hv,ax<|aM e J'];exact e
 have nW:=fK.trans s4;refine⟨v,EL,b,ys,other,rfl,aw,nW _ _ hb,hV.mono<|bV nW,gf,by lia,λA H5 hM Y' b5 V5=>⟨rfl,?_⟩⟩
 have OU:aD H3 H5:=λb o e=>b5 b o (s4 b o e) (aM e hv);have EM:=fK.trans OU;have fv:H v=none:=fK.free hv;have W5:=f.same OU;obtain⟨_,_,_,Af⟩:=f.ob;have Ag:w≠v:=aM Af hv;refine bW<|eY<|aN ⟨zqZ _,λc hc=>?_⟩;refine bW<|eY<|aN ⟨zqZ _,λd hd=>?_⟩;have gy:c≠d:=λz=>by rw[<-z,aw] at hd;cases hd
 have EN:H5 d=none:=by rw[ax gy.symm] at hd;exact hd
 have fc:H c=none:=EM.free hc;have fd:H d=none:=EM.free EN;have a':∀{H4:Hp}{w' L':Addr}{rs:List Pt},bM C H4 w' L' rs->∃X,H4 L'=some (.lst X):=λ⟨_,X,_,_,_,_,h,_⟩=>⟨X,h⟩;obtain⟨_,OV⟩:=a' W5;obtain⟨_,OW⟩:=a' V5;have lg:c≠L:=(aM OV hc).symm;have EO:c≠A:=(aM OW hc).symm;have jj:d≠L:=(aM OV EN).symm;have ER:d≠A:=(aM OW EN).symm;have s6:aD H5 (upd (upd H5 c<|.lst []) d<|.lst []):=(sameNew hc).trans (sameNew hd);refine z5 (λmm σ S=>∃(u:Option V) (X ws:List V) (r1 Z P I:List Pt) (z1 z2:List At) (l':List Nat),mm=(ar P).length+(ar I).length/\σ=[some (.ref a),some (.ref b),some (.ref w),some (.ref v),some (.ref c),some (.ref d),u]/\aD H S/\S c=some (.lst X)/\S d=some (.lst ws)/\
   aH S X r1/\aH S ws Z/\(∀p∈r1,aX p)/\(∀p∈Z,aX p)/\bM C S w L P/\bM C S v A I/\ar R=z1++ar P/\ar other=z2++ar I/\lu (ar R) (ar other) (ar P) (ar I) z1 z2 (ar r1) (ar Z)/\fit l' (ar P)/\fit l' (ar I)/\
   r1.length+P.length+I.length<=R.length+other.length/\Z.length+P.length+I.length<=R.length+other.length)
  ⟨_,none,[],[],[],[],R,other,[],[],l,rfl,rfl,EM.trans s6,(by rw[ax gy,aw]),aw,.nil,.nil,(λp hp=>by cases hp),(λp hp=>by cases hp),W5.same s6,V5.same s6,rfl,rfl,⟨.nil,λ_ _ h=>h⟩,f1,f3,by simp,by simp⟩ ?_
 rintro mm σ S ⟨u,X,ws,r1,Z,P,I,z1,z2,l',rfl,rfl,pS,iQ,nX,hz,pR,o1,o2,W6,V6,e1,e2,mH,fa,fb,wx,wz⟩;have DZ:=Paired.length hz;have yx:=Paired.length pR;obtain⟨c0,iw,ow,rG⟩:=W6.ob;obtain⟨d0,iv,ov,Ah⟩:=V6.ob;have mE:c≠w:=cA iQ rG (by intro z;cases z)
 have OX:c≠v:=cA iQ Ah (by intro z;cases z)
 have Ad:d≠w:=cA nX rG (by intro z;cases z)
 have OY:d≠v:=cA nX Ah (by intro z;cases z)
 have E':P=[]->I=[]->aE (aO K (wB C) [] [] (wC C) [("Walk",C,k_ C)] (et:=et) (E:=E)) [.ret<|.tup [(.call 3 [.v 4]),(.call 3 [.v 5])]] (Dn Q) [some<|.ref a,some<|.ref b,some<|.ref w,some<|.ref v,some<|.ref c,some<|.ref d,u] S:=by
  rintro rfl rfl;rw[show ar []=[] from rfl,zac] at e1 e2
  subst e1 e2
  simp only[zbf] at wx wz
  have hO:=mH.2 [] [] .nil;rw[zac,zac] at hO;have mH:=mH.1;obtain⟨D,t1,t2⟩:=adp rF kg o1 o2 (by lia) (by lia) EF mH hO
  refine cq<|jh<|aC<|bP qZ rfl<|aC<|af rfl<|aN ⟨c,X,r1,rfl,iQ,hz,by lia,t1,λe H7 h' s7 G h7 x'=>?_⟩
  refine aC<|bP qZ rfl<|aC<|af rfl<|aN ⟨d,ws,Z,rfl,s7 _ _ nX,pR.mono<|bV s7,by lia,t2,λg H8 g' s8 hg h8 v'=>?_⟩
  refine aN ⟨fQ,λt ht=>?_⟩;have s9:=sameNew (o:=.tup [V.ref e,V.ref g]) ht;have q':e≠g:=aM h7 hg;exact q t e g _ h' g' _ _ (pS.trans<|s7.trans<|s8.trans s9) (pS.free G) ((pS.trans s7).free hg) q' aw (s9 _ _<|s8 _ _ h7) (s9 _ _ h8) ((x'.mono<|bV s8).mono<|bV s9) (v'.mono<|bV s9) D
 have b':(P≠ []\/I≠ [])->∃N:St->Hp->Prop,(∀c' H',N c' H'->∃m',m'< (ar P).length+(ar I).length/\∃(u:Option V) (X ws:List V) (r1 Z P I:List Pt) (z1 z2:List At) (l':List Nat),m'=(ar P).length+(ar I).length/\c'=[some (.ref a),some (.ref b),some (.ref w),some (.ref v),some (.ref c),some (.ref d),u]/\aD H H'/\H' c=some (.lst X)/\H' d=some (.lst ws)/\
   aH H' X r1/\aH H' ws Z/\(∀p∈r1,aX p)/\(∀p∈Z,aX p)/\bM C H' w L P/\bM C H' v A I/\ar R=z1++ar P/\ar other=z2++ar I/\lu (ar R) (ar other) (ar P) (ar I) z1 z2 (ar r1) (ar Z)/\fit l' (ar P)/\fit l' (ar I)/\
   r1.length+P.length+I.length<=R.length+other.length/\Z.length+P.length+I.length<=R.length+other.length)/\
   aE (aO K (wB C) [] [] (wC C) [("Walk",C,k_ C)] (et:=et) (E:=E)) [.ite (.cmp .Eq (.aS 0 "word" (.v 2) []) (.c (.str "put"))) [.drop (.call 1 [.v 2,.v 4,.v 5])] [.ite (.cmp .Eq (.aS 0 "word" (.v 3) []) (.c (.str "put"))) [.drop (.call 1 [.v 3,.v 5,.v 4])] [.asg 6 (.blt .min [(.aS 1 "left" (.v 2) []),(.aS 1 "left" (.v 3) [])]),
    .drop (.call 2 [(.aS 2 "take" (.v 2) [.v 6]),(.aS 2 "take" (.v 3) [.v 6]),.v 4,.v 5])]]]
    {{Dn Q with nx:=aE (aO K (wB C) [] [] (wC C) [("Walk",C,k_ C)] (et:=et) (E:=E)) [.ret<|.tup [(.call 3 [.v 4]),(.call 3 [.v 5])]] (Dn Q)} with nx:=N,ct:=N,bk:=aE (aO K (wB C) [] [] (wC C) [("Walk",C,k_ C)] (et:=et) (E:=E)) [.ret<|.tup [(.call 3 [.v 4]),(.call 3 [.v 5])]] (Dn Q)} [some<|.ref a,some<|.ref b,some<|.ref w,some<|.ref v,some<|.ref c,some<|.ref d,u] S:=by
  intro I';refine⟨_,λc' H' z=>z,?_⟩;have OZ:∀{H7:Hp}{x:Addr},H x=none->wq x c d S H7->aD H H7:=λ{H7 x} hx b e o G=>b e o (pS e o G) (aM G hx) (aM G fc) (aM G fd);have O0:∀{H7:Hp}{x:Addr}{C' EJ uR},S x=some (.ins C' EJ uR)->wq x c d S H7->eI S H7:=λ{H7 x C' EJ uR} hx b e vs G=>b e _ G (cA G hx (by intro z;cases z)) (cA G iQ (by intro z;cases z)) (cA G nX (by intro z;cases z))
  have ue:∀{r:List Pt}{x:Pt},(∀p∈r,aX p)->aX x->∀p∈r++[x],aX p:=λ{r x} h hx p hp=>by
   rcases zab.mp hp with z|z
   ·exact h p z
   ·rw[zah.mp z];exact hx
  refine bQ<|bF<|t_ (C:=C) rfl rfl W6<|ay<|wg ⟨_,rfl,?_⟩;by_cases eV:pL P="put"
  ·obtain⟨s,t,rfl⟩:∃s t,P=.put s::t:=by
    cases P with
    |nil=>exact absurd (show(Str.ofString "")="put" from eV) (by decide)
    |cons p t=>
     cases p with
     |put s=>exact⟨s,t,rfl⟩
     |keep n=>exact absurd (show(Str.ofString "keep")="put" from eV) (by decide)
     |cut n=>exact absurd (show(Str.ofString "cut")="put" from eV) (by decide)
   have iu:=W6.ok _ (.head _);refine iT ?_ rfl;refine d5<|bP (Ac C) rfl<|aC<|af rfl<|aC<|af rfl<|aC<|af rfl<|aN ?_
   simp only[zaz] at wx wz
   refine⟨w,L,c,d,s,t,X,ws,rfl,W6,iQ,nX,gy,lg,jj,by lia,by lia,λa1 a2 H7 b7 ES ET EU EV W7=>?_⟩
   have tt:=O0 rG b7;have V7:bM C H7 v A I:=V6.ON b7 iQ nX EO ER Ag.symm ⟨_,_,_,rG⟩;rw[c8] at e1 fa;have c6:=t9 (.put s);have vT:=(kf iu).2;refine⟨_,?_,u,X++[V.ref a1],ws++[V.ref a2],r1++[.put s],Z++[.keep (s.length:Int)],t,I,z1++ba (.put s),z2,l',rfl,rfl,OZ fw b7,ES,ET,aH.snoc (p:=.put s) (hz.mono tt) ⟨a1,rfl,EU⟩,aH.snoc (p:=.keep (s.length:Int)) (pR.mono tt) ⟨a2,rfl,EV⟩,ue o1 iu,ue (x:=.keep (s.length:Int)) o2 (show(1:Int)<= (s.length:Int) by have:1<=s.length:=vT;lia),W7,V7,by rw[e1,zal],e2,?_,(rq _ _ _).mp fa,fb,by simp;lia,by simp;lia⟩
   ·rw[c8,zqA];lia
   ·rw[c8] at mH;have:=lu.seg (b1:=[]) mH (adf s.cps.toList);rw[zac] at this;rw[fm,fm,hX,hX];have ek:ba (.keep (s.length:Int))=rK s.cps.toList.length:=by show rK ((s.length:Int)).toNat=_;rw[zaD,len_list]
    rw[ek];exact this
  ·refine iF ?_ (beq_eq_false_iff_ne.mpr eV);refine bQ<|bF<|t_ (C:=C) rfl rfl V6<|ay<|wg ⟨_,rfl,?_⟩;by_cases fA:pL I="put"
   ·obtain⟨s,t,rfl⟩:∃s t,I=.put s::t:=by
     cases I with
     |nil=>exact absurd (show(Str.ofString "")="put" from fA) (by decide)
     |cons p t=>
      cases p with
      |put s=>exact⟨s,t,rfl⟩
      |keep n=>exact absurd (show(Str.ofString "keep")="put" from fA) (by decide)
      |cut n=>exact absurd (show(Str.ofString "cut")="put" from fA) (by decide)
    have iu:=V6.ok _ (.head _);refine iT ?_ rfl;refine d5<|bP (Ac C) rfl<|aC<|af rfl<|aC<|af rfl<|aC<|af rfl<|aN ?_
    simp only[zaz] at wx wz
    refine⟨v,A,d,c,s,t,ws,X,rfl,V6,nX,iQ,gy.symm,ER,EO,by lia,by lia,λa1 a2 H7 G' ET ES EU EV V7=>?_⟩
    have b7:wq v c d S H7:=λe o G n1 n2 n3=>G' e o G n1 n3 n2;have tt:=O0 Ah b7;have W7:bM C H7 w L P:=W6.ON b7 iQ nX lg jj Ag ⟨_,_,_,Ah⟩;rw[c8] at e2 fb;have c6:=t9 (.put s);have vT:=(kf iu).2;refine⟨_,?_,u,X++[V.ref a2],ws++[V.ref a1],r1++[.keep (s.length:Int)],Z++[.put s],P,t,z1,z2++ba (.put s),l',rfl,rfl,OZ fv b7,ES,ET,aH.snoc (p:=.keep (s.length:Int)) (hz.mono tt) ⟨a2,rfl,EV⟩,aH.snoc (p:=.put s) (pR.mono tt) ⟨a1,rfl,EU⟩,ue (x:=.keep (s.length:Int)) o1 (show(1:Int)<= (s.length:Int) by have:1<=s.length:=vT;lia),ue o2 iu,W7,V7,e1,by rw[e2,zal],?_,fa,(rq _ _ _).mp fb,by simp;lia,by simp;lia⟩
    ·rw[c8,zqA];lia
    ·rw[c8] at mH;have:=lu.p2 (s:=s.cps.toList) (adk W6.ok eV) mH;rw[fm,fm,hX,hX];have ek:ba (.keep (s.length:Int))=rK s.cps.toList.length:=by show rK ((s.length:Int)).toNat=_;rw[zaD,len_list]
     rw[ek];exact this
   ·refine iF ?_ (beq_eq_false_iff_ne.mpr fA);have Ai:∀{p:Pt}{t:List Pt},pL (p::t)≠"put"->∀s,p≠ .put s:=λ{p t} h s z=>by subst z;exact h rfl
    have O2:∀{p:Pt}{t:List Pt},aX p->(∀s,p≠ .put s)-> ¬fit [] (ar (p::t)):=by
     intro p t hp hn hf;have hl:=mD _ _ hf;rw[c8,wb] at hl;have h1:=(kf hp).2;have:dH (ba p)=aU p:=by
      cases p with
      |keep n=>exact wc _
      |put s=>exact absurd rfl (hn s)
      |cut s=>show dH (s.cps.toList.map At.C)=s.length;rw[nS,len_list]
     simp only[zbf] at hl
     lia
    obtain⟨x,t,ex⟩:∃x t,P=x::t:=by
     cases P with
     |cons x t=>exact⟨x,t,rfl⟩
     |nil=>
      exfalso
      have dF:l'=[]:=fa;subst dF;cases I with
      |nil=>rcases I' with z|z<;>exact z rfl
      |cons y t'=>exact O2 (V6.ok y<|.head _) (Ai fA) fb
    subst ex;obtain⟨y,t',ey⟩:∃y t',I=y::t':=by
     cases I with
     |cons y t'=>exact⟨y,t',rfl⟩
     |nil=>
      exfalso
      have dF:l'=[]:=fb;subst dF;exact O2 (W6.ok x<|.head _) (Ai eV) fa
    subst ey;have nx:=Ai eV;have ny:=Ai fA;have O3:=W6.ok x (.head _);have O4:=V6.ok y (.head _);obtain⟨S',R'⟩:=kf O3;obtain⟨P',O'⟩:=kf O4;obtain⟨k,hk⟩:∃k,k=min (aU x) (aU y):=⟨_,rfl⟩;have k1:1<=k:=by lia
    have k2:k<=aU x:=by lia
    have k3:k<=aU y:=by lia
    have f':(if (aU y:Int) < (aU x:Int) then (aU y:Int) else (aU x:Int))=(k:Int):=by split<;>lia
    refine bW<|v8<|aC<|ua (C:=C) rfl rfl W6<|aC<|ua (C:=C) rfl rfl V6<|aN ?_;show aE _ _ _ ([some<|.ref a,some<|.ref b,some<|.ref w,some<|.ref v,some<|.ref c,some<|.ref d,u].set 6 (some<|V.int (if (aU y:Int) < (aU x:Int) then (aU y:Int) else (aU x:Int)))) S
    rw[f'];refine d5<|bP EK rfl<|aC<|ub (C:=C) (k:=k) rfl rfl W6 k1 k2 (λQ' hq=>af rfl hq) λa1 H7 b7 eP U' W7=>?_;have V7:bM C H7 v A (y::t'):=V6.keep λe o G z=>b7 e o G (by
     rcases z with rfl|rfl|⟨_,rfl⟩
     ·exact Ag.symm
     ·obtain⟨_,y'⟩:=a' V6;exact cA y' rG (by intro z;cases z)
     ·exact cA G rG (by intro z;cases z))
    refine aC<|ub (C:=C) (k:=k) rfl rfl V7 k1 k3 (λQ' hq=>af rfl hq) λa2 H8 b8 h_ T' V8=>?_;obtain⟨_,_,_,W'⟩:=W7.ob;obtain⟨_,_,_,Aj⟩:=qx2 V7.ob;have W8:bM C H8 w L (d9 x t k):=W7.keep λe o G z=>b8 e o G (by
     rcases z with rfl|rfl|⟨_,rfl⟩
     ·exact Ag
     ·obtain⟨_,A'⟩:=a' W7;exact cA A' Aj (by intro z;cases z)
     ·exact cA G Aj (by intro z;cases z))
    have O5:=b8 _ _ eP (cA eP Aj (by intro z;cases z))
    have O6:=b8 _ _ (b7 _ _ iQ mE) OX;have O7:=b8 _ _ (b7 _ _ nX Ad) OY;have i':eI S H8:=(b7.uc rG).trans (b8.uc Aj);refine aC<|af rfl<|aC<|af rfl<|aN ?_;have eA:=z7 t k2;have eB:=z7 t' k3;rw[eA] at fa;rw[eB] at fb;obtain⟨la,lb,rfl,g1,g2,g3⟩:=pN _ _ fa;have wo:la.length=k:=by
     rw[mD _ _ g1];have e:=v9 x k k2;cases x with
     |keep n=>exact wc k
     |put s=>exact absurd rfl (nx s)
     |cut s=>
      have e':(⟨(s.cps.toList.take k).toArray⟩:Str).length=k:=e;rw[k9] at e';show dH ((s.cps.toList.take k).map At.C)=k;rw[nS];exact e'
    have k':dH (ba<|aP y k)=k:=by
     have e:=v9 y k k3;cases y with
     |keep n=>exact wc k
     |put s=>exact absurd rfl (ny s)
     |cut s=>
      have e':(⟨(s.cps.toList.take k).toArray⟩:Str).length=k:=e;rw[k9] at e';show dH ((s.cps.toList.take k).map At.C)=k;rw[nS];exact e'
    obtain⟨g4,g5⟩:=Ot fb (by rw[wo,k'])
    have wD:∀{s:Str}{u:List Nat},fit u (ba<|.cut s)->s.cps.toList=u:=by
     intro s u hu;obtain⟨b,rfl⟩:=v5 s.cps.toList u [] (by rw[zac];exact hu)
     have h1:=mD _ _ hu;have e1:dH (ba<|.cut s)=s.cps.toList.length:=nS _;rw[e1,zqA] at h1;have:b=[]:=zaE.mp (by lia)
     rw[this,zac]
    have p':=zU O3 k1 k2;have o':=zU O4 k1 k3
    simp only[zaz] at wx wz
    refine⟨.ref a1,.ref a2,c,d,aP x k,aP y k,X,ws,rfl,⟨a1,rfl,O5⟩,⟨a2,rfl,h_⟩,?_,?_,?_,O6,O7,gy,by lia,by lia,λH9 b9 D' B'=>?_⟩
    ·intro s z;cases x<;>first|exact absurd rfl (nx _)|cases z
    ·intro s z;cases y<;>first|exact absurd rfl (ny _)|cases z
    ·intro s s' z z';rw[z] at g1;rw[z'] at g4;exact jE<|(wD g1).trans (wD g4).symm
    have wF:∀{e:Addr}{o:HO},H8 e=some o->(e=w\/e=L\/e=v\/e=A\/∃vs,o=.tup vs)->H9 e=some o:=by
     intro e o G z;obtain⟨_,b0⟩:=a' W8;obtain⟨_,Z'⟩:=a' V8;obtain⟨_,_,_,V'⟩:=W8.ob;obtain⟨_,_,_,X'⟩:=V8.ob;refine b9 e o G ?_ ?_
     ·rcases z with rfl|rfl|rfl|rfl|⟨vs,rfl⟩
      ·exact mE.symm
      ·exact lg.symm
      ·exact OX.symm
      ·exact EO.symm
      ·exact cA G O6 (by intro z;cases z)
     ·rcases z with rfl|rfl|rfl|rfl|⟨vs,rfl⟩
      ·exact Ad.symm
      ·exact jj.symm
      ·exact OY.symm
      ·exact ER.symm
      ·exact cA G O7 (by intro z;cases z)
    have W9:bM C H9 w L (d9 x t k):=W8.keep λe o G z=>wF G (by
     rcases z with z|z|z
     ·exact .inl z
     ·exact .inr (.inl z)
     ·exact .inr (.inr (.inr (.inr z))))
    have V9:bM C H9 v A (d9 y t' k):=V8.keep λe o G z=>wF G (by
     rcases z with z|z|z
     ·exact .inr (.inr<|.inl z)
     ·exact .inr (.inr<|.inr<|.inl z)
     ·exact .inr (.inr (.inr (.inr z))))
    have Ak:eI S H9:=λe vs G=>wF (i' e vs G) (.inr<|.inr<|.inr<|.inr ⟨vs,rfl⟩);have M':H9 a1=some (.tup [.str (aP x k).word,(aP x k).val]):=wF O5 (.inr<|.inr<|.inr<|.inr ⟨_,rfl⟩);have K':H9 a2=some (.tup [.str (aP y k).word,(aP y k).val]):=wF h_ (.inr<|.inr<|.inr<|.inr ⟨_,rfl⟩);have j':aD H H9:=λe o G=>b9 e o (b8 e o (b7 e o (pS e o G)<|aM G fw)<|aM G fv) (aM G fc) (aM G fd);have u':=Eu t k1 k2;have r':=Eu t' k1 k3;have e0:(d9 x t k).length+(d9 y t' k).length<=t.length+t'.length+1:=by
     have r1:=Et x t k;have Z:=Et y t' k;by_cases hz:k=aU x
     ·have e:d9 x t k=t:=if_pos hz;rw[e];lia
     ·have DM:k=aU y:=by lia
      have e:d9 y t' k=t':=if_pos DM;rw[e];lia
    refine⟨_,Nat.add_lt_add u' r',some<|.int (k:Int),X++(if ND (aP y k) then [V.ref a1] else []),ws++(if ND (aP x k) then [V.ref a2] else []),r1++(if ND (aP y k) then [aP x k] else []),Z++(if ND (aP x k) then [aP y k] else []),d9 x t k,d9 y t' k,z1++ba (aP x k),z2++ba (aP y k),lb,rfl,rfl,j',D',B',?_,?_,?_,?_,W9,V9,by rw[e1,eA,zal],by rw[e2,eB,zal],?_,g2,g5,?_,?_⟩
    ·split
     ·exact aH.snoc (hz.mono Ak) ⟨a1,rfl,M'⟩
     ·rw[zac,zac];exact hz.mono Ak
    ·split
     ·exact aH.snoc (pR.mono Ak) ⟨a2,rfl,K'⟩
     ·rw[zac,zac];exact pR.mono Ak
    ·split
     ·exact ue o1 p'
     ·rw[zac];exact o1
    ·split
     ·exact ue o2 o'
     ·rw[zac];exact o2
    ·rw[fm,fm];rw[eA,eB] at mH;refine lu.seg mH ?_;cases x with
     |put s=>exact absurd rfl (nx s)
     |keep n=>
      have O8:ba (aP (.keep n) k)=rK k:=by show rK ((k:Nat):Int).toNat=_;rw[zaD]
      cases y with
      |put s=>exact absurd rfl (ny s)
      |keep n'=>
       have EW:ba (aP (.keep n') k)=rK k:=by show rK ((k:Nat):Int).toNat=_;rw[zaD]
       rw[show(if ND (aP (.keep n') k)=true then [aP (.keep n) k] else [])=[aP (.keep n) k] from rfl,show(if ND (aP (.keep n) k)=true then [aP (.keep n') k] else [])=[aP (.keep n') k] from rfl,hX,hX,O8,EW]
       exact adg k
      |cut s=>
       rw[show(if ND (aP (.cut s) k)=true then [aP (.keep n) k] else [])=[] from rfl,show(if ND (aP (.keep n) k)=true then [aP (.cut s) k] else [])=[aP (.cut s) k] from rfl,hX,O8]
       have ec:ba (aP (.cut s) k)=la.map At.C:=by
        have:=wD (s:=⟨(s.cps.toList.take k).toArray⟩) g4;show(s.cps.toList.take k).map At.C=_;rw[show s.cps.toList.take k=la from this]
       rw[ec,<-wo];exact adh la
     |cut s=>
      have ec:ba (aP (.cut s) k)=la.map At.C:=by
       have:=wD (s:=⟨(s.cps.toList.take k).toArray⟩) g1;show(s.cps.toList.take k).map At.C=_;rw[show s.cps.toList.take k=la from this]
      cases y with
      |put s=>exact absurd rfl (ny s)
      |keep n'=>
       have EW:ba (aP (.keep n') k)=rK k:=by show rK ((k:Nat):Int).toNat=_;rw[zaD]
       rw[show(if ND (aP (.keep n') k)=true then [aP (.cut s) k] else [])=[aP (.cut s) k] from rfl,show(if ND (aP (.cut s) k)=true then [aP (.keep n') k] else [])=[] from rfl,hX,EW,ec,<-wo]
       exact adi la
      |cut s'=>
       have F':ba (aP (.cut s') k)=la.map At.C:=by
        have:=wD (s:=⟨(s'.cps.toList.take k).toArray⟩) g4;show(s'.cps.toList.take k).map At.C=_;rw[show s'.cps.toList.take k=la from this]
       rw[show(if ND (aP (.cut s') k)=true then [aP (.cut s) k] else [])=[] from rfl,show(if ND (aP (.cut s) k)=true then [aP (.cut s') k] else [])=[] from rfl,ec,F']
       exact adj la
    ·have:(r1++(if ND (aP y k) then [aP x k] else [])).length<=r1.length+1:=by rw[zqA];split<;>simp
     lia
    ·have:(Z++(if ND (aP x k) then [aP y k] else [])).length<=Z.length+1:=by rw[zqA];split<;>simp
     lia
 refine ade<|bF<|t_ (C:=C) rfl rfl W6<|ay<|rD ⟨_,rfl,?_⟩;cases P with
 |cons x t=>exact iT (iT (b'<|.inl (by simp)) rfl) OT
 |nil=>
  refine iF ?_ rfl;refine bF<|t_ (C:=C) rfl rfl V6<|ay<|rD ⟨_,rfl,?_⟩;cases I with
  |cons x t=>exact iT (b'<|.inr (by simp)) OT
  |nil=>exact iF (E' rfl rfl) rfl
end L2.B
namespace L2.B
structure bG (ps:List Pt) (l r:List Nat):Prop where
 ok:∀p∈ps,aX p
 ch:chainOk "" ps=true
 run:Run l ps r
end L2.B
namespace L2
section
variable {Γ:aQ}{D:Ends}{σ:St}{H:Hp}{r:List RS}{Q:VK}{QA:List V->Hp->Prop}{QT:Bool->Hp->Prop}
theorem iW{K:Frag}{b:Bool}{d:Bool->Prop}(h:d b):jW K (.bl b) H d:=h
theorem iy(h:aY Γ a σ H λb H1=>QT (!b) H1):aY Γ (.not a) σ H QT:=h
theorem nY(sp:Sp)(hs:Γ.fs j=sp)(h:bu Γ as σ H λvs H1=>sp vs H1 (λx H2=>jW Γ.K x H2 λb=>QT b H2) Γ.E):aY Γ (.call j as) σ H QT:=by
 subst hs;show bu Γ as σ H λvs H1=>Γ.fs j (vs++[]) H1 (λx H2=>jW Γ.K x H2 λb=>QT b H2) Γ.E;have e:(fun(vs:List V) (H1:Hp)=>Γ.fs j (vs++[]) H1 (λx H2=>jW Γ.K x H2 λb=>QT b H2) Γ.E)=λvs H1=>Γ.fs j vs H1 (λx H2=>jW Γ.K x H2 λb=>QT b H2) Γ.E:=by
  funext vs H1;rw[zac]
 rw[e];exact h
theorem adN(h:aY Γ a σ H λc H1=>if c=true then aY Γ b σ H1 QT else QT false H1):aY Γ (.and [a,b]) σ H QT:=h
end
end L2
namespace L2.B
theorem EX{K:Frag}{l:List V->Hp->Addr->Prop}{t:TE}{lo:Int}(T:n<=1000000)(P:Nat->List V->Hp->Prop)(G:P 0 [] H)
  (f:∀i ys H2,i<n->aD H H2->P i ys H2->∀u:VK,(∀y e,aD H2 e->P (i+1) (ys++[y]) e->u y e)->t (some (.int<|lo+i)::cI σ fv) H2 u)
  (h:∀ys H2 p,aD H H2->P n ys H2->H2 p=none->l ys H2 p):∃d:Nat->Nat->List V->Hp->Prop,(∃m,d 0 m [] H)/\∀i m ys H2,d i m ys H2->
   ((eo lo n).stop i H2/\∀p,H2 p=none->l ys H2 p)\/
   ((eo lo n).go i H2/\∀x e,(eo lo n).iE i H2 x e->jV K none x e λk=>lW none (k.map some++cI σ fv) e λb w=>
    if b=true then t (k.map some++cI σ fv) w λy S=>ys.length<sizeLine/\∃g,g<m/\d (i+1) g (ys++[y]) S else ∃g,g<m/\d (i+1) g ys w):=by
 refine⟨λi m ys H2=>m=n - i/\i<=n/\ys.length=i/\aD H H2/\P i ys H2,⟨_,rfl,zqZ _,rfl,aD.refl _,G⟩,?_⟩;rintro i m ys H2 ⟨rfl,X,N,s,p⟩;by_cases D:i<n
 ·refine .inr ⟨D,?_⟩;rintro x e ⟨rfl,rfl⟩;exact f i ys _ D s p _ λy Z A E=>⟨dh (by lia),n - (i+1),by lia,rfl,D,by simp[N],s.trans A,E⟩
 ·have I:i=n:=by lia
  subst I;exact .inl ⟨zqR _,λq R=>h ys _ q s p R⟩
section
variable {Γ:aQ}{σ:St}{H:Hp}{Q:VK}{QT:Bool->Hp->Prop}{K:Frag}
theorem EY{r:List RE}(h:aY Γ a σ H λc H1=>if c=true then QT true H1 else aY Γ (.or (b::r)) σ H1 QT):aY Γ (.or (a::b::r)) σ H QT:=h
theorem EZ(h:aY Γ a σ H QT):aY Γ (.or [a]) σ H QT:=h
theorem O9{r:List RE}(h:aY Γ a σ H λc H1=>if c=true then aY Γ (.and (b::r)) σ H1 QT else QT false H1):aY Γ (.and (a::b::r)) σ H QT:=h
theorem adO(h:aY Γ a σ H QT):aY Γ (.and [a]) σ H QT:=h
theorem wG(h:ag Γ a σ H λx H1=>cj T x H1 λb=>QT b H1):aY Γ (.ij T a) σ H QT:=by
 have e:∀(q:VK),(fun(x:V) (H1:Hp)=>cj T x H1 λb=>q (.bl b) H1)=λx H1=>oI T [x,.ty T.nm] H1 q:=by
  intro q;simp[oI]
 show ag Γ a σ H λx H1=>oI T [x,.ty T.nm] H1 λv H2=>jW Γ.K v H2 λb=>QT b H2;rw[<-e];exact h
theorem cv{a:Addr}{i:Int}(h:H a=some (.tup xs))(e:gG xs i=some v)(q:Q v H):oJ K d (.ref a) (.int i) H Q:=
 .inr (.inl ⟨_,_,_,_,rfl,rfl,aK.of h,e,q⟩)
theorem Am{y:Int}(q:Q (.bl<|decide<|x=y) H):da K .Eq (.int x) (.int y) H Q:=by
 show Q (.bl<|false ^^ decide (V.int x=V.int y)) H;rw[zaL,show decide (V.int x=V.int y)=decide (x=y) from decide_eq_decide.mpr ⟨λz=>by lia,λz=>by lia⟩];exact q
theorem pT{y:Int}(q:Q (.bl<|!decide (x=y)) H):da K .NotEq (.int x) (.int y) H Q:=by
 show Q (.bl<|true ^^ decide (V.int x=V.int y)) H;rw[zaM,show decide (V.int x=V.int y)=decide (x=y) from decide_eq_decide.mpr ⟨λz=>by lia,λz=>by lia⟩];exact q
theorem iX{i j:Int}(h:Q (.int<|i+j) H):i8 K .Add (.int i) (.int j) H Q:=h
end
end L2.B
namespace L2.B
end L2.B
namespace L2.B
open PySem PySem.StrLaws
def pos(c:Nat):List Nat->Nat->List Nat
 |[],_=>[]
 |d::r,k=>if d=c then k::pos c r (k+1) else pos c r (k+1)
theorem wH(c:Nat):∀(a:List Nat) (k:Nat),(pos c a k).length=a.count c
 |[],k=>rfl
 |d::r,k=>by
  simp only[pos]
  rw[zaU]
  split
  ·rename_i h;subst h;simp[wH d r<|k+1]
  ·rename_i h
   have:(d==c)=false:=by lia
   rw[wH c r<|k+1,this];simp
theorem An(x y:Str)(g:y.length=1)(d l:Nat):∀(n lo:Nat) (b:Array Nat) (f:Nat),f<=lo->
  ((forIn (List.range' lo n) (b,f)<|occBody x y d l).run.fst.toList=b.toList++((List.range' lo n).filter λi=>decide (i+1<=d) && Builtin.Str.subAt x y i).take (l - b.size))
 | 0,lo,b,f,q=>by simp
 |n+1,lo,b,f,q=>by
  rw[List.range'_succ,List.forIn_cons];unfold occBody;rw[g];by_cases p:lo+1<=d/\Builtin.Str.subAt x y lo=true
  ·have e:(decide (lo+1<=d) && Builtin.Str.subAt x y lo)=true:=by lia
   by_cases m:b.size<l
   ·rw[if_pos ⟨⟨⟨m,q⟩,p.1⟩,p.2⟩];have h:=An x y g d l n (lo+1) (b.push lo) (lo+1) (zqR _);unfold occBody at h;rw[g] at h;refine Eq.trans h ?_;rw[zbY (by lia)]
    have k:l - b.size=(l - (b.push lo).size)+1:=by rw[Array.size_push];lia
    rw[k]
    simp
   ·rw[if_neg<|λz=>m z.1.1.1];have h:=An x y g d l n (lo+1) b f (by lia)
    unfold occBody at h;rw[g] at h;refine Eq.trans h ?_;have k:l - b.size=0:=by lia
    rw[k];simp
  ·rw[if_neg<|λz=>p ⟨z.1.2,z.2⟩];have e:¬(decide (lo+1<=d) && Builtin.Str.subAt x y lo)=true:=by
    intro z
    simp at z
    exact p z
   have h:=An x y g d l n (lo+1) b f (by lia)
   unfold occBody at h;rw[g] at h;refine Eq.trans h ?_;rw[zbN (by lia)]
theorem adP(x:Str)(c i:Nat):Builtin.Str.subAt x ⟨#[c]⟩ i=decide (x.cps[i]?=some c):=by
 unfold Builtin.Str.subAt;have e:(⟨#[c]⟩:Str).length=1:=rfl;rw[e]
 by_cases h:i<x.cps.size
 ·have b:x.cps.extract i (i+1)= #[x.cps[i]]:=by
   apply Array.ext
   ·simp;lia
   ·intro j f d
    simp at f d⊢
    have:j=0:=by lia
    subst this;rfl
  rw[b,Array.getElem?_eq_getElem h];by_cases q:x.cps[i]=c
  ·subst q;simp
  ·have:¬(#[x.cps[i]]= #[c]):=λz=>q (by lia)
   simp[q]
 ·have b:x.cps.extract i (i+1)= #[]:=by
   simp;lia
  rw[b,Array.getElem?_eq_none (by lia)]
  simp
theorem O_(c:Nat):∀(l:List Nat) (k:Nat) (p:Nat->Bool),(∀i,i<l.length->p (k+i)=decide (l[i]?=some c))->(List.range' k l.length).filter p=pos c l k
 |[],k,p,h=>rfl
 |d::r,k,p,h=>by
  rw[zaz,List.range'_succ];have g:=by
   have:=h 0 (Nat.zero_lt_succ _)
   simpa using this
  have b:=O_ c r (k+1) p λi f=>by
   have:=h (i+1) (Nat.succ_lt_succ f);rw[show k+1+i=k+(i+1) by lia,this];simp
  by_cases e:d=c
  ·rw[zbY (by lia),b,pos,if_pos e]
  ·rw[zbN (by lia),b,pos,if_neg e]
theorem Pa(x:Str)(c lo l:Nat)(b:lo<=x.length):Builtin.Str.occurrences x ⟨#[c]⟩ lo x.length l=(pos c (x.cps.toList.drop lo) lo).take l:=by
 have h:x.cps.toList.length=x.length:=rfl
 rw[occ_eq,An x _ rfl x.length l _ lo #[] lo (zqR _)]
 have e:x.length+1 - lo=(x.cps.toList.drop lo).length+1:=by rw[zat];lia
 rw[e,List.range'_concat,zbV];rw[O_ c (x.cps.toList.drop lo) lo]
 ·have:¬(lo+1* (x.cps.toList.drop lo).length+1<=x.length):=by lia
  rw[zbN (by lia)]
  simp
 ·intro i d;rw[adP];rw[zqT (show lo+i+1<=x.length by lia),Bool.true_and,zbZ,Array.getElem?_toList]
end L2.B
namespace L2.B
theorem mI{K:Frag}{d:Addr->List (Key×V)->Prop}{a:Addr}{i:Int}(h:H a=some (.lst xs))(e:gG xs i=some v)(q:Q v H):oJ K d (.ref a) (.int i) H Q:=
 .inl ⟨_,_,_,_,rfl,rfl,aB.of h,e,q⟩
inductive jI(vs:List V)(H:Hp)(Q:VK)(E:XK):Prop|i(i lo h:_)(_:vs=[.int i,.int lo,.int h])(_:lo<=i)(_:i<=h)(_:Q (.bl true) H)
end L2.B
namespace L2
theorem pU{p:b->Prop}:∀x∈ ([]:List b),p x:=nofun
theorem pV{p:b->Prop}{a:b}{l:List b}(h:p a)(t:∀x∈l,p x):∀x∈a::l,p x:=List.forall_mem_cons.2 ⟨h,t⟩
section
variable {P:Program}{w:World}{K:Frag}{mg:Str->Option Value}{base:Heap}{k:Nat}
theorem dE.weak{f:Addr}{g:FuncData}{ps:List Str}{a b:Sp}(A:dE P w K mg base CX k f g ps b)(h:∀vs H Q E,a vs H Q E->b vs H Q E):dE P w K mg base CX k f g ps a:=
 ⟨λvs H Q E q=>A.len vs H Q E<|h _ _ _ _ q,λD d s H e u vs Q E p x t l m=>A.run D d s H e u vs Q E p x t l<|h _ _ _ _ m⟩
theorem l7.weak{a b:Sp}(T:l7 P w K mg base k x b)(h:∀vs H Q E,a vs H Q E->b vs H Q E):l7 P w K mg base k x a:=by
 obtain⟨f,e,ps,d,r⟩:=T;exact⟨f,e,ps,d.weak h,r⟩
theorem l9.weak{a b:Sp}(T:l9 P w K mg base k (x,C,b))(h:∀vs H Q E,a vs H Q E->b vs H Q E):l9 P w K mg base k (x,C,a):=by
 obtain⟨c,f,e,ps,m,d,r⟩:=T;exact⟨c,f,e,ps,m,d.weak h,r⟩
open PySem.W in
theorem adQ{x:Str}(X:K.In base)(G:base.Ns mainGlobals mg)(e:nsIn K mainGlobals x=some (some<|.ref C))(q:excIn K C [.type "ValueError",.type "Exception",.type "BaseException",.type "object"] "ValueError.__new__"=true):zi mg base (x,C):=by
 refine⟨_,_,_,_,⟨mg_of X G e,?_⟩,PySem.F.excBase_ValueError⟩;unfold excIn at q
 split at q
 ·rename_i dd cd sl ho
  split at q
  ·rename_i C' bm k0 k1 k2 k3 n k5 hm hs
   simp only[zag,beq_iff_eq,zaZ] at q
   obtain⟨⟨⟨⟨⟨rfl,rfl⟩,Pb⟩,ht⟩,aG⟩,yW⟩:=q;obtain⟨nm,bs,mro,ns,qn,hd,sn,sub,ab,col,del⟩:=cd
   dsimp only at hm Pb aG yW
   subst hm Pb;obtain⟨sl⟩:=sl;have aV:sl=_:=hs;subst aV;exact⟨bm,ns,nm,qn,bs,hd,sn,sub,ab,col,dd,k0,k1,k2,k3,k5,_,X _ _ ho,.of_isNs<|isNs_of_in X aG,nsMap_none_of_in X aG yW,tail_of_in X ht⟩
  ·cases q
 ·cases q
end
end L2
namespace L2.B
def adR(v:V)(lo h:Int)(H:Hp):Prop:=t6 v H\/∃i,v=.int i/\(i<lo\/h<i)
inductive Pc(vs:List V)(H:Hp)(Q:VK)(E:XK):Prop|i(v:V)(lo h:Int)(_:vs=[v,.int lo,.int h])(_:((∃i,v=.int i/\lo<=i/\i<=h/\Q (.bl true) H)\/(adR v lo h H/\Q (.bl false) H)))
theorem adS{K:Frag}:cp (Pc) (λE=>aO K [("is_whole",v7)] [] (E:=E)) Ku Kt:=by
 intro vs H Q E h;have d:∀(i l f:Int) (b:Bool) (H:Hp),decide (l<=i/\i<=f)=b->Q (.bl b) H->ag (aO K [("is_whole",v7)] []) (.vq .LtE .LtE (.v 1) (.v 0)<|.v 2) [some<|.int i,some<|.int l,some<|.int f] H Q:=by
  intro i l f b H m q;refine⟨_,rfl,_,rfl,trivial,_,rfl,gK (λg=>?_)<|λg=>?_⟩
  ·refine⟨_,rfl,trivial,?_⟩;have e:decide (i<=f)=b:=by lia
   show Q (.bl<|decide<|i<=f) H;rw[e];exact q
  ·have e:b=false:=by lia
   rw[e] at q
   first
    |exact q
    | (rw[e2];exact q)
 obtain⟨v,l,f,rfl,⟨i,rfl,g,p,q⟩|⟨k|⟨i,rfl,m⟩,q⟩⟩:=h
 ·exact⟨_,rfl,_,rfl,.inl ⟨i,rfl,_,rfl,gJ<|d i l f true H (by lia) q⟩⟩
 ·exact⟨_,rfl,_,rfl,.inr ⟨k,_,rfl,iI q⟩⟩
 ·exact⟨_,rfl,_,rfl,.inl ⟨i,rfl,_,rfl,gJ<|d i l f false H (by lia) q⟩⟩
theorem adT(h:jI vs H Q E):Pc vs H Q E:=by
 obtain⟨i,l,b,rfl,e,d,q⟩:=h;exact⟨_,l,b,rfl,.inl ⟨i,rfl,e,d,q⟩⟩
end L2.B
namespace L2.N
open PySem PySem.Spec PyProof.Rows L2.B
end L2.N
namespace L2.N
open PySem PySem.Spec L2.B
theorem dJ{r:List RS}(h:aE Γ r D σ H):aE Γ [] {D with nx:=aE Γ r D} σ H:=h
section
variable {Γ:aQ}{D:Ends}{σ:St}{H:Hp}{r:List RS}{Q:VK}
theorem Ao(A b:VK)(p:∀v H1,A v H1↔b v H1)(h:ag Γ x σ H A):ag Γ x σ H b:=by
 have:=funext λx=>funext λH1=>propext (p x H1);rw[<-this];exact h
theorem Aq{b:RE}(C:Addr)(sp:Sp)(d:Γ.ms j=(C,sp))(h:ag Γ o σ H λx H1=>∃p e f,x=.ref p/\H1 p=some (.ins C e f)/\f.lookup m=none/\ag Γ a σ H1 λy H2=>ag Γ b σ H2 λz g=>sp [x,y,z] g Q Γ.E):ag Γ (.aS j m o [a,b]) σ H Q:=by
 show mY (Γ.ms j).1 m (Γ.ms j).2 [] Γ.E (ag Γ o) (bu Γ [a,b]) σ H Q;rw[d];exact h
theorem iz(h:ag Γ x σ H λv H1=>qy Γ.K v H1 λn=>Q (.int n) H1):ag Γ (.blt .len [x]) σ H Q:=h
variable {QT:Bool->Hp->Prop}
theorem Pd(C:Addr)(sp:Sp)(m:Γ.kt j=(C,sp))(h:ag Γ a σ H λy e=>ag Γ b σ e λz H1=>∀x d,H1 x=none->H1 d=none->d≠x->sp [.ref x,y,z] (upd (upd H1 d<|.own x) x<|.ins C d []) (λv H2=>v=.av/\Q (.ref x) H2) Γ.E):ag Γ (.make j [a,b]) σ H Q:=by
 show yp (Γ.kt j).1 (Γ.kt j).2 [] Γ.E (bu Γ [a,b]) σ H Q;rw[m];exact h
theorem dn{f:Str}(h:ag Γ e σ H λv H1=>ag Γ o σ H1 λx H2=>∃a C d b,x=.ref a/\H2 a=some (.ins C d b)/\e9 Γ.K C/\eE Γ.K C f/\b.length<1000/\aE Γ r D σ (upd H2 a<|.ins C d<|aI f v b)):aE Γ (.bS o f e::r) D σ H:=h
end
theorem Ar{r d:List RS}{x:RE}(h:ag Γ x σ H λv H1=>∃a,v=.ref a/\(∃xs,aB Γ.K H1 a xs)/\∃b:Nat->Nat->St->Hp->Prop,(∃m,b 0 m σ H1)/\∀j m σ H,b j m σ H->
  ((ky Γ.K a).stop j H/\({D with nx:=aE Γ r D}:Ends).nx σ H)\/((ky Γ.K a).go j H/\∃N:St->Hp->Prop,(∀e H',N e H'->∃g,g<m/\b (j+1) g e H')/\∀x H',(ky Γ.K a).iE j H x H'->gE i x σ H' λf H2=>aE Γ d {({D with nx:=aE Γ r D}:Ends) with nx:=N,ct:=N,bk:=({D with nx:=aE Γ r D}:Ends).nx} f H2)):
  aE Γ (.jy i .list [x] d::r) D σ H:=Ao _ _ (λ_ _=>Iff.rfl) h
section
variable {Γ:aQ}{D:Ends}{σ:St}{H:Hp}{r:List RS}{Q:VK}
theorem As{i:Int}(h:Q (.int<|-i) H):ag Γ (.neg<|.c<|.int i) σ H Q:=h
theorem Pe{e:RE}(h:ag Γ e σ H λv H1=>ag Γ o σ H1 λx H2=>ag Γ b σ H2 λy f=>yv x y v f λd=>aE Γ r D σ d):aE Γ (.set o b e::r) D σ H:=h
end
theorem E1(h:aX p):jf p:=by
 cases p with
 |keep n=>trivial
 |put s=>exact h.1.2
 |cut s=>exact h.1.2
section
variable {Γ:aQ}{D:Ends}{σ:St}{H:Hp}{r:List RS}{Q:VK}
theorem adU{lo e:RE}(h:ag Γ a σ H λx H1=>ag Γ lo σ H1 λi H2=>∃d:Int,i=.int d/\ag Γ e σ H2 λj f=>∃b:Int,j=.int b/\sX Γ.K x (some d) (some b) f Q):ag Γ (.sl a (some lo)<|some e) σ H Q:=h
theorem E2{x:RE}(h:ag Γ x σ H λv H1=>∃n:Int,[v]=[.int n]/\ -(2 ^ 62)<=n/\n<2 ^ 62/\∃b:Nat->Nat->St->Hp->Prop,(∃m,b 0 m σ H1)/\∀j m σ H,b j m σ H->
  ((eo 0 n.toNat).stop j H/\({D with nx:=aE Γ r D}:Ends).nx σ H)\/((eo 0 n.toNat).go j H/\∃N:St->Hp->Prop,(∀d H',N d H'->∃g,g<m/\b (j+1) g d H')/\∀x H',(eo 0 n.toNat).iE j H x H'->gE i x σ H' λf H2=>aE Γ e {({D with nx:=aE Γ r D}:Ends) with nx:=N,ct:=N,bk:=({D with nx:=aE Γ r D}:Ends).nx} f H2)):
  aE Γ (.jy i .fS [x] e::r) D σ H:=Ao _ _ (λ_ _=>Iff.rfl) h
theorem Pf{w:Str}{e:RE}(d:σ[i]?=some (some<|.ref f))(g:H f=some (.lst ys))(h:ag Γ e σ H λv H1=>2<=sizeLine/\∀t,H1 t=none->∃b,upd H1 t (.tup [.str w,v]) f=some (.lst b)/\b.length<sizeLine/\aE Γ r D σ (upd (upd H1 t<|.tup [.str w,v]) f<|.lst<|b++[.ref t])):
  aE Γ (.drop (.bE .append (.v i) [(.tup [(.c<|.str w),e])])::r) D σ H:=
 d5 (iU<|af d ⟨.inl ⟨rfl,_,aB.of g⟩,jh<|aC<|ay<|aC<|Ao _ _ (λ_ _=>Iff.rfl) h⟩)
end
theorem push{p:Pt}{w:Str}{R:Hp->Prop}(s:aD H H1)(h:H d=some (.lst ys))(m:aH H ys ps)(I:ps.length<=900000)(D:p.word=w)(E:p.val=v)(k:∀H' q,aR d H H'->H' d=some (.lst q)->aH H' q (ps++[p])->R H'):
  2<=sizeLine/\∀t,H1 t=none->∃f,upd H1 t (.tup [.str w,v]) d=some (.lst f)/\f.length<sizeLine/\R (upd (upd H1 t<|.tup [.str w,v]) d<|.lst<|f++[.ref t]):=by
 refine⟨by decide,λt g=>?_⟩
 have l:=s.trans (sameNew (o:=.tup [.str w,v]) g);have G:=Paired.length m;have u:aR d H (upd (upd H1 t<|.tup [.str w,v]) d<|.lst<|ys++[.ref t]):=λb o e A=>by rw[ax A];exact l _ _ e
 have x:t≠d:=λz=>by rw[z,s _ _ h] at g;cases g
 refine⟨ys,l _ _ h,dh (by lia),k _ _ u aw ?_⟩
 exact B.Paired.app (m.mono<|u.dS h)<|.cons ⟨t,rfl,by rw[ax x,aw,D,E]⟩ .nil
theorem nZ{K:Frag}{i j:Int}(h:Q (.int<|i - j) H):i8 K .Sub (.int i) (.int j) H Q:=⟨trivial,h⟩
theorem ltI{K:Frag}{x y:Int}(q:Q (.bl<|decide<|x<y) H):da K .Lt (.int x) (.int y) H Q:=⟨trivial,q⟩
section
variable {K:Frag}{H:Hp}{Q:VK}{Γ:aQ}{σ:St}{D:Ends}
theorem uf{r:List RE}(h:ag Γ a σ H λx H1=>∃c,x=.bl c/\if c=true then ag Γ (.and (b::r)) σ H1 Q else Q (.bl false) H1):ag Γ (.and (a::b::r)) σ H Q:=h
theorem E3(h:ag Γ a σ H Q):ag Γ (.and [a]) σ H Q:=h
end
end L2.N
namespace L2.Pg
open PySem PySem.W PyProof.Rows
section
variable {n:Nat}{lt:Nat->Nat->Bool}{p:Array Nat}
variable {cmp:Nat->Nat->(Bool->Shared->Prop)->Shared->Prop}{R:Shared->Prop}
end
end L2.Pg
namespace L2
open PySem PySem.Spec PyProof.Rows PySem.W L2.Pg
end L2
namespace L2
end L2
namespace L2.B
end L2.B
namespace L2.N
open PySem PySem.Spec L2.B
theorem Ph(h:ag Γ a σ H λx H1=>ag Γ d σ H1 λj e=>∃b:Int,j=.int b/\sX Γ.K x none (some b) e Q):ag Γ (.sl a none<|some d) σ H Q:=h
theorem adV(xs:List V)(n:Nat):gF xs none (some (n:Int))=xs.take n:=by
 unfold gF;rw[HT.BX,HT.mZ];rw[zbh,Nat.sub_zero];by_cases h:n<=xs.length
 ·rw[Nat.min_eq_left h]
 ·rw[Nat.min_eq_right (by lia),zaI<|zqR _,zaI (by lia)]
section
variable {K:Frag}
theorem adW(j:Str)(c:Nat):(!(Builtin.Str.occurrences j ⟨#[c]⟩ 0 j.length 1).isEmpty)=j.cps.contains c:=by
 rw[Pa j c 0 1<|zqZ _,zbh];have h:=wH c j.cps.toList 0;have e:j.cps.contains c=decide (0<j.cps.toList.count c):=by
  simp
 rw[e];cases p:pos c j.cps.toList 0 with
 |nil=>rw[p] at h;rw[<-h];rfl
 |cons a r=>rw[p] at h;rw[<-h];simp
end
theorem Au{R:b->d->Prop}:∀{xs:List b}{ys:List d}{i:Nat}{x:b},Paired R xs ys->xs[i]?=some x->∃y,ys[i]?=some y/\R x y:=by
 intro _ _ i _ p h;induction p generalizing i with
 |nil=>simp at h
 |cons a r k=>cases i with|zero=>cases h;exact⟨_,rfl,a⟩|succ i=>exact k (by simpa using h)
theorem E4{b:Type}{l:List b}{i:Nat}{x:b}(h:l[i]?=some x):l.take (i+1)=l.take i++[x]:=by
 rw[List.take_succ_eq_append_getElem ((zad.mp h).1),(zad.mp h).2]
section
variable {K:Frag}
end
end L2.N
namespace L2.B
end L2.B
namespace L2.N
open PySem PySem.Spec L2.B
section
variable {K:Frag}
end
end L2.N
namespace L2
end L2
namespace L2.N
open PySem PySem.Spec L2.B
section
variable {Γ:aQ}{σ:St}{n:Nat}{H0:Hp}
theorem Pj{lo:RE}(h:ag Γ a σ H λx H1=>ag Γ lo σ H1 λj d=>∃b:Int,j=.int b/\sX Γ.K x (some b) none d Q):ag Γ (.sl a (some lo) none) σ H Q:=h
theorem adX(xs:List V)(i:Nat):gF xs (some (i:Int)) none=xs.drop i:=by
 unfold gF;rw[HT.mZ,HT.BX];by_cases z:i<=xs.length
 ·rw[Nat.min_eq_left z,zaI (by simp)]
 ·rw[Nat.min_eq_right (by lia),List.drop_eq_nil_of_le<|zqR _,List.drop_eq_nil_of_le (by lia),zbC]
end
theorem Pk{R:d->b->Prop}:∀{xs:List d}{ys:List b} (k:Nat),Paired R xs ys->Paired R (xs.take k) (ys.take k):=by
 intro _ _ n p;induction p generalizing n with
 |nil=>cases n<;>exact .nil
 |cons r t k=>cases n with|zero=>exact .nil|succ n=>exact .cons r (k n)
theorem Pl{R:d->b->Prop}:∀{xs:List d}{ys:List b} (k:Nat),Paired R xs ys->Paired R (xs.drop k) (ys.drop k):=by
 intro _ _ n p;induction p generalizing n with
 |nil=>cases n<;>exact .nil
 |cons r t k=>cases n with|zero=>exact .cons r t|succ n=>exact k n
end L2.N
namespace L2.B
theorem Pm(h:s≠""):1<=s.length:=by
 obtain⟨c,r,e⟩:=jg h;rw[len_list,e];simp
theorem E6:∀(ps:List Pt) (w:Str),chainOk w ps=true->(∀p∈ps,aX p)->ps.length<=2*az ps+1/\(w="keep"->ps.length<=2*az ps):=by
 intro p;induction p with
 |nil=>exact λ_ _ _=>⟨zqZ _,λ_=>zqZ _⟩
 |cons p ps i=>
  intro w h d;simp only[chainOk,zag] at h
  have b:=d p (.head _);obtain⟨k,e⟩:=i p.word h.2 λq f=>d q (.tail _ f);have t:az (p::ps)=dX p+az ps:=rfl
  rw[zaz];cases p with
  |keep n=>
   have:=e rfl;exact⟨by lia,λz=>absurd z<|N5 h.1⟩
  |put s=>have g:1<=dX (.put s):=Pm b.2;exact⟨by lia,λ_=>by lia⟩
  |cut s=>have g:1<=dX (.cut s):=Pm b.2;exact⟨by lia,λ_=>by lia⟩
end L2.B
namespace L2
end L2
namespace L2.B
end L2.B
namespace L2.N
end L2.N
namespace L2.N
open PySem PySem.Spec L2.B
end L2.N
namespace L2
end L2
namespace L2.N
open PySem PySem.Spec L2.B
end L2.N
namespace L2.B
end L2.B
namespace L2.N
open PySem PySem.Spec L2.B
end L2.N
namespace L2.B
end L2.B
namespace L2.N
open PySem PySem.Spec L2.B
section
variable {K:Frag}
theorem adY{z:Int}{k:Bool->Prop}(q:k (T==.int)):cj T (.int z) H k:=q
theorem adZ{P:List V->Hp->Addr->Prop}{A:TE}{D:TT}{a:Addr}(f:V->Bool)(h:H a=some (.lst xs))(hl:xs.length<=1000000)
  (u:∀(x:V) (k:Bool->Hp->Prop),x∈xs->k (f x) H->D (some x::cI σ fv) H k) (t:∀(x:V) (k:VK),x∈xs->k x H->A (some x::cI σ fv) H k)
  (l:∀p,H p=none->P (xs.filter f) H p):∃d:Nat->Nat->List V->Hp->Prop,(∃m,d 0 m [] H)/\∀i m ys H2,d i m ys H2->
   ((ky K a).stop i H2/\∀p,H2 p=none->P ys H2 p)\/
   ((ky K a).go i H2/\∀x g,(ky K a).iE i H2 x g->jV K none x g λw=>lW (some D) (w.map some++cI σ fv) g λb S=>
    if b=true then A (w.map some++cI σ fv) S λy H6=>ys.length<sizeLine/\∃e,e<m/\d (i+1) e (ys++[y]) H6 else ∃e,e<m/\d (i+1) e ys S):=by
 refine⟨λi m ys H2=>m=xs.length - i/\i<=xs.length/\ys=(xs.take i).filter f/\H2=H,⟨_,rfl,zqZ _,rfl,rfl⟩,?_⟩;rintro i m ys H2 ⟨rfl,hi,rfl,rfl⟩;by_cases N:i<xs.length
 ·refine .inr ⟨⟨xs,xs[i],aB.of h,by simp⟩,?_⟩
  rintro x g ⟨rfl,X⟩;have R:=X xs (aB.of h);have E:=zan R;have I:(xs.take<|i+1).filter f=(xs.take i).filter f++[x].filter f:=by rw[E4 R,zbV]
  refine u x _ E ?_;cases G:f x with
  |true=>
   refine iT (t x _ E ⟨dh ?_,xs.length - (i+1),by lia,rfl,N,?_,rfl⟩) rfl
   ·have:=zbU f (xs.take i);rw[zaA] at this;lia
   ·rw[I];simp[G]
  |false=>
   refine iF ⟨xs.length - (i+1),by lia,rfl,N,?_,rfl⟩ rfl
   rw[I];simp[G]
 ·have T:i=xs.length:=by lia
  subst T;refine .inl ⟨⟨xs,aB.of h,zqR _⟩,λq Z=>?_⟩;rw[zaI<|zqR _];exact l q Z
end
end L2.N
namespace L2.fG
open PySem PySem.Spec L2.B L2.N
def rH(c:Nat):List (List Nat)->List (List Nat)
 |[]=>[[c]]
 |p::ps=>(c::p)::ps
def gp:List At->List (List Nat)×List (Option Nat)
 |[]=>([[]],[])
 |.P c::xs=>(rH c (gp xs).1,(gp xs).2)
 |.K::xs=>([]::(gp xs).1,none::(gp xs).2)
 |.C c::xs=>([]::(gp xs).1,some c::(gp xs).2)
theorem rJ:∀xs:List At,∃p ps,(gp xs).1=p::ps
 |[]=>⟨_,_,rfl⟩
 |.P c::xs=>by
  obtain⟨p,ps,e⟩:=rJ xs;exact⟨c::p,ps,by show rH c (gp xs).1=_;rw[e];rfl⟩
 |.K::xs=>⟨_,_,rfl⟩
 |.C c::xs=>⟨_,_,rfl⟩
def E7:Option (Option Nat)->Option (Option Nat)->List At
 |some none,some none=>[.K]
 |some none,some (some c)=>[.C c]
 |_,_=>[]
def ug(m p:List Nat)(a b:Option (Option Nat)):List At:=rK m.length++(p.map .P++E7 a b)
def mg:List (List Nat)->List (List Nat)->List (Option Nat)->List (Option Nat)->List At
 |m::ms,p::ps,b,l=>ug m p b.head? l.head?++mg ms ps b.tail l.tail
 |_,_,_,_=>[]
theorem ad1{c:Nat}{p:List (List Nat)}{ms:List (List Nat)}{b l:List (Option Nat)}(d:ms≠ [])(h:p≠ []):mg (rH c ms) p b l=.K::mg ms p b l:=by
 match ms,p,d,h with
 |m::ms,p::ps,_,_=>
  rfl
theorem Po{xs ys f:List At}(h:c9 xs ys f ts):ts=mg (gp xs).1 (gp ys).1 (gp xs).2 (gp ys).2:=by
 induction h with
 |nil=>rfl
 | @p1 c xs ys f ts _ b=>
  obtain⟨p,ps,e⟩:=rJ xs;obtain⟨q,k,g⟩:=rJ ys;show _=mg (rH c (gp xs).1) (gp ys).1 (gp xs).2 (gp ys).2;rw[ad1 (by lia) (by lia),<-b]
 | @p2 c xs ys f ts l _ b=>
  obtain⟨q,k,g⟩:=rJ ys;obtain⟨m,e⟩:∃m,(gp xs).1=[]::m:=by
   cases xs with
   |nil=>exact⟨_,rfl⟩
   |cons a xs=>
    cases a with
    |P d=>exact absurd rfl (l d xs)
    |K=>exact⟨_,rfl⟩
    |C d=>exact⟨_,rfl⟩
  show _=mg (gp xs).1 (rH c (gp ys).1) (gp xs).2 (gp ys).2;rw[b,e,g];rfl
 |kk _ b=>rw[b];rfl
 |kc _ b=>rw[b];rfl
 |ck _ b=>rw[b];rfl
 |cc _ b=>rw[b];rfl
def rL:Option (Option Nat)->Option (Option Nat)->List Pt
 |some none,some none=>[.keep 1]
 |some none,some (some c)=>[.cut ⟨#[c]⟩]
 |_,_=>[]
def wI(m p:List Nat)(a b:Option (Option Nat)):List Pt:=[.keep (m.length:Nat),.put ⟨p.toArray⟩]++rL a b
def uh:List (List Nat)->List (List Nat)->List (Option Nat)->List (Option Nat)->List Pt
 |m::ms,p::ps,b,l=>wI m p b.head? l.head?++uh ms ps b.tail l.tail
 |_,_,_,_=>[]
theorem Pp(a b:Option (Option Nat)):ar (rL a b)=E7 a b:=by
 cases a with
 |none=>rfl
 |some a=>
  cases a with
  |some c=>rfl
  |none=>
   cases b with
   |none=>rfl
   |some b=>cases b<;>rfl
theorem ad2(m p:List Nat)(a b:Option (Option Nat)):ar (wI m p a b)=ug m p a b:=by
 unfold wI ug;rw[fm,Pp,<-zal]
 congr 1
 show rK (m.length:Int).toNat++(((⟨p.toArray⟩:Str).cps.toList.map At.P)++[])=_;rw[zac,zaD]
theorem E8:∀(ms ps:List (List Nat)) (b l:List (Option Nat)),ar (uh ms ps b l)=mg ms ps b l
 |[],_,_,_=>rfl
 |_::_,[],_,_=>rfl
 |m::ms,p::ps,b,l=>by
  show ar (wI m p b.head? l.head?++uh ms ps b.tail l.tail)=_;rw[fm,ad2,E8 ms ps];rfl
theorem Av{xs ys d:List At}(h:c9 xs ys d ts):∀a:At,a≠ .K->a∈ts->a∈ys:=by
 induction h with
 |nil=>exact λa _ h=>h
 |p1 _ b=>
  intro a n h;rcases zaa.mp h with h|h
  ·exact absurd h n
  ·exact b a n h
 |p2 _ _ b=>
  intro a n h;rcases zaa.mp h with h|h
  ·rw[h];exact .head _
  ·exact .tail _ (b a n h)
 |kk _ b=>
  intro a n h;rcases zaa.mp h with h|h
  ·exact absurd h n
  ·exact .tail _ (b a n h)
 |kc _ b=>
  intro a n h;rcases zaa.mp h with h|h
  ·rw[h];exact .head _
  ·exact .tail _ (b a n h)
 |ck _ b=>exact λa n h=>.tail _ (b a n h)
 |cc _ b=>exact λa n h=>.tail _ (b a n h)
theorem Pq{xs ys d:List At}(h:c9 xs ys d ts):cnt ts<=cnt ys:=by
 induction h with
 |nil=>exact zqR _
 |p1 _ b=>exact b
 |p2 _ _ b=>exact Nat.succ_le_succ b
 |kk _ b=>exact b
 |kc _ b=>exact Nat.succ_le_succ b
 |ck _ b=>exact b
 |cc _ b=>exact Nat.le_succ_of_le b
theorem ui{a:At}(h:p∈ps)(b:a∈ba p):a∈ar ps:=by
 exact zbM.mpr ⟨_,zbj h,b⟩
theorem uj(h:∀p∈ps,aX p){c:Nat}(b: .P c∈ar ps\/ .C c∈ar ps):SG.cps.contains c=true:=by
 have m:∀a:At,(a=.P c\/a=.C c)->a∈ar ps->SG.cps.contains c=true:=λa g u=>by
  obtain⟨l,t,E⟩:=zbM.mp u;obtain⟨p,q,rfl⟩:=zai.mp t;have k:=h p q;cases p with
  |keep n=>
   have:=List.eq_of_mem_replicate (show a∈rK n.toNat from E)
   rcases g with rfl|rfl<;>cases this
  |put s=>
   obtain⟨d,f,rfl⟩:=zai.mp (show a∈s.cps.toList.map At.P from E)
   rcases g with e|e<;>cases e
   exact k.1.2 _ f
  |cut s=>
   obtain⟨d,f,rfl⟩:=zai.mp (show a∈s.cps.toList.map At.C from E)
   rcases g with e|e<;>cases e
   exact k.1.2 _ f
 rcases b with b|b
 ·exact m _ (.inl rfl) b
 ·exact m _ (.inr rfl) b
theorem E_:∀(ms ps:List (List Nat)) (b l:List (Option Nat)) (n:Int),.keep n∈uh ms ps b l->0<=n:=by
 intro m;induction m with
 |nil=>intro p _ _ n h;cases p<;>cases h
 |cons m ms i=>
  intro p b l n h;cases p with|nil=>cases h|cons p ps=>?_
  rcases zab.mp (show Pt.keep n∈wI m p b.head? l.head?++uh ms ps b.tail l.tail from h) with h|h
  ·rcases zab.mp (show Pt.keep n∈ [.keep (m.length:Nat),.put ⟨p.toArray⟩]++rL b.head? l.head? from h) with h|h
   ·simp only[zaa,zaf,or_false] at h
    rcases h with h|h
    ·cases h;lia
    ·cases h
   ·unfold rL at h
    split at h
    ·simp at h;cases h;decide
    ·simp only[zaa,zaf,or_false] at h;cases h
    ·cases h
  ·exact i ps _ _ n h
abbrev fo(e other:List Pt):List Pt:=uh (gp<|ar e).1 (gp<|ar other).1 (gp<|ar e).2 (gp<|ar other).2
theorem Pr{l m n:List Nat}(t:∀p∈other,aX p)(P:Passed e other ps A l m n)(K:az other<=100000):fJ (fo e other)=A/\az (fo e other)<=az other:=by
 obtain⟨I,ts,h,N,G⟩:=P.OR;have x:ar (fo e other)=ts:=by rw[E8,<-(Po h)]
 have u:=by
  have d:=Pq h;rw[<-x,lq,lq] at d;exact d
 have w:∀p∈fo e other,gO p:=λp k=>by
  have b:∀s:Str,(p=.put s\/p=.cut s)->s.length<=az (fo e other):=λs g=>by
   have:=zL k;rcases g with rfl|rfl<;>exact this
  have q:∀s:Str,(p=.put s\/p=.cut s)->∀c∈s.cps.toList,SG.cps.contains c=true:=λs g c d=>by
   rcases g with rfl|rfl
   ·have f:=ui k (zbj d);rw[x] at f;exact uj t<|.inl<|Av h _ (by lia) f
   ·have f:=ui k (zbj d);rw[x] at f;exact uj t<|.inr<|Av h _ (by lia) f
  cases p with
  |keep n=>exact E_ _ _ _ _ n k
  |put s=>have:=b s (.inl rfl);exact⟨⟨by lia,q s<|.inl rfl⟩,by lia⟩
  |cut s=>have:=b s (.inr rfl);exact⟨⟨by lia,q s<|.inr rfl⟩,by lia⟩
 obtain⟨E,D,_⟩:=pG _ w (by lia)
 refine⟨Eh _ _ "" "" E P.ch2 D P.ok2 ?_,u⟩;rw[<-vY _ w,pJ _ λp h=>tW (w p h),x,G]
theorem Pu(v:V):∀n:Nat,(List.replicate n [v]).flatten=List.replicate n v
 :=by simp
section
variable {K:Frag}{H H':Hp}{Q:VK}{Γ:aQ}{σ:St}{i j:Int}
theorem rM(h:0<j)(q:Q (.int<|i % j) H):i8 K .Mod (.int i) (.int j) H Q:=⟨h,q⟩
theorem wJ(h:BR i j)(q:Q (.int<|i / j) H):i8 K .FloorDiv (.int i) (.int j) H Q:=⟨h,q⟩
theorem Fb{a b:Addr}(e:H a=some (.lst xs))(d:H b=some (.lst ys))(h:xs.length+ys.length<=1000000)(q:∀c,H c=none->Q (.ref c) (upd H c<|.lst<|xs++ys)):i8 K .Add (.ref a) (.ref b) H Q:=
 .inl ⟨a,b,xs,ys,rfl,rfl,e,d,dz h,q⟩
theorem ad3{a:Addr}(h:H a=some (.lst [v]))(l:n<=1000000)(q:∀c,H c=none->Q (.ref c) (upd H c<|.lst<|List.replicate n v)):i8 K .Mult (.ref a) (.int (n:Nat)) H Q:=by
 refine⟨a,_,_,rfl,rfl,h,by lia,by lia,dz (by show 1*n<=_;lia),λc f=>?_⟩
 rw[Pu];exact q c f
theorem pW(h:ag Γ a σ H λx H1=>oH Γ.K .list [x] H1 Q):ag Γ (.blt .list [a]) σ H Q:=h
theorem Pw(s:Str):(s==s)=true:=by simp
end
theorem Px(s:Str):(⟨s.cps.toList.toArray⟩:Str)=s:=rfl
section
variable {K:Frag}{H H':Hp}
theorem n5(q:Q (.bl<|decide<|v=.av) H):da K .Is v .av H Q:=⟨rfl,q⟩
end
theorem lA:∀(k:Nat) (xs ys:List At) (l:List Nat),xs.length+ys.length<=k->fit l xs->fit l ys->∃m ts,c9 xs ys m ts:=by
 intro k;induction k with
 |zero=>intro x y l b _ _;cases x<;>cases y<;>simp at b;exact⟨[],[],.nil⟩
 |succ k i=>
  intro xs ys l b g f;cases xs with
  |nil=>
   cases ys with
   |nil=>exact⟨[],[],.nil⟩
   |cons y ys=>
    cases y with
    |P c=>
     obtain⟨m,ts,h⟩:=i [] ys l (by simp at b⊢;lia) g f
     exact⟨_,_,.p2 (λd t z=>by cases z) h⟩
    |_=>
     cases l with
     |nil=>exact absurd f (by simp[fit])
     |cons a l=>exact absurd g (by simp[fit])
  |cons x xs=>cases x with
   |P c=>
    obtain⟨m,ts,h⟩:=i xs ys l (by simp at b;lia) g f
    exact⟨_,_,.p1 h⟩
   |K=>
    cases l with
    |nil=>exact absurd g (by simp[fit])
    |cons a l=>
     have p:fit l xs:=by simpa[fit] using g
     cases ys with
     |nil=>exact absurd f (by simp[fit])
     |cons y ys=>
      cases y with
      |P c=>
       obtain⟨m,ts,h⟩:=i (.K::xs) ys (a::l) (by simp at b⊢;lia) g f
       exact⟨_,_,.p2 (λd t z=>by cases z) h⟩
      |K=>
       obtain⟨m,ts,h⟩:=i xs ys l (by simp at b;lia) p (by simpa[fit] using f)
       exact⟨_,_,.kk h⟩
      |C c=>
       have q:a=c/\fit l ys:=by simpa[fit] using f
       obtain⟨m,ts,h⟩:=i xs ys l (by simp at b;lia) p q.2
       exact⟨_,_,.kc h⟩
   |C c=>
    cases l with
    |nil=>exact absurd g (by simp[fit])
    |cons a l=>
     have p:a=c/\fit l xs:=by simpa[fit] using g
     cases ys with
     |nil=>exact absurd f (by simp[fit])
     |cons y ys=>
      cases y with
      |P e=>
       obtain⟨m,ts,h⟩:=i (.C c::xs) ys (a::l) (by simp at b⊢;lia) g f
       exact⟨_,_,.p2 (λd t z=>by cases z) h⟩
      |K=>
       obtain⟨m,ts,h⟩:=i xs ys l (by simp at b;lia) p.2 (by simpa[fit] using f)
       exact⟨_,_,.ck h⟩
      |C e=>
       have q:a=e/\fit l ys:=by simpa[fit] using f
       obtain⟨m,ts,h⟩:=i xs ys l (by simp at b;lia) p.2 q.2
       obtain⟨w,_⟩:=p;obtain⟨u,_⟩:=q;subst w;subst u;exact⟨_,_,.cc h⟩
theorem Fc{xs ys d:List At}(h:c9 xs ys d ts):cY xs ys d ts:=by
 induction h with
 |nil=>exact .nil
 |p1 _ b=>exact .p1 b
 |p2 _ _ b=>exact .p2 b
 |kk _ b=>exact .kk b
 |kc _ b=>exact .kc b
 |ck _ b=>exact .ck b
 |cc _ b=>exact .cc b
def f9(e other:List Pt):List Pt:=fJ (fo e other)
theorem Fd{q:List At}(m:∀p∈other,aX p)(d:c9 (ar e) (ar other) q ts)(u:az other<=100000):ar (fo e other)=ts/\az (fo e other)<=az other/\∀p∈fo e other,gO p:=by
 have x:ar (fo e other)=ts:=by rw[E8,<-(Po d)]
 have t:=by
  have h:=Pq d;rw[<-x,lq,lq] at h;exact h
 refine⟨x,t,λp k=>?_⟩;have l:∀s:Str,(p=.put s\/p=.cut s)->s.length<=az (fo e other):=λs f=>by
  have:=zL k;rcases f with rfl|rfl<;>exact this
 have g:∀s:Str,(p=.put s\/p=.cut s)->∀c∈s.cps.toList,SG.cps.contains c=true:=λs f c h=>by
  rcases f with rfl|rfl
  ·have b:=ui k (zbj h);rw[x] at b;exact uj m<|.inl<|Av d _ (by lia) b
  ·have b:=ui k (zbj h);rw[x] at b;exact uj m<|.inr<|Av d _ (by lia) b
 cases p with
 |keep n=>exact E_ _ _ _ _ n k
 |put s=>have:=l s (.inl rfl);exact⟨⟨by lia,g s<|.inl rfl⟩,by lia⟩
 |cut s=>have:=l s (.inr rfl);exact⟨⟨by lia,g s<|.inr rfl⟩,by lia⟩
theorem Py{l m n:List Nat}(x:bG e l m)(b:bG other l n)(u:az other<=100000):(∃r,bG (f9 e other) m r)/\az (f9 e other)<=az other/\az (fo e other)<=az other:=by
 obtain⟨d,A⟩:=x.run.fits;obtain⟨f,G⟩:=b.run.fits;obtain⟨E,ts,h⟩:=lA _ _ _ l (zqR _) d f;obtain⟨D,t,w⟩:=Fd b.ok h u;obtain⟨g,_,_⟩:=(Fc h).fits l d f;rw[A,<-D] at g;obtain⟨q,k,_⟩:=pG _ w (by lia)
 refine⟨⟨_,k,q,tU<|pI _ m (λp h=>tW<|w p h) g⟩,by unfold f9;rw[tV _ w];exact t,t⟩
structure Taken (tx:List (List Nat)) (tk:List (Nat×List Pt)):Prop where
 len:tx.length=tk.length+1
 chg:∀i h ps l r,tk[i]?=some (h,ps)->tx[i]?=some l->tx[i+1]?=some r->bG ps l r/\az ps<=5200
def Aw(b:List (List Pt))(c:List Pt):List Pt:=b.foldl (λc e=>f9 e c) c
theorem ad4(b:List (List Pt))(e c:List Pt):Aw (b++[e]) c=f9 e (Aw b c):=by unfold Aw;rw[List.foldl_append];rfl
def pj(t:List (Nat×List Pt))(b j:Nat)(c:List Pt):List Pt:=Aw (((t.drop b).take j).map (·.2)) c
theorem pX{b:Nat}{h:Nat}(e:t[b+j]?=some (h,ps)):pj t b (j+1) c=f9 ps (pj t b j c):=by
 unfold pj;rw[E4 (zbZ▸e),zaq];exact ad4 _ _ _
theorem uk{t:List (Nat×List Pt)}(T:Taken tx t){b:Nat}{c:List Pt}{l n:List Nat}(d:tx[b]?=some l)(f:bG c l n)(h:az c<=5200):∀j,b+j<=t.length->∃m r,tx[b+j]?=some m/\bG (pj t b j c) m r/\az (pj t b j c)<=5200:=by
 intro j;induction j with
 |zero=>exact λ_=>⟨l,n,d,f,h⟩
 |succ j i=>
  intro G;obtain⟨m,r,u,q,I⟩:=i (by lia)
  have p:b+j<t.length:=by lia
  have e:=zaj p;have k:b+j+1<tx.length:=by rw[T.len];lia
  have x:=zaj k;obtain⟨w,E⟩:=T.chg _ _ _ _ _ e u x;obtain⟨⟨g,A⟩,D,_⟩:=Py w q (by lia)
  refine⟨_,g,x,?_,?_⟩
  ·rw[pX e];exact A
  ·rw[pX e];lia
theorem Taken.snoc(T:Taken tx t){h:Nat}{l:List Nat}(m:tx[t.length]?=some l)(p:bG ps l r)(k:az ps<=5200):Taken (tx++[r]) (t++[(h,ps)]):=by
 refine⟨by rw[zqA,zqA,T.len];rfl,λi q A g f e d b=>?_⟩
 have w:i<t.length+1:=by have:=(zad.mp e).1;rw[zqA] at this;exact this
 by_cases u:i<t.length
 ·rw[zaB u] at e;rw[zaB (by rw[T.len];lia)] at d
  rw[zaB (by rw[T.len];lia)] at b
  exact T.chg i q A g f e d b
 ·have D:i=t.length:=by lia
  subst D;rw[zaK<|zqR _,zaJ] at e;rw[zaB (by rw[T.len];lia),m] at d
  rw[zaK (by rw[T.len];lia),T.len,zaJ] at b
  cases e;cases d;cases b;exact⟨p,k⟩
def wK(m p:List Nat)(a b:Option (Option Nat)):List At:=m.map .P++(rK p.length++E7 b a)
def wL:List (List Nat)->List (List Nat)->List (Option Nat)->List (Option Nat)->List At
 |m::ms,p::ps,b,l=>wK m p b.head? l.head?++wL ms ps b.tail l.tail
 |_,_,_,_=>[]
theorem ad5{xs ys f:List At}(h:c9 xs ys f ts):f=wL (gp xs).1 (gp ys).1 (gp xs).2 (gp ys).2:=by
 induction h with
 |nil=>rfl
 | @p1 c xs ys f ts _ b=>
  obtain⟨p,ps,e⟩:=rJ xs;obtain⟨q,k,g⟩:=rJ ys;show _=wL (rH c (gp xs).1) (gp ys).1 (gp xs).2 (gp ys).2;rw[b,e,g];rfl
 | @p2 c xs ys f ts l _ b=>
  obtain⟨q,k,g⟩:=rJ ys;obtain⟨m,e⟩:∃m,(gp xs).1=[]::m:=by
   cases xs with
   |nil=>exact⟨_,rfl⟩
   |cons a xs=>
    cases a with
    |P d=>exact absurd rfl (l d xs)
    |K=>exact⟨_,rfl⟩
    |C d=>exact⟨_,rfl⟩
  show _=wL (gp xs).1 (rH c (gp ys).1) (gp xs).2 (gp ys).2;rw[b,e,g]
  rfl
 |kk _ b=>rw[b];rfl
 |kc _ b=>rw[b];rfl
 |ck _ b=>rw[b];rfl
 |cc _ b=>rw[b];rfl
def wM(m p:List Nat)(a b:Option (Option Nat)):List Pt:=[.put ⟨m.toArray⟩,.keep (p.length:Nat)]++rL b a
def um:List (List Nat)->List (List Nat)->List (Option Nat)->List (Option Nat)->List Pt
 |m::ms,p::ps,b,l=>wM m p b.head? l.head?++um ms ps b.tail l.tail
 |_,_,_,_=>[]
theorem ad6(m p:List Nat)(a b:Option (Option Nat)):ar (wM m p a b)=wK m p a b:=by
 unfold wM wK;rw[fm,Pp,<-zal]
 congr 1
 show((⟨m.toArray⟩:Str).cps.toList.map At.P)++(rK (p.length:Int).toNat++[])=_;rw[zac,zaD]
theorem Pz:∀(ms ps:List (List Nat)) (b l:List (Option Nat)),ar (um ms ps b l)=wL ms ps b l
 |[],_,_,_=>rfl
 |_::_,[],_,_=>rfl
 |m::ms,p::ps,b,l=>by
  show ar (wM m p b.head? l.head?++um ms ps b.tail l.tail)=_;rw[fm,ad6,Pz ms ps];rfl
theorem ad7{xs ys m:List At}(h:c9 xs ys m ts):∀a:At,a≠ .K->a∈m->a∈xs:=by
 have k:∀{a b:At}{l g:List At},(a≠ .K->a∈l->a∈g)->a≠ .K->a∈b::l->(b=.K->a∈g)/\(b≠ .K->a∈b::g):=λf n h=>⟨λe=>(zaa.mp h).elim (λz=>absurd (z.trans e) n)<|f n,λ_=>(zaa.mp h).elim (λz=>z ▸ .head _) λz=>.tail _ (f n z)⟩
 induction h with
 |nil=>exact λa _ h=>h
 |p1 _ d=>exact λa n h=>(k (d a) n h).2 (by lia)
 |p2 _ _ d=>exact λa n h=>(k (d a) n h).1 rfl
 |kk _ d=>exact λa n h=>.tail _ ((k (d a) n h).1 rfl)
 |kc _ d=>exact λa n h=>.tail _ (d a n h)
 |ck _ d=>exact λa n h=>(k (d a) n h).2 (by lia)
 |cc _ d=>exact λa n h=>.tail _ (d a n h)
theorem PB:∀(ms ps:List (List Nat)) (b l:List (Option Nat)) (n:Int),.keep n∈um ms ps b l->0<=n:=by
 intro m;induction m with
 |nil=>intro p _ _ n h;cases p<;>cases h
 |cons m ms i=>
  intro p b l n h;cases p with|nil=>cases h|cons p ps=>?_
  rcases zab.mp (show Pt.keep n∈wM m p b.head? l.head?++um ms ps b.tail l.tail from h) with h|h
  ·rcases zab.mp (show Pt.keep n∈ [.put ⟨m.toArray⟩,.keep (p.length:Nat)]++rL l.head? b.head? from h) with h|h
   ·simp only[zaa,zaf,or_false] at h
    rcases h with h|h
    ·cases h
    ·cases h;lia
   ·unfold rL at h
    split at h
    ·simp at h;cases h;decide
    ·simp only[zaa,zaf,or_false] at h;cases h
    ·cases h
  ·exact i ps _ _ n h
abbrev rN(e other:List Pt):List Pt:=um (gp<|ar e).1 (gp<|ar other).1 (gp<|ar e).2 (gp<|ar other).2
theorem ad8{b:List Pt}{w:List At}(hs:∀p∈b,aX p)(x:ar d=w)(e:∀a:At,a≠ .K->a∈w->a∈ar b)(t:az d<=100000)(m:∀n,.keep n∈d->0<=n):∀p∈d,gO p:=λp k=>by
 have l:∀s:Str,(p=.put s\/p=.cut s)->s.length<=az d:=λs hs=>by
  have:=zL k;rcases hs with rfl|rfl<;>exact this
 have g:∀s:Str,(p=.put s\/p=.cut s)->∀c∈s.cps.toList,SG.cps.contains c=true:=λs V c f=>by
  rcases V with rfl|rfl
  ·have h:=ui k (zbj f);rw[x] at h;exact uj hs<|.inl<|e _ (by lia) h
  ·have h:=ui k (zbj f);rw[x] at h;exact uj hs<|.inr<|e _ (by lia) h
 cases p with
 |keep n=>exact m n k
 |put s=>have:=l s (.inl rfl);exact⟨⟨by lia,g s<|.inl rfl⟩,by lia⟩
 |cut s=>have:=l s (.inr rfl);exact⟨⟨by lia,g s<|.inr rfl⟩,by lia⟩
def rO(e other:List Pt):List Pt:=fJ (rN e other)
theorem PD{b:List At}(f:∀p∈e,aX p)(h:c9 (ar e) (ar other) b ts)(g:az e<=100000):ar (rN e other)=b/\az (rN e other)<=az e/\∀p∈rN e other,gO p:=by
 have x:ar (rN e other)=b:=by rw[Pz,<-ad5 h]
 have t:=by
  have d:=(Fc h).OE.1;rw[<-x,lq,lq] at d;exact d
 exact⟨x,t,ad8 f x (ad7 h) (by lia)<|PB _ _ _ _⟩
theorem ad9{l m n:List Nat}(d:∀p∈e,aX p)(P:Passed e other ps q l m n)(t:az e<=100000):rO e other=ps:=by
 obtain⟨u,ts,h,f,A⟩:=P.OR;obtain⟨x,g,w⟩:=PD d h t;obtain⟨b,k,_⟩:=pG _ w (by lia)
 refine Eh _ _ "" "" b P.ch1 k P.ok1 ?_;unfold rO;rw[<-vY _ w,pJ _ λp h=>tW (w p h),x,f]
theorem ad_{l m n:List Nat}(f:bG e l m)(d:bG other l n)(Z:az e<=100000)(S:az other<=100000):(∃r,bG (f9 e other) m r/\bG (rO e other) n r)/\az (f9 e other)<=az other/\az (rO e other)<=az e/\az (fo e other)<=az other/\az (rN e other)<=az e:=by
 obtain⟨D,A⟩:=f.run.fits;obtain⟨x,u⟩:=d.run.fits;obtain⟨T,ts,h⟩:=lA _ _ _ l (zqR _) D x;obtain⟨E,t,w⟩:=Fd d.ok h S;obtain⟨G,P,b⟩:=PD f.ok h Z;obtain⟨q,k,g⟩:=(Fc h).fits l D x;rw[A,u] at g;rw[A,<-E] at q;rw[u,<-G] at k;obtain⟨K,I,_⟩:=pG _ w (by lia)
 obtain⟨R,N,_⟩:=pG _ b (by lia)
 refine⟨⟨out m ts,⟨I,K,?_⟩,⟨N,R,?_⟩⟩,by unfold f9;rw[tV _ w];exact t,by unfold rO;rw[tV _ b];exact P,t,P⟩
 ·have:=tU (pI _ m (λp h=>tW<|w p h) q);rw[E] at this;exact this
 ·have:=tU (pI _ n (λp h=>tW<|b p h) k);rw[G,<-g] at this;exact this
end L2.fG
namespace L2.B
end L2.B
namespace L2.N
open PySem PySem.Spec L2.B
section
variable {Γ:aQ}{D:Ends}{σ:St}{H:Hp}{r:List RS}{Q:VK}{QT:Bool->Hp->Prop}
theorem rP{i e:RE}(h:ag Γ e σ H λv H1=>ag Γ o σ H1 λx H2=>ag Γ i σ H2 λy d=>∃a b,x=.ref a/\jU d a y v b/\aE Γ r D σ b):aE Γ (.dput o i e::r) D σ H:=h
theorem eK(h:ag Γ a σ H λx H1=>ag Γ b σ H1 λy H2=>∃d v,x=.ref d/\dy H2 d y (some v)/\Q v H2):ag Γ (.dc a b) σ H Q:=h
theorem aea(h:ag Γ a σ H λy H1=>ag Γ b σ H1 λx H2=>∃d o,x=.ref d/\dy H2 d y o/\∃k,V.bl (!o.isSome)=.bl k/\QT k H2):aY Γ (.vv a b) σ H QT:=h
variable {K:Frag}{M:List Addr}{C:Addr}{H':Hp}{p dx d:Addr}{n g:Nat}{kvs:List (Key×V)}{es:List Ent}
end
end L2.N
namespace L2.N
open PySem PySem.Spec PyProof.Rows L2.B
end L2.N
namespace L2.B
end L2.B
namespace L2.N
open PySem PySem.Spec PyProof.Rows L2.B
end L2.N
namespace L2.N
open PySem PySem.Spec L2.B
section
variable {K:Frag}{CP C CE CD:Addr}
end
theorem Ff{a:Addr}{d:Hp}(s:aD d H)(f:d a=none)(b:aR a H H'):aD d H':=λc o e=>b c o (s _ _ e) (aM e f)
abbrev nV(b:List Nat):List V:=b.map λk=>V.int (k:Nat)
section
variable {K:Frag}{M:List Addr}{C:Addr}{H H':Hp}{p dx d rw n:Nat}{rs:List Sd}
end
end L2.N
namespace L2.fG
open PySem PySem.Spec L2.B L2.N
abbrev f6(x:Str)(kn se:Nat)(f d e:V):List (Str×V):=[("signs",.str x),("known",.int (kn:Nat)),("serial",.int (se:Nat)),("flying",f),("delayed",d),("early",e)]
section
variable {x:Str}{kn se:Nat}{fl de ea:V}
theorem Ax:(f6 x kn se fl de ea).lookup ("signs":Str)=some (.str x):=iR
theorem rQ:(f6 x kn se fl de ea).lookup ("known":Str)=some (.int (kn:Nat)):=rfl
theorem Fg:(f6 x kn se fl de ea).lookup ("serial":Str)=some (.int (se:Nat)):=rfl
theorem lB:(f6 x kn se fl de ea).lookup ("flying":Str)=some fl:=rfl
theorem rR:(f6 x kn se fl de ea).lookup ("delayed":Str)=some de:=rfl
theorem wO:(f6 x kn se fl de ea).lookup ("early":Str)=some ea:=rfl
theorem aeb:aI "early" ea (aI "delayed" de<|aI "flying" fl<|aI "serial" (.int (se:Nat))<|aI "known" (.int (kn:Nat))<|aI "signs" (.str x) [])=f6 x kn se fl de ea:=rfl
theorem Fh:aI "signs" (.str y) (f6 x kn se fl de ea)=f6 y kn se fl de ea:=mx
theorem PH:aI "known" (.int (k:Nat)) (f6 x kn se fl de ea)=f6 x k se fl de ea:=rfl
theorem PJ:aI "serial" (.int (k:Nat)) (f6 x kn se fl de ea)=f6 x kn k fl de ea:=rfl
theorem Ay:aI "flying" v (f6 x kn se fl de ea)=f6 x kn se v de ea:=rfl
theorem wQ:aI "delayed" v (f6 x kn se fl de ea)=f6 x kn se fl v ea:=rfl
theorem aec:aI "early" v (f6 x kn se fl de ea)=f6 x kn se fl de v:=rfl
end
abbrev f2(b:Nat)(st:Addr):List (Str×V):=[("number",.int (b:Nat)),("stand_now",.ref st)]
theorem Az{st:Addr}:(f2 b st).lookup ("number":Str)=some (.int (b:Nat)):=iR
theorem n_{st:Addr}:(f2 b st).lookup ("stand_now":Str)=some (.ref st):=rfl
theorem iA{st:Addr}{m:Str}(h:¬m="number"/\ ¬m="stand_now":=by decide+kernel):(f2 b st).lookup m=none:=(cO h.1).trans ((cO h.2).trans rfl)
theorem aed{st k:Addr}:aI "stand_now" (.ref k) (f2 b st)=f2 b k:=rfl
abbrev MS:=Addr->Prop
structure bN where
 f:Nat->Option (Nat×Addr×List Pt)
 nb:Nat
instance:CoeFun bN λ_=>Nat->Option (Nat×Addr×List Pt):=⟨bN.f⟩
def eL(b:MS)(H:Hp)(v:V)(ps:List Pt):Prop:= ∃a xs,v=.ref a/\H a=some (.lst xs)/\aH H xs ps/\ ¬b a
def cZ(b:MS)(H:Hp)(v:V):Option (List Pt)->Prop
 |none=>v=.av
 |some ps=>eL b H v ps
def bw(d:MS)(H H':Hp):Prop:= ∀b o,H b=some o-> ¬d b->H' b=some o
def gA(b:MS)(H:Hp)(o:Option V):Option (Nat×Addr×List Pt)->Prop
 |none=>o=none
 |some u=>∃t xs,o=some (.ref t)/\H t=some (.tup [.int (u.1:Nat),.ref u.2.1])/\H u.2.1=some (.lst xs)/\aH H xs u.2.2/\ ¬b u.2.1
def MS.add(b:MS)(a:Addr):MS:=λz=>z=a\/b z
def Al(b:MS)(H:Hp):Prop:= ∀z,b z->∃o,H z=some o
def MS.ea(b:MS)(ea:bN):MS:=λz=>b z\/∃n u,ea n=some u/\u.2.1=z
structure bO (M:MS) (CS:Addr) (H:Hp) (q dq e:Addr) (x:Str) (kn se:Nat) (fl de:Option (List Pt)) (ea:bN):Prop where
 ob:∃vf vd,H q=some (.ins CS dq<|f6 x kn se vf vd<|.ref e)/\cZ (M.ea ea) H vf fl/\cZ (M.ea ea) H vd de
 he:∃kvs,H e=some (.dK kvs)/\kvs.length<=ea.nb/\∀n:Nat,gA M H (cN kvs<|.inl (n:Int)) (ea n)
 nd:∀n m u v,ea n=some u->ea m=some v->u.2.1=v.2.1->n=m
structure d_ (M:MS) (C CS:Addr) (H:Hp) (p dp q dq e:Addr) (own:Nat) (x:Str) (kn se:Nat) (fl de:Option (List Pt)) (ea:bN):Prop where
 ob:H p=some (.ins C dp<|f2 own q)
 st:bO M CS H q dq e x kn se fl de ea
section
variable {K:Frag}{M M':MS}{C CS:Addr}{H H':Hp}{p dp q dq e:Addr}{own:Nat}{x:Str}{kn se:Nat}{fl de:Option (List Pt)}{ea:bN}
theorem eL.same(h:eL M H v ps)(s:aD H H'):eL M H' v ps:=by
 obtain⟨a,xs,e,f,d,b⟩:=h;exact⟨a,xs,e,s _ _ f,d.mono<|bV s,b⟩
theorem cZ.same:∀{o:Option (List Pt)},cZ M H v o->aD H H'->cZ M H' v o
 |none,h,_=>h
 |some _,h,s=>eL.same h s
theorem gA.same{o:Option V}:∀{u:Option (Nat×Addr×List Pt)},gA M H o u->aD H H'->gA M H' o u
 |none,h,_=>h
 |some _,⟨t,xs,k,g,f,d,b⟩,s=>⟨t,xs,k,s _ _ g,s _ _ f,d.mono<|bV s,b⟩
theorem bO.same(S:bO M CS H q dq e x kn se fl de ea)(s:aD H H'):bO M CS H' q dq e x kn se fl de ea:=by
 obtain⟨f,d,t,m,l⟩:=S.ob;obtain⟨k,h,b,g⟩:=S.he;exact⟨⟨f,d,s _ _ t,m.same s,l.same s⟩,⟨k,s _ _ h,b,λn=>(g n).same s⟩,S.nd⟩
theorem cZ.weak{b:MS}(w:∀z,b z->N z\/H z=none):∀{o:Option (List Pt)},cZ N H v o->cZ b H v o
 |none,h=>h
 |some _,⟨a,xs,k,g,f,d⟩=>⟨a,xs,k,g,f,λz=>(w a z).elim d λy=>by lia⟩
theorem gA.weak{o:Option V}(w:∀z,M' z->M z\/H z=none):∀{u:Option (Nat×Addr×List Pt)},gA M H o u->gA M' H o u
 |none,h=>h
 |some _,⟨t,xs,k,g,f,d,b⟩=>⟨t,xs,k,g,f,d,λz=>(w _ z).elim b λy=>by lia⟩
theorem bO.weak(S:bO M CS H q dq e x kn se fl de ea)(w:∀z,M' z->M z\/H z=none):bO M' CS H q dq e x kn se fl de ea:=by
 obtain⟨f,d,A,u,t⟩:=S.ob;obtain⟨k,l,g,h⟩:=S.he;have b:∀z,M'.ea ea z->M.ea ea z\/H z=none:=λz m=>m.elim (λy=>(w z y).elim (λa=>.inl<|.inl a) .inr) λy=>.inl (.inr y);exact⟨⟨f,d,A,u.weak b,t.weak b⟩,⟨k,l,g,λn=>(h n).weak w⟩,S.nd⟩
theorem d_.same(S:d_ M C CS H p dp q dq e own x kn se fl de ea)(s:aD H H'):d_ M C CS H' p dp q dq e own x kn se fl de ea:=⟨s _ _ S.ob,S.st.same s⟩
def AB(H:Hp)(Q:VK):Option (List Pt)->Prop
 |none=>Q .av H
 |some ps=>∀l H' xs,aD H H'->H l=none->H' l=some (.lst xs)->aH H' xs ps->Q (.ref l) H'
inductive wR(C CS:Addr)(vs:List V)(H:Hp)(Q:VK)(E:XK):Prop|i(M:MS)(p dp q dq e:Addr)(own:Nat)(x:Str)(kn se:Nat)(fl de:Option (List Pt))(ea:bN)(_:vs=[.ref p])(_:d_ M C CS H p dp q dq e own x kn se fl de ea)(_:Q (.str x) H)
inductive wU(C CS:Addr)(vs:List V)(H:Hp)(Q:VK)(E:XK):Prop|i(M:MS)(p dp q dq e:Addr)(own:Nat)(x:Str)(kn se:Nat)(fl de:Option (List Pt))(ea:bN)(_:vs=[.ref p])(_:d_ M C CS H p dp q dq e own x kn se fl de ea)(_:Q (.int (kn:Nat)) H)
theorem aee(T:iO K C)(b:iq K CS):cp (wR C CS) (λE=>aO K [] [] (E:=E)) Mh ip:=by
 intro vs H Q E h;obtain⟨M,p,dp,q,dq,e,own,x,kn,se,fl,de,ea,rfl,S,k⟩:=h;obtain⟨f,g,d,_⟩:=S.st.ob;exact cq<|bp<|bp<|af rfl ⟨p,C,dp,_,_,rfl,S.ob,T.cl,T.kN,n_,q,CS,dq,_,_,rfl,d,b.cl,b.jC,Ax,k⟩
theorem aef(T:iO K C)(b:iq K CS):cp (wU C CS) (λE=>aO K [] [] (E:=E)) Mj ip:=by
 intro vs H Q E h;obtain⟨M,p,dp,q,dq,e,own,x,kn,se,fl,de,ea,rfl,S,k⟩:=h;obtain⟨f,g,d,_⟩:=S.st.ob;exact cq<|bp<|bp<|af rfl ⟨p,C,dp,_,_,rfl,S.ob,T.cl,T.kN,n_,q,CS,dq,_,_,rfl,d,b.cl,b.mf,rQ,k⟩
theorem uo(q:Q (.bl<|!decide (v=.av)) H):da K .IsNot v .av H Q:=⟨rfl,q⟩
theorem pY{c b:RE}(h:aY Γ c σ H λt H1=>if t=true then ag Γ a σ H1 Q else ag Γ b σ H1 Q):ag Γ (.kE c a b) σ H Q:=h
theorem oa{a:Addr}:decide (V.ref a=.av)=false:=rfl
inductive wV(vs:List V)(H:Hp)(Q:VK)(E:XK):Prop|i(M:MS)(v:V)(o:Option (List Pt))(_:vs=[v])(_:cZ M H v o)(_:AB H Q o)
theorem aeg(vs:List V)(H:Hp)(Q:VK)(E:XK)(h:wV vs H Q E):aE (aO K [] [] (E:=E)) L_ (Dn Q) (start DC vs) H:=by
 obtain⟨M,v,o,rfl,b,k⟩:=h;cases o with
 |none=>
  cases (show v=.av from b)
  exact cq<|pY<|bF<|af rfl<|ay<|n5 ⟨_,rfl,iT (ay k)<|zqT rfl⟩
 |some ps=>
  obtain⟨a,xs,rfl,f,d,_⟩:=(show eL M H v ps from b)
  exact cq<|pY<|bF<|af rfl<|ay<|n5 ⟨_,rfl,iF (pW<|af rfl ⟨_,.inl<|aB.of f,λl fl=>k l _ xs (sameNew fl) fl aw<|d.mono<|bV<|sameNew fl⟩) oa⟩
inductive Fi(C CS:Addr)(vs:List V)(H:Hp)(Q:VK)(E:XK):Prop|i(M:MS)(p dp q dq e:Addr)(own:Nat)(x:Str)(kn se:Nat)(fl de:Option (List Pt))(ea:bN)(_:vs=[.ref p])(_:d_ M C CS H p dp q dq e own x kn se fl de ea)(_:AB H Q fl)
inductive Fj(C CS:Addr)(vs:List V)(H:Hp)(Q:VK)(E:XK):Prop|i(M:MS)(p dp q dq e:Addr)(own:Nat)(x:Str)(kn se:Nat)(fl de:Option (List Pt))(ea:bN)(_:vs=[.ref p])(_:d_ M C CS H p dp q dq e own x kn se fl de ea)(_:AB H Q de)
theorem aeh(T:iO K C)(b:iq K CS):cp (Fi C CS) (λE=>aO K [("copied",wV)] [] (E:=E)) Mm ip:=by
 intro vs H Q E h;obtain⟨M,p,dp,q,dq,e,own,x,kn,se,fl,de,ea,rfl,S,k⟩:=h;obtain⟨f,l,g,d,_⟩:=S.st.ob;exact cq<|bP wV rfl<|aC<|bp<|bp<|af rfl ⟨p,C,dp,_,_,rfl,S.ob,T.cl,T.kN,n_,q,CS,dq,_,_,rfl,g,b.cl,b.iN,lB,aN ⟨_,f,fl,rfl,d,k⟩⟩
theorem aei(T:iO K C)(b:iq K CS):cp (Fj C CS) (λE=>aO K [("copied",wV)] [] (E:=E)) Mp ip:=by
 intro vs H Q E h;obtain⟨M,p,dp,q,dq,e,own,x,kn,se,fl,de,ea,rfl,S,k⟩:=h;obtain⟨l,d,g,_,f⟩:=S.st.ob;exact cq<|bP wV rfl<|aC<|bp<|bp<|af rfl ⟨p,C,dp,_,_,rfl,S.ob,T.cl,T.kN,n_,q,CS,dq,_,_,rfl,g,b.cl,b.j4,rR,aN ⟨_,d,de,rfl,f,k⟩⟩
def uq(H:Hp)(t:Addr)(own se kn:Nat)(ps:List Pt)(l:Addr):Prop:=H t=some (.tup [.str "ask",.int (own:Nat),.int (se:Nat),.int (kn:Nat),.ref l])/\∃xs,H l=some (.lst xs)/\aH H xs ps
inductive wW(C CS:Addr)(vs:List V)(H:Hp)(Q:VK)(E:XK):Prop|i(M:MS)(p dp q dq e b:Addr)(own:Nat)(x:Str)(kn se:Nat)(ps:List Pt)(de:Option (List Pt))(ea:bN)(_:vs=[.ref p,.ref q])(_:H p=some (.ins C dp<|f2 own b))(_:bO M CS H q dq e x kn se (some ps) de ea)(_:∀t l H',aD H H'->H t=none->H l=none->uq H' t own se kn ps l->Q (.ref t) H')
theorem aej(T:iO K C)(b:iq K CS):cp (wW C CS) (λE=>aO K [] [] (E:=E)) Ms Mr:=by
 intro vs H Q E h;obtain⟨M,p,dp,q,dq,e,N,own,x,kn,se,ps,de,ea,rfl,w,S,k⟩:=h;obtain⟨G,I,g,⟨a,xs,rfl,D,u,_⟩,_⟩:=S.ob;refine cq<|jh<|aC<|ay<|aC<|bp<|af rfl ⟨p,C,dp,_,_,rfl,w,T.cl,T.vP,Az,aC<|bp<|af rfl ⟨q,CS,dq,_,_,rfl,g,b.cl,b.tK,Fg,aC<|bp<|af rfl ⟨q,CS,dq,_,_,rfl,g,b.cl,b.mf,rQ,aC<|pW<|bp<|af rfl ⟨q,CS,dq,_,_,rfl,g,b.cl,b.iN,lB,_,.inl<|aB.of D,λl fl=>aN ⟨BC,λt m=>?_⟩⟩⟩⟩⟩;have f:=sameNew (o:=.lst xs) fl;have A:upd H l (.lst xs) l=some (.lst xs):=aw;have d:=sameNew (o:=.tup [.str "ask",.int (own:Nat),.int (se:Nat),.int (kn:Nat),.ref l]) m;exact k t l _ (f.trans d) (f.free m) fl ⟨aw,xs,d _ _ A,u.mono<|bV<|f.trans d⟩
end
section
variable {K:Frag}{M:MS}{C CS:Addr}{H H':Hp}{p dp q dq e:Addr}{own:Nat}{x:Str}{kn se:Nat}{fl de:Option (List Pt)}{ea:bN}
theorem rS{o:HO}{f:List (Str×V)}(h:H q=some (.ins C' d' f)):eI H (upd H q o):=λz u b=>by
 rw[ax (λy=>by lia)];exact b
theorem eL.ins{o:HO}{k:List (Str×V)}(h:eL M H v ps)(b:H q=some (.ins C' d' k)):eL M (upd H q o) v ps:=by
 obtain⟨a,xs,e,g,f,d⟩:=h;exact⟨a,xs,e,by rw[ax (λy=>by lia)];exact g,f.mono<|rS b,d⟩
theorem cZ.ins{o:HO}{f:List (Str×V)}:∀{z:Option (List Pt)},cZ M H v z->H q=some (.ins C' d' f)->cZ M (upd H q o) v z
 |none,h,_=>h
 |some _,h,b=>eL.ins h b
theorem gA.ins{o:HO}{m:List (Str×V)}{w:Option V}:∀{z:Option (Nat×Addr×List Pt)},gA M H w z->H q=some (.ins C' d' m)->gA M (upd H q o) w z
 |none,h,_=>h
 |some _,⟨t,xs,l,k,g,f,d⟩,b=>⟨t,xs,l,rS b _ _ k,by rw[ax (λy=>by lia)];exact g,f.mono<|rS b,d⟩
theorem bO.put(S:bO M CS H q dq e x kn se fl de ea){x':Str}{kn' se':Nat}{vf vd:V}{fl' de':Option (List Pt)}(m:cZ (M.ea ea) H vf fl')(t:cZ (M.ea ea) H vd de'):bO M CS (upd H q<|.ins CS dq<|f6 x' kn' se' vf vd<|.ref e) q dq e x' kn' se' fl' de' ea:=by
 obtain⟨b,d,h,_,_⟩:=S.ob;obtain⟨k,l,f,g⟩:=S.he;exact⟨⟨vf,vd,aw,m.ins h,t.ins h⟩,⟨k,by rw[ax (λy=>by lia)];exact l,f,λn=>(g n).ins h⟩,S.nd⟩
theorem bw.same(s:aD H H'):bw M H H':=λb o e _=>s b o e
theorem bw.trans(a:bw M H H')(b:bw M H' w):bw M H w:=λz o e h=>b _ _ (a _ _ e h) h
theorem bw.upd{o:HO}:bw (· =q) H (upd H q o):=λz o e h=>by rw[ax h];exact e
inductive wY(C CS:Addr)(vs:List V)(H:Hp)(Q:VK)(E:XK):Prop|i(M:MS)(p dp q dq e b:Addr)(v:V)(own:Nat)(x:Str)(kn se:Nat)(ps:List Pt)(fl de:Option (List Pt))(ea:bN)(_:vs=[.ref p,.ref q,v])(_:H p=some (.ins C dp<|f2 own b))(_:p≠q)(_:bO M CS H q dq e x kn se fl de ea)(_:eL (M.ea ea) H v ps)(_:∀L t l H',bw (· =q) H H'->H L=none->H t=none->H l=none->bO ((M.add L).add l) CS H' q dq e x kn (se+1) (some ps) de ea->H' L=some (.lst [.ref t])->uq H' t own (se+1) kn ps l->Q (.ref L) H')
theorem aek(T:iO K C)(m:iq K CS):cp (wY C CS) (λE=>aO K [] [] [] [("ask",C,wW C CS)] (E:=E)) Mu zt:=by
 intro vs H Q E h;obtain⟨M,p,dp,q,dq,e,q0,v,own,x,kn,se,ps,fl,de,ea,rfl,R,dN,S,hv,k⟩:=h;obtain⟨g,d,D,h2,h3⟩:=S.ob;refine dn<|bL<|bp<|af rfl ⟨q,CS,dq,_,_,rfl,D,m.cl,m.tK,Fg,ay<|iX<|af rfl ⟨q,CS,dq,_,rfl,D,m.cl,m.tK,(by simp),?_⟩⟩
 rw[show(se:Int)+1=((se+1:Nat):Int) by lia,PJ]
 have S1:=S.put (x':=x) (kn':=kn) (se':=se+1) h2 h3;have PK:eL (M.ea ea) (upd H q<|.ins CS dq<|f6 x kn (se+1) g d<|.ref e) v ps:=hv.ins D;have b1:bw (· =q) H (upd H q<|.ins CS dq<|f6 x kn (se+1) g d<|.ref e):=bw.upd;have fk:upd H q (.ins CS dq<|f6 x kn (se+1) g d<|.ref e) q=some (.ins CS dq<|f6 x kn (se+1) g d<|.ref e):=aw;have Z:cZ (M.ea ea) (upd H q<|.ins CS dq<|f6 x kn (se+1) g d<|.ref e) d de:=h3.ins D;generalize upd H q (.ins CS dq<|f6 x kn (se+1) g d<|.ref e)=H1 at S1 PK b1 fk Z⊢;refine dn<|af rfl<|af rfl ⟨q,CS,dq,_,rfl,fk,m.cl,m.iN,(by simp),?_⟩
 rw[Ay];have G:=S1.put (x':=x) (kn':=kn) (se':=se+1) (fl':=some ps) PK Z;have b2:bw (· =q) H1 (upd H1 q<|.ins CS dq<|f6 x kn (se+1) v d<|.ref e):=bw.upd;generalize upd H1 q (.ins CS dq<|f6 x kn (se+1) v d<|.ref e)=H2 at G b2⊢;have A:=b1.trans b2;have P:=dN;have I:∀{z:Addr},H2 z=none->H z=none:=λ{z} b=>by
  cases ez:H z with
  |none=>rfl
  |some o=>
   by_cases y:z=q
   ·obtain⟨_,_,hq,_⟩:=G.ob;rw[y,hq] at b;cases b
   ·rw[A _ _ ez y] at b;cases b
 refine cq<|eY<|aC<|jH C (wW C CS) rfl<|af rfl ⟨p,dp,_,rfl,A _ _ R P,iA,af rfl ⟨M,p,dp,q,dq,e,q0,own,x,kn,se+1,ps,de,ea,rfl,A _ _ R P,G,λt l H3 w ft f X=>aN ⟨jN,λL N=>?_⟩⟩⟩;have u:=sameNew (o:=.lst [V.ref t]) N;exact k L t l _ (A.trans<|bw.same<|w.trans u) (I<|w.free N) (I ft) (I f) (((G.weak λz b=>b.elim (λy=>.inr<|y ▸ f) λb=>b.elim (λy=>.inr<|y ▸ w.free N) .inl).same w).same u) aw ⟨u _ _ X.1,let ⟨xs,g1,g2⟩:=X.2;⟨xs,u _ _ g1,g2.mono<|bV u⟩⟩
def AD(C CS:Addr):Sp:=λvs H Q E=>∃(M:MS) (p dp q dq e b:Addr) (own:Nat) (x:Str) (kn se:Nat) (ps:List Pt) (de:Option (List Pt)) (ea:bN),vs=[.ref p,.ref q]/\H p=some (.ins C dp<|f2 own b)/\p≠q/\bO M CS H q dq e x kn se (some ps) de ea/\
 match de with
 |none=>∀L H',bw (· =q) H H'->H L=none->bO (M.add L) CS H' q dq e x kn se none none ea->H' L=some (.lst [])->Q (.ref L) H'
 |some d=>∀L t l H',bw (· =q) H H'->H L=none->H t=none->H l=none->bO ((M.add L).add l) CS H' q dq e x kn (se+1) (some d) none ea->H' L=some (.lst [.ref t])->uq H' t own (se+1) kn d l->Q (.ref L) H'
theorem ael(T:iO K C)(b:iq K CS):cp (AD C CS) (λE=>aO K [] [] [] [("take_off",C,wY C CS)] (et:=[("BadLetter",CB)]) (E:=E)) MC zt:=by
 intro vs H Q E h;obtain⟨M,p,dp,q,dq,e,q0,own,x,kn,se,ps,de,ea,rfl,R,dN,S,k⟩:=h;obtain⟨vf,d,w,h2,V⟩:=S.ob;obtain⟨a,xs,rfl,ha,pv,na⟩:=(show eL (M.ea ea) H vf ps from h2)
 refine bQ<|bF<|bp<|af rfl ⟨q,CS,dq,_,_,rfl,w,b.cl,b.iN,lB,ay<|n5 ⟨_,rfl,iF (dJ (bW<|bp<|af rfl ⟨q,CS,dq,_,_,rfl,w,b.cl,b.j4,rR,dn<|ay<|af rfl ⟨q,CS,dq,_,rfl,w,b.cl,b.iN,(by simp),?_⟩⟩)) oa⟩⟩
 rw[Ay];have S1:=S.put (x':=x) (kn':=kn) (se':=se) (fl':=none) rfl V;have b1:bw (· =q) H (upd H q<|.ins CS dq<|f6 x kn se .av d<|.ref e):=bw.upd;have I:upd H q (.ins CS dq<|f6 x kn se .av d<|.ref e) q=some (.ins CS dq<|f6 x kn se .av d<|.ref e):=aw;have Z:cZ (M.ea ea) (upd H q<|.ins CS dq<|f6 x kn se .av d<|.ref e) d de:=V.ins w;generalize upd H q (.ins CS dq<|f6 x kn se .av d<|.ref e)=H1 at S1 b1 I Z⊢;refine dn<|ay<|af rfl ⟨q,CS,dq,_,rfl,I,b.cl,b.j4,(by simp),?_⟩
 rw[wQ];have D:=S1.put (x':=x) (kn':=kn) (se':=se) (fl':=none) (de':=none) rfl rfl;have b2:bw (· =q) H1 (upd H1 q<|.ins CS dq<|f6 x kn se .av .av<|.ref e):=bw.upd;have N:cZ (M.ea ea) (upd H1 q<|.ins CS dq<|f6 x kn se .av .av<|.ref e) d de:=Z.ins I;generalize upd H1 q (.ins CS dq<|f6 x kn se .av .av<|.ref e)=H2 at D b2 N⊢;have u:=b1.trans b2;have P:¬p=q:=dN;have A:∀{z:Addr},H2 z=none->H z=none:=λ{z} g=>by
  cases ez:H z with
  |none=>rfl
  |some o=>
   by_cases y:z=q
   ·obtain⟨_,_,hq,_⟩:=D.ob;rw[y,hq] at g;cases g
   ·rw[u _ _ ez y] at g;cases g
 cases de with
 |none=>
  cases (show d=.av from N)
  exact cq<|pY<|bF<|af rfl<|ay<|n5 ⟨_,rfl,iT (eY<|aN ⟨zqZ _,λL m=>k L _ (u.trans<|bw.same<|sameNew m) (A m) ((D.weak λz g=>g.elim (λy=>.inr<|y ▸ m) .inl).same<|sameNew m) aw⟩)<|zqT rfl⟩
 |some X=>
  obtain⟨a2,g_,rfl,h_,AE,G⟩:=(show eL (M.ea ea) H2 d X from N)
  refine cq<|pY<|bF<|af rfl<|ay<|n5 ⟨_,rfl,iF (Aq C (wY C CS) rfl<|af rfl ⟨p,dp,_,rfl,u _ _ R P,iA,af rfl<|af rfl ⟨M,p,dp,q,dq,e,q0,_,own,x,kn,se,X,none,none,ea,rfl,u _ _ R P,dN,D,⟨a2,g_,rfl,h_,AE,G⟩,λL t l H3 b3 m ft f S3 hL hA=>k L t l H3 (u.trans b3) (A m) (A ft) (A f) S3 hL hA⟩⟩) oa⟩
def AF(C CS:Addr):Sp:=λvs H Q E=>∃(M:MS) (p dp q dq e:Addr) (own:Nat) (x:Str) (kn se:Nat) (fl de:Option (List Pt)) (ea:bN),vs=[.ref p]/\d_ M C CS H p dp q dq e own x kn se fl de ea/\
 match fl with
 |none=>∀L b H',aD H H'->H L=none->H b=none->H' b=some (.tup [.str "again",.int (own:Nat),.int (kn:Nat)])->H' L=some (.lst [.ref b])->Q (.ref L) H'
 |some ps=>∀L b t l H',aD H H'->H L=none->H b=none->H t=none->H l=none->H' b=some (.tup [.str "again",.int (own:Nat),.int (kn:Nat)])->uq H' t own se kn ps l->H' L=some (.lst [.ref b,.ref t])->Q (.ref L) H'
theorem aen(T:iO K C)(u:iq K CS):cp (AF C CS) (λE=>aO K [] [] [] [("seen",C,wU C CS),("ask",C,wW C CS)] (E:=E)) MH MG:=by
 intro vs H Q E h;obtain⟨M,p,dp,q,dq,e,own,x,kn,se,fl,de,ea,rfl,S,k⟩:=h;refine bW<|jh<|aC<|ay<|aC<|bp<|af rfl ⟨p,C,dp,_,_,rfl,S.ob,T.cl,T.vP,Az,aC<|iS C (wU C CS) rfl<|af rfl ⟨p,dp,_,rfl,S.ob,iA,M,p,dp,q,dq,e,own,x,kn,se,fl,de,ea,rfl,S,aN ⟨xQ,λd G=>?_⟩⟩⟩;have b:=sameNew (o:=.tup [.str "again",.int (own:Nat),.int (kn:Nat)]) G;have A:upd H d (.tup [.str "again",.int (own:Nat),.int (kn:Nat)]) d=some (.tup [.str "again",.int (own:Nat),.int (kn:Nat)]):=aw;generalize upd H d (.tup [.str "again",.int (own:Nat),.int (kn:Nat)])=H1 at b A⊢;have f:=S.same b;obtain⟨I,vd,X,R,h3⟩:=f.st.ob;cases fl with
 |none=>
  cases (show I=.av from R)
  refine cq<|pY<|bF<|bp<|bp<|af rfl ⟨p,C,dp,_,_,rfl,f.ob,T.cl,T.kN,n_,q,CS,dq,_,_,rfl,X,u.cl,u.iN,lB,ay<|n5 ⟨_,rfl,iT (eY<|aC<|af rfl<|aN ⟨jN,λL m=>?_⟩)<|zqT rfl⟩⟩;have N:=sameNew (o:=.lst [V.ref d]) m;exact k L d _ (b.trans N) (b.free m) G (N _ _ A) aw
 |some ps=>
  obtain⟨a,xs,rfl,ha,pv,na⟩:=(show eL (M.ea ea) H1 I ps from R)
  refine cq<|pY<|bF<|bp<|bp<|af rfl ⟨p,C,dp,_,_,rfl,f.ob,T.cl,T.kN,n_,q,CS,dq,_,_,rfl,X,u.cl,u.iN,lB,ay<|n5 ⟨_,rfl,iF (eY<|aC<|af rfl<|aC<|jH C (wW C CS) rfl<|af rfl ⟨p,dp,_,rfl,f.ob,iA,bp<|af rfl ⟨p,C,dp,_,_,rfl,f.ob,T.cl,T.kN,n_,M,p,dp,q,dq,e,q,own,x,kn,se,ps,de,ea,rfl,f.ob,f.st,λt l H3 w ft D P=>aN ⟨fQ,λL m=>?_⟩⟩⟩) oa⟩⟩;have g:=sameNew (o:=.lst [V.ref d,V.ref t]) m;exact k L d t l _ ((b.trans w).trans g) (b.free<|w.free m) G (b.free ft) (b.free D) (g _ _<|w _ _ A) ⟨g _ _ P.1,let ⟨xs,g1,Z⟩:=P.2;⟨xs,g _ _ g1,Z.mono<|bV g⟩⟩ aw
theorem aeo(h:∀p,H p=none->Q (.ref p) (upd H p<|.dK [])):ag Γ .yQ σ H Q:=h
inductive w6(CS:Addr)(vs:List V)(H:Hp)(Q:VK)(E:XK):Prop|i(q dq:Addr)(x:Str)(_:vs=[.ref q,.str x])(_:H q=some (.ins CS dq []))(_:∀e H',H e=none->(∀z o,H z=some o->z≠q->H' z=some o)->H' q=some (.ins CS dq<|f6 x 0 0 .av .av<|.ref e)->H' e=some (.dK [])->Q .av H')
theorem aep(T:iq K CS):cp (w6 CS) (λE=>aO K [] [] (E:=E)) L4 L0:=by
 intro vs H Q E h;obtain⟨q,dq,x,rfl,X,k⟩:=h;refine dn<|af rfl<|af rfl ⟨q,CS,dq,_,rfl,X,T.cl,T.jC,(by simp),?_⟩
 have D:∀z o,H z=some o->z≠q->upd H q (.ins CS dq<|aI "signs" (.str x) []) z=some o:=λz o e n=>by rw[ax n];exact e
 have I:upd H q (.ins CS dq<|aI "signs" (.str x) []) q=some (.ins CS dq<|aI "signs" (.str x) []):=aw;generalize upd H q (.ins CS dq<|aI "signs" (.str x) [])=H1 at D I⊢;refine dn<|ay<|af rfl ⟨q,CS,dq,_,rfl,I,T.cl,T.mf,(by show 1<1000;decide),?_⟩
 have A:∀z o,H z=some o->z≠q->upd H1 q (.ins CS dq<|aI "known" (.int 0)<|aI "signs" (.str x) []) z=some o:=λz o e n=>by rw[ax n];exact D z o e n
 have N:upd H1 q (.ins CS dq<|aI "known" (.int 0)<|aI "signs" (.str x) []) q=some (.ins CS dq<|aI "known" (.int 0)<|aI "signs" (.str x) []):=aw;generalize upd H1 q (.ins CS dq<|aI "known" (.int 0)<|aI "signs" (.str x) [])=H2 at A N⊢;refine dn<|ay<|af rfl ⟨q,CS,dq,_,rfl,N,T.cl,T.tK,(by show 2<1000;decide),?_⟩
 have u:∀z o,H z=some o->z≠q->upd H2 q (.ins CS dq<|aI "serial" (.int 0)<|aI "known" (.int 0)<|aI "signs" (.str x) []) z=some o:=λz o e n=>by rw[ax n];exact A z o e n
 have G:upd H2 q (.ins CS dq<|aI "serial" (.int 0)<|aI "known" (.int 0)<|aI "signs" (.str x) []) q=some (.ins CS dq<|aI "serial" (.int 0)<|aI "known" (.int 0)<|aI "signs" (.str x) []):=aw;generalize upd H2 q (.ins CS dq<|aI "serial" (.int 0)<|aI "known" (.int 0)<|aI "signs" (.str x) [])=H3 at u G⊢;refine dn<|ay<|af rfl ⟨q,CS,dq,_,rfl,G,T.cl,T.iN,(by show 3<1000;decide),?_⟩
 generalize Fm:aI "flying" .av (aI "serial" (.int 0)<|aI "known" (.int 0)<|aI "signs" (.str x) [])=f4;have V:f4.length=4:=by rw[<-Fm];rfl
 have t:∀z o,H z=some o->z≠q->upd H3 q (.ins CS dq f4) z=some o:=λz o e n=>by rw[ax n];exact u z o e n
 have w:upd H3 q (.ins CS dq f4) q=some (.ins CS dq f4):=aw;generalize upd H3 q (.ins CS dq f4)=P at t w⊢;refine dn<|ay<|af rfl ⟨q,CS,dq,_,rfl,w,T.cl,T.j4,(by rw[V];decide),?_⟩
 generalize PM:aI "delayed" .av f4=f;have S:f.length=5:=by rw[<-PM,<-Fm];rfl
 have d:∀z o,H z=some o->z≠q->upd P q (.ins CS dq f) z=some o:=λz o e n=>by rw[ax n];exact t z o e n
 have R:upd P q (.ins CS dq f) q=some (.ins CS dq f):=aw;refine dn<|aeo λe m=>?_;have g:e≠q:=λy=>by lia
 refine af rfl ⟨q,CS,dq,_,rfl,(by rw[ax<|Ne.symm g];exact R),T.cl,T.qT,(by rw[S];decide),?_⟩
 refine k e _ ?_ (λz o b n=>?_) ?_ ?_
 ·cases b:H e with
  |none=>rfl
  |some o=>rw[d _ _ b g] at m;cases m
 ·rw[ax n,ax<|aM (d _ _ b n) m];exact d _ _ b n
 ·rw[aw,<-PM,<-Fm];exact congrArg (λl=>some<|HO.ins CS dq l) (aeb (kn:=0) (se:=0))
 ·rw[ax g];exact aw
theorem aeq(h:ag Γ a σ H λv H1=>∃p k,[v]=[.ref p]/\H1 p=some (.dK k)/\∀l,H1 l=none->Q (.ref l) (upd H1 l<|.dK k)):ag Γ (.xt Dy [a]) σ H Q:=h
inductive Fn(CS:Addr)(vs:List V)(H:Hp)(Q:VK)(E:XK):Prop|i(M:MS)(q dq e:Addr)(x:Str)(kn se:Nat)(fl de:Option (List Pt))(ea:bN)(_:vs=[.ref q])(_:bO M CS H q dq e x kn se fl de ea)(_:∀b f d H',aD H H'->H b=none->H d=none->b≠d->bO M CS H' b f d x kn se fl de ea->Q (.ref b) H')
theorem aer(T:iq K CS):cp (Fn CS) (λE=>aO K [] [] [] [] [("Stand",CS,w6 CS)] (E:=E)) L7 L6:=by
 intro vs H Q E h;obtain⟨M,q,dq,e,x,kn,se,fl,de,ea,rfl,S,k⟩:=h;obtain⟨l,t,w,h2,h3⟩:=S.ob;obtain⟨m,he,lk,pe⟩:=S.he;refine bW<|we CS (w6 CS) rfl<|bp<|af rfl ⟨q,CS,dq,_,_,rfl,w,T.cl,T.jC,Ax,λb f I Fo gM=>⟨b,f,x,rfl,aw,λg H1 c' b1 fk b'=>⟨rfl,?_⟩⟩⟩;have s1:∀z o,H z=some o->H1 z=some o:=λz o d=>b1 _ _ (by rw[ax<|aM d I,ax<|aM d Fo];exact d) (aM d I)
 have D:∀{z:Addr}{o:HO},H z=some o->z≠b:=λd=>aM d I;have a':=s1 _ _ w;refine dn<|bp<|af rfl ⟨q,CS,dq,_,_,rfl,a',T.cl,T.mf,rQ,af rfl ⟨b,CS,f,_,rfl,fk,T.cl,T.mf,(by simp),?_⟩⟩
 rw[PH];have V:∀z o,H z=some o->upd H1 b (.ins CS f<|f6 x kn 0 .av .av<|.ref g) z=some o:=λz o d=>by rw[ax<|D d];exact s1 _ _ d
 have fj:upd H1 b (.ins CS f<|f6 x kn 0 .av .av<|.ref g) b=some (.ins CS f<|f6 x kn 0 .av .av<|.ref g):=aw;generalize upd H1 b (.ins CS f<|f6 x kn 0 .av .av<|.ref g)=H2 at V fj⊢;refine dn<|bp<|af rfl ⟨q,CS,dq,_,_,rfl,V _ _ w,T.cl,T.tK,Fg,af rfl ⟨b,CS,f,_,rfl,fj,T.cl,T.tK,(by simp),?_⟩⟩
 rw[PJ];have R:∀z o,H z=some o->upd H2 b (.ins CS f<|f6 x kn se .av .av<|.ref g) z=some o:=λz o d=>by rw[ax<|D d];exact V _ _ d
 have iY:upd H2 b (.ins CS f<|f6 x kn se .av .av<|.ref g) b=some (.ins CS f<|f6 x kn se .av .av<|.ref g):=aw;generalize upd H2 b (.ins CS f<|f6 x kn se .av .av<|.ref g)=H3 at R iY⊢;refine dn<|bp<|af rfl ⟨q,CS,dq,_,_,rfl,R _ _ w,T.cl,T.iN,lB,af rfl ⟨b,CS,f,_,rfl,iY,T.cl,T.iN,(by show 6<1000;decide),?_⟩⟩
 rw[Ay];have P:∀z o,H z=some o->upd H3 b (.ins CS f<|f6 x kn se l .av<|.ref g) z=some o:=λz o d=>by rw[ax<|D d];exact R _ _ d
 have w_:upd H3 b (.ins CS f<|f6 x kn se l .av<|.ref g) b=some (.ins CS f<|f6 x kn se l .av<|.ref g):=aw;generalize upd H3 b (.ins CS f<|f6 x kn se l .av<|.ref g)=H4 at P w_⊢;refine dn<|bp<|af rfl ⟨q,CS,dq,_,_,rfl,P _ _ w,T.cl,T.j4,rR,af rfl ⟨b,CS,f,_,rfl,w_,T.cl,T.j4,(by show 6<1000;decide),?_⟩⟩
 rw[wQ];have u:∀z o,H z=some o->upd H4 b (.ins CS f<|f6 x kn se l t<|.ref g) z=some o:=λz o d=>by rw[ax<|D d];exact P _ _ d
 have X:upd H4 b (.ins CS f<|f6 x kn se l t<|.ref g) b=some (.ins CS f<|f6 x kn se l t<|.ref g):=aw;generalize upd H4 b (.ins CS f<|f6 x kn se l t<|.ref g)=H5 at u X⊢;refine dn<|aeq<|bp<|af rfl ⟨q,CS,dq,_,_,rfl,u _ _ w,T.cl,T.qT,wO,e,m,rfl,u _ _ he,λA N=>?_⟩;have Z:b≠A:=aM X N;refine af rfl ⟨b,CS,f,_,rfl,(by rw[ax Z];exact X),T.cl,T.qT,(by show 6<1000;decide),?_⟩
 rw[aec];have G:aD H (upd (upd H5 A<|.dK m) b<|.ins CS f<|f6 x kn se l t<|.ref A):=λz o d=>by
  rw[ax<|D d,ax<|aM (u _ _ d) N];exact u _ _ d
 have fe:H A=none:=by
  cases d:H A with
  |none=>rfl
  |some o=>rw[u _ _ d] at N;cases N
 refine cq<|af rfl<|k b f A _ G I fe Z ⟨⟨l,t,aw,h2.same G,h3.same G⟩,⟨m,by rw[ax<|Ne.symm Z];exact aw,lk,λn=>(pe n).same G⟩,S.nd⟩
inductive xb(vs:List V)(H:Hp)(Q:VK)(E:XK):Prop|i(a xs ps:_)(_:vs=[.ref a])(_:H a=some (.lst xs))(_:aH H xs ps)(_:(∀p∈ps,aX p))(_:chainOk "" ps=true)(_:∀H',aD H H'->Q (.bl true) H')
theorem aet:cp (xb) (λE=>aO K [("need_change",zw)] [("BadChange",.ref CB)] (E:=E)) Lc jB:=by
 intro vs H Q E h;obtain⟨a,xs,ps,rfl,d,b,k,f,q⟩:=h;exact⟨CB,rfl,d5<|bP zw rfl<|aC<|af rfl<|aN ⟨a,xs,ps,rfl,d,b,k,f,λH' s=>cq<|ay<|q H' s⟩⟩
inductive Fp(C CS:Addr)(vs:List V)(H:Hp)(Q:VK)(E:XK):Prop|i(p dp:Addr)(own:Nat)(x:Str)(_:vs=[.ref p,.int (own:Nat),.str x])(_:H p=some (.ins C dp []))(_:own<=7)(_:good x)(_:∀q dq e H',H q=none->H e=none->q≠e->(∀z o,H z=some o->z≠p->H' z=some o)->d_ (λ_=>False) C CS H' p dp q dq e own x 0 0 none none ⟨λ_=>none,0⟩->Q .av H')
theorem aeu(T:iO K C):cp (Fp C CS) (λE=>aO K [("is_between",jI),("need_text",rm)] [("MOST_HANDS",.int 8)] [] [] [("Stand",CS,w6 CS)] (et:=[("NoHand",CN)]) (E:=E)) Mf Me:=by
 intro vs H Q E h;obtain⟨p,dp,own,x,rfl,S,ho,X,k⟩:=h;refine bQ<|iy<|nY jI rfl<|aC<|af rfl<|aC<|ay<|aC<|bL<|El<|ay<|nZ<|aN ⟨_,_,_,rfl,by lia,by lia,iW<|iF (dJ ?_) rfl⟩
 refine d5<|bP rm rfl<|aC<|af rfl<|aN ⟨x,rfl,X,?_⟩;refine dn<|af rfl<|af rfl ⟨p,C,dp,_,rfl,S,T.cl,T.vP,(by simp),?_⟩
 have l:∀z o,H z=some o->z≠p->upd H p (.ins C dp<|aI "number" (.int (own:Nat)) []) z=some o:=λz o e n=>by rw[ax n];exact e
 have t:upd H p (.ins C dp<|aI "number" (.int (own:Nat)) []) p=some (.ins C dp<|aI "number" (.int (own:Nat)) []):=aw;generalize upd H p (.ins C dp<|aI "number" (.int (own:Nat)) [])=H1 at l t⊢;refine dn<|we CS (w6 CS) rfl<|af rfl λq dq g Fo gM=>⟨q,dq,x,rfl,aw,λe H2 d b2 Z I=>⟨rfl,?_⟩⟩;have u:∀z o,H1 z=some o->H2 z=some o:=λz o b=>b2 _ _ (by rw[ax<|aM b g,ax<|aM b Fo];exact b) (aM b g)
 have fA:=u _ _ t;have N:p≠q:=aM t g;have P:p≠e:=λy=>by lia
 have w:q≠e:=λy=>by lia
 refine af rfl ⟨p,C,dp,_,rfl,fA,T.cl,T.kN,(by show 1<1000;decide),?_⟩
 have D:∀{z:Addr},H1 z=none->z≠p->H z=none:=λ{z} A n=>by
  cases b:H z with
  |none=>rfl
  |some o=>rw[l _ _ b n] at A;cases A
 have m:=by
  have R:e≠q:=w.symm;rw[ax R] at d;by_cases y:e=dq
  ·rw[y,aw] at d;cases d
  ·rw[ax y] at d;exact d
 refine k q dq e _ (D g N.symm) (D m P.symm) w (λz o b n=>?_) ⟨?_,⟨.av,.av,?_,rfl,rfl⟩,⟨[],?_,zqZ _,λ_=>rfl⟩,nofun⟩
 ·rw[ax n];exact u _ _ (l _ _ b n)
 ·rw[aw];have G:∀(f:Str) (v:V),aI f v []=[(f,v)]:=λ_ _=>rfl;rw[G,eJ (by decide+kernel),G]
 ·rw[ax N.symm];exact Z
 ·rw[ax P.symm];exact I
variable {K:Frag}{M:MS}{C:Addr}{H H':Hp}{p dx se ch mk:Addr}{x:Str}{ai:List Nat}{tk:List (Nat×List Pt)}
theorem pZ{b:RE}{r:List RE}(h:aY Γ a σ H λc H1=>if c=true then T true H1 else aY Γ (.or (b::r)) σ H1 T):aY Γ (.or (a::b::r)) σ H T:=h
theorem xf(h:aY Γ a σ H T):aY Γ (.or [a]) σ H T:=h
theorem Fq(h:ag Γ (.call j as) σ H λx H1=>jW Γ.K x H1 λb=>T b H1):aY Γ (.call j as) σ H T:=h
theorem xg{a:Addr}{k:Nat->Prop}(h:H a=some (.tup xs))(q:k xs.length):qy K (.ref a) H k:=.inr ⟨xs,aK.of h,q⟩
theorem AH{l:Addr}(f:Γ.fs j=mq Γ.K)(e:σ[i]?=some (some<|.ref l))(h:H l=some (.tup (.str w::vs)))(q:∀H',aD H H'->Q (.bl true) H'):ag Γ (.call j [(.ix (.v i)<|.c<|.int 0),(.tup [(.c<|.str w)])]) σ H Q:=by
 refine bP (mq Γ.K) f<|aC<|bx<|af e<|ay<|cv h (show gG (V.str w::vs) ((0:Nat):Int)=_ from gg rfl)<|aC<|jh<|aC<|ay<|aN ⟨jN,λt b=>aN ⟨w,t,_,rfl,aK.of aw,rfl,?_⟩⟩
 have e:gX (.str w) [.str w]=true:=by show((w==w)||false)=true;rw[Pw];rfl
 rw[e];exact q _ (sameNew b)
abbrev Fs(own n cC:Nat)(b:Addr):List V:=[.str "took",.int (own:Nat),.int (n:Nat),.int (cC:Nat),.ref b]
inductive Ft(C:Addr)(vs:List V)(H:Hp)(Q:VK)(E:XK):Prop|i(p dp d l b:Addr)(own n cC:Nat)(ys:List V)(c:List Pt)(_:vs=[.ref p,.ref l])(_:H p=some (.ins C dp<|f2 own d))(_:H l=some (.tup<|Fs own n cC b))(_:1<=n)(_:cC<=7)(_:H b=some (.lst ys))(_:aH H ys c)(_:(∀p∈c,aX p))(_:chainOk "" c=true)(_:∀H',aD H H'->Q .av H')
theorem aew(T:iO K C):cp (Ft C) (λE=>aO K [("is_word",mq K),("is_whole",qU),("is_between",jI),("is_change",xb)] [("MOST_HANDS",.int 8)] (et:=[("BadLetter",CB)]) (E:=E)) MA o5:=by
 intro vs H Q E h;obtain⟨p,dp,D,G,b,own,n,cC,ys,c,rfl,u,l,N,I,w,m,t,A,k⟩:=h;refine bQ<|pZ<|iy<|wG<|af rfl<|vR l<|iF (pZ<|bF<|iz<|af rfl<|xg l<|ay<|pT ⟨_,rfl,iF (xf<|iy<|Fq<|AH rfl rfl l λH1 f=>iW (iF (dJ ?_) rfl)) rfl⟩) rfl;have d:=f _ _ l;refine bQ<|pZ<|iy<|nY qU rfl<|aC<|bx<|af rfl<|ay<|cv d rfl<|aN ⟨_,rfl,iW<|iF (xf<|bF<|bx<|af rfl<|ay<|cv d rfl<|bp<|af rfl ⟨p,C,dp,_,_,rfl,(f _ _ u),T.cl,T.vP,Az,pT ⟨_,rfl,iF (dJ ?_) (by lia)⟩⟩) rfl⟩
 refine bQ<|pZ<|iy<|nY qU rfl<|aC<|bx<|af rfl<|ay<|cv d rfl<|aN ⟨_,rfl,iW<|iF (pZ<|bF<|bx<|af rfl<|ay<|cv d rfl<|ay ⟨trivial,_,rfl,iF ?_<|zqF (by lia)⟩) rfl⟩
 refine xf<|iy<|nY jI rfl<|aC<|bx<|af rfl<|ay<|cv d rfl<|aC<|ay<|aC<|bL<|El<|ay<|nZ<|aN ⟨_,_,_,rfl,by lia,by lia,iW<|iF (dJ ?_) rfl⟩
 exact bQ<|iy<|nY xb rfl<|aC<|bx<|af rfl<|ay<|cv d rfl<|aN ⟨b,ys,c,rfl,f _ _ w,m.mono<|bV f,t,A,λH2 g=>iW<|iF (dJ<|k _<|f.trans g) rfl⟩
end
def OC:Option (List Pt)->List Nat->List Nat->Prop
 |none,l,r=>l=r
 |some ps,l,r=>bG ps l r
def bR:Option (List Pt)->Nat
 |none=>0
 |some ps=>az ps
def pP(c:List Pt):Option (List Pt)->List Pt
 |none=>c
 |some f=>rO c f
def pF(c:List Pt)(o:Option (List Pt)):Option (List Pt):=o.map (f9 c)
theorem OC.pass:∀{o:Option (List Pt)},OC o l m->bG c l g->az c<=5200->bR o<=5200->∃e,OC (pF c o) g e/\bG (pP c o) m e/\bR (pF c o)<=bR o/\az (pP c o)<=az c
 |none,h,d,_,_=>by
  subst h;exact⟨g,rfl,d,zqR _,zqR _⟩
 |some f,h,d,u,k=>by
  have t:az f<=5200:=k;obtain⟨⟨r,a,b⟩,q,p,_⟩:=ad_ d (show bG f l m from h) (by lia) (by lia)
  exact⟨r,a,b,q,p⟩
theorem OC.len:∀{o:Option (List Pt)},OC o l m->m.length<=l.length+bR o
 |none,h=>by rw[show l=m from h];exact Nat.le_add_right _ _
 |some f,h=>(show bG f l m from h).run.len
theorem og{n:List Nat}(h:bG c l n)(t:az c<=5200):c.length<=10401:=by
 have:=(E6 c "" h.ch h.ok).1;lia
section
variable {K:Frag}{M M':MS}{C CS:Addr}{H H':Hp}{p dp q dq e:Addr}{own:Nat}{x:Str}{kn se:Nat}{fl de:Option (List Pt)}{ea:bN}
theorem bO.xh(S:bO M CS H q dq e x kn se fl de ea)(f:H z=none){u:Nat×Addr×List Pt}(h:ea n=some u):u.2.1≠z:=λy=>by
 obtain⟨k,_,_,d⟩:=S.he;have:=d n;rw[h] at this;obtain⟨t,xs,_,_,b,_⟩:=this;rw[y,f] at b;cases b
theorem bO.qs(S:bO M CS H q dq e x kn se fl de ea):∃f,H q=some (.ins CS dq f):=let ⟨_,_,h,_⟩:=S.ob;⟨_,h⟩
theorem AI{v:V}{N:MS}{d:Addr}(h:H d=some (.lst xs))(b:aH H xs ps)(n:¬N d):cZ N H (.ref d) (some ps):=⟨d,xs,rfl,h,b,n⟩
abbrev ur(K:Frag)(E:XK):aQ:=aO K [("passed",wA),("done",rn)] [] (E:=E)
theorem PQ{D:Ends}{r:List RS}{g:Str}{S:List (Str×V)}{N:MS}{o:Option (List Pt)}{a:Addr}{l l' m:List Nat}{u:Option V}(T:e9 K CS)(I:eE K CS g)(R:H q=some (.ins CS dq S))(X:S.lookup g=some v)(hl:S.length<1000)(ho:cZ N H v o)(ha:H a=some (.lst xs))(pv:aH H xs c)(w:bG c l l')(k:OC o l m)(t1:az c<=5200)(t2:bR o<=5200)
  (k0:o=none->∀u,aE (ur K E) r D [some<|.ref q,some<|.ref a,u] H)
  (k1:∀f,o=some f->∀h d H1 A G u,aD H H1->H h=none->H d=none->h≠d->H1 h=some (.lst A)->H1 d=some (.lst G)->aH H1 A (rO c f)->aH H1 G (f9 c f)->aE (ur K E) r D [some<|.ref q,some<|.ref h,u] (upd H1 q<|.ins CS dq<|aI g (.ref d) S)):
  aE (ur K E) (.ite (.cmp .IsNot (.fld (.v 0) g)<|.c .av) [.asg 2<|.call 0 [.v 1,(.fld (.v 0) g)],.asg 1<|.ix (.v 2)<|.c<|.int 0,.bS (.v 0) g<|.ix (.v 2)<|.c<|.int 1] []::r) D [some<|.ref q,some<|.ref a,u] H:=by
 cases o with
 |none=>
  cases (show v=.av from ho)
  exact bQ<|bF<|bp<|af rfl ⟨q,CS,dq,_,_,rfl,R,T,I,X,ay<|uo ⟨_,rfl,iF (dJ<|k0 rfl _) (rfl)⟩⟩
 |some f=>
  obtain⟨b,ys,rfl,hb,pb,_⟩:=(show eL N H v f from ho)
  have t2:az f<=5200:=t2;have l1:=og w t1;have l2:=og k t2;refine bQ<|bF<|bp<|af rfl ⟨q,CS,dq,_,_,rfl,R,T,I,X,ay<|uo ⟨_,rfl,iT (bW<|bP wA rfl<|aC<|af rfl<|aC<|bp<|af rfl ⟨q,CS,dq,_,_,rfl,R,T,I,X,aN ⟨a,b,xs,ys,c,f,l,l',m,rfl,ha,hb,pv,pb,w.ok,k.ok,w.ch,k.ch,by lia,by lia,w.run,k.run,λt h d H1 A G ps qs Z fc fd gy ht jO hd pz pw P=>?_⟩⟩) (rfl)⟩⟩
  rw[<-(ad9 w.ok P (by lia))] at pz;rw[<-((Pr k.ok P (by lia)).1)] at pw;exact bW<|bx<|af rfl<|ay<|cv ht rfl (dn<|bx<|af rfl<|ay<|cv ht rfl<|af rfl ⟨q,CS,dq,_,rfl,Z _ _ R,T,I,hl,k1 f rfl h d H1 A G _ Z fc fd gy jO hd pz pw⟩)
inductive Fu(CS:Addr)(vs:List V)(H:Hp)(Q:VK)(E:XK):Prop|i(M:MS)(q dq e:Addr)(x:Str)(kn se:Nat)(fl de:Option (List Pt))(ea:bN)(a:Addr)(xs:List V)(c:List Pt)(l f m:List Nat)(_:vs=[.ref q,.ref a])(_:bO (M.add a) CS H q dq e x kn se fl de ea)(_:Al M H)(_:H a=some (.lst xs))(_:aH H xs c)(_:bG c l f)(_:OC fl l m)(_:OC de m x.cps.toList)(_:az c<=5200)(_:bR fl<=5200)(_:bR de<=5200)(_:good x)(_:x.length<=100000)(_:∀b d r H',Run x.cps.toList (pP (pP c fl) de) r->bw (· =q) H H'->(b=a\/H b=none)->bO (M.add b) CS H' q dq e ⟨r.toArray⟩ kn se (pF c fl) (pF (pP c fl) de) ea->H' b=some (.lst d)->aH H' d (pP (pP c fl) de)->Q (.ref b) H')
theorem aex(T:iq K CS):cp (Fu CS) (λE=>ur K E) Mc Mb:=by
 intro vs H Q E h;obtain⟨M,q,dq,e,x,kn,se,fl,de,ea,a,xs,c,l,l',m,rfl,S,al,ha,pv,hc,hf,hd,t1,t2,t3,gx,lx,k⟩:=h;obtain⟨m',Ck,jO,tf,tc⟩:=hf.pass hc t1 t2;obtain⟨r,lN,R,td,i'⟩:=hd.pass jO (by lia) t3
 have e':∀D bC H' A,bw (· =q) H H'->(D=a\/H D=none)->bO (M.add D) CS H' q dq e x kn se (pF c fl) (pF (pP c fl) de) ea->H' D=some (.lst bC)->aH H' bC (pP (pP c fl) de)->aE (ur K E) [.bS (.v 0) "signs"<|.call 1 [(.fld (.v 0) "signs"),.v 1],.ret<|.v 1] (Dn Q) [some<|.ref q,some<|.ref D,A] H':=by
  intro D bC H' A b' fa S' iP mK;obtain⟨V,X,t,h2,h3⟩:=S'.ob;have rl:=R.run.len;have j':=len_list x;have ls:=og R (by lia)
  refine dn<|bP rn rfl<|aC<|bp<|af rfl ⟨q,CS,dq,_,_,rfl,t,T.cl,T.jC,Ax,aC<|af rfl<|aN ⟨x,D,bC,_,r,rfl,gx,iP,mK,R.ok,R.ch,by lia,R.run,by lia,λH2 b=>?_⟩⟩
  refine af rfl ⟨q,CS,dq,_,rfl,b _ _ t,T.cl,T.jC,(by show 6<1000;decide),?_⟩
  rw[Fh];have P:=(S'.same b).put (x':=⟨r.toArray⟩) (kn':=kn) (se':=se) (h2.same b) (h3.same b);have Z:=rS (o:=.ins CS dq (f6 ⟨r.toArray⟩ kn se V X<|.ref e)) (b _ _ t);refine cq<|af rfl<|k D bC r _ R.run (b'.trans<|(bw.same b).trans bw.upd) fa P ?_<|(mK.mono<|bV b).mono Z;rw[ax (λy=>by rw[y,t] at iP;cases iP)];exact b _ _ iP
 have nM:∀{H0:Hp}{z:Addr},Al M H0->H0 z=none-> ¬M z:=λal g hm=>by obtain⟨o,ho⟩:=al _ hm;rw[g] at ho;cases ho
 have w:∀N gN H1 A,bw (· =q) H H1->(N=a\/H N=none)->bO (M.add N) CS H1 q dq e x kn se (pF c fl) de ea->H1 N=some (.lst gN)->aH H1 gN (pP c fl)->aE (ur K E) [.ite (.cmp .IsNot (.fld (.v 0) "delayed")<|.c .av) [.asg 2<|.call 0 [.v 1,(.fld (.v 0) "delayed")],.asg 1<|.ix (.v 2)<|.c<|.int 0,.bS (.v 0) "delayed"<|.ix (.v 2)<|.c<|.int 1] [],.bS (.v 0) "signs"<|.call 1 [(.fld (.v 0) "signs"),.v 1],.ret<|.v 1] (Dn Q) [some<|.ref q,some<|.ref N,A] H1:=by
  intro N gN H1 A b1 f' S1 eP mM;obtain⟨V,X,t,h2,h3⟩:=S1.ob;have AJ:Al M H1:=λz g=>by
   by_cases y:z=q
   ·exact⟨_,by rw[y];exact t⟩
   ·obtain⟨o,ho⟩:=al z g;exact⟨o,b1 _ _ ho y⟩
  refine PQ T.cl T.j4 t rR (by show 6<1000;decide) h3 eP mM jO hd (by lia) t3 (λe0 A=>?_)<|λf ef c' d H2 zs ws A b fc fd gy G I pz pw=>?_
  ·subst e0;exact e' N gN H1 A b1 f' S1 eP mM
  ·subst ef;rw[wQ];have fr:∀{z:Addr},H1 z=none->H z=none:=λ{z} g=>by
    cases ez:H z with
    |none=>rfl
    |some o=>
     by_cases y:z=q
     ·rw[y,t] at g;cases g
     ·rw[b1 _ _ ez y] at g;cases g
   have P:=(S1.weak (M':=M.add c') λz g=>g.elim (λy=>.inr<|y ▸ fc) λy=>.inl (.inr y)).same b;obtain⟨Fv,Fw,g1,g2,g3⟩:=P.ob;have e1:=b _ _ t;rw[g1] at e1;have g':Fv=V:=by cases e1;rfl
   subst g';have S3:=P.put (x':=x) (kn':=kn) (se':=se) (vd:=.ref d) g2 (AI (v:=.av) I pw λg=>by
    rcases g with(y|y)|⟨n,u,hu,y⟩
    ·exact gy y.symm
    ·exact nM AJ fd y
    ·exact S1.xh fd hu y)
   have Z:=rS (o:=.ins CS dq (f6 x kn se Fv (.ref d)<|.ref e)) (b _ _ t);refine e' c' zs _ A (b1.trans<|(bw.same b).trans bw.upd) (.inr<|fr fc) S3 ?_<|pz.mono Z;rw[ax (λy=>by rw[y,b _ _ t] at G;cases G)];exact G
 obtain⟨V,X,t,h2,h3⟩:=S.ob;refine PQ T.cl T.iN t lB (by show 6<1000;decide) h2 ha pv hc hf t1 t2 (λe0 A=>?_)<|λf ef c' d H2 zs ws A b fc fd gy G I pz pw=>?_
 ·subst e0;exact w a xs H A (λ_ _ z _=>z) (.inl rfl) S ha pv
 ·subst ef;rw[Ay];have P:=(S.weak (M':=M.add c') λz g=>g.elim (λy=>.inr<|y ▸ fc) λy=>.inl (.inr y)).same b;obtain⟨Fv,Fw,g1,g2,g3⟩:=P.ob;have e1:=b _ _ t;rw[g1] at e1;have h':Fw=X:=by cases e1;rfl
  subst h';have S3:=P.put (x':=x) (kn':=kn) (se':=se) (vf:=.ref d) (fl':=some (f9 c f)) (AI (v:=.av) I pw λg=>by
   rcases g with(y|y)|⟨n,u,hu,y⟩
   ·exact gy y.symm
   ·exact nM al fd y
   ·exact S.xh fd hu y) g3
  have Z:=rS (o:=.ins CS dq (f6 x kn se (.ref d) Fw<|.ref e)) (b _ _ t);refine w c' zs _ A ((bw.same b).trans bw.upd) (.inr fc) S3 ?_<|pz.mono Z;rw[ax (λy=>by rw[y,b _ _ t] at G;cases G)];exact G
theorem d_.pq(S:d_ M C CS H p dp q dq e own x kn se fl de ea):p≠q:=λy=>by
 obtain⟨_,_,h,_⟩:=S.st.ob;have:=S.ob;rw[y,h] at this;cases this
theorem fr_but{D:Addr}(b:bw (· =q) H H1)(h:H1 q=some (.ins D dq g))(d:H1 z=none):H z=none:=by
 cases f:H z with
 |none=>rfl
 |some o=>
  by_cases y:z=q
  ·rw[y,h] at d;cases d
  ·rw[b _ _ f y] at d;cases d
theorem Al.but{D:Addr}(l:Al M H)(b:bw (· =q) H H1)(h:H1 q=some (.ins D dq g)):Al M H1:=λz d=>by
 by_cases y:z=q
 ·exact⟨_,y▸h⟩
 ·obtain⟨o,f⟩:=l z d;exact⟨o,b _ _ f y⟩
theorem Al.no(l:Al M H)(b:H z=none):¬M z:=λm=>by obtain⟨o,h⟩:=l _ m;rw[b] at h;cases h
def DoK(M:MS)(C CS:Addr)(H:Hp)(Q:VK)(p dp q dq e:Addr)(own:Nat)(kn se:Nat)(ea:bN)(c:List Pt)(m r:List Nat):Option (List Pt)->Option (List Pt)->Prop
 |none,_=>∀L t l H',bw (· =q) H H'->H L=none->H t=none->H l=none->d_ ((M.add L).add l) C CS H' p dp q dq e own ⟨r.toArray⟩ kn (se+1) (some c) none ea->H' L=some (.lst [.ref t])->uq H' t own (se+1) kn c l->Q (.ref L) H'
 |some f,none=>∀L H',bw (· =q) H H'->H L=none->d_ (M.add L) C CS H' p dp q dq e own ⟨r.toArray⟩ kn se (some f) (some c) ea->H' L=some (.lst [])->Q (.ref L) H'
 |some f,some d=>∀L ps H',bw (· =q) H H'->H L=none->EC d c ps m r->d_ (M.add L) C CS H' p dp q dq e own ⟨r.toArray⟩ kn se (some f) (some ps) ea->H' L=some (.lst [])->Q (.ref L) H'
inductive AK(C CS:Addr)(vs:List V)(H:Hp)(Q:VK)(E:XK):Prop|i(M:MS)(p dp q dq e:Addr)(own:Nat)(x:Str)(kn se:Nat)(fl de:Option (List Pt))(ea:bN)(a:Addr)(xs:List V)(c:List Pt)(m r:List Nat)(_:vs=[.ref p,.ref a])(_:d_ M C CS H p dp q dq e own x kn se fl de ea)(_:Al M H)(_:(fl=none->de=none))(_:H a=some (.lst xs))(_:aH H xs c)(_:bG c x.cps.toList r)(_:OC de m x.cps.toList)(_:az c<=5200)(_:bR de<=5200)(_:good x)(_:x.length<=100000)(_:DoK M C CS H Q p dp q dq e own kn se ea c m r fl de)
abbrev PR(K:Frag)(C CS:Addr)(E:XK):aQ:=aO K [("done",rn),("then",ED)] [] [] [("take_off",C,wY C CS)] (E:=E)
theorem aeD(T:iO K C)(w:iq K CS):cp (AK C CS) (λE=>PR K C CS E) Mx Mw:=by
 intro vs H Q E h;obtain⟨M,p,dp,q,dq,e,own,x,kn,se,fl,de,ea,a,xs,c,m,r,rfl,S,al,fd,ha,pv,R,hd,t1,t2,gx,lx,k⟩:=h;have dN:=S.pq;obtain⟨D,vd,A,X,h3⟩:=S.st.ob;have rl:=R.run.len;have g':=len_list x;have ls:=og R t1;refine bW<|bp<|af rfl ⟨p,C,dp,_,_,rfl,S.ob,T.cl,T.kN,n_,?_⟩;refine bW<|bP rn rfl<|aC<|bp<|af rfl ⟨q,CS,dq,_,_,rfl,A,w.cl,w.jC,Ax,aC<|af rfl<|aN ⟨x,a,xs,_,r,rfl,gx,ha,pv,R.ok,R.ch,by lia,R.run,by lia,λH1 P=>?_⟩⟩
 have S1:=S.same P;have AJ:Al M H1:=λz I=>let ⟨o,ho⟩:=al z I;⟨o,P _ _ ho⟩;have eP:=P _ _ ha;have mM:=pv.mono (bV P)
 replace A:=P _ _ A
 replace X:=X.same P
 replace h3:=h3.same P
 have c':∀{f:List Pt}{d':List Pt}{H2:Hp}{b:Addr}{ys:List V},fl=some f->aD H1 H2->H1 b=none->H2 b=some (.lst ys)->aH H2 ys d'->(∀L H',bw (· =q) H H'->H L=none->d_ (M.add L) C CS H' p dp q dq e own ⟨r.toArray⟩ kn se (some f) (some d') ea->H' L=some (.lst [])->Q (.ref L) H')->aE (PR K C CS E) [.bS (.v 2) "signs"<|.v 3,.ret<|.kE (.cmp .Is (.fld (.v 2) "flying")<|.c .av) (.aS 0 "take_off" (.v 0) [.v 2,(.blt .list [.v 1])])<|.lst []] (Dn Q) [some<|.ref p,some<|.ref a,some<|.ref q,some<|.str ⟨r.toArray⟩] (upd H2 q<|.ins CS dq<|f6 x kn se D (.ref b)<|.ref e):=by
  intro f d' H2 b ys ef G N hb pb kk;subst ef;have S2:=(S1.st.same G).put (x':=x) (kn':=kn) (se':=se) (vd:=.ref b) (de':=some d') (X.same G) (AI (v:=.av) hb pb λI=>I.elim (AJ.no N) λ⟨n,u,hu,y⟩=>S1.st.xh N hu y);have Z:bw (· =q) H (upd H2 q<|.ins CS dq<|f6 x kn se D (.ref b)<|.ref e):=(bw.same<|P.trans G).trans bw.upd;have fj:upd H2 q (.ins CS dq<|f6 x kn se D (.ref b)<|.ref e) q=some (.ins CS dq<|f6 x kn se D (.ref b)<|.ref e):=aw;have PU:=(X.same G).ins (o:=.ins CS dq (f6 x kn se D (.ref b)<|.ref e)) (G _ _ A);have rC:cZ (M.ea ea) (upd H2 q<|.ins CS dq<|f6 x kn se D (.ref b)<|.ref e) (.ref b) (some d'):=(AI (v:=.av) hb pb λI=>I.elim (AJ.no N) λ⟨n,u,hu,y⟩=>S1.st.xh N hu y:cZ (M.ea ea) H2 (.ref b) (some d')).ins (G _ _ A);generalize upd H2 q (.ins CS dq<|f6 x kn se D (.ref b)<|.ref e)=H3 at S2 Z fj PU rC⊢;refine dn<|af rfl<|af rfl ⟨q,CS,dq,_,rfl,fj,w.cl,w.jC,(by show 6<1000;decide),?_⟩
  rw[Fh];have S3:=S2.put (x':=⟨r.toArray⟩) (kn':=kn) (se':=se) (fl':=some f) (de':=some d') PU rC;have b3:bw (· =q) H (upd H3 q<|.ins CS dq<|f6 ⟨r.toArray⟩ kn se D (.ref b)<|.ref e):=Z.trans bw.upd;have iY:upd H3 q (.ins CS dq<|f6 ⟨r.toArray⟩ kn se D (.ref b)<|.ref e) q=some (.ins CS dq<|f6 ⟨r.toArray⟩ kn se D (.ref b)<|.ref e):=aw;obtain⟨fa,e',rfl,_⟩:=(show eL (M.ea ea) H1 D f from X)
  refine cq<|pY<|bF<|bp<|af rfl ⟨q,CS,dq,_,_,rfl,iY,w.cl,w.iN,lB,ay<|n5 ⟨_,rfl,iF (eY<|aN ⟨zqZ _,λL fL=>?_⟩) oa⟩⟩;have s5:=sameNew (o:=.lst []) fL;exact kk L _ (b3.trans<|bw.same s5) (fr_but b3 iY fL) ⟨s5 _ _<|b3 _ _ S.ob dN,(S3.weak (M':=M.add L) λz I=>I.elim (λy=>.inr<|y ▸ fL) .inl).same s5⟩ aw
 cases de with
 |some d=>
  cases fl with
  |none=>cases fd rfl
  |some f=>
   obtain⟨b,ys,rfl,hb,pb,nb⟩:=(show eL (M.ea ea) H1 vd d from h3)
   have hd:bG d m x.cps.toList:=hd;have t2:az d<=5200:=t2;have ld:=og hd t2;refine bQ<|bF<|bp<|af rfl ⟨q,CS,dq,_,_,rfl,A,w.cl,w.j4,rR,ay<|uo ⟨_,rfl,iT ?_ (by rw[oa];rfl)⟩⟩
   refine dn<|bP ED rfl<|aC<|bp<|af rfl ⟨q,CS,dq,_,_,rfl,A,w.cl,w.j4,rR,aC<|af rfl<|aN ⟨b,a,ys,xs,d,c,m,x.cps.toList,r,rfl,hb,eP,pb,mM,hd.ok,R.ok,hd.ch,R.ch,by lia,by lia,hd.run,R.run,λz H2 zs ps G fz I pz g=>?_⟩⟩
   refine af rfl ⟨q,CS,dq,_,rfl,G _ _ A,w.cl,w.j4,(by show 6<1000;decide),?_⟩
   rw[wQ];exact c' rfl G fz I pz λL H' b' fL S' hL=>k L ps H' b' fL g S' hL
 |none=>
  cases (show vd=.av from h3)
  refine bQ<|bF<|bp<|af rfl ⟨q,CS,dq,_,_,rfl,A,w.cl,w.j4,rR,ay<|uo ⟨_,rfl,iF ?_ (by rw[zqT rfl];rfl)⟩⟩
  cases fl with
  |some f=>
   obtain⟨fa,e',rfl,_⟩:=(show eL (M.ea ea) H1 D f from X)
   refine bQ<|bF<|bp<|af rfl ⟨q,CS,dq,_,_,rfl,A,w.cl,w.iN,lB,ay<|uo ⟨_,rfl,iT ?_ (by rw[oa];rfl)⟩⟩
   refine dn<|pW<|af rfl ⟨_,.inl<|aB.of eP,λb N=>?_⟩;have G:=sameNew (o:=.lst xs) N;refine af rfl ⟨q,CS,dq,_,rfl,G _ _ A,w.cl,w.j4,(by show 6<1000;decide),?_⟩
   rw[wQ];exact c' rfl G N aw (mM.mono<|bV G) k
  |none=>
   cases (show D=.av from X)
   refine bQ<|bF<|bp<|af rfl ⟨q,CS,dq,_,_,rfl,A,w.cl,w.iN,lB,ay<|uo ⟨_,rfl,iF (dJ ?_) (by rw[zqT rfl];rfl)⟩⟩
   refine dn<|af rfl<|af rfl ⟨q,CS,dq,_,rfl,A,w.cl,w.jC,(by show 6<1000;decide),?_⟩
   rw[Fh];have S2:=S1.st.put (x':=⟨r.toArray⟩) (kn':=kn) (se':=se) (fl':=none) (de':=none) X h3;have Z:bw (· =q) H (upd H1 q<|.ins CS dq<|f6 ⟨r.toArray⟩ kn se .av .av<|.ref e):=(bw.same P).trans bw.upd;have fj:upd H1 q (.ins CS dq<|f6 ⟨r.toArray⟩ kn se .av .av<|.ref e) q=some (.ins CS dq<|f6 ⟨r.toArray⟩ kn se .av .av<|.ref e):=aw;have tT:=rS (o:=.ins CS dq (f6 ⟨r.toArray⟩ kn se .av .av<|.ref e)) A;have h_:upd H1 q (.ins CS dq<|f6 ⟨r.toArray⟩ kn se .av .av<|.ref e) a=some (.lst xs):=by rw[ax (λy=>by rw[y,A] at eP;cases eP)];exact eP
   have AE:=mM.mono tT;generalize upd H1 q (.ins CS dq<|f6 ⟨r.toArray⟩ kn se .av .av<|.ref e)=H2 at S2 Z fj tT h_ AE⊢;refine cq<|pY<|bF<|bp<|af rfl ⟨q,CS,dq,_,_,rfl,fj,w.cl,w.iN,lB,ay<|n5 ⟨_,rfl,iT ?_<|zqT rfl⟩⟩;have fA:=Z _ _ S.ob dN;refine Aq C (wY C CS) rfl<|af rfl ⟨p,dp,_,rfl,fA,iA,af rfl<|pW<|af rfl ⟨_,.inl<|aB.of h_,λb N=>?_⟩⟩;have s3:=sameNew (o:=.lst xs) N;have PV:upd H2 b (.lst xs) b=some (.lst xs):=aw;generalize upd H2 b (.lst xs)=H3 at s3 PV⊢;have f':=al.but Z fj;refine⟨M,p,dp,q,dq,e,q,.ref b,own,⟨r.toArray⟩,kn,se,c,none,none,ea,rfl,s3 _ _ fA,dN,S2.same s3,⟨b,xs,rfl,PV,AE.mono<|bV s3,λI=>I.elim (f'.no N) λ⟨n,u,hu,y⟩=>S2.xh N hu y⟩,λL t l H4 b4 fL ft a' S4 hL hA=>?_⟩;have PX:=(Z.trans<|bw.same s3).trans b4;have fr:∀{z:Addr},H3 z=none->H z=none:=λI=>fr_but Z fj (s3.free I);exact k L t l H4 PX (fr fL) (fr ft) (fr a') ⟨PX _ _ S.ob dN,S4⟩ hL hA
end
structure Gs where
 x:Str
 kn:Nat
 se:Nat
 fl:Option (List Pt)
 de:Option (List Pt)
abbrev Ask:=Nat×Nat×List Pt
def p9(se:Nat):Option (List Pt)->Nat
 |none=>se
 |some _=>se+1
def xj(se kn:Nat):Option (List Pt)->List Ask
 |none=>[]
 |some d=>[(se+1,kn,d)]
def bZ(b:Nat)(e:Nat×List Pt)(g:Gs):Gs:=if e.1=b then ⟨g.x,g.kn+1,p9 g.se g.de,g.de,none⟩ else ⟨⟨(out g.x.cps.toList<|ar<|pP (pP e.2 g.fl) g.de).toArray⟩,g.kn+1,g.se,pF e.2 g.fl,pF (pP e.2 g.fl) g.de⟩
def iZ(b:Nat)(e:Nat×List Pt)(g:Gs):List Ask:=if e.1=b then xj g.se (g.kn+1) g.de else []
def p_(b:Nat)(e:Nat×List Pt)(g:Gs):List (List Pt):=if e.1=b then [] else [pP (pP e.2 g.fl) g.de]
def bg(b:Nat)(t:List (Nat×List Pt))(g:Gs):Nat->Gs×List Ask×List (List Pt)
 | 0=>(g,[],[])
 |j+1=>(bZ b (t.getD (bg b t g j).1.kn (0,[])) (bg b t g j).1,(bg b t g j).2.1++iZ b (t.getD (bg b t g j).1.kn (0,[])) (bg b t g j).1,(bg b t g j).2.2++p_ b (t.getD (bg b t g j).1.kn (0,[])) (bg b t g j).1)
theorem aeG(b:Nat)(e:Nat×List Pt)(g:Gs):(bZ b e g).kn=g.kn+1:=by unfold bZ;split<;>rfl
theorem uu(b:Nat)(t:List (Nat×List Pt))(g:Gs):∀j,(bg b t g j).1.kn=g.kn+j
 | 0=>rfl
 |j+1=>by show(bZ _ _ _).kn=_;rw[aeG,uu b t g j];rfl
theorem Fx(f:Nat)(t:List (Nat×List Pt))(g:Gs):∀j,(bg f t g j).2.1.length<=j/\(bg f t g j).2.2.length<=j
 | 0=>⟨zqR _,zqR _⟩
 |j+1=>by
  obtain⟨a,b⟩:=Fx f t g j;have h:∀(e:Nat×List Pt) (g:Gs),(iZ f e g).length<=1/\(p_ f e g).length<=1:=λe g=>by
   unfold iZ p_
   split
   ·exact⟨by cases g.de<;>simp[xj],by simp⟩
   ·exact⟨by simp,by simp⟩
  obtain⟨c,d⟩:=h (t.getD (bg f t g j).1.kn (0,[])) (bg f t g j).1
  constructor
  ·show(_++_:List Ask).length<=_;rw[zqA];lia
  ·show(_++_:List (List Pt)).length<=_;rw[zqA];lia
theorem aeH{b:Nat}{h:Nat}(e:t[b]?=some (h,ps)):pj t b (j+1) c=pj t (b+1) j (f9 ps c):=by
 obtain⟨l,d⟩:=zad.mp e;unfold pj;rw[zaY l,d];rfl
theorem rX{b:Nat}:pj t b 0 c=c:=rfl
theorem Fy(h:Run l ps r)(h':Run l ps r'):r=r':=h.fits.2.symm.trans h'.fits.2
structure Iv (own:Nat) (tx:List (List Nat)) (tk:List (Nat×List Pt)) (g:Gs):Prop where
 T:Taken tx tk
 gt:∀l∈tx,l.length<=5200/\∀c∈l,SG.cps.contains c=true
 kn:g.kn<=tk.length
 fd:g.fl=none->g.de=none
 oc:∃l m,tx[g.kn]?=some l/\OC g.fl l m/\OC g.de m g.x.cps.toList
 tf:bR g.fl<=5200
 td:bR g.de<=5200
 gx:∀c∈g.x.cps.toList,SG.cps.contains c=true
 pend:∀j ps,tk[g.kn+j]?=some (own,ps)->(∃f,g.fl=some f/\ps=pj tk g.kn j f)/\∀j',j'<j->∀e,tk[g.kn+j']?=some e->e.1≠own
theorem Iv.len{t:List (Nat×List Pt)}{g:Gs}(I:Iv h tx t g):g.x.length<=15600/\good g.x:=by
 obtain⟨l,m,q,p,k⟩:=I.oc;have a:=(I.gt l<|zan q).1;have b:=p.len;have c:=k.len;have d:=I.tf;have e:=I.td;have f:=len_list g.x;exact⟨by lia,by lia,I.gx⟩
theorem OC.good:∀{o:Option (List Pt)},OC o l m->(∀c∈l,SG.cps.contains c=true)->∀c∈m,SG.cps.contains c=true
 |none,h,g=>by rw[<-show l=m from h];exact g
 |some f,h,g=>by
  exact h.run.good g λp b=>E1 (h.ok p b)
theorem Iv.at'{t:List (Nat×List Pt)}{g:Gs}(I:Iv k tx t g){e:Nat×List Pt}(h:t[g.kn]?=some e):∃l b m,tx[g.kn]?=some l/\tx[g.kn+1]?=some b/\bG e.2 l b/\az e.2<=5200/\OC g.fl l m/\OC g.de m g.x.cps.toList:=by
 obtain⟨l,m,f,q,p⟩:=I.oc;have A:=(zad.mp h).1;obtain⟨b,d⟩:∃b,tx[g.kn+1]?=some b:=⟨_,zaj (by rw[I.T.len];lia)⟩
 obtain⟨w,u⟩:=I.T.chg _ e.1 e.2 _ _ h f d;exact⟨l,b,m,f,d,w,u,q,p⟩
theorem Iv.next{t:List (Nat×List Pt)}{g:Gs}(I:Iv b tx t g){e:Nat×List Pt}(h:t[g.kn]?=some e):Iv b tx t (bZ b e g):=by
 have w:=(zad.mp h).1;obtain⟨l,P,m,h1,p,D,c2,q,x⟩:=I.at' h;unfold bZ;by_cases k:e.1=b
 ·rw[if_pos k];have G:t[g.kn+0]?=some (b,e.2):=by lia
  obtain⟨⟨f,u,A⟩,_⟩:=I.pend 0 e.2 G;rw[rX] at A;rw[u] at q;have V:=Fy q.run (A ▸ D.run);subst V;refine⟨I.T,I.gt,w,λ_=>rfl,⟨m,_,p,x,rfl⟩,I.td,zqZ _,I.gx,λj ps S=>?_⟩;have d:t[g.kn+(j+1)]?=some (b,ps):=by lia
  exact absurd k<|(I.pend (j+1) ps d).2 0 (zbk _) e h
 ·rw[if_neg k];obtain⟨N,E,a2,a3,a4⟩:=q.pass D c2 I.tf;obtain⟨r,b1,b2,b3,b4⟩:=x.pass a2 (by lia) I.td
  rw[b2.run.fits.2];have X:(⟨r.toArray⟩:Str).cps.toList=r:=rfl
  refine⟨I.T,I.gt,w,λz=>?_,⟨P,N,p,E,by lia⟩,zap a3 I.tf,zap b3 I.td,X▸b1.good (E.good (I.gt _<|zan p).2),λj ps S=>?_⟩
  ·have:g.fl=none:=by
    cases Z:g.fl with
    |none=>rfl
    |some f=>rw[Z] at z;cases z
   rw[I.fd this];rfl
  ·have d:t[g.kn+(j+1)]?=some (b,ps):=by lia
   obtain⟨⟨f,u,A⟩,K⟩:=I.pend (j+1) ps d;refine⟨⟨f9 e.2 f,u▸rfl,A▸aeH h⟩,λR d e' G=>K (R+1) (by lia) e' (by lia)⟩
theorem Iv.run{tx:List (List Nat)}{t:List (Nat×List Pt)}{g:Gs}(I:Iv b tx t g):∀j,g.kn+j<=t.length->Iv b tx t (bg b t g j).1
 | 0,_=>I
 |j+1,h=>by
  refine (Iv.run I j (by lia)).next ?_;rw[zaF,uu,zaj (by lia)];rfl
theorem PY[DecidableEq d](k j:d):∀b:List (d×V),cN (gj b k) j=if j=k then none else cN b j
 |[]=>by split<;>rfl
 |p::r=>by
  have f:=PY k j r;by_cases h:p.1=k
  ·have e:gj (p::r) k=gj r k:=by unfold gj;simp[h]
   rw[e,f];by_cases e:j=k
   ·rw[if_pos e,if_pos e]
   ·rw[if_neg e,if_neg e,ig<|λz=>e<|z.symm.trans h]
  ·have e:gj (p::r) k=p::gj r k:=by unfold gj;simp[h]
   rw[e];by_cases e:p.1=j
   ·rw[fU e,fU e,if_neg<|λz=>h<|e.trans z]
   ·rw[ig e,ig e,f]
def f_(k:Nat)(f:bN):bN:=⟨λn=>if n<=k then none else f n,f.nb⟩
def oh(f:bN)(n cC:Nat)(b:Addr)(c:List Pt):bN:=⟨λj=>if j=n then some (cC,b,c) else f j,f.nb+1⟩
def PZ(kn:Nat)(e:bN)(b cC:Nat)(c:List Pt)(d:Addr)(ea0:bN):Prop:=(kn<b/\e b=none/\ea0=oh e b cC d c)\/((b<=kn\/∃u,e b=some u)/\ea0=e)
section
variable {K:Frag}{M M' N N':MS}{C CS:Addr}{H H':Hp}{p dp q dq e:Addr}{own:Nat}{x:Str}{kn se:Nat}{fl de:Option (List Pt)}{ea ea0:bN}
theorem lE{o d:HO}(h:H z=some d)(n:∀u,d≠ .tup u):eI H (upd H z o):=λy u b=>by
 rw[ax (λw=>by rw[w,h] at b;cases b;exact n u rfl)];exact b
theorem uv{o d:HO}{a:Addr}(h:H z=some d)(n:∀u,d≠ .lst u)(b:H a=some (.lst xs)):upd H z o a=some (.lst xs):=by
 rw[ax (λw=>by rw[w,h] at b;cases b;exact n xs rfl)];exact b
theorem cZ.oi{o b:HO}(h:H z=some b)(n:∀u,b≠ .tup u)(d:∀u,b≠ .lst u):∀{w:Option (List Pt)},cZ M H v w->cZ M (upd H z o) v w
 |none,h=>h
 |some _,⟨a,xs,l,k,g,f⟩=>⟨a,xs,l,uv h d k,g.mono<|lE h n,f⟩
theorem gA.oi{o b:HO}{v:Option V}(h:H z=some b)(n:∀u,b≠ .tup u)(d:∀u,b≠ .lst u):∀{w:Option (Nat×Addr×List Pt)},gA M H v w->gA M (upd H z o) v w
 |none,h=>h
 |some _,⟨t,xs,m,l,k,g,f⟩=>⟨t,xs,m,lE h n _ _ l,uv h d k,g.mono<|lE h n,f⟩
theorem bO.early{k:List (Key×V)}(S:bO (M.add f) CS H q dq e x kn se fl de ea)(d:H e=some (.dK k))(ht:H A=some (.tup [.int (cC:Nat),.ref f]))(ha:H f=some (.lst ys))(X:aH H ys c)(Z:¬M f)(hn:ea n=none):bO M CS (upd H e<|.dK<|putK k (.inl (n:Int))<|.ref A) q dq e x kn se fl de (oh ea n cC f c):=by
 obtain⟨R,T,h1,h2,h3⟩:=S.ob;obtain⟨a',I,k3,G⟩:=S.he;rw[d] at I;cases I;have t:∀m:List V,(HO.dK k)≠ .tup m:=nofun
 have l:∀m:List V,(HO.dK k)≠ .lst m:=nofun
 have w:∀z,M.ea (oh ea n cC f c) z->(M.add f).ea ea z\/H z=none:=λz g=>by
  rcases g with g|⟨j,u,h,rfl⟩
  ·exact .inl (.inl<|.inr g)
  ·simp only[oh] at h
   split at h
   ·cases h;exact .inl (.inl<|.inl rfl)
   ·exact .inl (.inr ⟨j,u,h,rfl⟩)
 refine⟨⟨R,T,by rw[ax (λy=>by lia)];exact h1,(h2.weak w).oi d t l,(h3.weak w).oi d t l⟩,⟨_,aw,by have:=yA k (.inl (n:Int)) (.ref A);show _<=ea.nb+1;lia,λj=>?_⟩,λi j u v h b E=>?_⟩
 ·rw[U6]
  simp only[oh]
  by_cases D:j=n
  ·rw[if_pos (by lia),if_pos D]
   exact⟨A,ys,rfl,lE d t _ _ ht,uv d l ha,X.mono<|lE d t,Z⟩
  ·rw[if_neg<|λz=>D (by lia),if_neg D]
   exact((G j).weak λz g=>.inl (.inr g)).oi d t l
 ·have P:∀{j:Nat}{u:Nat×Addr×List Pt},ea j=some u->u.2.1≠f:=λ{j u} h y=>by
   have:=G j;rw[h] at this;obtain⟨_,_,_,_,_,_,h5⟩:=this;exact h5<|.inl y
  simp only[oh] at h b
  split at h
  ·cases h
   split at b
   ·cases b;lia
   ·exact absurd E.symm (P b)
  ·split at b
   ·cases b;exact absurd E (P h)
   ·exact S.nd i j u v h b E
theorem bO.pop{k:List (Key×V)}(S:bO M CS H q dq e x kn se fl de ea)(d:H e=some (.dK k))(G:ea n=some u)(I:∀j,ea0 j=if j=n then none else ea j)(hb:ea.nb<=ea0.nb):bO (M.add u.2.1) CS (upd H e<|.dK<|gj k<|.inl (n:Int)) q dq e x kn se fl de ea0:=by
 obtain⟨P,R,h1,h2,h3⟩:=S.ob;obtain⟨a',E,X,Z⟩:=S.he;rw[d] at E;cases E;have f:∀l:List V,(HO.dK k)≠ .tup l:=nofun
 have m:∀l:List V,(HO.dK k)≠ .lst l:=nofun
 have b:∀{j:Nat}{v:Nat×Addr×List Pt},ea0 j=some v->j≠n/\ea j=some v:=λ{j v} h=>by
  rw[I] at h
  split at h
  ·cases h
  ·exact⟨‹_›,h⟩
 have w:∀z,(M.add u.2.1).ea ea0 z->M.ea ea z\/H z=none:=λz A=>by
  rcases A with(rfl|A)|⟨j,v,h,rfl⟩
  ·exact .inl (.inr ⟨n,u,G,rfl⟩)
  ·exact .inl (.inl A)
  ·exact .inl (.inr ⟨j,v,(b h).2,rfl⟩)
 refine⟨⟨P,R,by rw[ax (λy=>by lia)];exact h1,(h2.weak w).oi d f m,(h3.weak w).oi d f m⟩,⟨_,aw,zap (Ip _ _)<|zap X hb,λj=>?_⟩,λi j v T h BS=>S.nd i j v T (b h).2 (b BS).2⟩
 rw[PY,I];by_cases g:j=n
 ·rw[if_pos (by lia),if_pos g];rfl
 ·rw[if_neg<|λz=>g (by lia),if_neg g]
  have:=Z j;cases D:ea j with
  |none=>rw[D] at this;exact this
  |some v=>
   rw[D] at this;obtain⟨t,xs,zq⟩:=qx2 this;obtain⟨g1,g2,g3,g4,g5⟩:=qa5 zq;exact⟨t,xs,g1,lE d f _ _ g2,uv d m g3,g4.mono<|lE d f,λz=>z.elim (λy=>g<|S.nd j n v u D G y) g5⟩
def qd(N:MS)(P T:Addr)(own:Nat)(H:Hp)(v:V)(a:Ask):Prop:= ∃t l,v=.ref t/\uq H t own a.1 a.2.1 a.2.2 l/\N l/\l≠P/\l≠T
def uw(N:MS)(P T:Addr)(H:Hp)(v:V)(c:List Pt):Prop:= ∃a xs,v=.ref a/\H a=some (.lst xs)/\aH H xs c/\N a/\a≠P/\a≠T
structure Kl (P Tl:Addr) (H H':Hp):Prop where
 tt:eI H H'
 ls:∀z xs,H z=some (.lst xs)->z≠P->z≠Tl->H' z=some (.lst xs)
variable {P Tl:Addr}
theorem Kl.trans(a:Kl P Tl H H')(b:Kl P Tl H' w):Kl P Tl H w:=⟨λz u h=>b.tt _ _<|a.tt _ _ h,λz xs h n d=>b.ls _ _ (a.ls _ _ h n d) n d⟩
theorem Kl.same(s:aD H H'):Kl P Tl H H':=⟨bV s,λz xs h _ _=>s _ _ h⟩
theorem Kl.but{D:Addr}(b:bw (· =q) H H')(h:H q=some (.ins D dq f)):Kl P Tl H H':=⟨λz u e=>b _ _ e λy=>(by lia),λz xs e _ _=>b _ _ e λy=>(by lia)⟩
theorem Kl.AN{o b:HO}(h:H z=some b)(n:∀u,b≠ .tup u)(d:(∀u,b≠ .lst u)\/z=P\/z=Tl):Kl P Tl H (upd H z o):=⟨lE h n,λy xs f k g=>by
 rcases d with d|rfl|rfl
 ·exact uv h d f
 ·rw[ax k];exact f
 ·rw[ax g];exact f⟩
theorem qd.kl{a:Ask}(h:qd N P Tl own H v a)(k:Kl P Tl H H')(w:∀z,N z->N' z):qd N' P Tl own H' v a:=by
 obtain⟨t,l,A,⟨u,xs,m,g⟩,f,d,b⟩:=h;exact⟨t,l,A,⟨k.tt _ _ u,xs,k.ls _ _ m d b,g.mono k.tt⟩,w _ f,d,b⟩
theorem uw.kl(h:uw N P Tl H v c)(k:Kl P Tl H H')(w:∀z,N z->N' z):uw N' P Tl H' v c:=by
 obtain⟨a,xs,m,l,g,f,d,b⟩:=h;exact⟨a,xs,m,k.ls _ _ l d b,g.mono k.tt,w _ f,d,b⟩
structure oj (M:MS) (C CS:Addr) (H0 H:Hp) (ea ea0:bN) (p dp q0:Addr) (own:Nat) (q dq e P Tl:Addr) (N:MS) (zs ws:List V) (g:Gs) (as:List Ask) (ts:List (List Pt)):Prop where
 hp:H p=some (.ins C dp<|f2 own q0)
 st:bO (λz=>M z\/N z) CS H q dq e g.x g.kn g.se g.fl g.de (f_ g.kn ea0)
 sm:aD H0 H
 fN:∀z,N z->H0 z=none\/∃n u,ea n=some u/\u.2.1=z
 al:Al (λz=>M z\/N z) H
 hP:H P=some (.lst zs)
 hT:H Tl=some (.lst ws)
 nP:N P/\N Tl/\P≠Tl/\H0 P=none/\H0 Tl=none
 pz:Paired (qd N P Tl own H) zs as
 pw:Paired (uw N P Tl H) ws ts
 fq:H0 q=none
 fe:H0 e=none
 nl:∀z,N z->∃us,H z=some (.lst us)
variable {q0:Addr}
theorem cZ.rY{o:HO}(h:H z=some (.lst xs))(m:M z):∀{w:Option (List Pt)},cZ M H v w->cZ M (upd H z o) v w
 |none,h=>h
 |some _,⟨a,xs,g,f,d,b⟩=>⟨a,xs,g,by have n:a≠z:=λy=>b (y ▸ m);rw[ax n];exact f,d.mono (lE h nofun),b⟩
theorem gA.rY{o:HO}{v:Option V}(h:H z=some (.lst xs))(m:M z):∀{w:Option (Nat×Addr×List Pt)},gA M H v w->gA M (upd H z o) v w
 |none,h=>h
 |some u,⟨t,xs,k,g,f,d,b⟩=>⟨t,xs,k,lE h nofun _ _ g,by have n:u.2.1≠z:=λy=>b (y ▸ m);rw[ax n];exact f,d.mono (lE h nofun),b⟩
theorem bO.rY(S:bO M CS H q dq e x kn se fl de ea){o:HO}(h:H z=some (.lst xs))(m:M z):bO M CS (upd H z o) q dq e x kn se fl de ea:=by
 obtain⟨f,d,w,u,t⟩:=S.ob;obtain⟨k,l,b,g⟩:=S.he;exact⟨⟨f,d,by rw[ax (λy=>by lia)];exact w,u.rY h<|.inl m,t.rY h<|.inl m⟩,⟨k,by rw[ax (λy=>by lia)];exact l,b,λn=>(g n).rY h m⟩,S.nd⟩
theorem aeJ(h:ag Γ a σ H λx H1=>∃e,x=.ref e/\yD H1 e/\ag Γ b σ H1 λy H2=>K4 e [y] H2 Q):ag Γ (.xm zq a [b]) σ H Q:=h
abbrev rZ(K:Frag)(C CS:Addr)(E:XK):aQ:=aO K [("twin_of",Fn CS),("let_in",Fu CS)] [] [] [("need_took",C,Ft C),("land",C,AD C CS)] (E:=E)
abbrev P2:List RS:=[.drop<|.bE .extend (.v 3) [(.aS 1 "land" (.v 0) [.v 2])]]
abbrev P4:List RS:=[.drop<|.bE .append (.v 4) [(.call 1 [.v 2,(.ix (.v 5)<|.c<|.int 1)])]]
abbrev aeK:List RS:=[.bS (.v 2) "known" (.bin .Add (.fld (.v 2) "known") (.c (.int 1))),
  .asg 5 (.xm zq (.fld (.v 2) "early") [(.fld (.v 2) "known")]),
  .ite (.cmp .Eq (.ix (.v 5) (.c (.int 0))) (.fld (.v 0) "number")) P2 P4]
structure FA (M:MS) (C CS:Addr) (H0 H:Hp) (ea ea0:bN) (p dp q0:Addr) (own:Nat) (q dq e P Tl:Addr) (N:MS) (zs ws:List V) (x:Str) (kn se:Nat) (fl de:Option (List Pt)) (as:List Ask) (ts:List (List Pt)) (a:Addr) (xs:List V) (c:List Pt):Prop where
 hp:H p=some (.ins C dp<|f2 own q0)
 st:bO (MS.add (λz=>M z\/N z) a) CS H q dq e x (kn+1) se fl de (f_ (kn+1) ea0)
 sm:aD H0 H
 fN:∀z,N z->H0 z=none\/∃n u,ea n=some u/\u.2.1=z
 al:Al (λz=>M z\/N z) H
 hP:H P=some (.lst zs)
 hT:H Tl=some (.lst ws)
 nP:N P/\N Tl/\P≠Tl/\H0 P=none/\H0 Tl=none
 pz:Paired (qd N P Tl own H) zs as
 pw:Paired (uw N P Tl H) ws ts
 fq:H0 q=none
 fe:H0 e=none
 ha:H a=some (.lst xs)
 pv:aH H xs c
 fa:H0 a=none\/∃n u,ea n=some u/\u.2.1=a
 na:¬(M a\/N a)
 la:as.length<=1000
 lt:ts.length<=1000
 nl:∀z,N z->∃us,H z=some (.lst us)
variable {E:XK}{D:Ends}{H0:Hp}{zs ws:List V}{as:List Ask}{ts:List (List Pt)}{a lt:Addr}{xs:List V}{c:List Pt}{u5:Option V}
theorem AO(b:H p=some (.ins C dp f))(h:H q=some (.ins CS dq g))(n:f.length≠g.length):p≠q:=by lia
theorem aeL(I:FA M C CS H0 H ea ea0 p dp q0 own q dq e P Tl N zs ws x kn se (some f) de as ts a xs c)(k:∀cx H',oj M C CS H0 H' ea ea0 p dp q0 own q dq e P Tl N cx ws ⟨x,kn+1,p9 se de,de,none⟩ (as++xj se (kn+1) de) ts\/(∃l,oj M C CS H0 H' ea ea0 p dp q0 own q dq e P Tl (N.add l) cx ws ⟨x,kn+1,p9 se de,de,none⟩ (as++xj se (kn+1) de) ts)->D.nx [some<|.ref p,some<|.ref lt,some<|.ref q,some<|.ref P,some<|.ref Tl,u5] H'):aE (rZ K C CS E) P2 D [some<|.ref p,some<|.ref lt,some<|.ref q,some<|.ref P,some<|.ref Tl,u5] H:=by
 obtain⟨fs,hq⟩:=I.st.qs;obtain⟨vf,vd,e',_⟩:=I.st.ob;have dN:p≠q:=AO I.hp e' (by show 2≠6;decide)
 have lz:=Paired.length I.pz;have la:=I.la;have b':p≠P:=λy=>by have:=I.hP;rw[<-y,I.hp] at this;cases this
 have xk:¬P=q:=λy=>by have:=I.hP;rw[y,hq] at this;cases this
 have FC:¬Tl=q:=λy=>by have:=I.hT;rw[y,hq] at this;cases this
 have P5:∀{m:Hp}{FD:List (Str×V)},bw (· =q) H m->m q=some (.ins CS dq FD)->Al (λz=>M z\/N z) m:=λb h=>I.al.but b h;have a':∀{m:Hp},bw (· =q) H m->aD H0 m:=λb z o ez=>b _ _ (I.sm _ _ ez) (aM ez I.fq);have G:∀(N':MS) (m:Hp) (Z:List V) (an:List Ask) (S:Nat),bw (· =q) H m->(∀z,N z->N' z)->bO (λz=>M z\/N' z) CS m q dq e x (kn+1) S de none (f_ (kn+1) ea0)->(∀z,N' z->H0 z=none\/∃n u,ea n=some u/\u.2.1=z)->Al (λz=>M z\/N' z) m->Paired (qd N' P Tl own m) Z an->(∀z,N' z->∃R,m z=some (.lst R))->oj M C CS H0 (upd m P<|.lst<|zs++Z) ea ea0 p dp q0 own q dq e P Tl N' (zs++Z) ws ⟨x,kn+1,S,de,none⟩ (as++an) ts:=by
  intro N' m Z an S w wN T f' nI pn c';have X:=w _ _ I.hP xk;have xn:Kl P Tl H m:=Kl.but w hq;have qe:Kl P Tl m (upd m P<|.lst<|zs++Z):=Kl.AN X (λ_ z=>by cases z) (.inr<|.inl rfl)
  refine⟨?_,T.rY X<|.inr<|wN _ I.nP.1,λz o ez=>?_,f',λz g=>?_,aw,?_,⟨wN _ I.nP.1,wN _ I.nP.2.1,I.nP.2.2⟩,?_,Paired.dR I.pw λ_ _ z=>z.kl (xn.trans qe) wN,I.fq,I.fe,λz g=>?_⟩
  ·rw[ax b'];exact w _ _ I.hp dN
  ·rw[ax<|aM ez I.nP.2.2.2.1];exact a' w _ _ ez
  ·obtain⟨o,ho⟩:=nI z g;by_cases y:z=P
   ·exact⟨_,by rw[y];exact aw⟩
   ·exact⟨o,by rw[ax y];exact ho⟩
  ·rw[ax<|Ne.symm I.nP.2.2.1];exact w _ _ I.hT FC
  ·exact Paired.app (Paired.dR I.pz λ_ _ z=>z.kl (xn.trans qe) wN) (Paired.dR pn λ_ _ z=>z.kl qe λ_ h=>h)
  ·by_cases y:z=P
   ·exact⟨_,by rw[y];exact aw⟩
   ·obtain⟨R,hu⟩:=c' z g;exact⟨R,by rw[ax y];exact hu⟩
 have P6:∀{m:Hp},bw (· =q) H m->∀z,N z->∃R,m z=some (.lst R):=λb z g=>let ⟨R,hu⟩:=I.nl z g;⟨R,b _ _ hu λy=>by lia⟩
 have sP:sO (rZ K C CS E).K "list" (.ref P) H:=.inl ⟨rfl,_,aB.of I.hP⟩;cases de with
 |none=>
  refine d5<|iU<|af rfl ⟨sP,jH C (AD C CS) rfl<|af rfl ⟨p,dp,_,rfl,I.hp,iA,af rfl ⟨_,p,dp,q,dq,e,q0,own,x,kn+1,se,f,none,_,rfl,I.hp,dN,I.st,λL m w fL T hL=>?_⟩⟩⟩;obtain⟨FD,iY⟩:=T.qs;have X:=w _ _ I.hP xk;refine⟨zs,[],X,hL,dz (by show zs.length+0<=_;lia),?_⟩
  refine k _ _<|.inl<|G N m [] [] se w (λ_ h=>h) (T.weak λz g=>.inl (.inr<|.inr g)) I.fN (P5 w iY) .nil<|P6 w
 |some d=>
  refine d5<|iU<|af rfl ⟨sP,jH C (AD C CS) rfl<|af rfl ⟨p,dp,_,rfl,I.hp,iA,af rfl ⟨_,p,dp,q,dq,e,q0,own,x,kn+1,se,f,some d,_,rfl,I.hp,dN,I.st,λL t l m w fL ft A T hL hA=>?_⟩⟩⟩;obtain⟨FD,iY⟩:=T.qs;have X:=w _ _ I.hP xk;refine⟨zs,[.ref t],X,hL,dz (by show zs.length+1<=_;lia),?_⟩
  have nI:=P5 w iY;refine k _ _<|.inr ⟨l,G (N.add l) m [.ref t] [(se+1,kn+1,d)] (se+1) w (λ_ h=>.inr h) (T.weak λz g=>?_) (λz g=>?_) (λz g=>?_) (.cons ⟨t,l,rfl,hA,.inl rfl,λy=>?_,λy=>?_⟩ .nil)<|λz g=>?_⟩
  ·rcases g with g|rfl|g
   ·exact .inl (.inr<|.inr<|.inr<|.inl g)
   ·exact .inl (.inl rfl)
   ·exact .inl (.inr<|.inr<|.inr<|.inr g)
  ·rcases g with rfl|g
   ·exact .inl (I.sm.free A)
   ·exact I.fN z g
  ·rcases g with g|rfl|g
   ·exact nI z (.inl g)
   ·obtain⟨ys,hy,_⟩:=hA.2;exact⟨_,hy⟩
   ·exact nI z (.inr g)
  ·rw[y,I.hP] at A;cases A
  ·rw[y,I.hT] at A;cases A
  ·rcases g with rfl|g
   ·obtain⟨ys,hy,_⟩:=hA.2;exact⟨_,hy⟩
   ·exact P6 w z g
theorem aeR{l l' m:List Nat}(I:FA M C CS H0 H ea ea0 p dp q0 own q dq e P Tl N zs ws x kn se fl de as ts a xs c)(ht:H t=some (.tup [.int (cC:Nat),.ref a]))(hc:bG c l l')(hf:OC fl l m)(hd:OC de m x.cps.toList)(t1:az c<=5200)(t2:bR fl<=5200)(t3:bR de<=5200)(gx:good x)(lx:x.length<=100000)
  (k:∀mO f H' r,Run x.cps.toList (pP (pP c fl) de) r->oj M C CS H0 H' ea ea0 p dp q0 own q dq e P Tl (N.add f) zs mO ⟨⟨r.toArray⟩,kn+1,se,pF c fl,pF (pP c fl) de⟩ as (ts++[pP (pP c fl) de])->D.nx [some<|.ref p,some<|.ref lt,some<|.ref q,some<|.ref P,some<|.ref Tl,some<|.ref t] H'):aE (rZ K C CS E) P4 D [some<|.ref p,some<|.ref lt,some<|.ref q,some<|.ref P,some<|.ref Tl,some<|.ref t] H:=by
 obtain⟨vf,vd,w,_⟩:=I.st.ob;have dN:p≠q:=AO I.hp w (by show 2≠6;decide)
 have lw:=Paired.length I.pw;have e':=I.lt;have T:p≠Tl:=λy=>by have:=I.hT;rw[<-y,I.hp] at this;cases this
 have xk:¬P=q:=λy=>by have:=I.hP;rw[y,w] at this;cases this
 have FC:¬Tl=q:=λy=>by have:=I.hT;rw[y,w] at this;cases this
 refine d5<|iU<|af rfl ⟨.inl ⟨rfl,_,aB.of I.hT⟩,bP (Fu CS) rfl<|aC<|af rfl<|aC<|bx<|af rfl<|ay<|cv ht rfl<|aN ⟨_,q,dq,e,x,kn+1,se,fl,de,_,a,xs,c,l,l',m,rfl,I.st,I.al,I.ha,I.pv,hc,hf,hd,t1,t2,t3,gx,lx,λf bC r A hr g d S3 R mK=>?_⟩⟩;have X:=g _ _ I.hT FC;have kj:=g _ _ I.hP xk;refine⟨ws,X,dh (by lia),?_⟩
 have Z:Kl P Tl H A:=Kl.but g w;have u:Kl P Tl A (upd A Tl<|.lst<|ws++[.ref f]):=Kl.AN X nofun (.inr<|.inr rfl)
 obtain⟨b',c',iY,_⟩:=S3.ob;have nI:=I.al.but g iY;have wN:∀z,N z->(N.add f) z:=λ_ h=>.inr h;have G:f≠P/\f≠Tl:=by
  rcases d with rfl|d
  ·exact⟨λy=>I.na<|.inr<|y ▸ I.nP.1,λy=>I.na<|.inr<|y ▸ I.nP.2.1⟩
  ·exact⟨λy=>(by rw[y,I.hP] at d;cases d),λy=>(by rw[y,I.hT] at d;cases d)⟩
 refine k _ f _ r hr ⟨?_,(S3.weak λz b=>.inl ?_).rY X<|.inr<|.inr I.nP.2.1,λz o S=>?_,λz b=>?_,λz b=>?_,?_,aw,⟨.inr I.nP.1,.inr I.nP.2.1,I.nP.2.2⟩,Paired.dR I.pz λ_ _ z=>z.kl (Z.trans u) wN,Paired.snoc (Paired.dR I.pw λ_ _ z=>z.kl (Z.trans u) wN) ⟨f,bC,rfl,u.ls _ _ R G.1 G.2,mK.mono u.tt,.inl rfl,G.1,G.2⟩,I.fq,I.fe,λz b=>?_⟩
 ·rw[ax T];exact g _ _ I.hp dN
 ·rcases b with b|rfl|b
  ·exact .inr (.inl b)
  ·exact .inl rfl
  ·exact .inr (.inr b)
 ·rw[ax<|aM S I.nP.2.2.2.2];exact g _ _ (I.sm _ _ S) (aM S I.fq)
 ·rcases b with rfl|b
  ·rcases d with rfl|d
   ·exact I.fa
   ·exact .inl (I.sm.free d)
  ·exact I.fN z b
 ·have:∃o,A z=some o:=by
   rcases b with b|rfl|b
   ·exact nI z (.inl b)
   ·exact⟨_,R⟩
   ·exact nI z (.inr b)
  obtain⟨o,ho⟩:=this;by_cases y:z=Tl
  ·exact⟨_,by rw[y];exact aw⟩
  ·exact⟨o,by rw[ax y];exact ho⟩
 ·rw[ax I.nP.2.2.1];exact kj
 ·by_cases y:z=Tl
  ·exact⟨_,by rw[y];exact aw⟩
  ·rcases b with rfl|b
   ·exact⟨_,by rw[ax y];exact R⟩
   ·obtain⟨us,hu⟩:=I.nl z b;exact⟨us,by rw[ax y];exact g _ _ hu λy'=>by lia⟩
theorem aeT(T:iO K C)(R:iq K CS){tk:List (Nat×List Pt)}{u:Nat×Addr×List Pt}(I:oj M C CS H0 H ea ea0 p dp q0 own q dq e P Tl N zs ws ⟨x,kn,se,fl,de⟩ as ts)(Vi:Iv own tx tk ⟨x,kn,se,fl,de⟩)(hu:ea0 (kn+1)=some u)(e_:tk[kn]?=some (u.1,u.2.2))(hE:H0 u.2.1=none\/∃n v,ea n=some v/\v.2.1=u.2.1)(la:as.length<=1000)(b':ts.length<=1000)
  (k:∀N' cx mO u5 H',oj M C CS H0 H' ea ea0 p dp q0 own q dq e P Tl N' cx mO (bZ own (u.1,u.2.2) ⟨x,kn,se,fl,de⟩) (as++iZ own (u.1,u.2.2) ⟨x,kn,se,fl,de⟩) (ts++p_ own (u.1,u.2.2) ⟨x,kn,se,fl,de⟩)->D.nx [some<|.ref p,some<|.ref lt,some<|.ref q,some<|.ref P,some<|.ref Tl,u5] H'):aE (rZ K C CS E) aeK D [some<|.ref p,some<|.ref lt,some<|.ref q,some<|.ref P,some<|.ref Tl,u5] H:=by
 have S:bO (λz=>M z\/N z) CS H q dq e x kn se fl de (f_ kn ea0):=I.st;obtain⟨vf,vd,Z,h2,h3⟩:=S.ob;obtain⟨d,he,lk,ke⟩:=S.he;have dN:p≠q:=AO I.hp Z (by show 2≠6;decide)
 have jJ:e≠q:=λy=>by rw[y,Z] at he;cases he
 have kh:f_ kn ea0 (kn+1)=some u:=by simp only[f_];rw[if_neg (by lia)];exact hu
 have r6:=ke (kn+1);rw[kh] at r6;obtain⟨t,xs,zq⟩:=qx2 r6;obtain⟨g1,g2,g3,g4,g5⟩:=qa5 zq;refine dn<|bL<|bp<|af rfl ⟨q,CS,dq,_,_,rfl,Z,R.cl,R.mf,rQ,ay<|iX<|af rfl ⟨q,CS,dq,_,rfl,Z,R.cl,R.mf,(by show 6<1000;decide),?_⟩⟩
 rw[show(kn:Int)+1=((kn+1:Nat):Int) by lia,PH]
 have S1:=S.put (x':=x) (kn':=kn+1) (se':=se) h2 h3;have b1:bw (· =q) H (upd H q<|.ins CS dq<|f6 x (kn+1) se vf vd<|.ref e):=bw.upd;have fk:upd H q (.ins CS dq<|f6 x (kn+1) se vf vd<|.ref e) q=some (.ins CS dq<|f6 x (kn+1) se vf vd<|.ref e):=aw;generalize upd H q (.ins CS dq<|f6 x (kn+1) se vf vd<|.ref e)=H1 at S1 b1 fk⊢;have AR:=b1 _ _ he jJ;have c':Kl P Tl H H1:=Kl.but b1 Z;refine bW<|aeJ<|bp<|af rfl ⟨q,CS,dq,_,_,rfl,fk,R.cl,R.qT,wO,e,rfl,.inl ⟨_,.inl AR⟩,bp<|af rfl ⟨q,CS,dq,_,_,rfl,fk,R.cl,R.mf,rQ,d,.inl ((kn+1:Nat):Int),_,AR,rfl,g1,?_⟩⟩;have S2:=S1.pop (ea0:=f_ (kn+1) ea0) AR kh (λj=>by
  simp only[f_]
  by_cases hj:j=kn+1
  ·rw[if_pos hj,if_pos (by lia)]
  ·rw[if_neg hj];by_cases hk:j<=kn
   ·rw[if_pos hk,if_pos (by lia)]
   ·rw[if_neg hk,if_neg (by lia)]) (zqR _)
 have P7:Kl P Tl H1 (upd H1 e<|.dK<|gj d<|.inl ((kn+1:Nat):Int)):=Kl.AN AR (λ_ z=>by cases z) (.inl λ_ z=>by cases z)
 have G:∀z o,H z=some o->z≠q->z≠e->upd H1 e (.dK<|gj d<|.inl ((kn+1:Nat):Int)) z=some o:=λz o w n n'=>by rw[ax n'];exact b1 _ _ w n
 have rV:upd H1 e (.dK<|gj d<|.inl ((kn+1:Nat):Int)) e=some (.dK<|gj d<|.inl ((kn+1:Nat):Int)):=aw;have fj:upd H1 e (.dK<|gj d<|.inl ((kn+1:Nat):Int)) q=some (.ins CS dq<|f6 x (kn+1) se vf vd<|.ref e):=by rw[ax jJ.symm];exact fk
 generalize upd H1 e (.dK<|gj d<|.inl ((kn+1:Nat):Int))=H2 at S2 P7 G rV fj⊢;have kl:=c'.trans P7;have A:∀{z:Addr}{ys:List V},H z=some (.lst ys)->z≠q/\z≠e:=λw=>⟨λy=>(by rw[y,Z] at w;cases w),λy=>(by rw[y,he] at w;cases w)⟩
 have fA:=G _ _ I.hp dN λy=>by have:=I.hp;rw[y,he] at this;cases this
 have mv:=kl.tt _ _ g2;have b:FA M C CS H0 H2 ea ea0 p dp q0 own q dq e P Tl N zs ws x kn se fl de as ts u.2.1 xs u.2.2:=by
  refine⟨fA,S2,λz o w=>G _ _ (I.sm _ _ w) (aM w I.fq)<|aM w I.fe,I.fN,λz hz=>?_,G _ _ I.hP (A I.hP).1 (A I.hP).2,G _ _ I.hT (A I.hT).1 (A I.hT).2,I.nP,Paired.dR I.pz λ_ _ z=>z.kl kl λ_ h=>h,Paired.dR I.pw λ_ _ z=>z.kl kl λ_ h=>h,I.fq,I.fe,G _ _ g3 (A g3).1 (A g3).2,g4.mono kl.tt,hE,g5,la,b',λz hz=>let ⟨us,hu⟩:=I.nl z hz;⟨us,G _ _ hu (A hu).1 (A hu).2⟩⟩;obtain⟨o,g⟩:=I.al z hz;by_cases y:z=q
  ·exact⟨_,by rw[y];exact fj⟩
  ·by_cases y':z=e
   ·exact⟨_,by rw[y'];exact rV⟩
   ·exact⟨o,G _ _ g y y'⟩
 refine bQ<|bF<|bx<|af rfl<|ay<|cv mv rfl<|bp<|af rfl ⟨p,C,dp,_,_,rfl,fA,T.cl,T.vP,Az,Am ⟨_,rfl,gK (λg=>?_)<|λg=>?_⟩⟩
 ·have g:u.1=own:=by have:=of_decide_eq_true g;lia
  have e1:bZ own (u.1,u.2.2) ⟨x,kn,se,fl,de⟩=⟨x,kn+1,p9 se de,de,none⟩:=if_pos g;have e2:iZ own (u.1,u.2.2) ⟨x,kn,se,fl,de⟩=xj se (kn+1) de:=if_pos g;have e3:p_ own (u.1,u.2.2) ⟨x,kn,se,fl,de⟩=[]:=if_pos g;rw[e1,e2,e3,zac] at k;have q5:tk[kn+0]?=some (own,u.2.2):=by rw[<-g];exact e_
  obtain⟨⟨f,ef,_⟩,_⟩:=Vi.pend 0 _ q5;have ef:fl=some f:=ef;subst ef;refine aeL b λcx H' X=>?_;rcases X with X|⟨l,X⟩
  ·exact k N cx ws _ H' X
  ·exact k _ cx ws _ H' X
 ·have g:¬u.1=own:=λz=>by rw[z,zqT rfl] at g;exact g rfl
  obtain⟨l,l',m,zq⟩:=qx3 (Vi.at' e_);obtain⟨_,_,c1,c2,o1,o2⟩:=qa6 zq;have e1:bZ own (u.1,u.2.2) ⟨x,kn,se,fl,de⟩=⟨⟨(out x.cps.toList<|ar<|pP (pP u.2.2 fl) de).toArray⟩,kn+1,se,pF u.2.2 fl,pF (pP u.2.2 fl) de⟩:=if_neg g;have e2:iZ own (u.1,u.2.2) ⟨x,kn,se,fl,de⟩=[]:=if_neg g;have e3:p_ own (u.1,u.2.2) ⟨x,kn,se,fl,de⟩=[pP (pP u.2.2 fl) de]:=if_neg g;rw[e1,e2,e3,zac] at k;obtain⟨lx,gx⟩:=Vi.len;have lx:x.length<=15600:=lx;refine aeR b mv c1 o1 o2 c2 Vi.tf Vi.td gx (by lia) λmO a' H' r hr X=>k (N.add a') zs mO _ H' ?_
  rw[hr.fits.2];exact X
end
section
variable {K:Frag}{M M' N N':MS}{C CS:Addr}{H H':Hp}{p dp q dq e q0 P Tl:Addr}{own:Nat}{x:Str}{kn se:Nat}{fl de:Option (List Pt)}{ea ea0:bN}
structure CmK (M:MS) (C CS:Addr) (H:Hp) (ea:bN) (p dp:Addr) (own n0 cC:Nat) (c:List Pt) (kn:Nat) (g:Gs) (as:List Ask) (ts:List (List Pt)) (N:MS) (P Tl t q dq e a0:Addr) (zs ws:List V) (ea0:bN) (H':Hp):Prop where
 ha:d_ (λz=>M z\/N z) C CS H' p dp q dq e own g.x g.kn g.se g.fl g.de (f_ g.kn ea0)
 ins:PZ kn ea n0 cC c a0 ea0
 fa:H a0=none
 b:bw (· =p) H H'
 fN:∀z,N z->H z=none\/∃n u,ea n=some u/\u.2.1=z
 al:Al (λz=>M z\/N z) H'
 ht:H' t=some (.tup [.ref P,.ref Tl])
 hP:H' P=some (.lst zs)
 hT:H' Tl=some (.lst ws)
 nP:N P/\N Tl/\P≠Tl/\H P=none/\H Tl=none
 pz:Paired (qd N P Tl own H') zs as
 pw:Paired (uw N P Tl H') ws ts
 fq:H q=none
 fe:H e=none
 ft:H t=none
 nl:∀z,N z->∃us,H' z=some (.lst us)
inductive AS(C CS:Addr)(vs:List V)(H:Hp)(Q:VK)(E:XK):Prop|i(M:MS)(p dp q dq e l b:Addr)(own:Nat)(g:Gs)(ea:bN)(d cC:Nat)(ys:List V)(c:List Pt)(tx:List (List Nat))(k:List (Nat×List Pt))(j:Nat)(_:vs=[.ref p,.ref l])(_:d_ M C CS H p dp q dq e own g.x g.kn g.se g.fl g.de ea)(_:Al M H)(_:H l=some (.tup<|Fs own d cC b))(_:1<=d)(_:cC<=7)(_:H b=some (.lst ys))(_:aH H ys c)(_:(∀p∈c,aX p))(_:chainOk "" c=true)(_:Iv own tx k g)(_:ea.nb<=1000)(_:(∀n u,ea n=some u->g.kn<n/\k[n - 1]?=some (u.1,u.2.2)))(_:(g.kn<d->ea d=none->k[d - 1]?=some (cC,c)))(_:j<=900)(_:(∀i,i<j->ea (g.kn+i+1)≠none\/g.kn+i+1=d))(_:(ea (g.kn+j+1)=none/\g.kn+j+1≠d))(_:∀N P Tl t h A m D f w ea0 H',CmK M C CS H ea p dp own d cC c g.kn (bg own k g j).1 (bg own k g j).2.1 (bg own k g j).2.2 N P Tl t h A m D f w ea0 H'->Q (.ref t) H')
theorem aeW{b:RE}(h:ag Γ a σ H λy H1=>ag Γ b σ H1 λx H2=>∃d o,x=.ref d/\dy H2 d y o/\∃k,V.bl o.isSome=.bl k/\T k H2):aY Γ (.vt a b) σ H T:=h
theorem aeX{i j:Int}(q:Q (.bl<|decide<|i>j) H):da K .Gt (.int i) (.int j) H Q:=⟨trivial,q⟩
theorem aeY{f:bN}(h:∀n u,f n=some u->k<n):f_ k f=f:=by
 obtain⟨f,d⟩:=f;unfold f_
 congr 1
 funext n
 by_cases b:n<=k
 ·rw[if_pos b];cases e:f n with
  |none=>rfl
  |some u=>have:=h n u e;lia
 ·rw[if_neg b]
theorem aeZ(T:iO K C)(TS:iq K CS):cp (AS C CS) (λE=>rZ K C CS E) zu ME:=by
 intro vs H Q E h;obtain⟨M,p,dp,q0,n',e0,lt,b,own,g,ea,G,cC,ys,c,tx,d,j,rfl,S,al,hl,hn,hw,hb,pv,ok,cc,Vi,nb,i_,oO,lj,hj,⟨hJ,k'⟩,k⟩:=h;refine d5<|jH C (Ft C) rfl<|af rfl ⟨p,dp,_,rfl,S.ob,iA,af rfl ⟨p,dp,q0,lt,b,own,G,cC,ys,c,rfl,S.ob,hl,hn,hw,hb,pv,ok,cc,λH1 s1=>?_⟩⟩;have S1:=S.same s1;refine bW<|bP (Fn CS) rfl<|aC<|bp<|af rfl ⟨p,C,dp,_,_,rfl,S1.ob,T.cl,T.kN,n_,aN ⟨M,q0,n',e0,g.x,g.kn,g.se,g.fl,g.de,ea,rfl,S1.st,λq dq e H2 s2 fq fe p' S2=>?_⟩⟩;have lF:=s1.trans s2;refine bW<|eY<|aN ⟨zqZ _,λP fP=>?_⟩;have s3:=sameNew (o:=.lst []) fP;have kj:upd H2 P (.lst []) P=some (.lst []):=aw;generalize upd H2 P (.lst [])=H3 at s3 kj⊢;refine bW<|eY<|aN ⟨zqZ _,λTl fT=>?_⟩;have s4:=sameNew (o:=.lst []) fT;have AU:upd H3 Tl (.lst []) Tl=some (.lst []):=aw;have AV:=s4 _ _ kj;generalize upd H3 Tl (.lst [])=H4 at s4 AU AV⊢;have FF:=s3.trans s4;have nW:=lF.trans FF;have f':P≠Tl:=aM kj fT;have FG:H P=none:=lF.free fP;have P8:H Tl=none:=(lF.trans s3).free fT;have S4:=S2.same FF;have o':Al M H4:=λz f=>let ⟨o,ho⟩:=al z f;⟨o,nW _ _ ho⟩;have go:∀(A:Addr) (ea0:bN) (H5:Hp),PZ g.kn ea G cC c A ea0->H A=none->aD H H5->bO (λz=>M z\/(z=P\/z=Tl)) CS H5 q dq e g.x g.kn g.se g.fl g.de ea0->H5 P=some (.lst [])->H5 Tl=some (.lst [])->aE (rZ K C CS E) (zu.drop 5) (Dn Q) [some<|.ref p,some<|.ref lt,some<|.ref q,some<|.ref P,some<|.ref Tl,none] H5:=by
  intro A ea0 H5 hi Z s5 S5 FH FI;have FJ:∀n u,ea0 n=some u->g.kn<n/\d[n - 1]?=some (u.1,u.2.2)/\(H u.2.1=none\/∃n v,ea n=some v/\v.2.1=u.2.1):=λn u w=>by
   rcases hi with⟨l,h2,rfl⟩|⟨_,rfl⟩
   ·simp only[oh] at w
    split at w
    ·rename_i en;cases w;rw[en];exact⟨l,oO l h2,.inl Z⟩
    ·exact⟨(i_ n u w).1,(i_ n u w).2,.inr ⟨n,u,w,rfl⟩⟩
   ·exact⟨(i_ n u w).1,(i_ n u w).2,.inr ⟨n,u,w,rfl⟩⟩
  have b':∀n,g.kn<n->(ea n≠none\/n=G)->ea0 n≠none:=λn hn h=>by
   rcases hi with⟨l,h2,rfl⟩|⟨l,rfl⟩
   ·simp only[oh]
    split
    ·exact λz=>by cases z
    ·rename_i ne;exact h.resolve_right ne
   ·rcases h with h|rfl
    ·exact h
    ·rcases l with l|⟨u,l⟩
     ·lia
     ·rw[l];exact λz=>by cases z
  have BZ:ea0 (g.kn+j+1)=none:=by
   rcases hi with⟨l,h2,rfl⟩|⟨l,rfl⟩
   ·simp only[oh];rw[if_neg k'];exact hJ
   ·exact hJ
  have Si:∀i,i<=j->Iv own tx d (bg own d g i).1:=λi hi=>Vi.run i (by
   cases i with
   |zero=>exact Vi.kn
   |succ i=>
    obtain⟨u,w⟩:=zby.mp (b' (g.kn+i+1) (by lia)<|hj i (by lia))
    have:=(zad.mp (FJ _ _ w).2.1).1;lia)
  refine z5 (λm σ D=>∃(i:Nat) (N:MS) (zs ws:List V) (u5:Option V),m=j - i/\i<=j/\σ=[some<|.ref p,some<|.ref lt,some<|.ref q,some<|.ref P,some<|.ref Tl,u5]/\oj M C CS H D ea ea0 p dp q0 own q dq e P Tl N zs ws (bg own d g i).1 (bg own d g i).2.1 (bg own d g i).2.2)
   ⟨_,0,λz=>z=P\/z=Tl,[],[],none,rfl,zqZ _,rfl,⟨s5 _ _ S.ob,?_,s5,λz f=>.inl ?_,λz f=>?_,FH,FI,⟨.inl rfl,.inr rfl,f',FG,P8⟩,.nil,.nil,s1.free fq,s1.free fe,λz f=>?_⟩⟩ ?_
  ·show bO _ CS H5 q dq e g.x g.kn g.se g.fl g.de (f_ g.kn ea0);rw[aeY λn u w=>(FJ n u w).1];exact S5
  ·rcases f with rfl|rfl
   ·exact FG
   ·exact P8
  ·rcases f with f|rfl|rfl
   ·obtain⟨o,ho⟩:=al z f;exact⟨o,s5 _ _ ho⟩
   ·exact⟨_,FH⟩
   ·exact⟨_,FI⟩
  ·rcases f with rfl|rfl
   ·exact⟨_,FH⟩
   ·exact⟨_,FI⟩
  rintro m σ D ⟨i,N,zs,ws,u5,rfl,i',rfl,I⟩;have xo:=uu own d g i;have P9:=Si i i';obtain⟨la,g'⟩:=Fx own d g i;have c':i<j->d.getD (bg own d g i).1.kn (0,[])=d.getD (g.kn+i) (0,[]):=λ_=>by rw[xo]
  have j_:bg own d g (i+1)=(bZ own (d.getD (bg own d g i).1.kn (0,[])) (bg own d g i).1,(bg own d g i).2.1++iZ own (d.getD (bg own d g i).1.kn (0,[])) (bg own d g i).1,(bg own d g i).2.2++p_ own (d.getD (bg own d g i).1.kn (0,[])) (bg own d g i).1):=rfl;generalize Jc:(bg own d g i).2.1=as at I la j_;generalize r9:(bg own d g i).2.2=ts at I g' j_;generalize j':(bg own d g i).1=gi at I P9 xo j_ c';obtain⟨xi,ki,si,fi,di⟩:=gi;have xo:ki=g.kn+i:=xo;subst xo;obtain⟨vf,vd,zq⟩:=qx2 I.st.ob;obtain⟨l,h2,h3⟩:=qa3 zq;obtain⟨X,he,lk,ke⟩:=I.st.he;have l:D q=some (.ins CS dq<|f6 xi (g.kn+i) si vf vd<|.ref e):=l;refine aeW<|bL<|bp<|af rfl ⟨q,CS,dq,_,_,rfl,l,TS.cl,TS.mf,rQ,ay<|iX<|bp<|af rfl ⟨q,CS,dq,_,_,rfl,l,TS.cl,TS.qT,wO,e,_,rfl,dy.k (k:=.inl (((g.kn+i:Nat):Int)+1)) he,_,rfl,?_⟩⟩;have xp:=ke (g.kn+i+1);rw[show((g.kn+i+1:Nat):Int)=((g.kn+i:Nat):Int)+1 by lia,show f_ (g.kn+i) ea0 (g.kn+i+1)=ea0 (g.kn+i+1) from if_neg (by lia)] at xp
  by_cases bD:i<j
  ·obtain⟨u,w⟩:=zby.mp (b' (g.kn+i+1) (by lia)<|hj i bD)
   obtain⟨_,e_,hE⟩:=FJ _ _ w;have e_:d[g.kn+i]?=some (u.1,u.2.2):=e_;rw[w] at xp;obtain⟨t,xs,g1,_⟩:=xp;refine iT ⟨λa' H'=>∃(N:MS) (zs ws:List V) (u5:Option V),a'=[some<|.ref p,some<|.ref lt,some<|.ref q,some<|.ref P,some<|.ref Tl,u5]/\oj M C CS H H' ea ea0 p dp q0 own q dq e P Tl N zs ws (bg own d g<|i+1).1 (bg own d g<|i+1).2.1 (bg own d g<|i+1).2.2,λa' H' ⟨N,zs,ws,u5,m',I'⟩=>⟨j - (i+1),by lia,i+1,N,zs,ws,u5,rfl,bD,m',I'⟩,?_⟩ (by rw[g1];rfl)
   refine aeT T TS I P9 w e_ hE (by lia) (by lia) λN' cx mO u5 H' I'=>⟨N',cx,mO,u5,rfl,?_⟩
   have eg:d.getD (g.kn+i) (0,[])=(u.1,u.2.2):=by rw[zaF,e_];rfl
   rw[j_];rw[eg];exact I'
  ·have jD:i=j:=by lia
   subst jD;rw[BZ] at xp;refine iF ?_ (by rw[show cN X (.inl<|((g.kn+i:Nat):Int)+1)=none from xp];rfl)
   have dN:p≠q:=AO I.hp l (by show 2≠6;decide)
   refine dn<|af rfl<|af rfl ⟨p,C,dp,_,rfl,I.hp,T.cl,T.kN,(by show 2<1000;decide),?_⟩
   rw[aed];have b7:bw (· =p) D (upd D p<|.ins C dp<|f2 own q):=bw.upd;have AW:upd D p (.ins C dp<|f2 own q) p=some (.ins C dp<|f2 own q):=aw;have P_:Kl P Tl D (upd D p<|.ins C dp<|f2 own q):=Kl.AN I.hp (λ_ z=>by cases z) (.inl λ_ z=>by cases z)
   have S7:bO (λz=>M z\/N z) CS (upd D p<|.ins C dp<|f2 own q) q dq e xi (g.kn+i) si fi di (f_ (g.kn+i) ea0):=by
    have nt:∀R:List V,(HO.ins C dp<|f2 own q0)≠ .tup R:=λ_ z=>by cases z
    have nl:∀R:List V,(HO.ins C dp<|f2 own q0)≠ .lst R:=λ_ z=>by cases z
    exact⟨⟨vf,vd,b7 _ _ l<|Ne.symm dN,cZ.oi I.hp nt nl h2,cZ.oi I.hp nt nl h3⟩,⟨X,b7 _ _ he (λy=>by rw[y,I.hp] at he;cases he),lk,λn=>(ke n).oi I.hp nt nl⟩,I.st.nd⟩
   generalize upd D p (.ins C dp<|f2 own q)=H7 at b7 AW P_ S7⊢;have FK:∀{z:Addr}{R:List V},D z=some (.lst R)->H7 z=some (.lst R):=λez=>b7 _ _ ez λy=>by rw[y,I.hp] at ez;cases ez
   refine cq<|jh<|aC<|af rfl<|aC<|af rfl<|aN ⟨fQ,λt ft=>?_⟩;have s8:=sameNew (o:=.tup [V.ref P,V.ref Tl]) ft;have Qa:bw (· =p) D (upd H7 t<|.tup [V.ref P,V.ref Tl]):=b7.trans (bw.same s8);have h':upd H7 t (.tup [V.ref P,V.ref Tl]) t=some (.tup [V.ref P,V.ref Tl]):=aw;have Qc:=P_.trans (Kl.same s8);refine k N P Tl t q dq e A zs ws ea0 _ ?_;rw[j'];refine⟨⟨s8 _ _ AW,S7.same s8⟩,hi,Z,λz o ez n=>Qa _ _ (I.sm _ _ ez) n,I.fN,λz f=>?_,h',s8 _ _<|FK I.hP,s8 _ _<|FK I.hT,I.nP,?_,?_,I.fq,I.fe,?_,λz f=>let ⟨R,w⟩:=I.nl z f;⟨R,s8 _ _<|FK w⟩⟩
   ·obtain⟨o,ho⟩:=I.al z f;by_cases y:z=p
    ·exact⟨_,by rw[y];exact s8 _ _ AW⟩
    ·exact⟨o,Qa _ _ ho y⟩
   ·rw[Jc];exact Paired.dR I.pz λ_ _ z=>z.kl Qc λ_ h=>h
   ·rw[r9];exact Paired.dR I.pw λ_ _ z=>z.kl Qc λ_ h=>h
   ·cases et:H t with
    |none=>rfl
    |some o=>
     by_cases y:t=p
     ·rw[y,AW] at ft;cases ft
     ·rw[b7 _ _ (I.sm _ _ et) y] at ft;cases ft
 obtain⟨vf,vd,l,h2,h3⟩:=S4.ob;obtain⟨X,he,lk,ke⟩:=S4.he;have pQ:=nW _ _ hl;have w4:∀z,(λz=>M z\/(z=P\/z=Tl)) z->M z\/H2 z=none:=λz f=>f.elim .inl λy=>.inr (y.elim (λy=>y ▸ fP) λy=>y ▸ s3.free fT);have Qd:bO (λz=>M z\/(z=P\/z=Tl)) CS H4 q dq e g.x g.kn g.se g.fl g.de ea:=(S2.weak w4).same FF;have Qe:(G<=g.kn\/∃u,ea G=some u)->aE (rZ K C CS E) (zu.drop 5) (Dn Q) [some<|.ref p,some<|.ref lt,some<|.ref q,some<|.ref P,some<|.ref Tl,none] H4:=λh=>go P ea H4 (.inr ⟨h,rfl⟩) FG nW Qd AV AU;refine bQ<|adN<|bF<|bx<|af rfl<|ay<|cv pQ rfl<|bp<|af rfl ⟨q,CS,dq,_,_,rfl,l,TS.cl,TS.mf,rQ,aeX ⟨_,rfl,gK (λr9=>?_)<|λr9=>iF (dJ<|Qe<|.inl ?_) rfl⟩⟩
 rotate_left
 ·have:¬((G:Nat):Int) >((g.kn:Nat):Int):=λz=>r9 (zqT z);lia
 have r9:g.kn<G:=by have:=of_decide_eq_true r9;lia
 refine aea<|bx<|af rfl<|ay<|cv pQ rfl<|bp<|af rfl ⟨q,CS,dq,_,_,rfl,l,TS.cl,TS.qT,wO,e,_,rfl,dy.k (k:=.inl ((G:Nat):Int)) he,_,rfl,?_⟩;have r6:=ke G;cases xq:ea G with
 |some u=>
  rw[xq] at r6;obtain⟨t,xs,g1,_⟩:=r6;exact iF (dJ<|Qe<|.inr ⟨u,xq⟩) (by rw[g1];rfl)
 |none=>
  rw[xq] at r6;refine iT ?_ (by rw[show cN X (.inl ((G:Nat):Int))=none from r6];rfl)
  refine rP<|jh<|aC<|bx<|af rfl<|ay<|cv pQ rfl<|aC<|pW<|bx<|af rfl<|ay<|cv pQ rfl ⟨_,.inl<|aB.of<|nW _ _ hb,λA Z=>?_⟩;have s5:=sameNew (o:=.lst ys) Z;have Qf:upd H4 A (.lst ys) A=some (.lst ys):=aw;generalize upd H4 A (.lst ys)=H5 at s5 Qf⊢;refine aN ⟨fQ,λt0 ft=>?_⟩;have s6:=sameNew (o:=.tup [V.int (cC:Nat),V.ref A]) ft;have Qg:upd H5 t0 (.tup [V.int (cC:Nat),V.ref A]) t0=some (.tup [V.int (cC:Nat),V.ref A]):=aw;generalize upd H5 t0 (.tup [V.int (cC:Nat),V.ref A])=D at s6 Qg⊢;have lG:=s5.trans s6;have pS:=nW.trans lG;refine bp<|af rfl ⟨q,CS,dq,_,_,rfl,lG _ _ l,TS.cl,TS.qT,wO,bx<|af rfl<|ay<|cv (lG _ _ pQ) rfl ⟨e,_,rfl,jU.k (k:=.inl ((G:Nat):Int)) (lG _ _ he)<|dh (by lia),?_⟩⟩
  have l':H A=none:=nW.free Z;have S6:bO (MS.add (λz=>M z\/(z=P\/z=Tl)) A) CS D q dq e g.x g.kn g.se g.fl g.de ea:=(Qd.weak λz f=>f.elim (λy=>.inr<|y ▸ Z) .inl).same lG;have e':¬(λz=>M z\/(z=P\/z=Tl)) A:=λf=>by
   rcases f with f|rfl|rfl
   ·exact o'.no Z f
   ·rw[AV] at Z;cases Z
   ·rw[AU] at Z;cases Z
  have S7:=S6.early (n:=G) (lG _ _ he) Qg (s6 _ _ Qf) (pv.mono<|bV pS) e' xq;have up:∀{z:Addr}{R:List V},D z=some (.lst R)->upd D e (.dK<|putK X (.inl ((G:Nat):Int))<|.ref t0) z=some (.lst R):=λez=>uv (lG _ _ he) (λ_ z=>by cases z) ez
  refine go A _ _ (.inl ⟨r9,xq,rfl⟩) l' (λz o ez=>?_) S7 (up<|lG _ _ AV)<|up<|lG _ _ AU;rw[ax<|aM ez<|s1.free fe];exact pS _ _ ez
end
section
variable {own sn m n base:Nat}{tx:List (List Nat)}{tk:List (Nat×List Pt)}{g:Gs}{c:List Pt}{r:List Nat}{e:Nat×List Pt}
def jm(own:Nat)(tk:List (Nat×List Pt))(kn:Nat):Prop:= ∀j e,tk[kn+j]?=some e->e.1≠own
def eZ(own sn:Nat)(tk:List (Nat×List Pt))(g:Gs):Prop:=(sn=g.se/\g.fl=none/\jm own tk g.kn)\/(sn+1=g.se/\g.fl≠none/\jm own tk g.kn)\/(sn=g.se/\g.fl≠none/\ ¬jm own tk g.kn/\1<=sn)
structure c_ (tx:List (List Nat)) (tk:List (Nat×List Pt)) (sn:Nat) (g:Gs) (n base:Nat) (c:List Pt):Prop where
 n1:1<=n
 le:n<=g.se
 bk:base<=g.kn
 cg:∃l r,tx[base]?=some l/\bG c l r
 tt:az c<=5200
 lv:n=sn+1->g.fl=some (pj tk base (g.kn - base) c)
theorem FL{b:Nat}(h:b+j<=tk.length):pj (tk++x) b j c=pj tk b j c:=by
 unfold pj;rw[List.drop_append_of_le_length (by lia),List.take_append_of_le_length (by rw[zat];lia)]
theorem jm.app(h:jm own tk g.kn)(l:g.kn<=tk.length)(f:m≠own):jm own (tk++[(m,c)]) g.kn:=λj e b=>by
 by_cases z:g.kn+j<tk.length
 ·rw[zaB z] at b;exact h j e b
 ·rw[zaK (by lia)] at b
  cases d:g.kn+j - tk.length with
  |zero=>rw[d] at b;cases b;exact f
  |succ k=>rw[d] at b;simp at b
theorem jm.afa(h:jm own (tk++[(m,c)]) g.kn):jm own tk g.kn:=λj e b=>h j e (by rw[zaB (zad.mp b).1];exact b)
theorem Iv.more(I:Iv own tx tk g)(P:Taken (tx++[r]) (tk++[(m,c)]))(K:r.length<=5200/\∀z∈r,SG.cps.contains z=true)(D:m=own->(∃f,g.fl=some f/\c=pj tk g.kn (tk.length - g.kn) f)/\jm own tk g.kn):Iv own (tx++[r]) (tk++[(m,c)]) g:=by
 have S:=I.kn;have R:=I.T.len;refine⟨P,λl E=>?_,by rw[zqA];lia,I.fd,?_,I.tf,I.td,I.gx,λj ps b=>?_⟩
 ·rcases zab.mp E with h|h
  ·exact I.gt l h
  ·rw[zah.mp h];exact K
 ·obtain⟨l,A,G,p⟩:=I.oc;exact⟨l,A,by rw[zaB (by lia)];exact G,p⟩
 ·by_cases z:g.kn+j<tk.length
  ·rw[zaB z] at b;obtain⟨⟨f,u,t⟩,p⟩:=I.pend j ps b;refine⟨⟨f,u,by rw[FL (by lia)];exact t⟩,λq x e d=>p q x e (by rw[zaB (by lia)] at d;exact d)⟩
  ·rw[zaK (by lia)] at b
   cases w:g.kn+j - tk.length with
   |zero=>
    rw[w] at b;cases b;obtain⟨⟨f,u,t⟩,p⟩:=D rfl;have N:j=tk.length - g.kn:=by lia
    refine⟨⟨f,u,by rw[FL (by lia),N];exact t⟩,λq x e d=>p q e (by rw[zaB (by lia)] at d;exact d)⟩
   |succ k=>rw[w] at b;simp at b
theorem c_.more(A:c_ tx tk sn g n base c){x:List (Nat×List Pt)}{y:List (List Nat)}(k:g.kn<=tk.length):c_ (tx++y) (tk++x) sn g n base c:=by
 obtain⟨l,r,h,b⟩:=A.cg;exact⟨A.n1,A.le,A.bk,⟨l,r,by rw[zaB (zad.mp h).1];exact h,b⟩,A.tt,λz=>by rw[FL (by have:=A.bk;lia)];exact A.lv z⟩
theorem eZ.more(S:eZ own sn tk g)(k:g.kn<=tk.length)(h:m≠own):eZ own sn (tk++[(m,c)]) g:=by
 rcases S with⟨a,b,d⟩|⟨a,b,d⟩|⟨a,b,d⟩
 ·exact .inl ⟨a,b,d.app k h⟩
 ·exact .inr (.inl ⟨a,b,d.app k h⟩)
 ·exact .inr (.inr ⟨a,b,λz=>d.1 z.afa,d.2⟩)
theorem afb(S:eZ own sn tk g)(h:g.kn<=tk.length)(A:c_ tx tk sn g (sn+1) base c):jm own tk g.kn/\∀f,eZ own (sn+1) (tk++[(own,f)]) g:=by
 have l:=A.le;rcases S with⟨a,b,d⟩|⟨a,b,d⟩|⟨a,b,d⟩
 ·lia
 ·refine⟨d,λf=>.inr<|.inr ⟨a,b,λz=>z (tk.length - g.kn) (own,f) ?_ rfl,zbk _⟩⟩;rw[show g.kn+(tk.length - g.kn)=tk.length by lia,zaK<|zqR _,zaJ];rfl
 ·lia
theorem c_.gb(S:eZ own sn tk g)(A:c_ tx tk sn g n base c):c_ tx tk (sn+1) g n base c:=⟨A.n1,A.le,A.bk,A.cg,A.tt,λz=>by
 have l:=A.le;rcases S with⟨a,_⟩|⟨a,_⟩|⟨a,_⟩ <;>lia⟩
theorem Qh(h:jm own tk g.kn):jm own tk (g.kn+1):=λj e b=>h (j+1) e (by lia)
theorem afc(I:Iv own tx tk g)(S:eZ own sn tk g)(f:tk[g.kn]?=some e):eZ own sn tk (bZ own e g):=by
 unfold bZ;by_cases h:e.1=own
 ·rw[if_pos h];have A:tk[g.kn+0]?=some (own,e.2):=by lia
  have u:jm own tk (g.kn+1):=λj k l z=>by
   have t:tk[g.kn+(j+1)]?=some (own,k.2):=by lia
   exact(I.pend (j+1) k.2 t).2 0 (zbk _) e f h
  rcases S with⟨a,b,d⟩|⟨a,b,d⟩|⟨a,b,d⟩
  ·exact absurd h (d 0 e f)
  ·exact absurd h (d 0 e f)
  ·cases w:g.de with
   |none=>exact .inl ⟨a,rfl,u⟩
   |some q=>exact .inr (.inl ⟨by show sn+1=g.se+1;lia,nofun,u⟩)
 ·rw[if_neg h];have p:pF e.2 g.fl=none↔g.fl=none:=by cases g.fl<;>simp[pF]
  rcases S with⟨a,b,d⟩|⟨a,b,d⟩|⟨a,b,d⟩
  ·exact .inl ⟨a,p.mpr b,Qh d⟩
  ·exact .inr (.inl ⟨a,λz=>b<|p.mp z,Qh d⟩)
  ·refine .inr (.inr ⟨a,λz=>b<|p.mp z,λz=>d.1 λj k l=>?_,d.2⟩);cases j with
   |zero=>rw[show tk[g.kn+0]?=some e from f] at l;cases l;exact h
   |succ j=>exact z j k (by lia)
theorem Qi(I:Iv own tx tk g)(S:eZ own sn tk g)(f:tk[g.kn]?=some e)(A:c_ tx tk sn g n base c):c_ tx tk sn (bZ own e g) n base c:=by
 have l:=A.le;have k:=A.bk;unfold bZ;by_cases h:e.1=own
 ·refine⟨A.n1,?_,by lia,A.cg,A.tt,λz=>?_⟩
  ·cases g.de<;>simp[p9] <;>lia
  ·rcases S with⟨a,b,d⟩|⟨a,b,d⟩|⟨a,b,d⟩
   ·exact absurd h (d 0 e f)
   ·exact absurd h (d 0 e f)
   ·lia
 ·rw[if_neg h];refine⟨A.n1,l,by lia,A.cg,A.tt,λz=>?_⟩
  rw[A.lv z,show g.kn+1 - base=(g.kn - base)+1 by lia,pX (by rw[show base+(g.kn - base)=g.kn by lia];exact f)]
  rfl
theorem afd(I:Iv own tx tk g)(p:tk[g.kn]?=some e):∀a∈iZ own e g,c_ tx tk sn (bZ own e g) a.1 a.2.1 a.2.2:=λa h=>by
 have b:=I.next p;unfold iZ at h;unfold bZ at b⊢;by_cases d:e.1=own
 ·rw[if_pos d] at h b⊢;cases f:g.de with
  |none=>rw[f] at h;cases h
  |some q=>
   rw[f] at h b;rw[zah.mp h];obtain⟨l,k,u,t,_⟩:=b.oc;exact⟨zbk _,zqR _,zqR _,⟨l,k,u,t⟩,b.tf,λ_=>by rw[zaJ,rX]⟩
 ·rw[if_neg d] at h;cases h
theorem xr(j:Nat)(h:g.kn+(j+1)<=tk.length):∃e,tk[(bg own tk g j).1.kn]?=some e/\tk.getD (bg own tk g j).1.kn (0,[])=e:=by
 have k:(bg own tk g j).1.kn<tk.length:=by rw[uu];lia
 exact⟨_,zaj k,by rw[zaF,zaj k];rfl⟩
theorem ux(I:Iv own tx tk g)(S:eZ own sn tk g):∀j,g.kn+j<=tk.length->eZ own sn tk (bg own tk g j).1
 | 0,_=>S
 |j+1,h=>by
  obtain⟨e,b,d⟩:=xr j h;show eZ own sn tk (bZ own _ _);rw[d];exact afc (I.run j (by lia)) (ux I S j (by lia)) b
theorem Qj(I:Iv own tx tk g)(S:eZ own sn tk g)(A:c_ tx tk sn g n base c):∀j,g.kn+j<=tk.length->c_ tx tk sn (bg own tk g j).1 n base c
 | 0,_=>A
 |j+1,h=>by
  obtain⟨e,b,d⟩:=xr j h;show c_ tx tk sn (bZ own _ _) n base c;rw[d];exact Qi (I.run j (by lia)) (ux I S j (by lia)) b<|Qj I S A j (by lia)
theorem Qk(I:Iv own tx tk g)(S:eZ own sn tk g):∀j,g.kn+j<=tk.length->∀a∈ (bg own tk g j).2.1,c_ tx tk sn (bg own tk g j).1 a.1 a.2.1 a.2.2
 | 0,_,a,d=>by cases d
 |j+1,h,a,d=>by
  obtain⟨e,f,k⟩:=xr j h;have l:=I.run j (by lia)
  show c_ tx tk sn (bZ own _ _) a.1 a.2.1 a.2.2;rw[k];rcases zab.mp (show a∈ (bg own tk g j).2.1++iZ own _ _ from d) with b|b
  ·exact Qi l (ux I S j (by lia)) f (Qk I S j (by lia) a b)
  ·rw[k] at b;exact afd l f a b
def cy(g:Gs)(c ps:List Pt)(r:List Nat):Gs:=match g.fl,g.de with
 |none,_=>⟨⟨r.toArray⟩,g.kn,g.se+1,some c,none⟩
 |some f,none=>⟨⟨r.toArray⟩,g.kn,g.se,some f,some c⟩
 |some f,some _=>⟨⟨r.toArray⟩,g.kn,g.se,some f,some ps⟩
theorem afe(I:Iv own tx tk g)(S:eZ own sn tk g)(hc:bG c g.x.cps.toList r)(P:∀z∈r,SG.cps.contains z=true)(K:az c<=5200)(N:∀f d m l,g.fl=some f->g.de=some d->tx[g.kn]?=some l->OC g.fl l m->bG ps m r/\az ps<=5200):
  Iv own tx tk (cy g c ps r)/\eZ own sn tk (cy g c ps r)/\(∀n base p,c_ tx tk sn g n base p->c_ tx tk sn (cy g c ps r) n base p)/\(g.fl=none->c_ tx tk sn (cy g c ps r) (g.se+1) g.kn c):=by
 obtain⟨l,u,D,w,E⟩:=I.oc;have t:(⟨r.toArray⟩:Str).cps.toList=r:=by simp
 have G:=I.tf;unfold cy;cases k:g.fl with
 |none=>
  rw[I.fd k] at E;rw[k] at w;have e1:l=u:=w;have e2:u=g.x.cps.toList:=E;subst e1;have X:bG c l r:=by lia
  rcases S with⟨a,b,d⟩|⟨a,b,d⟩|⟨a,b,d⟩
  ·refine⟨⟨I.T,I.gt,I.kn,λ_=>rfl,⟨l,r,D,X,by rw[t];rfl⟩,K,zqZ _,by rw[t];exact P,λj ps N=>absurd rfl<|d j _ N⟩,.inr<|.inl ⟨by lia,nofun,d⟩,λn base p A=>⟨A.n1,by have:=A.le;lia,A.bk,A.cg,A.tt,λz=>by have:=A.le;lia⟩,λ_=>⟨zbk _,zqR _,zqR _,⟨l,r,D,X⟩,K,λ_=>by rw[zaJ,rX]⟩⟩
  ·exact absurd k b
  ·exact absurd k b
 |some f=>
  rw[k] at w G;have R:∀q:Option (List Pt),eZ own sn tk ⟨⟨r.toArray⟩,g.kn,g.se,some f,q⟩:=λq=>by
   rcases S with⟨a,b,d⟩|⟨a,b,d⟩|⟨a,b,d⟩
   ·rw[k] at b;cases b
   ·exact .inr (.inl ⟨a,nofun,d⟩)
   ·exact .inr (.inr ⟨a,nofun,d⟩)
  have ak:∀(q:Option (List Pt)) n base p,c_ tx tk sn g n base p->c_ tx tk sn ⟨⟨r.toArray⟩,g.kn,g.se,some f,q⟩ n base p:=λq n base p A=>⟨A.n1,A.le,A.bk,A.cg,A.tt,λz=>by rw[<-A.lv z,k]⟩
  have V:=λj ps h=>by
   have:=I.pend j ps h;rw[k] at this;exact this
  cases Z:g.de with
  |none=>
   rw[Z] at E;have e2:=E;refine⟨⟨I.T,I.gt,I.kn,nofun,⟨l,u,D,w,by rw[t];rw[e2];exact hc⟩,G,K,by rw[t];exact P,V⟩,R _,ak _,nofun⟩
  |some d=>
   obtain⟨k1,k2⟩:=N f d u l k Z D (by lia)
   exact⟨⟨I.T,I.gt,I.kn,(nofun),⟨l,u,D,w,by rw[t];exact k1⟩,G,k2,by rw[t];exact P,V⟩,R _,ak _,nofun⟩
theorem aff(I:Iv own tx tk g){f:List Pt}(h:g.fl=some f)(S:eZ own sn tk g):c_ tx tk sn g g.se g.kn f:=by
 obtain⟨l,p,q,k,_⟩:=I.oc;rw[h] at k;have t:=I.tf;rw[h] at t;refine⟨?_,zqR _,zqR _,⟨l,p,q,k⟩,t,λ_=>by rw[zaJ];exact h⟩
 rcases S with⟨a,b,d⟩|⟨a,b,d⟩|⟨a,b,d⟩
 ·rw[h] at b;cases b
 ·lia
 ·lia
end
section
variable {z:Nat}{one other c:List Pt}{l m n r:List Nat}{xs ys os ts zs:List At}
def fP(z:Nat)(f:Form):Nat:=f.1.count z+(f.2.2.map λq=>q.1.count z).sum
def fC(z:Nat)(f:Form):Nat:=f.2.1.count z+(f.2.2.map λq=>q.2.count z).sum
theorem qf(z:Nat)(xs:List At):xs.count (.P z)=fP z (nb xs)/\xs.count (.C z)=fC z (nb xs):=by
 induction xs with
 |nil=>exact⟨rfl,rfl⟩
 |cons a xs h=>
  unfold fP fC at h⊢;cases a<;>simp[nb,zaU] <;>lia
theorem afg(z:Nat)(h:bX xs ys zs):zs.count (.C z)<=xs.count (.C z)+ys.count (.C z)/\(ys.count (.C z)=0->zs.count (.P z)=xs.count (.P z)+ys.count (.P z)):=by
 induction h with
 |nil=>exact⟨zqR _,λ_=>rfl⟩
 |p|c|kk|kc|pk|pc=>simp[zaU] <;>lia
theorem afh(z:Nat)(h:c9 xs ys os ts):ts.count (.P z)=ys.count (.P z)/\ts.count (.C z)<=ys.count (.C z):=by
 induction h with
 |nil=>exact⟨rfl,zqR _⟩
 |p1|p2|kk|kc|ck|cc=>simp[zaU] <;>lia
theorem afi(z:Nat):∀(xs:List At) (l:List Nat),fit l xs->(out l xs).count z+xs.count (.C z)=l.count z+xs.count (.P z):=by
 intro xs
 induction xs with
 |nil=>intro l h;cases h;rfl
 |cons a xs d=>
  intro l h;cases a with
  |P c=>have:=d l h;simp[out,zaU];lia
  |K=>cases l with
   |nil=>exact h.elim
   |cons b l=>have:=d l h;simp[out,zaU];lia
  |C c=>cases l with
   |nil=>exact h.elim
   |cons b l=>obtain⟨e,h⟩:=h;have:=d l h;simp[out,zaU];lia
def dP(z:Nat)(c:List Pt):Nat:=(ar c).count (.P z)
def dC(z:Nat)(c:List Pt):Nat:=(ar c).count (.C z)
theorem afj(h:nb (ar c)=nb (ar b))(z:Nat):dP z c=dP z b/\dC z c=dC z b:=by
 unfold dP dC;rw[(qf z _).1,(qf z _).2,h,<-(qf z _).1,<-(qf z _).2];exact⟨rfl,rfl⟩
theorem AX(h:∀p∈c,gO p)(z:Nat):dP z (fJ c)=dP z c/\dC z (fJ c)=dC z c:=by
 rw[<-vY c h];exact afj (pJ c λp b=>tW (h p b)) z
theorem afk(h:bG c l r)(z:Nat):r.count z+dC z c=l.count z+dP z c:=by
 obtain⟨b,f⟩:=h.run.fits;rw[<-f];exact afi z _ _ b
theorem FN(f:bG one l m)(d:bG other l n)(t:az other<=100000)(z:Nat):dP z (f9 one other)=dP z other/\dC z (f9 one other)<=dC z other:=by
 obtain⟨p,A⟩:=f.run.fits;obtain⟨g,u⟩:=d.run.fits;obtain⟨os,ts,h⟩:=lA _ _ _ l (zqR _) p g;obtain⟨x,q,w⟩:=Fd d.ok h t;obtain⟨a,b⟩:=AX w z;obtain⟨e,k⟩:=afh z h;unfold f9;rw[a,b];unfold dP dC;rw[x];exact⟨e,k⟩
theorem Ql(h:∃zs,bX (ar q) (ar c) zs/\nb (ar ps)=nb zs)(z:Nat):dC z ps<=dC z q+dC z c/\(dC z c=0->dP z ps=dP z q+dP z c):=by
 obtain⟨zs,d,b⟩:=h;unfold dP dC;rw[(qf z<|ar ps).1,(qf z<|ar ps).2,b,<-(qf z zs).1,<-(qf z zs).2];exact afg z d
def Cl(i:Nat)(c:List Pt):Prop:= ∀k,k<4->dC (48+k) c=0/\(k≠i->dP (48+k) c=0)
def dO(z:Nat):Option (List Pt)->Nat
 |none=>0
 |some c=>dP z c
def iB(i:Nat)(o:Option (List Pt)):Prop:= ∀c,o=some c->Cl i c
theorem Cl.pass(h:Cl i other)(p:bG one l m)(g:bG other l n)(t:az other<=100000):Cl i (f9 one other):=λk d=>by
 obtain⟨a,b⟩:=h k d;obtain⟨e,f⟩:=FN p g t (48+k);exact⟨by lia,λn=>e.trans<|b n⟩
theorem Cl.aL(g:Cl i q)(p:Cl i c)(h:∃zs,bX (ar q) (ar c) zs/\nb (ar ps)=nb zs):Cl i ps:=λk d=>by
 obtain⟨a,b⟩:=g k d;obtain⟨e,f⟩:=p k d;obtain⟨u,v⟩:=Ql h (48+k);exact⟨by lia,λn=>by lia⟩
theorem Qm{o:Option (List Pt)}(h:OC o l n)(b:bG one l m)(t:bR o<=100000):(∀z,dO z (pF one o)=dO z o)/\(iB i o->iB i (pF one o)):=by
 cases o with
 |none=>exact⟨λ_=>rfl,λh=>h⟩
 |some f=>exact⟨λz=>(FN b h t z).1,λk c e=>by cases e;exact(k f rfl).pass b h t⟩
end
section
variable {own sn:Nat}{tx:List (List Nat)}{tk:List (Nat×List Pt)}{g:Gs}{e:Nat×List Pt}{z:Nat}
theorem FO{o:Option (List Pt)}:pF c o=none↔o=none:=by cases o<;>simp[pF]
theorem afl:(bZ own e g).se+(if (bZ own e g).de=none then 0 else 1)=g.se+(if g.de=none then 0 else 1)/\(iZ own e g).length+g.se=(bZ own e g).se:=by
 unfold bZ iZ;by_cases h:e.1=own
 ·rw[if_pos h,if_pos h];cases g.de with
  |none=>exact⟨rfl,zbi _⟩
  |some q=>exact⟨rfl,Nat.add_comm _ _⟩
 ·rw[if_neg h,if_neg h];refine⟨?_,zbi _⟩;show g.se+(if pF _ g.de=none then 0 else 1)=_
  cases g.de<;>rfl
theorem Qn(own:Nat)(tk:List (Nat×List Pt))(g:Gs)(j:Nat):(bg own tk g j).1.se+(if (bg own tk g j).1.de=none then 0 else 1)=g.se+(if g.de=none then 0 else 1)/\(bg own tk g j).2.1.length+g.se=(bg own tk g j).1.se:=by
 induction j with
 |zero=>exact⟨rfl,zbi _⟩
 |succ j h=>
  obtain⟨a,b⟩:=afl;refine⟨a.trans h.1,?_⟩;show(_++_:List Ask).length+_=(bZ _ _ _).se;rw[zqA];lia
theorem afm(own:Nat)(tk:List (Nat×List Pt))(g:Gs)(j:Nat):(bg own tk g j).1.fl≠none->((bg own tk g j).1.se=g.se/\g.fl≠none)\/∃a∈ (bg own tk g j).2.1,a.1=(bg own tk g j).1.se:=by
 induction j with
 |zero=>exact λh=>.inl ⟨rfl,h⟩
 |succ j d=>
  show(bZ own _ _).fl≠none->((bZ own _ _).se=g.se/\_)\/∃a∈_++iZ own _ _,a.1=(bZ own _ _).se;generalize tk.getD (bg own tk g j).1.kn (0,[])=e;unfold bZ iZ;by_cases b:e.1=own
  ·rw[if_pos b,if_pos b];intro h;cases f:(bg own tk g j).1.de with
   |none=>exact absurd f h
   |some q=>exact .inr ⟨_,zau _<|.head _,rfl⟩
  ·rw[if_neg b];intro h;rcases d λy=>h (FO.mpr y) with y|⟨a,k,l⟩
   ·exact .inl y
   ·exact .inr ⟨a,zaG _ k,l⟩
def pd(z sn:Nat)(g:Gs):Nat:=(if g.fl≠none/\sn+1=g.se then dO z g.fl else 0)+dO z g.de
theorem afn(I:Iv own tx tk g)(S:eZ own sn tk g)(f:tk[g.kn]?=some e)(G:iB own g.fl)(p:iB own g.de):(∀z,pd z sn (bZ own e g)=pd z sn g)/\iB own (bZ own e g).fl/\iB own (bZ own e g).de:=by
 obtain⟨l,R,P,zq⟩:=qx3 (I.at' f);obtain⟨X,V,k,A,m,D⟩:=qa6 zq;unfold bZ pd;by_cases h:e.1=own
 ·rw[if_pos h];refine⟨λz=>?_,p,nofun⟩
  rcases S with⟨a,b,d⟩|⟨a,b,d⟩|⟨a,b,d⟩
  ·exact absurd h (d 0 e f)
  ·exact absurd h (d 0 e f)
  ·have E:(if g.fl≠none/\sn+1=g.se then dO z g.fl else 0)=0:=if_neg λy=>by lia
   rw[E,zbi]
   cases T:g.de with
   |none=>rfl
   |some q=>rw[if_pos ⟨by lia,by show sn+1=g.se+1;lia⟩];rfl
 ·rw[if_neg h];obtain⟨N,zq⟩:=qx1 (m.pass k A I.tf);obtain⟨a1,K,a3,Z⟩:=qa4 zq;obtain⟨x,w⟩:=Qm m k (by have:=I.tf;lia)
  obtain⟨u,t⟩:=Qm D K (by have:=I.td;lia)
  refine⟨λz=>?_,w G,t p⟩
  rw[x,u];by_cases y:g.fl=none
  ·rw[if_neg λq=>q.1 (FO.mpr y),if_neg λq=>q.1 y]
  ·by_cases s:sn+1=g.se
   ·rw[if_pos ⟨λq=>y<|FO.mp q,s⟩,if_pos ⟨y,s⟩]
   ·rw[if_neg λq=>s q.2,if_neg λq=>s q.2]
theorem afo(I:Iv own tx tk g)(S:eZ own sn tk g)(m:iB own g.fl)(l:iB own g.de)(j:Nat):g.kn+j<=tk.length->(∀z,pd z sn (bg own tk g j).1=pd z sn g)/\iB own (bg own tk g j).1.fl/\iB own (bg own tk g j).1.de:=by
 induction j with
 |zero=>exact λ_=>⟨λ_=>rfl,m,l⟩
 |succ j d=>
  intro h;obtain⟨e,f,k⟩:=xr j h;obtain⟨a,b,c⟩:=d (by lia)
  obtain⟨p,r⟩:=afn (I.run j (by lia)) (ux I S j (by lia)) f b c
  show(∀z,pd z sn (bZ own _ _)=_)/\iB own (bZ own _ _).fl/\iB own (bZ own _ _).de;rw[k];exact⟨λz=>(p z).trans<|a z,r⟩
theorem afp{l n:List Nat}(T:Taken tx tk)(u:tx[d]?=some l)(x:bG c l n)(t:az c<=5200)(k:Cl i c)(j:Nat):d+j<=tk.length->(∀z,dP z (pj tk d j c)=dP z c)/\Cl i (pj tk d j c):=by
 induction j with
 |zero=>exact λ_=>by exact⟨λ_=>rfl,k⟩
 |succ j q=>
  intro h;obtain⟨a,b⟩:=q (by lia)
  have w:d+j<tk.length:=by lia
  have e:=zaj w;obtain⟨m,r,A,f,E⟩:=uk T u x t j (by lia)
  have D:=T.len;obtain⟨p,_⟩:=T.chg (d+j) _ _ _ _ e A (zaj (by lia))
  rw[pX e];exact⟨λz=>(FN p f (by lia) z).1.trans<|a z,b.pass p f (by lia)⟩
end
theorem Qo{b:Type}{f:b->Nat}{h h':b}:∀{hs:List b}{i:Nat},hs[i]?=some h->((hs.set i h').map f).sum+f h=(hs.map f).sum+f h':=by
 intro hs
 induction hs with
 |nil=>intro i e;simp at e
 |cons a hs d=>
  intro i e;cases i with
  |zero=>cases e;show f h'+(hs.map f).sum+f h=f h+(hs.map f).sum+f h';lia
  |succ i=>have:=d e;show f a+((hs.set i h').map f).sum+f h=f a+(hs.map f).sum+f h';lia
theorem Qp{b:Type}{f:b->Nat}:∀{hs:List b}{ms:List Nat},hs.length=ms.length->(∀i h,hs[i]?=some h->f h<=ms.getD i 0)->(hs.map f).sum<=ms.sum:=by
 intro hs
 induction hs with
 |nil=>intro ms _ _;exact zqZ _
 |cons a hs d=>
  intro ms l k;cases ms with
  |nil=>cases l
  |cons m ms=>
   have g:=d (Nat.succ.inj l) λi h e=>k (i+1) h e;show f a+(hs.map f).sum<=m+ms.sum;have:f a<=m:=(k 0 a rfl);lia
end L2.fG
namespace L2.bJ
open PySem PySem.Spec L2.B L2.N L2.fG
abbrev f4(x:Str)(se ch mk:Addr):List (Str×V):=[("signs",.str x),("serials",.ref se),("changes",.ref ch),("makers",.ref mk)]
theorem Qq{se ch:Addr}:(f4 x se ch mk).lookup ("signs":Str)=some (.str x):=iR
theorem xu{se ch:Addr}:(f4 x se ch mk).lookup ("serials":Str)=some (.ref se):=rfl
theorem AY{se ch:Addr}:(f4 x se ch mk).lookup ("changes":Str)=some (.ref ch):=rfl
theorem Qr{se ch:Addr}:(f4 x se ch mk).lookup ("makers":Str)=some (.ref mk):=rfl
theorem iC{se ch:Addr}{m:Str}(h:((¬m="signs"/\ ¬m="serials")/\ ¬m="changes")/\ ¬m="makers":=by decide+kernel):(f4 x se ch mk).lookup m=none:=
 (cO h.1.1.1).trans ((cO h.1.1.2).trans<|(cO h.1.2).trans<|(cO h.2).trans rfl)
theorem afq{se ch:Addr}:aI "makers" (.ref mk) (aI "changes" (.ref ch)<|aI "serials" (.ref se)<|aI "signs" (.str x) [])=f4 x se ch mk:=rfl
theorem afr{se ch:Addr}:aI "signs" (.str y) (f4 x se ch mk)=f4 y se ch mk:=mx
def eL(b:List Addr)(H:Hp)(v:V)(ps:List Pt):Prop:= ∃a xs,v=.ref a/\H a=some (.lst xs)/\aH H xs ps/\a∉b
def bw(d:List Addr)(H H':Hp):Prop:= ∀b o,H b=some o->b∉d->H' b=some o
structure eh (M:List Addr) (C:Addr) (H:Hp) (p dx se ch mk:Addr) (x:Str) (ai:List Nat) (tk:List (Nat×List Pt)):Prop where
 ob:H p=some (.ins C dx<|f4 x se ch mk)
 dY:H se=some (.lst<|nV ai)
 b_:∃cH,H ch=some (.lst cH)/\Paired (eL M H) cH (tk.map (·.2))
 hU:H mk=some (.lst (nV (tk.map (·.1))))
 nd:se≠ch/\se≠mk/\ch≠mk
 mm:se∈M/\ch∈M/\mk∈M
section
variable {K:Frag}{M:List Addr}{C:Addr}{H H':Hp}{p dx se ch mk:Addr}{x:Str}{ai:List Nat}{tk:List (Nat×List Pt)}
theorem eL.same(h:eL M H v ps)(s:aD H H'):eL M H' v ps:=by
 obtain⟨a,xs,e,f,d,b⟩:=h;exact⟨a,xs,e,s _ _ f,d.mono<|bV s,b⟩
theorem eh.same(S:eh M C H p dx se ch mk x ai tk)(s:aD H H'):eh M C H' p dx se ch mk x ai tk:=by
 obtain⟨d,b,h⟩:=S.b_;exact⟨s _ _ S.ob,s _ _ S.dY,⟨d,s _ _ b,Paired.dR h λ_ _ z=>z.same s⟩,s _ _ S.hU,S.nd,S.mm⟩
theorem afs(S:eh M C H p dx se ch mk x ai tk){k m:Nat}(h:tk[k]?=some (m,ps)):∃b v,H ch=some (.lst b)/\b[k]?=some v/\eL M H v ps:=by
 obtain⟨b,g,f⟩:=S.b_;have l:=Paired.length f;rw[zae] at l;have q:=(zad.mp h).1;have e:b[k]?=some b[k]:=zaj (by lia)
 obtain⟨y,d,r⟩:=Au f e;rw[zam,h] at d;cases d;exact⟨b,_,g,e,r⟩
inductive FP(C:Addr)(vs:List V)(H:Hp)(Q:VK)(E:XK):Prop|i(p dx:Addr)(x:Str)(h:Nat)(_:vs=[.ref p,.str x,.int (h:Nat)])(_:H p=some (.ins C dx []))(_:good x)(_:1<=h)(_:h<=8)(_:∀se ch mk H',H se=none->H ch=none->H mk=none->eh [se,ch,mk] C H' p dx se ch mk x (List.replicate h 0) []->(∀b o,H b=some o->b≠p->H' b=some o)->Q .av H')
theorem aft(T:me K C):cp (FP C) (λE=>aO K [("need_text",rm),("is_between",jI)] [("MOST_HANDS",.int 8)] (et:=[("NoHand",CN)]) (E:=E)) Lx Lw:=by
 intro vs H Q E h;obtain⟨p,dx,x,h,rfl,hp,gx,h1,h8,k⟩:=h;refine d5<|bP rm rfl<|aC<|af rfl<|aN ⟨x,rfl,gx,?_⟩;refine bQ<|iy<|nY jI rfl<|aC<|af rfl<|aC<|ay<|aC<|El<|aN ⟨_,_,_,rfl,by lia,by show(h:Int)<=8;lia,iW<|iF (dJ ?_) rfl⟩
 refine dn<|af rfl<|af rfl ⟨p,C,dx,[],rfl,hp,T.cl,T.jC,(by show 0<1000;decide),?_⟩
 have N:upd H p (.ins C dx<|aI "signs" (.str x) []) p=some (.ins C dx<|aI "signs" (.str x) []):=aw;have b1:aR p H (upd H p<|.ins C dx<|aI "signs" (.str x) []):=aR.upd;have h':H p≠none:=by rw[hp];intro z;cases z
 generalize upd H p (.ins C dx<|aI "signs" (.str x) [])=H1 at N b1⊢;have fr:∀{z:Addr},H1 z=none->H z=none:=λ{z} I=>by
  cases e:H z with
  |none=>rfl
  |some o=>
   by_cases zp:z=p
   ·rw[zp,N] at I;cases I
   ·rw[b1 _ _ e zp] at I;cases I
 refine dn ?_;refine⟨_,rfl,_,rfl,by lia,by lia,EX (n:=h) (by lia) (λi ys H2=>H2=H1/\ys=List.replicate i (V.int 0)) ⟨rfl,rfl⟩ ?_ ?_⟩
 ·rintro i ys H2 hi s2 ⟨rfl,rfl⟩ Q' kk;refine ay<|kk _ _ (aD.refl _) ⟨rfl,?_⟩;rw[List.replicate_succ']
 rintro ys H2 se s2 ⟨rfl,rfl⟩ D;have Z:=sameNew (o:=.lst (List.replicate h<|V.int 0)) D;have P:upd H2 se (.lst<|List.replicate h<|V.int 0) se=some (.lst<|nV<|List.replicate h 0):=by rw[aw];unfold nV;rw[List.map_replicate];rfl
 have fA:=Z _ _ N;have g':=fr D;have m:se≠p:=λz=>by rw[z,N] at D;cases D
 have G:∀b o,H b=some o->b≠p->upd H2 se (.lst<|List.replicate h<|V.int 0) b=some o:=λb o e d=>Z _ _ (b1 _ _ e d);generalize upd H2 se (.lst<|List.replicate h<|V.int 0)=R at Z P fA G⊢;refine af rfl ⟨p,C,dx,_,rfl,fA,T.cl,T.tJ,(by show 1<1000;decide),?_⟩
 have S:upd R p (.ins C dx<|aI "serials" (.ref se)<|aI "signs" (.str x) []) p=some (.ins C dx<|aI "serials" (.ref se)<|aI "signs" (.str x) []):=aw;have g:aR p R (upd R p<|.ins C dx<|aI "serials" (.ref se)<|aI "signs" (.str x) []):=aR.upd;generalize upd R p (.ins C dx<|aI "serials" (.ref se)<|aI "signs" (.str x) [])=H4 at S g⊢;refine dn<|eY<|aN ⟨zqZ _,λch q=>?_⟩;have w:ch≠p:=λz=>by rw[z,S] at q;cases q
 have b':se≠ch:=aM (g _ _ P m) q;have f':H ch=none:=by
  cases e:H ch with
  |none=>rfl
  |some o=>rw[g _ _ (G _ _ e w) w] at q;cases q
 refine af rfl ⟨p,C,dx,_,rfl,(by rw[ax<|Ne.symm w];exact S),T.cl,T.vO,(by show 2<1000;decide),?_⟩
 have FQ:upd (upd H4 ch<|.lst []) p (.ins C dx<|aI "changes" (.ref ch)<|aI "serials" (.ref se)<|aI "signs" (.str x) []) p=some (.ins C dx<|aI "changes" (.ref ch)<|aI "serials" (.ref se)<|aI "signs" (.str x) []):=aw;have A:∀b o,H4 b=some o->b≠p->upd (upd H4 ch<|.lst []) p (.ins C dx<|aI "changes" (.ref ch)<|aI "serials" (.ref se)<|aI "signs" (.str x) []) b=some o:=λb o e d=>by rw[ax d,ax<|aM e q];exact e
 have X:upd (upd H4 ch<|.lst []) p (.ins C dx<|aI "changes" (.ref ch)<|aI "serials" (.ref se)<|aI "signs" (.str x) []) ch=some (.lst []):=by rw[ax w];exact aw
 generalize upd (upd H4 ch<|.lst []) p (.ins C dx<|aI "changes" (.ref ch)<|aI "serials" (.ref se)<|aI "signs" (.str x) [])=H5 at FQ A X⊢;refine dn<|eY<|aN ⟨zqZ _,λmk f=>?_⟩;have t:mk≠p:=λz=>by rw[z,FQ] at f;cases f
 have c':ch≠mk:=aM X f;have a':se≠mk:=aM (A _ _ (g _ _ P m) m) f;have e':H mk=none:=by
  cases e:H mk with
  |none=>rfl
  |some o=>rw[A _ _ (g _ _ (G _ _ e t) t) t] at f;cases f
 refine af rfl ⟨p,C,dx,_,rfl,(by rw[ax<|Ne.symm t];exact FQ),T.cl,T.Dz,(by show 3<1000;decide),?_⟩
 have u:∀{z:Addr}{o:HO},H5 z=some o->z≠p->upd (upd H5 mk<|.lst []) p (.ins C dx<|aI "makers" (.ref mk)<|aI "changes" (.ref ch)<|aI "serials" (.ref se)<|aI "signs" (.str x) []) z=some o:=λe nz=>by rw[ax nz,ax<|aM e f];exact e
 refine k se ch mk _ g' f' e' ⟨?_,u (A _ _ (g _ _ P m) m) m,⟨[],u X w,.nil⟩,?_,⟨b',a',c'⟩,⟨.head _,.tail _<|.head _,.tail _<|.tail _<|.head _⟩⟩ λb o e d=>u (A _ _ (g _ _ (G _ _ e d) d) d) d
 ·rw[aw];exact congrArg (λl=>some<|HO.ins C dx l) afq
 ·rw[ax t];exact aw
inductive FR(C:Addr)(vs:List V)(H:Hp)(Q:VK)(E:XK):Prop|i(M:List Addr)(p dx se ch mk:Addr)(x:Str)(ai:List Nat)(tk:List (Nat×List Pt))(_:vs=[.ref p])(_:eh M C H p dx se ch mk x ai tk)(_:Q (.str x) H)
theorem afA(T:me K C):cp (FR C) (λE=>aO K [] [] (E:=E)) LA ip:=by
 intro vs H Q E h;obtain⟨M,p,dx,se,ch,mk,x,ai,tk,rfl,S,q⟩:=h;exact cq<|bp<|af rfl ⟨p,C,dx,_,_,rfl,S.ob,T.cl,T.jC,Qq,q⟩
inductive lI(C:Addr)(vs:List V)(H:Hp)(Q:VK)(E:XK):Prop|i(M:List Addr)(p dx se ch mk:Addr)(x:Str)(ai:List Nat)(tk:List (Nat×List Pt))(_:vs=[.ref p])(_:eh M C H p dx se ch mk x ai tk)(_:Q (.int (tk.length:Nat)) H)
theorem afB(T:me K C):cp (lI C) (λE=>aO K [] [] (E:=E)) LC ip:=by
 intro vs H Q E h;obtain⟨M,p,dx,se,ch,mk,x,ai,tk,rfl,S,q⟩:=h;obtain⟨e,d,b⟩:=S.b_;have l:=Paired.length b;rw[zae] at l;refine cq<|iz<|bp<|af rfl ⟨p,C,dx,_,_,rfl,S.ob,T.cl,T.vO,AY,.inl ⟨_,aB.of d,?_⟩⟩;rw[l];exact q
inductive FT(C:Addr)(vs:List V)(H:Hp)(Q:VK)(E:XK):Prop|i(M:List Addr)(p dx se ch mk:Addr)(x:Str)(ai:List Nat)(tk:List (Nat×List Pt))(k m:Nat)(ps:List Pt)(_:vs=[.ref p,.int ((k+1:Nat):Int)])(_:eh M C H p dx se ch mk x ai tk)(_:tk[k]?=some (m,ps))(_:∀l H' xs,aD H H'->H l=none->H' l=some (.lst xs)->aH H' xs ps->Q (.ref l) H')
theorem afC(T:me K C):cp (FT C) (λE=>aO K [("is_between",jI)] [] [] [("many",C,lI C)] (et:=[("NoLetter",CL)]) (E:=E)) LG LF:=by
 intro vs H Q E h;obtain⟨M,p,dx,se,ch,mk,x,ai,tk,k,m,ps,rfl,S,b,q⟩:=h;have w:=(zad.mp b).1;obtain⟨u,v,t,g,a,xs,rfl,e,d,_⟩:=afs S b;refine bQ<|iy<|nY jI rfl<|aC<|af rfl<|aC<|ay<|aC<|iS C (lI C) rfl<|af rfl ⟨p,dx,_,rfl,S.ob,iC,M,p,dx,se,ch,mk,x,ai,tk,rfl,S,aN ⟨_,_,_,rfl,by lia,by lia,iW<|iF (dJ ?_) rfl⟩⟩
 refine cq<|pW<|bx<|bp<|af rfl ⟨p,C,dx,_,_,rfl,S.ob,T.cl,T.vO,AY,bL<|af rfl<|ay<|nZ ?_⟩;rw[show(((k+1:Nat):Int) - 1)=((k:Nat):Int) by lia]
 refine mI t (gg g) ⟨_,.inl<|aB.of e,λl f=>q l _ xs (sameNew f) f aw<|d.mono<|bV<|sameNew f⟩
def cT(H:Hp)(t:Addr)(h n m:Nat)(ps:List Pt)(l:Addr):Prop:=H t=some (.tup [.str "took",.int (h:Nat),.int (n:Nat),.int (m:Nat),.ref l])/\∃xs,H l=some (.lst xs)/\aH H xs ps
inductive xx(C:Addr)(vs:List V)(H:Hp)(Q:VK)(E:XK):Prop|i(M:List Addr)(p dx se ch mk:Addr)(x:Str)(ai:List Nat)(tk:List (Nat×List Pt))(h k m:Nat)(ps:List Pt)(_:vs=[.ref p,.int (h:Nat),.int ((k+1:Nat):Int)])(_:eh M C H p dx se ch mk x ai tk)(_:tk[k]?=some (m,ps))(_:∀t l H',aD H H'->H t=none->H l=none->cT H' t h (k+1) m ps l->Q (.ref t) H')
theorem afD(T:me K C):cp (xx C) (λE=>aO K [] [] [] [("change",C,FT C)] (E:=E)) LK zr:=by
 intro vs H Q E h;obtain⟨M,p,dx,se,ch,mk,x,ai,tk,h,k,m,ps,rfl,S,e,q⟩:=h;have A:(nV (tk.map (·.1)))[k]?=some (.int (m:Nat)):=by rw[zam,zam,e];rfl
 refine cq<|jh<|aC<|ay<|aC<|af rfl<|aC<|af rfl<|aC<|bx<|bp<|af rfl ⟨p,C,dx,_,_,rfl,S.ob,T.cl,T.Dz,Qr,bL<|af rfl<|ay<|nZ ?_⟩;rw[show(((k+1:Nat):Int) - 1)=((k:Nat):Int) by lia]
 refine mI S.hU (gg A)<|aC<|jH C (FT C) rfl<|af rfl ⟨p,dx,_,rfl,S.ob,iC,af rfl ⟨M,p,dx,se,ch,mk,x,ai,tk,k,m,ps,rfl,S,e,λl H1 xs d w u g=>aN ⟨BC,λt f=>?_⟩⟩⟩;have b:=sameNew (o:=.tup [.str "took",.int (h:Nat),.int ((k+1:Nat):Int),.int (m:Nat),.ref l]) f;exact q t l _ (d.trans b) (d.free f) w ⟨aw,xs,b _ _ u,g.mono<|bV b⟩
inductive xy(C:Addr)(vs:List V)(H:Hp)(Q:VK)(E:XK):Prop|i(M:List Addr)(p dx se ch mk:Addr)(x:Str)(ai:List Nat)(tk:List (Nat×List Pt))(h n:Nat)(_:vs=[.ref p,.int (h:Nat),.int (n:Nat)])(_:eh M C H p dx se ch mk x ai tk)(_:h<ai.length)(_:n<=tk.length)(_:Q (.bl true) H)
theorem afE(T:me K C):cp (xy C) (λE=>aO K [("is_between",jI)] [] [] [("many",C,lI C)] (E:=E)) LR zr:=by
 intro vs H Q E h;obtain⟨M,p,dx,se,ch,mk,x,ai,tk,h,n,rfl,S,d,b,q⟩:=h;have l:(nV ai).length=ai.length:=zae ..;refine cq<|uf<|bP jI rfl<|aC<|af rfl<|aC<|ay<|aC<|bL<|iz<|bp<|af rfl ⟨p,C,dx,_,_,rfl,S.ob,T.cl,T.tJ,xu,.inl ⟨_,aB.of S.dY,ay<|nZ<|aN ⟨_,_,_,rfl,by lia,by lia,_,rfl,iT ?_ rfl⟩⟩⟩
 exact E3<|bP jI rfl<|aC<|af rfl<|aC<|ay<|aC<|iS C (lI C) rfl<|af rfl ⟨p,dx,_,rfl,S.ob,iC,M,p,dx,se,ch,mk,x,ai,tk,rfl,S,aN ⟨_,_,_,rfl,by lia,by lia,q⟩⟩
theorem AZ{m:Str}(h:ag Γ (.aS j m o as) σ H λx H1=>jW Γ.K x H1 λb=>T b H1):aY Γ (.aS j m o as) σ H T:=h
abbrev FU(h b:Nat):List V:=[.str "again",.int (h:Nat),.int (b:Nat)]
abbrev A0(h n d:Nat)(b:Addr):List V:=[.str "ask",.int (h:Nat),.int (n:Nat),.int (d:Nat),.ref b]
inductive A_(C:Addr)(vs:List V)(H:Hp)(Q:VK)(E:XK):Prop|i(M:List Addr)(p dx se ch mk:Addr)(x:Str)(ai:List Nat)(tk:List (Nat×List Pt))(l:Addr)(_:vs=[.ref p,.ref l])(_:eh M C H p dx se ch mk x ai tk)(_:((∃h b,H l=some (.tup<|FU h b)/\h<ai.length/\b<=tk.length/\∀H',aD H H'->Q (.bl true) H')\/(∃u,H l=some (.tup u)/\u.length=5/\Q (.bl false) H)))
theorem afF:cp (A_ C) (λE=>aO K [("is_word",mq K)] [] [] [("is_known",C,xy C)] (E:=E)) LP o5:=by
 intro vs H Q E h;obtain⟨M,p,dx,se,ch,mk,x,ai,tk,t,rfl,S,⟨h,d,l,g,k,q⟩|⟨m,l,u,q⟩⟩:=h
 ·refine cq (uf<|Em<|iz<|af rfl<|xg l<|ay<|Am ⟨_,rfl,iT (uf<|AH rfl rfl l λH1 b=>⟨_,rfl,iT (E3 ?_) rfl⟩) rfl⟩);have f:=S.same b;have e:=b _ _ l;exact Aq C (xy C) rfl<|af rfl ⟨p,dx,_,rfl,f.ob,iC,bx<|af rfl<|ay<|cv e rfl<|bx<|af rfl<|ay<|cv e rfl ⟨M,p,dx,se,ch,mk,x,ai,tk,h,d,rfl,f,g,k,q _ b⟩⟩
 ·refine cq (uf<|Em<|iz<|af rfl<|xg l<|ay<|Am ⟨_,rfl,iF q ?_⟩);rw[u];rfl
inductive FV(C:Addr)(vs:List V)(H:Hp)(Q:VK)(E:XK):Prop|i(M:List Addr)(p dx se ch mk:Addr)(x:Str)(ai:List Nat)(tk:List (Nat×List Pt))(l b:Addr)(h n d:Nat)(ys:List V)(c:List Pt)(_:vs=[.ref p,.ref l])(_:eh M C H p dx se ch mk x ai tk)(_:H l=some (.tup<|A0 h n d b))(_:h<ai.length)(_:d<=tk.length)(_:1<=n)(_:H b=some (.lst ys))(_:aH H ys c)(_:(∀p∈c,aX p))(_:chainOk "" c=true)(_:∀H',aD H H'->Q (.bl true) H')
theorem afG:cp (FV C) (λE=>aO K [("is_word",mq K),("is_whole",qU),("is_change",xb)] [] [] [("is_known",C,xy C)] (E:=E)) LM o5:=by
 intro vs H Q E h;obtain⟨M,p,dx,se,ch,mk,x,ai,tk,G,b,h,n,f,ys,c,rfl,S,l,u,A,I,w,m,t,D,q⟩:=h;refine bQ<|pZ<|bF<|iz<|af rfl<|xg l<|ay<|pT ⟨_,rfl,iF (pZ<|iy<|Fq<|AH rfl rfl l λH1 d=>iW (iF ?_ rfl)) rfl⟩;have g:=S.same d;have e:=d _ _ l;refine xf<|iy<|AZ<|Aq C (xy C) rfl<|af rfl ⟨p,dx,_,rfl,g.ob,iC,bx<|af rfl<|ay<|cv e rfl<|bx<|af rfl<|ay<|cv e rfl ⟨M,p,dx,se,ch,mk,x,ai,tk,h,f,rfl,g,u,A,iW<|iF (dJ (cq<|uf<|bP qU rfl<|aC<|bx<|af rfl<|ay<|cv e rfl<|aN ⟨_,rfl,_,rfl,iT (uf<|Em<|bx<|af rfl<|ay<|cv e rfl<|ay ⟨trivial,_,rfl,iT ?_<|zqT (by lia)⟩) rfl⟩)) rfl⟩⟩
 exact E3<|bP xb rfl<|aC<|bx<|af rfl<|ay<|cv e rfl<|aN ⟨b,ys,c,rfl,d _ _ w,m.mono<|bV d,t,D,λH2 k=>q _<|d.trans k⟩
end
abbrev Let:=Nat×Nat×Nat×List Pt
def gQ(b H:Hp)(v:V)(e:Let×Addr):Prop:= ∃t,v=.ref t/\cT H t e.1.1 e.1.2.1 e.1.2.2.1 e.1.2.2.2 e.2/\b t=none/\b e.2=none
theorem cT.same{h m:Nat}(x:cT H t h n m ps l)(s:aD H H'):cT H' t h n m ps l:=by
 obtain⟨e,xs,d,b⟩:=x;exact⟨s _ _ e,xs,s _ _ d,b.mono<|bV s⟩
theorem gQ.same{e:Let×Addr}(x:gQ f H v e)(s:aD H H'):gQ f H' v e:=by
 obtain⟨t,d,b,h⟩:=x;exact⟨t,d,b.same s,h⟩
theorem gQ.some{H:Hp}:∀{b:List V}{q:List (Let×Addr)},Paired (gQ d H) b q->∀l∈q.map (·.2),∃o,H l=some o:=by
 intro _ _ p;induction p with
 |nil=>nofun
 |cons a r i=>
  intro l h;rcases zaa.mp h with h|h
  ·obtain⟨t,_,⟨_,xs,x,_⟩,_⟩:=a;rw[h];exact⟨_,x⟩
  ·exact i l h
theorem gQ.none{H:Hp}:∀{b:List V}{q:List (Let×Addr)},Paired (gQ e H) b q->∀l∈q.map (·.2),e l=Option.none:=by
 intro _ _ p;induction p with
 |nil=>nofun
 |cons a r i=>
  intro l h;rcases zaa.mp h with h|h
  ·obtain⟨t,_,_,_,d⟩:=a;rw[h];exact d
  ·exact i l h
section
variable {K:Frag}{M:List Addr}{C:Addr}{H H':Hp}{p dx se ch mk:Addr}{x:Str}{ai:List Nat}{tk:List (Nat×List Pt)}
theorem Qs{Z:List V->Hp->Addr->Prop}{P:TE}{lo:Int}(f:List Let)(hn:f.length=n)(hl:n<=1000)
  (u:∀i e H2,f[i]?=some e->aD H H2->∀G:VK,(∀t l h,aD H2 h->H2 t=none->H2 l=none->cT h t e.1 e.2.1 e.2.2.1 e.2.2.2 l->G (.ref t) h)->P (some (.int<|lo+(i:Nat))::cI σ fv) H2 G)
  (I:∀k g H2 q,aD H H2->g.map (·.1)=f->Paired (gQ H H2) k g->(g.map (·.2)).Nodup->H2 q=none->Z k H2 q):∃d:Nat->Nat->List V->Hp->Prop,(∃m,d 0 m [] H)/\∀i m ys H2,d i m ys H2->
   ((eo lo n).stop i H2/\∀p,H2 p=none->Z ys H2 p)\/
   ((eo lo n).go i H2/\∀x h,(eo lo n).iE i H2 x h->jV K none x h λk=>lW none (k.map some++cI σ fv) h λb H5=>
    if b=true then P (k.map some++cI σ fv) H5 λy H6=>ys.length<sizeLine/\∃A,A<m/\d (i+1) A (ys++[y]) H6 else ∃A,A<m/\d (i+1) A ys H5):=by
 refine EX (by lia) (λi ys H2=>∃g:List (Let×Addr),g.map (·.1)=f.take i/\Paired (gQ H H2) ys g/\(g.map (·.2)).Nodup) ⟨[],rfl,.nil,List.nodup_nil⟩ ?_ ?_
 ·rintro i ys H2 hi w ⟨g,E,D,N⟩ G kk;have X:f[i]?=some f[i]:=zaj (by lia)
  refine u i _ H2 X w G λt l h R ft T hv=>kk _ _ R ⟨g++[(f[i],l)],?_,?_,?_⟩
  ·rw[zaq,E,E4 X];rfl
  ·exact Paired.snoc (Paired.dR D λ_ _ z=>z.same R) ⟨t,rfl,hv,w.free ft,w.free T⟩
  ·rw[zaq,List.nodup_append];refine⟨N,zaH.mpr ⟨zaf,List.nodup_nil⟩,λa ha b hb Ap=>?_⟩;rw[show b=l from zah.mp hb] at Ap
   obtain⟨o,S⟩:=gQ.some D a ha;rw[Ap,T] at S;cases S
 ·rintro ys H2 q w ⟨g,E,D,N⟩ fq;rw[<-hn,zbz] at E;exact I ys g H2 q w E D N fq
theorem afH(h:ag Γ a σ H λu w=>ag Γ b σ w λv H1=>∃i j:Int,[u,v]=[.int i,.int j]/\(-(2 ^ 62)<=i/\i<2 ^ 62/\ -(2 ^ 62)<=j/\j<2 ^ 62)/\∃d:Nat->Nat->List V->Hp->Prop,(∃m,d 0 m [] H1)/\∀k m ys H2,d k m ys H2->
   ((eo i (j - i).toNat).stop k H2/\∀p,H2 p=none->Q (.ref p) (upd H2 p<|.lst ys))\/
   ((eo i (j - i).toNat).go k H2/\∀x f,(eo i (j - i).toNat).iE k H2 x f->jV Γ.K none x f λg=>lW none (g.map some++cI σ fv) f λb l=>
    if b=true then ag Γ.calm t (g.map some++cI σ fv) l λy q=>ys.length<sizeLine/\∃e,e<m/\d (k+1) e (ys++[y]) q else ∃e,e<m/\d (k+1) e ys l)):ag Γ (.comp none fv .yP [a,b] none t) σ H Q:=h
theorem afI{x t:RE}(h:ag Γ x σ H λv H1=>∃j:Int,[v]=[.int j]/\ -(2 ^ 62)<=j/\j<2 ^ 62/\∃d:Nat->Nat->List V->Hp->Prop,(∃m,d 0 m [] H1)/\∀i m ys H2,d i m ys H2->
   ((eo 0 j.toNat).stop i H2/\∀p,H2 p=none->Q (.ref p) (upd H2 p<|.lst ys))\/
   ((eo 0 j.toNat).go i H2/\∀x f,(eo 0 j.toNat).iE i H2 x f->jV Γ.K none x f λg=>lW none (g.map some++cI σ fv) f λb k=>
    if b=true then ag Γ.calm t (g.map some++cI σ fv) k λy l=>ys.length<sizeLine/\∃e,e<m/\d (i+1) e (ys++[y]) l else ∃e,e<m/\d (i+1) e ys k)):ag Γ (.comp none fv .fS [x] none t) σ H Q:=h
theorem afJ(h:k<=xs.length):gF xs (some (k:Int)) none=xs.drop k:=by
 unfold gF;rw[HT.mZ,HT.BX,Nat.min_eq_left h,zaI (by simp)]
theorem Qu(h:j<n):ju n (j:Int)=some j:=by
 unfold ju;rw[if_pos (by lia),if_pos (by lia)];rfl
theorem eh.ext(S:eh M C H p dx se ch mk x ai tk)(s:aD H H'){f:List Addr}(D:∀b∈L::f,H b=none):eh (L::(f++M)) C H' p dx se ch mk x ai tk:=by
 obtain⟨q,l,N⟩:=(S.same s).b_;obtain⟨g,u,t⟩:=S.b_;have e:q=g:=by have:=s _ _ u;rw[l] at this;cases this;rfl
 subst e;have d:∀z,z∈M->z∈L::(f++M):=λz w=>.tail _ (zau _ w);refine⟨s _ _ S.ob,s _ _ S.dY,⟨q,l,Paired.dR t λv ps ⟨a,xs,I,m,G,E⟩=>⟨a,xs,I,s _ _ m,G.mono<|bV s,λA=>?_⟩⟩,s _ _ S.hU,S.nd,⟨d _ S.mm.1,d _ S.mm.2.1,d _ S.mm.2.2⟩⟩;have k:a∈L::f->False:=λh=>by have:=D a h;rw[m] at this;cases this
 rcases zaa.mp A with h|h
 ·exact k (h ▸ .head _)
 ·rcases zab.mp h with h|h
  ·exact k (.tail _ h)
  ·exact E h
abbrev xB(ai:List Nat)(tk:List (Nat×List Pt))(h:Nat)(c:List Pt):List Let:=(List.range ai.length).map λk=>(k,tk.length+1,h,c)
abbrev lJ(tk:List (Nat×List Pt))(b:Nat)(c:List Pt):List Pt:=pj tk b (tk.length - b) c
structure uB (M:List Addr) (C:Addr) (H:Hp) (p dx se ch mk:Addr) (x:Str) (ai:List Nat) (tk:List (Nat×List Pt)) (tx:List (List Nat)) (b:Addr) (h at':Nat) (ys:List V) (c:List Pt) (l n:List Nat):Prop where
 sv:eh M C H p dx se ch mk x ai tk
 bB:Taken tx tk
 tl:tx[tk.length]?=some x.cps.toList
 gx:good x
 lx:x.length<=10000
 al:∀m∈M,∃o,H m=some o
 hh:h<ai.length
 ha:at'<=tk.length
 lk:tk.length<=100
 ls:ai.length<=8
 hb:H b=some (.lst ys)
 nb:b≠se/\b≠ch
 pv:aH H ys c
 Ba:tx[at']?=some l
 cg:bG c l n
 tt:az c<=5200
def xC(M:List Addr)(C:Addr)(H:Hp)(p dx se ch mk:Addr)(x:Str)(ai:List Nat)(tk:List (Nat×List Pt))(h b:Nat)(c:List Pt)(Q:VK):Prop:= ∀(x':Str) (L:Addr) (d:List V) (q:List (Let×Addr)) (H':Hp),good x'->x'.length<=x.length+5200->Run x.cps.toList (lJ tk b c) x'.cps.toList->eh (L::(q.map (·.2)++M)) C H' p dx se ch mk x' (ai.set h<|ai.getD h 0+1) (tk++[(h,lJ tk b c)])->H' L=some (.lst d)->H L=none->
 q.map (·.1)=xB ai tk h (lJ tk b c)->Paired (gQ H H') d q->(q.map (·.2)).Nodup->L∉q.map (·.2)->bw [p,se,ch,mk] H H'->Q (.ref L) H'
inductive FW(C:Addr)(vs:List V)(H:Hp)(Q:VK)(E:XK):Prop|i(M:List Addr)(p dx se ch mk:Addr)(x:Str)(ai:List Nat)(tk:List (Nat×List Pt))(tx:List (List Nat))(b:Addr)(h d:Nat)(ys:List V)(c:List Pt)(l n:List Nat)(_:vs=[.ref p,.int (h:Nat),.int (d:Nat),.ref b])(_:uB M C H p dx se ch mk x ai tk tx b h d ys c l n)(_:xC M C H p dx se ch mk x ai tk h d c Q)
abbrev FX(K:Frag)(C:Addr)(E:XK):aQ:=aO K [("passed",wA),("done",rn)] [] [] [("took",C,xx C),("many",C,lI C)] (E:=E)
theorem afL(T:me K C)(vs:List V)(H:Hp)(Q:VK)(E:XK)(FY:FW C vs H Q E):aE (FX K C E) LX (Dn Q) (start LW vs) H:=by
 obtain⟨M,p,dx,se,ch,mk,x,ai,tk,tx,b,h,g,ys,c,l,n,rfl,I,q⟩:=FY;have S:=I.sv;obtain⟨A,b_,xD⟩:=S.b_;have Qw:=Paired.length xD;rw[zae] at Qw;have ha:=I.ha;have lk:=I.lk;refine Ar<|Pj<|bp<|af rfl ⟨p,C,dx,_,_,rfl,S.ob,T.cl,T.vO,AY,af rfl ⟨_,rfl,.inl ⟨_,aB.of b_,λf fW=>?_⟩⟩⟩;rw[afJ (by lia)]
 have s1:=sameNew (o:=.lst (A.drop g)) fW;have hW:upd H f (.lst<|A.drop g) f=some (.lst<|A.drop g):=aw;generalize upd H f (.lst<|A.drop g)=H1 at s1 hW⊢;have lw:(A.drop g).length=tk.length - g:=by rw[zat,Qw]
 refine⟨f,rfl,⟨_,aB.of hW⟩,lR (K:=K) (a:=f) (xs:=A.drop g) (λj σ H2=>∃(D:Addr) (N:List V) (u4:Option V),σ=[some<|.ref p,some<|.int (h:Nat),some<|.int (g:Nat),some<|.ref D,u4]/\aD H1 H2/\H2 D=some (.lst N)/\aH H2 N (pj tk g j c)/\D≠se/\D≠ch) ⟨b,ys,none,rfl,aD.refl _,s1 _ _ I.hb,I.pv.mono<|bV s1,I.nb⟩ (λj σ H2 _ ⟨_,_,_,_,s2,_⟩=>aB.of (s2 _ _ hW)) ?_ ?_⟩
 ·rintro j v σ H2 hv zq;obtain⟨D,N,u4,zq⟩:=qx3 zq;obtain⟨rfl,s2,m4,mK,wa⟩:=qa5 zq;rw[zbZ] at hv;obtain⟨ps,dj,a,xs,rfl,i',e',_⟩:=Au xD hv;rw[zam] at dj;obtain⟨⟨m,jA⟩,e_,rfl⟩:=zbH.mp dj;have hj:g+j<tk.length:=(zad.mp e_).1;obtain⟨lm,r,Z,u,t1⟩:=uk I.bB I.Ba I.cg I.tt j (by lia)
  obtain⟨rr,ex⟩:∃rr,tx[g+j+1]?=some rr:=⟨_,zaj (by rw[I.bB.len];lia)⟩
  obtain⟨c2,t2⟩:=I.bB.chg _ _ _ _ _ e_ Z ex;have l1:=og u t1;have l2:=og c2 t2;have lF:=s1.trans s2;show aE (FX K C E) _ _ [some<|.ref p,some<|.int (h:Nat),some<|.int (g:Nat),some<|.ref D,some<|.ref a] H2;refine bW<|bx<|bP wA rfl<|aC<|af rfl<|aC<|af rfl<|aN ⟨a,D,xs,N,jA,_,lm,_,r,rfl,lF _ _ i',m4,e'.mono<|bV lF,mK,c2.ok,u.ok,c2.ch,u.ch,by lia,by lia,c2.run,u.run,λt c' d' H3 zs ws mr t' s3 fc fd gy ht hc hd pz pw P=>?_⟩
  refine ay<|cv ht rfl ⟨d',ws,_,rfl,s2.trans s3,hd,?_,(λz=>by rw[z,lF _ _ S.dY] at fd;cases fd),(λz=>by rw[z,lF _ _ b_] at fd;cases fd)⟩
  have e:=(Pr u.ok P (by lia)).1
  rw[pX e_];show aH H3 ws (fJ<|fo jA<|pj tk g j c);rw[e];exact pw
 rintro σ H2 ⟨D,N,u4,rfl,s2,m4,mK,wa⟩;rw[lw] at mK;obtain⟨lm,r,Z,u,t1⟩:=uk I.bB I.Ba I.cg I.tt (tk.length - g) (by lia)
 rw[show g+(tk.length - g)=tk.length by lia,I.tl] at Z
 cases Z;have lc:=og u t1;have lF:=s1.trans s2;have rl:=u.run.len;have gl:=I.lx;have u':x.cps.toList.length=x.length:=by simp[Str.length]
 refine dn<|bP rn rfl<|aC<|bp<|af rfl ⟨p,C,dx,_,_,rfl,lF _ _ S.ob,T.cl,T.jC,Qq,aC<|af rfl<|aN ⟨x,D,N,_,r,rfl,I.gx,m4,mK,u.ok,u.ch,by lia,u.run,by lia,λH3 s3=>?_⟩⟩
 have X:=lF.trans s3;refine af rfl ⟨p,C,dx,_,rfl,X _ _ S.ob,T.cl,T.jC,(by show 4<1000;decide),?_⟩
 rw[afr];have a':∀q∈lJ tk g c,jf q:=λq hq=>E1 (u.ok q hq);have Qx:(⟨r.toArray⟩:Str).length=r.length:=by simp[Str.length]
 have gr:good ⟨r.toArray⟩:=⟨by rw[Qx];lia,λd hd=>u.run.good (λe he=>I.gx.2 e he) a' d (by simpa using hd)⟩
 have Ae:p≠se:=λz=>by have:=S.ob;rw[z,S.dY] at this;cases this
 have wu:p≠ch:=λz=>by have:=S.ob;rw[z,b_] at this;cases this
 have FZ:p≠mk:=λz=>by have:=S.ob;rw[z,S.hU] at this;cases this
 obtain⟨F0,xE,F1⟩:=S.nd;have Bb:upd H3 p (.ins C dx<|f4 ⟨r.toArray⟩ se ch mk) p=some (.ins C dx<|f4 ⟨r.toArray⟩ se ch mk):=aw;have b4:aR p H3 (upd H3 p<|.ins C dx<|f4 ⟨r.toArray⟩ se ch mk):=aR.upd;generalize upd H3 p (.ins C dx<|f4 ⟨r.toArray⟩ se ch mk)=H4 at Bb b4⊢;have Qy:=b4 _ _ (X _ _ S.dY) (Ne.symm Ae);have s':=b4 _ _ (X _ _ b_) (Ne.symm wu);have r':=b4 _ _ (X _ _ S.hU) (Ne.symm FZ);have hh:=I.hh;have k':ai[h]?=some (ai.getD h 0):=by rw[zaF,zaj hh];rfl
 have F2:(nV ai)[h]?=some (.int ((ai.getD h 0:Nat):Int)):=by unfold nV;rw[zam,k'];rfl
 refine Pe<|bL<|bx<|bp<|af rfl ⟨p,C,dx,_,_,rfl,Bb,T.cl,T.tJ,xu,af rfl<|mI Qy (gg F2)<|ay<|iX<|bp<|af rfl ⟨p,C,dx,_,_,rfl,Bb,T.cl,T.tJ,xu,af rfl ⟨se,_,_,h,rfl,rfl,Qy,Qu (by unfold nV;rw[zae];exact hh),?_⟩⟩⟩
 have q':(nV ai).set h (.int ((ai.getD h 0:Nat)+1:Int))=nV (ai.set h<|ai.getD h 0+1):=by
  show _=(ai.set h<|ai.getD h 0+1).map _;rw[zbq];rfl
 rw[q'];have Bc:upd H4 se (.lst<|nV<|ai.set h<|ai.getD h 0+1) se=some (.lst<|nV<|ai.set h<|ai.getD h 0+1):=aw;have b5:aR se H4 (upd H4 se<|.lst<|nV<|ai.set h<|ai.getD h 0+1):=aR.upd;generalize upd H4 se (.lst<|nV<|ai.set h<|ai.getD h 0+1)=H5 at Bc b5⊢;have F3:=b5 _ _ Bb Ae;have uA:=b5 _ _ s' (Ne.symm F0);have Qz:=b5 _ _ r' (Ne.symm xE);have p':D≠se:=λz=>wa.1 z;have v':D≠ch:=λz=>wa.2 z;have f':D≠p:=λz=>by have:=s3 _ _ m4;rw[z,X _ _ S.ob] at this;cases this
 have j':=b5 _ _ (b4 _ _ (s3 _ _ m4) f') p';have k5:∀z o,H z=some o->z≠p->z≠se->H5 z=some o:=λz o e n1 n2=>b5 _ _ (b4 _ _ (X _ _ e) n1) n2;have o':∀z,H5 z=none->H z=none:=λz k=>by
  cases e:H z with
  |none=>rfl
  |some o=>
   by_cases z1:z=p
   ·rw[z1,F3] at k;cases k
   by_cases z2:z=se
   ·rw[z2,Bc] at k;cases k
   rw[k5 z o e z1 z2] at k;cases k
 have n':∀z w,H3 z=some (.tup w)->H5 z=some (.tup w):=λz w e=>b5 _ _ (b4 _ _ e (λq=>by rw[q,X _ _ S.ob] at e;cases e)) (λq=>by rw[q,X _ _ S.dY] at e;cases e)
 refine d5<|iU<|bp<|af rfl ⟨p,C,dx,_,_,rfl,F3,T.cl,T.vO,AY,⟨.inl ⟨rfl,_,aB.of uA⟩,pW<|af rfl ⟨_,.inl<|aB.of j',λG f6=>?_⟩⟩⟩;have R:=sameNew (o:=.lst N) f6;have Be:upd H5 G (.lst N) G=some (.lst N):=aw;have QC:=o' _ f6;generalize upd H5 G (.lst N)=H6 at R Be⊢;have zA:=R _ _ uA;refine⟨A,zA,dh (by lia),?_⟩
 have b7:aR ch H6 (upd H6 ch<|.lst<|A++[.ref G]):=aR.upd;have uC:upd H6 ch (.lst<|A++[.ref G]) ch=some (.lst<|A++[.ref G]):=aw;generalize upd H6 ch (.lst<|A++[.ref G])=H7 at b7 uC⊢;have F4:=b7 _ _ (R _ _ F3) wu;have xF:=b7 _ _ (R _ _ Qz) (Ne.symm F1);have F5:G∉M:=λhm=>by obtain⟨o,ho⟩:=I.al _ hm;rw[ho] at QC;cases QC
 have m':G≠ch:=λz=>F5 (z ▸ S.mm.2.1);have l':G≠mk:=λz=>F5 (z ▸ S.mm.2.2);refine d5<|iU<|bp<|af rfl ⟨p,C,dx,_,_,rfl,F4,T.cl,T.Dz,Qr,⟨.inl ⟨rfl,_,aB.of xF⟩,af rfl ⟨_,xF,dh (by unfold nV;rw[zae,zae];lia),?_⟩⟩⟩
 have b8:aR mk H7 (upd H7 mk (.lst (nV (tk.map (·.1))++[.int (h:Nat)]))):=aR.upd;have F6:upd H7 mk (.lst (nV (tk.map (·.1))++[.int (h:Nat)])) mk=some (.lst (nV ((tk++[(h,lJ tk g c)]).map (·.1)))):=by rw[aw,zaq];unfold nV;rw[zaq];rfl
 generalize upd H7 mk (.lst (nV (tk.map (·.1))++[.int (h:Nat)]))=H8 at b8 F6⊢;have k8:bw [p,se,ch,mk] H H8:=λz o e k=>by
  simp only[zaa,zaf,or_false,not_or] at k
  exact b8 _ _ (b7 _ _ (R _ _<|k5 z o e k.1 k.2.1) k.2.2.1) k.2.2.2
 have Bf:∀z o,H6 z=some o->z≠ch->z≠mk->H8 z=some o:=λz o e n1 n2=>b8 _ _ (b7 _ _ e n1) n2;have QD:∀z w,H3 z=some (.tup w)->H8 z=some (.tup w):=λz w e=>by
  have e6:=R _ _ (n' z w e);exact Bf _ _ e6 (λq=>by rw[q,zA] at e6;cases e6) (λq=>by rw[q,R _ _ Qz] at e6;cases e6)
 have F7:∀z,H8 z=none->H z=none:=λz k=>by
  cases e:H z with
  |none=>rfl
  |some o=>
   by_cases hm:z∈ [p,se,ch,mk]
   ·simp only[zaa,zaf,or_false] at hm
    rcases hm with rfl|rfl|rfl|rfl
    ·rw[b8 _ _ F4 FZ] at k;cases k
    ·rw[Bf _ _ (R _ _ Bc) F0 xE] at k;cases k
    ·rw[b8 _ _ uC F1] at k;cases k
    ·rw[F6] at k;cases k
   ·rw[k8 z o e hm] at k;cases k
 have S8:eh M C H8 p dx se ch mk ⟨r.toArray⟩ (ai.set h<|ai.getD h 0+1) (tk++[(h,lJ tk g c)]):=by
  refine⟨b8 _ _ F4 FZ,Bf _ _ (R _ _ Bc) F0 xE,⟨A++[.ref G],b8 _ _ uC F1,?_⟩,F6,S.nd,S.mm⟩;rw[zaq];refine Paired.snoc (Paired.dR xD λv ps ⟨a,xs,Z,e2,e3,e4⟩=>⟨a,xs,Z,k8 _ _ e2<|λk=>?_,e3.mono λz w e=>QD z w (X _ _ e),e4⟩) ⟨G,N,rfl,Bf _ _ Be m' l',mK.mono λz w e=>QD z w (s3 _ _ e),F5⟩
  simp only[zaa,zaf,or_false] at k
  rcases k with rfl|rfl|rfl|rfl
  ·rw[S.ob] at e2;cases e2
  ·exact e4 S.mm.1
  ·exact e4 S.mm.2.1
  ·exact e4 S.mm.2.2
 have jv:(ai.set h<|ai.getD h 0+1).length=ai.length:=zaP ..;have ls:=I.ls;have pO:(tk++[(h,lJ tk g c)])[tk.length]?=some (h,lJ tk g c):=by rw[zaK<|zqR _,zaJ];rfl
 have g':(tk++[(h,lJ tk g c)]).length=tk.length+1:=by rw[zqA];rfl
 refine cq<|afI<|iz<|bp<|af rfl ⟨p,C,dx,_,_,rfl,S8.ob,T.cl,T.tJ,xu,.inl ⟨_,aB.of S8.dY,?_⟩⟩;have h':(nV<|ai.set h<|ai.getD h 0+1).length=ai.length:=by unfold nV;rw[zae,jv]
 rw[h'];refine⟨_,rfl,by lia,by lia,?_⟩
 rw[zaD];refine Qs (xB ai tk h<|lJ tk g c) (by rw[zae,zaS]) (by lia) ?_ ?_
 ·intro i e H9 hi s9 Q' kk;have zG:i<ai.length:=by have:=(zad.mp hi).1;rw[zae,zaS] at this;exact this
  rw[zam,List.getElem?_range zG] at hi;cases hi;have S9:=S8.same s9;rw[Int.zero_add];refine Aq C (xx C) rfl<|af rfl ⟨p,dx,_,rfl,S9.ob,iC,af rfl<|iS C (lI C) rfl<|af rfl ⟨p,dx,_,rfl,S9.ob,iC,M,p,dx,se,ch,mk,_,_,_,rfl,S9,?_⟩⟩;rw[g'];exact⟨M,p,dx,se,ch,mk,_,_,_,i,tk.length,h,_,rfl,S9,pO,λt l tI j0 ft fl hv=>kk t l tI j0 ft fl hv⟩
 ·intro zs aq H9 L s9 Z e2 e3 fL;have j0:=sameNew (o:=.lst zs) fL;refine q ⟨r.toArray⟩ L zs aq _ gr (by rw[Qx];lia) (by simpa using u.run) (eh.ext S8 (s9.trans j0) λb hb=>?_) aw (F7 _<|s9.free fL) Z (Paired.dR e2 λv e ⟨t,a1,a2,a3,a4⟩=>⟨t,a1,a2.same j0,F7 _ a3,F7 _ a4⟩) e3 (λhm=>?_) λz o e k=>j0 _ _ (s9 _ _<|k8 z o e k)
  ·rcases zaa.mp hb with hb|hb
   ·rw[hb];exact s9.free fL
   ·exact gQ.none e2 b hb
  obtain⟨o,ho⟩:=gQ.some e2 L hm;rw[fL] at ho;cases ho
theorem af2{b c:RE}(C:Addr)(sp:Sp)(l:Γ.ms j=(C,sp))(h:ag Γ o σ H λx H1=>∃p dx f,x=.ref p/\H1 p=some (.ins C dx f)/\f.lookup m=none/\ag Γ a σ H1 λy H2=>ag Γ b σ H2 λz k=>ag Γ c σ k λw g=>sp [x,y,z,w] g Q Γ.E):ag Γ (.aS j m o [a,b,c]) σ H Q:=by
 have d:(Γ.ms j).1=C:=by lia
 have e:(Γ.ms j).2=sp:=by lia
 show mY (Γ.ms j).1 m (Γ.ms j).2 [] Γ.E (ag Γ o) (bu Γ [a,b,c]) σ H Q;rw[d,e];exact h
theorem xC.same(q:xC M C H p dx se ch mk x ai tk h d c Q)(s:aD H H'):xC M C H' p dx se ch mk x ai tk h d c Q:=
 λk L f P H2 N I G E D A w u m b g=>q k L f P H2 N I G E D (s.free A) w (Paired.dR u λ_ _ ⟨t,V,T,S,R⟩=>⟨t,V,T,s.free S,s.free R⟩) m b λz o e l=>g _ _ (s _ _ e) l
theorem uB.same{h d:Nat}{l n:List Nat}(I:uB M C H p dx se ch mk x ai tk tx b h d ys c l n)(s:aD H H'):uB M C H' p dx se ch mk x ai tk tx b h d ys c l n:=
 ⟨I.sv.same s,I.bB,I.tl,I.gx,I.lx,λm f=>let ⟨o,e⟩:=I.al m f;⟨o,s _ _ e⟩,I.hh,I.ha,I.lk,I.ls,s _ _ I.hb,I.nb,I.pv.mono<|bV s,I.Ba,I.cg,I.tt⟩
abbrev xG(tk:List (Nat×List Pt))(h b:Nat):List Let:=(List.range<|tk.length - b).map λi=>(h,b+i+1,(tk.getD (b+i) (0,[])).1,(tk.getD (b+i) (0,[])).2)
inductive r_(C:Addr)(vs:List V)(H:Hp)(Q:VK)(E:XK):Prop|i(M:List Addr)(p dx se ch mk:Addr)(x:Str)(ai:List Nat)(tk:List (Nat×List Pt))(t:Addr)(_:vs=[.ref p,.ref t])(_:((∃h d,eh M C H p dx se ch mk x ai tk/\H t=some (.tup (FU h d))/\h<ai.length/\d<=tk.length/\tk.length<=100/\∀L e q H',aD H H'->H L=none->H' L=some (.lst e)->q.map (·.1)=xG tk h d->Paired (gQ H H') e q->(q.map (·.2)).Nodup->L∉q.map (·.2)->Q (.ref L) H')\/
   ∃(tx:List (List Nat)) (b:Addr) (h n d:Nat) (ys:List V) (c:List Pt) (l r:List Nat),uB M C H p dx se ch mk x ai tk tx b h d ys c l r/\H t=some (.tup (A0 h n d b))/\1<=n/\((n≠ai.getD h 0+1/\∀L H',aD H H'->H L=none->H' L=some (.lst [])->Q (.ref L) H')\/(n=ai.getD h 0+1/\xC M C H p dx se ch mk x ai tk h d c Q))))
abbrev QE(K:Frag)(C CB:Addr)(E:XK):aQ:=aO K [] [] [] [("is_again",C,A_ C),("many",C,lI C),("took",C,xx C),("is_ask",C,FV C),("take_in",C,FW C)] (et:=[("BadLetter",CB)]) (E:=E)
theorem af5(T:me K C)(vs:List V)(H:Hp)(Q:VK)(E:XK)(FY:r_ C vs H Q E):aE (QE K C CB E) LU (Dn Q) (start o5 vs) H:=by
 obtain⟨M,p,dx,se,ch,mk,x,ai,tk,D,rfl,⟨h,d,S,g,hh,ha,lk,q⟩|⟨tx,b,h,n,d,ys,c,l,r,I,g,hn,q⟩⟩:=FY
 ·refine bQ (iy<|wG<|af rfl<|vR g<|iF (dJ ?_) rfl);refine bQ<|AZ<|jH C (A_ C) rfl<|af rfl ⟨p,dx,_,rfl,S.ob,iC,af rfl ⟨M,p,dx,se,ch,mk,x,ai,tk,D,rfl,S,.inl ⟨h,d,g,hh,ha,λH1 f=>iW<|iT ?_ rfl⟩⟩⟩;have m:=S.same f;have k:=f _ _ g;refine cq<|afH<|bL<|bx<|af rfl<|ay<|cv k rfl<|ay<|iX<|bL<|iS C (lI C) rfl<|af rfl ⟨p,dx,_,rfl,m.ob,iC,M,p,dx,se,ch,mk,x,ai,tk,rfl,m,ay<|iX ?_⟩;refine⟨_,_,rfl,⟨by lia,by lia,by lia,by lia⟩,?_⟩
  rw[show((tk.length:Int)+1 - ((d:Int)+1)).toNat=tk.length - d by lia]
  refine Qs (xG tk h d) (by rw[zae,zaS]) (by lia) ?_ ?_
  ·intro i e H9 N w Q' kk;have zG:i<tk.length - d:=by have:=(zad.mp N).1;rw[zae,zaS] at this;exact this
   rw[zam,List.getElem?_range zG] at N;cases N;have Z:=m.same w;have G:=w _ _ k;have pO:tk[d+i]?=some (tk.getD (d+i) (0,[])):=by rw[zaF,zaj (by lia)];rfl
   rw[show(d:Int)+1+(i:Int)=((d+i+1:Nat):Int) by lia]
   exact Aq C (xx C) rfl<|af rfl ⟨p,dx,_,rfl,Z.ob,iC,bx<|af rfl<|ay<|cv G rfl<|af rfl ⟨M,p,dx,se,ch,mk,_,_,_,h,d+i,_,_,rfl,Z,pO,λt l tI A ft fl hv=>kk t l tI A ft fl hv⟩⟩
  ·intro P aq H9 L w e1 X e3 u;have A:=sameNew (o:=.lst P) u;refine q L P aq _ ((f.trans w).trans A) ((f.trans w).free u) aw e1 (Paired.dR X λv e ⟨t,a1,a2,a3,a4⟩=>⟨t,a1,a2.same A,f.free a3,f.free a4⟩) e3 λhm=>?_;obtain⟨o,R⟩:=gQ.some X L hm;rw[u] at R;cases R
 ·have S:=I.sv;refine bQ<|iy<|wG<|af rfl<|vR g<|iF (dJ ?_) rfl;refine bQ<|AZ<|jH C (A_ C) rfl<|af rfl ⟨p,dx,_,rfl,S.ob,iC,af rfl ⟨M,p,dx,se,ch,mk,x,ai,tk,D,rfl,S,.inr ⟨_,g,rfl,iW<|iF (dJ ?_) rfl⟩⟩⟩;refine bQ<|iy<|AZ<|jH C (FV C) rfl<|af rfl ⟨p,dx,_,rfl,S.ob,iC,af rfl ⟨M,p,dx,se,ch,mk,x,ai,tk,D,b,h,n,d,ys,c,rfl,S,g,I.hh,I.ha,hn,I.hb,I.pv,I.cg.ok,I.cg.ch,λH1 f=>iW<|iF (dJ ?_) rfl⟩⟩;have I1:=I.same f;have m:=I1.sv;have k:=f _ _ g;have F2:(nV ai)[h]?=some (.int ((ai.getD h 0:Nat):Int)):=by unfold nV;rw[zam,zaF,zaj I.hh];rfl
  refine bQ<|bF<|bx<|af rfl<|ay<|cv k rfl<|bL<|bx<|bp<|af rfl ⟨p,C,dx,_,_,rfl,m.ob,T.cl,T.tJ,xu,bx<|af rfl<|ay<|cv k rfl<|mI m.dY (gg F2)<|ay<|iX<|pT ⟨_,rfl,?_⟩⟩;rcases q with⟨ne,q⟩|⟨en,q⟩
  ·refine iT (cq<|eY<|aN ⟨zqZ _,λL u=>q L _ (f.trans<|sameNew u) (f.free u) aw⟩) ?_;rw[zqF];rfl;intro z;exact ne (by lia)
  ·refine iF (dJ ?_) (by rw[zqT (by lia)];rfl)
   exact cq<|af2 C (FW C) rfl<|af rfl ⟨p,dx,_,rfl,m.ob,iC,bx<|af rfl<|ay<|cv k rfl<|bx<|af rfl<|ay<|cv k rfl<|bx<|af rfl<|ay<|cv k rfl ⟨M,p,dx,se,ch,mk,x,ai,tk,tx,b,h,d,ys,c,l,r,rfl,I1,q.same f⟩⟩
end
end L2.bJ
namespace L2.fG
open PySem PySem.Spec L2.B L2.N
section
variable {K:Frag}{H H':Hp}{Q:VK}{Γ:aQ}{σ:St}{E:XK}
inductive Lt where
 |ask (h n e:Nat) (c:List Pt)
 |again (h n:Nat)
 |gb (h n cC:Nat) (c:List Pt)
def cT(N:List Addr)(H:Hp)(v:V):Lt->Prop
 |.ask h n b c=>∃t a xs,v=.ref t/\H t=some (.tup [.str "ask",.int (h:Nat),.int (n:Nat),.int (b:Nat),.ref a])/\H a=some (.lst xs)/\aH H xs c/\a∉N
 |.again h n=>∃t,v=.ref t/\H t=some (.tup [.str "again",.int (h:Nat),.int (n:Nat)])
 |.gb h n w c=>∃t a xs,v=.ref t/\H t=some (.tup [.str "took",.int (h:Nat),.int (n:Nat),.int (w:Nat),.ref a])/\H a=some (.lst xs)/\aH H xs c/\a∉N
variable {N:List Addr}
theorem cT.keep:∀{l:Lt},cT N H v l->eI H H'->(∀a xs,a∉N->H a=some (.lst xs)->H' a=some (.lst xs))->cT N H' v l:=by
 intro l h b k;cases l with
 |again=>obtain⟨t,e,d⟩:=h;exact⟨t,e,b _ _ d⟩
 |_=>obtain⟨t,a,xs,e,d,g,f,h⟩:=h;exact⟨t,a,xs,e,b _ _ d,k _ _ h g,f.mono b,h⟩
theorem cT.same(h:cT N H v l)(s:aD H H'):cT N H' v l:=h.keep (bV s) λ_ _ _ e=>s _ _ e
inductive F8(vs:List V)(H:Hp)(Q:VK)(E:XK):Prop|i(N:List Addr)(v:V)(l:Lt)(_:vs=[v])(_:cT N H v l)(_:(∀a∈N,∃o,H a=some o))(_:∀b H',aD H H'->cT N H' b l->Q b H')
theorem af7:cp (F8) (λE=>aO K [] [] (E:=E)) DF DE:=by
 intro vs H Q E h;obtain⟨N,v,l,rfl,A,al,q⟩:=h;have xH:∀(w:Str) (h n b:Nat) (t a:Addr) (xs:List V) (c:List Pt),v=.ref t->H t=some (.tup [.str w,.int (h:Nat),.int (n:Nat),.int (b:Nat),.ref a])->H a=some (.lst xs)->aH H xs c->(∀g d H',aD H H'->d∉N->H' g=some (.tup [.str w,.int (h:Nat),.int (n:Nat),.int (b:Nat),.ref d])->H' d=some (.lst xs)->aH H' xs c->Q (.ref g) H')->aE (aO K [] []) DF (Dn Q) (start DE [v]) H:=by
  rintro w h n b t a xs c rfl Z ha pv kk;refine bQ<|wG<|bx<|af rfl<|As<|cv Z rfl<|M7 ha<|iT (cq<|bL<|Ph<|af rfl<|As ⟨_,rfl,.inr ⟨_,aK.of Z,(by show ¬(HT.bj 5 0 none=0/\HT.bj 5 5 (some<|-1)=5);decide),λx f1=>?_⟩⟩) rfl
  have ec:gF [V.str w,V.int (h:Nat),V.int (n:Nat),V.int (b:Nat),V.ref a] none (some<|-1)=[V.str w,V.int (h:Nat),V.int (n:Nat),V.int (b:Nat)]:=rfl;rw[ec];have m:=sameNew (o:=.tup [V.str w,V.int (h:Nat),V.int (n:Nat),V.int (b:Nat)]) f1;have f:upd H x (.tup [V.str w,V.int (h:Nat),V.int (n:Nat),V.int (b:Nat)]) x=some (.tup [V.str w,V.int (h:Nat),V.int (n:Nat),V.int (b:Nat)]):=aw;generalize upd H x (.tup [V.str w,V.int (h:Nat),V.int (n:Nat),V.int (b:Nat)])=H1 at m f⊢;refine jh<|aC<|pW<|bx<|af rfl<|As<|cv (m _ _ Z) rfl ⟨xs,.inl<|aB.of<|m _ _ ha,λd f2=>?_⟩;have I:=sameNew (o:=.lst xs) f2;have k:upd H1 d (.lst xs) d=some (.lst xs):=aw;have na:d∉N:=λhm=>by
   obtain⟨o,e⟩:=al d hm;rw[m _ _ e] at f2;cases f2
  generalize upd H1 d (.lst xs)=H2 at I k⊢;refine aN ⟨jN,λD f3=>?_⟩;have G:=sameNew (o:=.tup [V.ref d]) f3;have u:upd H2 D (.tup [V.ref d]) D=some (.tup [V.ref d]):=aw;refine .inr ⟨x,D,_,_,rfl,rfl,aK.of<|G _ _<|I _ _ f,aK.of u,(by lia),BC,nofun,λ_ p fp=>?_⟩
  have s4:=sameNew (o:=.tup ([V.str w,V.int (h:Nat),V.int (n:Nat),V.int (b:Nat)]++[V.ref d])) fp;have uD:=((m.trans I).trans G).trans s4;exact kk p d _ uD na aw (s4 _ _<|G _ _ k)<|pv.mono<|bV uD
 cases l with
 |ask h n b c=>
  obtain⟨t,a,xs,e,f,k,u,h4⟩:=A;exact xH _ h n b t a xs c e f k u λg d H' P R X T S=>q _ _ P ⟨g,d,xs,rfl,X,T,S,R⟩
 |again h n=>
  obtain⟨t,rfl,f⟩:=id A;exact bQ<|wG<|bx<|af rfl<|As<|cv f rfl<|adY<|iF (dJ (cq<|af rfl<|q _ _ (aD.refl _) A)) rfl
 |gb h n b c=>
  obtain⟨t,a,xs,e,f,k,u,h4⟩:=A;exact xH _ h n b t a xs c e f k u λg d H' P R X T S=>q _ _ P ⟨g,d,xs,rfl,X,T,S,R⟩
end
abbrev oR(b h p m:Addr)(x:Str):List (Key×V):=[(.inr "server",.ref b),(.inr "hands",.ref h),(.inr "post",.ref p),(.inr "first",.str x),(.inr "many",.ref m)]
section
variable {K:Frag}{C CS CV:Addr}{H H':Hp}{Q:VK}{Γ:aQ}{σ:St}{E:XK}{R sv hl po ml:Addr}{x:Str}
theorem vn{a b:Str}{r:List (Key×V)}(h:¬a=b):cN (((Sum.inr a:Key),v)::r) (.inr b)=cN r (.inr b):=ig λz=>h (Sum.inr.inj z)
theorem F9(h:H R=some (.dK<|oR sv hl po ml x)):dy H R (.str "server") (some<|.ref sv):=by
 have:=dy.k (k:=.inr "server") h;exact this
theorem uE(h:H R=some (.dK<|oR sv hl po ml x)):dy H R (.str "hands") (some<|.ref hl):=by
 have:=dy.k (k:=.inr "hands") h;exact this
theorem mP(h:H R=some (.dK<|oR sv hl po ml x)):dy H R (.str "post") (some<|.ref po):=by
 have:=dy.k (k:=.inr "post") h;exact this
theorem af8(h:H R=some (.dK<|oR sv hl po ml x)):dy H R (.str "first") (some<|.str x):=by
 have:=dy.k (k:=.inr "first") h
 exact this
theorem Bg(h:H R=some (.dK<|oR sv hl po ml x)):dy H R (.str "many") (some<|.ref ml):=by
 have:=dy.k (k:=.inr "many") h;exact this
theorem QF:putK (oR sv hl po ml x) (.inr "post") (.ref g)=oR sv hl g ml x:=by
 have f:¬((Sum.inr "server":Key)=.inr "post"):=by decide+kernel
 have e:¬((Sum.inr "hands":Key)=.inr "post"):=by decide+kernel
 have d:¬((Sum.inr "first":Key)=.inr "post"):=by decide+kernel
 have b:¬((Sum.inr "many":Key)=.inr "post"):=by decide+kernel
 unfold putK;rw[if_pos (by simp)]
 simp only[zav,zaV,if_neg f,if_neg e,if_neg d,if_neg b,if_pos]
end
structure Hd where
 p:Nat
 dp:Nat
 q:Nat
 dq:Nat
 e:Nat
 g:Gs
 ea:bN
structure bH (C CS:Addr) (M:MS) (H:Hp) (tx:List (List Nat)) (tk:List (Nat×List Pt)) (sn i d t:Nat) (h:Hd):Prop where
 ha:d_ M C CS H h.p h.dp h.q h.dq h.e i h.g.x h.g.kn h.g.se h.g.fl h.g.de h.ea
 iv:Iv i tx tk h.g
 so:eZ i sn tk h.g
 ea:∀n u,h.ea n=some u->h.g.kn<n/\tk[n - 1]?=some (u.1,u.2.2)
 nb:h.ea.nb<=t
 e1:h.ea (h.g.kn+1)=none
 tf:bR h.g.fl<=320*d
 td:bR h.g.de<=320*d
structure uF (C CS CV:Addr) (H:Hp) (R sv dx se ch mk hl po ml:Addr) (x0 x:Str) (ai:List Nat) (tk:List (Nat×List Pt)) (tx:List (List Nat)) (hs:List Hd) (d t:Nat):Prop where
 hR:H R=some (.dK<|oR sv hl po ml x0)
 sv:bJ.eh [se,ch,mk,ml] CV H sv dx se ch mk x ai tk
 T:Taken tx tk
 t0:tx[0]?=some x0.cps.toList
 tl:tx[tk.length]?=some x.cps.toList
 gt:∀l∈tx,l.length<=5200/\∀c∈l,SG.cps.contains c=true
 hh:H hl=some (.lst<|hs.map λh=>V.ref h.p)
 ok:∀i h,hs[i]?=some h->bH C CS (λz=>z∈ [se,ch,mk,ml]) H tx tk (ai.getD i 0) i d t h
 ln:1<=hs.length/\hs.length<=4
 ls:ai.length=hs.length
 lk:tk.length<=d
 fM:d<=16
 qg:t<=250
section
variable {K:Frag}{C CS CV:Addr}{H H':Hp}{Q:VK}{Γ:aQ}{σ:St}{E:XK}{R sv dx se ch mk hl po ml:Addr}{x0 x:Str}{ai:List Nat}{tk:List (Nat×List Pt)}{tx:List (List Nat)}{hs:List Hd}{d t:Nat}{M:MS}{sn i:Nat}{h:Hd}
theorem bH.same(A:bH C CS M H tx tk sn i d t h)(s:aD H H'):bH C CS M H' tx tk sn i d t h:=⟨A.ha.same s,A.iv,A.so,A.ea,A.nb,A.e1,A.tf,A.td⟩
theorem uF.same(A:uF C CS CV H R sv dx se ch mk hl po ml x0 x ai tk tx hs d t)(s:aD H H'):uF C CS CV H' R sv dx se ch mk hl po ml x0 x ai tk tx hs d t:=
 ⟨s _ _ A.hR,A.sv.same s,A.T,A.t0,A.tl,A.gt,s _ _ A.hh,λi h e=>(A.ok i h e).same s,A.ln,A.ls,A.lk,A.fM,A.qg⟩
theorem af9{r:List RS}{D:Ends}(h:ag Γ e σ H λv H1=>aE Γ r D (σ.set i<|some v) H1):aE Γ (.yR i e::r) D σ H:=h
theorem af_{x g:RE}(h:ag Γ x σ H λv H1=>∃j:Int,[v]=[.int j]/\ -(2 ^ 62)<=j/\j<2 ^ 62/\∃e:Nat->Nat->List V->Hp->Prop,(∃m,e 0 m [] H1)/\∀i m ys H2,e i m ys H2->
   ((eo 0 j.toNat).stop i H2/\∀p,H2 p=none->Q (.ref p) (upd H2 p<|.lst ys))\/
   ((eo 0 j.toNat).go i H2/\∀x k,(eo 0 j.toNat).iE i H2 x k->jV Γ.K none x k λl=>lW none (l.map some++cI σ fv) k λb q=>
    if b=true then ag Γ.calm g (l.map some++cI σ fv) q λy u=>ys.length<sizeLine/\∃f,f<m/\e (i+1) f (ys++[y]) u else ∃f,f<m/\e (i+1) f ys q)):ag Γ (.comp none fv .fS [x] none g) σ H Q:=Ao _ _ (λ_ _=>Iff.rfl) h
structure Kp (M:MS) (H H':Hp):Prop where
 l:∀a xs,¬M a->H a=some (.lst xs)->H' a=some (.lst xs)
 t:eI H H'
theorem cZ.keep(k:Kp M H H')(w:∀z,M z->N z):∀{o:Option (List Pt)},cZ N H v o->cZ N H' v o
 |none,h=>h
 |some _,⟨a,xs,e,g,f,b⟩=>⟨a,xs,e,k.l _ _ (λz=>b<|w _ z) g,f.mono k.t,b⟩
theorem gA.keep{o:Option V}(k:Kp M H H'):∀{u:Option (Nat×Addr×List Pt)},gA M H o u->gA M H' o u
 |none,h=>h
 |some _,⟨t,xs,m,g,f,e,b⟩=>⟨t,xs,m,k.t _ _ g,k.l _ _ b f,e.mono k.t,b⟩
theorem bO.keep{kn se:Nat}{l m:Option (List Pt)}{g:bN}(S:bO M CS H q dq e x kn se l m g)(k:Kp M H H')(w:∀o,H q=some o->H' q=some o)(A:∀o,H e=some o->H' e=some o):bO M CS H' q dq e x kn se l m g:=by
 obtain⟨p,u,T,P,N⟩:=S.ob;obtain⟨b,I,D,G⟩:=S.he;exact⟨⟨p,u,w _ T,P.keep k<|λz f=>.inl f,N.keep k<|λz f=>.inl f⟩,⟨b,A _ I,D,λn=>(G n).keep k⟩,S.nd⟩
theorem d_.keep{b kn se:Nat}{f l:Option (List Pt)}{g:bN}(S:d_ M C CS H p D q A e b x kn se f l g)(k:Kp M H H')(u:∀o,H p=some o->H' p=some o)(m:∀o,H q=some o->H' q=some o)(w:∀o,H e=some o->H' e=some o):d_ M C CS H' p D q A e b x kn se f l g:=⟨u _ S.ob,S.st.keep k m w⟩
theorem F_(S:bJ.eh N CV H sv dx se ch mk x ai tk)(k:Kp (λz=>z∈N) H H')(p:∀o,H sv=some o->H' sv=some o)(k1:∀o,H se=some o->H' se=some o)(k2:∀o,H ch=some o->H' ch=some o)(k3:∀o,H mk=some o->H' mk=some o):bJ.eh N CV H' sv dx se ch mk x ai tk:=by
 obtain⟨u,f,b⟩:=S.b_;exact⟨p _ S.ob,k1 _ S.dY,⟨u,k2 _ f,Paired.dR b λv ps ⟨a,xs,e,q,m,g⟩=>⟨a,xs,e,k.l _ _ g q,m.mono k.t,g⟩⟩,k3 _ S.hU,S.nd,S.mm⟩
def ia(tx:List (List Nat))(tk:List (Nat×List Pt))(ai:List Nat)(hs:List Hd):Lt->Prop
 |.ask h n b c=>∃e,hs[h]?=some e/\c_ tx tk (ai.getD h 0) e.g n b c
 |.again h n=>h<hs.length/\n<=tk.length
 |.gb h n w c=>h<hs.length/\1<=n/\w<=7/\tk[n - 1]?=some (w,c)
structure Rm (C CS CV:Addr) (H0 H:Hp) (R sv dx se ch mk hl po ml:Addr) (x0 x:Str) (ai:List Nat) (tk:List (Nat×List Pt)) (tx:List (List Nat)) (hs:List Hd) (d t:Nat) (vs:List V) (ls:List Lt) (w ms mz:List Nat):Prop where
 A:uF C CS CV H R sv dx se ch mk hl po ml x0 x ai tk tx hs d t
 hp:H po=some (.lst vs)
 pl:Paired (cT [se,ch,mk,ml] H) vs ls
 lo:∀l∈ls,ia tx tk ai hs l
 nv:vs.length<=300* (t+1)
 s0:aD H0 H
 f0:∀a∈R::se::ch::mk::ml::sv::(hs.map (·.p)++hs.map (·.q)),H0 a=none
 nd:(sv::(hs.map (·.p)++hs.map (·.q))).Nodup
 ne:∀h∈hs,h.e≠R
 off:hl∉ [se,ch,mk,ml]/\po∉ [se,ch,mk,ml]
 wl:w.length=hs.length
 wp:∀i h,hs[i]?=some h->(if h.g.fl≠none/\ai.getD i 0+1=h.g.se then bR h.g.fl else 0)+bR h.g.de<=w.getD i 0
 ws:(tk.map λe=>az e.2).sum+w.sum<=320*d
 lx:x.length<=24+(tk.map λe=>az e.2).sum
 m7:∀e∈tk,e.1<hs.length
 hm:H ml=some (.lst<|nV mz)
 nm:ml∉ [se,ch,mk]
 mL:ms.length=hs.length
 mp:∀i h,hs[i]?=some h->h.g.se+(if h.g.de=none then 0 else 1)<=ms.getD i 0
 mS:ms.sum=d
 sS:ai.sum=tk.length
variable {H0:Hp}{vs:List V}{ls:List Lt}{w ms mz:List Nat}
theorem uF.off(A:uF C CS CV H R sv dx se ch mk hl po ml x0 x ai tk tx hs d t):(∃xs,H se=some (.lst xs))/\(∃xs,H ch=some (.lst xs))/\(∃xs,H mk=some (.lst xs))/\∃f,H sv=some (.ins CV dx f):=by
 obtain⟨e,b,_⟩:=A.sv.b_;exact⟨⟨_,A.sv.dY⟩,⟨_,b⟩,⟨_,A.sv.hU⟩,_,A.sv.ob⟩
theorem Rm.al(A:Rm C CS CV H0 H R sv dx se ch mk hl po ml x0 x ai tk tx hs d t vs ls w ms mz):∀a∈ [se,ch,mk,ml],∃o,H a=some o:=λa b=>by
 obtain⟨⟨_,g⟩,⟨_,f⟩,⟨_,e⟩,_⟩:=A.A.off
 simp at b
 rcases b with rfl|rfl|rfl|rfl
 ·exact⟨_,g⟩
 ·exact⟨_,f⟩
 ·exact⟨_,e⟩
 ·exact⟨_,A.hm⟩
theorem Rm.same(A:Rm C CS CV H0 H R sv dx se ch mk hl po ml x0 x ai tk tx hs d t vs ls w ms mz)(s:aD H H'):Rm C CS CV H0 H' R sv dx se ch mk hl po ml x0 x ai tk tx hs d t vs ls w ms mz:=
 ⟨A.A.same s,s _ _ A.hp,Paired.dR A.pl λ_ _ z=>z.same s,A.lo,A.nv,A.s0.trans s,A.f0,A.nd,A.ne,A.off,A.wl,A.wp,A.ws,A.lx,A.m7,s _ _ A.hm,A.nm,A.mL,A.mp,A.mS,A.sS⟩
theorem Rm.put(A:Rm C CS CV H0 H R sv dx se ch mk hl po ml x0 x ai tk tx hs d t vs ls w ms mz){k:Addr}{q:List V}{I:List Lt}(N:H k=some (.lst q))(QG:Paired (cT [se,ch,mk,ml] H) q I)(Ga:∀l∈I,ia tx tk ai hs l)(D:q.length<=300* (t+1))(u:k∉ [se,ch,mk,ml]):
  Rm C CS CV H0 (upd H R<|.dK<|oR sv hl k ml x0) R sv dx se ch mk hl k ml x0 x ai tk tx hs d t q I w ms mz:=by
 have b:aR R H (upd H R<|.dK<|oR sv hl k ml x0):=aR.upd;have g:∀{z:Addr}{o:HO},H z=some o->(∀G,o≠ .dK G)->z≠R:=λe h z=>by rw[z,A.A.hR] at e;cases e;exact h _ rfl
 have p:Kp (λz=>z∈ [se,ch,mk,ml]) H (upd H R<|.dK<|oR sv hl k ml x0):=⟨λa xs _ e=>b _ _ e (g e nofun),λy us e=>b _ _ e (g e nofun)⟩
 obtain⟨⟨_,h1⟩,⟨_,Z⟩,⟨_,X⟩,_,S⟩:=A.A.off
 refine⟨⟨aw,(F_ A.A.sv p (λo e=>b _ _ e (g S nofun)) (λo e=>b _ _ e (g h1 nofun)) (λo e=>b _ _ e (g Z nofun)) (λo e=>b _ _ e (g X nofun))),A.A.T,A.A.t0,A.A.tl,A.A.gt,b _ _ A.A.hh (g A.A.hh nofun),λi h e=>?_,A.A.ln,A.A.ls,A.A.lk,A.A.fM,A.A.qg⟩,b _ _ N (g N nofun),Paired.dR QG λ_ _ z=>z.keep p.t p.l,Ga,D,Ff A.s0 (A.f0 R<|.head _) b,A.f0,A.nd,A.ne,⟨A.off.1,u⟩,A.wl,A.wp,A.ws,A.lx,A.m7,b _ _ A.hm (g A.hm nofun),A.nm,A.mL,A.mp,A.mS,A.sS⟩
 have f:=A.A.ok i h e;obtain⟨vf,vd,P,_⟩:=f.ha.st.ob;exact⟨f.ha.keep p (λo m=>b _ _ m (g f.ha.ob nofun)) (λo m=>b _ _ m (g P nofun))<|λo m=>b _ _ m<|A.ne h<|zan e,f.iv,f.so,f.ea,f.nb,f.e1,f.tf,f.td⟩
theorem Rm.add{r:List RS}{D:Ends}{b:List V}{g:List Lt}(Z:σ[j]?=some (some<|.ref R))(A:Rm C CS CV H0 H R sv dx se ch mk hl po ml x0 x ai tk tx hs d t vs ls w ms mz)(X:H L=some (.lst b))(u:Paired (cT [se,ch,mk,ml] H) b g)(N:∀l∈g,ia tx tk ai hs l)(I:(vs++b).length<=300* (t+1))
  (k:∀bY H',(∀z o,H z=some o->z≠R->H' z=some o)->Rm C CS CV H0 H' R sv dx se ch mk hl bY ml x0 x ai tk tx hs d t (vs++b) (ls++g) w ms mz->aE Γ r D σ H'):
  i8 Γ.K .Add (.ref po) (.ref L) H λv H3=>ag Γ (.v j) σ H3 λdv H4=>ag Γ (.c<|.str "post") σ H4 λP H5=>∃d q,dv=.ref d/\jU H5 d P v q/\aE Γ r D σ q:=by
 have qg:=A.A.qg;refine Fb A.hp X (by rw[<-zqA];lia) λc p=>?_
 have f:=sameNew (o:=.lst (vs++b)) p;have m:=A.same f;have T:upd H c (.lst<|vs++b) c=some (.lst<|vs++b):=aw;have G:c∉ [se,ch,mk,ml]:=λS=>by
  obtain⟨o,e⟩:=A.al c S;rw[p] at e;cases e
 refine af Z<|ay ⟨R,_,rfl,jU.k (k:=.inr "post") m.A.hR<|dh (by simp),?_⟩
 refine k c _ (λz o e n=>by rw[ax n];exact f _ _ e)<|m.put T (Paired.app m.pl (Paired.dR u λ_ _ z=>cT.same z f)) (λl hl=>?_) I G
 rcases zab.mp hl with h|h
 ·exact A.lo l h
 ·exact N l h
theorem Rm.fr(A:Rm C CS CV H0 H R sv dx se ch mk hl po ml x0 x ai tk tx hs d t vs ls w ms mz){a:Addr}(f:H a=none):a∉ [se,ch,mk,ml]:=λm=>by
 obtain⟨o,e⟩:=A.al a m;rw[f] at e;cases e
def jj(i:Nat)(g:Gs):List Lt:=.again i g.kn::match g.fl with|none=>[]|some f=>[.ask i g.se g.kn f]
theorem agc(A:Rm C CS CV H0 H R sv dx se ch mk hl po ml x0 x ai tk tx hs d t vs ls w ms mz)(D:hs[i]?=some h)(q:∀L N H',aD H H'->H' L=some (.lst N)->Paired (cT [se,ch,mk,ml] H') N (jj i h.g)->(∀l∈jj i h.g,ia tx tk ai hs l)->N.length<=2->Q (.ref L) H'):AF C CS [.ref h.p] H Q E:=by
 have b:=A.A.ok i h D;refine⟨_,h.p,h.dp,h.q,h.dq,h.e,i,h.g.x,h.g.kn,h.g.se,h.g.fl,h.g.de,h.ea,rfl,b.ha,?_⟩;have T:ia tx tk ai hs (.again i h.g.kn):=⟨((zad.mp D).1),b.iv.kn⟩;have S:∀f,h.g.fl=f->jj i h.g=.again i h.g.kn::match f with|none=>[]|some f=>[.ask i h.g.se h.g.kn f]:=λf e=>by unfold jj;rw[e]
 cases G:h.g.fl with
 |none=>
  rw[S _ G] at q;intro L k H' m fL ft X I;refine q L _ H' m I (.cons ⟨k,rfl,X⟩ .nil) (λl hl=>?_) (by simp)
  rw[zah.mp hl];exact T
 |some f=>
  rw[S _ G] at q;intro L k t l H' m fL a' ft fl u Z I;obtain⟨h1,xs,h2,h3⟩:=Z;refine q L _ H' m I (.cons ⟨k,rfl,u⟩<|.cons ⟨t,l,xs,rfl,h1,h2,h3,A.fr fl⟩ .nil) (λl' P=>?_) (by simp)
  rcases zaa.mp P with rfl|P
  ·exact T
  ·rw[zah.mp P];exact⟨h,D,aff b.iv G b.so⟩
theorem bH.up{d' t':Nat}(b:bH C CS M H tx tk sn i d t h)(f:d<=d')(e:t<=t'):bH C CS M H tx tk sn i d' t' h:=⟨b.ha,b.iv,b.so,b.ea,by have:=b.nb;lia,b.e1,by have:=b.tf;lia,by have:=b.td;lia⟩
theorem ia.hand{l:Lt}(hl:ia tx tk ai hs l)(ln:f.length=hs.length)(k:∀j g n b c,hs[j]?=some g->c_ tx tk (ai.getD j 0) g.g n b c->∃e,f[j]?=some e/\c_ tx tk (ai.getD j 0) e.g n b c):ia tx tk ai f l:=by
 cases l with
 |ask h n b c=>
  obtain⟨g,p,m⟩:=hl;exact k h g n b c p m
 |again h n=>exact⟨ln▸hl.1,hl.2⟩
 |gb h n w c=>exact⟨ln▸hl.1,hl.2⟩
theorem Rm.hand(A:Rm C CS CV H0 H R sv dx se ch mk hl po ml x0 x ai tk tx hs d t vs ls w ms mz)(X:hs[i]?=some h){h':Hd}{d' t':Nat}{w' jo:List Nat}(hd:d<=d')(lN:d'<=16)(ht:t<=t')(QJ:t'<=250)(P:Kp (λz=>z∈ [se,ch,mk,ml]) H H')(km:∀a∈ [se,ch,mk,ml],∀o,H a=some o->H' a=some o)(kd:∀z I,H z=some (.dK I)->H' z=some (.dK I))(ki:∀z C dx f,H z=some (.ins C dx f)->z≠h.p->z≠h.q->H' z=some (.ins C dx f))(e':aD H0 H')
  (O':bH C CS (λz=>z∈ [se,ch,mk,ml]) H' tx tk (ai.getD i 0) i d' t' h') (Ga:∀n b c,c_ tx tk (ai.getD i 0) h.g n b c->c_ tx tk (ai.getD i 0) h'.g n b c) (ep:h'.p=h.p) (n':H0 h'.q=none) (j':(sv::((hs.set i h').map (·.p)++(hs.set i h').map (·.q))).Nodup) (i':h'.e≠R)
  (a':w'.length=hs.length) (Gb:∀j g,(hs.set i h')[j]?=some g->(if g.g.fl≠none/\ai.getD j 0+1=g.g.se then bR g.g.fl else 0)+bR g.g.de<=w'.getD j 0) (mO:(tk.map λe=>az e.2).sum+w'.sum<=320*d') (m':jo.length=hs.length) (k':∀j g,(hs.set i h')[j]?=some g->g.g.se+(if g.g.de=none then 0 else 1)<=jo.getD j 0) (l':jo.sum=d'):
  Rm C CS CV H0 H' R sv dx se ch mk hl po ml x0 x ai tk tx (hs.set i h') d' t' vs ls w' jo mz:=by
 have il:i<hs.length:=(zad.mp X).1;have nd:=A.nd;have k:=A.A.ok i h X;have hm:h∈hs:=zan X;rw[zaH,zab,not_or] at nd;obtain⟨⟨g',f'⟩,xE⟩:=nd;have dN:=List.nodup_append.mp xE;have c':sv≠h.p:=λz=>g' (zai.mpr ⟨h,hm,z.symm⟩);have b':sv≠h.q:=λz=>f' (zai.mpr ⟨h,hm,z.symm⟩);obtain⟨⟨_,h1⟩,⟨_,h2⟩,⟨_,h3⟩,_,h4⟩:=A.A.off;have S':=F_ A.A.sv P (λo e=>by rw[h4] at e;cases e;exact ki _ _ _ _ h4 c' b') (λo e=>km _ (.head _) _ e) (λo e=>km _ (.tail _<|.head _) _ e) (λo e=>km _ (.tail _<|.tail _<|.head _) _ e)
 have other:∀j g,j≠i->hs[j]?=some g->bH C CS (λz=>z∈ [se,ch,mk,ml]) H' tx tk (ai.getD j 0) j d' t' g:=λj g nj u=>by
  have D:=(A.A.ok j g u).up hd ht;obtain⟨vf,vd,hq,_⟩:=D.ha.st.ob;obtain⟨I,he,_⟩:=D.ha.st.he;have gm:g∈hs:=zan u;have Z:∀f:Hd->Nat,(hs.map f).Nodup->f g≠f h:=λf nf z=>by
   have e1:(hs.map f)[j]?=some (f g):=by rw[zam,u];rfl
   have e2:(hs.map f)[i]?=some (f g):=by rw[zam,X,z];rfl
   have lj:j< (hs.map f).length:=(zad.mp e1).1;exact nj<|(List.getElem?_inj lj nf).mp<|e1.trans e2.symm
  have QK:∀a b:Hd,a∈hs->b∈hs->a.p≠b.q:=λa b N hb z=>dN.2.2 a.p (zai.mpr ⟨a,N,rfl⟩) b.q (zai.mpr ⟨b,hb,rfl⟩) z;exact⟨D.ha.keep P (λo e=>by rw[D.ha.ob] at e;cases e;exact ki _ _ _ _ D.ha.ob (Z _ dN.1) (QK g h gm hm)) (λo e=>by rw[hq] at e;cases e;exact ki _ _ _ _ hq (λz=>QK h g hm gm z.symm) (Z _ dN.2.1)) (λo e=>by rw[he] at e;cases e;exact kd _ _ he),D.iv,D.so,D.ea,D.nb,D.e1,D.tf,D.td⟩
 have S:(hs.set i h').length=hs.length:=zaP;refine⟨⟨kd _ _ A.A.hR,S',A.A.T,A.A.t0,A.A.tl,A.A.gt,?_,λj g u=>?_,by rw[S];exact A.A.ln,by rw[S];exact A.A.ls,by have:=A.A.lk;lia,lN,QJ⟩,P.l _ _ A.off.2 A.hp,Paired.dR A.pl λ_ _ z=>z.keep P.t P.l,λl hl=>(A.lo l hl).hand S λj g n b c u N=>?_,by have:=A.nv;lia,e',λa N=>?_,j',λg G=>?_,A.off,by rw[S];exact a',Gb,mO,A.lx,by rw[S];exact A.m7,km _ (.tail _<|.tail _<|.tail _<|.head _) _ A.hm,A.nm,by rw[S];exact m',k',l',A.sS⟩
 ·have e:(hs.set i h').map (λh=>V.ref h.p)=hs.map λh=>V.ref h.p:=by
   rw[zbq,ep];refine List.ext_getElem? λj=>?_;rw[zaw];by_cases z:i=j
   ·subst z;rw[if_pos rfl,if_pos (by rw[zae];exact il),zam,X];rfl
   ·rw[if_neg z]
  rw[e];exact P.l _ _ A.off.1 A.A.hh
 ·by_cases z:i=j
  ·subst z;rw[zaw,if_pos rfl,if_pos il] at u;cases u;exact O'
  ·rw[zaw,if_neg z] at u;exact other j g (λy=>z y.symm) u
 ·by_cases z:i=j
  ·subst z;rw[X] at u;cases u;exact⟨h',by rw[zaw,if_pos rfl,if_pos il],Ga n b c N⟩
  ·exact⟨g,by rw[zaw,if_neg z];exact u,N⟩
 ·simp only[zaa,zab,zai] at N
  have m:=A.f0;rcases N with rfl|rfl|rfl|rfl|rfl|rfl|⟨g,G,rfl⟩|⟨g,G,rfl⟩
  ·exact m _ (.head _)
  ·exact m _ (.tail _<|.head _)
  ·exact m _ (.tail _<|.tail _<|.head _)
  ·exact m _ (.tail _<|.tail _<|.tail _<|.head _)
  ·exact m _ (.tail _<|.tail _<|.tail _<|.tail _<|.head _)
  ·exact m _ (.tail _<|.tail _<|.tail _<|.tail _<|.tail _<|.head _)
  ·rcases zbO G with G|rfl
   ·exact m _ (by simp only[zaa,zab,zai];exact .inr (.inr<|.inr<|.inr<|.inr<|.inr<|.inl ⟨g,G,rfl⟩))
   ·rw[ep];exact m _ (by simp only[zaa,zab,zai];exact .inr (.inr<|.inr<|.inr<|.inr<|.inr<|.inl ⟨h,hm,rfl⟩))
  ·rcases zbO G with G|rfl
   ·exact m _ (by simp only[zaa,zab,zai];exact .inr (.inr<|.inr<|.inr<|.inr<|.inr<|.inr ⟨g,G,rfl⟩))
   ·exact n'
 ·rcases zbO G with G|rfl
  ·exact A.ne g G
  ·exact i'
end
theorem sum_set(k:Nat):∀(w:List Nat) (i:Nat),i<w.length->(w.set i<|w.getD i 0+k).sum=w.sum+k
 |[],_,h=>absurd h (zbF _)
 |a::w,0,_=>by show(a+k)+w.sum=(a+w.sum)+k;lia
 |a::w,i+1,h=>by
  have:=sum_set k w i (Nat.lt_of_succ_lt_succ h);show a+(w.set i<|w.getD i 0+k).sum=(a+w.sum)+k;lia
theorem sf{w:List Nat}{v:Nat}(h:i<w.length):(w.set i v).getD j 0=if i=j then v else w.getD j 0:=by
 rw[zaF,zaw,zaF];by_cases z:i=j
 ·rw[if_pos z,if_pos z,if_pos h];rfl
 ·rw[if_neg z,if_neg z]
section
variable {K:Frag}{C CS CV:Addr}{H H' H0:Hp}{Q:VK}{Γ:aQ}{σ:St}{E:XK}{R sv dx se ch mk hl po ml:Addr}{x0 x:Str}{ai:List Nat}{tk:List (Nat×List Pt)}{tx:List (List Nat)}{hs:List Hd}{d t:Nat}{M:MS}{sn i:Nat}{h:Hd}{vs:List V}{ls:List Lt}{w ms mz:List Nat}
theorem Gd(A:Rm C CS CV H0 H R sv dx se ch mk hl po ml x0 x ai tk tx hs d t vs ls w ms mz)(hd:d<16)(T:hs[i]?=some h)(hc:bG c h.g.x.cps.toList r)(tc:az c<=320)(hj:∀f q m l,h.g.fl=some f->h.g.de=some q->tx[h.g.kn]?=some l->OC h.g.fl l m->bG ps m r/\az ps<=az q+az c)
  (b:bw (· =h.q) H H') {N:MS} (ha:d_ N C CS H' h.p h.dp h.q h.dq h.e i (cy h.g c ps r).x (cy h.g c ps r).kn (cy h.g c ps r).se (cy h.g c ps r).fl (cy h.g c ps r).de h.ea) (wN:∀z,z∈ [se,ch,mk,ml]->N z):
  ∃h' w',h'.g=cy h.g c ps r/\h'.ea=h.ea/\Rm C CS CV H0 H' R sv dx se ch mk hl po ml x0 x ai tk tx (hs.set i h') (d+1) t vs ls w' (ms.set i<|ms.getD i 0+1) mz/\(h.g.fl=none->c_ tx tk (ai.getD i 0) h'.g (h.g.se+1) h.g.kn c):=by
 have D:=A.A.ok i h T;have I:=D.iv;have il:i<hs.length:=(zad.mp T).1;have gr:=hc.run.good I.gx λp hp=>E1 (hc.ok p hp);have td:=D.td;have tf:=D.tf;obtain⟨I',S',a',c'⟩:=afe (sn:=ai.getD i 0) I D.so hc gr (by lia) λf q m l e1 e2 e3 e4=>by
  obtain⟨k1,k2⟩:=hj f q m l e1 e2 e3 e4;rw[e2] at td;have b':az q<=320*d:=td;exact⟨k1,by lia⟩
 obtain⟨vf,vd,hq,_⟩:=D.ha.st.ob;have S:∀{z:Addr}{o:HO},H z=some o->(∀a b c,o≠ .ins a b c)->z≠h.q:=λe k z=>by rw[z,hq] at e;cases e;exact k _ _ _ rfl
 have wl:=A.wl;have G:bR (cy h.g c ps r).fl<=320* (d+1)/\bR (cy h.g c ps r).de<=320* (d+1)/\(if (cy h.g c ps r).fl≠none/\ai.getD i 0+1=(cy h.g c ps r).se then bR (cy h.g c ps r).fl else 0)+bR (cy h.g c ps r).de<=w.getD i 0+320:=by
  have wp:=A.wp i h T;have fd:=I.fd;obtain⟨l,m,k1,k2,k3⟩:=I.oc;unfold cy;cases hf:h.g.fl with
  |none=>
   refine⟨by show az c<=_;lia,zqZ _,?_⟩
   show(if _ then az c else 0)+0<=_
   split<;>lia
  |some f=>
   rw[hf] at tf wp;cases X:h.g.de with
   |none=>
    rw[X] at wp;refine⟨by show bR (some f)<=_;lia,by show az c<=_;lia,?_⟩
    show(if _ then bR (some f) else 0)+az c<=_
    lia
   |some q=>
    rw[X] at wp td;have b':az q<=320*d:=td;obtain⟨_,k5⟩:=hj f q m l hf X k1 k2;have Gb:(if (some f:Option (List Pt))≠none/\ai.getD i 0+1=h.g.se then bR (some f) else 0)+az q<=w.getD i 0:=wp
    refine⟨by show bR (some f)<=_;lia,by show az ps<=_;lia,?_⟩
    show(if _ then bR (some f) else 0)+az ps<=_
    lia
 have Z:(cy h.g c ps r).kn=h.g.kn:=by unfold cy;split<;>rfl
 refine⟨{h with g:=cy h.g c ps r},w.set i<|w.getD i 0+320,rfl,rfl,?_,c'⟩
 have QL:∀f:Hd->Nat,f {h with g:=cy h.g c ps r}=f h->(hs.set i {h with g:=cy h.g c ps r}).map f=hs.map f:=λf ef=>by
  rw[zbq,ef];refine List.ext_getElem? λj=>?_;rw[zaw];by_cases z:i=j
  ·subst z;rw[if_pos rfl,if_pos (by rw[zae];exact il),zam,T];rfl
  ·rw[if_neg z]
 have hm:h∈hs:=zan T;have fq:H0 h.q=none:=A.f0 _ (by simp only[zaa,zab,zai];exact .inr (.inr<|.inr<|.inr<|.inr<|.inr<|.inr ⟨h,hm,rfl⟩))
 refine A.hand T (h':={h with g:=cy h.g c ps r}) (by lia) (by lia) (zqR _) A.A.qg ⟨λa xs _ e=>b _ _ e (S e λ_ _ _ z=>by cases z),λy us e=>b _ _ e (S e λ_ _ _ z=>by cases z)⟩ (λa ha o e=>b _ _ e ?_) (λz e' e=>b _ _ e (S e λ_ _ _ z=>by cases z)) (λz C dx f e _ n=>b _ _ e n) (λz o e=>b _ _ (A.s0 _ _ e) (aM e fq)) ⟨⟨ha.ob,ha.st.weak λz hz=>.inl (wN z hz)⟩,I',S',λn u e=>by
   show(cy h.g c ps r).kn<n/\_;rw[Z];exact D.ea n u e,D.nb,by show h.ea ((cy h.g c ps r).kn+1)=none;rw[Z];exact D.e1,G.1,G.2.1⟩ a' rfl fq (by rw[QL _ rfl,QL _ rfl];exact A.nd) (A.ne h hm) (by rw[zaP];exact wl) (λj g P=>?_) ?_ (by rw[zaP];exact A.mL) (λj g P=>?_) ?_
 ·obtain⟨⟨_,h1⟩,⟨_,h2⟩,⟨_,h3⟩,_⟩:=A.A.off
  simp only[zaa,zaf,or_false] at ha
  rcases ha with rfl|rfl|rfl|rfl
  ·exact S h1 λ_ _ _ z=>by cases z
  ·exact S h2 λ_ _ _ z=>by cases z
  ·exact S h3 λ_ _ _ z=>by cases z
  ·exact S A.hm λ_ _ _ z=>by cases z
 ·rw[sf (w:=w) (by lia)]
  by_cases z:i=j
  ·subst z;rw[zaw,if_pos rfl,if_pos il] at P;cases P;rw[if_pos rfl];exact G.2.2
  ·rw[zaw,if_neg z] at P;rw[if_neg z];exact A.wp j g P
 ·rw[sum_set 320 w i (by lia)]
  have:=A.ws;lia
 ·rw[sf (w:=ms) (by have:=A.mL;lia)]
  by_cases z:i=j
  ·subst z;rw[zaw,if_pos rfl,if_pos il] at P;cases P;rw[if_pos rfl];have mp:=A.mp i h T;have fd:=I.fd;show(cy h.g c ps r).se+(if (cy h.g c ps r).de=none then 0 else 1)<=_
   unfold cy;cases hf:h.g.fl with
   |none=>rw[fd hf,if_pos rfl] at mp;show h.g.se+1+(if (none:Option (List Pt))=none then 0 else 1)<=_;rw[if_pos rfl];lia
   |some f=>
    cases X:h.g.de with
    |none=>rw[X,if_pos rfl] at mp;show h.g.se+(if (some c:Option (List Pt))=none then 0 else 1)<=_;rw[if_neg (by simp)];lia
    |some q=>rw[X,if_neg (by simp)] at mp;rw[if_neg (by simp)];lia
  ·rw[zaw,if_neg z] at P;rw[if_neg z];exact A.mp j g P
 ·rw[sum_set 1 ms i (by have:=A.mL;lia),A.mS]
def sh(i:Nat)(g:Gs)(c:List Pt):List Lt:=match g.fl with|none=>[.ask i (g.se+1) g.kn c]|some _=>[]
theorem agr(A:Rm C CS CV H0 H R sv dx se ch mk hl po ml x0 x ai tk tx hs d t vs ls w ms mz)(hd:d<16)(Z:hs[i]?=some h){a:Addr}(ha:H a=some (.lst ys))(pv:aH H ys c)(hc:bG c h.g.x.cps.toList r)(tc:az c<=320)
  (q:∀L dr h' N ps H',Rm C CS CV H0 H' R sv dx se ch mk hl po ml x0 x ai tk tx (hs.set i h') (d+1) t vs ls N (ms.set i<|ms.getD i 0+1) mz->H' L=some (.lst dr)->Paired (cT [se,ch,mk,ml] H') dr (sh i h.g c)->(∀l∈sh i h.g c,ia tx tk ai (hs.set i h') l)->dr.length<=1->h'.g=cy h.g c ps r->h'.ea=h.ea->(∀q,h.g.de=some q->∃zs,bX (ar q) (ar c) zs/\nb (ar ps)=nb zs)->Q (.ref L) H'):AK C CS [.ref h.p,.ref a] H Q E:=by
 have k:=A.A.ok i h Z;have I:=k.iv;have il:i<hs.length:=(zad.mp Z).1;obtain⟨l,m,k1,k2,k3⟩:=I.oc;have xl:=I.len;refine⟨_,h.p,h.dp,h.q,h.dq,h.e,i,h.g.x,h.g.kn,h.g.se,h.g.fl,h.g.de,h.ea,a,ys,c,m,r,rfl,k.ha,λz P=>A.al z P,I.fd,ha,pv,hc,k3,by lia,I.td,xl.2,by lia,?_⟩
 have nl:∀f,h.g.fl=f->sh i h.g c=match f with|none=>[.ask i (h.g.se+1) h.g.kn c]|some _=>[]:=λf e=>by unfold sh;rw[e]
 cases D:h.g.fl with
 |none=>
  rw[nl _ D] at q;intro L t l' H' b fL ft fl hA hL a';have eg:∀ps,cy h.g c ps r=⟨⟨r.toArray⟩,h.g.kn,h.g.se+1,some c,none⟩:=λps=>by unfold cy;rw[D]
  obtain⟨h',N,T,G,A',nw⟩:=Gd A hd Z (ps:=[]) hc tc (λf q m l e=>by lia) b (by rw[eg];exact hA) (λz P=>Or.inr<|Or.inr P)
  obtain⟨g1,xs,g2,g3⟩:=a';refine q L [.ref t] h' N [] H' A' hL (.cons ⟨t,l',xs,rfl,g1,g2,g3,A.fr fl⟩ .nil) (λy hy=>?_) (zqR _) T G λq S=>by rw[I.fd D] at S;cases S
  rw[zah.mp hy];exact⟨h',by rw[zaw,if_pos rfl,if_pos il],nw D⟩
 |some f=>
  rw[nl _ D] at q;cases gB:h.g.de with
  |none=>
   intro L H' b fL hA hL;have eg:∀ps,cy h.g c ps r=⟨⟨r.toArray⟩,h.g.kn,h.g.se,some f,some c⟩:=λps=>by unfold cy;rw[D,gB]
   obtain⟨h',N,T,G,A',_⟩:=Gd A hd Z (ps:=[]) hc tc (λf q m l _ e=>by lia) b (by rw[eg];exact hA) (λz P=>Or.inr P)
   exact q L [] h' N [] H' A' hL .nil nofun (zqZ _) T G λq S=>by lia
  |some q0=>
   intro L ps H' b fL u hA hL;have eg:cy h.g c ps r=⟨⟨r.toArray⟩,h.g.kn,h.g.se,some f,some ps⟩:=by unfold cy;rw[D,gB]
   have hj:∀f' q' X l2,h.g.fl=some f'->h.g.de=some q'->tx[h.g.kn]?=some l2->OC h.g.fl l2 X->bG ps X r/\az ps<=az q'+az c:=λf' q' X l2 T G e3 e4=>by
    rw[k1] at e3;cases e3;rw[gB] at G;cases G;rw[D] at k2 e4;have em:m=X:=Fy (bG.run (show bG f l m from k2)) (bG.run (show bG f l X from e4))
    subst em;exact⟨⟨u.ok,u.ch,u.run⟩,u.az⟩
   obtain⟨h',N,zq⟩:=qx2 (Gd A hd Z (ps:=ps) hc tc hj b (by rw[eg];exact hA) (λz P=>Or.inr P));obtain⟨T,G,A',_⟩:=qa4 zq
   exact q L [] h' N ps H' A' hL .nil (nofun) (zqZ _) T G λq S=>by rw[gB] at S;cases S;exact u.aL
end
section
variable {own sn:Nat}{tx:List (List Nat)}{tk:List (Nat×List Pt)}{g:Gs}{e:Nat×List Pt}
def mQ(sn:Nat)(g:Gs):Nat:=(if g.fl≠none/\sn+1=g.se then bR g.fl else 0)+bR g.de
theorem agt(I:Iv own tx tk g)(S:eZ own sn tk g)(m:tk[g.kn]?=some e):mQ sn (bZ own e g)<=mQ sn g/\∀b,bR g.fl<=b->bR g.de<=b->bR (bZ own e g).fl<=b/\bR (bZ own e g).de<=b:=by
 obtain⟨l,R,P,zq⟩:=qx3 (I.at' m);obtain⟨V,T,u,t,q,p⟩:=qa6 zq;unfold bZ;by_cases h:e.1=own
 ·rw[if_pos h];refine⟨?_,λb A d=>⟨d,zqZ _⟩⟩;have:mQ sn ⟨g.x,g.kn+1,p9 g.se g.de,g.de,none⟩<=bR g.de:=by
   show(if _ then bR g.de else 0)+0<=_
   split<;>lia
  have:bR g.de<=mQ sn g:=by unfold mQ;lia
  lia
 ·rw[if_neg h];obtain⟨N,a1,E,D,Z⟩:=q.pass u t I.tf;obtain⟨G,A,d,w,X⟩:=p.pass E (by lia) I.td
  have K:pF e.2 g.fl=none↔g.fl=none:=by cases g.fl<;>simp[pF]
  refine⟨?_,λb f k=>⟨zap D f,zap w k⟩⟩;unfold mQ
  by_cases z:g.fl≠none/\sn+1=g.se
  ·lia
  ·lia
theorem QM(I:Iv own tx tk g)(S:eZ own sn tk g):∀j,g.kn+j<=tk.length->mQ sn (bg own tk g j).1<=mQ sn g/\∀d,bR g.fl<=d->bR g.de<=d->bR (bg own tk g j).1.fl<=d/\bR (bg own tk g j).1.de<=d
 | 0,_=>⟨zqR _,λd a b=>⟨a,b⟩⟩
 |j+1,h=>by
  obtain⟨e,p,q⟩:=xr j h;obtain⟨m,k⟩:=QM I S j (by lia)
  obtain⟨l,f⟩:=agt (I.run j (by lia)) (ux I S j (by lia)) p
  show mQ sn (bZ own _ _)<=_/\∀d,_->_->bR (bZ own _ _).fl<=d/\bR (bZ own _ _).de<=d;rw[q];exact⟨zap l m,λd a b=>f d (k d a b).1 (k d a b).2⟩
theorem far(P:Nat->Prop)(b:Nat)(h:¬P b):∃j,j<=b/\(∀i,i<j->P i)/\ ¬P j:=by
 have m:∀n k,k+n=b->(∀i,i<k->P i)->∃j,j<=b/\(∀i,i<j->P i)/\ ¬P j:=by
  intro n
  induction n with
  |zero=>intro k e d;exact⟨k,by lia,d,by lia⟩
  |succ n l=>
   intro k e d;by_cases z:P k
   ·refine l (k+1) (by lia) λi f=>?_
    by_cases y:i=k
    ·rw[y];exact z
    ·exact d i (by lia)
   ·exact⟨k,by lia,d,z⟩
 exact m b 0 (by lia) λi f=>absurd f (zbF _)
end
theorem QN:∀{l:List Nat} (n:Nat),l.Nodup->x∉l->(l.set n x).Nodup
 |[],_,_,_=>.nil
 |a::l,0,h,b=>by
  rw[zaH] at h;exact zaH.mpr ⟨λz=>b<|.tail _ z,h.2⟩
 |a::l,n+1,h,b=>by
  rw[zaH] at h;refine zaH.mpr ⟨λz=>?_,QN n h.2 λz=>b (.tail _ z)⟩;rcases zbO z with z|z
  ·exact h.1 z
  ·exact b (z ▸ .head _)
section
variable {K:Frag}{C CS CV:Addr}{H H' H0:Hp}{Q:VK}{Γ:aQ}{σ:St}{E:XK}{R sv dx se ch mk hl po ml:Addr}{x0 x:Str}{ai:List Nat}{tk:List (Nat×List Pt)}{tx:List (List Nat)}{hs:List Hd}{d t:Nat}{M:MS}{sn i:Nat}{h:Hd}{vs:List V}{ls:List Lt}{w ms mz:List Nat}
abbrev Bh(i:Nat)(as:List Ask):List Lt:=as.map λa=>.ask i a.1 a.2.1 a.2.2
theorem agv(A:Rm C CS CV H0 H R sv dx se ch mk hl po ml x0 x ai tk tx hs d t vs ls w ms mz)(Ge:t<250)(hi:hs[i]?=some h){lt b:Addr}{n0:Nat}(bD:H lt=some (.tup<|Fs i n0 cC b))(h1:1<=n0)(hw:cC<=7)(hb:H b=some (.lst ys))(pv:aH H ys c)(e_:tk[n0 - 1]?=some (cC,c))
  (q:∀y P Tl zs ws j h' H',Rm C CS CV H0 H' R sv dx se ch mk hl po ml x0 x ai tk tx (hs.set i h') d (t+1) vs ls w ms mz->H' y=some (.tup [.ref P,.ref Tl])->H' P=some (.lst zs)->Paired (cT [se,ch,mk,ml] H') zs (Bh i (bg i tk h.g j).2.1)->(∀l∈Bh i (bg i tk h.g j).2.1,ia tx tk ai (hs.set i h') l)->zs.length<=16->H' Tl=some (.lst ws)->h.g.kn+j<=tk.length->h'.g=(bg i tk h.g j).1->(∀m,h'.g.kn<m->h.ea m≠none\/m=n0->h'.ea m≠none)->Q (.ref y) H'):AS C CS [.ref h.p,.ref lt] H Q E:=by
 have D:=A.A.ok i h hi;have I:=D.iv;have S:=D.so;have il:i<hs.length:=(zad.mp hi).1;have hm:h∈hs:=zan hi;have g':=A.A.T.len;have lk:=A.A.lk;have fM:=A.A.fM;have kn:=I.kn;have nl:=(zad.mp e_).1;obtain⟨cg,_⟩:=A.A.T.chg (n0 - 1) cC c _ _ e_ (zaj (by lia)) (zaj (by lia))
 obtain⟨j,j1,j2,j3⟩:=far (λk=>h.ea (h.g.kn+k+1)≠none\/h.g.kn+k+1=n0) (tk.length - h.g.kn) (λz=>by
  rcases z with z|z
  ·cases he:h.ea (h.g.kn+(tk.length - h.g.kn)+1) with
   |none=>exact z he
   |some u=>
    have:=(zad.mp (D.ea _ u he).2).1;lia
  ·lia)
 have jl:h.g.kn+j<=tk.length:=by lia
 have Bi:=not_or.mp j3;refine⟨_,h.p,h.dp,h.q,h.dq,h.e,lt,b,i,h.g,h.ea,n0,cC,ys,c,tx,tk,j,rfl,D.ha,λz hz=>A.al z hz,bD,h1,hw,hb,pv,cg.ok,cg.ch,I,by have:=D.nb;lia,D.ea,λ_ _=>e_,by lia,j2,⟨Classical.not_not.mp Bi.1,Bi.2⟩,λN P Tl y0 q' c3 e' a0 zs ws X H' k=>?_⟩
 have I':=I.run j jl;have S':=ux I S j jl;obtain⟨QO,QP⟩:=QM (sn:=ai.getD i 0) I S j jl;have gk:=uu i tk h.g j;have gl:=Fx i tk h.g j;have nw:=Qk I S j jl;have rs:=Qn i tk h.g j;generalize hG:bg i tk h.g j=G at k I' S' QO QP gk gl nw rs;have np:∀{z:Addr}{o:HO},H z=some o->(∀a b c,o≠ .ins a b c)->z≠h.p:=λe k z=>by rw[z,D.ha.ob] at e;cases e;exact k _ _ _ rfl
 have fp:H0 h.p=none:=A.f0 _ (by simp only[zaa,zab,zai];exact .inr (.inr<|.inr<|.inr<|.inr<|.inr<|.inl ⟨h,hm,rfl⟩))
 have f':∀n u,(f_ G.1.kn X) n=some u->G.1.kn<n/\tk[n - 1]?=some (u.1,u.2.2):=λn u e=>by
  have e':(if n<=G.1.kn then none else X n)=some u:=e
  by_cases z:n<=G.1.kn
  ·rw[if_pos z] at e';cases e'
  ·rw[if_neg z] at e';refine⟨by lia,?_⟩
   rcases k.ins with⟨_,_,ei⟩|⟨_,ei⟩
   ·rw[ei] at e';have e2:(if n=n0 then some (cC,a0,c) else h.ea n)=some u:=e'
    by_cases y:n=n0
    ·rw[if_pos y] at e2;cases e2;rw[y];exact e_
    ·rw[if_neg y] at e2;exact(D.ea n u e2).2
   ·rw[ei] at e';exact(D.ea n u e').2
 have a':(f_ G.1.kn X).nb<=t+1:=by
  have:=D.nb;show X.nb<=t+1;rcases k.ins with⟨_,_,ei⟩|⟨_,ei⟩ <;>rw[ei]
  ·show h.ea.nb+1<=t+1;lia
  ·lia
 have QR:=QP (320*d) D.tf D.td;have ee:(f_ G.1.kn X) (G.1.kn+1)=none:=by
  have e0:(if G.1.kn+1<=G.1.kn then none else X (G.1.kn+1))=X (G.1.kn+1):=if_neg (by lia)
  show(if G.1.kn+1<=G.1.kn then none else X (G.1.kn+1))=none
  rw[e0];have n1:h.ea (G.1.kn+1)=none:=by rw[gk];exact Classical.not_not.mp Bi.1
  rcases k.ins with⟨_,_,ei⟩|⟨_,ei⟩ <;>rw[ei]
  ·show(if G.1.kn+1=n0 then _ else h.ea (G.1.kn+1))=none
   rw[if_neg (by rw[gk];exact Bi.2)];exact n1
  ·exact n1
 have qn:∀z∈sv::(hs.map (·.p)++hs.map (·.q)),q'≠z:=λz hz y=>by
  have fq:=k.fq;rw[y] at fq
  simp only[zaa,zab,zai] at hz
  rcases hz with rfl|⟨g,hg,rfl⟩|⟨g,hg,rfl⟩
  ·rw[A.A.sv.ob] at fq;cases fq
  ·obtain⟨j',Z⟩:=zbd hg;rw[(A.A.ok j' g Z).ha.ob] at fq;cases fq
  ·obtain⟨j',Z⟩:=zbd hg;obtain⟨_,_,hq,_⟩:=(A.A.ok j' g Z).ha.st.ob;rw[hq] at fq;cases fq
 have Gf:=by
  refine A.hand hi (h':=⟨h.p,h.dp,q',c3,e',G.1,f_ G.1.kn X⟩) (zqR _) A.A.fM (by lia) Ge ⟨λa xs _ e=>k.b _ _ e (np e λ_ _ _ z=>by cases z),λy us e=>k.b _ _ e (np e λ_ _ _ z=>by cases z)⟩ (λa ha o e=>k.b _ _ e ?_) (λz b' e=>k.b _ _ e (np e λ_ _ _ z=>by cases z)) (λz C dx f e n _=>k.b _ _ e n) (λz o e=>k.b _ _ (A.s0 _ _ e)<|aM e fp) ⟨⟨k.ha.ob,k.ha.st.weak λz hz=>.inl (.inl hz)⟩,I',S',f',a',ee,QR.1,QR.2⟩ (λn b c a=>by have:=Qj I S a j jl;rw[hG] at this;exact this) rfl (A.s0.free k.fq) ?_ (λz=>by have:=k.fe;rw[show e'=R from z,A.A.hR] at this;cases this) A.wl (λj' g Z=>?_) A.ws A.mL (λj' g Z=>?_) A.mS
  ·obtain⟨⟨_,g1⟩,⟨_,g2⟩,⟨_,g3⟩,_⟩:=A.A.off
   simp only[zaa,zaf,or_false] at ha
   rcases ha with rfl|rfl|rfl|rfl
   ·exact np g1 λ_ _ _ z=>by cases z
   ·exact np g2 λ_ _ _ z=>by cases z
   ·exact np g3 λ_ _ _ z=>by cases z
   ·exact np A.hm λ_ _ _ z=>by cases z
  ·have e1:(hs.set i ⟨h.p,h.dp,q',c3,e',G.1,f_ G.1.kn X⟩).map (·.p)=hs.map (·.p):=by
    rw[zbq];refine List.ext_getElem? λj'=>?_;rw[zaw];by_cases z:i=j'
    ·subst z;rw[if_pos rfl,if_pos (by rw[zae];exact il),zam,hi];rfl
    ·rw[if_neg z]
   have e2:sv::(hs.map (·.p)++(hs.map (·.q)).set i q')=(sv::(hs.map (·.p)++hs.map (·.q))).set ((hs.map (·.p)).length+i+1) q':=by
    rw[List.set_cons_succ,List.set_append_right _ _ (by lia),Nat.add_sub_cancel_left]
   rw[e1,zbq];show(sv::(hs.map (·.p)++(hs.map (·.q)).set i q')).Nodup;rw[e2];exact QN _ A.nd λz=>qn _ z rfl
  ·by_cases z:i=j'
   ·subst z;rw[zaw,if_pos rfl,if_pos il] at Z;cases Z;exact zap QO<|A.wp i h hi
   ·rw[zaw,if_neg z] at Z;exact A.wp j' g Z
  ·by_cases z:i=j'
   ·subst z;rw[zaw,if_pos rfl,if_pos il] at Z;cases Z;exact zap (zbm rs.1)<|A.mp i h hi
   ·rw[zaw,if_neg z] at Z;exact A.mp j' g Z
 have c':∀l,N l->l∉ [se,ch,mk,ml]:=λl hl m_=>by
  rcases k.fN l hl with f|⟨n,u,e1,e2⟩
  ·exact A.fr f m_
  ·obtain⟨b',_,_,k2⟩:=D.ha.st.he;have:=k2 n;rw[e1] at this;obtain⟨_,_,_,_,_,_,nm⟩:=this;exact nm<|e2 ▸ m_
 have q:=q y0 P Tl zs ws j _ H' Gf k.ht k.hP;rw[hG] at q;refine q ?_ (λl hl=>?_) ?_ k.hT jl rfl λm m_ hx=>?_
 ·have go:∀{zs:List V}{as:List Ask},Paired (qd N P Tl i H') zs as->Paired (cT [se,ch,mk,ml] H') zs (as.map λa=>.ask i a.1 a.2.1 a.2.2):=λ{zs as} hp=>by
   induction hp with
   |nil=>exact .nil
   |cons a _ ih=>
    obtain⟨t',l',e1,⟨g1,xs,g2,g3⟩,e3,_⟩:=a;exact .cons ⟨t',l',xs,e1,g1,g2,g3,c' _ e3⟩ ih
  exact go k.pz
 ·obtain⟨a,ha,rfl⟩:=zai.mp hl;exact⟨_,by rw[zaw,if_pos rfl,if_pos il],nw a ha⟩
 ·have:=Paired.length k.pz;lia
 ·show(if m<=G.1.kn then none else X m)≠none
  rw[if_neg (by have:G.1.kn<m:=m_;lia)]
  rcases k.ins with⟨_,_,ei⟩|⟨i1,ei⟩ <;>rw[ei]
  ·show(if m=n0 then some (cC,a0,c) else h.ea m)≠none
   by_cases y:m=n0
   ·rw[if_pos y];simp
   ·rw[if_neg y];exact hx.resolve_right y
  ·rcases hx with hx|rfl
   ·exact hx
   ·rcases i1 with i1|⟨u,i1⟩
    ·have:G.1.kn<m:=m_;lia
    ·rw[i1];simp
abbrev toL(e:bJ.Let):Lt:=.gb e.1 e.2.1 e.2.2.1 e.2.2.2
abbrev toLt(e:bJ.Let×Addr):Lt:=toL e.1
theorem toL_map{q:List (bJ.Let×Addr)}:q.map toLt=(q.map (·.1)).map toL:=by simp
theorem Gg(f:∀a,H a=none->a∉N):∀{b:List V}{q:List (bJ.Let×Addr)},Paired (bJ.gQ H H') b q->Paired (cT N H') b (q.map toLt):=by
 intro _ _ p;induction p with
 |nil=>exact .nil
 |cons a r i=>obtain⟨t,m,⟨k,xs,e,g⟩,_,l⟩:=a;exact .cons ⟨t,_,xs,m,k,e,g,f _ l⟩ i
theorem agz(A:Rm C CS CV H0 H R sv dx se ch mk hl po ml x0 x ai tk tx hs d t vs ls w ms mz){e:Addr}{k:Nat}(Z:H e=some (.tup<|bJ.FU k n))(u:k<hs.length)(I:n<=tk.length)
  (q:∀L b H',aD H H'->H' L=some (.lst b)->Paired (cT [se,ch,mk,ml] H') b ((bJ.xG tk k n).map toL)->(∀l∈ (bJ.xG tk k n).map toL,ia tx tk ai hs l)->b.length<=16->Q (.ref L) H'):bJ.r_ CV [.ref sv,.ref e] H Q E:=by
 have lk:=A.A.lk;have fM:=A.A.fM;have l4:=A.A.ln;refine⟨_,sv,dx,se,ch,mk,x,ai,tk,e,rfl,.inl ⟨k,n,A.A.sv,Z,A.A.ls▸u,I,by lia,λL b aq H' G fL P D p _ _=>?_⟩⟩
 refine q L b H' G P (by rw[<-D,<-toL_map];exact Gg (λa f=>A.fr f) p) (λl hl=>?_) ?_
 ·obtain⟨it,m,rfl⟩:=zai.mp hl;obtain⟨j,N,S⟩:=zai.mp m;have bh:=zbr.mp N;have g:n+j<tk.length:=by lia
  have T:tk.getD (n+j) (0,[])=tk[n+j]:=by rw[zaF,zaj g];rfl
  rw[<-S,T];have m7:=A.m7 _ (List.getElem_mem g);exact⟨u,zbk _,by lia,by rw[Nat.add_sub_cancel,zaj g]⟩
 ·have:=Paired.length p;have X:=congrArg List.length D;rw[zae,zae,zaS] at X;lia
end
theorem QS{a:Nat}{c:List Pt}:∀{i j:Nat},a+i+j<=t.length->pj t a (i+j) c=pj t (a+i) j (pj t a i c)
 |i,0,_=>rfl
 |i,j+1,h=>by
  have k:a+(i+j) <t.length:=by lia
  have e:=zaj k;rw[<-zbe,pX e,QS (by lia),pX (by rw[zbe];exact e)]
theorem QU{t:List (Nat×List Pt)}(T:Taken tx t){b:Nat}{c:List Pt}{l n:List Nat}(f:tx[b]?=some l)(g:bG c l n)(d:az c<=5200):∀j,b+j<=t.length->az (pj t b j c)<=az c:=by
 intro j;induction j with
 |zero=>exact λ_=>rX▸zqR _
 |succ j i=>
  intro h;have k:b+j<t.length:=by lia
  have e:=zaj k;obtain⟨m,r,q,p,x⟩:=uk T f g d j (by lia)
  have w:=T.len;obtain⟨u,_⟩:=T.chg (b+j) _ _ _ _ e q (zaj (by lia))
  rw[pX e];exact zap (Py u p (by lia)).2.1<|i (by lia)
theorem QV(t:Nat):∀(w:List Nat) (i:Nat),i<w.length->t<=w.getD i 0->(w.set i<|w.getD i 0 - t).sum+t=w.sum
 |[],_,h,_=>absurd h (zbF _)
 |a::w,0,_,b=>by
  have d:t<=a:=b;show((a - t)+w.sum)+t=a+w.sum;lia
 |a::w,i+1,h,b=>by
  have:=QV t w i (Nat.lt_of_succ_lt_succ h) b;show(a+(w.set i<|w.getD i 0 - t).sum)+t=a+w.sum;lia
section
variable {K:Frag}{C CS CV:Addr}{H H' H0:Hp}{Q:VK}{Γ:aQ}{σ:St}{E:XK}{R sv dx se ch mk hl po ml:Addr}{x0 x:Str}{ai:List Nat}{tk:List (Nat×List Pt)}{tx:List (List Nat)}{hs:List Hd}{d t:Nat}{M:MS}{sn i:Nat}{h:Hd}{vs:List V}{ls:List Lt}{w ms mz:List Nat}
theorem agA(S:bJ.eh N CV H sv dx se ch mk x ai tk)(b:∀a∈ [se,ch,mk,ml],a∈N):bJ.eh [se,ch,mk,ml] CV H sv dx se ch mk x ai tk:=by
 obtain⟨p,g,f⟩:=S.b_;exact⟨S.ob,S.dY,⟨p,g,Paired.dR f λv ps ⟨a,xs,e,m,l,k⟩=>⟨a,xs,e,m,l,λz=>k<|b a z⟩⟩,S.hU,S.nd,⟨.head _,.tail _<|.head _,.tail _<|.tail _<|.head _⟩⟩
theorem QW(A:Rm C CS CV H0 H R sv dx se ch mk hl po ml x0 x ai tk tx hs d t vs ls w ms mz){b:Addr}{k e:Nat}{g:Hd}(u:H b=some (.lst ys))(m:b∉ [se,ch,mk,ml])(q:aH H ys c)(p:hs[k]?=some g)(f:c_ tx tk (ai.getD k 0) g.g n e c):∃l r,bJ.uB [se,ch,mk,ml] CV H sv dx se ch mk x ai tk tx b k e ys c l r:=by
 obtain⟨l,r,G,D⟩:=f.cg;have I:=A.A.gt _ (zan A.A.tl);have P:=B.len_list x;have S:=A.A.lk;have Z:=A.A.fM;have N:=A.A.ln;have bk:=f.bk;have X:=(A.A.ok k g p).iv.kn;exact⟨l,r,A.A.sv,A.A.T,A.A.tl,⟨by lia,I.2⟩,by lia,A.al,A.A.ls▸((zad.mp p).1),by lia,by lia,by rw[A.A.ls];lia,u,⟨λz=>m (by simp[z]),λz=>m (by simp[z])⟩,q,G,D,f.tt⟩
theorem agB(A:Rm C CS CV H0 H R sv dx se ch mk hl po ml x0 x ai tk tx hs d t vs ls w ms mz){f b:Addr}{k e:Nat}{g:Hd}(S:H f=some (.tup<|bJ.A0 k n e b))(N:H b=some (.lst ys))(D:b∉ [se,ch,mk,ml])(u:aH H ys c)(I:hs[k]?=some g)(m:c_ tx tk (ai.getD k 0) g.g n e c)(G:n≠ai.getD k 0+1)
  (q:∀L H',aD H H'->H' L=some (.lst [])->Q (.ref L) H'):bJ.r_ CV [.ref sv,.ref f] H Q E:=by
 obtain⟨l,r,T⟩:=QW A N D u I m;exact⟨_,sv,dx,se,ch,mk,x,ai,tk,f,rfl,.inr ⟨tx,b,k,n,e,ys,c,l,r,T,S,m.n1,.inl ⟨G,λL H' p _ P=>q L H' p P⟩⟩⟩
theorem agC(A:Rm C CS CV H0 H R sv dx se ch mk hl po ml x0 x ai tk tx hs d t vs ls w ms mz)(Ge:t<250){lt b:Addr}{k D:Nat}{g:Hd}(bD:H lt=some (.tup<|bJ.A0 k (ai.getD k 0+1) D b))(hb:H b=some (.lst ys))(nb:b∉ [se,ch,mk,ml])(pv:aH H ys c)(hg:hs[k]?=some g)(ak:c_ tx tk (ai.getD k 0) g.g (ai.getD k 0+1) D c)
  (q:∀L zs x' G f dQ w' H',Rm C CS CV H0 H' R sv dx se ch mk hl po ml x0 x' (ai.set k<|ai.getD k 0+1) (tk++[(k,G)]) dQ hs d (t+1) vs ls w' ms mz->H' L=some (.lst zs)->Paired (cT [se,ch,mk,ml] H') zs ((bJ.xB ai tk k G).map toL)->(∀l∈ (bJ.xB ai tk k G).map toL,ia dQ (tk++[(k,G)]) (ai.set k<|ai.getD k 0+1) hs l)->zs.length<=16->g.g.fl=some f->G=pj tk g.g.kn (tk.length - g.g.kn) f->bG G x.cps.toList x'.cps.toList->Q (.ref L) H'):bJ.r_ CV [.ref sv,.ref lt] H Q E:=by
 obtain⟨l,r,T⟩:=QW A hb nb pv hg ak;have kl:k<hs.length:=(zad.mp hg).1;have p:=A.A.ok k g hg;have bk:=ak.bk;have kn:=p.iv.kn;have lk:=A.A.lk;have fM:=A.A.fM;have ln:=A.A.ln;have Gh:=A.A.ls;have lT:=A.A.T.len;refine⟨_,sv,dx,se,ch,mk,x,ai,tk,lt,rfl,.inr ⟨tx,b,k,_,D,ys,c,l,r,T,bD,ak.n1,.inr ⟨rfl,λx' L zs aq H' QX _ S S' hL fL e1 pz _ _ b'=>?_⟩⟩⟩;obtain⟨m,r',g1,g2,g3⟩:=uk A.A.T T.Ba T.cg T.tt (tk.length - D) (by lia)
 rw[show D+(tk.length - D)=tk.length by lia,A.A.tl] at g1
 cases g1;have er:r'=x'.cps.toList:=Fy g2.run S;subst er;generalize jO:bJ.lJ tk D c=G at S S' e1;have QY:pj tk D (tk.length - D) c=G:=jO;rw[QY] at g2 g3;have e':az G<=5200:=g3;have T':=A.A.T.snoc (h:=k) A.A.tl g2 e';obtain⟨X,h'⟩:=afb p.so kn ak;have lv:=ak.lv rfl;have ec:G=pj tk g.g.kn (tk.length - g.g.kn) (pj tk D (g.g.kn - D) c):=by
  rw[<-QY,show tk.length - D=(g.g.kn - D)+(tk.length - g.g.kn) by lia,QS (by lia),show D+(g.g.kn - D)=g.g.kn by lia]
 have j':az G<=bR g.g.fl:=by
  obtain⟨l2,m2,o1,o2,_⟩:=p.iv.oc;have tf:=p.iv.tf;rw[lv] at o2 tf⊢;rw[ec];exact QU A.A.T o1 o2 tf (tk.length - g.g.kn) (by lia)
 have dY:ai.getD k 0+1=g.g.se:=by
  have:=ak.le;rcases p.so with⟨a,_⟩|⟨a,_⟩|⟨a,_⟩ <;>lia
 have a':=A.wp k g hg;rw[if_pos ⟨by rw[lv];simp,dY⟩] at a'
 have sm:((tk++[(k,G)]).map λe=>az e.2).sum=(tk.map λe=>az e.2).sum+az G:=by
  rw[zaq,zbb];rfl
 have rl:=S.len;have lx:=A.lx;have l':=B.len_list x;have k':=B.len_list x';have ws:=A.ws;have wl:=A.wl;have i':=QV (az G) w k (by lia) (by lia)
 obtain⟨⟨_,s1⟩,⟨_,s2⟩,⟨_,s3⟩,_,s4⟩:=A.A.off;have kb:∀{z:Addr}{o:HO},H z=some o->z≠sv->z∉ [se,ch,mk]->H' z=some o:=λe n1 n2=>b' _ _ e (λhm=>by
  rcases zaa.mp hm with z|z
  ·exact n1 z
  ·exact n2 z)
 have Bj:∀{z:Addr}{o:HO},H z=some o->(∀a b c,o≠ .ins a b c)->z≠sv:=λe k z=>by rw[z,s4] at e;cases e;exact k _ _ _ rfl
 have Gi:∀{z:Addr}{o:HO},H z=some o->(∀xs,o≠ .lst xs)->z∉ [se,ch,mk]:=λe k hm=>by
  simp only[zaa,zaf,or_false] at hm
  rcases hm with rfl|rfl|rfl
  ·rw[s1] at e;cases e;exact k _ rfl
  ·rw[s2] at e;cases e;exact k _ rfl
  ·rw[s3] at e;cases e;exact k _ rfl
 have w4:∀{z:Addr},z∈ [se,ch,mk]->z∈ [se,ch,mk,ml]:=λh=>zaG [ml] h;have kp:Kp (λz=>z∈ [se,ch,mk,ml]) H H':=⟨λa xs n e=>kb e (Bj e λ_ _ _ z=>by cases z) λh=>n (w4 h),λy us e=>kb e (Bj e λ_ _ _ z=>by cases z) (Gi e λ_ z=>by cases z)⟩
 have kd:∀{z:Addr}{Z:List (Key×V)},H z=some (.dK Z)->H' z=some (.dK Z):=λe=>kb e (Bj e λ_ _ _ z=>by cases z) (Gi e λ_ z=>by cases z)
 have ki:∀{z c dx:Addr}{f:List (Str×V)},H z=some (.ins c dx f)->z≠sv->H' z=some (.ins c dx f):=λe n=>kb e n (Gi e λ_ z=>by cases z)
 have nd:=A.nd;rw[zaH,zab,not_or] at nd;have gs:∀j,(ai.set k<|ai.getD k 0+1).getD j 0=if k=j then ai.getD k 0+1 else ai.getD j 0:=λj=>sf (by lia)
 have QZ:∀j y,hs[j]?=some y->bH C CS (λz=>z∈ [se,ch,mk,ml]) H' (tx++[x'.cps.toList]) (tk++[(k,G)]) ((ai.set k<|ai.getD k 0+1).getD j 0) j d (t+1) y:=λj y P=>by
  have I:=(A.A.ok j y P).up (zqR d) (Nat.le_succ t);have ym:y∈hs:=zan P;obtain⟨vf,vd,hq,_⟩:=I.ha.st.ob;obtain⟨Z,he,_⟩:=I.ha.st.he;have hA:=I.ha.keep kp (λo e=>by rw[I.ha.ob] at e;cases e;exact ki I.ha.ob λz=>nd.1.1 (zai.mpr ⟨y,ym,z⟩)) (λo e=>by rw[hq] at e;cases e;exact ki hq λz=>nd.1.2 (zai.mpr ⟨y,ym,z⟩)) (λo e=>by rw[he] at e;cases e;exact kd he)
  have gr:x'.cps.toList.length<=5200/\∀z∈x'.cps.toList,SG.cps.contains z=true:=⟨by lia,QX.2⟩
  have Q0:∀n u,y.ea n=some u->y.g.kn<n/\(tk++[(k,G)])[n - 1]?=some (u.1,u.2.2):=λn u e=>by
   obtain⟨e1,e2⟩:=I.ea n u e;exact⟨e1,by rw[zaB (zad.mp e2).1];exact e2⟩
  rw[gs];by_cases z:k=j
  ·subst z;rw[hg] at P;cases P;rw[if_pos rfl];exact⟨hA,I.iv.more T' gr λ_=>⟨⟨_,lv,ec⟩,X⟩,h' G,Q0,I.nb,I.e1,I.tf,I.td⟩
  ·rw[if_neg z];exact⟨hA,I.iv.more T' gr λy=>absurd y z,I.so.more I.iv.kn z,Q0,I.nb,I.e1,I.tf,I.td⟩
 have f':tk.length+1<=d:=by
  have s1:=sum_set 1 ai k (by lia)
  have s2:=Qp (f:=λn:Nat=>n) (hs:=ai.set k (ai.getD k 0+1)) (ms:=ms) (by rw[zaP,Gh];exact A.mL.symm) λj n e=>by
   have jl:j<hs.length:=by have:=(zad.mp e).1;rw[zaP] at this;lia
   have P:hs[j]?=some hs[j]:=zaj jl;have so:=(QZ j _ P).so;have mp:=A.mp j _ P;have en:(ai.set k<|ai.getD k 0+1).getD j 0=n:=by rw[zaF,e];rfl
   rw[en] at so;rcases so with⟨a,_⟩|⟨a,_⟩|⟨a,_⟩ <;>lia
  have mS:=A.mS;have sS:=A.sS;rw[List.map_id'] at s2;lia
 have Gf:Rm C CS CV H0 H' R sv dx se ch mk hl po ml x0 x' (ai.set k<|ai.getD k 0+1) (tk++[(k,G)]) (tx++[x'.cps.toList]) hs d (t+1) vs ls (w.set k<|w.getD k 0 - az G) ms mz:=by
  refine⟨⟨kd A.A.hR,agA S' λa ha=>.tail _ (zau _ ha),T',by rw[zaB (by lia)];exact A.A.t0,?_,λl hl=>?_,kp.l _ _ A.off.1 A.A.hh,QZ,ln,by rw[zaP];exact Gh,by rw[zqA];exact f',fM,Ge⟩,kp.l _ _ A.off.2 A.hp,Paired.dR A.pl λ_ _ z=>z.keep kp.t kp.l,λl hl=>?_,by have:=A.nv;lia,λz o e=>?_,A.f0,A.nd,A.ne,A.off,by rw[zaP];exact wl,λj y P=>?_,by rw[sm];lia,by rw[sm];lia,λe he=>?_,kb A.hm (Bj A.hm λ_ _ _ z=>by cases z) A.nm,A.nm,A.mL,A.mp,A.mS,by rw[sum_set 1 ai k (by lia),A.sS,zqA];rfl⟩
  ·rw[zqA,zaK (by show _<=tk.length+1;lia),show tk.length+[(k,G)].length - tx.length=0 by show tk.length+1 - tx.length=0;lia];rfl
  ·rcases zab.mp hl with h|h
   ·exact A.A.gt l h
   ·rw[zah.mp h];exact⟨by lia,QX.2⟩
  ·have N:=A.lo l hl;cases l with
   |ask h n b c2=>
    obtain⟨y,y1,y2⟩:=N;refine⟨y,y1,?_⟩;rw[gs];have Oy:=A.A.ok h y y1;by_cases z:k=h
    ·subst z;rw[if_pos rfl];exact(c_.gb Oy.so y2).more Oy.iv.kn
    ·rw[if_neg z];exact y2.more Oy.iv.kn
   |again h n=>exact⟨N.1,by rw[zqA];have:=N.2;lia⟩
   |gb h n w c2=>exact⟨N.1,N.2.1,N.2.2.1,by rw[zaB (zad.mp N.2.2.2).1];exact N.2.2.2⟩
  ·refine b' _ _ (A.s0 _ _ e) λhm=>?_;have f0:=A.f0
   simp only[zaa,zaf,or_false] at hm
   rcases hm with rfl|rfl|rfl|rfl
   ·exact aM e (f0 _<|.tail _<|.tail _<|.tail _<|.tail _<|.tail _<|.head _) rfl
   ·exact aM e (f0 _<|.tail _<|.head _) rfl
   ·exact aM e (f0 _<|.tail _<|.tail _<|.head _) rfl
   ·exact aM e (f0 _<|.tail _<|.tail _<|.tail _<|.head _) rfl
  ·rw[gs,sf (by lia)]
   by_cases z:k=j
   ·subst z;rw[hg] at P;cases P;rw[if_pos rfl,if_pos rfl,if_neg λy=>by have:=y.2;lia]
    lia
   ·rw[if_neg z,if_neg z];exact A.wp j y P
  ·rcases zab.mp he with h|h
   ·exact A.m7 e h
   ·rw[zah.mp h];exact kl
 refine q L zs x' G _ _ _ H' Gf hL (by rw[<-e1,<-toL_map];exact Gg (λa f=>A.fr f) pz) (λl hl=>?_) ?_ lv ec g2
 ·obtain⟨it,g',rfl⟩:=zai.mp hl;obtain⟨j,P,ej⟩:=zai.mp g';have bh:=zbr.mp P;show ia _ _ _ hs (.gb it.1 it.2.1 it.2.2.1 it.2.2.2);rw[<-ej];exact⟨by lia,zbk _,by show k<=7;lia,by show(tk++[(k,G)])[tk.length+1 - 1]?=some (k,G);rw[Nat.add_sub_cancel,zaK<|zqR _,zaJ];rfl⟩
 ·have:=Paired.length pz;have e2:=congrArg List.length e1;rw[zae,zae,zaS] at e2;lia
end
inductive Step (d:List Nat) (t:List (Nat×List Pt)) (hs:List Hd) (x:Str):Lt->List Nat->List (Nat×List Pt)->List Hd->Str->List Lt->Prop
 |Bk {k n b c}:n≠d.getD k 0+1->Step d t hs x (.ask k n b c) d t hs x []
 |take {k b c g f h x'}:hs[k]?=some g->g.g.fl=some f->d.getD k 0+1=g.g.se->h=pj t g.g.kn (t.length - g.g.kn) f->bG h x.cps.toList x'.cps.toList->Step d t hs x (.ask k (d.getD k 0+1) b c) (d.set k<|d.getD k 0+1) (t++[(k,h)]) hs x' ((bJ.xB d t k h).map toL)
 |again {k n}:Step d t hs x (.again k n) d t hs x ((bJ.xG t k n).map toL)
 |Bl {k n w c g e j}:hs[k]?=some g->g.g.kn+j<=t.length->e.g=(bg k t g.g j).1->(∀m,e.g.kn<m->g.ea m≠none\/m=n->e.ea m≠none)->Step d t hs x (.gb k n w c) d t (hs.set k e) x (Bh k (bg k t g.g j).2.1)
section
variable {K:Frag}{C CS CV:Addr}{H H' H0:Hp}{Q:VK}{Γ:aQ}{σ:St}{E:XK}{R sv dx se ch mk hl po ml:Addr}{x0 x:Str}{ai:List Nat}{tk:List (Nat×List Pt)}{tx:List (List Nat)}{hs:List Hd}{d t:Nat}{M:MS}{sn i:Nat}{h:Hd}{vs:List V}{ls:List Lt}{w ms mz:List Nat}
inductive Gj(C CS CV:Addr)(u:List V)(H:Hp)(Q:VK)(E:XK):Prop|i(H0:Hp)(R sv dx se ch mk hl po ml:Addr)(x0 x:Str)(ai:List Nat)(tk:List (Nat×List Pt))(tx:List (List Nat))(hs:List Hd)(d t:Nat)(vs:List V)(ls:List Lt)(w ms mz:List Nat)(v:V)(l:Lt)(_:u=[.ref R,v])(_:Rm C CS CV H0 H R sv dx se ch mk hl po ml x0 x ai tk tx hs d t vs ls w ms mz)(_:t<250)(_:cT [se,ch,mk,ml] H v l)(_:ia tx tk ai hs l)(_:∀T q x' e f p g m b k H',Rm C CS CV H0 H' R sv dx se ch mk hl q ml x0 x' e f p g d (t+1) (vs++m) (ls++b) k ms mz->Step ai tk hs x l e f g x' b->Q (.ref T) H')
abbrev jL(K:Frag)(C CS CV:Addr)(E:XK):aQ:=aO K [] [] [] [("came",CV,bJ.r_ CV),("came",C,AS C CS)] (E:=E)
theorem Rm.up(A:Rm C CS CV H0 H R sv dx se ch mk hl po ml x0 x ai tk tx hs d t vs ls w ms mz)(b:t<250):Rm C CS CV H0 H R sv dx se ch mk hl po ml x0 x ai tk tx hs d (t+1) vs ls w ms mz:=
 ⟨⟨A.A.hR,A.A.sv,A.A.T,A.A.t0,A.A.tl,A.A.gt,A.A.hh,λi h e=>(A.A.ok i h e).up (zqR _)<|Nat.le_succ _,A.A.ln,A.A.ls,A.A.lk,A.A.fM,b⟩,A.hp,A.pl,A.lo,by have:=A.nv;lia,A.s0,A.f0,A.nd,A.ne,A.off,A.wl,A.wp,A.ws,A.lx,A.m7,A.hm,A.nm,A.mL,A.mp,A.mS,A.sS⟩
theorem agI(bT:List V)(H:Hp)(Q:VK)(E:XK)(hh:Gj C CS CV bT H Q E):aE (jL K C CS CV E) vQ (Dn Q) (start MQ bT) H:=by
 obtain⟨H0,R,sv,dx,se,ch,mk,hl,po,ml,x0,x,ai,tk,tx,hs,d,t,vs,ls,w,ms,mz,v,l,rfl,A,ht,lv,lo,q⟩:=hh;have nv:=A.nv;have X:∀{Z:Str}{bU:List Nat}{bB:List (Nat×List Pt)}{dQ:List (List Nat)}{D:List Hd}{w':List Nat}{G:List V}{cB:List Lt}{H1:Hp}{L:Addr},Rm C CS CV H0 H1 R sv dx se ch mk hl po ml x0 Z bU bB dQ D d (t+1) vs ls w' ms mz->H1 L=some (.lst G)->Paired (cT [se,ch,mk,ml] H1) G cB->(∀l∈cB,ia dQ bB bU D l)->G.length<=16->Step ai tk hs x l bU bB D Z cB->
   i8 (jL K C CS CV E).K .Add (.ref po) (.ref L) H1 λv3 H3=>ag (jL K C CS CV E) (.v 0) [some<|.ref R,some v,none] H3 λdv H4=>ag (jL K C CS CV E) (.c<|.str "post") [some<|.ref R,some v,none] H4 λkv H5=>∃d6 H6,dv=.ref d6/\jU H5 d6 kv v3 H6/\aE (jL K C CS CV E) [.ret<|.lst []] {(Dn Q) with nx:=aE (jL K C CS CV E) (vQ.drop 1) (Dn Q)} [some<|.ref R,some v,none] H6:=by
  intro Z bU bB dQ D w' G cB H1 L A1 S I N n2 sp;refine Rm.add rfl A1 S I N (by rw[zqA];lia) λbY H' _ A2=>?_
  refine cq<|eY<|aN ⟨zqZ _,λT fT=>?_⟩;exact q T bY Z bU bB dQ D _ _ _ _ (A2.same<|sameNew (o:=.lst []) fT) sp
 have u:∀(y:Addr),v=.ref y->bJ.r_ CV [.ref sv,.ref y] H (λy H2=>i8 (jL K C CS CV E).K .Add (.ref po) y H2 λv3 H3=>ag (jL K C CS CV E) (.v 0) [some<|.ref R,some v,none] H3 λdv H4=>ag (jL K C CS CV E) (.c<|.str "post") [some<|.ref R,some v,none] H4 λkv H5=>∃d6 H6,dv=.ref d6/\jU H5 d6 kv v3 H6/\aE (jL K C CS CV E) [.ret<|.lst []] {(Dn Q) with nx:=aE (jL K C CS CV E) (vQ.drop 1) (Dn Q)} [some<|.ref R,some v,none] H6) E->
   aE (jL K C CS CV E) [.dput (.v 0) (.c<|.str "post")<|.bin .Add (.dc (.v 0)<|.c<|.str "post")<|.aS 0 "came" (.dc (.v 0)<|.c<|.str "server") [.v 1],.ret<|.lst []] {(Dn Q) with nx:=aE (jL K C CS CV E) (vQ.drop 1) (Dn Q)} [some<|.ref R,some v,none] H:=by
  intro y e D;refine rP<|bL<|eK<|af rfl<|ay ⟨R,_,rfl,mP A.A.hR,jH CV (bJ.r_ CV) rfl<|eK<|af rfl<|ay ⟨R,_,rfl,F9 A.A.hR,sv,dx,_,rfl,A.A.sv.ob,bJ.iC,af rfl ?_⟩⟩;rw[e] at D⊢;exact D
 cases l with
 |ask k n a' c=>
  obtain⟨y,a,xs,rfl,m,h2,h3,h4⟩:=lv;obtain⟨g,hg,ak⟩:=lo;refine bQ<|bF<|bx<|af rfl<|ay<|cv m rfl<|ay<|rD ⟨_,rfl,iT ?_ (by decide+kernel)⟩
  refine u y rfl ?_;by_cases z:n=ai.getD k 0+1
  ·subst z;have dY:ai.getD k 0+1=g.g.se:=by
    have:=ak.le;rcases (A.A.ok k g hg).so with⟨a,_⟩|⟨a,_⟩|⟨a,_⟩ <;>lia
   exact agC A ht m h2 h4 h3 hg ak λL G Z c' f dQ w' H' A' S I N n2 lv ec cg=>X A' S I N n2 (.take hg lv dY ec cg)
  ·exact agB A m h2 h4 h3 hg ak z λL H' s' S=>X ((A.same s').up ht) S .nil (λ_ y=>by cases y) (zqZ _) (.Bk z)
 |again k n=>
  obtain⟨y,rfl,m⟩:=lv;refine bQ<|bF<|bx<|af rfl<|ay<|cv m rfl<|ay<|rD ⟨_,rfl,iT ?_ (by decide+kernel)⟩
  refine u y rfl ?_;exact agz A m lo.1 lo.2 λL G H' s' S I N n2=>X ((A.same s').up ht) S I N n2 .again
 |gb k n cC c=>
  obtain⟨y,a,xs,rfl,m,h2,h3,h4⟩:=lv;obtain⟨kl,n1,w7,e_⟩:=lo;have hk:=zaj kl;generalize hs[k]=g at hk;have b:=A.A.ok k g hk;refine bQ<|bF<|bx<|af rfl<|ay<|cv m rfl<|ay<|rD ⟨_,rfl,iF (dJ ?_) (by decide+kernel)⟩
  refine bW<|jH C (AS C CS) rfl<|bx<|eK<|af rfl<|ay ⟨R,_,rfl,uE A.A.hR,bx<|af rfl<|ay<|cv m rfl<|mI A.A.hh (gg (v:=V.ref g.p) (by rw[zam,hk];rfl)) ⟨g.p,g.dp,_,rfl,b.ha.ob,iA,af rfl ?_⟩⟩
  refine agv A ht hk m n1 w7 h2 h3 e_ λt2 P Tl G ws j g' H' A' hy hP I N n2 hT jl eg ea=>?_;refine rP<|bL<|eK<|af rfl<|ay ⟨R,_,rfl,mP A'.A.hR,bx<|af rfl<|ay<|cv hy rfl ?_⟩;refine Rm.add rfl A' hP I N (by rw[zqA];lia) λbY H2 b2 A2=>?_
  have nR:t2≠R:=λz=>by have:=A'.A.hR;rw[<-z,hy] at this;cases this
  exact cq<|bx<|af rfl<|ay<|cv (b2 _ _ hy nR) rfl<|q Tl bY _ _ _ _ _ _ _ _ H2 A2<|.Bl hk jl eg ea
end
def wt:Lt->Nat
 |.again _ _=>17
 |_=>1
abbrev cL(l:List Lt):Nat:=(l.map wt).sum
abbrev nu(t:List (Nat×List Pt))(hs:List Hd):Nat:=4*t.length+(hs.map λh=>h.g.se).sum
theorem Gk(h:∀y∈b,wt y=1):cL b=b.length:=by
 induction b with
 |nil=>rfl
 |cons a l d=>
  have:=d λy e=>h y (.tail _ e);have:=h a (.head _);show wt a+cL l=l.length+1;lia
section
variable {C CS CV:Addr}{H H0:Hp}{R sv dx se ch mk hl po ml:Addr}{x0 x x':Str}{ai bU:List Nat}{tk bB:List (Nat×List Pt)}{tx:List (List Nat)}{hs aV:List Hd}{d t i:Nat}{h h':Hd}{vs:List V}{ls cB:List Lt}{w ms mz:List Nat}{l:Lt}
theorem Q2(ln:hs.length<=4)(Gh:ai.length=hs.length)(E:tk.length<=16)(sp:Step ai tk hs x l bU bB aV x' cB):cL cB+1+nu tk hs<=nu bB aV+wt l/\∀y∈cB,wt y=1:=by
 have m:∀{A:List bJ.Let},∀y∈A.map toL,wt y=1:=λy p=>by obtain⟨e,_,rfl⟩:=zai.mp p;rfl
 cases sp with
 |Bk=>exact⟨by show 0+1+_<=_+1;lia,nofun⟩
 | @take k b c g f D x' q I X N Z=>
  refine⟨?_,m⟩;rw[Gk m,zae,zae,zaS];show _+1+nu tk hs<=4* (tk++[(k,D)]).length+_+1;rw[zqA];show ai.length+1+(4*tk.length+_)<=4* (tk.length+1)+_+1;lia
 |again=>
  refine⟨?_,m⟩;rw[Gk m,zae,zae,zaS];show _+1+_<=_+17;lia
 | @Bl k n w c g u j q G K P=>
  have o:∀y∈Bh k (bg k tk g.g j).2.1,wt y=1:=λy p=>by obtain⟨e,_,rfl⟩:=zai.mp p;rfl
  refine⟨?_,o⟩;rw[Gk o,zae];have T:=(Qn k tk g.g j).2;have S:=Qo (f:=λh:Hd=>h.g.se) (h':=u) q;show _+1+(4*tk.length+_)<=4*tk.length+_+1;lia
theorem Bm(A:Rm C CS CV H0 H R sv dx se ch mk hl po ml x0 x ai tk tx hs d t vs ls w ms mz):nu tk hs<=80:=by
 have:=Qp (f:=λh:Hd=>h.g.se) A.mL.symm λi h e=>by have:=A.mp i h e;lia
 have:=A.mS;have:=A.A.fM;have:=A.A.lk;lia
structure Dx (x0 x:Str) (ai:List Nat) (tk:List (Nat×List Pt)) (hs:List Hd) (ms:List Nat):Prop where
 tC:∀e∈tk,Cl e.1 e.2
 hC:∀i h,hs[i]?=some h->iB i h.g.fl/\iB i h.g.de
 dm:∀i h,hs[i]?=some h->(tk.map λe=>dP (48+i) e.2).sum+pd (48+i) (ai.getD i 0) h.g=ms.getD i 0
 xc:∀k,k<4->x.cps.toList.count (48+k)=x0.cps.toList.count (48+k)+(tk.map λe=>dP (48+k) e.2).sum
theorem uG{b:Type}{hs:List b}{i j:Nat}{h' g:b}(e:(hs.set i h')[j]?=some g):(i=j/\g=h')\/(i≠j/\hs[j]?=some g):=by
 by_cases z:i=j
 ·rw[zaw,if_pos z] at e;by_cases y:i<hs.length
  ·rw[if_pos y] at e;cases e;exact .inl ⟨z,rfl⟩
  ·rw[if_neg y] at e;cases e
 ·rw[zaw,if_neg z] at e;exact .inr ⟨z,e⟩
theorem Q3(A:Rm C CS CV H0 H R sv dx se ch mk hl po ml x0 x ai tk tx hs d t vs ls w ms mz)(D:Dx x0 x ai tk hs ms)(sp:Step ai tk hs x l bU bB aV x' cB):Dx x0 x' bU bB aV ms:=by
 have ln:=A.A.ln;cases sp with
 |Bk=>exact D
 |again=>exact D
 | @take k b c g f c' x' u N dY ec cg=>
  have p:=A.A.ok k g u;obtain⟨l,m,o1,o2,o3⟩:=p.iv.oc;have kn:=p.iv.kn;have P:=p.iv.tf;rw[N] at o2 P;obtain⟨I,G⟩:=afp A.A.T o1 o2 P ((D.hC k g u).1 f N) (tk.length - g.g.kn) (by lia)
  rw[<-ec] at I G;have X:∀z,((tk++[(k,c')]).map λe=>dP z e.2).sum=(tk.map λe=>dP z e.2).sum+dP z f:=λz=>by rw[zaq,zbb,<-I z];rfl
  refine⟨λe E=>?_,D.hC,λi h q=>?_,λK S=>?_⟩
  ·rcases zab.mp E with E|E
   ·exact D.tC e E
   ·rw[zah.mp E];exact G
  ·have dm:=D.dm i h q;rw[X,sf (A.A.ls▸((zad.mp u).1))]
   by_cases z:k=i
   ·subst z;rw[u] at q;cases q;unfold pd at dm⊢;rw[N] at dm
    have:dO (48+k) (some f)=dP (48+k) f:=rfl;lia
   ·have il:=(zad.mp q).1;have:=(G i (by lia)).2 λy=>z y.symm
    rw[I] at this;lia
  ·have:=D.xc K S;have r1:=afk cg (48+K);have:=(G K S).1;rw[X];rw[I] at r1;lia
 | @Bl k n w c g g' j u jl eg ea=>
  have p:=A.A.ok k g u;obtain⟨q1,q2,Z⟩:=afo p.iv p.so (D.hC k g u).1 (D.hC k g u).2 j jl;rw[<-eg] at q1 q2 Z;refine⟨D.tC,λi h q=>?_,λi h q=>?_,D.xc⟩
  ·rcases uG q with⟨rfl,rfl⟩|⟨_,q⟩
   ·exact⟨q2,Z⟩
   ·exact D.hC i h q
  ·rcases uG q with⟨rfl,rfl⟩|⟨_,q⟩
   ·rw[q1];exact D.dm _ g u
   ·exact D.dm i h q
theorem agJ(A:Rm C CS CV H0 H R sv dx se ch mk hl po ml x0 x ai tk tx hs d t vs ls w ms mz)(D:Dx x0 x ai tk hs ms)(E:hs[i]?=some h)(S:Cl i c)(K:dP (48+i) c=1)(eg:h'.g=cy h.g c ps r)(P:∀q,h.g.de=some q->∃N,bX (ar q) (ar c) N/\nb (ar ps)=nb N):Dx x0 x ai tk (hs.set i h') (ms.set i<|ms.getD i 0+1):=by
 have k:=A.A.ok i h E;have X:=(zad.mp E).1;have Z:i<4:=by have:=A.A.ln;lia
 obtain⟨I,T⟩:=D.hC i h E;have G:(iB i h'.g.fl/\iB i h'.g.de)/\pd (48+i) (ai.getD i 0) h'.g=pd (48+i) (ai.getD i 0) h.g+1:=by
  rw[eg];unfold cy;cases p:h.g.fl with
  |none=>
   refine⟨⟨λy e=>by lia,nofun⟩,?_⟩
   have so:ai.getD i 0=h.g.se:=by
    rcases k.so with⟨a,_⟩|⟨a,b,_⟩|⟨a,b,_⟩
    ·exact a
    ·exact absurd p b
    ·exact absurd p b
   unfold pd;rw[p,k.iv.fd p];show(if (some c:Option (List Pt))≠none/\ai.getD i 0+1=h.g.se+1 then dP (48+i) c else 0)+0=(if (none:Option (List Pt))≠none/\ai.getD i 0+1=h.g.se then 0 else 0)+0+1
   rw[if_pos ⟨by simp,by lia⟩,if_neg (by simp),K]
  |some f=>
   rw[p] at I;cases u:h.g.de with
   |none=>
    refine⟨⟨I,λy e=>by lia⟩,?_⟩
    unfold pd;rw[p,u];show _+dP (48+i) c=_+0+1;rw[K];rfl
   |some q=>
    refine⟨⟨I,λy e=>by cases e;exact (T q u).aL S (P q u)⟩,?_⟩
    unfold pd;rw[p,u];show _+dP (48+i) ps=_+dP (48+i) q+1;rw[((Ql (P q u)<|48+i).2 (S i Z).1),K];rfl
 refine⟨D.tC,λj g m=>?_,λj g m=>?_,D.xc⟩
 ·rcases uG m with⟨rfl,rfl⟩|⟨_,m⟩
  ·exact G.1
  ·exact D.hC j g m
 ·rw[sf (A.mL▸X)]
  rcases uG m with⟨rfl,rfl⟩|⟨n,m⟩
  ·rw[<-D.dm _ h E];lia
  ·rw[if_neg n];exact D.dm j g m
structure Lv (ai:List Nat) (tk:List (Nat×List Pt)) (hs:List Hd) (ls:List Lt):Prop where
 la:∀i h,hs[i]?=some h->∀k,h.g.kn<k->k<=tk.length->h.ea k≠none\/(∃w c,Lt.gb i k w c∈ls)\/∃n,n<k/\Lt.again i n∈ls
 lb:∀i h,hs[i]?=some h->h.g.fl≠none->ai.getD i 0<h.g.se->∃b c,Lt.ask i h.g.se b c∈ls
theorem agK(A:Rm C CS CV H0 H R sv dx se ch mk hl po ml x0 x ai tk tx hs d t vs ls w ms mz)(L:Lv ai tk hs Q4)(u:∀y∈Q4,y=l\/y∈T)(sp:Step ai tk hs x l bU bB aV x' cB):Lv bU bB aV (T++cB):=by
 have D:∀{y:Lt},y∈T->y∈T++cB:=λh=>zaG _ h;cases sp with
 | @Bk k n b c hn=>
  refine⟨λi h p m G E=>?_,λi h p f s=>?_⟩
  ·rcases L.la i h p m G E with y|⟨w,c,y⟩|⟨n,I,y⟩
   ·exact .inl y
   ·exact .inr (.inl ⟨w,c,D<|(u _ y).resolve_left (by simp)⟩)
   ·exact .inr (.inr ⟨n,I,D<|(u _ y).resolve_left (by simp)⟩)
  ·obtain⟨K,q,y⟩:=L.lb i h p f s;refine⟨K,q,D<|(u _ y).resolve_left λe=>?_⟩
   rcases (A.A.ok i h p).so with⟨a,_⟩|⟨a,_⟩|⟨a,_⟩ <;>lia
 | @take k b c g f q x' P hf dY ec cg=>
  refine⟨λi h p m G E=>?_,λi h p f s=>?_⟩
  ·rw[zqA] at E;have E:m<=tk.length+1:=E;by_cases z:m=tk.length+1
   ·refine .inr<|.inl ⟨k,q,zau _<|zai.mpr ⟨(i,tk.length+1,k,q),zai.mpr ⟨i,zbr.mpr (A.A.ls▸((zad.mp p).1)),rfl⟩,by rw[z]⟩⟩
   ·rcases L.la i h p m G (by lia) with y|⟨w,c,y⟩|⟨n,I,y⟩
    ·exact .inl y
    ·exact .inr (.inl ⟨w,c,D<|(u _ y).resolve_left (by simp)⟩)
    ·exact .inr (.inr ⟨n,I,D<|(u _ y).resolve_left (by simp)⟩)
  ·rw[sf (A.A.ls▸((zad.mp P).1))] at s
   by_cases z:k=i
   ·subst z;rw[P] at p;cases p;lia
   ·rw[if_neg z] at s;obtain⟨K,q,y⟩:=L.lb i h p f s;exact⟨K,q,D<|(u _ y).resolve_left λe=>z (by lia)⟩
 | @again k n=>
  refine⟨λi h p m G E=>?_,λi h p f s=>?_⟩
  ·rcases L.la i h p m G E with y|⟨w,c,y⟩|⟨N,I,y⟩
   ·exact .inl y
   ·exact .inr (.inl ⟨w,c,D<|(u _ y).resolve_left (by simp)⟩)
   ·rcases u _ y with e|y
    ·cases e;refine .inr<|.inl ⟨_,_,zau _<|zai.mpr ⟨_,zai.mpr ⟨m - n - 1,zbr.mpr (by lia),rfl⟩,by rw[show n+(m - n - 1)+1=m by lia]⟩⟩
    ·exact .inr (.inr ⟨N,I,D y⟩)
  ·obtain⟨K,q,y⟩:=L.lb i h p f s;exact⟨K,q,D<|(u _ y).resolve_left (by simp)⟩
 | @Bl k n w c g g' j P jl Z ea=>
  refine⟨λi h p m G E=>?_,λi h p f s=>?_⟩
  ·rcases uG p with⟨rfl,rfl⟩|⟨z,p⟩
   ·have kn:g.g.kn<m:=by rw[Z,uu] at G;lia
    rcases L.la k g P m kn E with y|⟨S,q,y⟩|⟨N,I,y⟩
    ·exact .inl (ea m G<|.inl y)
    ·rcases u _ y with e|y
     ·cases e;exact .inl (ea _ G<|.inr rfl)
     ·exact .inr (.inl ⟨S,q,D y⟩)
    ·exact .inr (.inr ⟨N,I,D<|(u _ y).resolve_left (by simp)⟩)
   ·rcases L.la i h p m G E with y|⟨S,q,y⟩|⟨N,I,y⟩
    ·exact .inl y
    ·exact .inr (.inl ⟨S,q,D<|(u _ y).resolve_left λe=>z (by lia)⟩)
    ·exact .inr (.inr ⟨N,I,D<|(u _ y).resolve_left (by simp)⟩)
  ·rcases uG p with⟨rfl,rfl⟩|⟨z,p⟩
   ·rw[Z] at f s⊢;rcases afm k tk g.g j f with⟨X,e2⟩|⟨a,ha,X⟩
    ·rw[X] at s⊢;obtain⟨K,q,y⟩:=L.lb k g P e2 s;exact⟨K,q,D<|(u _ y).resolve_left (by simp)⟩
    ·exact⟨a.2.1,a.2.2,zau _<|zai.mpr ⟨a,ha,by rw[X]⟩⟩
   ·obtain⟨K,q,y⟩:=L.lb i h p f s;exact⟨K,q,D<|(u _ y).resolve_left (by simp)⟩
theorem Lv.rest(A:Rm C CS CV H0 H R sv dx se ch mk hl po ml x0 x ai tk tx hs d t vs ls w ms mz)(L:Lv ai tk hs [])(k:hs[i]?=some h):h.g.kn=tk.length/\h.g.fl=none/\h.g.de=none:=by
 have f:=A.A.ok i h k;have kn:=f.iv.kn;have q:h.g.kn=tk.length:=by
  by_cases z:h.g.kn=tk.length
  ·exact z
  ·rcases L.la i h k (h.g.kn+1) (by lia) (by lia) with y|⟨_,_,y⟩|⟨_,_,y⟩
   ·exact absurd f.e1 y
   ·cases y
   ·cases y
 have m:h.g.fl=none:=by
  rcases f.so with⟨a,b,_⟩|⟨a,b,_⟩|⟨a,b,c,_⟩
  ·exact b
  ·obtain⟨_,_,y⟩:=L.lb i h k b (by lia);cases y
  ·exact absurd (λj e p=>by have:=(zad.mp p).1;lia) c
 exact⟨q,m,f.iv.fd m⟩
end
inductive xI (e:List Nat) (t:List (Nat×List Pt)) (hs:List Hd) (x:Str) (b:List Lt):Int->List Nat->List (Nat×List Pt)->List Hd->Str->List Lt->Prop
 |go {w l d g h V x' f}:(∀y∈b,y=l\/y∈d)->(∀y∈d,y∈b)->l∈b->cL d<=cL b->(w=0->cL d+wt l=cL b)->Step e t hs x l g h V x' f->xI e t hs x b w g h V x' (d++f)
 |off {d}:(∀y∈d,y∈b)->cL d<=cL b->xI e t hs x b 2 e t hs x d
section
variable {K:Frag}{C CS CV:Addr}{H H' H0:Hp}{Q:VK}{Γ:aQ}{σ:St}{E:XK}{R sv dx se ch mk hl po ml:Addr}{x0 x:Str}{ai:List Nat}{tk:List (Nat×List Pt)}{tx:List (List Nat)}{hs:List Hd}{d t:Nat}{M:MS}{sn i:Nat}{h:Hd}{vs:List V}{ls:List Lt}{w ms mz:List Nat}
inductive xJ(C CS CV:Addr)(T:List V)(H:Hp)(Q:VK)(E:XK):Prop|i(H0:Hp)(R sv dx se ch mk hl po ml:Addr)(x0 x:Str)(ai:List Nat)(tk:List (Nat×List Pt))(tx:List (List Nat))(hs:List Hd)(d t:Nat)(vs:List V)(ls:List Lt)(w ms mz:List Nat)(c b:Int)(_:T=[.ref R,.int c,.int b])(_:Rm C CS CV H0 H R sv dx se ch mk hl po ml x0 x ai tk tx hs d t vs ls w ms mz)(_:t<250)(_:vs≠ [])(_:(b=0\/b=1\/b=2))(_:∀p x' f g m k T e l H',Rm C CS CV H0 H' R sv dx se ch mk hl p ml x0 x' f g m k d (t+1) T e l ms mz->xI ai tk hs x ls b f g k x' e->Q .av H')
abbrev Q5(K:Frag)(C CS CV:Addr)(E:XK):aQ:=aO K [("_law_came",Gj C CS CV),("_law_copied",F8)] [] (E:=E)
abbrev sH(R:Addr)(c b:Int)(k:Nat)(v:V):St:=[some<|.ref R,some<|.int c,some<|.int b,some<|.int (k:Nat),some v]
theorem Q6{c I:Int}{k:Nat}{l:Lt}(A:Rm C CS CV H0 H R sv dx se ch mk hl po ml x0 x ai tk tx hs d t vs ls w ms mz)(ht:t<250)(hw:I<2)(Z:cT [se,ch,mk,ml] H v l)(lo:ia tx tk ai hs l)
  (q:∀G x' e f D g u b m H',Rm C CS CV H0 H' R sv dx se ch mk hl G ml x0 x' e f D g d (t+1) (vs++u) (ls++b) m ms mz->Step ai tk hs x l e f g x' b->Q .av H'):aE (Q5 K C CS CV E) (DG.drop 3) (Dn Q) (sH R c I k v) H:=
 bQ (bF<|af rfl<|ay<|N.ltI ⟨_,rfl,iT (d5<|bP (Gj C CS CV) rfl<|aC<|af rfl<|aC<|bP F8 rfl<|aC<|af rfl<|aN ⟨[se,ch,mk,ml],v,l,rfl,Z,A.al,λP H' X p=>aN ⟨H0,R,sv,dx,se,ch,mk,hl,po,ml,x0,x,ai,tk,tx,hs,d,t,vs,ls,w,ms,mz,P,l,rfl,A.same X,ht,p,lo,λT G x' e f D g u b m H2 A2 S=>q G x' e f D g u b m H2 A2 S⟩⟩)<|zqT hw⟩)
theorem agN{f:Lt->Nat}{l:Lt}{k:Nat}(h:ls[k]?=some l):((ls.take k++ls.drop (k+1)).map f).sum+f l=(ls.map f).sum:=by
 obtain⟨b,e⟩:=zad.mp h;have g:ls=ls.take k++l::ls.drop (k+1):=by rw[<-e,<-zaY b,zbc]
 rw[g]
 rw[zaq,zbb,zaq,zbb,zav,zbp];lia
theorem agO{y:Lt}{k:Nat}(h:ls[k]?=some l)(b:y∈ls):y=l\/y∈ls.take k++ls.drop (k+1):=by
 obtain⟨f,e⟩:=zad.mp h;have g:ls=ls.take k++l::ls.drop (k+1):=by rw[<-e,<-zaY f,zbc]
 rw[g] at b;rcases zab.mp b with h|h
 ·exact .inr (zaG _ h)
 ·rcases zaa.mp h with h|h
  ·exact .inl h
  ·exact .inr (zau _ h)
theorem agP(bT:List V)(H:Hp)(Q:VK)(E:XK)(hh:xJ C CS CV bT H Q E):aE (Q5 K C CS CV E) DG (Dn Q) (start MU bT) H:=by
 obtain⟨H0,R,sv,dx,se,ch,mk,hl,po,ml,x0,x,ai,tk,tx,hs,d,t,vs,ls,w,ms,mz,c,wy,rfl,A,ht,ne,hw,q⟩:=hh;have a':0<vs.length:=List.length_pos_iff.mpr ne;obtain⟨k,ek⟩:=zbl (zba c (show((vs.length:Nat):Int)≠0 by lia))
 have lk:=zaT c (show(0:Int) < ((vs.length:Nat):Int) by lia)
 have kl:k<vs.length:=by lia
 refine bW<|bL<|af rfl<|iz<|eK<|af rfl<|ay ⟨R,_,rfl,mP A.A.hR,.inl ⟨_,aB.of A.hp,rM (by lia) ?_⟩⟩
 rw[ek];have Z:vs[k]?=some vs[k]:=zaj kl;generalize vs[k]=v at Z;obtain⟨l,p,lv⟩:=Au A.pl Z;have lo:=A.lo l (zan p);refine bW<|bx<|eK<|af rfl<|ay ⟨R,_,rfl,mP A.A.hR,af rfl<|mI A.hp (gg (v:=v) Z) ?_⟩;have qg:=A.A.qg;have nv:=A.nv;by_cases w1:wy=1
 ·refine bQ (bF<|af rfl<|ay<|pT ⟨_,rfl,iF (dJ ?_) (by rw[zqT w1];rfl)⟩)
  exact Q6 A ht (by lia) lv lo λbY D bU bB dQ aV dr cB G H' A' I=>q bY D bU bB dQ aV _ _ G H' A' (.go (λy g=>.inr g) (λy g=>g) (zan p) (zqR _) (λz=>by lia) I)
 ·refine bQ (bF<|af rfl<|ay<|pT ⟨_,rfl,iT ?_ (by rw[zqF w1];rfl)⟩)
  refine rP<|bL<|Ph<|eK<|af rfl<|ay ⟨R,_,rfl,mP A.A.hR,af rfl ⟨_,rfl,.inl ⟨_,aB.of A.hp,λL1 f1=>?_⟩⟩⟩;rw[adV];have S:=sameNew (o:=.lst (vs.take k)) f1;have h1:upd H L1 (.lst<|vs.take k) L1=some (.lst<|vs.take k):=aw;generalize upd H L1 (.lst<|vs.take k)=H1 at S h1⊢;have A1:=A.same S;refine Pj<|eK<|af rfl<|ay ⟨R,_,rfl,mP A1.A.hR,bL<|af rfl<|ay<|iX ⟨_,rfl,.inl ⟨_,aB.of A1.hp,λL2 f2=>?_⟩⟩⟩;rw[show((k:Nat):Int)+1=((k+1:Nat):Int) by lia,adX] at*
  have u:=sameNew (o:=.lst (vs.drop<|k+1)) f2;have h2:upd H1 L2 (.lst<|vs.drop<|k+1) L2=some (.lst<|vs.drop<|k+1):=aw;generalize upd H1 L2 (.lst<|vs.drop<|k+1)=H2 at u h2⊢;have A2:=A1.same u;have lt:=zaA (i:=k) (l:=vs);have ld:=zat (i:=k+1) (l:=vs);refine Fb (u _ _ h1) h2 (by lia) λL3 f3=>?_
  have P:=sameNew (o:=.lst (vs.take k++vs.drop (k+1))) f3;have h3:upd H2 L3 (.lst<|vs.take k++vs.drop (k+1)) L3=some (.lst<|vs.take k++vs.drop (k+1)):=aw;generalize upd H2 L3 (.lst<|vs.take k++vs.drop (k+1))=H3 at P h3⊢;have n3:=A2.fr f3;have m:=A2.same P;have T:=cT.same lv ((S.trans u).trans P);refine af rfl<|ay ⟨R,_,rfl,jU.k (k:=.inr "post") m.A.hR<|dh (by show 5<=1000000;decide),?_⟩
  rw[QF];have b:∀y∈ls.take k++ls.drop (k+1),y∈ls:=λy g=>by
   rcases zab.mp g with h|h
   ·exact zbX h
   ·exact zbD h
  have sc:=agN (f:=wt) p;have A4:=m.put h3 (Paired.app (Pk k m.pl)<|Pl (k+1) m.pl) (λl hl=>m.lo l<|b l hl) (by rw[zqA];lia) n3
  have nR:∀{z:Addr}{o:HO},H3 z=some o->(∀X,o≠ .dK X)->z≠R:=λe y z=>by have:=m.A.hR;rw[<-z,e] at this;cases this;exact y _ rfl
  by_cases w2:wy=2
  ·subst w2;exact bQ<|bF<|af rfl<|ay<|N.ltI ⟨_,rfl,iF (dJ<|q _ _ _ _ _ _ _ _ _ _ (A4.up ht)<|.off b (by lia)) rfl⟩
  ·exact Q6 A4 ht (by lia) (T.keep (λy us e=>by rw[ax (nR e λ_ z=>by cases z)];exact e) (λa xs _ e=>by rw[ax (nR e λ_ z=>by cases z)];exact e)) lo λbY D bU bB dQ aV dr cB G H' A' I=>q bY D bU bB dQ aV _ _ G H' A' (.go (λy g=>agO p g) b (zan p) (by lia) (λ_=>sc) I)
end
end L2.fG
namespace L2.fG
open PySem PySem.Spec L2.B L2.N PyProof.Rows
section
variable {K:Frag}{C CS CV:Addr}{H H' H0:Hp}{Q:VK}{Γ:aQ}{σ:St}{E:XK}{R sv dx se ch mk hl po ml:Addr}{x0 x:Str}{ai:List Nat}{tk:List (Nat×List Pt)}{tx:List (List Nat)}{hs:List Hd}{d t:Nat}{M:MS}{sn i:Nat}{h:Hd}{vs:List V}{ls:List Lt}{w ms mz:List Nat}
def Bn:Lt->List Pt
 |.ask _ _ _ c=>c
 |.again _ _=>[]
 |.gb _ _ _ c=>c
def jq:Lt->PyData
 |.ask h n b c=>.tuple [.str "ask",.int h,.int n,.int b,.list<|c.map toD]
 |.again h n=>.tuple [.str "again",.int h,.int n]
 |.gb h n w c=>.tuple [.str "took",.int h,.int n,.int w,.list<|c.map toD]
theorem agR:∀{l:Lt},cT N H v l->Is H (jq l) v:=by
 intro l h;cases l with
 |again=>obtain⟨t,e,f⟩:=h;exact⟨t,_,e,f,_,_,rfl,rfl,_,_,rfl,rfl,_,_,rfl,rfl,rfl⟩
 |_=>obtain⟨t,a,xs,e,f,k,g,_⟩:=h;exact⟨t,_,e,f,_,_,rfl,rfl,_,_,rfl,rfl,_,_,rfl,rfl,_,_,rfl,rfl,_,_,rfl,⟨a,xs,rfl,k,D8 g⟩,rfl⟩
theorem agS(h:∀p∈Bn l,jf p):(jq l).canLay0=true/\(jq l).depth<=3:=by
 have g:∀(f:Str) (a b e:Int) (c:List Pt),(∀p∈c,jf p)->PyData.strOk f=true->(PyData.tuple [.str f,.int a,.int b,.int e,.list<|c.map toD]).canLay0=true/\(PyData.tuple [.str f,.int a,.int b,.int e,.list<|c.map toD]).depth<=3:=λf a b e c m k=>by
  obtain⟨q,u⟩:=NN c m
  constructor
  ·show(PyData.strOk f && (true && (true && (true && (PyData.canLayAll0 (c.map toD) && true)))))=true;rw[k,q];rfl
  ·show max 0 (max 0<|max 0<|max 0<|max (PyData.depthAll (c.map toD)+1) 0)+1<=3;lia
 cases l with
 |ask a b e c=>exact g _ _ _ _ c h (by decide+kernel)
 |again a b=>exact⟨by show(PyData.strOk (Str.ofString "again") && (true && (true && true)))=true;decide+kernel,by show max 0 (max 0<|max 0 0)+1<=3;lia⟩
 |gb a b e c=>exact g _ _ _ _ c h (by decide+kernel)
theorem Q7:∀{vs:List V}{ls:List Lt},Paired (cT N H) vs ls->IsL H (ls.map jq) vs:=by
 intro _ _ p;induction p with|nil=>rfl|cons a r i=>exact⟨_,_,rfl,agR a,i⟩
theorem Q8:∀(ls:List Lt),(∀l∈ls,∀p∈Bn l,jf p)->PyData.canLayAll0 (ls.map jq)=true/\PyData.depthAll (ls.map jq)<=3
 |[],_=>⟨rfl,zqZ _⟩
 |l::r,h=>by
  obtain⟨a,b⟩:=agS (h l<|.head _);obtain⟨c,e⟩:=Q8 r λq f=>h q (.tail _ f);refine⟨?_,?_⟩
  ·show((jq l).canLay0 && PyData.canLayAll0 (r.map jq))=true;rw[a,c];rfl
  ·show max (jq l).depth (PyData.depthAll<|r.map jq)<=3;lia
theorem Q9{a b:Addr}(m:H a=some (.lst vs))(f:Paired (cT N H) vs ls)(k:∀l∈ls,∀p∈Bn l,jf p)(g:H b=some (.lst []))(q:Q (.bl<|decide<|vs=[]) H):da K .Eq (.ref a) (.ref b) H Q:=by
 obtain⟨c,e⟩:=Q8 ls k;refine⟨.list<|ls.map jq,.list [],⟨a,vs,rfl,m,Q7 f⟩,⟨b,[],rfl,g,rfl⟩,?_,rfl,?_⟩
 ·unfold SeqAt.shaped;have A:(PyData.list<|ls.map jq).canLay0=true:=c;have u:(PyData.list<|ls.map jq).depth<=64:=by show PyData.depthAll (ls.map jq)+1<=64;lia
  rw[A,zqT u];rfl
 ·cases f with
  |nil=>exact q
  |cons=>exact q
theorem Rm.jf(A:Rm C CS CV H0 H R sv dx se ch mk hl po ml x0 x ai tk tx hs d t vs ls w ms mz):∀l∈ls,∀p∈Bn l,jf p:=λl hl p f=>by
 have e:=A.lo l hl;cases l with
 |ask a n b c=>
  obtain⟨u,_,k⟩:=e;obtain⟨l,r,_,g⟩:=k.cg;exact NO<|g.ok p f
 |again a n=>cases f
 |gb a n b c=>
  have m:=A.A.T.len;have q:=(zad.mp e.2.2.2).1;exact NO<|(A.A.T.chg (n - 1) b c _ _ e.2.2.2 (zaj (by lia))<|zaj (by lia)).1.ok p f
def Rest(tk:List (Nat×List Pt))(hs:List Hd):Prop:= ∀(i:Nat) (h:Hd),hs[i]?=some h->h.g.kn=tk.length/\h.g.fl=none/\h.g.de=none
inductive Bo(C CS CV:Addr)(T:List V)(H:Hp)(Q:VK)(E:XK):Prop|i(H0:Hp)(R sv dx se ch mk hl po ml:Addr)(x0 x:Str)(ai:List Nat)(tk:List (Nat×List Pt))(tx:List (List Nat))(hs:List Hd)(d t:Nat)(vs:List V)(ls:List Lt)(w ms mz:List Nat)(_:T=[.ref R])(_:Rm C CS CV H0 H R sv dx se ch mk hl po ml x0 x ai tk tx hs d t vs ls w ms mz)(_:∀b H',aD H H'->(b=true↔Rest tk hs)->Q (.bl b) H')
abbrev Q_(K:Frag)(C CS CV:Addr)(E:XK):aQ:=aO K [] [] [] [("flight",C,Fi C CS),("waiting",C,Fj C CS),("seen",C,wU C CS),("many",CV,bJ.lI CV)] (E:=E)
theorem Ra{T:Bool->Hp->Prop}{o:Option (List Pt)}(e:o=none->T false H)(b:o≠none->∀H',aD H H'->T true H'):AB H (λx H1=>ag Γ (.c .av) σ H1 λy H2=>da Γ.K .IsNot x y H2 λz f=>∃k,z=.bl k/\T k f) o:=by
 cases o with
 |none=>exact ay (Γ:=Γ) ⟨rfl,_,rfl,e rfl⟩
 |some ps=>exact λl H' xs s _ _ _=>ay ⟨rfl,_,rfl,oa▸b (by lia) H' s⟩
theorem agU(T:List V)(H:Hp)(Q:VK)(E:XK)(Z:Bo C CS CV T H Q E):aE (Q_ K C CS CV E) MZ (Dn Q) (start MW T) H:=by
 obtain⟨H0,R,sv,dx,se,ch,mk,hl,po,ml,x0,x,ai,tk,tx,hs,d,t,vs,ls,w,ms,mz,rfl,A,q⟩:=Z;refine Ar<|eK<|af rfl<|ay ⟨R,_,rfl,uE A.A.hR,hl,rfl,⟨_,aB.of A.A.hh⟩,lR (λi σ H2=>aD H H2/\(∃u,σ=[some<|.ref R,u])/\∀j h,j<i->hs[j]?=some h->h.g.kn=tk.length/\h.g.fl=none/\h.g.de=none) ⟨aD.refl _,⟨none,rfl⟩,λj h P=>absurd P<|zbF _⟩ (λi σ H2 _ ⟨s,_⟩=>aB.of (s _ _ A.A.hh)) ?_ ?_⟩
 ·rintro i y σ H2 N ⟨k,⟨u,rfl⟩,f⟩;rw[zam] at N;obtain⟨g,G,rfl⟩:=zbH.mp N;have D:∀{m:Hp},aD H2 m-> ¬(g.g.kn=tk.length/\g.g.fl=none/\g.g.de=none)->aE (Q_ K C CS CV E) [.ret<|.c<|.bl false] (Dn Q) [some<|.ref R,some<|.ref g.p] m:=λl n=>cq (ay<|q false _ (k.trans l) ⟨nofun,λz=>absurd (z i g G) n⟩)
  have b:=(A.same k).A.ok i g G;refine bQ<|EY<|bF<|iS C (Fi C CS) rfl<|af rfl ⟨g.p,g.dp,_,rfl,b.ha.ob,iA,_,g.p,g.dp,g.q,g.dq,g.e,i,_,_,_,_,_,_,rfl,b.ha,Ra (λX=>iF (EZ<|bF<|iS C (Fj C CS) rfl<|af rfl ⟨g.p,g.dp,_,rfl,b.ha.ob,iA,_,g.p,g.dp,g.q,g.dq,g.e,i,_,_,_,_,_,_,rfl,b.ha,Ra (λS=>iF (dJ ?_) rfl)<|λz m l=>iT (D l λn=>z n.2.2) rfl⟩) rfl)<|λz m l=>iT (iT (D l λn=>z n.2.1) rfl) rfl⟩;have I:=A.same k;refine bQ<|bF<|iS C (wU C CS) rfl<|af rfl ⟨g.p,g.dp,_,rfl,b.ha.ob,iA,_,g.p,g.dp,g.q,g.dq,g.e,i,_,_,_,_,_,_,rfl,b.ha,iS CV (bJ.lI CV) rfl<|eK<|af rfl<|ay ⟨R,_,rfl,F9 I.A.hR,sv,dx,_,rfl,I.A.sv.ob,bJ.iC,_,sv,dx,se,ch,mk,x,ai,tk,rfl,I.A.sv,pT ⟨_,rfl,?_⟩⟩⟩;by_cases z:g.g.kn=tk.length
  ·rw[zqT (by lia)]
   refine iF (dJ ⟨k,⟨_,rfl⟩,λj h P e=>?_⟩) rfl;by_cases y:j=i
   ·subst y;rw[G] at e;cases e;exact⟨z,X,S⟩
   ·exact f j h (by lia) e
  ·rw[zqF (by lia)]
   exact iT (D (aD.refl _) λn=>z n.1) rfl
 ·rintro σ H2 ⟨k,⟨u,rfl⟩,f⟩;refine cq<|ay<|q true _ k ⟨λ_ i h e=>f i h ?_ e,λ_=>rfl⟩;rw[zae];exact(zad.mp e).1
end
theorem Bp(a b:List Lt):cL (a++b)=cL a+cL b:=by unfold cL;rw[zaq,zbb]
theorem Rb(b:List Lt):b.length<=cL b:=by
 induction b with
 |nil=>exact zqR _
 |cons a l h=>
  show l.length+1<=wt a+cL l;have:1<=wt a:=by cases a<;>simp[wt]
  lia
theorem agV(i:Nat)(g:Gs):cL (jj i g)<=18:=by
 unfold jj;cases g.fl<;>simp[cL,wt]
section
variable {K:Frag}{C CS CV:Addr}{H H' H0:Hp}{Q:VK}{Γ:aQ}{σ:St}{E:XK}{R sv dx se ch mk hl po ml:Addr}{x0 x x':Str}{ai bU:List Nat}{tk bB:List (Nat×List Pt)}{tx:List (List Nat)}{hs aV:List Hd}{d t:Nat}{M:MS}{sn i:Nat}{h:Hd}{vs:List V}{ls cU:List Lt}{w ms mz:List Nat}
theorem agW(A:Rm C CS CV H0 H R sv dx se ch mk hl po ml x0 x ai tk tx hs d t vs ls w ms mz)(D:Dx x0 x ai tk hs ms)(L:Lv ai tk hs ls)(h:xI ai tk hs x ls 0 bU bB aV x' cU):Dx x0 x' bU bB aV ms/\Lv bU bB aV cU/\cL cU+1+nu tk hs<=cL ls+nu bB aV:=by
 have k:=A.A.lk;have q:=A.A.fM;generalize e:(0:Int)=b at h;cases h with
 |go m g ml l f p=>
  obtain⟨a,_⟩:=Q2 A.A.ln.2 A.A.ls (by lia) p
  rw[Bp];exact⟨Q3 A D p,agK A L m p,by lia⟩
 |off=>exact absurd e (by lia)
theorem agX(A:Rm C CS CV H0 H R sv dx se ch mk hl po ml x0 x ai tk tx hs d t vs ls w ms mz)(D:Dx x0 x ai tk hs ms)(I:cL ls<=nu tk hs)(f:∀y∈ls,wt y=1)(h:xI ai tk hs x ls k bU bB aV x' cU):Dx x0 x' bU bB aV ms/\cL cU<=nu bB aV/\∀y∈cU,wt y=1:=by
 have G:=A.A.lk;have N:=A.A.fM;cases h with
 |go u g ml l q p=>
  obtain⟨a,b⟩:=Q2 A.A.ln.2 A.A.ls (by lia) p
  have:=f _ ml;refine⟨Q3 A D p,by rw[Bp];lia,λy e=>?_⟩
  rcases zab.mp e with e|e
  ·exact f y (g y e)
  ·exact b y e
 |off m l=>exact⟨D,by lia,λy e=>f y<|m y e⟩
inductive Gm(C CS CV:Addr)(b:List V)(H:Hp)(Q:VK)(E:XK):Prop|i(H0:Hp)(R sv dx se ch mk hl po ml:Addr)(x0 x:Str)(ai:List Nat)(tk:List (Nat×List Pt))(tx:List (List Nat))(hs:List Hd)(d t:Nat)(vs:List V)(ls:List Lt)(w ms mz:List Nat)(c:Int)(_:b=[.ref R,.int c])(_:Rm C CS CV H0 H R sv dx se ch mk hl po ml x0 x ai tk tx hs d t vs ls w ms mz)(_:Dx x0 x ai tk hs ms)(_:t<=16)(_:cL ls<=nu tk hs)(_:∀g x' bU bB f aV t' b cU e H',Rm C CS CV H0 H' R sv dx se ch mk hl g ml x0 x' bU bB f aV d t' b cU e ms mz->Dx x0 x' bU bB aV ms->Rest bB aV->Q .av H')
abbrev GRd(K:Frag)(C CS CV:Addr)(E:XK):aQ:=aO K [("_law_handed",xJ C CS CV),("_law_mixed",zv)] [] [] [("nudge",C,AF C CS)] (E:=E)
theorem agZ(bT:List V)(H:Hp)(Q:VK)(E:XK)(hh:Gm C CS CV bT H Q E):aE (GRd K C CS CV E) M3 (Dn Q) (start M1 bT) H:=by
 obtain⟨H0,R,sv,dx,se,ch,mk,hl,po,ml,x0,x,ai,tk,tx,hs,d,t,vs,ls,w,ms,mz,c,rfl,A,D,ht,hw,q⟩:=hh;have b':=Bm A;have ln:=A.A.ln;refine Ar<|eK<|af rfl<|ay ⟨R,_,rfl,uE A.A.hR,hl,rfl,⟨_,aB.of A.A.hh⟩,lR (K:=K) (a:=hl) (λi σ H2=>qX4 λ(Bq:Addr) (dr:List V) (G:List Lt) (u:Option V)=>qA4 (σ=[some<|.ref R,some<|.int c,u,none]) (Rm C CS CV H0 H2 R sv dx se ch mk hl Bq ml x0 x ai tk tx hs d t dr G w ms mz) (∀(j:Nat) (h:Hd),j<i->hs[j]?=some h->∀y∈jj j h.g,y∈G) (cL G<=nu tk hs+18*i)) ⟨po,vs,ls,none,rfl,A,λj h hj=>absurd hj<|zbF _,hw⟩ (λi σ H2 _ ⟨_,_,_,_,_,m,_,_⟩=>aB.of m.A.hh) ?_ ?_⟩
 ·rintro i y σ H2 hy ⟨Bq,dr,G,u,rfl,m,l,Rc⟩;rw[zam] at hy;obtain⟨g,hg,rfl⟩:=zbH.mp hy;have il:i<hs.length:=(zad.mp hg).1;have b:=m.A.ok i g hg;refine rP<|bL<|eK<|af rfl<|ay ⟨R,_,rfl,mP m.A.hR,iS C (AF C CS) rfl<|af rfl ⟨g.p,g.dp,_,rfl,b.ha.ob,iA,?_⟩⟩;refine agc m hg λL N H' s' hL p2 l2 n2=>?_;have l1:=Paired.length m.pl;have l3:=Rb G;have l4:=agV i g.g;refine Rm.add rfl (m.same s') hL p2 l2 (by rw[zqA];lia) λbY H3 _ X=>⟨bY,_,_,_,rfl,X,λj h hj Gn y hy=>?_,by rw[Bp];lia⟩
  by_cases z:j=i
  ·subst z;rw[hg] at Gn;cases Gn;exact zau _ hy
  ·exact zaG _ (l j h (by lia) Gn y hy)
 rintro σ H2 ⟨Bq,dr,G,u,rfl,m,l,Rc⟩;rw[zae] at l Rc;have L2:Lv ai tk hs G:=⟨λi h T k h1 h2=>.inr (.inr ⟨h.g.kn,h1,l i h (zad.mp T).1 T _ (.head _)⟩),λi h T f s=>by
  have:=l i h (zad.mp T).1 T;unfold jj at this;cases hf:h.g.fl with
  |none=>exact absurd hf f
  |some p=>rw[hf] at this;exact⟨_,_,this _ (.tail _ (.head _))⟩⟩
 refine E2<|ay ⟨200,rfl,by decide,by decide,BP (lo:=0) (n:=(200:Int).toNat) (λj σ H3=>qX11 λ(Br:Addr) (x3:Str) (Z:List Nat) (P:List (Nat×List Pt)) (Bt:List (List Nat)) (S:List Hd) (N:List V) (sq:List Lt) (w3:List Nat) (u2 u3:Option V)=>qA5 (σ=[some<|.ref R,some<|.int c,u2,u3]) (Rm C CS CV H0 H3 R sv dx se ch mk hl Br ml x0 x3 Z P Bt S d (t+j) N sq w3 ms mz) (Dx x0 x3 Z P S ms) (Lv Z P S sq) (cL sq+j<=72+nu P S)) ⟨Bq,x,ai,tk,tx,hs,dr,G,w,u,none,rfl,m,D,L2,by lia⟩ ?_ ?_⟩
 ·rintro j σ H3 hj ⟨Br,x3,Z,P,Bt,S,N,sq,w3,u2,u3,rfl,X,D3,L3,Af⟩;have a':=Bm X;refine bQ<|bF<|eK<|af rfl<|ay ⟨R,_,rfl,mP X.A.hR,eY<|aN ⟨zqZ _,λL fL=>?_⟩⟩;have s1:=sameNew (o:=.lst []) fL;have h1:upd H3 L (.lst []) L=some (.lst []):=aw;have I:=X.same s1;refine Q9 I.hp I.pl I.jf h1 ⟨_,rfl,gK (λz=>?_)<|λz=>?_⟩
  ·have z':N=[]:=of_decide_eq_true z;have l4:=Paired.length I.pl;rw[z'] at l4;have e:=List.eq_nil_of_length_eq_zero l4.symm;subst e;exact q _ _ _ _ _ _ _ _ _ _ _ I D3 λi h T=>Lv.rest I L3 T
  ·have z':N≠ []:=λy=>z (zqT y);have jl:j<200:=hj;refine dJ<|d5<|bP (xJ C CS CV) rfl<|aC<|af rfl<|aC<|bP zv rfl<|aC<|af rfl<|aC<|af rfl<|aN ⟨_,_,rfl,aC<|ay<|aN ⟨H0,R,sv,dx,se,ch,mk,hl,Br,ml,x0,x3,Z,P,Bt,S,d,t+j,N,sq,w3,ms,mz,_,_,rfl,I,by lia,z',.inl rfl,λbY x' bU bB dQ aV bT cU w' H' A' hd=>?_⟩⟩
   obtain⟨D',L',w'⟩:=agW I D3 L3 hd;exact⟨bY,x',bU,bB,dQ,aV,bT,cU,_,_,_,rfl,A',D',L',by lia⟩
 ·rintro σ H3 ⟨Br,x3,Z,P,Bt,S,N,sq,w3,u2,u3,rfl,X,D3,L3,Af⟩;have a':=Bm X;lia
end
theorem ah(z:Nat)(p:Pt)(ps:List Pt):dP z (p::ps)=(ba p).count (.P z)+dP z ps/\dC z (p::ps)=(ba p).count (.C z)+dC z ps:=by
 unfold dP dC;rw[c8,List.count_append,List.count_append];exact⟨rfl,rfl⟩
theorem mR(z:Nat)(n:Int)(ps:List Pt):dP z (.keep n::ps)=dP z ps/\dC z (.keep n::ps)=dC z ps:=by
 obtain⟨a,b⟩:=ah z (.keep n) ps;rw[a,b];show List.count _ (List.replicate n.toNat At.K)+_=_/\List.count _ (List.replicate n.toNat At.K)+_=_;rw[List.count_replicate,List.count_replicate];simp
structure uI (k:Nat) (x:Str) (ps:List Pt) (r:List Nat):Prop where
 raw:∀q∈ps,gO q
 run:Run x.cps.toList ps r
 az:az ps<=2
 cl:Cl k ps
 one:dP (48+k) ps=1
theorem Rf(h:k<4):good (⟨#[48+k]⟩:Str):=by
 match k,h with
 | 0,_| 1,_| 2,_| 3,_=>exact⟨by decide,by decide+kernel⟩
theorem Rg{k:Nat}(h:k<4):gG (Str.ofString "0123").cps.toList (k:Int)=some (48+k):=by
 match k,h with
 | 0,_| 1,_| 2,_| 3,_=>decide+kernel
theorem ag1{z:Nat}(h:(Str.ofString "0123").cps.contains z=false):∀j,j<4->z≠48+j:=λj b e=>by
 subst e
 match j,b with
 | 0,_| 1,_| 2,_| 3,_=>revert h;decide+kernel
theorem ag2{z:Nat}{x:Str}(g:k<4)(w:good x)(e:x.cps.toList[p]?=some z)(l:∀j,j<4->z≠48+j):∃r,uI k x [.keep (p:Nat),.put ⟨#[48+k]⟩,.cut ⟨#[z]⟩,.keep<|(x.length:Int) - (p:Nat) - 1] r:=by
 obtain⟨m,A⟩:=zad.mp e;have E:=B.len_list x;have D:x.cps.toList=x.cps.toList.take p++((⟨#[z]⟩:Str).cps.toList++(x.cps.toList.drop (p+1)++[])):=by
  rw[zac];show x.cps.toList=x.cps.toList.take p++z::x.cps.toList.drop (p+1);rw[<-A,<-zaY m,zbc]
 have b:=Run.keep (a:=x.cps.toList.take p) (n:=(p:Nat)) (by rw[zaA];lia) (Run.put (s:=⟨#[48+k]⟩)<|Run.cut (s:=⟨#[z]⟩)<|Run.keep (a:=x.cps.toList.drop (p+1)) (n:=(x.length:Int) - (p:Nat) - 1) (by rw[zat];lia) .nil)
 rw[<-D] at b;have d:∀j,j<4->dC (48+j) [.keep (p:Nat),.put ⟨#[48+k]⟩,.cut ⟨#[z]⟩,.keep<|(x.length:Int) - (p:Nat) - 1]=0/\dP (48+j) [.keep (p:Nat),.put ⟨#[48+k]⟩,.cut ⟨#[z]⟩,.keep<|(x.length:Int) - (p:Nat) - 1]=if k=j then 1 else 0:=λj h=>by
  rw[(mR _ _ _).1,(mR _ _ _).2,(ah _ _ _).1,(ah _ _ _).2,(ah _ _ _).1,(ah _ _ _).2,(mR _ _ _).1,(mR _ _ _).2];have:=l j h
  simp[ba,zaU,dP,dC,ar,this]
 have u:good (⟨#[z]⟩:Str):=⟨by show 1<=_;decide,λc t=>by rw[zah.mp t];exact w.2 z (zan e)⟩
 refine⟨_,λq f=>?_,b,(by show 0+(1+(1+(0+0)))<=2;decide),λj h=>⟨(d j h).1,λn=>by rw[(d j h).2,if_neg λy=>n y.symm]⟩,by rw[(d k g).2,if_pos rfl]⟩
 ·simp at f
  rcases f with rfl|rfl|rfl|rfl
  ·show(0:Int)<=_;lia
  ·exact⟨Rf g,by show 1<=_;decide⟩
  ·exact⟨u,by show 1<=_;decide⟩
  ·show(0:Int)<=_;lia
theorem ag3{x:Str}(g:k<4)(u:p<=x.length):∃r,uI k x [.keep (p:Nat),.put ⟨#[48+k]⟩,.keep (if (x.length:Int) - (p:Nat) <1 then (x.length:Int) - (p:Nat) else 1),.keep (if (x.length:Int) - (p:Nat) - 1>0 then (x.length:Int) - (p:Nat) - 1 else 0)] r:=by
 have t:=B.len_list x;generalize A:(if (x.length:Int) - (p:Nat) <1 then (x.length:Int) - (p:Nat) else 1)=m
 generalize w:(if (x.length:Int) - (p:Nat) - 1>0 then (x.length:Int) - (p:Nat) - 1 else 0)=n
 have e:0<=m/\0<=n/\m+n=(x.length:Int) - (p:Nat):=by lia
 have l:x.cps.toList=x.cps.toList.take p++((x.cps.toList.drop p).take m.toNat++((x.cps.toList.drop p).drop m.toNat++[])):=by
  rw[zac,zbc,zbc]
 have b:=Run.keep (a:=x.cps.toList.take p) (n:=(p:Nat)) (by rw[zaA];lia) (Run.put (s:=⟨#[48+k]⟩)<|Run.keep (a:=(x.cps.toList.drop p).take m.toNat) (n:=m) (by rw[zaA,zat];lia)<|Run.keep (a:=(x.cps.toList.drop p).drop m.toNat) (n:=n) (by rw[zat,zat];lia) .nil)
 rw[<-l] at b;have d:∀j,j<4->dC (48+j) [.keep (p:Nat),.put ⟨#[48+k]⟩,.keep m,.keep n]=0/\dP (48+j) [.keep (p:Nat),.put ⟨#[48+k]⟩,.keep m,.keep n]=if k=j then 1 else 0:=λj h=>by
  rw[(mR _ _ _).1,(mR _ _ _).2,(ah _ _ _).1,(ah _ _ _).2,(mR _ _ _).1,(mR _ _ _).2,(mR _ _ _).1,(mR _ _ _).2]
  simp[ba,zaU,dP,dC,ar]
 refine⟨_,λq f=>?_,b,(by show 0+(1+(0+(0+0)))<=2;decide),λj h=>⟨(d j h).1,λn=>by rw[(d j h).2,if_neg λy=>n y.symm]⟩,by rw[(d k g).2,if_pos rfl]⟩
 ·simp at f
  rcases f with rfl|rfl|rfl|rfl
  ·show(0:Int)<=_;lia
  ·exact⟨Rf g,by show 1<=_;decide⟩
  ·exact e.1
  ·exact e.2.1
theorem uI.chg{x:Str}(P:uI k x ps r):bG (fJ ps) x.cps.toList r/\L2.B.az (fJ ps)<=320/\Cl k (fJ ps)/\dP (48+k) (fJ ps)=1:=by
 have t:=P.az;obtain⟨a,b,c⟩:=pG ps P.raw (by lia)
 refine⟨⟨b,a,tU P.run⟩,by rw[tV ps P.raw];lia,λj h=>?_,by rw[(AX P.raw _).1];exact P.one⟩
 rw[(AX P.raw _).1,(AX P.raw _).2];exact P.cl j h
section
variable {K:Frag}{C CS CV:Addr}{H H' H0:Hp}{Q:VK}{Γ:aQ}{σ:St}{E:XK}{R sv dx se ch mk hl po ml:Addr}{x0 x x':Str}{ai bU:List Nat}{tk bB:List (Nat×List Pt)}{tx:List (List Nat)}{hs aV:List Hd}{d t:Nat}{M:MS}{sn i:Nat}{h:Hd}{vs:List V}{ls cU:List Lt}{w ms mz mz':List Nat}
theorem Rm.many(A:Rm C CS CV H0 H R sv dx se ch mk hl po ml x0 x ai tk tx hs d t vs ls w ms mz):Rm C CS CV H0 (upd H ml<|.lst<|nV mz') R sv dx se ch mk hl po ml x0 x ai tk tx hs d t vs ls w ms mz':=by
 have b:aR ml H (upd H ml<|.lst<|nV mz'):=aR.upd;have g:∀{z:Addr}{o:HO},H z=some o->(∀xs,o≠ .lst xs)->z≠ml:=λe h z=>by rw[z,A.hm] at e;cases e;exact h _ rfl
 have q:∀{z:Addr},z∉ [se,ch,mk,ml]->z≠ml:=λh y=>h (by rw[y];simp)
 have p:∀{z:Addr},z∈ [se,ch,mk]->z≠ml:=λh y=>A.nm (y ▸ h);have k:Kp (λz=>z∈ [se,ch,mk,ml]) H (upd H ml<|.lst<|nV mz'):=⟨λa xs n e=>b _ _ e<|q n,λy S e=>b _ _ e (g e nofun)⟩
 obtain⟨⟨_,h1⟩,⟨_,Z⟩,⟨_,X⟩,_,I⟩:=A.A.off
 refine⟨⟨b _ _ A.A.hR (g A.A.hR nofun),(F_ A.A.sv k (λo e=>b _ _ e (g I nofun)) (λo e=>b _ _ e<|p<|.head _) (λo e=>b _ _ e<|p<|.tail _<|.head _) (λo e=>b _ _ e<|p<|.tail _<|.tail _<|.head _)),A.A.T,A.A.t0,A.A.tl,A.A.gt,k.l _ _ A.off.1 A.A.hh,λi h e=>?_,A.A.ln,A.A.ls,A.A.lk,A.A.fM,A.A.qg⟩,k.l _ _ A.off.2 A.hp,Paired.dR A.pl λ_ _ z=>z.keep k.t k.l,A.lo,A.nv,Ff A.s0 (A.f0 ml (by simp)) b,A.f0,A.nd,A.ne,A.off,A.wl,A.wp,A.ws,A.lx,A.m7,aw,A.nm,A.mL,A.mp,A.mS,A.sS⟩
 have f:=A.A.ok i h e;obtain⟨N,P,D,_⟩:=f.ha.st.ob;obtain⟨u,G,_⟩:=f.ha.st.he;exact⟨f.ha.keep k (λo m=>b _ _ m (g f.ha.ob nofun)) (λo m=>b _ _ m (g D nofun))<|λo m=>b _ _ m (g G nofun),f.iv,f.so,f.ea,f.nb,f.e1,f.tf,f.td⟩
inductive Gp(C CS CV:Addr)(T:List V)(H:Hp)(Q:VK)(E:XK):Prop|i(H0:Hp)(R sv dx se ch mk hl po ml:Addr)(x0 x:Str)(ai:List Nat)(tk:List (Nat×List Pt))(tx:List (List Nat))(hs:List Hd)(d t:Nat)(vs:List V)(ls:List Lt)(w ms:List Nat)(c:Int)(_:T=[.ref R,.int c])(_:Rm C CS CV H0 H R sv dx se ch mk hl po ml x0 x ai tk tx hs d t vs ls w ms ms)(_:Dx x0 x ai tk hs ms)(_:d<16)(_:cL ls<=nu tk hs)(_:(∀y∈ls,wt y=1))(_:∀f aV T cU e b H',Rm C CS CV H0 H' R sv dx se ch mk hl f ml x0 x ai tk tx aV (d+1) t T cU e b b->Dx x0 x ai tk aV b->cL cU<=nu tk aV->(∀y∈cU,wt y=1)->Q .av H')
abbrev uJ(K:Frag)(C CS CV:Addr)(E:XK):aQ:=aO K [("_law_neat",DU)] [] [] [("text",C,wR C CS),("do",C,AK C CS)] (E:=E)
theorem ag4{c:Int}{k p:Nat}{g:Hd}{sg:V}(A:Rm C CS CV H0 H R sv dx se ch mk hl po ml x0 x ai tk tx hs d t vs ls w ms ms)(D:Dx x0 x ai tk hs ms)(hd:d<16)(hw:cL ls<=nu tk hs)(h1:∀y∈ls,wt y=1)(m:hs[k]?=some g)(hL:H L=some (.lst ys))(nL:L≠ml)(pv:aH H ys ps)(lp:ps.length<=3)
  (P:uI k g.g.x (ps++[.keep (if (g.g.x.length:Int) - (p:Nat) - 1>0 then (g.g.x.length:Int) - (p:Nat) - 1 else 0)]) r)
  (q:∀bY aV bT cU w' X H',Rm C CS CV H0 H' R sv dx se ch mk hl bY ml x0 x ai tk tx aV (d+1) t bT cU w' X X->Dx x0 x ai tk aV X->cL cU<=nu tk aV->(∀y∈cU,wt y=1)->Q .av H'):
  aE (uJ K C CS CV E) (eO.drop 7) (Dn Q) [some<|.ref R,some<|.int c,some<|.int (k:Nat),some<|.ref g.p,some<|.str g.g.x,some<|.int (p:Nat),some sg,some<|.ref L] H:=by
 have kl:k<hs.length:=(zad.mp m).1;have km:k<ms.length:=by rw[A.mL];exact kl
 have hU:(nV ms)[k]?=some (V.int ((ms.getD k 0:Nat):Int)):=by
  rw[zam,zaF,zaj km];rfl
 refine Pe<|bL<|bx<|eK<|af rfl<|ay ⟨R,_,rfl,Bg A.A.hR,af rfl<|mI A.hm (gg hU)<|ay<|iX<|eK<|af rfl<|ay ⟨R,_,rfl,Bg A.A.hR,af rfl ⟨ml,_,_,k,rfl,rfl,A.hm,bJ.Qu (by rw[zae];exact km),?_⟩⟩⟩
 have en:(nV ms).set k (.int<|((ms.getD k 0:Nat):Int)+1)=nV (ms.set k<|ms.getD k 0+1):=by
  show _=List.map _ (ms.set k _);rw[zbq];rfl
 rw[en];have G:=A.many (mz':=ms.set k (ms.getD k 0+1));have Rh:upd H ml (.lst<|nV<|ms.set k<|ms.getD k 0+1) L=some (.lst ys):=by rw[ax nL];exact hL
 have S:aH (upd H ml<|.lst<|nV<|ms.set k<|ms.getD k 0+1) ys ps:=pv.mono λy us e=>by rw[ax λz=>by rw[z,A.hm] at e;cases e];exact e
 generalize upd H ml (.lst<|nV<|ms.set k<|ms.getD k 0+1)=H1 at G Rh S⊢;have O1:=G.A.ok k g m;have xl:=O1.iv.len;have ly:=Paired.length S;refine rP<|bL<|eK<|af rfl<|ay ⟨R,_,rfl,mP G.A.hR,jH C (AK C CS) rfl<|af rfl ⟨g.p,g.dp,_,rfl,O1.ha.ob,iA,?_⟩⟩;refine bP DU rfl<|aC<|bL<|af rfl<|eY<|aC<|jh<|aC<|ay<|aC<|v8<|aC<|ay<|aC<|bL<|bL<|iz<|af rfl ⟨dz xl.2.1,?_⟩;refine af rfl<|nZ<|ay<|nZ<|aN<|aN (Γ:=uJ K C CS CV E) ⟨fQ,λT fT=>?_⟩;generalize hn:(if (g.g.x.length:Int) - (p:Nat) - 1>0 then (g.g.x.length:Int) - (p:Nat) - 1 else 0)=n at P⊢
 have s2:=sameNew (o:=.tup [V.str "keep",V.int n]) fT;have hT:upd H1 T (.tup [V.str "keep",V.int n]) T=some (.tup [V.str "keep",V.int n]):=aw;generalize upd H1 T (.tup [V.str "keep",V.int n])=H2 at s2 hT⊢;refine aN ⟨jN,λL2 Gq=>?_⟩;have I:=sameNew (o:=.lst [V.ref T]) Gq;have Ri:upd H2 L2 (.lst [V.ref T]) L2=some (.lst [V.ref T]):=aw;generalize upd H2 L2 (.lst [V.ref T])=H3 at I Ri⊢;have gw:=s2.trans I;refine Fb (gw _ _ Rh) Ri (by show _+1<=_;lia) λu f3=>?_
 have s4:=sameNew (o:=.lst (ys++[V.ref T])) f3;have uD:=gw.trans s4;have h4:upd H3 u (.lst<|ys++[V.ref T]) u=some (.lst<|ys++[V.ref T]):=aw;have Rj:aH (upd H3 u<|.lst<|ys++[V.ref T]) (ys++[V.ref T]) (ps++[.keep n]):=B.Paired.app (S.mono<|bV uD) (.cons ⟨T,rfl,s4 _ _<|I _ _ hT⟩ .nil);have tt:=P.az;refine aN ⟨u,_,_,rfl,h4,Rj,by rw[zqA];show _+1<=_;lia,by lia,λb H5 zs s5 fb hb N=>?_⟩
 obtain⟨cg,tc,cl,c1⟩:=P.chg;have A5:=G.same (uD.trans s5);refine agr A5 hd m hb N cg tc λL' dr Z w' jA H6 A6 Gr p6 l6 n6 eg ee th=>?_;have l1:=Paired.length A.pl;have l2:=Rb ls;have l3:=Bm A;have dw:cL (sh k g.g<|fJ<|ps++[.keep n])+g.g.se<=Z.g.se/\∀y∈sh k g.g (fJ<|ps++[.keep n]),wt y=1:=by
  rw[eg];unfold sh cy;cases hf:g.g.fl with
  |none=>exact⟨by show 1+0+_<=_+1;lia,λy l=>by rw[zah.mp l];rfl⟩
  |some f=>cases g.g.de<;>exact⟨by show 0+_<=g.g.se;lia,λy l=>by cases l⟩
 have sm:=Qo (f:=λh:Hd=>h.g.se) (h':=Z) m;refine Rm.add rfl A6 Gr p6 l6 (by rw[zqA];lia) λbY H7 _ A7=>q _ _ _ _ _ _ _ A7 (agJ A D m cl c1 eg th) ?_ λy l=>?_
 ·rw[Bp];show _<=4*tk.length+_;lia
 ·rcases zab.mp l with l|l
  ·exact h1 y l
  ·exact dw.2 y l
end
section
variable {K:Frag}{C CS CV:Addr}{H:Hp}{Q:VK}{E:XK}
theorem ag6(bT:List V)(H:Hp)(Q:VK)(E:XK)(hh:Gp C CS CV bT H Q E):aE (uJ K C CS CV E) eO (Dn Q) (start kO bT) H:=by
 obtain⟨H0,R,sv,dx,se,ch,mk,hl,po,ml,x0,x,ai,tk,tx,m,d,t,vs,ls,w,ms,c,rfl,A,D,hd,hw,h1,q⟩:=hh;have ln:=A.A.ln;obtain⟨k,ek⟩:=zbl (zba c (show((m.length:Nat):Int)≠0 by lia))
 have lk:=zaT c (show(0:Int) < ((m.length:Nat):Int) by lia)
 have kl:k<m.length:=by lia
 have k4:k<4:=by lia
 have hk:m[k]?=some m[k]:=zaj kl;generalize m[k]=g at hk;have b:=A.A.ok k g hk;have l:=b.iv.len;refine bW<|bL<|af rfl<|iz<|eK<|af rfl<|ay ⟨R,_,rfl,uE A.A.hR,.inl ⟨_,aB.of A.A.hh,?_⟩⟩;rw[zae];refine rM (by lia) ?_
 rw[ek];refine bW<|bx<|eK<|af rfl<|ay ⟨R,_,rfl,uE A.A.hR,af rfl<|mI A.A.hh (gg (v:=V.ref g.p) (by rw[zam,hk];rfl)) ?_⟩
 refine bW<|iS C (wR C CS) rfl<|af rfl ⟨g.p,g.dp,_,rfl,b.ha.ob,iA,_,g.p,g.dp,g.q,g.dq,g.e,k,g.g.x,g.g.kn,g.g.se,g.g.fl,g.g.de,g.ea,rfl,b.ha,?_⟩;obtain⟨p,ep⟩:=zbl (zba (c / 4) (show((g.g.x.length:Nat):Int)+1≠0 by lia))
 have lp:=zaT (c / 4) (show(0:Int) < ((g.g.x.length:Nat):Int)+1 by lia)
 have pl:p<=g.g.x.length:=by lia
 refine bW<|bL<|bL<|af rfl<|ay<|wJ ⟨by decide,by decide⟩<|bL<|iz<|af rfl ⟨dz l.2.1,ay<|iX<|rM (by lia) ?_⟩
 rw[ep];refine bW<|bx<|ay<|af rfl<|.inr<|.inr<|.inl ⟨_,_,_,rfl,rfl,by decide,Rg k4,?_⟩
 refine bW<|eY<|aC<|jh<|aC<|ay<|aC<|af rfl<|aN ⟨fQ,λh f1=>?_⟩;have s1:=sameNew (o:=.tup [V.str "keep",V.int (p:Nat)]) f1;have g1:upd H h (.tup [V.str "keep",V.int (p:Nat)]) h=some (.tup [V.str "keep",V.int (p:Nat)]):=aw;generalize upd H h (.tup [V.str "keep",V.int (p:Nat)])=H1 at s1 g1⊢;refine aC<|jh<|aC<|ay<|aC<|af rfl<|aN ⟨fQ,λT f2=>?_⟩;have s2:=sameNew (o:=.tup [V.str "put",V.str ⟨#[48+k]⟩]) f2;have g2:upd H1 T (.tup [V.str "put",V.str ⟨#[48+k]⟩]) T=some (.tup [V.str "put",V.str ⟨#[48+k]⟩]):=aw;generalize upd H1 T (.tup [V.str "put",V.str ⟨#[48+k]⟩])=H2 at s2 g2⊢;refine aN ⟨fQ,λL fL=>?_⟩;have s3:=sameNew (o:=.lst [V.ref h,V.ref T]) fL;have I:upd H2 L (.lst [V.ref h,V.ref T]) L=some (.lst [V.ref h,V.ref T]):=aw;have mG:=s1.trans s2;have fH:H L=none:=mG.free fL;have nL:L≠ml:=λz=>by rw[z,A.hm] at fH;cases fH
 have pv:aH (upd H2 L<|.lst [V.ref h,V.ref T]) [V.ref h,V.ref T] [.keep (p:Nat),.put ⟨#[48+k]⟩]:=.cons ⟨h,rfl,s3 _ _<|s2 _ _ g1⟩ (.cons ⟨T,rfl,s3 _ _ g2⟩ .nil);have gw:=mG.trans s3;generalize upd H2 L (.lst [V.ref h,V.ref T])=H3 at s3 I pv gw⊢;have X:∀{u:Hp}{ys:List V}{ps:List Pt}{r:List Nat},aR L H3 u->u L=some (.lst ys)->aH u ys ps->ps.length<=3->uI k g.g.x (ps++[.keep (if (g.g.x.length:Int) - (p:Nat) - 1>0 then (g.g.x.length:Int) - (p:Nat) - 1 else 0)]) r->aE (uJ K C CS CV E) (eO.drop 7) (Dn Q) [some<|.ref R,some<|.int c,some<|.int (k:Nat),some<|.ref g.p,some<|.str g.g.x,some<|.int (p:Nat),some<|.str ⟨#[48+k]⟩,some<|.ref L] u:=λZ S G l4 P=>ag4 (A.same<|Ff gw fH Z) D hd hw h1 hk S nL G l4 P q
 have f:aE (uJ K C CS CV E) [.drop<|.bE .append (.v 7) [(.tup [(.c<|.str "keep"),(.blt .min [(.c<|.int 1),(.bin .Sub (.blt .len [.v 4])<|.v 5)])])]] {(Dn Q) with nx:=aE (uJ K C CS CV E) (eO.drop 7) (Dn Q)} [some<|.ref R,some<|.int c,some<|.int (k:Nat),some<|.ref g.p,some<|.str g.g.x,some<|.int (p:Nat),some<|.str ⟨#[48+k]⟩,some<|.ref L] H3:=by
  obtain⟨r,P⟩:=ag3 k4 pl;refine Pf rfl I<|v8<|aC<|ay<|aC<|bL<|iz<|af rfl ⟨dz l.2.1,af rfl<|nZ<|aN ?_⟩;exact push (p:=.keep (if (g.g.x.length:Int) - (p:Nat) <1 then (g.g.x.length:Int) - (p:Nat) else 1)) (aD.refl _) I pv (by show 2<=_;decide) rfl rfl λu y4 Z S G=>X Z S G (by show 3<=3;decide) P
 refine bQ<|O9<|bF<|af rfl<|iz<|af rfl ⟨dz l.2.1,N.ltI ⟨_,rfl,gK (λz=>?_)<|λ_=>iF f rfl⟩⟩;have QG:p<g.g.x.length:=by have:=of_decide_eq_true z;lia
 refine O9<|bF<|bL<|bL<|bL<|af rfl<|ay<|wJ ⟨by decide,by decide⟩<|bL<|iz<|af rfl ⟨dz l.2.1,ay<|iX<|wJ ⟨by lia,by lia⟩<|ay<|rM (by decide)<|ay<|Am ⟨_,rfl,gK (λ_=>?_)<|λ_=>iF f rfl⟩⟩
 have lx:=B.len_list g.g.x;obtain⟨z,hz⟩:∃z,g.g.x.cps.toList[p]?=some z:=⟨_,zaj (by lia)⟩
 refine adO<|bF<|bx<|af rfl<|af rfl<|.inr<|.inr<|.inl ⟨_,_,_,rfl,rfl,dz l.2.1,gg hz,ay ⟨_,rfl,_,rfl,?_⟩⟩
 rw[adW];cases hc:(Str.ofString "0123").cps.contains z with
 |true=>exact iF f rfl
 |false=>
  obtain⟨r,P⟩:=ag2 k4 l.2 hz (ag1 hc);have e:(if (g.g.x.length:Int) - (p:Nat) - 1>0 then (g.g.x.length:Int) - (p:Nat) - 1 else 0)=(g.g.x.length:Int) - (p:Nat) - 1:=by split<;>lia
  refine iT<|Pf rfl I<|bx<|af rfl<|af rfl<|.inr<|.inr<|.inl ⟨_,_,_,rfl,rfl,dz l.2.1,gg hz,push (p:=.cut ⟨#[z]⟩) (aD.refl _) I pv (by show 2<=_;decide) rfl rfl λu y4 Z S G=>X Z S G (by show 3<=3;decide) (by rw[e];exact P)⟩
end
end L2.fG
namespace L2.fG
open PySem PySem.Spec L2.B L2.N
section
variable {K:Frag}{C CS CV:Addr}{H H' H0:Hp}{Q:VK}{Γ:aQ}{σ:St}{E:XK}{x:Str}{hs:List Hd}{M:MS}
theorem ag7{a b:Nat}(h:(A++d).Nodup)(f:a∉A++d)(e:b∉A++d)(n:a≠b):((A++[a])++(d++[b])).Nodup:=by
 have p:((A++[a])++(d++[b])).Perm (a::b::(A++d)):=by
  rw[<-zal];refine (List.perm_append_singleton b _).trans ((List.Perm.cons b ?_).trans<|List.Perm.swap a b _);rw[zal];exact List.perm_middle
 refine p.symm.nodup<|zaH.mpr ⟨λz=>?_,zaH.mpr ⟨e,h⟩⟩;rcases zaa.mp z with z|z
 ·exact n z
 ·exact f z
abbrev ea0:bN:=⟨λ_=>none,0⟩
structure uK (C CS:Addr) (Hb H:Hp) (x:Str) (hs:List Hd):Prop where
 ok:∀(i:Nat) h,hs[i]?=some h->d_ (λ_=>False) C CS H h.p h.dp h.q h.dq h.e i x 0 0 none none ea0/\h.g=⟨x,0,0,none,none⟩/\h.ea=ea0
 fr:∀h∈hs,Hb h.p=none/\Hb h.q=none
 nd:(hs.map (·.p)++hs.map (·.q)).Nodup
theorem uK.oc(A:uK C CS k H x hs):∀a∈hs.map (·.p)++hs.map (·.q),∃o,H a=some o:=λa f=>by
 rcases zab.mp f with h|h<;>obtain⟨g,e,rfl⟩:=zai.mp h<;>obtain⟨j,b⟩:=zbd e
 ·exact⟨_,(A.ok j g b).1.ob⟩
 ·obtain⟨_,_,d,_⟩:=(A.ok j g b).1.st.ob;exact⟨_,d⟩
theorem uK.same(A:uK C CS b H x hs)(s:aD H H'):uK C CS b H' x hs:=⟨λi h e=>⟨(A.ok i h e).1.same s,(A.ok i h e).2⟩,A.fr,A.nd⟩
theorem ag8{b:Nat}(S:d_ (λ_=>False) C CS H p A q w e b x 0 0 none none ea0):d_ M C CS H p A q w e b x 0 0 none none ea0:=by
 obtain⟨f,d,u,t,m⟩:=S.st.ob;obtain⟨k,l,g,h⟩:=S.st.he;exact⟨S.ob,⟨f,d,u,t,m⟩,⟨k,l,g,h⟩,S.st.nd⟩
abbrev oo(b h p:Addr)(x:Str):List (Key×V):=[(.inr "server",.ref b),(.inr "hands",.ref h),(.inr "post",.ref p),(.inr "first",.str x)]
inductive Gu(K:Frag)(C CS CV:Addr)(vs:List V)(H:Hp)(Q:VK)(E:XK):Prop|i(e:Addr)(g:List Int)(_:vs=[.ref e])(_:aB K H e (g.map V.int))(_:∀R b k se ch mk l d x f tx hs w H',H' R=some (.dK<|oo b l d x)->H' l=some (.lst<|hs.map λh=>V.ref h.p)->hs.length<=4->aD H H'->Dx x x f [] hs (List.replicate hs.length 0)->
 (∀m H2,aD H' H2->H' m=none->H2 m=some (.lst<|nV<|List.replicate hs.length 0)->Rm C CS CV H (upd H2 R<|.dK<|oR b l d m x) R b k se ch mk l d m x x f [] tx hs 0 0 [] [] w (List.replicate hs.length 0) (List.replicate hs.length 0))->Q (.ref R) H')
abbrev GRm(K:Frag)(C CS CV:Addr)(E:XK):aQ:=aO K [("_law_cell_at",qX K),("_law_text",DS)] [] [] [] [("Hand",C,Fp C CS),("Server",CV,bJ.FP CV)] (E:=E)
theorem ag_:jZ [] (oo b h p x)=oo b h p x:=rfl
theorem aha(h:∀p,H p=none->bu Γ as σ (upd H p<|.dK []) λvs H2=>H2 p=some (.dK [])/\∃k:List (Key×V),vs=qR k/\k.length<=15/\Q (.ref p) (upd H2 p<|.dK<|jZ [] k)):ag Γ (.xt tE as) σ H Q:=h
theorem ahb(vs:List V)(H:Hp)(Q:VK)(E:XK)(hh:Gu K C CS CV vs H Q E):aE (GRm K C CS CV E) MO (Dn Q) (start MN vs) H:=by
 obtain⟨sc,S,rfl,ha,q⟩:=hh;have m0:=zba (cell S (0:Int).toNat) (show(25:Int)≠0 by decide)
 have m1:=zaT (cell S (0:Int).toNat) (show(0:Int) <25 by decide)
 refine bW<|bL<|bP (qX K) rfl<|aC<|af rfl<|aC<|ay<|aN ⟨sc,S,_,rfl,ha,by decide,ay<|rM (by decide) ?_⟩
 refine bW<|bP DS rfl<|aC<|bP (qX K) rfl<|aC<|af rfl<|aC<|ay<|aN ⟨sc,S,_,rfl,ha,by decide,aC<|af rfl<|aN ⟨_,_,rfl,m0,by lia,λx H1 gx lx s1=>?_⟩⟩
 have i':x.length<=24:=by lia
 refine bW<|bL<|ay<|bL<|bP (qX K) rfl<|aC<|af rfl<|aC<|ay<|aN ⟨sc,S,_,rfl,s1.seq ha,by decide,ay<|rM (by decide)<|iX ?_⟩
 have k0:=zba (cell S (2:Int).toNat) (show(4:Int)≠0 by decide)
 have k1:=zaT (cell S (2:Int).toNat) (show(0:Int) <4 by decide)
 obtain⟨I,f'⟩:∃I:Nat,1+cell S (2:Int).toNat % 4=((I:Nat):Int):=zbl (by lia)
 have fB:1<=I:=by lia
 have l':I<=4:=by lia
 rw[f'];refine af9<|af_<|af rfl ⟨_,rfl,by lia,by lia,?_⟩
 rw[zaD];refine EX (by lia) (λi ys H2=>∃hs:List Hd,hs.length=i/\ys=hs.map (λh=>V.ref h.p)/\uK C CS H1 H2 x hs) ⟨[],rfl,rfl,λi h e=>by simp at e,λh m=>(by cases m),.nil⟩ ?_ ?_
 ·rintro i ys H2 hi s2 ⟨hs,li,rfl,A⟩ Q' kk;rw[Int.zero_add];refine Pd C (Fp C CS) rfl<|af rfl<|af rfl λp dp fp e' gM=>⟨p,dp,i,x,rfl,aw,by lia,gx,λqa dq e Z fq fe j' b3 S3=>⟨rfl,?_⟩⟩
  have fr:∀{z:Addr},upd (upd H2 dp<|.own p) p (.ins C dp []) z=none->H2 z=none/\p≠z:=λ{z} t=>by
   have n1:z≠p:=λy=>by rw[y,aw] at t;cases t
   have n2:z≠dp:=λy=>by rw[y,ax gM,aw] at t;cases t
   rw[ax n1,ax n2] at t;exact⟨t,n1.symm⟩
  have s3:aD H2 Z:=λz o N=>b3 _ _ (by rw[ax<|aM N fp,ax<|aM N e'];exact N) (aM N fp)
  have A3:=A.same s3;obtain⟨fq,dN⟩:=fr fq;have Bu:∀{z:Addr},H2 z=none->z∉hs.map (·.p)++hs.map (·.q):=λf m=>by obtain⟨o,ho⟩:=A.oc _ m;rw[f] at ho;cases ho
  refine kk _ _ s3 ⟨hs++[⟨p,dp,qa,dq,e,⟨x,0,0,none,none⟩,ea0⟩],by rw[zqA,li];rfl,by rw[zaq];rfl,λj h D=>?_,λh m=>?_,?_⟩
  ·by_cases y:j<hs.length
   ·rw[zaB y] at D;exact A3.ok j h D
   ·have yl:=(zad.mp D).1;rw[zqA] at yl;have yl:j<hs.length+1:=yl;have ej:j=hs.length:=by lia
    subst ej;rw[zaK<|zqR _,zaJ] at D;cases D;exact⟨by rw[li];exact S3,rfl,rfl⟩
  ·rcases zab.mp m with h'|h'
   ·exact A.fr h h'
   ·rw[zah.mp h'];exact⟨s2.free fp,s2.free fq⟩
  ·rw[zaq,zaq];exact ag7 A.nd (Bu fp) (Bu fq) dN
 rintro ys H2 w s2 ⟨hs,lh,rfl,A⟩ fl;have s3:=sameNew (o:=.lst (hs.map λh=>V.ref h.p)) fl;have Bv:upd H2 w (.lst<|hs.map λh=>V.ref h.p) w=some (.lst<|hs.map λh=>V.ref h.p):=aw;have A3:=A.same s3;have gw:=s2.trans s3;generalize upd H2 w (.lst<|hs.map λh=>V.ref h.p)=Z at s3 Bv A3 gw⊢;refine cq<|aha λR fR=>?_;have s4:=sameNew (o:=.dK []) fR;have Bw:upd Z R (.dK []) R=some (.dK []):=aw;generalize upd Z R (.dK [])=H4 at s4 Bw⊢;refine aC<|ay<|aC<|Pd CV (bJ.FP CV) rfl<|af rfl<|af rfl λb dx uL c' gM=>⟨b,dx,x,I,rfl,aw,gx,fB,by lia,λse ch mk H5 lH jK jn S5 b5=>⟨rfl,?_⟩⟩
 have fr:∀{z:Addr},upd (upd H4 dx<|.own b) b (.ins CV dx []) z=none->H4 z=none:=λ{z} t=>by
  have n1:z≠b:=λy=>by rw[y,aw] at t;cases t
  have n2:z≠dx:=λy=>by rw[y,ax gM,aw] at t;cases t
  rw[ax n1,ax n2] at t;exact t
 have s5:aD H4 H5:=λz o N=>b5 _ _ (by rw[ax<|aM N uL,ax<|aM N c'];exact N) (aM N uL)
 have lH:=fr lH;have jK:=fr jK;have jn:=fr jn;refine aC<|ay<|aC<|af rfl<|aC<|ay<|aC<|eY<|aN ⟨zqZ _,λd P=>?_⟩;have s6:=sameNew (o:=.lst []) P;have Gv:upd H5 d (.lst []) d=some (.lst []):=aw;generalize upd H5 d (.lst [])=H6 at s6 Gv⊢;refine aC<|ay<|aC<|af rfl<|aN ⟨s6 _ _<|s5 _ _ Bw,oo b w d x,rfl,(by show 4<=15;decide),?_⟩
 rw[ag_];have lG:=s5.trans s6;have b7:aR R H6 (upd H6 R<|.dK<|oo b w d x):=aR.upd;have Gw:upd H6 R (.dK<|oo b w d x) R=some (.dK<|oo b w d x):=aw;generalize upd H6 R (.dK<|oo b w d x)=H7 at b7 Gw⊢;have Bx:aD Z H7:=λz o e=>b7 _ _ (lG _ _<|s4 _ _ e) (aM e fR);have By:∀{z:Addr}{o:HO},H5 z=some o->z≠R->H7 z=some o:=λe n=>b7 _ _ (s6 _ _ e) n;have A7:=A3.same Bx;have T:∀{z:Addr},H4 z=none->z≠R:=λf y=>by rw[y,Bw] at f;cases f
 obtain⟨cH,b_,xD⟩:=S5.b_;have g':cH=[]:=by cases xD;rfl
 subst g';have Rk:aD H H7:=(s1.trans gw).trans Bx;have Bu:∀{z:Addr},Z z=none->z∉hs.map (·.p)++hs.map (·.q):=λf m=>by obtain⟨o,ho⟩:=A3.oc _ m;rw[f] at ho;cases ho
 have Gx:d≠R:=λy=>by have:=s5 _ _ Bw;rw[<-y,P] at this;cases this
 have el:x.cps.toList.length=x.length:=(B.len_list x).symm;have z0:∀j,(List.replicate I 0).getD j 0=0:=λj=>by
  rw[zaF,zbS];split<;>rfl
 have fK:aD H Z:=s1.trans gw;have Rl:=Bx _ _ Bv;have gz:∀(n j:Nat),(List.replicate n 0).getD j 0=0:=λn j=>by
  rw[zaF,zbS];split<;>rfl
 have n7:∀{z:Addr}{o:HO}{G:Addr},H7 G=none->H7 z=some o->z≠G:=λf e y=>by rw[<-y,e] at f;cases f
 have Rn:=By S5.dY (T lH);have uC:=By b_ (T jK);have xF:=By S5.hU (T jn);refine q R b dx se ch mk w d x (List.replicate I 0) [x.cps.toList] hs (List.replicate I 0) H7 Gw Rl (by lia) Rk ⟨λe he=>(by cases he),λi h e=>?_,λi h e=>?_,λk _=>rfl⟩ λG H8 s8 X a'=>?_
 ·rw[(A7.ok i h e).2.1];exact⟨(λc z=>by cases z),λc z=>by cases z⟩
 ·rw[(A7.ok i h e).2.1,gz,gz];rfl
 have b9:aR R H8 (upd H8 R<|.dK<|oR b w d G x):=aR.upd;have Ro:upd H8 R (.dK<|oR b w d G x) R=some (.dK<|oR b w d G x):=aw;generalize upd H8 R (.dK<|oR b w d G x)=H9 at b9 Ro⊢;have uM:∀{z:Addr}{o:HO},H7 z=some o->z≠R->H9 z=some o:=λe n=>b9 _ _ (s8 _ _ e) n;have Gy:aD Z H9:=λz o e=>uM (Bx _ _ e) (aM e fR);have A9:=A3.same Gy;have b':G≠R:=λy=>by rw[y,Gw] at X;cases X
 have nm:G∉ [se,ch,mk]:=λm=>by
  simp only[zaa,zaf,or_false] at m
  rcases m with z|z|z
  ·exact n7 X Rn z.symm
  ·exact n7 X uC z.symm
  ·exact n7 X xF z.symm
 have S9:bJ.eh [se,ch,mk,G] CV H9 b dx se ch mk x (List.replicate I 0) []:=⟨uM (By S5.ob<|T uL)<|T uL,uM Rn<|T lH,⟨[],uM uC<|T jK,.nil⟩,uM xF<|T jn,S5.nd,⟨.head _,.tail _<|.head _,.tail _<|.tail _<|.head _⟩⟩;refine⟨⟨Ro,S9,⟨rfl,λi h ps l r e=>by simp at e⟩,rfl,rfl,λl m=>?_,Gy _ _ Bv,λi h e=>?_,by lia,by rw[zbt,lh],zqR _,by decide,by decide⟩,uM (b7 _ _ Gv Gx) Gx,.nil,λl m=>(by cases m),zqZ _,λz o e=>Gy _ _<|fK _ _ e,λa m=>?_,zaH.mpr ⟨Bu<|s4.free uL,A3.nd⟩,λh m=>?_,⟨λm=>?_,λm=>?_⟩,by rw[zbt,lh],λi h e=>?_,?_,by show x.length<=24+0;lia,λe m=>(by cases m),b9 _ _ a' b',nm,by rw[zbt],λi h e=>?_,by rw[zca,Nat.mul_zero],by rw[zca,Nat.mul_zero];rfl⟩
 ·rw[zah.mp m];exact⟨by lia,gx.2⟩
 ·obtain⟨a1,a2,a3⟩:=A9.ok i h e;obtain⟨hp,n',hq,m',he,hg,i_⟩:=h;have a2:hg=_:=a2;have a3:i_=_:=a3;subst a2 a3;refine⟨ag8 a1,⟨⟨rfl,λi h ps l r e=>by simp at e⟩,λl m=>?_,zqR _,λ_=>rfl,⟨_,_,rfl,rfl,rfl⟩,zqZ _,zqZ _,gx.2,λj ps D=>by simp at D⟩,.inl ⟨z0 i,rfl,λj e D=>by simp at D⟩,λn u z=>(by cases z),zqR _,rfl,zqZ _,zqZ _⟩
  rw[zah.mp m];exact⟨by lia,gx.2⟩
 ·simp only[zaa] at m
  have f4:=fK.trans s4;rcases m with rfl|rfl|rfl|rfl|rfl|rfl|m
  ·exact fK.free fR
  ·exact f4.free lH
  ·exact f4.free jK
  ·exact f4.free jn
  ·exact Rk.free X
  ·exact f4.free uL
  ·rcases zab.mp m with h|h<;>obtain⟨g,hg,rfl⟩:=zai.mp h
   ·exact s1.free (A.fr g hg).1
   ·exact s1.free (A.fr g hg).2
 ·obtain⟨j,D⟩:=zbd m;obtain⟨k',k1,_⟩:=(A3.ok j h D).1.st.he;exact aM k1 fR
 ·have uN:=s4 _ _ Bv
  simp only[zaa,zaf,or_false] at m
  rcases m with rfl|rfl|rfl|rfl
  ·rw[lH] at uN;cases uN
  ·rw[jK] at uN;cases uN
  ·rw[jn] at uN;cases uN
  ·exact n7 X Rl rfl
 ·simp only[zaa,zaf,or_false] at m
  rcases m with rfl|rfl|rfl|rfl
  ·rw[S5.dY] at P;cases P
  ·rw[b_] at P;cases P
  ·rw[S5.hU] at P;cases P
  ·exact n7 X (b7 _ _ Gv Gx) rfl
 ·rw[(A9.ok i h e).2.1];exact zqZ _
 ·rw[zca];exact zqR _
 ·rw[(A9.ok i h e).2.1];exact zqZ _
end
end L2.fG
namespace L2.fG
open PySem PySem.Spec L2.B L2.N PyProof.Rows
section
variable {K:Frag}{C CS CV:Addr}{H H' H0:Hp}{Q:VK}{Γ:aQ}{σ:St}{E:XK}{R sv dx se ch mk hl po ml:Addr}{x0 x x':Str}{ai bU:List Nat}{tk bB:List (Nat×List Pt)}{tx:List (List Nat)}{hs aV:List Hd}{d t:Nat}{M:MS}{sn i:Nat}{h:Hd}{vs:List V}{ls cU:List Lt}{w ms mz mz':List Nat}
theorem Rm.kinds(A:Rm C CS CV H0 H R sv dx se ch mk hl po ml x0 x ai tk tx hs d t vs ls w ms mz):∀a∈R::se::ch::mk::ml::sv::(hs.map (·.p)++hs.map (·.q)),∃o,H a=some o:=λa f=>by
 obtain⟨⟨_,D⟩,⟨_,u⟩,⟨_,m⟩,_,l⟩:=A.A.off
 simp at f
 rcases f with rfl|rfl|rfl|rfl|rfl|rfl|⟨g,e,rfl⟩|⟨g,e,rfl⟩
 ·exact⟨_,A.A.hR⟩
 ·exact⟨_,D⟩
 ·exact⟨_,u⟩
 ·exact⟨_,m⟩
 ·exact⟨_,A.hm⟩
 ·exact⟨_,l⟩
 ·obtain⟨j,b⟩:=zbd e;exact⟨_,(A.A.ok j g b).ha.ob⟩
 ·obtain⟨j,b⟩:=zbd e;obtain⟨_,_,k,_⟩:=(A.A.ok j g b).ha.st.ob;exact⟨_,k⟩
theorem Rm.base(A:Rm C CS CV H0 H R sv dx se ch mk hl po ml x0 x ai tk tx hs d t vs ls w ms mz):∃H1,Rm C CS CV H1 H R sv dx se ch mk hl po ml x0 x ai tk tx hs d t vs ls w ms mz/\aD H0 H1/\∀a o,H a=some o->a∉R::se::ch::mk::ml::sv::(hs.map (·.p)++hs.map (·.q))->H1 a=some o:=by
 generalize hL:R::se::ch::mk::ml::sv::(hs.map (·.p)++hs.map (·.q))=L;refine⟨λa=>if a∈L then none else H a,⟨A.A,A.hp,A.pl,A.lo,A.nv,λz o e=>?_,λa b=>if_pos<|hL ▸ b,A.nd,A.ne,A.off,A.wl,A.wp,A.ws,A.lx,A.m7,A.hm,A.nm,A.mL,A.mp,A.mS,A.sS⟩,λz o e=>?_,λa o e n=>(if_neg n).trans e⟩
 ·by_cases y:z∈L
  ·cases (if_pos y).symm.trans e
  ·exact(if_neg y).symm.trans e
 ·exact(if_neg λy=>by rw[A.f0 z<|hL ▸ y] at e;cases e).trans (A.s0 _ _ e)
theorem ahi(b:List Int)(lo e:Int):∃ms:List Int,gF (b.map V.int) (some lo) (some e)=ms.map V.int/\(0<=lo->lo<=e->ms.length<= (e - lo).toNat):=by
 refine⟨(b.drop<|HT.bj b.length 0<|some lo).take<|HT.bj b.length b.length (some e) - HT.bj b.length 0 (some lo),?_,λf g=>?_⟩
 ·unfold gF;rw[zae,<-List.map_drop,<-List.map_take]
 ·obtain⟨l,rfl⟩:=zbl f;obtain⟨h,rfl⟩:=zbl (Int.le_trans f g);rw[zaA,HT.mZ,HT.mZ];lia
theorem ahj(x:Str)(c:Nat):(Builtin.Str.occurrences x ⟨#[c]⟩ 0 x.length<|x.length+1).length=x.cps.toList.count c:=by
 have e:x.cps.toList.count c<=x.cps.toList.length:=List.count_le_length;have b:=B.len_list x;rw[Pa x c 0 _<|zqZ _,zbh,zaI (by rw[wH];lia),wH]
theorem ahk(ms:List Nat):nV ms=(ms.map λk:Nat=>(k:Int)).map V.int/\(ms.map λk:Nat=>(k:Int)).sum=(ms.sum:Nat):=by
 refine⟨by simp,?_⟩
 induction ms with
 |nil=>rfl
 |cons a l b=>show(a:Int)+(l.map λk:Nat=>(k:Int)).sum=((a+l.sum:Nat):Int);lia
theorem ahl(A:Rm C CS CV H0 H R sv dx se ch mk hl po ml x0 x ai tk tx hs d t vs ls w ms mz)(r:Rest tk hs)(k:hs[i]?=some h):h.g.x=x:=by
 obtain⟨u,q,p⟩:=r i h k;obtain⟨l,m,f,e,b⟩:=(A.A.ok i h k).iv.oc;rw[q] at e;rw[p] at b;rw[u,A.A.tl] at f;cases f;rw[<-Px h.g.x,<-b,<-e]
theorem ahm(D:Dx x0 x ai tk hs ms)(r:Rest tk hs)(b:hs[i]?=some h)(e:i<4):x.cps.toList.count (48+i)=x0.cps.toList.count (48+i)+ms.getD i 0:=by
 obtain⟨_,f,k⟩:=r i h b;have m:=D.dm i h b;unfold pd at m;have:dO (48+i) none=0:=rfl;have:=D.xc i e;lia
inductive Bz(K:Frag)(vs:List V)(H:Hp)(Q:VK)(E:XK):Prop|i(a:Addr)(b:List Int)(_:vs=[.ref a])(_:aB K H a (b.map V.int))(_:∀H',Q (.bl true) H')
abbrev uO(K:Frag)(C CS CV:Addr)(E:XK):aQ:=aO K [("_law_room",Gu K C CS CV),("_law_put_in",Gp C CS CV),("_law_handed",xJ C CS CV),("_law_rests",Bo C CS CV),("_law_round",Gm C CS CV),("_law_cell_at",qX K)] [] [] [("text",CV,bJ.FR CV),("text",C,wR C CS)] (E:=E)
abbrev sL(m R:Addr)(x0:Str)(l k g f e b u:Option V):St:=[some<|.ref m,some<|.ref R,some<|.str x0,l,k,g,f,e,b,u]
theorem Rp{x:Str}{c:Nat}(e:σ[i]?=some (some<|.str x))(b:σ[j]?=some (some<|.str ⟨#[c]⟩))(q:Q (.int (x.cps.toList.count c:Nat)) H):ag Γ (.bE .count (.v i) [.v j]) σ H Q:=by
 refine iU<|af e ⟨rfl,af b ?_⟩;show Q (.int ((Builtin.Str.occurrences x ⟨#[c]⟩ 0 x.length<|x.length+1).length:Nat)) H;rw[ahj];exact q
theorem ne_nil{a b:Addr}(f:H a=some (.lst []))(e:H b=some (.lst []))(q:Q (.bl false) H):da K .NotEq (.ref a) (.ref b) H Q:=⟨.list [],.list [],⟨a,[],rfl,f,rfl⟩,⟨b,[],rfl,e,rfl⟩,rfl,rfl,q⟩
theorem ahn{Z X T:Option V}(A:Rm C CS CV H0 H R sv dx se ch mk hl po ml x0 x ai tk tx hs d t vs ls w ms ms)(D:Dx x0 x ai tk hs ms)(r:Rest tk hs)(q:∀H',Q (.bl true) H'):aE (uO K C CS CV E) (d3.drop 5) (Dn Q) (sL sc R x0 Z X T none none none none) H:=by
 have ln:=A.A.ln;refine bW<|iS CV (bJ.FR CV) rfl<|eK<|af rfl<|ay ⟨R,_,rfl,F9 A.A.hR,sv,dx,_,rfl,A.A.sv.ob,bJ.iC,_,sv,dx,se,ch,mk,x,ai,tk,rfl,A.A.sv,?_⟩;refine bW<|eK<|af rfl<|ay ⟨R,_,rfl,uE A.A.hR,?_⟩;refine bQ<|EY<|iy<|nY (Bo C CS CV) rfl<|aC<|af rfl<|aN ⟨H0,R,sv,dx,se,ch,mk,hl,po,ml,x0,x,ai,tk,tx,hs,d,t,vs,ls,w,ms,ms,rfl,A,λb H1 s1 hb=>iW ?_⟩;rw[hb.mpr r];refine iF ?_ rfl;have l:=A.same s1;refine EZ<|bF ⟨_,rfl,hl,rfl,⟨_,aB.of l.A.hh⟩,adZ (λ_=>false) l.A.hh (by rw[zae];lia) (λy k hy P=>?_) (λy k _ P=>af rfl P)<|λp fp=>?_⟩
 ·obtain⟨g,hg,rfl⟩:=zai.mp hy;obtain⟨j,hj⟩:=zbd hg;have f:=l.A.ok j g hj;refine bF<|iS C (wR C CS) rfl<|af rfl ⟨g.p,g.dp,_,rfl,f.ha.ob,iA,_,g.p,g.dp,g.q,g.dq,g.e,j,g.g.x,g.g.kn,g.g.se,g.g.fl,g.g.de,g.ea,rfl,f.ha,af rfl<|rD ⟨_,rfl,?_⟩⟩;rw[ahl l r hj,show(x !=x)=false by simp];exact P
 rw[show(hs.map λh=>V.ref h.p).filter (λ_=>false)=[] by simp]
 have s2:=sameNew (o:=.lst []) fp;have h2:upd H1 p (.lst []) p=some (.lst []):=aw;generalize upd H1 p (.lst [])=H2 at s2 h2⊢;refine eY<|aN ⟨zqZ _,λN f3=>?_⟩;have I:=sameNew (o:=.lst []) f3;have m:=(l.same s2).same I;have Rq:=I _ _ h2;have h3:upd H2 N (.lst []) N=some (.lst []):=aw;generalize upd H2 N (.lst [])=H3 at I m Rq h3⊢;refine ne_nil Rq h3 ⟨_,rfl,iF (dJ ?_) rfl⟩;refine E2<|iz<|af rfl<|.inl ⟨_,aB.of m.A.hh,?_⟩;rw[zae];refine⟨_,rfl,by lia,by lia,BP (lo:=0) (λi σ S=>S=H3/\∃G u:Option V,σ=sL sc R x0 Z X T (some<|.str x) (some<|.ref hl) G u) ⟨rfl,none,none,rfl⟩ ?_ ?_⟩
 ·rintro i σ S hi ⟨rfl,G,u,rfl⟩;rw[Int.zero_add];have hk:=zaj hi;have i4:i<4:=by lia
  have hU:(nV ms)[i]?=some (V.int ((ms.getD i 0:Nat):Int)):=by
   rw[zam,zaF,zaj (by rw[A.mL];exact hi)];rfl
  refine bW<|bx<|ay<|af rfl<|.inr<|.inr<|.inl ⟨_,_,_,rfl,rfl,by decide,Rg i4,?_⟩
  refine bQ<|bF<|Rp rfl rfl<|bL<|Rp rfl rfl<|bx<|eK<|af rfl<|ay ⟨R,_,rfl,Bg m.A.hR,af rfl<|mI m.hm (gg hU)<|iX<|pT ⟨_,rfl,?_⟩⟩;rw[ahm D r hk i4,zqT (by lia)]
  exact iF (dJ ⟨rfl,_,_,rfl⟩) rfl
 ·rintro σ S ⟨rfl,G,u,rfl⟩;exact cq<|ay<|q _
theorem aho{G:List Int}{m l:Option V}(A:Rm C CS CV H0 H R sv dx se ch mk hl po ml x0 x ai tk tx hs d t vs ls w ms ms)(D:Dx x0 x ai tk hs ms)(k:t<=16)(g:cL ls<=nu tk hs)(Z:aB K H0 f (G.map V.int))(q:∀H',Q (.bl true) H'):aE (uO K C CS CV E) (d3.drop 4) (Dn Q) (sL f R x0 m l none none none none none) H:=by
 have fM:=A.A.fM;obtain⟨e1,e2⟩:=ahk ms;have mS:=A.mS;refine E2<|bL<|v8<|aC<|eK<|af rfl<|ay ⟨R,_,rfl,Bg A.A.hR,aN ⟨_,e1▸aB.of A.hm,ay<|iX (⟨_,rfl,by lia,by lia,BP (λj σ H2=>qX11 λ(po:Addr) (x':Str) (ai:List Nat) (tk:List (Nat×List Pt)) (tx:List (List Nat)) (hs:List Hd) (t:Nat) (vs:List V) (ls:List Lt) (w:List Nat) (u:Option V)=>qA4 (σ=sL f R x0 m l u none none none none) (Rm C CS CV H0 H2 R sv dx se ch mk hl po ml x0 x' ai tk tx hs d t vs ls w ms ms) (Dx x0 x' ai tk hs ms) (Rest tk hs\/(j=0/\t<=16/\cL ls<=nu tk hs))) ⟨po,x,ai,tk,tx,hs,t,vs,ls,w,none,rfl,A,D,.inr ⟨rfl,k,g⟩⟩ ?_ ?_⟩)⟩⟩
 ·rintro j σ H2 hj ⟨po,x',ai,tk,tx,hs,t,vs,ls,w,u,rfl,A,D,e⟩;refine bQ<|iy<|nY (Bo C CS CV) rfl<|aC<|af rfl<|aN ⟨H0,R,sv,dx,se,ch,mk,hl,po,ml,x0,x',ai,tk,tx,hs,d,t,vs,ls,w,ms,ms,rfl,A,λb H3 p I=>iW ?_⟩;cases b with
  |true=>exact iF (dJ ⟨po,x',ai,tk,tx,hs,t,vs,ls,w,_,rfl,A.same p,D,.inl<|I.mp rfl⟩) rfl
  |false=>
   refine iT ?_ rfl;rcases e with r|⟨_,k,g⟩
   ·cases I.mpr r
   have N:=A.same p;refine d5<|bP (Gm C CS CV) rfl<|aC<|af rfl<|aC<|bL<|bP (qX K) rfl<|aC<|af rfl<|aC<|ay<|aN ⟨f,G,_,rfl,N.s0.seq Z,by lia,af rfl<|iX<|aN ⟨H0,R,sv,dx,se,ch,mk,hl,po,ml,x0,x',ai,tk,tx,hs,d,t,vs,ls,w,ms,ms,_,rfl,N,D,k,g,λbY P bU bB dQ aV T bT cU S H4 A4 D4 X=>⟨bY,P,bU,bB,dQ,aV,T,bT,cU,S,_,rfl,A4,D4,.inl X⟩⟩⟩
 ·rintro σ H2 ⟨po,x',ai,tk,tx,hs,t,vs,ls,w,u,rfl,A,D,e⟩;rcases e with r|⟨z,_⟩
  ·exact ahn A D r q
  ·lia
theorem ahp{k:Nat}(h:k<4):∃b:Int,gG [V.int 0,V.int 0,V.int 1,V.int 2] (k:Int)=some (V.int b)/\(b=0\/b=1\/b=2):=by
 match k,h with
 | 0,_=>exact⟨0,rfl,by lia⟩
 | 1,_=>exact⟨0,rfl,by lia⟩
 | 2,_=>exact⟨1,rfl,by lia⟩
 | 3,_=>exact⟨2,rfl,by lia⟩
theorem ahq(vs:List V)(H:Hp)(Q:VK)(E:XK)(hh:Bz K vs H Q E):aE (uO K C CS CV E) d3 (Dn Q) (start j5 vs) H:=by
 obtain⟨X,ns,rfl,ha,q⟩:=hh;refine bW<|bP (Gu K C CS CV) rfl<|aC<|af rfl<|aN ⟨X,ns,rfl,ha,λR sv dx se ch mk hl po x ai tx hs w H1 hR b' l4 s1 D a'=>?_⟩;have dg:dy H1 R (.str "hands") (some<|.ref hl):=by
  have:=dy.k (k:=.inr "hands") hR;rw[vn (by decide+kernel),fU rfl] at this;exact this
 refine rP<|bL<|eY<|aC<|ay<|aN ⟨jN,λa0 f0=>?_⟩;have I:=sameNew (o:=.lst [V.int 0]) f0;have h0:upd H1 a0 (.lst [V.int 0]) a0=some (.lst [V.int 0]):=aw;generalize upd H1 a0 (.lst [V.int 0])=H2 at I h0⊢;have Rr:=I _ _ hR;have e':dy H2 R (.str "hands") (some<|.ref hl):=by
  have:=dy.k (k:=.inr "hands") Rr;rw[vn (by decide+kernel),fU rfl] at this;exact this
 refine iz<|eK<|af rfl<|ay ⟨R,_,rfl,e',.inl ⟨_,aB.of<|I _ _ b',?_⟩⟩;rw[zae];refine ad3 h0 (by lia) λml lK=>?_
 have s3:=sameNew (o:=.lst (List.replicate hs.length<|V.int 0)) lK;have h3:upd H2 ml (.lst<|List.replicate hs.length<|V.int 0) ml=some (.lst<|nV<|List.replicate hs.length 0):=by
  rw[aw];show _=some (HO.lst<|List.map _<|List.replicate hs.length 0);rw[List.map_replicate];rfl
 generalize upd H2 ml (.lst<|List.replicate hs.length<|V.int 0)=H3 at s3 h3⊢;have gw:=I.trans s3;refine af rfl<|ay ⟨R,_,rfl,jU.k (k:=.inr "many") (s3 _ _ Rr)<|dh (by show 4<=1000000;decide),?_⟩
 have A:=a' ml H3 gw (I.free lK) h3;show aE (uO K C CS CV E) (d3.drop 2) (Dn Q) _ (upd H3 R<|.dK<|oR sv hl po ml x);generalize upd H3 R (.dK<|oR sv hl po ml x)=H4 at A⊢;refine bW<|eK<|af rfl<|ay ⟨R,_,rfl,af8 A.A.hR,?_⟩;obtain⟨e,c',S⟩:=ahi ns 3 19;have S:e.length<=16:=S (by decide) (by decide)
 refine Ar<|adU<|af rfl<|ay ⟨_,rfl,ay ⟨_,rfl,.inl ⟨_,A.s0.seq ha,λL fL=>?_⟩⟩⟩;have s5:=sameNew (o:=.lst (gF (ns.map V.int) (some 3)<|some 19)) fL;rw[c'] at s5⊢;have hL:upd H4 L (.lst<|e.map V.int) L=some (.lst<|e.map V.int):=aw;have nL:L∉R::se::ch::mk::ml::sv::(hs.map (·.p)++hs.map (·.q)):=λhm=>by obtain⟨o,ho⟩:=A.kinds L hm;rw[fL] at ho;cases ho
 generalize upd H4 L (.lst<|e.map V.int)=H5 at s5 hL⊢;obtain⟨H6,b,s6,kb⟩:=(A.same s5).base;have Gr:=kb _ _ hL nL;have Be:=s6.seq ha;refine⟨L,rfl,⟨_,aB.of hL⟩,lR (K:=K) (a:=L) (xs:=e.map V.int) (λi σ f=>i<=e.length/\∃(m u:Option V) (po:Addr) (x':Str) (ai:List Nat) (tk:List (Nat×List Pt)) (tx:List (List Nat)) (hs:List Hd) (d t:Nat) (vs:List V) (ls:List Lt) (w ms:List Nat),σ=sL X R x m u none none none none none/\Rm C CS CV H6 f R sv dx se ch mk hl po ml x x' ai tk tx hs d t vs ls w ms ms/\Dx x x' ai tk hs ms/\d+t<=i/\cL ls<=nu tk hs/\∀y∈ls,wt y=1)
  ⟨zqZ _,none,none,po,x,ai,[],tx,hs,0,0,[],[],w,_,rfl,b,D,zqR _,zqZ _,λy hy=>by cases hy⟩ (λi σ f _ ⟨_,_,_,_,_,_,_,_,_,_,_,_,_,_,_,_,g,_⟩=>aB.of (g.s0 _ _ Gr)) ?_ ?_⟩
 ·rintro i v σ f hv ⟨_,m,u,po,x',ai,tk,tx,hs,d,t,vs,ls,w,ms,rfl,g,D',dt,Z,h1⟩;have hi:i<e.length:=by
   have:=(zad.mp hv).1;rw[zae] at this;exact this
  rw[zam,zaj hi] at hv;cases hv;generalize e[i]=l;refine bW<|bL<|af rfl<|ay<|rM (by decide) ?_
  have P:∀{T:Hp},aD f T->aE (uO K C CS CV E) [.drop<|.call 1 [.v 1,(.bin .FloorDiv (.v 3)<|.c<|.int 7)]] {(Dn Q) with nx:=λσ f=>i+1<=e.length/\∃(m u:Option V) (po:Addr) (x':Str) (ai:List Nat) (tk:List (Nat×List Pt)) (tx:List (List Nat)) (hs:List Hd) (d t:Nat) (vs:List V) (ls:List Lt) (w ms:List Nat),σ=sL X R x m u none none none none none/\Rm C CS CV H6 f R sv dx se ch mk hl po ml x x' ai tk tx hs d t vs ls w ms ms/\Dx x x' ai tk hs ms/\d+t<=i+1/\cL ls<=nu tk hs/\∀y∈ls,wt y=1} (sL X R x (some<|.int l) (some<|.int<|l % 7) none none none none none) T:=by
   intro T G;refine d5<|bP (Gp C CS CV) rfl<|aC<|af rfl<|aC<|bL<|af rfl<|ay<|wJ ⟨by decide,by decide⟩<|aN ⟨H6,R,sv,dx,se,ch,mk,hl,po,ml,x,x',ai,tk,tx,hs,d,t,vs,ls,w,ms,_,rfl,g.same G,D',by lia,Z,h1,λbY aV bT cU w' jo H9 A9 D9 w9 o9=>⟨hi,_,_,bY,x',ai,tk,tx,aV,d+1,t,bT,cU,w',jo,rfl,A9,D9,by lia,w9,o9⟩⟩
  refine bQ<|EY<|bF<|af rfl<|ay<|N.ltI ⟨_,rfl,gK (λ_=>iT (P<|aD.refl _) rfl)<|λn3=>?_⟩;have n3:¬l % 7<3:=λz=>n3 (zqT z);refine EZ<|bF<|eK<|af rfl<|ay ⟨R,_,rfl,mP g.A.hR,eY<|aN ⟨zqZ _,λL2 Gq=>?_⟩⟩;have G:=sameNew (o:=.lst []) Gq;have h8:upd f L2 (.lst []) L2=some (.lst []):=aw;generalize upd f L2 (.lst [])=T at G h8⊢;have A8:=g.same G;refine Q9 A8.hp A8.pl A8.jf h8 ⟨_,rfl,gK (λ_=>P G)<|λz=>?_⟩;have z':vs≠ []:=λy=>z (zqT y);obtain⟨k,ek⟩:=zbl (show 0<=l % 7 - 3 by lia)
  have c7:=zaT l (show(0:Int) <7 by decide)
  obtain⟨wy,w1,w2⟩:=ahp (show k<4 by lia)
  refine d5<|bP (xJ C CS CV) rfl<|aC<|af rfl<|aC<|bL<|af rfl<|ay<|wJ ⟨by decide,by decide⟩<|aC<|bx<|eY<|aC<|ay<|aC<|ay<|aC<|ay<|aC<|ay<|aN ⟨Ru,λL3 f3=>?_⟩
  have s9:=sameNew (o:=.lst [V.int 0,V.int 0,V.int 1,V.int 2]) f3;have h9:upd T L3 (.lst [V.int 0,V.int 0,V.int 1,V.int 2]) L3=some (.lst [V.int 0,V.int 0,V.int 1,V.int 2]):=aw;refine bL<|af rfl<|ay<|nZ ?_;rw[ek];have A9:=A8.same s9;refine mI h9 w1<|aN ⟨H6,R,sv,dx,se,ch,mk,hl,po,ml,x,x',ai,tk,tx,hs,d,t,vs,ls,w,ms,ms,_,wy,rfl,A9,by lia,z',w2,λbY x2 bU bB dQ aV bT cU w' HA AA hd=>?_⟩
  obtain⟨D2,k2,k3⟩:=agX A9 D' Z h1 hd;exact⟨hi,_,_,bY,x2,bU,bB,dQ,aV,d,t+1,bT,cU,w',ms,rfl,AA,D2,by lia,k2,k3⟩
 ·rintro σ f ⟨_,m,u,po,x',ai,tk,tx,hs,d,t,vs,ls,w,ms,rfl,g,D',dt,Z,h1⟩;rw[zae] at dt;exact aho g D' (by lia) Z Be q
end
end L2.fG
namespace L2
open PySem.W (Frag nsIn findIn isFn keepIn codeIn fnOf mg_of mg_none_of)
def jr(st:Stmt):List Str:=(jw st).args.map (·.arg)
structure Top (P:Program) (w:World) (K:Frag) (mg:Str->Option Value) (base:Heap):Prop where
 X:K.In base
 G:base.Ns mainGlobals mg
def cz(K:Frag)(x:Str)(st:Stmt):Prop:= ∃f d,nsIn K mainGlobals x=some (some<|.ref f)/\qz K x x st f d
def du(K:Frag)(C:Addr)(x q:Str)(st:Stmt):Prop:= ∃f d,findIn K (.ref C) x=some (some<|.ref f)/\isFn K (.ref f)=true/\qz K x q st f d
structure uP (K:Frag) (x:Str) (C:Addr):Prop where
 g:nsIn K mainGlobals x=some (some<|.ref C)
 m:makesIn K C=true
 k:keepIn K (.ref C)=true
structure ko (K:Frag) (p:Str×V):Prop where
 ex:∃u,nsIn K mainGlobals p.1=some (some u)/\RelV p.2 u
structure qj (K:Frag) (p:Str×Addr):Prop where
 g:nsIn K mainGlobals p.1=some (some<|.ref p.2)
 x:PySem.W.excIn K p.2 [.type "ValueError",.type "Exception",.type "BaseException",.type "object"] "ValueError.__new__"=true
section
variable {P:Program}{w:World}{K:Frag}{mg:Str->Option Value}{base:Heap}{x q:Str}{st:Stmt}{f C:Addr}{fd:FuncData}{k:Nat}{sp:Sp}
theorem dfk{e h:Option Addr}{t:Array (Option Value)}{V d p b g:Value}(a:nsIn K mainGlobals x=some (some<|.ref f))(l:K.lookup f=some ⟨m,e,.func<|fnOf x x (jw st) (gH st) (gI st) .none V d p h b g,t⟩)
  (c:codeIn K b x=true) (k:keepIn K (.ref f)=true):cz K x st:=⟨f,_,a,Il l c k⟩
theorem dmk{e h:Option Addr}{t:Array (Option Value)}{V d p b g:Value}(a:findIn K (.ref C) x=some (some<|.ref f))(i:isFn K (.ref f)=true)(l:K.lookup f=some ⟨m,e,.func<|fnOf x q (jw st) (gH st) (gI st) .none V d p h b g,t⟩)
  (c:codeIn K b q=true) (k:keepIn K (.ref f)=true):du K C x q st:=⟨f,_,a,i,Il l c k⟩
theorem ahx(h:nsIn K mainGlobals x=some (some<|.str y t)):ko K (x,.str y):=⟨_,h,⟨_,rfl⟩⟩
theorem ahy{y:Int}{t:Tok}(h:nsIn K mainGlobals x=some (some<|.int y t)):ko K (x,.int y):=⟨_,h,⟨_,rfl⟩⟩
theorem ahz{y:Addr}(h:nsIn K mainGlobals x=some (some<|.ref y)):ko K (x,.ref y):=⟨_,h,rfl⟩
theorem ahA(h:findIn K (.ref C) y=some none):eE K C y:=h
theorem Top.gv(Z:Top P w K mg base)(h:ko K p):C6 mg p:=by
 obtain⟨u,a,b⟩:=h.ex;exact⟨u,mg_of Z.X Z.G a,b⟩
theorem Top.no(Z:Top P w K mg base)(h:nsIn K mainGlobals x=some none):mg x=none:=mg_none_of Z.X Z.G h
theorem Top.exc(Z:Top P w K mg base)(h:qj K p):zi mg base p:=adQ Z.X Z.G h.g h.x
structure xM (P:Program) (w:World) (K:Frag) (mg:Str->Option Value) (base:Heap) (k:Nat) (st:Stmt) (sp:Sp):Prop where
 ok:∀{x q:Str}{f:Addr}{fd:FuncData},qz K x q st f fd->dE P w K mg base (gL P w) k f fd (jr st) sp
theorem ahB{N P:List Str}{h:Scope}(a:h.kind=.function:=by kernel_rfl)(b:h.isCoroutine=false:=by kernel_rfl)(c:h.isGenerator=false:=by kernel_rfl)(d:N.Nodup:=by decide+kernel)(e:N.take P.length=P:=by kernel_rfl)(f:∀x∈P,h.names.lookup x=some .local\/h.names.lookup x=some .cell:=by decide+kernel)(g:∀y∈h.names,y.2≠ .free:=by decide+kernel):uX N P h:=⟨a,b,c,d,e,f,g⟩
theorem dL{I G:List Str}{t:List (Str×Sp)}{l:List (Str×V)}{D:List (Addr×List (Key×V))}{m e:List (Str×Addr×Sp)}{et:List (Str×Addr)}{g:List (Str×Sp)}{d:List RS}(Z:Top P w K mg base)
  (Dg:∀vs H Q E,sp vs H Q E->aE (aO K t l D m e et g E) d {nx:=λ_ H'=>Q .av H',rt:=Q} (start I vs) H)
  (R:∀{CX:cW}{Γ:aQ}{X:Cx},eF CX (zh N (gI st) (t.map (·.1)) (l.map (·.1)) G (m.map (·.1)) (e.map (·.1)) (et.map (·.1)) (g.map (·.1))) Γ X->eR X (gH st) (aE Γ d)) (k:Nat)
  (u:∀vs H Q E,sp vs H Q E->vs.length=(jr st).length:=by intro _ _ _ _ h;first|(cases h;subst_eqs;show List.length (_::_)=_;kernel_rfl)|repeat (first|(obtain⟨rfl,_⟩:=h;kernel_rfl)|(obtain⟨_,h⟩:=h)))
  (C8:∀p∈t,l7 P w K mg base k p.1 p.2:=by repeat (first|exact pU|refine pV (l7.mono (by assumption) (by first|decide|lia)) ?_))
  (C9:∀p∈l,C6 mg p:=by repeat (first|exact pU|refine pV (Top.gv (by assumption) (by assumption)) ?_))
  (C_:∀y∈G,mg y=none:=by repeat (first|exact pU|refine pV (Top.no (by assumption) (by assumption)) ?_))
  (Dc:∀q∈D,JT P w K q:=by repeat (first|exact pU|refine pV (by assumption) ?_))
  (Dd:∀p∈m,l9 P w K mg base k p:=by repeat (first|exact pU|refine pV (l9.mono (by assumption) (by first|decide|lia)) ?_))
  (De:∀p∈e,qO P w K mg base k p:=by repeat (first|exact pU|refine pV (qO.mono (by assumption) (by first|decide|lia)) ?_))
  (A:∀p∈et,zi mg base p:=by repeat (first|exact pU|refine pV (Top.exc (by assumption) (by assumption)) ?_))
  (Df:∀p∈g,C7 P w K mg base k p.1 p.2:=by repeat (first|exact pU|refine pV (C7.mono (by assumption) (by first|decide|lia)) ?_))
  (S:uX N (jr st) (gI st):=by exact ahB) (T:I.length=N.length:=by kernel_rfl):xM P w K mg base (k+1) st sp:=
 ⟨λb=>Ye b S t l G m e et g d R C8 C9 C_ D Dc Dd De A Df u λvs H Q E h=>by
  have r:=Dg vs H Q E h;unfold start at r⊢;rw[T] at r;exact r⟩
def Bd(x q:Str)(st:Stmt):Prop:= ∀(V d p:Value) (e:Option Addr) (b t:Value) (u:List Value),u.length=(jr st).length->bindArgs (fnOf x q (jw st) (gH st) (gI st) .none V d p e b t) ⟨u,[]⟩=pure ((jr st).zip u)
theorem ahC(l:(jr st).length=1)(h:∀(V d p:Value) (e:Option Addr) (b t g:Value),bindArgs (fnOf x q (jw st) (gH st) (gI st) .none V d p e b t) ⟨[g],[]⟩=pure ((jr st).zip [g])):Bd x q st:=λV d p e b t u m=>by
 rcases u with _|⟨g,_|⟨_,_⟩⟩ <;>first|exact h V d p e b t _|exact absurd (m.trans l) (by simp)
theorem ahD(m:(jr st).length=2)(h:∀(V d p:Value) (e:Option Addr) (b t l g:Value),bindArgs (fnOf x q (jw st) (gH st) (gI st) .none V d p e b t) ⟨[l,g],[]⟩=pure ((jr st).zip [l,g])):Bd x q st:=λV d p e b t u A=>by
 rcases u with _|⟨l,_|⟨g,_|⟨_,_⟩⟩⟩ <;>first|exact h V d p e b t _ _|exact absurd (A.trans m) (by simp)
theorem ahE(A:(jr st).length=3)(h:∀(V d p:Value) (e:Option Addr) (b t m l g:Value),bindArgs (fnOf x q (jw st) (gH st) (gI st) .none V d p e b t) ⟨[m,l,g],[]⟩=pure ((jr st).zip [m,l,g])):Bd x q st:=λV d p e b t u D=>by
 rcases u with _|⟨m,_|⟨l,_|⟨g,_|⟨_,_⟩⟩⟩⟩ <;>first|exact h V d p e b t _ _ _|exact absurd (D.trans A) (by simp)
theorem ahF(D:(jr st).length=4)(h:∀(V d p:Value) (e:Option Addr) (b t u m l g:Value),bindArgs (fnOf x q (jw st) (gH st) (gI st) .none V d p e b t) ⟨[u,m,l,g],[]⟩=pure ((jr st).zip [u,m,l,g])):Bd x q st:=λV d p e b t A E=>by
 rcases A with _|⟨u,_|⟨m,_|⟨l,_|⟨g,_|⟨_,_⟩⟩⟩⟩⟩ <;>first|exact h V d p e b t _ _ _ _|exact absurd (E.trans D) (by simp)
theorem Gz(h:Bd x q st:=by first|exact ahC (by kernel_rfl) λ_ _ _ _ _ _ _=>rfl|exact ahD (by kernel_rfl) λ_ _ _ _ _ _ _ _=>rfl|exact ahE (by kernel_rfl) λ_ _ _ _ _ _ _ _ _=>rfl|exact ahF (by kernel_rfl) λ_ _ _ _ _ _ _ _ _ _=>rfl|exact ajO (by kernel_rfl) λ_ _ _ _ _ _ _ _ _ _ _=>rfl|exact ajP (by kernel_rfl) λ_ _ _ _ _ _ _ _ _ _ _ _=>rfl|exact ajQ (by kernel_rfl) λ_ _ _ _ _ _ _ _ _ _ _ _ _=>rfl|exact ajR (by kernel_rfl) λ_ _ _ _ _ _=>rfl):Bd x q st:=h
theorem dT(Z:Top P w K mg base)(D:cz K x st)(R:xM P w K mg base k st sp)(h:Bd x x st:=by exact Gz):l7 P w K mg base k x sp:=by
 obtain⟨f,fd,a,b⟩:=D;exact⟨f,fd,_,R.ok b,mg_of Z.X Z.G a,b.kp,b.binds h⟩
theorem dM(D:du K C x q st)(c:e9 K C)(R:xM P w K mg base k st sp)(h:Bd x q st:=by exact Gz):l9 P w K mg base k (x,C,sp):=by
 obtain⟨f,fd,a,i,b⟩:=D;exact⟨c,f,fd,_,⟨a,i,b.kp⟩,R.ok b,b.binds h⟩
theorem dI(Z:Top P w K mg base)(D:du K C "__init__" q st)(b:uP K e C)(R:xM P w K mg base k st sp)(h:Bd "__init__" q st:=by exact Gz):qO P w K mg base (k+1) (e,C,sp):=by
 obtain⟨f,fd,a,i,d⟩:=D;exact⟨k,f,fd,_,zqR _,⟨b.m,a,i,b.k⟩,R.ok d,mg_of Z.X Z.G b.g,d.binds h⟩
theorem ahG{m:Addr}(X:K.In h)(G:h.Ns mainGlobals mg)(A:mg x=some (.ref m))(D:cz K x st)
  (R:∀base,Top P w K mg base->xM P w K mg base k st sp) (E:jr st=[y]:=by kernel_rfl)
  (I:∀(V d p:Value) (l:Option Addr) (g t u:Value),bindArgs (fnOf x x (jw st) (gH st) (gI st) .none V d p l g t) ⟨[u],[]⟩=pure [(y,u)]:=by exact λ_ _ _ _ _ _ _=>rfl):
  ∃fd:FuncData,(∀(s:Shared) (v:Value),BindsTo s fd ⟨[v],[]⟩ [(y,v)])/\∀base:Heap,K.In base->base.Ns mainGlobals mg->dE P w K mg base va k m fd [y] (λvs H Q _=>sp vs H Q E0):=by
 obtain⟨f,fd,e,b⟩:=D;cases A.symm.trans (mg_of X G e);obtain⟨Z,T,V,d,p,l,g,t,jt,zq⟩:=qx9 ((b).ex);obtain⟨rfl,lk,lO⟩:=qa3 zq;refine⟨_,λs v=>.of_eq<|I V d p l g t v,λbase N S=>?_⟩;have r:=(R base ⟨N,S⟩).ok b;rw[E] at r;exact dE.top r
end
end L2
namespace L2.fG
open PySem PySem.Spec PyProof.Rows L2.B
theorem all_mk{P:Program}{w:World}{K:Frag}{h:Heap}{mg:Str->Option Value}{fa sr gC mT fO Rt BA sx xO GA BB:Addr}(X:K.In h)(G:h.Ns mainGlobals mg)(nU:mg "law"=some (.ref fa))
  (ajS:ko K ("BadText",.ref Rt))
  (ajT:ko K ("BadChange",.ref BA))
  (ajU:ko K ("BadFit",.ref sx))
  (ajV:ko K ("BadLetter",.ref xO))
  (ajW:ko K ("NoLetter",.ref GA))
  (ajX:ko K ("NoHand",.ref BB))
  (ahH:uP K "Walk" sr)
  (ahI:uP K "Server" gC)
  (ahJ:uP K "Stand" mT)
  (ahK:uP K "Hand" fO)
  (oq:oX K sr)
  (ib:me K gC)
  (jM:iq K mT)
  (e7:iO K fO)
  (ajY:qj K ("BadText",Rt))
  (ajZ:qj K ("BadChange",BA))
  (aj0:qj K ("BadFit",sx))
  (aj1:qj K ("BadLetter",xO))
  (aj2:qj K ("NoLetter",GA))
  (aj3:qj K ("NoHand",BB))
  (a0:cz K "is_whole" K5)
  (a1:cz K "is_between" K6)
  (a2:cz K "is_word" K7)
  (a3:cz K "is_text" K8)
  (a4:cz K "need_text" K9)
  (a5:cz K "is_part" K_)
  (a6:cz K "may_follow" La)
  (a7:cz K "need_change" Lb)
  (a8:cz K "is_change" Ld)
  (a9:cz K "part_size" Le)
  (a10:cz K "sizes" Lf)
  (a11:du K sr "__init__" "Walk.__init__" Lg)
  (a12:du K sr "word" "Walk.word" Lh)
  (a13:du K sr "left" "Walk.left" Li)
  (a14:du K sr "take" "Walk.take" Lj)
  (a15:cz K "add_keep" Lk)
  (a16:cz K "add_texts" Ll)
  (a17:cz K "neat" Lm)
  (a18:cz K "done" Ln)
  (a19:cz K "cut_behind" Lo)
  (a20:cz K "parts_behind" Lp)
  (a21:cz K "then" Lq)
  (a22:cz K "put_first" Lr)
  (a23:cz K "share" Ls)
  (a24:cz K "passed" Lu)
  (a25:du K gC "__init__" "Server.__init__" Lz)
  (a26:du K gC "text" "Server.text" LB)
  (a27:du K gC "many" "Server.many" LD)
  (a28:du K gC "change" "Server.change" LJ)
  (a29:du K gC "took" "Server.took" LL)
  (a30:du K gC "is_ask" "Server.is_ask" LO)
  (a31:du K gC "is_again" "Server.is_again" LQ)
  (a32:du K gC "is_known" "Server.is_known" LS)
  (a33:du K gC "came" "Server.came" LV)
  (a34:du K gC "take_in" "Server.take_in" LZ)
  (a35:du K mT "__init__" "Stand.__init__" L5)
  (a36:cz K "twin_of" L9)
  (a37:cz K "copied" Ma)
  (a38:cz K "let_in" Md)
  (a39:du K fO "__init__" "Hand.__init__" Mg)
  (a40:du K fO "text" "Hand.text" Mi)
  (a41:du K fO "seen" "Hand.seen" Ml)
  (a42:du K fO "flight" "Hand.flight" Mo)
  (a43:du K fO "waiting" "Hand.waiting" Mq)
  (a44:du K fO "ask" "Hand.ask" Mt)
  (a45:du K fO "take_off" "Hand.take_off" Mv)
  (a46:du K fO "do" "Hand.do" Mz)
  (a47:du K fO "need_took" "Hand.need_took" MB)
  (a48:du K fO "land" "Hand.land" MD)
  (a49:du K fO "came" "Hand.came" MF)
  (a50:du K fO "nudge" "Hand.nudge" MI)
  (a51:cz K "_law_cell_at" MJ)
  (a52:cz K "_law_mixed" MK)
  (a53:cz K "_law_text" ML)
  (a54:cz K "_law_neat" MM)
  (a55:cz K "_law_room" MP)
  (a56:cz K "_law_came" MR)
  (a57:cz K "_law_copied" MT)
  (a58:cz K "_law_put_in" fI)
  (a59:cz K "_law_handed" MV)
  (a60:cz K "_law_rests" M0)
  (a61:cz K "_law_round" M4)
  (a62:cz K "law" eT)
  (aj4:ko K ("SIGNS",.str SG))
  (aj5:ko K ("MOST_HANDS",.int 8))
  (aj6:nsIn K mainGlobals "bool"=some none)
  (aj7:nsIn K mainGlobals "dict"=some none)
  (aj8:nsIn K mainGlobals "int"=some none)
  (aj9:nsIn K mainGlobals "isinstance"=some none)
  (aj_:nsIn K mainGlobals "len"=some none)
  (aka:nsIn K mainGlobals "list"=some none)
  (akb:nsIn K mainGlobals "max"=some none)
  (akc:nsIn K mainGlobals "min"=some none)
  (akd:nsIn K mainGlobals "range"=some none)
  (ake:nsIn K mainGlobals "str"=some none)
  (akf:nsIn K mainGlobals "sum"=some none)
  (akg:nsIn K mainGlobals "tuple"=some none)
  :∃fd:FuncData,(∀(s:Shared) (v:Value),BindsTo s fd ⟨[v],[]⟩ [("_law_script",v)])/\∀base:Heap,K.In base->base.Ns mainGlobals mg->dE P w K mg base va 11 fa fd ["_law_script"] (λvs H Q _=>(Bz K) vs H Q E0):=by
 refine ahG X G nU a62 λbase Z=>?_;have T0:=dT Z a0 (dL Z ab_ @Y9 0);have akh:=T0.weak (a:=qU) λ_ _ _ _ h=>aca h;have T1:=dT Z a1 (dL Z adS @Y_ 1);have aki:=T1.weak (a:=jI) λ_ _ _ _ h=>adT h;have T2:=dT Z a2 (dL Z acg @Za 0);have akj:=T2.weak (a:=mq K) λ_ _ _ _ h=>ach h;have T3:=dT Z a3 (dL Z acb @Zb 0);have T4:=dT Z a4 (dL Z ace @Zc 1);have akk:=T4.weak (a:=rm) λ_ _ _ _ h=>acf h;have T5:=dT Z a5 (dL Z acj @Zd 1);have akl:=T5.weak (a:=DI) λ_ _ _ _ h=>acm h;have T6:=dT Z a6 (dL Z aaQ @Ze 0);have T7:=dT Z a7 (dL Z (aa0 (et:=[("BadChange",BA)])) @Zf 2);have T8:=dT Z a8 (dL Z (aet (CB:=BA)) @Zh 3);have T9:=dT Z a9 (dL Z aaR @Zi 0);have T10:=dT Z a10 (dL Z aa2 @Zj 3);have T11:=dI Z a11 ahH (dL Z (acr oq) @Zk 0);have T12:=dM a12 oq.cl (dL Z (acs oq) @Zl 0);have T13:=dM a13 oq.cl (dL Z (acu oq) @Zm 1);have akp:=T13.weak (a:=mB sr) λ_ _ _ _ h=>acv h;have T14:=dM a14 oq.cl (dL Z (acw oq) @Zn 2);have T15:=dT Z a15 (dL Z aa6 @Zo 0);have T16:=dT Z a16 (dL Z aa3 @Zp 0);have T17:=dT Z a17 (dL Z aa8 @Zq 1);have T18:=dT Z a18 (dL Z (abS (et:=[("BadFit",sx)])) @Zr 4);have T19:=dT Z a19 (dL Z (acB (et:=[("BadFit",sx)])) @Zs 0);have T20:=dT Z a20 (dL Z acD @Zt 3);have T21:=dT Z a21 (dL Z (acU (et:=[("BadFit",sx)]) oq) @Zu 4);have T22:=dT Z a22 (dL Z ac8 @Zv 3);have T23:=dT Z a23 (dL Z (ada (et:=[("BadFit",sx)])) @Zw 0);have T24:=dT Z a24 (dL Z (adq (et:=[("BadFit",sx)]) oq) @Zx 4);have T25:=dI Z a25 ahI (dL Z (bJ.aft (CN:=BB) ib) @Zz 2);have T26:=dM a26 ib.cl (dL Z (bJ.afA ib) @ZA 0);have T27:=dM a27 ib.cl (dL Z (bJ.afB ib) @ZC 0);have T28:=dM a28 ib.cl (dL Z (bJ.afC (CL:=GA) ib) @ZE 2);have T29:=dM a29 ib.cl (dL Z (bJ.afD ib) @ZF 3);have T32:=dM a32 ib.cl (dL Z (bJ.afE ib) @ZK 2);have T30:=dM a30 ib.cl (dL Z bJ.afG @ZH 4);have T31:=dM a31 ib.cl (dL Z bJ.afF @ZJ 3);have T34:=dM a34 ib.cl (dL Z (bJ.afL ib) @ZQ 5);have T33:=dM a33 ib.cl (dL Z (bJ.af5 (CB:=xO) ib) @ZN 6);have T35:=dI Z a35 ahJ (dL Z (aep jM) @ZR 0);have T36:=dT Z a36 (dL Z (aer jM) @ZT 2);have T37:=dT Z a37 (dL Z aeg @ZU 0);have T38:=dT Z a38 (dL Z (aex jM) @ZV 5);have T39:=dI Z a39 ahK (dL Z (aeu (CN:=BB) e7) @ZX 2);have T40:=dM a40 e7.cl (dL Z (aee e7 jM) @ZY 0);have T41:=dM a41 e7.cl (dL Z (aef e7 jM) @ZZ 0);have T42:=dM a42 e7.cl (dL Z (aeh e7 jM) @Z0 1);have T43:=dM a43 e7.cl (dL Z (aei e7 jM) @Z1 1);have T44:=dM a44 e7.cl (dL Z (aej e7 jM) @Z2 0);have T45:=dM a45 e7.cl (dL Z (aek e7 jM) @Z4 1);have T46:=dM a46 e7.cl (dL Z (aeD e7 jM) @Z6 5);have T47:=dM a47 e7.cl (dL Z (aew (CB:=xO) e7) @Z8 4);have T48:=dM a48 e7.cl (dL Z (ael (CB:=xO) e7 jM) @Z9 2);have T49:=dM a49 e7.cl (dL Z (aeZ e7 jM) @aab 6);have T50:=dM a50 e7.cl (dL Z (aen e7 jM) @aad 1);have T51:=dT Z a51 (dL Z aaS @aae 0);have T52:=dT Z a52 (dL Z aaT @aaf 0);have T53:=dT Z a53 (dL Z abe @aag 1);have T54:=dT Z a54 (dL Z abn @aah 0);have T55:=dT Z a55 (dL Z (ahb (C:=fO) (CS:=mT) (CV:=gC)) @aak 4);have T56:=dT Z a56 (dL Z (agI (C:=fO) (CS:=mT) (CV:=gC)) @aam 7);have T57:=dT Z a57 (dL Z af7 @aan 0);have T58:=dT Z a58 (dL Z (ag6 (C:=fO) (CS:=mT) (CV:=gC)) @aax 6)
 have T59:=dT Z a59 (dL Z (agP (C:=fO) (CS:=mT) (CV:=gC)) @aaz 8);have T60:=dT Z a60 (dL Z (agU (C:=fO) (CS:=mT) (CV:=gC)) @aaB 2);have T61:=dT Z a61 (dL Z (agZ (C:=fO) (CS:=mT) (CV:=gC)) @aaE 9);exact dL Z (ahq (C:=fO) (CS:=mT) (CV:=gC)) @aaP 10
theorem walk{l:PySem.W.OpenLaw}{q:Program}{g:List Str}{X:(Str->Option Value)->Heap->Prop}{P:World->Heap->Prop}{d:DefRec}{K:Params->Frag}(E:l.most=some 63)(A:d.params.defaults=[])
  (G:∀(w:World) (h:Heap),P w h->(K w.params).In h)
  (b:∀(w:World) (m:Str->Option Value) (t:Addr) (h:Heap),(K w.params).In h->h.Ns mainGlobals m->m d.name=some (.ref t)->
   ∃p:FuncData,(∀(s:Shared) (u:Value),BindsTo s p ⟨[u],[]⟩ [("_law_script",u)])/\∀e:Heap,(K w.params).In e->e.Ns mainGlobals m->dE l.prog w (K w.params) m e va 11 t p ["_law_script"] ((λK=>(λvs H Q _=>(Bz K) vs H Q E0)) (K w.params))):
  PySem.W.WalkO q g X P l.row.toRowW d [] (λf vs=>PySem.call f vs):=
 L2.U5 (n:=63) (k:=11) (x:="_law_script") (CX:=λ_=>va) (sp:=λw=>(λK=>(λvs H Q _=>(Bz K) vs H Q E0)) (K w.params)) E (by decide) A ⟨rfl,by decide,by decide,rfl⟩ G b (λ_ _ a D I _ S=>⟨a,D,rfl,S,λ_=>rfl⟩) λ_ _ _ _ _ z=>z
end L2.fG
namespace PySem.W.Fast
def tw10437886977763477890:=()
def tw15318469452803061306:=()
def tw11223439928673063676:=()
def tw6670806367556774656:=()
def tw3778294589423662340:=()
def tw9607949772985191366:=()
def tw13481024304328870399:=()
def tw818587556306168924:=()
def tw15589048808780541317:=()
def tw9466492850196464394:=()
def tw950846405848011645:=()
def tw17333728648571048739:=()
def tw12382842434475091578:=()
def tw17887333422614886359:=()
def tw163861926379356939:=()
def tw6194684925295201569:=()
def tw14989298010142476431:=()
def tw6345178057564983203:=()
def tw2884295284302586824:=()
def tw12350551724879364782:=()
def tw11796830031477308112:=()
def tw15585934226408498288:=()
def tw8132291125071715692:=()
def tw7028737548628475733:=()
def tw5337215830247209897:=()
def tw11179437036133930956:=()
def tw12698112990427663097:=()
def tw6553608864018284896:=()
def tw13770806396107011068:=()
def tw17801221579113679266:=()
def tw9575227056323633528:=()
def tw5450411745310213073:=()
def tw2519726582721706683:=()
def tw661404243689478048:=()
def tw5362664678209718110:=()
def tw11327135838729925604:=()
def tw5704901812691151459:=()
def tw17544966049011414333:=()
def tw13245175347159895886:=()
def tw4478657595146559283:=()
def tw2405070037547246620:=()
def tw9246057348079624111:=()
def tw2095358221099698307:=()
def tw12788581884637420362:=()
def tw7832459174828936717:=()
def tw5947211470849346304:=()
def tw14373538005674808955:=()
def tw7491505089573253393:=()
def tw10120184935673041478:=()
def tw1532617956263582787:=()
def tw11779464873641356720:=()
def tw5509321625648637982:=()
def tw2690054505461483999:=()
def tw2593961765062113165:=()
def tw12725536519287753439:=()
def tw9070413091189866907:=()
def tw14003197823594084292:=()
def tw1088845679784744568:=()
def tw4686690935488818802:=()
def tw16590622642454688175:=()
def tw1437533774831133357:=()
def tw10643099158425854642:=()
def tw16021852322933406112:=()
def tw7272614028806553632:=()
def tw7642591297208960932:=()
def tw7324966906841275317:=()
def tw6733148868357876265:=()
def tw3200427051929932930:=()
def tw15558290789818778154:=()
def tw3871006446264556905:=()
def tw11127008681054815551:=()
def tw848232115243676701:=()
def tw1447582635699373463:=()
def tw10567900285462636912:=()
def tw365503458498853668:=()
def tw8631242298247554649:=()
def tw3889938829229253740:=()
def tw13425144393042429717:=()
def tw8773324320401644023:=()
def tw13312533765605679:=()
def tw13135786484424458032:=()
def tw16765829901309367078:=()
def tw15562908316923715968:=()
def tw9983512910609292561:=()
def tw379437348682428187:=()
def tw15181399522978787213:=()
def tw8955759793582935788:=()
def tw9110869173135928961:=()
def tw10632636801343192656:=()
def tw7565945675604800697:=()
def tw4269445828471319456:=()
def tw16821509445343789298:=()
def tw13183880274604277013:=()
def tw1716164578991896666:=()
def tw16152577328309463977:=()
def tw14406808018814735743:=()
def tw10630215994508335799:=()
def tw2900814394744780647:=()
def tw933495720258781589:=()
def tw4950998174148320352:=()
def tw12264049879397887316:=()
def tw16711824672894087902:=()
def tw14876245561506225501:=()
def tw9403392108772465341:=()
def tw11691911583498420698:=()
def tw2988693328206303487:=()
def tw13445635310269397283:=()
def tw15600692657966754645:=()
def tw11603082408862316685:=()
def tw14653578026569416242:=()
def tw390489980408378215:=()
def tw1077265277161560121:=()
def tw8622097005985281168:=()
def tw17687164972685327011:=()
def tw5355266600577975244:=()
def tw14401342513151056480:=()
def tw6787626014951799483:=()
def tw6875818184104533728:=()
def tw1287929184328100878:=()
def tw8676855302571693655:=()
def tw8775296843535714851:=()
def tw14972175745417614912:=()
def tw4157203614781341971:=()
def tw1321138261500090239:=()
def tw14541526477294058746:=()
def tw7506545777680784497:=()
def tw1418283629383998287:=()
def tw14563273281647015367:=()
def tw2742324035875330546:=()
def tw14855028801684686408:=()
def tw3146707961867326779:=()
def tw13640265826771442384:=()
def tw6875349052302441508:=()
def tw12086653466490864707:=()
def tw12953711782522429276:=()
def tw17517425790602430822:=()
def tw16999615238650202810:=()
def tw14588315885008856638:=()
def tw6850523339490152972:=()
def tw9857622448783577753:=()
def tw12018285964338464372:=()
def tw6359956349729047134:=()
def tw8927227417128464318:=()
def tw646625923634375817:=()
def tw13871544610160076908:=()
def tw1533140909665511802:=()
def tw1584839442788318303:=()
def tw9732577501953606767:=()
def tw17993360041537680893:=()
def tw6423743888940403258:=()
def tw302979897671254677:=()
def tw14517173572717403239:=()
def tw5411972284424503547:=()
def tw17628943038372334004:=()
def tw6180609490797151371:=()
def tw1789120274329706447:=()
def tw13647300471597950664:=()
def tw4079408149674978966:=()
def tw4174719260909384069:=()
def tw10944053187488748813:=()
def tw17083239415578963785:=()
def tw11716868515902329882:=()
def tw13415378237462137500:=()
def tw11756093898531702600:=()
def tw5139392545682620454:=()
def tw5799266260045662542:=()
def tw15362048390642608163:=()
def tw16606745173236109153:=()
def tw17991638385990021509:=()
def tw7213817454373378004:=()
def tw4340161748861163159:=()
def tw232287662631109728:=()
def tw17412480497865114848:=()
def tw15846824231076487667:=()
def tw6377823133502345117:=()
def tw11454372349368565578:=()
def tw13212707799824011077:=()
def tw16296619673716832200:=()
def tw8333984542946242592:=()
def tw14996280825825281535:=()
def tw1958252272125193400:=()
def tw14074825718180669804:=()
def tw8290738945513312569:=()
def tw6037010207544149783:=()
def tw7187200882150236354:=()
def tw15801088199557439571:=()
def tw5866088684307839210:=()
def tw7439661022504836405:=()
def tw16232365785200920016:=()
def tw15113349252691948917:=()
def tw1976406391039359932:=()
def tw887770534987089898:=()
def tw12928066889728713637:=()
def tw13926766663102986006:=()
def tw6574029924813245032:=()
def tw4575546009883068837:=()
def tw15646792590007190423:=()
def tw294695521292631856:=()
def tw7153272325207156548:=()
def tw2782651309033821878:=()
def tw2281181577683439834:=()
def tw299959744188734069:=()
def tw5378380988354796928:=()
def tw1538927268140410504:=()
def tw14990470312330549244:=()
def tw7286398328687046868:=()
def tw15917662296170077246:=()
def tw13025171385887152598:=()
end PySem.W.Fast
open PySem PySem.W PyProof.Rows
set_option maxRecDepth 100000 in
set_option maxHeartbeats 0 in
theorem PySem.Challenge.cw_inkloom_k38_whole_all_meet_holds : PySem.Challenge.rw_inkloom_k38_whole_all_meet.Holds := by
 w_on;o_law;k_head;(case hw=>w_witness2)
 k_fill
 refine L2.fG.walk (l:=PySem.Challenge.rw_inkloom_k38_whole_all_meet) rfl rfl (λw h Y=>PySem.W.kIn_of Y) ?F
 case F=>
  intro w mg fa h KX G qx
  refine' L2.fG.all_mk KX G qx ..
  all_goals try first | refine' L2.dfk .. | refine' L2.ahz .. | refine' L2.uP.mk .. | refine' L2.dmk .. | refine' L2.ahy .. | refine' L2.ahx .. | refine' L2.qj.mk .. | refine' L2.B.oX.mk (L2.e9.mk ..) .. | refine' L2.fG.me.mk (L2.e9.mk ..) .. | refine' L2.fG.iq.mk (L2.e9.mk ..) .. | refine' L2.fG.iO.mk (L2.e9.mk ..) ..
  all_goals try refine' L2.ahA ..
  all_goals try first | k_is | k_exc | kernel_rfl
