import PyProof.Rows.All
import Wide.All
import OpenK.AllK
import Wide.FinOn
import Lean
import PyProof.EqAt
import PyProof.EqKinds
import PyProof.TupleCall
import PyProof.Rows.EqDataRows
import PyProof.DictList
import PyProof.FactsAll.dict_1
import PyProof.FactsAll.subtypes_4
import KE.KTryMore
import PyProof.WalksEnum
import PyProof.EnumMake
import PyProof.ListStr
import PyProof.TupleOfStr
import PyProof.Dict
import PyProof.ToksMono
import PyProof.StrCalls6
import PyProof.StrWalks
import PyProof.ConsumeWalk
import PyProof.CallStr
import PyProof.MeetsStr
import KE.KIntText
import PyProof.StrCalls2
import PyProof.StrOps2
import KE.KSortTup
import PyProof.WalksMore
import PyProof.TupleIter
import PyProof.SliceList
import PyProof.ListRange
import KE.KRevIter
import PyProof.StrLawsIn
import PyProof.Rows.StrCut
import PyProof.ZipIter
import PyProof.ListNew
import PyProof.StrLaws
import KE.KDictSum
import PyProof.ReprRoads
import PySem.Challenge.RW_inkloom_k25_more_and_redo
set_option Elab.async false
set_option linter.all false
set_option maxRecDepth 100000
set_option compiler.extract_closed false
noncomputable section
namespace Internal
theorem O{b:Sort u}{a:b}:a=a:=rfl
theorem HP:0≤PySem.sizeLine:=by decide
theorem cC:1≤PySem.sizeLine:=by decide
theorem cK:2≤PySem.sizeLine:=by decide
theorem yL:3≤PySem.sizeLine:=by decide
theorem S6:4≤PySem.sizeLine:=by decide
theorem S7:6≤PySem.sizeLine:=by decide
open PySem.W (Frag InstAt callWith_K cellsFrom_some codeRec_of emptyDict exmOne handedIn hasDictIn hideAll hideAll_get instObj kia_one kitOne kitx_dict kitx_list lookIn makesIn methodObj nsIn of_hideAll plainGet plainGet_of plainOver takerIn)
theorem zqT[Decidable p](h:p):decide p=true:=by lia
theorem zqF[Decidable p](h: ¬p):decide p=false:=by lia
theorem zqA{c:Type}{a b:List c}:(a++b).length=a.length+b.length:=by simp
theorem zqR(n:Nat):n≤n:=Nat.le_refl n
theorem zqZ(n:Nat):0≤n:=Nat.zero_le n
def zaa:=@List.length_map
def zab:=@List.mem_singleton
def zac:=@List.mem_cons
def zad:=@List.mem_append
def zae:=@List.append_nil
def zaf:=@List.getElem?_map
def zag:=@List.not_mem_nil
def zah:=@List.getElem?_eq_some_iff
def zai:=@List.size_toArray
def zaj:=@Bool.and_eq_true
def zak:=@List.mem_of_getElem?
def zal:=@Option.some.inj
def zam:=@List.append_assoc
def zan:=@Nat.ne_of_lt
def zao:=@List.length_cons
def zap:=@List.map_append
def zaq:=@Nat.lt_of_lt_of_le
def zar:=@List.mem_cons_of_mem
def zas:=@Bool.false_ne_true
def zat:=@Nat.le_trans
def zau:=@List.mem_cons_self
def zav:=@List.mem_append_left
def zaw:=@List.mem_append_right
def zax:=@List.getElem?_append_left
def zay:=@List.getElem?_eq_getElem
def zaz:=@List.map_cons
def zaA:=@List.getElem?_set_ne
def zaB:=@List.length_drop
def zaC:=@Nat.lt_irrefl
def zaD:=@Nat.ne_of_gt
def zaE:=@List.length_eq_zero_iff
def zaF:=@List.length_take
def zaG:=@Int.toNat_natCast
def zaH:=@List.take_of_length_le
def zaI:=@Bool.false_xor
def zaJ:=@List.length_replicate
def zaK:=@List.length_singleton
def zaL:=@Int.emod_nonneg
def zaM:=@Int.emod_lt_of_pos
def zaN:=@List.nodup_cons
def zaO:=@Bool.false_eq_true
def zaP:=@Bool.true_xor
def zaQ:=@List.reverse_cons
def zaR:=@List.getElem?_set
def zaS:=@List.length_set
def zaT:=@List.find?_cons
def zaU:=@Bool.not_eq_true'
def zaV:=@List.mem_iff_getElem?
def zaW:=@List.getElem?_append_right
def zaX:=@List.length_nil
def zaY:=@Option.map_eq_some_iff
def zaZ:=@Int.le_refl
def zba:=@List.length_reverse
def zbb:=@List.map_map
def zbc:=@List.getElem?_cons_succ
def zbd:=@List.map_set
def zbe:=@List.mem_filterMap
def zbf:=@Nat.le_add_right
def zbg:=@Int.natCast_add
def zbh:=@Nat.le_succ
def zbi:=@List.map_nil
def zbj:=@List.replicate_succ
def zbk:=@List.lookup_cons
def zbl:=@List.drop_eq_getElem_cons
def zbm:=@Nat.sub_self
def zbn:=@List.cons_append
def zbo:=@Bool.or_false
def zbp:=@List.all_cons
def zbq:=@List.drop_zero
def zbr:=@List.all_eq_true
def zbs:=@Array.getElem?_eq_getElem
def zbt:=@List.mem_map
def zbu:=@List.take_length
def zbv:=@List.cons.inj
def zbw:=@List.take_add_one
def zbx:=@List.reverse_reverse
def zby:=@Nat.le_of_lt
def zbz:=@List.filterMap_map
def zbA:=@List.any_cons
def zbB:=@List.flatten_cons
def zbC:=@List.foldl_cons
def zbD:=@List.map_congr_left
def zbE:=@List.sum_cons
def zbF:=@List.take_nil
def zbG:=@List.mem_of_mem_drop
def zbH:=@List.mem_range
def zbI:=@List.filterMap_cons
def zbJ:=@List.getElem?_set_self
def zbK:=@Array.length_toList
def zbL:=@Bool.eq_iff_iff
def zbM:=@Nat.lt_succ_self
def zbN:=@List.of_mem_zip
def zbO:=@Option.isSome_iff_exists
def zbP:=@List.nil_append
def zbQ:=@Option.map_some
def zbR:=@Nat.lt_succ_of_lt
def zbS:=@Bool.or_eq_true
def zbT:=@List.length_range
def zbU:=@List.eq_nil_of_length_eq_zero
def zbV:=@List.length_filter_le
def zbW:=@List.take_append_drop
def zbX:=@List.drop_length
def zbY:=@List.drop_of_length_le
def zbZ:=@List.getElem?_zip_eq_some
def zca:=@List.reverse_append
def zcb:=@Int.eq_ofNat_of_zero_le
def zcc:=@List.length_dropLast
def zcd:=@Option.ne_none_iff_exists'
def zce:=@List.getElem?_eq_none
def zcf:=@List.getLast?_append
def zcg:=@List.mem_of_mem_tail
def zch:=@List.mem_of_mem_take
def zci:=@List.dropLast_concat
def za0:=@Nat.le_add_left
def za1:=@Nat.pos_of_ne_zero
def za2:=@Nat.lt_trans
def za3:=@Nat.le_of_eq
def za4:=@Nat.le_of_not_lt
def za5:=@Nat.le_antisymm
def za6:=@Int.natCast_nonneg
def za7:=@Nat.le_succ_of_le
def za8:=@Nat.le_add_right_of_le
def za9:=@Nat.add_le_add_right
def zb0:=@Nat.succ_le_of_lt
def zb1:=@Nat.le_of_lt_succ
def zb2:=@Nat.lt_of_le_of_lt
def zb3:=@Int.ne_of_gt
def zb4:=@Nat.not_lt_of_le
def zb5:=@Nat.sub_le
def zb6:=@Nat.add_comm
def zb7:=@Nat.succ_pos
def zb8:=@Nat.lt_succ_of_le
def zb9:=@Nat.lt_of_le_of_ne
def zcj:=@Nat.le_of_succ_le
def zck:=@Nat.lt_of_not_le
def zcl:=@Int.le_of_lt
def zcm:=@Int.lt_irrefl
def zcn:=@Int.lt_of_lt_of_le
def zco:=@Int.le_of_not_gt
def zcp:=@Nat.not_lt_zero
def zcq:=@Nat.add_le_add
def zcr:=@Nat.le_add_left_of_le
def zcs:=@Nat.lt_of_succ_le
inductive qX2{a' b':Type}(p:a'->b'->Prop):Prop|i(a:a')(b:b')(_:p a b)
theorem qx2{p:a'->b'->Prop}:(∃a b,p a b)->qX2 p|⟨a1,b1,h⟩=>⟨a1,b1,h⟩
inductive qX3{a' b' c':Type}(p:a'->b'->c'->Prop):Prop|i(a:a')(b:b')(c:c')(_:p a b c)
theorem qx3{p:a'->b'->c'->Prop}:(∃a b c,p a b c)->qX3 p|⟨a1,b1,c1,h⟩=>⟨a1,b1,c1,h⟩
inductive qX4{a' b' c' d':Type}(p:a'->b'->c'->d'->Prop):Prop|i(a:a')(b:b')(c:c')(d:d')(_:p a b c d)
theorem qx4{p:a'->b'->c'->d'->Prop}:(∃a b c d,p a b c d)->qX4 p|⟨a1,b1,c1,d1,h⟩=>⟨a1,b1,c1,d1,h⟩
inductive qX5{a' b' c' d' e':Type}(p:a'->b'->c'->d'->e'->Prop):Prop|i(a:a')(b:b')(c:c')(d:d')(e:e')(_:p a b c d e)
theorem qx5{p:a'->b'->c'->d'->e'->Prop}:(∃a b c d e,p a b c d e)->qX5 p|⟨a1,b1,c1,d1,e1,h⟩=>⟨a1,b1,c1,d1,e1,h⟩
inductive qX6{a' b' c' d' e' f':Type}(p:a'->b'->c'->d'->e'->f'->Prop):Prop|i(a:a')(b:b')(c:c')(d:d')(e:e')(f:f')(_:p a b c d e f)
theorem qx6{p:a'->b'->c'->d'->e'->f'->Prop}:(∃a b c d e f,p a b c d e f)->qX6 p|⟨a1,b1,c1,d1,e1,f1,h⟩=>⟨a1,b1,c1,d1,e1,f1,h⟩
inductive qX7{a' b' c' d' e' f' g':Type}(p:a'->b'->c'->d'->e'->f'->g'->Prop):Prop|i(a:a')(b:b')(c:c')(d:d')(e:e')(f:f')(g:g')(_:p a b c d e f g)
theorem qx7{p:a'->b'->c'->d'->e'->f'->g'->Prop}:(∃a b c d e f g,p a b c d e f g)->qX7 p|⟨a1,b1,c1,d1,e1,f1,g1,h⟩=>⟨a1,b1,c1,d1,e1,f1,g1,h⟩
inductive qX9{a' b' c' d' e' f' g' h' i':Type}(p:a'->b'->c'->d'->e'->f'->g'->h'->i'->Prop):Prop|i(a:a')(b:b')(c:c')(d:d')(e:e')(f:f')(g:g')(h:h')(i:i')(_:p a b c d e f g h i)
theorem qx9{p:a'->b'->c'->d'->e'->f'->g'->h'->i'->Prop}:(∃a b c d e f g h i,p a b c d e f g h i)->qX9 p|⟨a1,b1,c1,d1,e1,f1,g1,h1,i1,h⟩=>⟨a1,b1,c1,d1,e1,f1,g1,h1,i1,h⟩
inductive qX12{a' b' c' d' e' f' g' h' i' j' k' l':Type}(p:a'->b'->c'->d'->e'->f'->g'->h'->i'->j'->k'->l'->Prop):Prop|i(a:a')(b:b')(c:c')(d:d')(e:e')(f:f')(g:g')(h:h')(i:i')(j:j')(k:k')(l:l')(_:p a b c d e f g h i j k l)
theorem qx12{p:a'->b'->c'->d'->e'->f'->g'->h'->i'->j'->k'->l'->Prop}:(∃a b c d e f g h i j k l,p a b c d e f g h i j k l)->qX12 p|⟨a1,b1,c1,d1,e1,f1,g1,h1,i1,j1,k1,l1,h⟩=>⟨a1,b1,c1,d1,e1,f1,g1,h1,i1,j1,k1,l1,h⟩
inductive qA3(a b c:Prop):Prop|i(_:a)(_:b)(_:c)
theorem qa3:a/\b/\c->qA3 a b c|⟨a1,b1,c1⟩=>⟨a1,b1,c1⟩
inductive qA4(a b c d:Prop):Prop|i(_:a)(_:b)(_:c)(_:d)
theorem qa4:a/\b/\c/\d->qA4 a b c d|⟨a1,b1,c1,d1⟩=>⟨a1,b1,c1,d1⟩
inductive qA5(a b c d e:Prop):Prop|i(_:a)(_:b)(_:c)(_:d)(_:e)
theorem qa5:a/\b/\c/\d/\e->qA5 a b c d e|⟨a1,b1,c1,d1,e1⟩=>⟨a1,b1,c1,d1,e1⟩
inductive qA6(a b c d e f:Prop):Prop|i(_:a)(_:b)(_:c)(_:d)(_:e)(_:f)
theorem qa6:a/\b/\c/\d/\e/\f->qA6 a b c d e f|⟨a1,b1,c1,d1,e1,f1⟩=>⟨a1,b1,c1,d1,e1,f1⟩
inductive qA7(a b c d e f g:Prop):Prop|i(_:a)(_:b)(_:c)(_:d)(_:e)(_:f)(_:g)
theorem qa7:a/\b/\c/\d/\e/\f/\g->qA7 a b c d e f g|⟨a1,b1,c1,d1,e1,f1,g1⟩=>⟨a1,b1,c1,d1,e1,f1,g1⟩
inductive qA8(a b c d e f g h:Prop):Prop|i(_:a)(_:b)(_:c)(_:d)(_:e)(_:f)(_:g)(_:h)
theorem qa8:a/\b/\c/\d/\e/\f/\g/\h->qA8 a b c d e f g h|⟨a1,b1,c1,d1,e1,f1,g1,h1⟩=>⟨a1,b1,c1,d1,e1,f1,g1,h1⟩
inductive qA9(a b c d e f g h i:Prop):Prop|i(_:a)(_:b)(_:c)(_:d)(_:e)(_:f)(_:g)(_:h)(_:i)
theorem qa9:a/\b/\c/\d/\e/\f/\g/\h/\i->qA9 a b c d e f g h i|⟨a1,b1,c1,d1,e1,f1,g1,h1,i1⟩=>⟨a1,b1,c1,d1,e1,f1,g1,h1,i1⟩
inductive qA11(a b c d e f g h i j k:Prop):Prop|i(_:a)(_:b)(_:c)(_:d)(_:e)(_:f)(_:g)(_:h)(_:i)(_:j)(_:k)
theorem qa11:a/\b/\c/\d/\e/\f/\g/\h/\i/\j/\k->qA11 a b c d e f g h i j k|⟨a1,b1,c1,d1,e1,f1,g1,h1,i1,j1,k1⟩=>⟨a1,b1,c1,d1,e1,f1,g1,h1,i1,j1,k1⟩
inductive qA12(a b c d e f g h i j k l:Prop):Prop|i(_:a)(_:b)(_:c)(_:d)(_:e)(_:f)(_:g)(_:h)(_:i)(_:j)(_:k)(_:l)
theorem qa12:a/\b/\c/\d/\e/\f/\g/\h/\i/\j/\k/\l->qA12 a b c d e f g h i j k l|⟨a1,b1,c1,d1,e1,f1,g1,h1,i1,j1,k1,l1⟩=>⟨a1,b1,c1,d1,e1,f1,g1,h1,i1,j1,k1,l1⟩
inductive qX1{a':Type}(p:a'->Prop):Prop|i(a:a')(_:p a)
inductive qX8{a' b' c' d' e' f' g' h':Type}(p:a'->b'->c'->d'->e'->f'->g'->h'->Prop):Prop|i(a:a')(b:b')(c:c')(d:d')(e:e')(f:f')(g:g')(h:h')(_:p a b c d e f g h)
inductive qA10(a b c d e f g h i j:Prop):Prop|i(_:a)(_:b)(_:c)(_:d)(_:e)(_:f)(_:g)(_:h)(_:i)(_:j)
inductive qA16(a b c d e f g h i j k l m n o p:Prop):Prop|i(_:a)(_:b)(_:c)(_:d)(_:e)(_:f)(_:g)(_:h)(_:i)(_:j)(_:k)(_:l)(_:m)(_:n)(_:o)(_:p)
namespace L2
open PySem PySem.Spec PyProof.Rows
abbrev Key:=Sum Int Str
def tY:Key->Value->Bool
 |.inl k,v=>Value.isInt k v
 |.inr x,v=>Value.isStrOf x v
def S8(w:World):Key->Int
 |.inl k=>hashInt k
 |.inr x=>hashStr w x
theorem nQ:∀{k:Key}{v:Value},tY k v=true->(∃i t,k=Sum.inl i/\v=Value.int i t)\/(∃x t,k=Sum.inr x/\v=Value.str x t)
 |.inl i,v,h=>by
  obtain⟨t,e⟩:=Value.isInt_shape h;exact .inl ⟨i,t,O,e⟩
 |.inr x,v,h=>by
  obtain⟨t,e⟩:=Value.isStrOf_shape h;exact .inr ⟨x,t,O,e⟩
theorem S9(i:Int)(t:Tok):tY (.inl i) (.int i t)=true:=by simp[tY,Value.isInt]
theorem S_(x:Str)(t:Tok):tY (.inr x) (.str x t)=true:=by simp[tY,Value.isStrOf]
theorem Ta(a b:Int):decide ((Sum.inl a:Key)=Sum.inl b)=(a==b):=by lia
theorem Tb(a b:Str):decide ((Sum.inr a:Key)=Sum.inr b)=decide (a=b):=by lia
theorem Tc(a:Int)(b:Str):decide ((Sum.inl a:Key)=Sum.inr b)=false:=O
theorem Td(a:Str)(b:Int):decide ((Sum.inr a:Key)=Sum.inl b)=false:=O
noncomputable def eQ(prog:Program)(w:World):PySem.KeyKind prog w Key where
 is:=tY
 hash:=S8 w
 inj:=λv a b l f=>by
  rcases nQ l with⟨i,t,rfl,rfl⟩|⟨x,t,rfl,rfl⟩
  ·rcases nQ f with⟨j,u,rfl,e⟩|⟨y,u,rfl,e⟩
   ·injection e with c _;rw[c]
   ·exact nomatch e
  ·rcases nQ f with⟨j,u,rfl,e⟩|⟨y,u,rfl,e⟩
   ·exact nomatch e
   ·injection e with c _;rw[c]
 byValue:=λk v h=>by
  rcases nQ h with⟨i,t,rfl,rfl⟩|⟨x,t,rfl,rfl⟩ <;>rfl
 pyHash:=λd h=>by
  rcases nQ d with⟨i,t,rfl,rfl⟩|⟨x,t,rfl,rfl⟩
  ·exact wpAny_pyHash_int h
  ·exact wpAny_pyHash_str h
 eqBool:=λg d h=>by
  rcases nQ g with⟨i,t,rfl,rfl⟩|⟨x,t,rfl,rfl⟩
  ·rcases nQ d with⟨j,u,rfl,rfl⟩|⟨y,u,rfl,rfl⟩
   ·rw[Ta] at h;exact wpAny_eqBool_int h
   ·rw[Tc] at h;exact SeqAt.EqAt.int_str i t y u _ _ _ _ h
  ·rcases nQ d with⟨j,u,rfl,rfl⟩|⟨y,u,rfl,rfl⟩
   ·rw[Td] at h;exact SeqAt.EqAt.str_int x t j u _ _ _ _ h
   ·rw[Tb] at h;exact wpAny_eqBool_str h
 «strs»:=λk x t v h=>by
  rcases nQ h with⟨i,u,rfl,e⟩|⟨y,u,rfl,e⟩
  ·exact nomatch e
  ·injection e with c _
   subst c;cases v<;>rfl
theorem HQ(prog:Program)(w:World)(i:Int)(t:Tok):(eQ prog w).is (.inl i) (.int i t)=true:=S9 i t
theorem yM(prog:Program)(w:World)(x:Str)(t:Tok):(eQ prog w).is (.inr x) (.str x t)=true:=S_ x t
inductive V where
 |aD|bl (b:Bool)|int (i:Int)|str (x:Str)|hX (b:Array UInt8)|pN (b:UInt64)|ref (a:Addr)|ty (n:String)
 deriving DecidableEq
def RelV:V->Value->Prop
 |.aD,u=>u=Value.none
 |.bl b,u=>u=Value.bool b
 |.int i,u=>∃t,u=Value.int i t
 |.str x,u=>∃t,u=Value.str x t
 |.hX b,u=>∃t,u=Value.bytes b t
 |.pN b,u=>∃t,u=Value.float b t
 |.ref a,u=>u=Value.ref a
 |.ty n,u=>u=Value.type n
abbrev Vals:List V->List Value->Prop:=Paired RelV
theorem Vals.length(r:Vals xs u):xs.length=u.length:=Paired.length r
theorem Vals.get:∀{xs:List V}{us:List Value}{i:Nat}{x:V},Vals xs us->xs[i]?=some x->∃u,us[i]?=some u/\RelV x u:=by
 intro _ _ i x h;induction h generalizing i with
 |nil=>intro e;simp at e
 |cons r _ ih=>
  intro e;cases i with
  |zero=>simp at e;subst e;exact⟨_,rfl,r⟩
  |succ i=>
   obtain⟨u,h1,h2⟩:=ih (by simpa using e);exact⟨u,by simpa using h1,h2⟩
theorem Vals.set(r:RelV x u):∀{xs:List V}{s:List Value}(i:Nat),Vals xs s->Vals (xs.set i x) (s.set i u)
 |_,_,_,.nil=>.nil
 |_,_,0,.cons _ t=>.cons r t
 |_,_,i+1,.cons q t=>.cons q (Vals.set r i t)
theorem Vals.append:∀{xs ys:List V}{us ws:List Value},Vals xs us->Vals ys ws->Vals (xs++ys) (us++ws):=by
 intro _ _ _ _ h s;induction h with
 |nil=>exact s
 |cons r _ i=>exact .cons r i
theorem Vals.take:∀{xs:List V}{u:List Value}(n:Nat),Vals xs u->Vals (xs.take n) (u.take n)
 |_,_,0,_=>.nil
 |_,_,_+1,.nil=>.nil
 |_,_,n+1,.cons r t=>.cons r (Vals.take n t)
theorem Vals.drop:∀{xs:List V}{u:List Value}(n:Nat),Vals xs u->Vals (xs.drop n) (u.drop n)
 |_,_,0,r=>r
 |_,_,_+1,.nil=>.nil
 |_,_,n+1,.cons _ t=>Vals.drop n t
def iA:Option V->Option Value->Prop
 |some v,some u=>RelV v u
 |none,none=>True
 |_,_=>False
def KV{a:Type}:List (a×V)->List (a×Value)->Prop:=Paired fun(p:a×V)(q:a×Value)=>p.1=q.1/\RelV p.2 q.2
def kV:Key->V
 |.inl i=>.int i
 |.inr x=>.str x
inductive HO where
 |lst (xs:List V)
 |tup (xs:List V)
 |dK (k:List (Key×V))|dT (k:List (List Key×V))
 |set (S:Int->Bool)(n:Nat)
 |ins (C j:Addr)(b:List (Str×V))
 |own (x:Addr)
 |xd (b:List (Str×V))
 |met (f x:Addr)
 |gc (lo h:Int)
 |bY (o:Obj)(u:HO)
 |mH (p:Array Value)
 |ext (c:Heap->Prop)
abbrev Hp:=Addr->Option HO
def upd(H:Hp)(a:Addr)(o:HO):Hp:=λb=>if b=a then some o else H b
theorem ar{o:HO}:upd H a o a=some o:=by unfold upd;rw[if_pos O]
theorem aF{a b:Addr}{o:HO}(h:b≠a):upd H a o b=H b:=by unfold upd;rw[if_neg h]
theorem yN{o u:HO}:upd (upd H a o) a u=upd H a u:=by
 funext b;unfold upd;split<;>rfl
theorem cI{H:Hp}{a b:Addr}{o u:HO}(h:H a=some o)(c:H b=some u)(d:o≠u):a≠b:=by lia
theorem a_{H:Hp}{a b:Addr}{o:HO}(h:H a=some o)(c:H b=none):a≠b:=by lia
section
variable(P:Program)(w:World)
def cT(H:Hp)(h:Heap)(a:Addr):HO->Prop
 |.lst xs=>xs.length<=sizeLine/\∃(b:List Value)(n:Nat),Vals xs b/\h.get? a=some {cls:=.type "list",data:=.seq b.toArray n}
 |.tup xs=>xs.length<=sizeLine/\∃b:List Value,Vals xs b/\IsTup h a b.toArray
 |.dK k=>k.length<=sizeLine/\(a==sysModules)=false/\∃vs,KV k vs/\h.DictOf (eQ P w) a vs
 |.dT k=>k.length<=sizeLine/\(a==sysModules)=false/\∃xs:List (List Key×Addr×Value),
   Paired (fun(p:List Key×V)(q:List Key×Addr×Value)=>p.1=q.1/\H q.2.1=some (.tup<|p.1.map kV)/\RelV p.2 q.2.2) k xs/\
   ∃o i r,h.get? a=some o/\o.ExactDict/\o.data=.dict i r/\i.toList=xs.map (entryOfKey<|tupleKind<|eQ P w)/\(xs.map (·.1)).Nodup
 |.set S n=>h.SetOf (intKind P w) a S n
 |.ins C d s=>H d=some (.own a)/\s.length<=1000/\d≠a/\h.get? a=some (instObj C d)/\
   ∃m,h.Ns1 d m/\(∀f,iA (s.lookup f)<|m f)/\PySem.Within m (s.map (·.1))
 |.own _=>∃o,h.get? a=some o
 |.xd s=>∃m,h.Ns1 a m/\∀f,iA (s.lookup f) (m f)
 |.gc lo l=>∃t u v,h.get? a=some {cls:=.type "range",data:=.fields #[.int lo t,.int l u,.int 1 v]}
 |.bY o u=>h.get? a=some o/\cT H h a u
 |.mH j=>h.get? a=some {cls:=.none,data:=.fields j}
 |.met f x=>h.get? a=some (methodObj (.ref f)<|.ref x)
 |.ext c=>c h/\(∃o,h.get? a=some o)/\∀g e:Heap,c g->(∀o,g.get? a=some o->e.get? a=some o)->c e
def cw(H:Hp)(h:Heap):Prop:= ∀a o,H a=some o->cT P w H h a o
end
section
variable{P:Program}{w:World}{H H':Hp}{h h':Heap}{a:Addr}{o:HO}
theorem cT.lt(x:cT P w H h a o):a<h.objs.size:=by
 cases o with
 |lst s=>obtain⟨_,_,_,_,e⟩:=x;exact Heap.lt_size e
 |tup s=>obtain⟨_,_,_,p⟩:=x;exact p.lt
 |dK k=>obtain⟨_,_,_,_,o,_,_,e,_⟩:=x;exact Heap.lt_size e
 |dT k=>obtain⟨_,_,_,_,o,_,_,e,_⟩:=x;exact Heap.lt_size e
 |set S n=>obtain⟨o,_,_,_,e,_⟩:=x;exact Heap.lt_size e
 |ins C j b=>obtain⟨_,_,_,e,_⟩:=x;exact Heap.lt_size e
 |own y=>obtain⟨_,e⟩:=x;exact Heap.lt_size e
 |xd b=>obtain⟨_,⟨_,_,_,e,_⟩,_⟩:=x;exact Heap.lt_size e
 |gc l i=>obtain⟨_,_,_,e⟩:=x;exact Heap.lt_size e
 |bY g u=>obtain⟨e,_⟩:=x;exact Heap.lt_size e
 |mH d=>exact Heap.lt_size (show h.get? a=some _ from x)
 |met f y=>exact Heap.lt_size (show h.get? a=some _ from x)
 |ext c=>obtain⟨_,⟨_,e⟩,_⟩:=x;exact Heap.lt_size e
theorem Paired.Cr{F G:α->β->Prop}:∀{l₁:List α}{l₂:List β},Paired F l₁ l₂->(∀ a b,F a b->G a b)->Paired G l₁ l₂:=by
 intro _ _ h f;induction h with
 |nil=>exact .nil
 |cons r _ i=>exact .cons (f _ _ r) i
theorem cT.mI(x:cT P w H h a o)(k:∀b u,(b=a\/H b=some (.own a))->h.get? b=some u->h'.get? b=some u)(K:∀b,H b=some (.own a)->H' b=some (.own a))(ht:∀b xs,H b=some (.tup xs)->H' b=some (.tup xs)):cT P w H' h' a o:=by
 induction o with
 |lst xs=>obtain⟨z,A,n,r,e⟩:=x;exact⟨z,A,n,r,k _ _ (.inl O) e⟩
 |tup xs=>obtain⟨z,A,r,g,e,c⟩:=x;exact⟨z,A,r,g,k _ _ (.inl O) e,c⟩
 |dK l=>obtain⟨z,y,E,r,g,s,i,e,c⟩:=x;exact⟨z,y,E,r,g,s,i,k _ _ (.inl O) e,c⟩
 |dT l=>
  obtain⟨z,y,xs,r,g,s,i,e,c⟩:=x;exact⟨z,y,xs,Paired.Cr r λp q z=>⟨z.1,ht _ _ z.2.1,z.2.2⟩,g,s,i,k _ _ (.inl O) e,c⟩
 |set S n=>obtain⟨g,s,i,t,e,c⟩:=qx4 x;exact⟨g,s,i,t,k _ _ (.inl O) e,c⟩
 |ins C Z N=>
  obtain⟨d,z,G,e,m,⟨j,s,i,Q,c⟩,r⟩:=x;exact⟨K _ d,z,G,k _ _ (.inl O) e,m,⟨j,s,i,k _ _ (.inr d) Q,c⟩,r⟩
 |own y=>obtain⟨g,e⟩:=x;exact⟨g,k _ _ (.inl O) e⟩
 |xd N=>obtain⟨m,⟨j,s,i,e,c⟩,r⟩:=x;exact⟨m,⟨j,s,i,k _ _ (.inl O) e,c⟩,r⟩
 |gc V X=>obtain⟨t,u,v,e⟩:=x;exact⟨t,u,v,k _ _ (.inl O) e⟩
 |bY g u I=>obtain⟨e,q⟩:=x;exact⟨k _ _ (.inl O) e,I q⟩
 |mH T=>
  have e:=x;exact k a _ (.inl O) e
 |met f y=>
  have e:=x;exact k a _ (.inl O) e
 |ext R=>obtain⟨p,⟨o,e⟩,D⟩:=x;exact⟨D _ _ p λo q=>k _ _ (.inl O) q,⟨o,k _ _ (.inl O) e⟩,D⟩
theorem cw.lt(x:cw P w H h)(e:H a=some o):a<h.objs.size:=(x a o e).lt
theorem cw.fresh(x:cw P w H h)(e:h.objs.size<=a):H a=none:=by
 cases q:H a with
 |none=>rfl
 |some u=>exact absurd (zaq (x.lt q) e) (zaC _)
theorem cw.kept(x:cw P w H h)(k:∀b u,h.get? b=some u->h'.get? b=some u):cw P w H h':=λa o e=>
 (x a o e).mI (λb u _ q=>k b u q) (λ_ q=>q) λ_ _ q=>q
theorem cw.laid(x:cw P w H h)(k:∀b u,h.get? b=some u->h'.get? b=some u)(p:h.objs.size<=a)(n:cT P w (upd H a o) h' a o):cw P w (upd H a o) h':=λb u e=>by
 have d:=x.fresh p;by_cases f:b=a;subst f;rw[ar] at e;cases e;exact n;rw[aF f] at e;exact(x b u e).mI (λc v _ q=>k c v q) (λc q=>by rw[aF<|a_ q d];exact q) λc s q=>by rw[aF<|a_ q d];exact q
end
def Rd(H:Hp)(a:Addr)(u:HO):Prop:=H a=some u\/∃o,H a=some (.bY o u)
theorem Rd.ok{H:Hp}{h:Heap}{a:Addr}{u:HO}(r:Rd H a u)(x:cw P w H h):cT P w H h a u:=by
 rcases r with r|⟨o,r⟩
 exact x a u r;obtain⟨_,q⟩:=x a _ r;exact q
def vL:Option HO->Prop
 |some (.lst _)=>True
 |some (.dK _)=>True
 |some (.dT _)=>True
 |some (.set _ _)=>True
 |some (.ins _ _ _)=>True
 |some (.ext _)=>True
 |_=>False
section
variable{P:Program}{w:World}{H:Hp}{h h':Heap}{x e:Addr}{o':HO}
theorem cw.write(o:cw P w H h)(m:vL (H x))(i:e=x\/H e=some (.own x))(k:∀b u,b≠e->h.get? b=some u->h'.get? b=some u)(t:∃u,h'.get? e=some u)(n:cT P w (upd H x o') h' x o'):cw P w (upd H x o') h':=λb u q=>by
 have R:∀c y,H c=some (.own y)->c≠x:=λc y r z=>by subst z;rw[r] at m;exact m
 have T:∀c s,H c=some (.tup s)->c≠x:=λc s r z=>by subst z;rw[r] at m;exact m
 by_cases d:b=x;subst d;rw[ar] at q;cases q;exact n;rw[aF d] at q;by_cases f:b=e;have g:H b=some (.own x):=by
  rcases i with z|z
  exact absurd (f.trans z) d;rw[f];exact z
 rw[q] at g;cases g;obtain⟨v,j⟩:=t;exact⟨v,by lia⟩;refine(o b u q).mI (λc v a r=>k c v ?_ r) (λc r=>by rw[aF<|R c b r];exact r) λc s r=>by rw[aF<|T c s r];exact r
 rcases a with rfl|a
 exact f;rintro rfl;rcases i with z|z
 exact R c b a z;rw[a] at z;cases z;exact d O
end
structure Un(fs ex:List Addr)(H H':Hp)(h h':Heap):Prop where
 keep:∀b o,h.get? b=some o->H b=none->b∉fs->b∉ex->h'.get? b=some o
 slot:∀b o,h.get? b=some o->H b=none->b∈fs->b∉ex->∃sl,h'.get? b=some {o with slots:=sl}
 free:∀b o,h.get? b=some o->H b=none->b∉ex->H' b=none
 there:∀b o,h.get? b=some o->b∉ex->∃o',h'.get? b=some o'
 bU:∀b xs,H b=some (.tup xs)->H' b=some (.tup xs)
 gQ:∀b o u,H b=some (.bY o u)->H' b=some (.bY o u)
 iB:∀b ps,H b=some (.mH ps)->∃more,H' b=some (.mH<|ps++more)
section
variable{fs fs' ex ex':List Addr}{H H1 H2:Hp}{h h1 h2 h':Heap}{a x e:Addr}{o:HO}
theorem Un.any(u:Un fs ex H H1 h h1){b:Addr}{c:Obj}(q:h.get? b=some c)(n:H b=none)(d:b∉ex):∃s,h1.get? b=some {c with slots:=s}:=by
 by_cases f:b∈fs;exact u.slot b c q n f d;exact⟨c.slots,u.keep b c q n f d⟩
theorem Un.kept(k:∀b u,h.get? b=some u->h'.get? b=some u):Un fs ex H H h h':=
 ⟨λb c q _ _ _=>k b c q,λb c q _ _ _=>⟨c.slots,k b c q⟩,λ_ _ _ n _=>n,λb c q _=>⟨c,k b c q⟩,λ_ _ q=>q,λ_ _ _ q=>q,λ_ p q=>⟨#[],by rw[q];simp⟩⟩
theorem Un.refl:Un fs ex H H h h:=Un.kept λ_ _ q=>q
theorem Un.laid(k:∀b u,h.get? b=some u->h'.get? b=some u)(p:h.objs.size<=a)(c:H a=none):Un fs ex H (upd H a o) h h' where
 keep:=λb u q _ _ _=>k b u q
 slot:=λb u q _ _ _=>⟨u.slots,k b u q⟩
 free:=λb u q n _=>by rw[aF<|zan<|zaq (Heap.lt_size q) p];exact n
 there:=λb u q _=>⟨u,k b u q⟩
 bU:=λb s q=>by rw[aF<|a_ q c];exact q
 gQ:=λb u s q=>by rw[aF<|a_ q c];exact q
 iB:=λb d q=>⟨#[],by rw[aF<|a_ q c,q];simp⟩
theorem Un.write(d:vL (H x))(i:e=x\/H e=some (.own x))(k:∀b u,b≠e->h.get? b=some u->h'.get? b=some u)(t:∃u,h'.get? e=some u):Un fs ex H (upd H x o) h h':=by
 have f:∀b,H b=none->b≠x:=λb n z=>by subst z;rw[n] at d;exact d
 have g:∀b,H b=none->b≠e:=λb n z=>by
  subst z;rcases i with r|r
  exact f b n r;rw[n] at r;cases r
 have m:∀b u,H b=some u-> ¬vL (some u)->b≠x:=λb u q j z=>by lia
 refine⟨λb u q n _ _=>k b u (g b n) q,λb u q n _ _=>⟨u.slots,k b u (g b n) q⟩,λb u q n _=>by rw[aF (f b n)];exact n,λb u q _=>?_,
  λb s q=>by rw[aF (m b _ q λz=>z)];exact q,λb u s q=>by rw[aF (m b _ q λz=>z)];exact q,λb p q=>⟨#[],by rw[aF (m b _ q λz=>z),q];simp⟩⟩
 by_cases c:b=e;subst c;exact t;exact⟨u,k b u c q⟩
end
noncomputable def eZ(h:Heap)(H:Hp):List Addr:=(List.range h.objs.size).filter λa=>(H a).isSome
def nR(h:Heap)(H:Hp):Heap:=hideAll h (eZ h H)
theorem Tf(h:Heap)(H:Hp):(nR h H).objs.size=h.objs.size:=PySem.W.hideAll_size _ _
theorem Tg{H:Hp}{b:Addr}{o:Obj}(e:h.get? b=some o)(n:H b=none):(nR h H).get? b=some o:=
 hideAll_get _ e λm=>by
  have q:=(List.mem_filter.mp m).2;rw[n] at q;simp at q
theorem Th{b:Addr}{o:Obj}(e:(nR h H).get? b=some o):h.get? b=some o/\H b=none:=by
 have a:=of_hideAll (eZ h H) e;refine⟨a,?_⟩;cases q:H b with
 |none=>rfl
 |some x=>
  have m:b∈eZ h H:=List.mem_filter.mpr ⟨zbH.mpr<|Heap.lt_size a,by simp[q]⟩;have z:(nR h H).get? b=none:=PySem.W.hideAll_none (eZ h H) m;rw[z] at e;cases e
structure Mod(K:Frag)(mg:Str->Option Value)(base:Heap):Prop where
 rA:K.In base
 glob:base.Ns mainGlobals mg
 blt:∃mb,base.Ns builtinsNs mb/\∀x:Str,x≠"__name__"->mb x=bootBuiltins x
 nolimit:base.NoLimit
structure Cx where
 prog:Program
 w:World
 K:Frag
 mg:Str->Option Value
 base:Heap
 A:Around
 N:List Str
 s₀:Shared
 H₀:Hp
 env:Env
 outer:List Env
 stack:List Env
 ex:List Addr
 fn:Str->Bool
 calm:Bool
 pn:List (Addr×Obj)
 xe:Value->Shared->Prop
noncomputable def bR(l:List Env):List Addr:=l.filterMap (·.frame)
abbrev Cx.fs(X:Cx):List Addr:=bR X.outer
def yO(s:Scope)(x:Str):Prop:=s.names.lookup x=some .local\/s.names.lookup x=some .cell\/s.names.lookup x=some .free
def Loc(s:Scope)(x:Str):Prop:=s.names.lookup x=some .local\/s.names.lookup x=some .cell
def Look(env:Env)(h:Heap)(m:Str->Option Value)(x:Str)(u:Value):Prop:=
 (env.kindOf x=some .local/\m x=some u)\/((env.kindOf x=some .cell\/env.kindOf x=some .free)/\∃c,env.cells.lookup x=some c/\h.IsCell c (some u))
structure Cx.Ok(X:Cx):Prop where
 mod:Mod X.K X.mg X.base
 kind:X.env.scope.kind=.function
 glob:X.env.globals=mainGlobals
 blt:X.env.builtins=builtinsNs
 above:X.s₀.heap.objs.size<=X.env.locals
 inj:∀x y c,X.env.cells.lookup x=some c->X.env.cells.lookup y=some c->x=y
 has:∀x,(X.env.kindOf x=some .cell\/X.env.kindOf x=some .free)->∃c,X.env.cells.lookup x=some c
 yP:∀x c,X.fn x=true->X.env.cells.lookup x=some c->X.s₀.heap.objs.size<=c
 hd:X.calm=true->X.A.handled=none
 frames:X.A.frames=some X.stack
 ke:X.stack=X.outer\/(X.stack=X.env::X.outer/\X.env.frame=some X.env.locals)
 Ti:∀b∈X.ex,b≠X.env.locals/\∀x c,X.env.cells.lookup x=some c->c≠b
 bs:∀b o,X.base.get? b=some o->X.s₀.heap.get? b=some o/\X.H₀ b=none
 pO:X.base.objs.size<=X.s₀.heap.objs.size
 yQ:∀b o,X.base.get? b=some o->b∉X.ex
 yR:∀b∈X.ex,b∉X.fs
 kf:X.s₀.heap.FunFrames X.base X.outer
 rB:∀b∈X.fs,X.H₀ b=none
structure Inv(X:Cx)(pins:List (Addr×Obj))(σ:List (Option V))(H:Hp)(s:Shared):Prop where
 ok:X.Ok
 os:s.os=X.s₀.os
 bare:AllBare s.gens
 base:Un X.fs X.ex X.H₀ H X.s₀.heap s.heap
 loc:∃m,s.heap.Ns X.env.locals m/\∀(i:Nat)(x:Str)(v:V),X.N[i]?=some x->σ[i]?=some (some v)->yO X.env.scope x->∃u,RelV v u/\Look X.env s.heap m x u
 cell:∀x c,X.env.cells.lookup x=some c->∃v,s.heap.IsCell c v
 free:H X.env.locals=none
 i5:∀x c,X.env.cells.lookup x=some c->H c=none
 pin:∀p∈X.pn++pins,s.heap.get? p.1=some p.2/\H p.1=none/\p.1≠X.env.locals/\p.1∉X.fs/\∀v,p.2.data≠ .cell v
 aG:cw X.prog X.w H s.heap
 len:σ.length=X.N.length
section
variable{X:Cx}{pins:List (Addr×Obj)}{σ:List (Option V)}{H H':Hp}{s:Shared}{h':Heap}
theorem Cx.Ok.Tj(k:X.Ok){b:Addr}{o:Obj}(e:X.base.get? b=some o):b∉X.fs:=λh=>by
 have:=(k.kf.mem h).1;rw[e] at this;cases this
theorem Inv.bs(I:Inv X pins σ H s):∀b o,X.base.get? b=some o->s.heap.get? b=some o/\H b=none:=λb o e=>
 ⟨I.base.keep b o (I.ok.bs b o e).1 (I.ok.bs b o e).2 (I.ok.Tj e)<|I.ok.yQ b o e,I.base.free b o (I.ok.bs b o e).1 (I.ok.bs b o e).2<|I.ok.yQ b o e⟩
theorem Inv.bk(I:Inv X pins σ H s):∀b o,X.base.get? b=some o->s.heap.get? b=some o:=λb o e=>(I.bs b o e).1
theorem Inv.mod(I:Inv X pins σ H s):Mod X.K X.mg X.base:=I.ok.mod
theorem Inv.dv(I:Inv X pins σ H s):X.K.In s.heap:=I.ok.mod.rA.keeps I.bk
theorem Inv.lt(I:Inv X pins σ H s):X.env.locals<s.heap.objs.size:=let ⟨_,h,_⟩:=I.loc;h.lt
theorem Inv.sz(I:Inv X pins σ H s):X.s₀.heap.objs.size<=s.heap.objs.size:=zat I.ok.above (zby I.lt)
theorem Inv.HS(I:Inv X pins σ H s){a:Addr}(h:s.heap.objs.size<=a):a∉X.fs:=λc=>by
 obtain⟨_,o,b,_⟩:=I.ok.kf.mem c;exact absurd (zaq (Heap.lt_size b)<|zat I.sz h)<|zaC _
theorem Inv.rC(I:Inv X pins σ H s):∀x c,X.env.cells.lookup x=some c->c≠X.env.locals:=λx c e z=>by
 obtain⟨v,o,h,d⟩:=I.cell x c e;obtain⟨m,⟨a,b,p,g,n,_⟩,_⟩:=I.loc;rw[z,g] at h;cases h;rw[n] at d;cases d
theorem Inv.kf(I:Inv X pins σ H s):s.heap.FunFrames X.base X.outer:=by
 have f:∀(l:List Env),(∀b∈bR l,b∈X.fs)->X.s₀.heap.FunFrames X.base l->s.heap.FunFrames X.base l:=by
  intro l;induction l with
  |nil=>intro _ _;trivial
  |cons v r i=>
   intro g m;obtain⟨p,⟨a,o,h,n,k,q⟩,j⟩:=m;have d:=g a (by unfold bR;rw[zbI,h];exact zau);obtain⟨t,e⟩:=I.base.slot a o k (I.ok.rB a d) d λz=>I.ok.yR a z d;exact⟨p,⟨a,_,h,n,e,q⟩,i (λb c=>g b (by unfold bR;rw[zbI,h];exact zar _ c)) j⟩
 exact f X.outer (λ_ c=>c) I.ok.kf
theorem Inv.stack(I:Inv X pins σ H s):s.heap.FunFrames X.base X.stack:=by
 rcases I.ok.ke with e|⟨e,f⟩
 rw[e];exact I.kf;rw[e];obtain⟨m,h,_⟩:=I.loc;refine .cons (by rw[I.ok.kind];decide) f h ?_ I.kf;exact Heap.get?_none_of_le<|zat I.ok.pO I.ok.above
theorem Inv.yS(I:Inv X pins σ H s):∀b∈bR X.stack,b∈X.env.locals::X.fs:=λb h=>by
 rcases I.ok.ke with e|⟨e,f⟩
 rw[e] at h;exact zar _ h;rw[e] at h;unfold bR at h;rw[zbI,f] at h;exact h
theorem Inv.yT(I:Inv X pins σ H s):∀b∈bR X.stack,H b=none:=λb h=>by
 rcases zac.mp (I.yS b h) with e|h
 rw[e];exact I.free;obtain⟨_,o,a,_⟩:=I.ok.kf.mem h;exact I.base.free b o a (I.ok.rB b h) λz=>I.ok.yR b z h
theorem Inv.step{d':Drawn}{ch:List Addr}(I:Inv X pins σ H s)(N:∀b∈ch,(b∈X.ex\/X.s₀.heap.objs.size<=b)/\b≠X.env.locals/\(∀x c,X.env.cells.lookup x=some c->c≠b)/\∀p∈X.pn++pins,p.1≠b)(a:∀b o,b≠X.env.locals->b∉X.fs->b∉ch->s.heap.get? b=some o->H b=none->h'.get? b=some o)(t:∀b o,b≠X.env.locals->b∈X.fs->b∉ch->s.heap.get? b=some o->H b=none->∃R,h'.get? b=some {o with slots:=R})(f:∀b o,b∉ch->s.heap.get? b=some o->H b=none->H' b=none)(j:∀b o,b∉ch->s.heap.get? b=some o->∃D,h'.get? b=some D)(bU:∀b xs,H b=some (.tup xs)->H' b=some (.tup xs))(gQ:∀b o u,H b=some (.bY o u)->H' b=some (.bY o u))(W:∀b Q,H b=some (.mH Q)->∃E,H' b=some (.mH<|Q++E))(J:∀m,s.heap.Ns X.env.locals m->h'.Ns X.env.locals m)(aG:cw X.prog X.w H' h')(hg:AllBare g'):
  Inv X pins σ H' {s with heap:=h',gens:=g',drawn:=d',toks:=t'}:=by
 have U:∀b o,X.s₀.heap.get? b=some o->b≠X.env.locals:=λb o e=>zan (zaq (Heap.lt_size e) I.ok.above);have P:∀b o,X.s₀.heap.get? b=some o->b∉X.ex->b∉ch:=λb o e h y=>by
  rcases (N b y).1 with z|z
  exact h z;exact absurd (zaq (Heap.lt_size e) z) (zaC _)
 have K:∀x c,X.env.cells.lookup x=some c->∀v,s.heap.IsCell c v->h'.IsCell c v:=λx c e v ⟨o,A,S⟩=>by
  have C:=λz=>(N c z).2.2.1 x c e O;by_cases F:c∈X.fs;obtain⟨R,q⟩:=t c o (I.rC x c e) F C A (I.i5 x c e);exact⟨_,q,S⟩;exact⟨o,a c o (I.rC x c e) F C A<|I.i5 x c e,S⟩
 refine⟨I.ok,I.os,hg,⟨λb o e n y h=>?_,λb o e n y h=>?_,λb o e n h=>?_,λb o e h=>?_,λb xs e=>bU b xs<|I.base.bU b xs e,λb o xs e=>gQ b o xs<|I.base.gQ b o xs e,λb Q e=>?_⟩,?_,λx c e=>?_,?_,λx c e=>?_,λp B=>?_,aG,I.len⟩;exact a b o (U b o e) y (P b o e h) (I.base.keep b o e n y h) (I.base.free b o e n h);obtain⟨R,g⟩:=I.base.slot b o e n y h;obtain⟨Cs,G⟩:=t b _ (U b o e) y (P b o e h) g (I.base.free b o e n h);exact⟨Cs,G⟩;obtain⟨D,g⟩:=I.base.there b o e h;exact f b D (P b o e h) g<|I.base.free b o e n h;obtain⟨D,g⟩:=I.base.there b o e h;exact j b D (P b o e h) g;obtain⟨M,g⟩:=I.base.iB b Q e;obtain⟨L,G⟩:=W b _ g;exact⟨M++L,by rw[G,Array.append_assoc]⟩;obtain⟨m,Y,hl⟩:=I.loc;refine⟨m,J m Y,λi x v g G e3=>?_⟩;obtain⟨u,r,l⟩:=hl i x v g G e3;refine⟨u,r,?_⟩;rcases l with l|⟨k,c,e,z⟩
 exact .inl l;exact .inr ⟨k,c,e,K x c e _ z⟩;obtain⟨v,z⟩:=I.cell x c e;exact⟨v,K x c e v z⟩;obtain⟨m,⟨o,_,_,A,_⟩,_⟩:=I.loc;exact f _ o (λz=>(N _ z).2.1 O) A I.free;obtain⟨v,o,A,S⟩:=I.cell x c e;exact f c o (λz=>(N c z).2.2.1 x c e O) A<|I.i5 x c e;obtain⟨e,n,Z,T,d⟩:=I.pin p B;have C:=λz=>(N p.1 z).2.2.2 p B O;exact⟨a p.1 p.2 Z T C e n,f p.1 p.2 C e n,Z,T,d⟩
theorem Inv.un(I:Inv X pins σ H s)(u:Un X.fs [] H H' s.heap h')(G:cw X.prog X.w H' h'):Inv X pins σ H' {s with heap:=h',toks:=t'}:=by
 obtain⟨m,⟨o,p,q,a,r⟩,_⟩:=id I.loc;obtain⟨l,f⟩:=u.any a I.free (by simp);exact I.step (ch:=[]) (λ_ z=>nomatch z) (λb o _ h _ e n=>u.keep b o e n h (by lia)) (λb o _ h _ e n=>u.slot b o e n h (by lia)) (λb o _ e n=>u.free b o e n (by lia)) (λb o _ e=>u.there b o e (by lia)) u.bU u.gQ u.iB (λk d=>by
  obtain⟨j,i,C,g,c⟩:=d;rw[a] at g;cases g;exact⟨_,i,C,f,c⟩) G I.bare
theorem Inv.call{d':Drawn}{ch:List Addr}(I:Inv X pins σ H s)(u:Un (bR X.stack) ch H H' s.heap h')(G:cw X.prog X.w H' h')(k:AllBare g')(f:∀b∈ch,(b∈X.ex\/X.s₀.heap.objs.size<=b)/\b≠X.env.locals/\(∀x c,X.env.cells.lookup x=some c->c≠b)/\∀p∈X.pn++pins,p.1≠b):
  Inv X pins σ H' {s with heap:=h',gens:=g',drawn:=d',toks:=t'}:=by
 obtain⟨m,⟨o,A,D,d,r⟩,_⟩:=id I.loc;obtain⟨q,a⟩:=u.any d I.free λz=>(f _ z).2.1 O;exact I.step f (λb o a l h e n=>u.keep b o e n (λz=>(zac.mp (I.yS b z)).elim a l) h) (λb o _ _ h e n=>u.any e n h) (λb o h e n=>u.free b o e n h) (λb o h e=>u.there b o e h) u.bU u.gQ u.iB (λy j=>by
  obtain⟨v,C,t,g,i⟩:=j;rw[d] at g;cases g;exact⟨_,C,t,a,i⟩) G k
theorem Inv.turned{it:Addr}(I:Inv X pins σ H s)(k:∀b o,b≠it->s.heap.get? b=some o->h'.get? b=some o)(C:H it=none)(a:it≠X.env.locals)(t:it∈X.ex\/X.s₀.heap.objs.size<=it)(l:∀x c,X.env.cells.lookup x=some c->c≠it)(j:∀p∈X.pn++pins,p.1≠it):Inv X pins σ H {s with heap:=h',toks:=t'}:=by
 have d:∀b u,H b=some u->b≠it:=λb u e z=>by lia
 refine I.step (ch:=[it]) (λb i=>?_) (λb o _ _ h e _=>k b o (λz=>h (by simp[z])) e) (λb o _ _ h e _=>⟨o.slots,k b o (λz=>h (by simp[z])) e⟩) (λ_ _ _ _ n=>n)
  (λb o h e=>⟨o,k b o (λz=>h (by simp[z])) e⟩) (λ_ _ e=>e) (λ_ _ _ e=>e) (λb A e=>⟨#[],by rw[e];simp⟩) (λm g=>?_) (λb u e=>?_) I.bare
 have e:=by simpa using i
 subst e;exact⟨t,a,l,j⟩;obtain⟨o,w,y,f,r⟩:=g;exact⟨o,w,y,k _ o (Ne.symm a) f,r⟩;refine(I.aG b u e).mI (λc v h q=>k c v ?_ q) (λ_ q=>q) λ_ _ q=>q;rcases h with z|z
 rw[z];exact d b u e;exact d c _ z
theorem Inv.tok(I:Inv X pins σ H s)(t:Nat):Inv X pins σ H {s with toks:=t}:=I.un Un.refl I.aG
theorem Inv.kept(I:Inv X pins σ H s)(k:∀b u,s.heap.get? b=some u->h'.get? b=some u):Inv X pins σ H {s with heap:=h',toks:=t'}:=I.un (Un.kept k) (I.aG.kept k)
theorem Inv.laid{a:Addr}{o:HO}{t':Nat}(I:Inv X pins σ H s)(k:∀b u,s.heap.get? b=some u->h'.get? b=some u)(h:s.heap.objs.size<=a)(n:cT X.prog X.w (upd H a o) h' a o):
  Inv X pins σ (upd H a o) {s with heap:=h',toks:=t'}:=I.un (Un.laid k h<|I.aG.fresh h) (I.aG.laid k h n)
theorem Inv.write{t':Nat}(I:Inv X pins σ H s)(m:vL (H x))(h:e=x\/H e=some (.own x))(k:∀b u,b≠e->s.heap.get? b=some u->h'.get? b=some u)(t:∃u,h'.get? e=some u)(n:cT X.prog X.w (upd H x o) h' x o):Inv X pins σ (upd H x o) {s with heap:=h',toks:=t'}:=I.un (Un.write m h k t) (I.aG.write m h k t n)
theorem Inv.t4(I:Inv X pins σ H s)(h:∀p∈pins',s.heap.get? p.1=some p.2/\H p.1=none/\p.1≠X.env.locals/\p.1∉X.fs/\∀v,p.2.data≠ .cell v):Inv X pins' σ H s:=
 ⟨I.ok,I.os,I.bare,I.base,I.loc,I.cell,I.free,I.i5,λp a=>(zad.mp a).elim (λz=>I.pin p<|zav _ z)<|h p,I.aG,I.len⟩
theorem HW{N:List Str}(h:N.Nodup){i j:Nat}{x:Str}(a:N[i]?=some x)(b:N[j]?=some x):i=j:=by
 obtain⟨f,c⟩:=zah.mp a;obtain⟨d,e⟩:=zah.mp b;exact(List.getElem_inj h).mp<|c.trans e.symm
theorem HX{i:Nat}{x:Str}{v:V}{u:Value}{Q:Unit->Shared->Prop}(I:Inv X pins σ H s)(hN:X.N.Nodup)(R:X.N[i]?=some x)(C:Loc X.env.scope x)(r:RelV v u)(h:∀s',Inv X pins (σ.set i<|some v) H s'->(∃a,Heap.SameBut a s.heap s'.heap/\(a=X.env.locals\/X.env.cells.lookup x=some a))->Q () s')(hf:X.fn x=true\/X.env.scope.names.lookup x=some .local:=by first|exact .inl O|exact .inr O|assumption):wpAny M A (storeName X.env x u) Q E s:=by
 obtain⟨m,hn,hl⟩:=id I.loc;have Tn:(X.env.scope.kind==.class ||(X.env.scope.kind==.module && X.env.locals !=X.env.globals))=false:=I.ok.kind▸O;have HY:i<σ.length:=by rw[I.len];exact(zah.mp R).1
 have L:=I.rC;have t:∀{a:Addr}{h':Heap},(∃o,s.heap.get? a=some o/\H a=none)->Heap.SameBut a s.heap h'->cw X.prog X.w H h':=λ{a h'} ha f b ob e=>by
  obtain⟨_,_,t9⟩:=ha;refine(I.aG b ob e).mI (λc S l q=>(f.2 c ?_).trans q) (λ_ q=>q) λ_ _ q=>q;rintro rfl;rcases l with rfl|l
  rw[t9] at e;cases e;rw[t9] at l;cases l
 rcases C with G|G
 refine wpAny_storeName_local G hn (λh' Cu f=>?_) Tn;obtain⟨oL,_,_,To,_⟩:=id hn;refine h _ ⟨I.ok,I.os,I.bare,⟨λb o e n P C=>?_,λb o e n P C=>?_,I.base.free,λb o e C=>?_,I.base.bU,I.base.gQ,I.base.iB⟩,⟨_,Cu,λj y B g D e3=>?_⟩,λy c e=>?_,I.free,I.i5,λp hp=>?_,t ⟨oL,To,I.free⟩ f,by simpa using I.len⟩ ⟨_,f,.inl O⟩;exact(f.2 b<|zan<|zaq (Heap.lt_size e) I.ok.above).trans (I.base.keep b o e n P C);obtain⟨J,g⟩:=I.base.slot b o e n P C;exact⟨J,(f.2 b<|zan<|zaq (Heap.lt_size e) I.ok.above).trans g⟩;obtain⟨W,g⟩:=I.base.there b o e C;exact⟨W,(f.2 b<|zan<|zaq (Heap.lt_size e) I.ok.above).trans g⟩;by_cases K:j=i;subst K;rw[R] at g;cases g;rw[zbJ HY] at D;cases D;exact⟨u,r,.inl ⟨G,by lia⟩⟩;rw[zaA<|Ne.symm K] at D;obtain⟨F,U,q⟩:=hl j y B g D e3;refine⟨F,U,?_⟩;rcases q with⟨k,e⟩|⟨k,c,e,z⟩
 refine .inl ⟨k,?_⟩;have:y≠x:=λe=>K (HW hN g<|e ▸ R);simp[this,e];exact .inr ⟨k,c,e,z.sameBut f<|L y c e⟩;obtain⟨S,z⟩:=I.cell y c e;exact⟨S,z.sameBut f<|L y c e⟩;obtain⟨e,n,T,Y,d⟩:=I.pin p hp;exact⟨(f.2 p.1 T).trans e,n,T,Y,d⟩;have Cv:X.fn x=true:=by
  rcases hf with z|z
  exact z;rw[z] at G;cases G
 obtain⟨c,l⟩:=I.ok.has x (.inl G);obtain⟨S,z⟩:=I.cell x c l;refine wpAny_storeName_cell I.ok.kind G l z<|λh' fS f=>?_;obtain⟨oc,HZ,Tp⟩:=id z;refine h {s with heap:=h'} ⟨I.ok,I.os,I.bare,⟨λb o e n P C=>?_,λb o e n P C=>?_,I.base.free,λb o e C=>?_,I.base.bU,I.base.gQ,I.base.iB⟩,⟨m,hn.sameBut f<|Ne.symm<|L x c l,λj y B g D e3=>?_⟩,λy Z e=>?_,I.free,I.i5,λp hp=>?_,t ⟨oc,HZ,I.i5 x c l⟩ f,by simpa using I.len⟩ ⟨c,f,.inr l⟩;exact(f.2 b<|zan<|zaq (Heap.lt_size e)<|I.ok.yP x c Cv l).trans (I.base.keep b o e n P C);obtain⟨J,g⟩:=I.base.slot b o e n P C;exact⟨J,(f.2 b<|zan<|zaq (Heap.lt_size e)<|I.ok.yP x c Cv l).trans g⟩;obtain⟨W,g⟩:=I.base.there b o e C;exact⟨W,(f.2 b<|zan<|zaq (Heap.lt_size e)<|I.ok.yP x c Cv l).trans g⟩;by_cases K:j=i;subst K;rw[R] at g;cases g;rw[zbJ HY] at D;cases D;exact⟨u,r,.inr ⟨.inl G,c,l,fS⟩⟩;rw[zaA<|Ne.symm K] at D;obtain⟨F,U,q⟩:=hl j y B g D e3;refine⟨F,U,?_⟩;rcases q with q|⟨k,Z,e,z'⟩
 exact .inl q;refine .inr ⟨k,Z,e,z'.sameBut f ?_⟩;rintro rfl;exact K<|HW hN g<|I.ok.inj _ _ _ e l ▸ R;by_cases yV:Z=c;subst yV;exact⟨_,fS⟩;obtain⟨w2,z2⟩:=I.cell y Z e;exact⟨w2,z2.sameBut f yV⟩;obtain⟨e,n,T,Y,d⟩:=I.pin p hp;refine⟨(f.2 p.1 ?_).trans e,n,T,Y,d⟩;intro q;exact d S (by lia)
theorem Cw{E:Value->Shared->Prop}{i:Nat}{x:Str}{v:V}{u:Value}{Q:Unit->Shared->Prop}(I:Inv X pins σ H s)(c:X.N.Nodup)(b:X.N[i]?=some x)(a:Loc X.env.scope x)(r:RelV v u)(h:∀s',Inv X pins (σ.set i<|some v) H s'->Q () s')(f:X.fn x=true\/X.env.scope.names.lookup x=some .local:=by first|exact .inl O|exact .inr O|assumption):wpAny M A (storeName X.env x u) Q E s:=
 HX I c b a r (λs' d _=>h s' d) f
theorem Inv.Cy{ch:List Addr}(I:Inv X pins σ H s)(h:s'.os=s.os)(u:Un (bR X.stack) ch H H' s.heap s'.heap)(G:cw X.prog X.w H' s'.heap)(g:AllBare s'.gens)(a:∀b∈ch,(b∈X.ex\/X.s₀.heap.objs.size<=b)/\b≠X.env.locals/\(∀x c,X.env.cells.lookup x=some c->c≠b)/\∀p∈X.pn++pins,p.1≠b):Inv X pins σ H' s':=by
 obtain⟨h',d,e,t,o⟩:=s';subst h;exact I.call u G g a
end
abbrev XK:=Value->Option Addr->Hp->Prop
abbrev St:=List (Option V)
abbrev VK:=V->Hp->Prop
abbrev TE:=St->Hp->VK->Prop
abbrev TT:=St->Hp->(Bool->Hp->Prop)->Prop
abbrev TA:=St->Hp->(List V->Hp->Prop)->Prop
structure Ends where
 nx:St->Hp->Prop
 rt:VK
 bk:St->Hp->Prop:=λ_ _=>False
 ct:St->Hp->Prop:=λ_ _=>False
abbrev TS:=Ends->St->Hp->Prop
inductive EP(X:Cx)(p:List (Addr×Obj))(a:St)(Q:VK)(u:Value)(s':Shared):Prop|i(v H')(_:Inv X p a H' s')(_:RelV v u)(_:Q v H')
inductive TP(X:Cx)(p:List (Addr×Obj))(a:St)(Q:Bool->Hp->Prop)(b:Bool)(s':Shared):Prop|i(H')(_:Inv X p a H' s')(_:Q b H')
inductive AP(X:Cx)(p:List (Addr×Obj))(a:St)(Q:List V->Hp->Prop)(u:List Value)(s':Shared):Prop|i(vs H')(_:Inv X p a H' s')(_:Vals vs u)(_:Q vs H')
def SP(X:Cx)(p:List (Addr×Obj))(D:Ends)(f:Flow)(s':Shared):Prop:=
 match f with
 |.next=>∃a H',Inv X p a H' s'/\D.nx a H'
 |.brk=>∃a H',Inv X p a H' s'/\D.bk a H'
 |.cont=>∃a H',Inv X p a H' s'/\D.ct a H'
 |.ret u=>∃v a H',Inv X p a H' s'/\RelV v u/\D.rt v H'
def PE(X:Cx)(e:Expr)(t:TE):Prop:=
 ∀(p:List (Addr×Obj))(s:Shared)(a:St)(H:Hp)(Q:VK),Inv X p a H s->t a H Q->wpAny (model X.prog X.w) X.A (eval e X.env) (EP X p a Q) X.xe s
def PT(X:Cx)(e:Expr)(t:TT):Prop:=
 ∀(p:List (Addr×Obj))(s:Shared)(a:St)(H:Hp)(Q:Bool->Hp->Prop),Inv X p a H s->t a H Q->wpAny (model X.prog X.w) X.A (isTrue e X.env<|eval e X.env) (TP X p a Q) X.xe s
def PW(X:Cx)(e:Expr)(t:TT):Prop:=
 ∀(a:Sem Value)(p:List (Addr×Obj))(s:Shared)(b:St)(H:Hp)(Q:Bool->Hp->Prop),Inv X p b H s->t b H Q->wpAny (model X.prog X.w) X.A (isTrue e X.env a) (TP X p b Q) X.xe s
theorem PW.pt{X:Cx}{e:Expr}{t:TT}(h:PW X e t):PT X e t:=h _
def PA(X:Cx)(e:List Expr)(t:TA):Prop:=
 ∀(b:Pos)(p:List (Addr×Obj))(s:Shared)(a:St)(H:Hp)(Q:List V->Hp->Prop),Inv X p a H s->t a H Q->wpAny (model X.prog X.w) X.A (spliced<|backTo b<|starEach e X.env) (AP X p a Q) X.xe s
def PS(X:Cx)(st:Stmt)(t:TS):Prop:=
 ∀(p:List (Addr×Obj))(s:Shared)(a:St)(H:Hp)(D:Ends),Inv X p a H s->t D a H->wpAny (model X.prog X.w) X.A (exec st X.env) (SP X p D) X.xe s
def dZ(X:Cx)(st:List Stmt)(t:TS):Prop:=
 ∀(p:List (Addr×Obj))(s:Shared)(a:St)(H:Hp)(D:Ends),Inv X p a H s->t D a H->wpAny (model X.prog X.w) X.A (execs st X.env) (SP X p D) X.xe s
theorem aM{Q b:c->Shared->Prop}{M:Model}{A:Around}{E:Value->Shared->Prop}{s:Shared}(h:wpAny M A t Q E s)(d:∀a s,Q a s->b a s):wpAny M A t b E s:=wpAny_mono h d λ_ _ x=>x
section
variable{X:Cx}
def Cz(i:Nat):TE:=λa H Q=>∃v,a[i]?=some (some v)/\Q v H
def tC(v:V):TE:=λ_ H Q=>Q v H
theorem Tq{a:Pos}(y:X.N[i]?=some x)(o:yO X.env.scope x)(d:(x==("__debug__":Str))=false:=by decide)(n:(x==("__classdict__":Str))=false:=by decide):PE X (.Name x a) (Cz i):=by
 intro p s j H Q I h;obtain⟨v,e,h⟩:=h;obtain⟨m,q,w⟩:=I.loc;obtain⟨u,r,l⟩:=w i x v y e o;have f:EP X p j Q u s:=⟨v,H,I,r,h⟩;rcases l with⟨k,t⟩|⟨k,c,b,g⟩
 exact wpAny_Name (wpAny_loadName_local I.ok.kind k q t f) d;rcases k with k|k
 exact wpAny_Name (wpAny_loadName_cell I.ok.kind k b g f) d;exact wpAny_Name (wpAny_loadName_free I.ok.kind k b g f n) d
theorem Ts:PE X (.Constant (.int i) j p) (tC<|.int i):=λ_ _ _ H _ I h=>wpAny_Constant_int ⟨.int i,H,I.tok _,⟨_,O⟩,h⟩
theorem Tt:PE X (.Constant (.bool b) j p) (tC<|.bl b):=λ_ _ _ H _ I h=>Constant_bool ⟨.bl b,H,I,O,h⟩
theorem Tu:PE X (.Constant .none j p) (tC .aD):=λ_ _ _ H _ I h=>Constant_none ⟨.aD,H,I,O,h⟩
theorem Tv:PE X (.Constant (.str x) j p) (tC<|.str x):=λ_ _ _ H _ I h=>Calls.Constant_str ⟨.str x,H,I.tok _,⟨_,O⟩,h⟩
def Gl(X:Cx)(x:Str):Prop:=X.env.kindOf x=some .globalImplicit
theorem vN{p:List (Addr×Obj)}{s:Shared}{b:St}{H:Hp}{x:Str}{u:Value}{a:Pos}{Q:Value->Shared->Prop}(I:Inv X p b H s)(g:Gl X x)(m:X.mg x=some u)(h:Q u s)(d:(x==("__debug__":Str))=false:=by decide):wpAny (model X.prog X.w) X.A (eval (.Name x a) X.env) Q E s:=
 Calls.Name_function_global I.ok.kind g (Calls.loadGlobal_global (I.ok.glob▸I.mod.glob.keeps I.bk) m h) d
theorem nV{E:Value->Shared->Prop}{p:List (Addr×Obj)}{s:Shared}{b:St}{H:Hp}{x:Str}{u:Value}{a:Pos}{Q:Value->Shared->Prop}(I:Inv X p b H s)(g:Gl X x)(m:X.mg x=none)(v:bootBuiltins x=some u)(h:Q u s)(n:x≠"__name__":=by decide)(d:(x==("__debug__":Str))=false:=by decide):wpAny (model X.prog X.w) X.A (eval (.Name x a) X.env) Q E s:=by
 obtain⟨f,e,c⟩:=I.mod.blt;exact Calls.Name_function_global I.ok.kind g (Calls.loadGlobal_builtin (I.ok.glob▸I.mod.glob.keeps I.bk) m (I.ok.blt▸e.keeps I.bk) ((c x n).trans v) h) d
theorem Ia{u:Value}{p:Pos}(g:Gl X x)(m:X.mg x=some u)(r:RelV v u)(d:(x==("__debug__":Str))=false:=by decide):PE X (.Name x p) (tC v):=
 λ_ _ _ H _ I h=>vN I g m ⟨v,H,I,r,h⟩ d
theorem Ib{u:Value}{p:Pos}(g:Gl X x)(m:X.mg x=none)(a:bootBuiltins x=some u)(r:RelV v u)(n:x≠"__name__":=by decide)(d:(x==("__debug__":Str))=false:=by decide):PE X (.Name x p) (tC v):=
 λ_ _ _ H _ I h=>nV I g m a ⟨v,H,I,r,h⟩ n d
variable{a b:Expr}{ta tb:TE}{pos:Pos}
def PC(X:Cx)(o:CmpOp)(a b:Expr)(t:TE):Prop:=
 ∀(p:List (Addr×Obj))(s:Shared)(e:St)(H:Hp)(Q:VK),Inv X p e H s->t e H Q->
  wpAny (model X.prog X.w) X.A (eval a X.env) (λv d=>wpAny (model X.prog X.w) X.A (eval b X.env) (λu c=>wpAny (model X.prog X.w) X.A (compareOp o v u) (EP X p e Q) X.xe c) X.xe d) X.xe s
def tB(t:TE):TT:=λd H Q=>t d H λx e=>∃c,x=.bl c/\Q c e
theorem Tw(h:PC X o a b t)(e:behindInMarks o b=false:=by first|exact akz _ (by decide) (by decide)|rfl):PT X (.Compare a [o] [b] pos) (tB t):=by
 intro p s f H Q I w;refine wpAny_isTrue_Compare1 (aM (h p s f H _ I w) λv n e=>aM e λu m i=>aM i λc l ⟨x,k,j,r,g⟩=>?_) e;obtain⟨d,rfl,q⟩:=g;cases r;exact wpAny_truthy_bool ⟨k,j,q⟩
variable{tA yW:TT}{rest:List Expr}
def Ic(t u:TT):TT:=λd H Q=>t d H λc e=>if c=true then u d e Q else Q false e
def Ie(t u:TT):TT:=λd H Q=>t d H λc e=>if c=true then Q true e else u d e Q
def Ig(t:TT):TT:=λd H Q=>t d H λc e=>Q (!c) e
theorem pw_and1(ha:PT X a tA):PW X (.BoolOp .And [a] pos) tA:=by
 intro wh pins s σ H Q I h;refine isTrue_and<|aM (ha pins s σ H Q I h) λc s1 e=>?_;cases c with
 |true=>exact isTrue_and_nil e
 |false=>exact e
theorem pw_or1(ha:PT X a tA):PW X (.BoolOp .Or [a] pos) tA:=by
 intro wh pins s σ H Q I h;refine isTrue_or<|aM (ha pins s σ H Q I h) λc s1 e=>?_;cases c with
 |false=>exact isTrue_or_nil e
 |true=>exact e
theorem pw_and(ha:PT X a tA)(hb:PW X (.BoolOp .And (b::rest) pos) yW):PW X (.BoolOp .And (a::b::rest) pos) (Ic tA yW):=by
 intro wh pins s σ H Q I h;refine isTrue_and<|aM (ha pins s σ H _ I h) λc s1 ⟨H1,I1,q1⟩=>?_;cases c with
 |true=>exact hb wh pins s1 σ H1 Q I1 q1
 |false=>exact⟨H1,I1,q1⟩
theorem pw_or(ha:PT X a tA)(hb:PW X (.BoolOp .Or (b::rest) pos) yW):PW X (.BoolOp .Or (a::b::rest) pos) (Ie tA yW):=by
 intro wh pins s σ H Q I h;refine isTrue_or<|aM (ha pins s σ H _ I h) λc s1 ⟨H1,I1,q1⟩=>?_;cases c with
 |true=>exact⟨H1,I1,q1⟩
 |false=>exact hb wh pins s1 σ H1 Q I1 q1
theorem Tx(e:PT X a tA):PT X (.UnaryOp .Not a pos) (Ig tA):=by
 intro p s d H Q I h;exact isTrue_not (aM (e p s d H (λc f=>Q (!c) f) I h) λ_ _⟨a,b,c⟩=>⟨a,b,c⟩)
def Ih(ta tb:TE):TE:=λd H Q=>ta d H λx e=>∃c,x=.bl c/\if c=true then tb d e Q else Q (.bl false) e
def Tz(ta tb:TE):TE:=λd H Q=>ta d H λx e=>∃c,x=.bl c/\if c=true then Q (.bl true) e else tb d e Q
theorem TB{t:TE}(h:PE X a t):PE X (.BoolOp o [a] pos) t:=λp s c H Q I w=>BoolOp_one (h p s c H Q I w)
theorem TC(j:PE X a ta)(i:PE X (.BoolOp .And (b::rest) pos) tb):PE X (.BoolOp .And (a::b::rest) pos) (Ih ta tb):=by
 intro p s d H Q I h;refine BoolOp_and<|aM (j p s d H _ I h) λv g ⟨x,f,e,r,q⟩=>?_;obtain⟨c,rfl,q⟩:=q;cases r;refine wpAny_truthy_bool ?_;cases c with
 |true=>exact i p g d f Q e q
 |false=>exact⟨.bl false,f,e,O,q⟩
def Ii(t:TT)(ta tb:TE):TE:=λd H Q=>t d H λc e=>if c=true then ta d e Q else tb d e Q
theorem TF(j:PT X c tA)(l:PE X a ta)(k:PE X b tb):PE X (.IfExp c a b pos) (Ii tA ta tb):=by
 intro p s e H Q I h;refine wpAny_IfExp<|aM (j p s e H _ I h) λd f ⟨i,g,q⟩=>?_;cases d with
 |true=>exact l p f e i Q g q
 |false=>exact k p f e i Q g q
end
def au(K:Frag)(H:Hp)(a:Addr)(xs:List V):Prop:=
 Rd H a (.lst xs)\/
  ∃(o:Obj)(b:Array Value)(n:Nat),K.lookup a=some o/\o.cls=.type "list"/\o.dict=none/\o.data=.seq b n/\b.size<=sizeLine/\Vals xs b.toList
def aJ(K:Frag)(H:Hp)(a:Addr)(xs:List V):Prop:=
 Rd H a (.tup xs)\/
  ∃(o:Obj)(b:Array Value)(n:Nat),K.lookup a=some o/\o.cls=.type "tuple"/\o.data=.seq b n/\b.size<=sizeLine/\Vals xs b.toList
noncomputable def TH:Value->Option V
 |.none=>some .aD
 |.bool b=>some (.bl b)
 |.int i _=>some (.int i)
 |.str x _=>some (.str x)
 |.bytes b _=>some (.hX b)
 |.float b _=>some (.pN b)
 |.ref a=>some (.ref a)
 |.type n=>some (.ty n)
 |_=>none
theorem RelV.abs(r:RelV x u):TH u=some x:=by
 cases x with
 |aD=>cases r;rfl
 |bl _=>cases r;rfl
 |int _=>obtain⟨t,rfl⟩:=r;rfl
 |str _=>obtain⟨t,rfl⟩:=r;rfl
 |hX _=>obtain⟨t,rfl⟩:=r;rfl
 |pN _=>obtain⟨t,rfl⟩:=r;rfl
 |ref _=>cases r;rfl
 |ty _=>cases r;rfl
theorem RelV.inj{u:Value}(r:RelV x u)(q:RelV y u):x=y:=zal (r.abs.symm.trans q.abs)
theorem Vals.inj:∀{xs ys:List V}{us:List Value},Vals xs us->Vals ys us->xs=ys:=by
 intro xs ys us h;induction h generalizing ys with
 |nil=>intro k;cases k;rfl
 |cons r _ i=>
  intro k;cases k with
  |cons r' t'=>rw[r.inj r',i t']
section
variable{X:Cx}{pins:List (Addr×Obj)}{σ:St}{H:Hp}{s:Shared}{a:Addr}{xs ys:List V}
theorem au.of{K:Frag}(h:H a=some (.lst xs)):au K H a xs:=.inl (.inl h)
theorem aJ.of{K:Frag}(h:H a=some (.tup xs)):aJ K H a xs:=.inl (.inl h)
theorem Inv.list(I:Inv X pins σ H s)(h:au X.K H a xs):∃b:List Value,Vals xs b/\PlainL s.heap a b.toArray/\xs.length<=sizeLine:=by
 rcases h with h|⟨o,b,n,k,f,d,c,g,r⟩
 obtain⟨z,b,n,r,e⟩:=h.ok I.aG;exact⟨b,r,⟨_,n,e,O,O,O⟩,z⟩;refine⟨b.toList,r,⟨o,n,I.dv a o k,f,d,by simpa using c⟩,?_⟩;have e:=r.length;simp at e;exact zat (za3 e) g
theorem Inv.tuple(I:Inv X pins σ H s)(h:aJ X.K H a xs):∃b:List Value,Vals xs b/\IsTup s.heap a b.toArray/\xs.length<=sizeLine:=by
 rcases h with h|⟨o,b,n,k,d,c,f,r⟩
 obtain⟨z,b,r,p⟩:=h.ok I.aG;exact⟨b,r,p,z⟩;refine⟨b.toList,r,⟨o,I.dv a o k,d,n,by simpa using c⟩,?_⟩;have e:=r.length;simp at e;exact zat (za3 e) f
theorem Inv.yX(I:Inv X pins σ H s)(h:au X.K H a xs)(f:au X.K H a ys):xs=ys:=by
 obtain⟨g,r,⟨o,n,e,_,_,d⟩,_⟩:=I.list h;obtain⟨i,c,⟨j,k,b,_,_,l⟩,_⟩:=I.list f;rw[e] at b;cases b;have:g=i:=by lia
 subst this;exact r.inj c
end
section
variable{X:Cx}{st:Stmt}{rest:List Stmt}{t u:TS}{e:Expr}{te:TE}{pos:Pos}
def CA:TS:=λD a H=>D.nx a H
def Ij(t u:TS):TS:=λD a H=>t {D with nx:=u D} a H
theorem Ik:dZ X [] CA:=λ_ _ a H _ I h=>wpAny_execs_nil ⟨a,H,I,h⟩
theorem TJ(g:PS X st t)(d:dZ X rest u):dZ X (st::rest) (Ij t u):=by
 intro p s b H D I h;refine wpAny_execs_cons<|aM (g p s b H {D with nx:=u D} I h) λf c q=>?_;cases f with
 |next=>
  obtain⟨a,j,i,q⟩:=q;exact d p c a j D i q
 |ret v=>exact q
 |brk=>exact q
 |cont=>exact q
def TK:TS:=λD a H=>D.bk a H
def Il:TS:=λD a H=>D.ct a H
theorem TL:PS X (.Continue pos) Il:=λ_ _ a H _ I h=>wpAny_Continue ⟨a,H,I,h⟩
theorem Inv.quiet{a:St}{H:Hp}{s:Shared}(I:Inv X p a H s):interactive X.env=false:=by simp[interactive,I.ok.kind]
def Im(te:TE):TS:=λD a H=>te a H λ_ b=>D.nx a b
theorem TM(c:PE X e te)(b:swapsWith e none pos.line X.env=pure false:=by rfl):PS X (.Expr e pos) (Im te):=by
 intro p s a H D I h;exact wpAny_Expr_any (aM (c p s a H _ I h) λv g ⟨x,f,d,r,q⟩=>⟨a,f,d,q⟩) I.quiet b
def Io(te:TE):TS:=λD a H=>te a H D.rt
theorem TN(b:PE X e te):PS X (.Return (some e) pos) (Io te):=by
 intro p s a H D I h;exact wpAny_Return_some<|aM (b p s a H _ I h) λv f ⟨x,d,c,r,q⟩=>⟨x,a,d,c,r,q⟩
def TQ:TS:=λD _ H=>D.rt .aD H
def Ip(c:TT)(t u:TS):TS:=λD a H=>c a H λb d=>if b=true then t D a d else u D a d
theorem TR{g:TT}(l:PT X c g)(n:dZ X a t)(m:dZ X b u):PS X (.If c a b pos) (Ip g t u):=by
 intro p s f H D I h;refine wpAny_If<|aM (l p s f H _ I h) λd i ⟨k,j,q⟩=>?_;cases d with
 |true=>exact n p i f k D j q
 |false=>exact m p i f k D j q
def TU:TS:=λ_ _ _=>False
end
abbrev TG:=V->St->Hp->(St->Hp->Prop)->Prop
abbrev kZ:=List V->St->Hp->(St->Hp->Prop)->Prop
def PG(X:Cx)(a:Expr)(t:TG):Prop:=
 ∀(p:List (Addr×Obj))(s:Shared)(c:St)(H:Hp)(v:V)(u:Value)(Q:St->Hp->Prop),Inv X p c H s->RelV v u->t v c H Q->
  wpAny (model X.prog X.w) X.A (assign a X.env u) (λ_ s'=>∃b H',Inv X p b H' s'/\Q b H') X.xe s
def rD(X:Cx)(c:List Expr)(t:kZ):Prop:=
 ∀(p:List (Addr×Obj))(s:Shared)(b:St)(H:Hp)(vs:List V)(u:List Value)(Q:St->Hp->Prop),Inv X p b H s->Vals vs u->t vs b H Q->
  wpAny (model X.prog X.w) X.A (assignInOrder ((assignEach c X.env).map (·.2)) u) (λ_ s'=>∃a H',Inv X p a H' s'/\Q a H') X.xe s
abbrev CB:=V->V->V->Hp->(Hp->Prop)->Prop
def Iq(X:Cx)(t:CB):Prop:=
 ∀(p:List (Addr×Obj))(s:Shared)(a:St)(H:Hp)(o i v:V)(b c u:Value)(Q:Hp->Prop),Inv X p a H s->RelV o b->RelV i c->RelV v u->t o i v H Q->
  wpAny (model X.prog X.w) X.A (setItem b c u) (λ_ s'=>∃H',Inv X p a H' s'/\Q H') X.xe s
section
variable{X:Cx}{pos:Pos}
def e9(i:Nat):TG:=λv a H Q=>Q (a.set i<|some v) H
theorem t_(c:X.N.Nodup)(b:X.N[i]?=some x)(a:Loc X.env.scope x)(f:X.fn x=true\/X.env.scope.names.lookup x=some .local:=by first|exact .inl O|exact .inr O|assumption):PG X (.Name x pos) (e9 i):=by
 intro p s e H v u Q I r h;exact wpAny_assign_Name<|Cw I c b a r (λg d=>⟨_,H,d,h⟩) f
def yY:kZ:=λvs a H Q=>vs=[]/\Q a H
def ua(t:TG)(u:kZ):kZ:=λvs b H Q=>∃v r,vs=v::r/\t v b H λa H'=>u r a H' Q
theorem CD:rD X [] yY:=by
 intro p s a H v u Q I r h;obtain⟨e,h⟩:=h;subst e;cases r;exact assignInOrder_nil ⟨a,H,I,h⟩
theorem vO{t:TG}{u:kZ}(j:PG X e t)(i:rD X a u)(g:(assignEach (e::a) X.env).map (·.2)=assign e X.env::(assignEach a X.env).map (·.2):=by rfl):rD X (e::a) (ua t u):=by
 intro p s c H n w Q I r h;obtain⟨v,o,k,h⟩:=h;subst k;cases r with
 |cons r f=>
  rw[g];exact assignInOrder_cons<|aM (j p s c H _ _ _ I r h) λ_ d ⟨b,m,l,q⟩=>i p d b m _ _ Q l f q
def yZ(K:Frag)(n:Nat)(t:kZ):TG:=λv b H Q=>∃a xs,v=.ref a/\aJ K H a xs/\xs.length=n/\t xs b H Q
theorem Ir{k:Nat}{t:kZ}{n:Nat}(m:X.calm=true)(h:rD X c t)(j:(assignEach c X.env).length=n:=by rfl)(E:(assignEach c X.env).findIdx? (·.1)=none:=by rfl):PG X (.Tuple c k pos) (yZ X.K n t):=by
 intro p s d H v u Q I r w;obtain⟨a,x,y,q,l,w⟩:=w;subst y;cases r;obtain⟨C,f,i,z⟩:=I.tuple q;refine assign_Tuple_tuple (I.ok.hd m) i (by simp[j,<-l,f.length]) E λA g=>?_;exact h p _ d H x _ Q (I.kept λb o e=>g b o (zan<|Heap.lt_size e) e) (by lia) w
def Iu(b c:TE)(t:CB):TG:=λv a H Q=>b a H λo f=>c a f λi e=>t o i v e λd=>Q a d
theorem TV{d e:TE}{t:CB}(w:PE X o d)(z:PE X i e)(n:Iq X t)(P:∀v,assign (.Subscript o i pos) X.env v=(do
   let a <-holding [v] (eval o X.env)
   let b <-holding [v,a] (eval i X.env)
   standAt pos
   holding [v,a,b] (setItem a b v)
   release [v,a,b] []):=by intro _;rfl):PG X (.Subscript o i pos) (Iu d e t):=by
 intro p s c H v u Q I r h;exact wpAny_bind<|wpAny_holding<|aM (w p s c H _ I h) λa g ⟨x,K,D,k,m⟩=>wpAny_bind<|wpAny_holding<|aM (z p g c K _ D m) λb f ⟨y,G,C,j,l⟩=>wpAny_bind<|wpAny_standAt<|wpAny_bind<|wpAny_holding<|aM (n p f c G x y v a b u _ C k j r l) λ_ N ⟨E,A,q⟩=>wpAny_release ⟨c,E,A,q⟩
def k_(t:TE)(g:TG):TS:=λD a H=>t a H λx b=>g x a b D.nx
theorem TX{e:Expr}{t:TE}{g:TG}(i:PE X e t)(f:PG X tg g)(d:swapsWithSole [tg] e pos.line X.env=pure false:=by rfl)(w:swappedStores [tg] e X.env=pure none:=by rfl)(j:(assignEach [tg] X.env).map (·.2)=[assign tg X.env]:=by rfl):PS X (.Assign [tg] e pos) (k_ t g):=by
 intro p s a H D I h;refine wpAny_Assign_stores (aM (i p s a H _ I h) λv b ⟨x,l,k,r,c⟩=>?_) d w;rw[j];exact aM (f p b a l x v _ k r c) λ_ m q=>q
theorem TY{e:Expr}{t:TE}{p:Pos}(k:X.N.Nodup)(f:X.N[i]?=some x)(c:Loc X.env.scope x)(j:PE X e t)(d:swapsWith e (some<|.Name x p) pos.line X.env=pure false:=by rfl)(g:X.fn x=true\/X.env.scope.names.lookup x=some .local:=by first|exact .inl O|exact .inr O|assumption):
  PS X (.Assign [.Name x p] e pos) (k_ t<|e9 i):=by
 intro a s b H D I h;exact wpAny_Assign_Name (aM (j a s b H _ I h) λv u ⟨y,n,m,r,q⟩=>Cw m k f c r (λo l=>⟨_,n,l,q⟩) g) d
def Iv(c:TT)(t:TS):TS:=λD d H=>∃a:Nat->St->Hp->Prop,(∃m,a m d H)/\∀m d H,a m d H->
 c d H λb g=>if b=true then ∃N:St->Hp->Prop,(∀e H',N e H'->∃f,f<m/\a f e H')/\t {D with nx:=N,ct:=N,bk:=D.nx} d g else D.nx d g
theorem TZ{u:TT}{x:TS}(z:PassesOwn (model X.prog X.w) X.A X.env X.xe)(F:PT X c u)(J:dZ X y x):PS X (.While c y [] pos) (Iv u x):=by
 intro p s Q H D I h;obtain⟨a,⟨B,S⟩,t⟩:=h;refine wpAny_While<|codeAny_whileLoop (λn Z=>∃g P,Inv X p g P Z/\a n g P) ?_ B ⟨Q,H,I,S⟩;rintro n V ⟨e,K,L,R⟩;refine wpAny_passesOwn z<|aM (F p V e K _ L<|t n e K R) λb T ⟨G,E,j⟩=>?_;cases b with
 |true=>
  obtain⟨N,C,j⟩:=j;refine wpAny_passesOwn z<|aM (J p T e G _ E j) λf M q=>?_;cases f with
  |next=>
   obtain⟨d,i,r,l⟩:=q;obtain⟨m,o,k⟩:=C d i l;exact⟨m,o,d,i,r,k⟩
  |cont=>
   obtain⟨d,i,r,l⟩:=q;obtain⟨m,o,k⟩:=C d i l;exact⟨m,o,d,i,r,k⟩
  |brk=>exact q
  |ret v=>exact q
 |false=>
  exact wpAny_execs_nil ⟨e,G,E,j⟩
end
structure It where
 go:Nat->Hp->Prop
 hZ:Nat->Hp->V->Hp->Prop
 stop:Nat->Hp->Prop
def kg(X:Cx)(s:List (Addr×Obj))(H:Hp)(b:Addr):Prop:=
 H b=none/\b≠X.env.locals/\b∉X.fs/\(b∈X.ex\/X.s₀.heap.objs.size<=b)/\(∀x c,X.env.cells.lookup x=some c->c≠b)/\∀p∈X.pn++s,p.1≠b
theorem Inv.y2{d:St}{H H':Hp}{s:Shared}{b:Addr}(I:Inv X a d H s)(h:s.heap.objs.size<=b)(n:H' b=none):kg X a H' b:=by
 refine⟨n,zaD<|zaq I.lt h,I.HS h,.inr<|zat I.sz h,λx c e z=>?_,λp f z=>?_⟩;obtain⟨v,q⟩:=I.cell x c e;exact absurd (zaq q.lt (by lia))<|zaC _;exact absurd (zaq (Heap.lt_size (I.pin p f).1) (by lia)) (zaC _)
structure Turn(P:Program)(w:World)(K:Frag)(tg:Expr)(J:It)(fp:List Addr)(it:Addr)(tn:Nat->Heap->Prop):Prop where
 mem:it∈fp
 obj:∀i h,tn i h->∀b∈fp,∃o,h.get? b=some o/\∀v,o.data≠ .cell v
 keep:∀i h h',tn i h->(∀b∈fp,∀o,h.get? b=some o->h'.get? b=some o)->tn i h'
 item:∀(X:Cx),X.prog=P->X.w=w->X.K=K->X.calm=true->∀(i:Nat)(pins:List (Addr×Obj))(s:Shared)(σ:St)(H:Hp)(E:Value->Shared->Prop),Inv X pins σ H s->(∀b∈fp,kg X pins H b)->tn i s.heap->J.go i H->
  wpAny (model P w) X.A (pyNext (.ref it)) (λr s1=>∃u,r=some u/\
   wpAny (model P w) X.A (letOwnedTupleGo tg (.ref it) u) (λ_ s2=>∃x H',Inv X pins σ H' s2/\RelV x u/\J.hZ i H x H'/\tn (i+1) s2.heap/\∀b∈fp,H' b=none) E s1) E s
 done:∀(X:Cx),X.prog=P->X.w=w->X.K=K->X.calm=true->∀(i:Nat)(pins:List (Addr×Obj))(s:Shared)(σ:St)(H:Hp)(E:Value->Shared->Prop),Inv X pins σ H s->(∀b∈fp,kg X pins H b)->tn i s.heap->J.stop i H->
  wpAny (model P w) X.A (pyNext<|.ref it) (λr s1=>r=none/\Inv X pins σ H s1) E s
 self:∀(A:Around)(i:Nat)(s:Shared)(Q:Value->Shared->Prop)(E:Value->Shared->Prop),tn i s.heap->Q (.ref it) s->wpAny (model P w) A (pyIter<|.ref it) Q E s
abbrev TI:=St->Hp->(It->Hp->Prop)->Prop
def Iw(X:Cx)(p:List (Addr×Obj))(c:St)(tg:Expr)(R:It->Hp->Prop)(r:Value)(s:Shared):Prop:=
 ∃(it:Addr)(f:List Addr)(t:Nat->Heap->Prop)(a:It)(H':Hp),r=.ref it/\Inv X p c H' s/\Turn X.prog X.w X.K tg a f it t/\t 0 s.heap/\(∀b∈f,kg X p H' b)/\R a H'
def PI(X:Cx)(tg i:Expr)(b:TI):Prop:=
 ∀(p:List (Addr×Obj))(s:Shared)(a:St)(H:Hp)(R:It->Hp->Prop),Inv X p a H s->b a H R->
  wpAny (model X.prog X.w) X.A (eval i X.env) (λv c=>wpAny (model X.prog X.w) X.A (pyIter v) (Iw X p a tg R) X.xe c) X.xe s
theorem CG{E:Value->Shared->Prop}{s:Shared}{tg:Expr}{it:Addr}{u:Value}{o:Obj}{n:String}{vs:Array Value}{Q:Unit->Shared->Prop}(a:s.heap.get? it=some o)(c:o.cls=.type n)(d:o.data=.fields vs)(b:["enumerate","zip","dict_itemiterator","dict_reverseitemiterator","odict_iterator","itertools.zip_longest","itertools.pairwise"].contains n=false)(h:Q () s):wpAny M A (letOwnedTupleGo tg (.ref it) u) Q E s:=by
  cases tg<;>first
    |exact wpAny_pure h
    | (cases u<;>first
        |exact wpAny_pure h
        | (refine wpAny_bind (wpAny_load a ?_)
           rw[c,d];show wpAny M A (if (["enumerate","zip","dict_itemiterator","dict_reverseitemiterator","odict_iterator","itertools.zip_longest","itertools.pairwise"].contains n && vs[0]?==some (rawInt _))=true then _ else _) Q E s;rw[if_neg (by lia)];exact wpAny_pure h))
def i6(K:Frag)(a:Addr):It:=
 ⟨λi H=>∃xs x,au K H a xs/\xs[i]?=some x,λi H x H'=>H'=H/\∀xs,au K H a xs->xs[i]?=some x,λi H=>∃xs,au K H a xs/\xs.length<=i⟩
def T_(K:Frag)(a:Addr):It:=
 ⟨λi H=>∃xs x,aJ K H a xs/\xs[i]?=some x,λi H x H'=>H'=H/\∀xs,aJ K H a xs->xs[i]?=some x,λi H=>∃xs,aJ K H a xs/\xs.length<=i⟩
def gz(lo:Int)(n:Nat):It:=⟨λi _=>i<n,λi H x H'=>H'=H/\x=.int (lo+i),λi _=>n<=i⟩
theorem y3{K:Frag}{tg:Expr}(a it:Addr):Turn P w K tg (i6 K a) [it] it (λi h=>h.IsListIter it a i) where
 mem:=by simp
 obj:=λi h t b f=>by
  have e:=by simpa using f
  subst e;obtain⟨o,e,c,d⟩:=t;exact⟨o,e,λv z=>by lia⟩
 keep:=λi h S t k=>t.at λo e=>k it (by simp) o e
 item:=by
  intro X y m A R i g s V H E I j t n;subst y m A;obtain⟨Z,x,q,l⟩:=n;obtain⟨Y,r,p,J⟩:=I.list q;obtain⟨u,M,F⟩:=r.get l;obtain⟨Q,N,U,G,D,C⟩:=qa6 (j it (by simp));refine wpAny_pyNext_list_item t p.isList (by simpa using M) λS T B=>?_;obtain⟨o,e,c,d⟩:=id T;exact⟨u,O,CG e c d (rfl) ⟨x,H,(I.turned (λb o f e=>(B.2 b f).trans e) Q N G D C),F,⟨O,λys L=>by rw[I.yX L q];exact l⟩,T,λb f=>(j b f).1⟩⟩
 done:=by
  intro X y m A R i g s V H E I j t n;subst y m A;obtain⟨Z,q,l⟩:=n;obtain⟨Y,r,p,J⟩:=I.list q;obtain⟨Q,N,U,G,D,C⟩:=qa6 (j it (by simp));have hl:=r.length;exact wpAny_pyNext_list_end (I.ok.hd R) t p.isList (by simp;lia) λS W=>⟨O,I.turned (λb o f e=>W b o f e) Q N G D C⟩
 self:=λ_ _ _ _ _ t h=>wpAny_pyIter_listiter t h
theorem Ua{K:Frag}{tg:Expr}(it:Addr)(lo:Int)(n:Nat):Turn P w K tg (gz lo n) [it] it (λi h=>IsRangeIter h it (lo+(i:Nat)*1) ((n:Int) - (i:Nat)) 1) where
 mem:=by simp
 obj:=λi h a b c=>by
  have e:=by simpa using c
  subst e;exact⟨_,a,λv z=>by
   cases z⟩
 keep:=λi h j a k=>k it (by simp) _ a
 item:=by
  intro X A y C d i p s x H E I f a g;obtain⟨u,r,R,q,m,l⟩:=qa6 (f it (by simp));refine (Walks.range (I.ok.hd d) it lo 1 n).item i s _ _ g a λv j G Q D N=>?_;obtain⟨t,rfl⟩:=Q;have T:Inv X p x H {s with heap:=j,toks:=G}:=I.turned (λb o c e=>N b o (by simpa using c) e) u r q m l;refine⟨_,O,CG D O O (O) ⟨.int<|lo+i,H,T,⟨t,?_⟩,⟨O,O⟩,D,λb c=>(f b c).1⟩⟩;rw[Int.mul_one]
 done:=by
  intro X A y C d i p s x H E I f a g;obtain⟨u,r,R,q,m,l⟩:=f it (by simp);exact wpAny_pyNext_range_end (I.ok.hd d) a (by have:n<=i:=g;lia) λj S=>⟨O,I.turned (λb o c e=>S b o c e) u r q m l⟩
 self:=λ_ _ _ _ _ a h=>wpAny_pyIter_rangeiter a h
section
variable{X:Cx}{tg:Expr}
def vP(K:Frag)(t:TE):TI:=λc H R=>t c H λx b=>∃a,x=.ref a/\(∃xs,au K b a xs)/\R (i6 K a) b
def Ub(K:Frag)(t:TE):TI:=λc H R=>t c H λx b=>∃a,x=.ref a/\(∃xs,aJ K b a xs)/\R (T_ K a) b
theorem Uc(k:PE X l t):PI X tg l (vP X.K t):=by
 intro c s g H R I h;refine aM (k c s g H _ I h) λv f ⟨x,n,d,r,i⟩=>?_;obtain⟨a,e,⟨u,j⟩,q⟩:=i;subst e;cases r;obtain⟨y,w,p,z⟩:=d.list j;refine wpAny_pyIter_list p.isList (⟨f.heap.objs.size,[f.heap.objs.size],_,_,n,O,d.kept λb o e=>Heap.get?_push_of_some _ e,y3 a _,⟨_,Heap.get?_push_size _ O,O,O⟩,λb m=>?_,q⟩);have e:=by simpa using m
 subst e;exact d.y2 (zqR _)<|d.aG.fresh<|zqR _
theorem Ud{a:St}{H:Hp}{s:Shared}{R:It->Hp->Prop}{E:Value->Shared->Prop}{lo h:Int}{t u v:Tok}{k:Nat}(I:Inv X p a H s)(j: -(2 ^ 62)<=lo)(i:lo<2 ^ 62)(g: -(2 ^ 62)<=h)(f:h<2 ^ 62)(q:R (gz lo (h - lo).toNat) H):wpAny (model X.prog X.w) X.A (pyIter<|.ref s.heap.objs.size) (Iw X p a tg R) E {s with heap:=s.heap.push {cls:=.type "range",data:=.fields #[.int lo t,.int h u,.int 1 v]},toks:=k}:=by
 refine wpAny_pyIter_range (IsRange.new ..) (small_one j i g f) ?_;have c:Inv X p a H {s with heap:=s.heap.push {cls:=.type "range",data:=.fields #[.int lo t,.int h u,.int 1 v]},toks:=k}:=I.kept λb o e=>Heap.get?_push_of_some _ e;refine⟨(s.heap.push {cls:=.type "range",data:=.fields #[.int lo t,.int h u,.int 1 v]}).objs.size,[(s.heap.push {cls:=.type "range",data:=.fields #[.int lo t,.int h u,.int 1 v]}).objs.size],_,_,H,O,
  c.kept λb o e=>Heap.get?_push_of_some _ e,Ua _ lo (h - lo).toNat,?_,λb d=>?_,q⟩
 have m:lo+((0:Nat):Int)*1=lo:=by lia
 have l:(((h - lo).toNat:Nat):Int) - ((0:Nat):Int)=Builtin.Range.rangeSize lo h 1:=by rw[rangeSize_one];split<;>lia
 rw[m,l];exact Heap.get?_push_size _ O;have e:b=(s.heap.push {cls:=.type "range",data:=.fields #[.int lo t,.int h u,.int 1 v]}).objs.size:=by simpa using d
 subst e;exact c.y2 (zqR _)<|c.aG.fresh<|zqR _
def Iy(t:TA):TI:=λa H R=>t a H λvs b=>∃j:Int,vs=[.int j]/\ -(2 ^ 62)<=j/\j<2 ^ 62/\R (gz 0 j.toNat) b
def Ue(t:TA):TI:=λa H R=>t a H λvs b=>∃i j:Int,vs=[.int i,.int j]/\(-(2 ^ 62)<=i/\i<2 ^ 62/\ -(2 ^ 62)<=j/\j<2 ^ 62)/\R (gz i (j - i).toNat) b
theorem Ug{p b:Pos}(o:Gl X "range")(n:X.mg "range"=none)(u:PA X [a] f)(m:starEach [a] X.env=[(false,eval a X.env)]:=by rfl):PI X tg (.Call (.Name "range" p) [a] [] b) (Iy f):=by
 intro c s g H R I h;refine Call_<|nV I o n boot_range<|PyProof.Rows.callWith_type1 (aM (u b c s g H _ I h) λx y ⟨w,z,v,k,d⟩=>?_) m O;obtain⟨j,e,d,l,q⟩:=d;subst e;cases k with
 |cons r i=>
  cases i;obtain⟨t,rfl⟩:=r;exact call_range_1<|Ud v (by lia) (by lia) d l (by lia)
def y4(w:TI)(g:TG)(t:TS):TS:=λD c H=>w c H λb j=>∃a:Nat->Nat->St->Hp->Prop,(∃m,a 0 m c j)/\∀i m c H,a i m c H->
 (b.stop i H/\D.nx c H)\/(b.go i H/\∃N:St->Hp->Prop,(∀d H',N d H'->∃f,f<m/\a (i+1) f d H')/\∀x H',b.hZ i H x H'->g x c H' λe h=>t {D with nx:=N,ct:=N,bk:=D.nx} e h)
def ub(f:List Addr)(h:Heap):List (Addr×Obj):=f.filterMap λb=>(h.get? b).map λo=>(b,o)
theorem y6{b:Addr}{o:Obj}(a:b∈f)(e:h.get? b=some o):(b,o)∈ub f h:=zbe.mpr ⟨b,a,e▸O⟩
theorem Uh(a:p∈ub f h):p.1∈f/\h.get? p.1=some p.2:=by
 obtain⟨b,c,e⟩:=zbe.mp a;cases q:h.get? b with
 |none=>rw[q] at e;cases e
 |some o=>
  rw[q] at e;have d:=zal e;subst d;exact⟨c,q⟩
theorem Inv.pinned{c:St}{H:Hp}{s:Shared}{f:List Addr}(I:Inv X a c H s)(k:∀b∈f,kg X a H b)(j:∀b∈f,∃o,s.heap.get? b=some o/\∀v,o.data≠ .cell v):Inv X (a++ub f s.heap) c H s:=
 I.t4 λp i=>(zad.mp i).elim (λz=>I.pin p<|zaw _ z) λz=>by
  obtain⟨h,e⟩:=Uh z;obtain⟨n,m,l,_⟩:=qa4 (k p.1 h);obtain⟨o,g,d⟩:=j p.1 h;rw[e] at g;cases g;exact⟨e,n,m,l,d⟩
theorem Inv.CH{b:St}{H:Hp}{s:Shared}(I:Inv X (a++l) b H s):Inv X a b H s:=I.t4 λp h=>I.pin p (zaw _<|zav _ h)
theorem Iz{K:List Stmt}{W:TI}{g:TG}{tb:TS}{b':Pos}(V:PassesOwn (model X.prog X.w) X.A X.env X.xe)(hc:X.calm=true)(hi:PI X tg G W)(hg:PG X tg g)(q:dZ X K tb)(hs:∀x,foldedSetIterable G X.env x=pure x:=by intro _;rfl):PS X (.For tg G K [] b') (y4 W g tb):=by
 intro p s U H D I h;refine wpAny_For (aM (hi p s U H _ I h) λv s1 h1=>aM h1 λrE s2 h2=>?_) hs;obtain⟨it,Z,Y,c,H2,e,I2,T,vQ,f2,a,⟨m0,w0⟩,P⟩:=h2;subst e;have L:∀{C:Hp},(∀b∈Z,C b=none)->∀b∈Z,kg X p C b:=λhn b q=>⟨hn b q,(f2 b q).2⟩;refine codeAny_forLoop_any (λn s'=>∃i l C,Inv X p l C s'/\Y i s'.heap/\(∀b∈Z,C b=none)/\a i n l C) ?_ m0 ⟨0,U,H2,I2,vQ,λb q=>(f2 b q).1,w0⟩;rintro n s3 zq;obtain⟨i,k,B,zq⟩:=qx3 zq;obtain⟨I3,IA,IB,w3⟩:=qa4 zq;rcases P i n k B w3 with⟨Q,qn⟩|⟨go,N,hN,R⟩
 refine wpAny_passesOwn V (aM (T.done X O O O hc i p s3 k B X.xe I3 (L IB) IA Q) λr s4 ⟨M,I4⟩=>?_);subst M;exact wpAny_execs_nil ⟨k,B,I4,qn⟩;refine wpAny_passesOwn V (aM (T.item X O O O hc i p s3 k B X.xe I3 (L IB) IA go) λr s4 ⟨u,M,h4⟩=>?_);subst M;refine wpAny_passesOwn V<|aM h4 λ_ s5 ⟨x,H5,I5,r5,y5,J,CI⟩=>wpAny_passesOwn V<|aM (hg _ s5 k H5 x u _ (I5.pinned (L CI) (T.obj _ _ J)) r5<|R x H5 y5) λ_ s6 ⟨a',H6,I6,q6⟩=>wpAny_passesOwn V<|aM (q _ s6 a' H6 _ I6 q6) λf F E=>?_;have t:∀{j:St}{z:Hp},Inv X (p++ub Z s5.heap) j z F->N j z->∃m,m<n/\∃i l C,Inv X p l C F/\Y i F.heap/\(∀b∈Z,C b=none)/\a i m l C:=λ{j z} y S=>by
  obtain⟨m',hm,w7⟩:=hN j z S;refine⟨m',hm,i+1,j,z,y.CH,T.keep _ _ _ J λb q o e=>(y.pin (b,o)<|zaw _<|zaw _<|y6 q e).1,λb q=>?_,w7⟩;obtain⟨o,e,d⟩:=T.obj _ _ J b q;exact(y.pin (b,o)<|zaw _<|zaw _<|y6 q e).2.1
 cases f with
 |next=>obtain⟨j,z,y,S⟩:=E;exact t y S
 |cont=>obtain⟨j,z,y,S⟩:=E;exact t y S
 |brk=>obtain⟨j,z,y,E⟩:=E;exact⟨j,z,y.CH,E⟩
 |ret v=>obtain⟨x7,j,z,zq⟩:=qx3 E;obtain⟨y,r7,E⟩:=qa3 zq;exact⟨x7,j,z,y.CH,r7,E⟩
end
theorem lh{K:Frag}{a:Addr}{xs:List V}{g:TG}{t:TS}{D:Ends}{c:St}{H:Hp}(P:Nat->St->Hp->Prop)(r:P 0 c H)(l:∀i c H,i<=xs.length->P i c H->au K H a xs)(s:∀i x c H,xs[i]?=some x->P i c H->g x c H λd h=>t {D with nx:=P (i+1),ct:=P (i+1),bk:=D.nx} d h)(o:∀c H,P xs.length c H->D.nx c H):
  ∃b:Nat->Nat->St->Hp->Prop,(∃m,b 0 m c H)/\∀i m c H,b i m c H->
   ((i6 K a).stop i H/\D.nx c H)\/((i6 K a).go i H/\∃N:St->Hp->Prop,(∀f H',N f H'->∃j,j<m/\b (i+1) j f H')/\∀x H',(i6 K a).hZ i H x H'->g x c H' λd h=>t {D with nx:=N,ct:=N,bk:=D.nx} d h):=by
 refine⟨λi m c H=>m=xs.length - i/\i<=xs.length/\P i c H,⟨xs.length,O,zqZ _,r⟩,?_⟩;rintro i m c H ⟨rfl,n,p⟩;have q:=l i c H n p;by_cases u:i<xs.length;refine .inr ⟨⟨xs,xs[i],q,by simp⟩,P<|i+1,λf H' k=>⟨xs.length - (i+1),by lia,O,u,k⟩,λx H' y=>?_⟩;obtain⟨e,y⟩:=y;subst e;exact s i x c _ (y xs q) p;have e:i=xs.length:=za5 n (za4 u)
 subst e;exact .inl ⟨⟨xs,q,zqR _⟩,o c H p⟩
theorem CJ{lo:Int}{n:Nat}{g:TG}{t:TS}{D:Ends}{b:St}{H:Hp}(P:Nat->St->Hp->Prop)(o:P 0 b H)(s:∀i b H,i<n->P i b H->g (.int<|lo+i) b H λc h=>t {D with nx:=P (i+1),ct:=P (i+1),bk:=D.nx} c h)(l:∀b H,P n b H->D.nx b H):
  ∃a:Nat->Nat->St->Hp->Prop,(∃m,a 0 m b H)/\∀i m b H,a i m b H->
   ((gz lo n).stop i H/\D.nx b H)\/((gz lo n).go i H/\∃N:St->Hp->Prop,(∀d H',N d H'->∃j,j<m/\a (i+1) j d H')/\∀x H',(gz lo n).hZ i H x H'->g x b H' λc h=>t {D with nx:=N,ct:=N,bk:=D.nx} c h):=by
 refine⟨λi m b H=>m=n - i/\i<=n/\P i b H,⟨n,O,zqZ _,o⟩,?_⟩;rintro i m b H ⟨rfl,q,p⟩;by_cases f:i<n;refine .inr ⟨f,P<|i+1,λd H' k=>⟨n - (i+1),by lia,O,f,k⟩,λx H' y=>?_⟩;obtain⟨e,y⟩:=y;subst e y;exact s i b _ f p;have e:i=n:=za5 q (za4 f)
 subst e;exact .inl ⟨zqR _,l b H p⟩
abbrev R2:=V->V->Hp->VK->Prop
def bG(X:Cx)(f:Value->Value->Sem Value)(r:R2):Prop:=
 ∀(p:List (Addr×Obj))(s:Shared)(a:St)(H:Hp)(x y:V)(v u:Value)(Q:VK),Inv X p a H s->RelV x v->RelV y u->r x y H Q->
  wpAny (model X.prog X.w) X.A (f v u) (EP X p a Q) X.xe s
def y7(X:Cx)(f:Value->Sem Value)(r:V->Hp->VK->Prop):Prop:=
 ∀(p:List (Addr×Obj))(s:Shared)(a:St)(H:Hp)(x:V)(v:Value)(Q:VK),Inv X p a H s->RelV x v->r x H Q->
  wpAny (model X.prog X.w) X.A (f v) (EP X p a Q) X.xe s
def eJ(X:Cx)(f:Value)(r:List V->Hp->VK->Prop):Prop:=
 ∀(p:List (Addr×Obj))(s:Shared)(a:St)(H:Hp)(xs:List V)(u:List Value)(Q:VK),Inv X p a H s->Vals xs u->r xs H Q->
  wpAny (model X.prog X.w) X.A (call f u) (EP X p a Q) X.xe s
def Ui(X:Cx)(r:V->Hp->(Bool->Hp->Prop)->Prop):Prop:=
 ∀(p:List (Addr×Obj))(s:Shared)(a:St)(H:Hp)(x:V)(v:Value)(Q:Bool->Hp->Prop),Inv X p a H s->RelV x v->r x H Q->
  wpAny (model X.prog X.w) X.A (truthy v) (TP X p a Q) X.xe s
def gA(r:R2)(b t:TE):TE:=λa H Q=>b a H λx d=>t a d λy c=>r x y c Q
def IC(r:V->Hp->VK->Prop)(t:TE):TE:=λa H Q=>t a H λx b=>r x b Q
def rI(C:Int->Int->Prop)(g:Int->Int->V):R2:=λx y H Q=>∃i j,x=.int i/\y=.int j/\C i j/\Q (g i j) H
def nW(g:Int->Int->V):R2:=λx y H Q=>∃i j,x=.int i/\y=.int j/\Q (g i j) H
def rU(g:Int->V):V->Hp->VK->Prop:=λx H Q=>∃i,x=.int i/\Q (g i) H
section
variable{X:Cx}{a b c:Expr}{ta tb tc:TE}{pos:Pos}
theorem CK(z:PE X a ta)(t:PE X b tb){p:List (Addr×Obj)}{s:Shared}{d:St}{H:Hp}{R:V->V->Hp->Prop}(I:Inv X p d H s)(h:ta d H λx k=>tb d k λy e=>R x y e){Q:Value->Shared->Prop}{f:Value->Value->Sem Value}(o:∀v u j x y e,Inv X p d e j->RelV x v->RelV y u->R x y e->wpAny (model X.prog X.w) X.A (f v u) Q X.xe j):
  wpAny (model X.prog X.w) X.A (eval a X.env) (λv i=>wpAny (model X.prog X.w) X.A (eval b X.env) (λu g=>wpAny (model X.prog X.w) X.A (f v u) Q X.xe g) X.xe i) X.xe s:=by
 exact aM (z p s d H _ I h) λv l ⟨x,k,D,m,n⟩=>aM (t p l d k _ D n) λu j ⟨y,e,C,r,q⟩=>o v u j x y e C m r q
theorem ID(i:bG X (binaryOp o) r)(k:PE X a ta)(j:PE X b tb):PE X (.BinOp a o b pos) (gA r ta tb):=by
 intro p s d H Q I h;exact wpAny_BinOp<|CK k j I h λv u e x y m l g f q=>i p e d m x y v u Q l g f q
theorem Uj(g:y7 X (unaryOp o) r)(i:PE X a ta):PE X (.UnaryOp o a pos) (IC r ta):=by
 intro p s d H Q I h;exact UnaryOp_<|aM (i p s d H _ I h) λv e ⟨x,k,j,f,q⟩=>g p e d k x v Q j f q
theorem y8{C:Int->Int->Prop}{g:Int->Int->Int}(r:∀(i j:Int)(t u:Tok)(s:Shared)(Q:Value->Shared->Prop)(E:Value->Shared->Prop),C i j->Q (.int (g i j) s.toks) {s with toks:=s.toks+1}->wpAny (model X.prog X.w) X.A (f (.int i t)<|.int j u) Q E s):
  bG X f (rI C λi j=>.int (g i j)):=by
 intro p s m H x y v u Q I k e h;obtain⟨i,j,rfl,rfl,l,q⟩:=h;obtain⟨t,rfl⟩:=k;obtain⟨d,rfl⟩:=e;exact r i j t d s _ _ l ⟨.int<|g i j,H,I.tok _,⟨_,O⟩,q⟩
theorem IE{g:Int->Int->Int}(r:∀(i j:Int)(t u:Tok)(s:Shared)(Q:Value->Shared->Prop)(E:Value->Shared->Prop),Q (.int (g i j) s.toks) {s with toks:=s.toks+1}->wpAny (model X.prog X.w) X.A (f (.int i t)<|.int j u) Q E s):
  bG X f (nW λi j=>.int (g i j)):=by
 intro p s l H x y v u Q I k e h;obtain⟨i,j,rfl,rfl,q⟩:=h;obtain⟨t,rfl⟩:=k;obtain⟨d,rfl⟩:=e;exact r i j t d s _ _ ⟨.int<|g i j,H,I.tok _,⟨_,O⟩,q⟩
theorem y9{g:Int->Int->Bool}(r:∀(i j:Int)(t u:Tok)(s:Shared)(Q:Value->Shared->Prop)(E:Value->Shared->Prop),Q (.bool<|g i j) s->wpAny (model X.prog X.w) X.A (f (.int i t)<|.int j u) Q E s):
  bG X f (nW λi j=>.bl (g i j)):=by
 intro p s l H x y v u Q I k e h;obtain⟨i,j,rfl,rfl,q⟩:=h;obtain⟨t,rfl⟩:=k;obtain⟨d,rfl⟩:=e;exact r i j t d s _ _ ⟨.bl<|g i j,H,I,O,q⟩
def IF(i j:Int):Prop:=0<j/\j<1073741824
def IG(i j:Int):Prop:=0<=j/\j<=1000000/\i.natAbs<2 ^ 64
def uc(i j:Int):Prop:=(-(2 ^ 64) <i/\i<2 ^ 64)\/(-(2 ^ 64) <j/\j<2 ^ 64)
theorem uc.ok(h:uc i j):IntMulOk i j:=by
 rcases h with⟨e,d⟩|⟨e,d⟩
 exact .of_left (intBits_le_64 e d);exact .of_right (intBits_le_64 e d)
theorem Uk:bG X (binaryOp .Add) (nW λi j=>.int (i+j)):=IE λ_ _ _ _ _ _ _ q=>add_int q
theorem Ul:bG X (binaryOp .Sub) (nW λi j=>.int (i - j)):=IE λ_ _ _ _ _ _ _ q=>sub_int q
theorem Um:bG X (binaryOp .Mult) (rI uc λi j=>.int (i*j)):=y8 λ_ _ _ _ _ _ _ h q=>mul_int q h.ok
theorem Uo:bG X (binaryOp .FloorDiv) (rI IF λi j=>.int (i / j)):=y8 λi j _ _ _ _ _ h q=>by
 have e:=h.1;have d:=h.2;exact floordiv_int (zb3 e) (by rw[Int.fdiv_eq_ediv_of_nonneg i (zcl e)];exact q)<|.inl<|PyProof.noPylong_small (by lia)
theorem Up:bG X (binaryOp .Mod) (rI (λ_ j=>0<j) λi j=>.int (i % j)):=y8 λi j _ _ _ _ _ h q=>by
 exact mod_int' (zb3 h) (by rw[Int.fmod_eq_emod_of_nonneg i (zcl h)];exact q)
theorem Uq:bG X (binaryOp .Pow) (rI IG λi j=>.int (i ^ j.toNat)):=y8 λ_ _ _ _ _ _ _ h q=>pow_int_small h.1 h.2.1 h.2.2 q
theorem Ur{g:Int->Int}(r:∀(i:Int)(t:Tok)(s:Shared)(Q:Value->Shared->Prop)(E:Value->Shared->Prop),Q (.int (g i) s.toks) {s with toks:=s.toks+1}->wpAny (model X.prog X.w) X.A (f<|.int i t) Q E s):
  y7 X f (rU λi=>.int (g i)):=by
 intro p s e H x v Q I d h;obtain⟨i,rfl,q⟩:=h;obtain⟨t,rfl⟩:=d;exact r i t s _ _ ⟨.int<|g i,H,I.tok _,⟨_,O⟩,q⟩
theorem Us:y7 X (unaryOp .USub) (rU λi=>.int (-i)):=Ur λ_ _ _ _ _ q=>neg_int q
end
noncomputable def mJ:V->V->Bool
 |.aD,.aD=>true|.aD,.int _=>true|.int _,.aD=>true|.aD,.bl _=>true|.bl _,.aD=>true|.aD,.str _=>true|.str _,.aD=>true
 |.int _,.int _=>true|.bl _,.bl _=>true|.str _,.str _=>true|.hX _,.hX _=>true
 |.int _,.str _=>true|.str _,.int _=>true|.bl _,.str _=>true|.str _,.bl _=>true
 |_,_=>false
def Ut:R2:=λx y H Q=>mJ x y=true/\Q (.bl<|decide<|x=y) H
def Uu:R2:=λx y H Q=>mJ x y=true/\Q (.bl<|!decide (x=y)) H
theorem IH:decide (V.int i=V.int j)=(i==j):=by lia
theorem II:decide (V.bl i=V.bl j)=(i==j):=by lia
theorem iD:decide (V.str i=V.str j)=(i==j):=by lia
theorem IJ:decide (V.hX i=V.hX j)=(i.toList==j.toList):=by
 rw[zbL];cases i;cases j;simp
section
variable{X:Cx}{a b c:Expr}{ta tb tc:TE}{pos:Pos}
theorem cM{d:St}{H:Hp}{s:Shared}{Q:VK}{k f:Bool}(I:Inv X p d H s)(q:Q (.bl k) H)(e:k=f):EP X p d Q (.bool f) s:=by
 subst e;exact⟨.bl k,H,I,O,q⟩
theorem Uv:bG X (compareOp .Eq) Ut:=by
 intro p s g H x y v u Q I f r h;obtain⟨e,q⟩:=h;cases x with
 |aD=>
  cases f;cases y with
  |aD=>cases r;exact PySem.EqNone.eq_none_none (cM I q (O))
  |bl j=>cases r;exact PySem.EqNone.eq_none_bool (cM I q (O))
  |int j=>obtain⟨d,rfl⟩:=r;exact PySem.EqNone.eq_none_int (cM I q (O))
  |str j=>obtain⟨d,rfl⟩:=r;exact PySem.EqNone.eq_none_str (cM I q (O))
  |_=>exact absurd (show false=true from e) zas
 |bl i=>
  cases f;cases y with
  |aD=>cases r;exact PySem.EqNone.eq_bool_none (cM I q (rfl))
  |bl j=>cases r;exact eq_bool (cM I q II)
  |str j=>obtain⟨d,rfl⟩:=r;exact PySem.EqMixed.eq_bool_str (cM I q (rfl))
  |_=>exact absurd (show false=true from e) zas
 |int i=>
  obtain⟨t,rfl⟩:=f;cases y with
  |aD=>cases r;exact PySem.EqNone.eq_int_none (cM I q (rfl))
  |int j=>obtain⟨d,rfl⟩:=r;exact eq_int (cM I q IH)
  |str j=>obtain⟨d,rfl⟩:=r;exact PySem.EqMixed.eq_int_str (cM I q (rfl))
  |_=>exact absurd (show false=true from e) zas
 |str i=>
  obtain⟨t,rfl⟩:=f;cases y with
  |aD=>cases r;exact PySem.EqNone.eq_str_none (cM I q (rfl))
  |bl j=>cases r;exact PySem.EqMixed.eq_str_bool (cM I q (rfl))
  |int j=>obtain⟨d,rfl⟩:=r;exact PySem.EqMixed.eq_str_int (cM I q (rfl))
  |str j=>obtain⟨d,rfl⟩:=r;exact eq_str (cM I q iD)
  |_=>exact absurd (show false=true from e) zas
 |hX i=>
  obtain⟨t,rfl⟩:=f;cases y with
  |hX j=>obtain⟨d,rfl⟩:=r;exact PySem.W.eq_bytes (cM I q IJ)
  |_=>exact absurd (show false=true from e) zas
 |_=>cases y<;>exact absurd (show false=true from e) zas
theorem Uw:bG X (compareOp .NotEq) Uu:=by
 intro p s g H x y v u Q I f r h;obtain⟨e,q⟩:=h;cases x with
 |aD=>
  cases f;cases y with
  |aD=>cases r;exact PySem.EqNone.ne_none_none (cM I q (O))
  |bl j=>cases r;exact PySem.EqNone.ne_none_bool (cM I q (O))
  |int j=>obtain⟨d,rfl⟩:=r;exact PySem.EqNone.ne_none_int (cM I q (O))
  |str j=>obtain⟨d,rfl⟩:=r;exact PySem.EqNone.ne_none_str (cM I q (O))
  |_=>exact absurd (show false=true from e) zas
 |bl i=>
  cases f;cases y with
  |aD=>cases r;exact PySem.EqNone.ne_bool_none (cM I q (rfl))
  |bl j=>cases r;exact ne_bool (cM I q<|congrArg not II)
  |str j=>obtain⟨d,rfl⟩:=r;exact PySem.EqMixed.ne_bool_str (cM I q (rfl))
  |_=>exact absurd (show false=true from e) zas
 |int i=>
  obtain⟨t,rfl⟩:=f;cases y with
  |aD=>cases r;exact PySem.EqNone.ne_int_none (cM I q (rfl))
  |int j=>obtain⟨d,rfl⟩:=r;exact ne_int (cM I q<|congrArg not IH)
  |str j=>obtain⟨d,rfl⟩:=r;exact PySem.EqMixed.ne_int_str (cM I q (rfl))
  |_=>exact absurd (show false=true from e) zas
 |str i=>
  obtain⟨t,rfl⟩:=f;cases y with
  |aD=>cases r;exact PySem.EqNone.ne_str_none (cM I q (rfl))
  |bl j=>cases r;exact PySem.EqMixed.ne_str_bool (cM I q (rfl))
  |int j=>obtain⟨d,rfl⟩:=r;exact PySem.EqMixed.ne_str_int (cM I q (rfl))
  |str j=>obtain⟨d,rfl⟩:=r;exact ne_str (cM I q<|congrArg not iD)
  |_=>exact absurd (show false=true from e) zas
 |hX i=>
  obtain⟨t,rfl⟩:=f;cases y with
  |hX j=>obtain⟨d,rfl⟩:=r;exact PySem.W.ne_bytes (cM I q<|congrArg not IJ)
  |_=>exact absurd (show false=true from e) zas
 |_=>cases y<;>exact absurd (show false=true from e) zas
theorem Ux:bG X (compareOp .Lt) (nW λi j=>.bl (decide<|i<j)):=y9 λ_ _ _ _ _ _ _ q=>lt_int q
theorem Uy:bG X (compareOp .LtE) (nW λi j=>.bl (decide<|i<=j)):=y9 λ_ _ _ _ _ _ _ q=>le_int q
theorem Uz:bG X (compareOp .Gt) (nW λi j=>.bl (decide<|j<i)):=y9 λ_ _ _ _ _ _ _ q=>gt_int q
theorem UA:bG X (compareOp .GtE) (nW λi j=>.bl (decide<|j<=i)):=y9 λ_ _ _ _ _ _ _ q=>ge_int q
theorem UB:bG X (compareOp .In) (λx y H Q=>∃i j,x=.str i/\y=.str j/\Q (.bl<|!(Builtin.Str.occurrences j i 0 j.length 1).isEmpty) H):=by
 intro p s e H x y v u Q I d r h;obtain⟨i,j,rfl,rfl,q⟩:=h;obtain⟨t,rfl⟩:=d;obtain⟨f,rfl⟩:=r;exact in_str<|cM I q O
theorem UC:bG X (compareOp .Is) (λx y H Q=>y=.aD/\Q (.bl<|decide<|x=.aD) H):=by
 intro p s e H x y v u Q I r d h;obtain⟨rfl,q⟩:=h;cases d;refine is_none_gen<|cM I q ?_;cases x<;>first
  | (cases r;rfl)
  | (obtain⟨t,rfl⟩:=r;rfl)
theorem UD:bG X (compareOp .IsNot) (λx y H Q=>y=.aD/\Q (.bl<|!decide (x=.aD)) H):=by
 intro p s e H x y v u Q I r d h;obtain⟨rfl,q⟩:=h;cases d;refine isnot_none_gen<|cM I q ?_;cases x<;>first
  | (cases r;rfl)
  | (obtain⟨t,rfl⟩:=r;rfl)
theorem UE:bG X (compareOp .NotIn) (λx y H Q=>∃i j,x=.str i/\y=.str j/\Q (.bl<|!(!(Builtin.Str.occurrences j i 0 j.length 1).isEmpty)) H):=by
 intro p s e H x y v u Q I d r h;obtain⟨i,j,rfl,rfl,q⟩:=h;obtain⟨t,rfl⟩:=d;obtain⟨f,rfl⟩:=r;exact notIn_str<|cM I q O
theorem bG.or(h:bG X f r)(i:bG X f r'):bG X f (λx y H Q=>r x y H Q\/r' x y H Q):=by
 intro p s d H x y v u Q I g e q;rcases q with q|q
 exact h p s d H x y v u Q I g e q;exact i p s d H x y v u Q I g e q
theorem UG(i:bG X (compareOp o) r)(k:PE X a ta)(j:PE X b tb)(m:behindInMarks o b=false):PE X (.Compare a [o] [b] pos) (gA r ta tb):=by
 intro p s d H Q I h;exact wpAny_Compare1 (CK k j I h λv u e x y n l g f q=>i p e d n x y v u Q l g f q) m
def ud(t:TE):TT:=λd H Q=>t d H λx H'=>∃k,x=.bl k/\Q k H'
theorem UH(t:bG X (compareOp o) r)(C:PE X a ta)(A:PE X b tb)(w:behindInMarks o b=false):PT X (.Compare a [o] [b] pos) (ud<|gA r ta tb):=by
 intro p s d H Q I h;refine wpAny_isTrue_Compare1 (aM (C p s d H _ I h) λv g ⟨x,P,G,l,n⟩=>aM (A p g d P _ G n) λu f ⟨y,N,E,j,m⟩=>
  aM (t p f d N x y v u _ E l j m) λc R ⟨z,K,D,i,k,e,q⟩=>?_) w
 subst e;cases i;exact wpAny_truthy_bool ⟨K,D,q⟩
def y_(r r':R2)(ta tb tc:TE):TE:=λd H Q=>ta d H λx h=>tb d h λy g=>r x y g λz e=>∃k,z=.bl k/\
 (if k=true then tc d e λw f=>r' y w f Q else Q (.bl false) e)
theorem UI{r r':R2}(R:bG X (compareOp o) r)(B:bG X (compareOp i) r')(Z:PE X a ta)(V:PE X b tb)(T:PE X c tc)(S:lastMarks [o,i] [b,c]=false:=by with_unfolding_all rfl):PE X (.Compare a [o,i] [b,c] pos) (y_ r r' ta tb tc):=by
 intro p s f H Q I h;refine Compare_chain (aM (Z p s f H _ I h) λv C ⟨x,W,L,G,P⟩=>chain_link (aM (V p C f W _ L P) λu A ⟨y,U,J,g,N⟩=>
  aM (R p A f U x y v u _ J G g N) λd t ⟨z,l,j,E,k,e,q⟩=>?_)) S
 subst e;cases E;refine wpAny_truthy_bool ?_;cases k with
 |false=>exact ite_ff ⟨.bl false,l,j,O,q⟩
 |true=>exact ite_tt (chain_last<|aM (T p t f l _ j q) λw n ⟨m,M,F,D,K⟩=>B p n f M y m u w Q F g D K)
def IL(K:Frag)(x:V)(H:Hp)(k:Bool):Prop:=
 match x with
 |.aD=>k=false
 |.bl b=>k=b
 |.int i=>k=(i !=0)
 |.str y=>y.length<=sizeLine/\k=((y.length:Int) !=0)
 |.hX y=>y.size<=sizeLine/\k=((y.size:Int) !=0)
 |.ref p=>(∃xs,au K H p xs/\k= !xs.isEmpty)\/(∃xs,aJ K H p xs/\k= !xs.isEmpty)\/∃s,H p=some (.dK s)/\k= !s.isEmpty
 |_=>False
theorem UJ{vs:List (d×Value)}(r:KV k vs):(!vs.isEmpty)= !k.isEmpty:=by
 cases r<;>rfl
theorem IM(r:Vals xs o):(!o.toArray.isEmpty)= !xs.isEmpty:=by
 cases r<;>simp
theorem rH:(sizeLine:Nat) <2 ^ 63:=by decide
theorem IP:Ui X (λx H Q=>∃k,IL X.K x H k/\Q k H):=by
 intro u s E H x v Q I g h;obtain⟨k,e,q⟩:=h;have N:=rH;have G:=sizeLine_eq;cases x with
 |aD=>
  cases g;have d:k=false:=e;subst d;exact truthy_none ⟨H,I,q⟩
 |bl b=>
  cases g;have d:k=b:=e;subst d;exact wpAny_truthy_bool ⟨H,I,q⟩
 |int i=>
  obtain⟨t,rfl⟩:=g;have d:k=(i !=0):=e;subst d;exact PySem.P.truthy_int ⟨H,I,q⟩
 |str y=>
  obtain⟨t,rfl⟩:=g;obtain⟨C,d⟩:y.length<=sizeLine/\k=((y.length:Int) !=0):=e;subst d;exact PySem.P.truthy_str (by lia) ⟨H,I.tok _,q⟩
 |hX y=>
  obtain⟨t,rfl⟩:=g;obtain⟨C,d⟩:y.size<=sizeLine/\k=((y.size:Int) !=0):=e;subst d;exact PySem.W.truthy_bytes (by lia) ⟨H,I.tok _,q⟩
 |ref p=>
  cases g;have d:=e;rcases d with⟨A,j,d⟩|⟨A,j,d⟩|⟨f,j,d⟩
  subst d;obtain⟨D,r,o,z⟩:=I.list j;have n:=r.length;exact wpAny_truthy_list o.isList (by simp only[zai];lia) ⟨H,I.tok _,by rw[IM r];exact q⟩;subst d;obtain⟨D,r,o,z⟩:=I.tuple j;have n:=r.length;exact truthy_tuple o (by simp only[zai];lia) ⟨H,I.tok _,by rw[IM r];exact q⟩;subst d;obtain⟨z,S,l,r,m⟩:f.length<=sizeLine/\(p==sysModules)=false/\∃l,KV f l/\s.heap.DictOf (eQ X.prog X.w) p l:=I.aG p _ j;have n:=Paired.length r;exact wpAny_truthy_dict S m (by lia) ⟨H,I.tok _,by rw[UJ r];exact q⟩
 |_=>exact(show False from e).elim
theorem UK:bG X (binaryOp .Add) (λx y H Q=>∃i j,x=.str i/\y=.str j/\i.length+j.length<=sizeLine/\Q (.str<|i++j) H):=by
 intro p s f H x y v u Q I e r h;obtain⟨i,j,rfl,rfl,z,q⟩:=h;obtain⟨t,rfl⟩:=e;obtain⟨d,rfl⟩:=r;exact add_str (λd k=>⟨.str<|i++j,H,I.tok _,⟨_,O⟩,q⟩) z
theorem vals1(r:Vals [x] s):∃u,s=[u]/\RelV x u:=by
 cases r with
 |cons e d=>cases d;exact⟨_,O,e⟩
theorem vals2(r:Vals [x,y] s):∃u w,s=[u,w]/\RelV x u/\RelV y w:=by
 cases r with
 |cons g f=>
  cases f with
  |cons e d=>cases d;exact⟨_,_,O,g,e⟩
theorem UL(e:X.calm=true):eJ X (.builtin "min") (λxs H Q=>∃i j,xs=[.int i,.int j]/\Q (.int (if j<i then j else i)) H):=by
 intro p s f H xs g Q I r h;obtain⟨i,j,rfl,q⟩:=h;obtain⟨u,w,rfl,⟨t,rfl⟩,⟨m,rfl⟩⟩:=vals2 r;refine min_two_ints (I.ok.hd e) λn l k=>⟨_,H,I.kept k,?_,q⟩;by_cases d:j<i;rw[if_pos d,if_pos d];exact⟨_,O⟩;rw[if_neg d,if_neg d];exact⟨_,O⟩
theorem UM:eJ X (.type "int") (λxs H Q=>(∃i,xs=[.int i]/\Q (.int i) H)\/∃k,xs=[.bl k]/\Q (.int (if k then 1 else 0)) H):=by
 intro p s e H xs f Q I r h;rcases h with⟨i,rfl,q⟩|⟨k,rfl,q⟩
 obtain⟨u,rfl,t,rfl⟩:=vals1 r;exact call_int_int ⟨.int i,H,I,⟨_,O⟩,q⟩;obtain⟨u,rfl,d⟩:=vals1 r;cases d;exact call_int_bool ⟨.int (if k then 1 else 0),H,I.tok _,⟨_,O⟩,q⟩
def IQ(K:Frag)(x:V)(H:Hp)(n:Nat):Prop:=
 match x with
 |.str y=>y.length<=sizeLine/\n=y.length
 |.hX y=>y.size<=sizeLine/\n=y.size
 |.ref p=>(∃xs,au K H p xs/\n=xs.length)\/∃xs,aJ K H p xs/\n=xs.length
 |_=>False
theorem UN:eJ X (.builtin "len") (λxs H Q=>∃x n,xs=[x]/\IQ X.K x H n/\Q (.int n) H):=by
 intro k s v H xs w Q I r h;obtain⟨x,n,rfl,e,q⟩:=h;obtain⟨u,rfl,g⟩:=vals1 r;have A:=sizeLine_eq;cases x with
 |str y=>
  obtain⟨t,rfl⟩:=g;obtain⟨m,f⟩:y.length<=sizeLine/\n=y.length:=e;subst f;exact len_str (by lia) ⟨.int _,H,I.tok _,⟨_,O⟩,q⟩
 |hX y=>
  obtain⟨t,rfl⟩:=g;obtain⟨m,f⟩:y.size<=sizeLine/\n=y.size:=e;subst f;exact PySem.W.len_bytes (by lia) ⟨.int _,H,I.tok _,⟨_,O⟩,q⟩
 |ref p=>
  cases g;have f:=e;rcases f with⟨xs,j,f⟩|⟨xs,j,f⟩
  subst f;obtain⟨o,i,l,z⟩:=I.list j;have d:=i.length;exact Calls.call_len_list l.isList (by simp;lia) ⟨.int xs.length,H,I.tok _,⟨_,by simp only[zai];rw[d]⟩,q⟩;subst f;obtain⟨o,i,l,z⟩:=I.tuple j;have d:=i.length;exact len_tuple l (by simp;lia) ⟨.int xs.length,H,I.tok _,⟨_,by simp only[zai];rw[d]⟩,q⟩
 |_=>exact(show False from e).elim
end
structure rJ(h:Heap)(x dx C:Addr)(mA:Str->Option Value):Prop where
 obj:h.get? x=some (instObj C dx)
 ns:h.Ns1 dx mA
 ne:dx≠x
theorem UO{h:Heap}{d:Addr}{m:Str->Option Value}(n:h.Ns1 d m):∃od,h.get? d=some od/\∀b,lookIn b od=some (m b):=by
 obtain⟨o,s,p,f,i,k,_,g⟩:=n;refine⟨o,f,λb=>?_⟩;have e:=g b;unfold nsFind findBy at e;rw[<-Array.find?_toList] at e;unfold lookIn;rw[i];dsimp only;split;rename_i y q;rw[q] at e;exact congrArg some e;rename_i q;rw[q] at e;have a:s.toList.any (·.refKey)=false:=by
  rw[List.any_eq_false];intro y c;obtain⟨z,t,P⟩:=k y (Array.mem_toList_iff.mp c);simp[DictEntry.refKey,P]
 have j:¬s.toList.any (·.refKey)=true:=by lia
 rw[if_neg j];exact congrArg some e
theorem rJ.look{m:Str->Option Value}(I:rJ h x d C m):∃od,InstAt h x (instObj C d) C (some od)/\∀n,lookIn n od=some (m n):=
 let ⟨od,o,l⟩:=UO I.ns
 ⟨od,⟨I.obj,O,O,o⟩,l⟩
section
variable{prog:Program}{w:World}{A:Around}{E:Value->Shared->Prop}{s:Shared}{K:Frag}{x dx C f:Addr}{mA:Str->Option Value}{name:Str}{v:Value}
theorem get_map{Q:Value->Shared->Prop}(X:K.In s.heap)(I:rJ s.heap x dx C mA)(g:plainGet K C name=true)(c:hasDictIn K C=true)(d:PySem.W.findIn K (.ref C) name=some none)(b:mA name=some v)(i:handedIn v=true)(h:Q v {s with toks:=s.toks+1}):
  wpAny (model prog w) A (getAttr (.ref x) name e) Q E s:=by
 obtain⟨o,a,l⟩:=I.look;exact PySem.W.get_value X a (plainGet_of g).1 (PySem.W.findObj_own c d O (by rw[l,b])) i h
theorem UR{Q:Value×List Value->Shared->Prop}(X:K.In s.heap)(I:rJ s.heap x dx C mA)(g:plainGet K C name=true)(c:PySem.W.findIn K (.ref C) name=some (some<|.ref f))(ht:PySem.W.isFn K (.ref f)=true)(b:mA name=none)(h:Q (.ref f,[.ref x]) s):
  wpAny (model prog w) A (getMethod (.ref x) name p) Q E s:=by
 obtain⟨o,a,l⟩:=I.look;exact PySem.W.method_fn X a (plainGet_of g).1 (plainGet_of g).2 c (beq_iff_eq.mp ht) (by show(lookIn name o).map (·.isSome)=some false;rw[l,b];rfl) h
theorem US(X:K.In s.heap)(I:rJ s.heap x dx C mA)(i:PySem.W.findIn K (.ref C) "__setattr__"=some (some<|.builtin "object.__setattr__"))(p:plainOver K C=true)(ht:takerIn K C name=some none)(j:hasDictIn K C=true)(g:PySem.Within mA n)(hsz:n.length<=sizeLine)(h:∀c,rJ c x dx C (λy=>if y=name then some v else mA y)->Heap.SameBut dx s.heap c->Q () {s with heap:=c,toks:=s.toks+2}):
  wpAny (model prog w) A (setAttr (.ref x) name v) Q E s:=by
 obtain⟨q,a,t⟩:=I.look;refine PySem.W.set_plain X a i<|PySem.W.osa_open X a p ht λb=>?_;obtain⟨u,l,e⟩:=PySem.W.any_some j;refine wpAny_bind<|wpAny_pure<|wpAny_bind<|wpAny_bind<|wpAny_loadPart I.obj<|wpAny_bind<|PySem.W.Looks.here (PySem.W.looks_clsIn X l) ?_;rw[e];refine wpAny_pure<|wpAny_bind<|wpAny_pure<|wpAny_bind (wpAny_nsSet1 I.ns λc k z=>?_);obtain⟨r,D,m,zq⟩:=qx3 (k.count (PySem.Within.cons name v g));obtain⟨T,o,d⟩:=qa3 zq;refine wpAny_bind<|wpAny_lookBehind T (o▸pastItsLine_dict (zat d (by rw[zao];exact za9 hsz _))) ?_;exact wpAny_pure<|h _ ⟨(z.2 _<|Ne.symm I.ne).trans I.obj,k,I.ne⟩ z
theorem UW{vs:List Value}{k:List (Str×Value)}(X:K.In s.heap)(m:makesIn K C=true)(i:PySem.W.findIn K (.ref C) "__init__"=some (some<|.ref f))(b:PySem.W.typeIn K (.ref f)=some (.type "function"))(h:codeAny (model prog w) (A.under (.builtin "type.__call__" ⟨.ref C::vs,k⟩)) (.call (.ref f) ⟨.ref (s.heap.objs.size+1)::vs,k⟩) (PySem.W.InitBack (s.heap.objs.size+1) R)
   {s with heap:=(s.heap.push emptyDict).push (instObj C s.heap.objs.size)}):
  codeAny (model prog w) A (.call (.ref C) ⟨vs,k⟩) R s:=by
 obtain⟨c,g,d,t,o⟩:=s;exact PySem.W.make_core (PySem.W.makes_of X m) (PySem.W.looks_findIn X i) (λa=>PySem.W.bind_fn X a b) (.inl O) h
end
noncomputable def cx(f:Str)(v:V):List (Str×V)->List (Str×V)
 |[]=>[(f,v)]
 |(g,x)::r=>if g=f then (g,v)::r else (g,x)::cx f v r
theorem IS(f g:Str)(v:V):∀s:List (Str×V),(cx f v s).lookup g=if g=f then some v else s.lookup g
 |[]=>by
  show List.lookup g [(f,v)]=_;by_cases h:g=f;have b:=beq_iff_eq.mpr h;simp only[List.lookup,b,if_pos h];have b:=beq_eq_false_iff_ne.mpr h;simp only[List.lookup,b,if_neg h]
 |(k,x)::r=>by
  rw[show cx f v ((k,x)::r)=(if k=f then (k,v)::r else (k,x)::cx f v r) from O];by_cases a:k=f;rw[if_pos a];by_cases h:g=k;have b:=beq_iff_eq.mpr h;simp only[List.lookup,b,if_pos<|h.trans a];have b:=beq_eq_false_iff_ne.mpr h;simp only[List.lookup,b,if_neg (λe:g=f=>h (e.trans a.symm))];rw[if_neg a];by_cases h:g=k;have b:=beq_iff_eq.mpr h;simp only[List.lookup,b,if_neg (λe:g=f=>a (h.symm.trans e))];have b:=beq_eq_false_iff_ne.mpr h;simp only[List.lookup,b];exact (IS f g v r)
theorem CL(f:Str)(v:V):∀s:List (Str×V),f∈ (cx f v s).map (·.1)/\∀g,g∈s.map (·.1)->g∈ (cx f v s).map (·.1)
 |[]=>⟨by simp[cx],λg h=>by simp at h⟩
 |(k,x)::r=>by
  obtain⟨b,i⟩:=CL f v r;rw[show cx f v ((k,x)::r)=(if k=f then (k,v)::r else (k,x)::cx f v r) from O];by_cases a:k=f;subst a;exact⟨by simp,λg h=>by simpa using h⟩;rw[if_neg a];refine⟨?_,λg h=>?_⟩;exact zar _ b;rcases zac.mp h with e|e
  exact zac.mpr (.inl e);exact zar _ (i g e)
theorem IT(f:Str)(v:V):∀s:List (Str×V),(cx f v s).length<=s.length+1
 |[]=>by simp[cx]
 |(k,x)::r=>by
  have i:=IT f v r;rw[show cx f v ((k,x)::r)=(if k=f then (k,v)::r else (k,x)::cx f v r) from O];by_cases h:k=f;rw[if_pos h,zao,zao];exact zbh _;rw[if_neg h,zao,zao];exact za9 i _
theorem iA.some_of(r:iA (some v) o):∃u,o=some u/\RelV v u:=by
 cases o with
 |none=>exact(show False from r).elim
 |some u=>exact⟨u,O,r⟩
theorem iA.none_of(r:iA none o):o=none:=by
 cases o with
 |none=>rfl
 |some u=>exact(show False from r).elim
theorem UX(r:RelV v u):handedIn u=true:=by
 cases v with
 |aD=>cases (show u=Value.none from r);rfl
 |bl b=>cases (show u=Value.bool b from r);rfl
 |int i=>obtain⟨t,e⟩:=(show ∃t,u=Value.int i t from r);cases e;rfl
 |str x=>obtain⟨t,e⟩:=(show ∃t,u=Value.str x t from r);cases e;rfl
 |hX b=>obtain⟨t,e⟩:=(show ∃t,u=Value.bytes b t from r);cases e;rfl
 |pN b=>obtain⟨t,e⟩:=(show ∃t,u=Value.float b t from r);cases e;rfl
 |ref a=>cases (show u=Value.ref a from r);rfl
 |ty n=>cases (show u=Value.type n from r);rfl
section
variable{P:Program}{w:World}{H H':Hp}{h h':Heap}{a C dx:Addr}{fs fs':List (Str×V)}
theorem zb(G:cw P w H h)(e:H a=some (.ins C dx fs)):∃m,rJ h a dx C m/\(∀f,iA (fs.lookup f)<|m f)/\PySem.Within m (fs.map (·.1))/\fs.length<=1000/\H dx=some (.own a):=by
 obtain⟨d,z,b,o,m,n,r,q⟩:=(show cT P w H h a (.ins C dx fs) from G a _ e);exact⟨m,⟨o,n,b⟩,r,q,z,d⟩
end
structure gT(K:Frag)(C:Addr):Prop where
 pg:plainGet K C Str.empty=true
 hd:hasDictIn K C=true
 po:plainOver K C=true
 sa:PySem.W.findIn K (.ref C) "__setattr__"=some (some<|.builtin "object.__setattr__")
theorem gT.get{K:Frag}{C:Addr}(c:gT K C)(f:Str):plainGet K C f=true:=c.pg
def gB(K:Frag)(C:Addr)(f:Str):Prop:=PySem.W.findIn K (.ref C) f=some none
theorem gB.UY{K:Frag}{C:Addr}{f:Str}(n:gB K C f):takerIn K C f=some none:=by
 unfold takerIn;rw[show PySem.W.findIn K (.ref C) f=some none from n];rfl
structure Meth(K:Frag)(C:Addr)(m:Str)(f:Addr):Prop where
 at_:PySem.W.findIn K (.ref C) m=some (some<|.ref f)
 fn:PySem.W.isFn K (.ref f)=true
 kp:PySem.W.keepIn K (.ref f)=true
section
variable{X:Cx}{pins:List (Addr×Obj)}{σ:St}{H:Hp}{s:Shared}{a C dx:Addr}{fs:List (Str×V)}{f:Str}{v:V}{A:Around}{E:Value->Shared->Prop}
theorem UZ{Q:Value->Shared->Prop}(I:Inv X pins σ H s)(e:H a=some (.ins C dx fs))(c:gT X.K C)(n:gB X.K C f)(l:fs.lookup f=some v)(h:∀u s',Inv X pins σ H s'->RelV v u->Q u s'):wpAny (model X.prog X.w) A (getAttr (.ref a) f b) Q E s:=by
 obtain⟨m,d,r,_,_,_⟩:=zb I.aG e;obtain⟨u,i,g⟩:=iA.some_of (l▸r f);exact get_map I.dv d (c.get f) c.hd n i (UX g)<|h u _ (I.tok _) g
theorem IU{p:Sem Bool}{Q:Value×List Value->Shared->Prop}(I:Inv X pins σ H s)(e:H a=some (.ins C dx fs))(c:gT X.K C)(k:Meth X.K C m g)(l:fs.lookup m=none)(h:Q (.ref g,[.ref a]) s):wpAny (model X.prog X.w) A (getMethod (.ref a) m p) Q E s:=by
 obtain⟨d,b,r,_,_,_⟩:=zb I.aG e;exact UR I.dv b (c.get m) k.at_ k.fn (iA.none_of (l▸r m)) h
theorem U0(I:Inv X pins σ H s)(e:H a=some (.ins C dx fs))(c:gT X.K C)(n:gB X.K C f)(R:fs.length<1000)(p:RelV y u)(h:∀s',Inv X pins σ (upd H a<|.ins C dx<|cx f y fs) s'->Q () s'):wpAny (model X.prog X.w) A (setAttr (.ref a) f u) Q E s:=by
 obtain⟨m,d,r,j,_,k⟩:=zb I.aG e;have t:(fs.map (·.1)).length<=sizeLine:=by rw[zaa,sizeLine_eq];lia
 refine US I.dv d c.sa c.po n.UY c.hd j t λN i l=>h _ ?_;have D:∃o,N.get? dx=some o:=let ⟨o,_,_,P,_⟩:=i.ns;⟨o,P⟩;refine I.write (e▸True.intro) (.inr k) (λb q G z=>(l.2 b G).trans z) D (⟨by rw[aF d.ne];exact k,?_,d.ne,i.obj,_,i.ns,λg=>?_,λg x=>?_⟩);have:=IT f y fs;exact zat this (zb0 R);show iA ((cx f y fs).lookup g) (if g=f then some u else m g);rw[IS];by_cases q:g=f;rw[if_pos q,if_pos q];exact p;rw[if_neg q,if_neg q];exact r g;by_cases q:g=f;rw[q];exact(CL f y fs).1;refine(CL f y fs).2 g (j g λz=>x ?_);show(if g=f then some u else m g)=none;rw[if_neg q];exact z
theorem Inv.made(I:Inv X pins σ H s):Inv X pins σ (upd (upd H s.heap.objs.size<|.own<|s.heap.objs.size+1) (s.heap.objs.size+1)<|.ins C s.heap.objs.size [])
  {s with heap:=(s.heap.push emptyDict).push (instObj C s.heap.objs.size)}:=by
 have c:(s.heap.push emptyDict).get? s.heap.objs.size=some emptyDict:=Heap.get?_push_size s.heap O;have i:=by
  have:=Heap.get?_push_size (s.heap.push emptyDict) (o:=instObj C s.heap.objs.size) O
  rwa [Heap.size_push] at this
 have g:(s.heap.push emptyDict).Ns s.heap.objs.size (λ_=>none):=⟨emptyDict,#[],_,c,O,(λe d=>absurd d (by simp)),λ_=>O⟩;refine (I.laid (o:=.own (s.heap.objs.size+1)) (t':=s.toks) (λb u q=>Heap.get?_push_of_some _ q) (zqR _) ⟨_,c⟩).laid (λb u q=>Heap.get?_push_of_some _ q) (Nat.le_of_eq<|Heap.size_push _ _) ?_;have n:s.heap.objs.size≠s.heap.objs.size+1:=zan (zbM _);refine⟨by rw[aF n,ar],zqZ _,n,i,λ_=>none,(Heap.Ns1.of_empty g).at λo q=>Heap.get?_push_of_some _ q,λ_=>True.intro,λy h=>absurd O h⟩
theorem U1{env:Env}{e:Expr}{f:Str}{p:Pos}{s:Shared}{Q:Value->Shared->Prop}(c:attributeBase e f env (eval e env)=eval e env)(h:wpAny (model prog w) A (eval e env) (λo b=>wpAny (model prog w) A (getAttr o f true) Q E b) E s):wpAny (model prog w) A (eval (.Attribute e f p) env) Q E s:=
 Attribute_any_ h (by rw[arm_eval_Attribute,c])
end
def zc(K:Frag)(t:TE)(f:Str):TE:=λc H Q=>t c H λx b=>∃a C d s v,x=.ref a/\b a=some (.ins C d s)/\gT K C/\gB K C f/\s.lookup f=some v/\Q v b
def zd(K:Frag)(e t:TE)(f:Str):TS:=λD b H=>t b H λy g=>e b g λx c=>∃a C d s,x=.ref a/\c a=some (.ins C d s)/\gT K C/\gB K C f/\s.length<1000/\
 D.nx b (upd c a<|.ins C d<|cx f y s)
section
variable{X:Cx}{o e value:Expr}{f:Str}{pos pos' CM:Pos}{ta tv:TE}
theorem U2(g:PE X e ta)(i:attributeBase e f X.env (eval e X.env)=eval e X.env):PE X (.Attribute e f pos) (zc X.K ta f):=by
 intro p s b H Q I h;refine U1 i<|aM (g p s b H _ I h) λu A ⟨x,w,t,r,a,C,E,D,v,j,k,c,n,l,q⟩=>?_;subst j;obtain rfl:u=Value.ref a:=r;exact UZ t k c n l λy z m d=>⟨v,w,m,d,q⟩
theorem IV(m:PE X o ta)(j:PE X value tv)(k:swapsWith value (some<|.Attribute o f pos') pos.line X.env=pure false):PS X (.Assign [.Attribute o f pos'] value pos) (zd X.K ta tv f):=by
 intro p s b H D I h;refine plainObj_wpAny_Assign_Attribute (aM (j p s b H _ I h) λu d ⟨y,G,E,r,q⟩=>aM (m p d b G _ E q) λv P ⟨x,S,A,g,a,C,R,Q,t,w,c,n,l,i⟩=>?_) k;subst t;obtain rfl:v=Value.ref a:=g;exact U0 A w c n l r λN z=>⟨b,_,z,i⟩
end
section
variable{X:Cx}{pins:List (Addr×Obj)}{σ:St}{H:Hp}{s:Shared}{A:Around}{E:Value->Shared->Prop}{Q:Value->Shared->Prop}{c:Value}{b:Bool}
inductive ki(K:Frag)(H:Hp):V->Value->Prop where
 |aD:ki K H .aD (.type "NoneType")
 |bl (x:Bool):ki K H (.bl x) (.type "bool")
 |int (i:Int):ki K H (.int i) (.type "int")
 |str (x:Str):ki K H (.str x) (.type "str")
 |pN (x:UInt64):ki K H (.pN x) (.type "float")
 |lst {a:Addr}{xs:List V} (e:H a=some (.lst xs)):ki K H (.ref a) (.type "list")
 |bY {a:Addr}{o:Obj}{xs:List V} (e:H a=some (.bY o<|.lst xs)):ki K H (.ref a) (.type "list")
 |tup {a:Addr}{xs:List V} (e:H a=some (.tup xs)):ki K H (.ref a) (.type "tuple")
 |dK {a:Addr}{k:List (Key×V)} (e:H a=some (.dK k)):ki K H (.ref a) (.type "dict")
 |dT {a:Addr}{k:List (List Key×V)} (e:H a=some (.dT k)):ki K H (.ref a) (.type "dict")
 |ins {a C h:Addr}{g:List (Str×V)} (e:H a=some (.ins C h g)) (u:gT K C) (j:PySem.W.findIn K (.ref C) "__class__"=some (some<|.builtin "object.__class__"))
   (n:PySem.W.specialIn K (.builtin "object.__class__") "__get__"=some (some<|.builtin "getset_descriptor.__get__")) (p:PySem.W.takesIn K (.builtin "object.__class__")=some true)
   (m:PySem.W.mroIn K C (.type "object")=some true):ki K H (.ref a) (.ref C)
theorem nY(I:Inv X pins σ H s)(r:RelV x u)(D:ki X.K H x t)(e:kitOne X.K t c=some b)(h:∀G,Q (.bool b) {s with toks:=G}):
  wpAny (model X.prog X.w) A (call (.builtin "isinstance") [u,c]) Q E s:=by
 cases D with
 |aD=>cases (show u=Value.none from r);exact kia_one PySem.W.kitx_none I.dv True.intro e (λz=>nomatch z) h
 |bl y=>cases (show u=Value.bool y from r);exact kia_one PySem.W.kitx_bool I.dv True.intro e (λz=>nomatch z) h
 |int i=>obtain⟨t,q⟩:=(show ∃t,u=Value.int i t from r);cases q;exact kia_one PySem.W.kitx_int I.dv True.intro e (λz=>nomatch z) h
 |str y=>obtain⟨t,q⟩:=(show ∃t,u=Value.str y t from r);cases q;exact kia_one PySem.W.kitx_str I.dv True.intro e (λz=>nomatch z) h
 |pN y=>obtain⟨t,q⟩:=(show ∃t,u=Value.float y t from r);cases q;exact kia_one PySem.W.kitx_float I.dv True.intro e (λz=>nomatch z) h
 | @lst a l g=>
  cases (show u=Value.ref a from r);obtain⟨_,_,n,_,j⟩:=(show cT X.prog X.w H s.heap a (.lst l) from I.aG a _ g);exact kia_one kitx_list I.dv ⟨_,j,O⟩ e (λz=>nomatch z) h
 | @bY a N l g=>
  cases (show u=Value.ref a from r);obtain⟨_,_,_,n,_,j⟩:=(show cT X.prog X.w H s.heap a (.bY N<|.lst l) from I.aG a _ g);exact kia_one kitx_list I.dv ⟨_,j,O⟩ e (λz=>nomatch z) h
 | @tup a l g=>
  cases (show u=Value.ref a from r);obtain⟨_,_,_,p⟩:=(show cT X.prog X.w H s.heap a (.tup l) from I.aG a _ g);obtain⟨o,j,m,_⟩:=p;exact kia_one PySem.W.kitx_tuple I.dv ⟨o,j,m⟩ e (λz=>nomatch z) h
 | @dK a k g=>
  cases (show u=Value.ref a from r);obtain⟨_,_,B,_,p⟩:=(show cT X.prog X.w H s.heap a (.dK k) from I.aG a _ g);obtain⟨o,V,Z,j,m,_⟩:=p;exact kia_one kitx_dict I.dv ⟨o,j,m.1⟩ e (λz=>nomatch z) h
 | @dT a k g=>
  cases (show u=Value.ref a from r);obtain⟨_,_,l,_,o,V,Z,j,m,_⟩:=(show cT X.prog X.w H s.heap a (.dT k) from I.aG a _ g);exact kia_one kitx_dict I.dv ⟨o,j,m.1⟩ e (λz=>nomatch z) h
 | @ins a C M L g v T R P S=>
  cases (show u=Value.ref a from r);obtain⟨J,d,_⟩:=zb I.aG g;obtain⟨F,f,_⟩:=d.look;exact kia_one (PySem.W.kitx_own (v.get _) v.hd T R P S) I.dv f e (λz=>nomatch z) h
end
structure d4(k:Nat)(A:Around):Prop where
 hd:A.handled=none
 dp:A.depth+3*k+5<recursionLimit
 un:A.units+16*k+200<cLine
 gd:A.guards=some []:=by rfl
theorem d4.mono{k:Nat}{A:Around}(r:d4 k A)(h:j<=k):d4 j A:=⟨r.hd,by have:=r.dp;lia,by have:=r.un;lia,r.gd⟩
theorem d4.deeper(r:d4 (k+1) A)(env:Env):d4 k (A.deeper env):=
 ⟨r.hd,by have:=r.dp;show A.depth+1+3*k+5<_;lia,by have:=r.un;show A.units+3+16*k+200<_;lia,r.gd⟩
theorem U3{A:Around}{C:Addr}{u:List Value}{k:List (Str×Value)}:(A.under<|.builtin "type.__call__" ⟨.ref C::u,k⟩).depth=A.depth+1:=O
theorem U4{A:Around}{C:Addr}{u:List Value}{k:List (Str×Value)}:(A.under<|.builtin "type.__call__" ⟨.ref C::u,k⟩).units=A.units+1:=O
theorem d4.make(r:d4 (k+1) A)(C:Addr)(u:List Value)(w:List (Str×Value)):d4 k (A.under<|.builtin "type.__call__" ⟨.ref C::u,w⟩):=
 ⟨r.hd,by have:=r.dp;rw[U3];lia,by have:=r.un;rw[U4];lia,by first|exact r.gd|simp⟩
theorem d4.depth(r:d4 k A):A.depth<recursionLimit:=by have:=r.dp;lia
theorem d4.units(r:d4 k A):A.units+64<cLine:=by have:=r.un;lia
def i7:TA:=λ_ H Q=>Q [] H
def d5(b:TE)(t:TA):TA:=λa H Q=>b a H λx d=>t a d λxs c=>Q (x::xs) c
section
variable{X:Cx}{e:Expr}{es:List Expr}{te:TE}{t:TA}{pos:Pos}
theorem uf:PA X [] i7:=λ_ _ _ _ H Q I h=>Calls.spliced_nil ⟨[],H,I,.nil,h⟩
theorem nZ(j:PE X e te)(i:PA X es t)(g:starEach (e::es) X.env=(false,eval e X.env)::starEach es X.env:=by rfl):PA X (e::es) (d5 te t):=by
 intro pos p s a H Q I h;rw[g];exact Calls.spliced_cons<|aM (j p s a H _ I h) λu c ⟨x,n,l,d,f⟩=>aM (i pos p c a n _ l f) λo v ⟨b,m,k,r,q⟩=>⟨x::b,m,k,.cons d r,q⟩
def IW(t:TA):TE:=λb H Q=>t b H λxs a=>xs.length<=sizeLine/\∀p,a p=none->Q (.ref p) (upd a p<|.tup xs)
def IX(t:TA):TE:=λb H Q=>t b H λxs a=>xs.length<=sizeLine/\∀p,a p=none->Q (.ref p) (upd a p<|.lst xs)
theorem U5(h:PA X es t):PE X (.Tuple es j pos) (IW t):=by
 intro p s d H Q I g;refine wpAny_Tuple_spliced<|aM (h pos p s d H _ I g) λf a ⟨x,i,c,r,z,q⟩=>⟨r.length▸z,⟨.ref a.heap.objs.size,upd i a.heap.objs.size<|.tup x,c.laid (λb u e=>Heap.get?_push_of_some _ e) (zqR _) ?_,O,q _ (c.aG.fresh (zqR _))⟩⟩;exact⟨z,f,r,⟨_,Heap.get?_push_size _ O,O,_,O⟩⟩
theorem U6(h:PA X es t):PE X (.List es pos) (IX t):=by
 intro p s d H Q I g;refine wpAny_List_spliced<|aM (h pos p s d H _ I g) λf a ⟨x,i,c,r,z,q⟩=>⟨r.length▸z,⟨.ref a.heap.objs.size,upd i a.heap.objs.size<|.lst x,c.laid (λb u e=>Heap.get?_push_of_some _ e) (zqR _) ?_,O,q _ (c.aG.fresh (zqR _))⟩⟩;exact⟨z,f,0,r,Heap.get?_push_size _ O⟩
end
abbrev Sp:=List V->Hp->VK->XK->Prop
abbrev cE:=List Env->Hp->Shared->XK->Value->Shared->Prop
structure n_(P:Program)(w:World)(K:Frag)(mg:Str->Option Value)(base:Heap)(A:Around)(outer:List Env)(s:Shared)(H:Hp):Prop where
 frames:A.frames=some outer
 mod:Mod K mg base
 bs:∀b o,base.get? b=some o->s.heap.get? b=some o/\H b=none
 pO:base.objs.size<=s.heap.objs.size
 kf:s.heap.FunFrames base outer
 rB:∀b∈bR outer,H b=none
 aG:cw P w H s.heap
 bare:AllBare s.gens
def CE(o:List Env)(P:Program)(w:World)(H:Hp)(s:Shared)(Q:VK)(u:Value)(s':Shared):Prop:=
 ∃v H',s'.os=s.os/\AllBare s'.gens/\Un (bR o) [] H H' s.heap s'.heap/\cw P w H' s'.heap/\RelV v u/\Q v H'
def CR(CX:cE)(o:List Env)(P:Program)(w:World)(H:Hp)(s:Shared)(Q:VK)(E:XK)(r:Result)(s':Shared):Prop:=
 match r with
 |.ok (.ret u)=>CE o P w H s Q u s'
 |.ok _=>False
 |.error e=>CX o H s E e s'
structure de(P:Program)(w:World)(K:Frag)(mg:Str->Option Value)(base:Heap)(CX:cE)(k:Nat)(f:Addr)(fd:FuncData)(ps:List Str)(sp:Sp):Prop where
 len:∀vs H Q E,sp vs H Q E->vs.length=ps.length
 run:∀(A:Around)(outer:List Env)(s:Shared)(H:Hp)(args:Args)(us:List Value)(vs:List V)(Q:VK)(E:XK),d4 k A->n_ P w K mg base A outer s H->BindsTo s fd args (ps.zip us)->Vals vs us->sp vs H Q E->
  codeAny (model P w) A (.call (.ref f) args) (CR CX outer P w H s Q E) s
theorem de.mono{K:Frag}{m:Str->Option Value}{b:Heap}{CX:cE}{j k:Nat}{f:Addr}{d:FuncData}{p:List Str}{sp:Sp}(a:de P w K m b CX j f d p sp)(h:j<=k):
  de P w K m b CX k f d p sp:=⟨a.len,λA o s H c u v Q E r=>a.run A o s H c u v Q E<|r.mono h⟩
theorem n_.make{K:Frag}{m:Str->Option Value}{b:Heap}{A:Around}{o:List Env}{s:Shared}{H:Hp}(e:n_ P w K m b A o s H)(C:Addr)(u:List Value)(k:List (Str×Value)):
  n_ P w K m b (A.under<|.builtin "type.__call__" ⟨.ref C::u,k⟩) o s H:=⟨by first|exact e.frames| (simpa[Around.under,Code.envs,Code.isFrame,pushEnvs] using e.frames),e.mod,e.bs,e.pO,e.kf,e.rB,e.aG,e.bare⟩
section
variable{X:Cx}{pins:List (Addr×Obj)}{σ:St}{H:Hp}{s s':Shared}
theorem Inv.CO(I:Inv X pins σ H s):n_ X.prog X.w X.K X.mg X.base X.A X.stack s H:=
 ⟨I.ok.frames,I.ok.mod,I.bs,zat I.ok.pO I.sz,I.stack,I.yT,I.aG,I.bare⟩
theorem Inv.after(I:Inv X pins σ H s)(h:CE X.stack X.prog X.w H s Q u s'):EP X pins σ Q u s':=by
 obtain⟨v,c,o,e,n,G,r,q⟩:=h;obtain⟨f,g,d,t,a⟩:=s';obtain rfl:a=s.os:=o;exact⟨v,c,I.call n G e<|λb z=>absurd z (by simp),r,q⟩
end
def CQ(sp:Sp)(h:List V)(E:XK)(t:TA):TE:=λa H Q=>t a H λvs b=>sp (vs++h) b Q E
def rL(C:Addr)(m:Str)(sp:Sp)(h:List V)(E:XK)(d:TE)(t:TA):TE:=λb H Q=>d b H λx c=>∃a e f,x=.ref a/\c a=some (.ins C e f)/\f.lookup m=none/\
 t b c λvs g=>sp (x::(vs++h)) g Q E
def CS(C:Addr)(sp:Sp)(h:List V)(E:XK)(t:TA):TE:=λb H Q=>t b H λvs a=>∀x d,a x=none->a d=none->d≠x->
 sp (.ref x::(vs++h)) (upd (upd a d<|.own x) x<|.ins C d []) (λv c=>v=.aD/\Q (.ref x) c) E
def Binds(K:Frag)(f:FuncData)(p:List Str)(d:List Value):Prop:=
 ∀(s:Shared)(u:List Value),K.In s.heap->(u++d).length=p.length->BindsTo s f ⟨u,[]⟩ (p.zip<|u++d)
theorem Binds.all{K:Frag}{f:FuncData}{p:List Str}(h:∀u:List Value,u.length=p.length->bindArgs f ⟨u,[]⟩=pure (p.zip u)):Binds K f p []:=λs u _ l=>by
 rw[zae] at l⊢;exact .of_eq<|h u l
def Passes(CX:cE)(X:Cx)(E:XK):Prop:= ∀(p:List (Addr×Obj))(a:St)(H:Hp)(s:Shared)(e:Value)(s':Shared),Inv X p a H s->CX X.stack H s E e s'->X.xe e s'
section
variable{X:Cx}{CX:cE}{k:Nat}{f C:Addr}{fd:FuncData}{ps:List Str}{sp:Sp}{h_:List V}{ds:List Value}{E:XK}{x m:Str}{p pos apos:Pos}{e o:Expr}{es:List Expr}{ta:TE}{t:TA}
theorem CT{d:St}{H:Hp}{s:Shared}{Q:VK}{c:List Value}{vs:List V}(a:de X.prog X.w X.K X.mg X.base CX k f fd ps sp)(l:d4 k X.A)(v:Binds X.K fd ps ds)(n:Vals h_ ds)(j:Passes CX X E)(I:Inv X b d H s)(r:Vals vs c)(h:sp (vs++h_) H Q E):wpAny (model X.prog X.w) X.A (call (.ref f) c) (EP X b d Q) X.xe s:=by
 have g:=r.append n;refine wpAny_call<|codeAny_mono (a.run X.A X.stack s H ⟨c,[]⟩ (c++ds) (vs++h_) Q E l I.CO (v s c I.dv (g.length▸a.len _ _ _ _ h)) g h) λr i q=>?_;cases r with
 |error e=>exact j b d H s e i I q
 |ok y=>
  cases y with
  |ret u=>exact I.after q
  |next=>exact False.elim q
  |brk=>exact False.elim q
  |cont=>exact False.elim q
theorem U7(a:de X.prog X.w X.K X.mg X.base CX k f fd ps sp)(l:d4 k X.A)(v:Gl X x)(n:X.mg x=some (.ref f))(u:PySem.W.keepIn X.K (.ref f)=true)(D:Binds X.K fd ps ds)(z:Vals h_ ds)(i:Passes CX X E)(G:PA X (e::es) t)(g:(x==("__debug__":Str))=false:=by decide)(y:starEach (e::es) X.env=(false,eval e X.env)::starEach es X.env:=by rfl)(j:(backTo pos<|starEach es X.env).any (·.1)=false:=by rfl):
  PE X (.Call (.Name x p) (e::es) [] pos) (CQ sp h_ E t):=by
 intro b s d H Q I h;exact wpAny_Call_Name_kw<|vN I v n (callWith_K I.ok.mod.rA u (aM (G pos b s d H _ I h) λP R ⟨N,S,c,r,q⟩=>⟨c.dv,CT a l D z i c r q⟩) y j) g
structure Mk(K:Frag)(C f:Addr):Prop where
 makes:makesIn K C=true
 init:PySem.W.findIn K (.ref C) "__init__"=some (some<|.ref f)
 fn:PySem.W.isFn K (.ref f)=true
 kp:PySem.W.keepIn K (.ref C)=true
theorem U8{i:St}{H:Hp}{s:Shared}{Q:VK}{b:List Value}{vs:List V}(M:Mk X.K C f)(a:de X.prog X.w X.K X.mg X.base CX k f fd ps sp)(D:d4 (k+1) X.A)(P:Binds X.K fd ps ds)(N:Vals h_ ds)(z:Passes CX X E)(I:Inv X c i H s)(r:Vals vs b)(h:∀x d,H x=none->H d=none->d≠x->sp (.ref x::(vs++h_)) (upd (upd H d<|.own x) x<|.ins C d []) (λv B=>v=.aD/\Q (.ref x) B) E):
  wpAny (model X.prog X.w) X.A (call (.ref C) b) (EP X c i Q) X.xe s:=by
 have q:=h (s.heap.objs.size+1) s.heap.objs.size (I.aG.fresh<|zbh _) (I.aG.fresh<|zqR _) (zan<|zbM _);have g:=Inv.made (C:=C) I;have j:Vals (V.ref (s.heap.objs.size+1)::(vs++h_)) (Value.ref (s.heap.objs.size+1)::(b++ds)):=.cons O (r.append N);have G:=by
  have e:=j.length;rw[a.len _ _ _ _ q] at e;exact e.symm
 refine wpAny_call (UW I.dv M.makes M.init (beq_iff_eq.mp M.fn) (codeAny_mono (a.run _ X.stack _ _ ⟨Value.ref (s.heap.objs.size+1)::b,[]⟩ (Value.ref (s.heap.objs.size+1)::(b++ds)) _ _ E (D.make C b [])
  (g.CO.make C b []) (P _ (Value.ref (s.heap.objs.size+1)::b) g.dv G) j q) λr l S=>?_))
 cases r with
 |error e=>exact z c i _ _ e l g S
 |ok R=>
  cases R with
  |ret u=>
   obtain⟨v,F,Z,n,T,y⟩:=g.after S;subst T;exact⟨n,⟨V.ref<|s.heap.objs.size+1,F,Z,O,y⟩⟩
  |next=>exact False.elim S
  |brk=>exact False.elim S
  |cont=>exact False.elim S
theorem U9(M:Mk X.K C f)(a:de X.prog X.w X.K X.mg X.base CX k f fd ps sp)(l:d4 (k+1) X.A)(u:Gl X x)(n:X.mg x=some (.ref C))(z:Binds X.K fd ps ds)(y:Vals h_ ds)(i:Passes CX X E)(D:PA X (e::es) t)(g:(x==("__debug__":Str))=false:=by decide)(v:starEach (e::es) X.env=(false,eval e X.env)::starEach es X.env:=by rfl)(j:(backTo pos<|starEach es X.env).any (·.1)=false:=by rfl):
  PE X (.Call (.Name x p) (e::es) [] pos) (CS C sp h_ E t):=by
 intro b s d H Q I h;exact wpAny_Call_Name_kw<|vN I u n (callWith_K I.ok.mod.rA M.kp (aM (D pos b s d H _ I h) λN P ⟨G,R,c,r,q⟩=>⟨c.dv,U8 M a l z y i c r q⟩) v j) g
end
structure pQ(N P:List Str)(sc:Scope):Prop where
 kind:sc.kind=.function
 co:sc.isCoroutine=false
 gen:sc.isGenerator=false
 nd:N.Nodup
 pre:N.take P.length=P
 par:∀x∈P,sc.names.lookup x=some .local\/sc.names.lookup x=some .cell
 U_:∀y∈sc.names,y.2≠ .free
theorem IY{x:Str}:∀{b:List (Str×Value)}{m:Str->Option Value},(∀v,(x,v)∉b)->bindL k b m x=m x
 |[],_,_=>O
 |(n,v)::r,m,h=>by
  unfold bindL;rw[IY λw a=>h w (zar _ a)];split;have:x≠n:=by rintro rfl;exact h v zau
  simp[this];rfl
theorem IZ{x:Str}:∀{b:List (Str×Value)}{m:Str->Option Value},(∀v,(x,v)∉b)->bindC k b m x=m x
 |[],_,_=>O
 |(n,v)::r,m,h=>by
  unfold bindC;rw[IZ λw a=>h w (zar _ a)];split;rfl;have:x≠n:=by rintro rfl;exact h v zau
  simp[this]
theorem I_{x:Str}{v:Value}:∀{P:List Str}{vs:List Value}{i:Nat}{m:Str->Option Value},P.Nodup->P[i]?=some x->vs[i]?=some v->k x=some .local->
  bindL k (P.zip vs) m x=some v
 |[],_,_,_,_,h,_,_=>by simp at h
 |_::_,[],_,_,_,_,h,_=>by simp at h
 |p::P,w::vs,0,m,n,b,a,c=>by
  simp at b a;subst b;subst a;show bindL k ((p,w)::P.zip vs) m p=_;unfold bindL;rw[IY λv d=>(zaN.mp n).1 (zbN d).1,if_pos c];simp
 |p::P,w::vs,i+1,m,n,b,a,c=>by
  unfold bindL;exact I_ (zaN.mp n).2 (by simpa using b) (by simpa using a) c
theorem Ja{x:Str}{v:Value}:∀{P:List Str}{vs:List Value}{i:Nat}{m:Str->Option Value},P.Nodup->P[i]?=some x->vs[i]?=some v->k x≠some .local->
  bindC k (P.zip vs) m x=some v
 |[],_,_,_,_,h,_,_=>by simp at h
 |_::_,[],_,_,_,_,h,_=>by simp at h
 |p::P,w::vs,0,m,n,b,a,c=>by
  simp at b a;subst b;subst a;show bindC k ((p,w)::P.zip vs) m p=_;unfold bindC;rw[IZ λv d=>(zaN.mp n).1 (zbN d).1,if_neg c];simp
 |p::P,w::vs,i+1,m,n,b,a,c=>by
  unfold bindC;exact Ja (zaN.mp n).2 (by simpa using b) (by simpa using a) c
noncomputable def start(N:List Str)(vs:List V):St:=vs.map some++List.replicate (N.length - vs.length) none
noncomputable def oh(CX:cE)(P:Program)(w:World)(K:Frag)(m:Str->Option Value)(b:Heap)(N:List Str)(q:Str)(a:Scope)(f:Addr)(c:Value)(A:Around)(o:List Env)(s:Shared)(H:Hp)(E:XK):Cx where
 prog:=P
 w:=w
 K:=K
 mg:=m
 base:=b
 A:=A.deeper (envOfC q a s.heap.objs.size f c)
 N:=N
 s₀:=s
 H₀:=H
 env:=envOfC q a s.heap.objs.size f c
 outer:=o
 stack:=envOfC q a s.heap.objs.size f c::o
 ex:=[]
 calm:=true
 fn:=λ_=>true
 pn:=[]
 xe:=λe s'=>wpAny (model P w) (A.deeper<|envOfC q a s.heap.objs.size f c) (leaving (envOfC q a s.heap.objs.size f c) e) (λ_ i=>CX o H s E e i) (λd i=>CX o H s E d i) s'
theorem Jb{s:Scope}{n:Nat}{x:Str}(h:s.names.lookup x=some .cell):∃c,(cellsFrom n s.names []).lookup x=some c:=by
 exact zbO.mp (cellsFrom_some s.names n [] (.inl h))
theorem Jc{P:Program}{w:World}{K:Frag}{R:Str->Option Value}{j:Heap}{N n:List Str}{l:Str}{d:Scope}{f:Addr}{I:Value}{A:Around}{o:List Env}{s X:Shared}{H:Hp}{E:XK}{Q:List Value}{vs:List V}(S:pQ N n d)(L:A.handled=none)(m:n_ P w K R j A o s H)(Y:vs.length=n.length)(r:Vals vs Q)(x:InCallC s s.heap.objs.size (bindL (envOfC l d s.heap.objs.size f I).kindOf (n.zip Q) λ_=>none) (cellsFrom (s.heap.objs.size+1) d.names []) (bindC (envOfC l d s.heap.objs.size f I).kindOf (n.zip Q) λ_=>none) X):
  Inv (oh CX P w K R j N l d f I A o s H E) [] (start N vs) H X:=by
 have W:=by have:=congrArg List.length S.pre;rw[zaF] at this;omega
 obtain⟨G,U,rfl,B⟩:=x.done;have T:∀b:Addr,b∉ (oh CX P w K R j N l d f I A o s H E).ex:=λb z=>absurd (show b∈ ([]:List Addr) from z) (by simp);refine⟨⟨m.mod,S.kind,O,O,zqR _,λy z c G g=>?_,λy t=>?_,λy c _ h=>?_,λ_=>L,Around.frames_deeper m.frames,.inr ⟨O,O⟩,λb z=>absurd z (T b),m.bs,m.pO,λb _ _=>T b,λb z=>absurd z (T b),m.kf,m.rB⟩,
  rfl,m.bare,Un.kept B,⟨_,x.toInCall.ns,λi y v G g h3=>?_⟩,λy c h=>⟨_,x.cell y c h⟩,m.aG.fresh (zqR _),λy c h=>?_,λp C=>absurd (show p∈ ([]:List (Addr×Obj)) from C) (by simp),m.aG.kept B,?_⟩
 exact name_of_addr x.apart (PySem.mem_of_lookup G) (PySem.mem_of_lookup g);rcases t with t|t
 exact Jb t;exact absurd O (S.U_ _<|PySem.mem_of_lookup t);exact zby (x.above y c<|PySem.mem_of_lookup h);have D:i<vs.length:=by
  unfold start at g;by_cases D:i<vs.length;exact D;rw[zaW (by simpa using D)] at g;rw[List.getElem?_replicate] at g;split at g<;>cases g
 have M:vs[i]?=some v:=by
  unfold start at g;rw[zax (by simpa using D),zaf] at g;cases e:vs[i]? with
  |none=>rw[e] at g;cases g
  |some a=>rw[e] at g;cases g;rfl
 obtain⟨u,Z,F⟩:=r.get M;have C:n[i]?=some y:=by
  rw[<-S.pre,List.getElem?_take_of_lt (zaq D (za3 Y))];exact G
 have J:=S.pre▸S.nd.sublist (List.take_sublist _ _);refine⟨u,F,?_⟩;rcases S.par y (zak C) with k|k
 exact .inl ⟨k,I_ J C Z k⟩;obtain⟨c,e⟩:=Jb k;refine .inr ⟨.inl k,c,e,?_⟩;have q:=x.cell y c e;rw[Ja J C Z (by show d.names.lookup y≠_;rw[k];decide)] at q;exact q;exact m.aG.fresh (zby<|x.above y c<|PySem.mem_of_lookup h);unfold start;show _=N.length;rw[zqA,zaa,zaJ];omega
theorem Va{w:World}{K:Frag}{X:Str->Option Value}{g:Heap}{k:Nat}{f:Addr}{j l:Str}{p:Arguments}{h:List Stmt}{c:Scope}{Y M R L m ct oc:Value}{an od:Option Addr}{iE:Array (Option Value)}{N T:List Str}{sp:Sp}(lk:K.lookup f=some ⟨oc,od,.func<|PySem.W.fnOf j l p h c Y M R L an m ct,iE⟩)(jx:PySem.W.codeIn K m l=true)(S:pQ N T c)(C:∀vs H Q E,sp vs H Q E->vs.length=T.length)(CU:∀(A:Around)(d:List Env)(s:Shared)(H:Hp)(vs:List V)(Q:VK)(E:XK),d4 k (A.deeper (envOfC l c s.heap.objs.size f m))->sp vs H Q E->
   ∃t,dZ (oh CX P w K X g N l c f m A d s H E) h t/\t {nx:=λ_ H'=>Q .aD H',rt:=Q} (start N vs) H):
  de P w K X g CX (k+1) f (PySem.W.fnOf j l p h c Y M R L an m ct) T sp:=by
 refine⟨C,λA d s H a' us vs Q E F G hb r U=>?_⟩;have KX:=G.mod.rA.keeps λb o e=>(G.bs b o e).1;have CV:∀y∈T.zip us,c.names.lookup y.1=some .local\/(c.names.lookup y.1=some .cell/\((cellsFrom (s.heap.objs.size+1) c.names []).lookup y.1).isSome=true):=λ⟨n,v⟩ hy=>by
  rcases S.par n (zbN hy).1 with q|q
  exact .inl q;exact .inr ⟨q,cellsFrom_some _ _ _<|.inl q⟩
 refine codeAny_call_function F.depth (KX _ _ lk) O S.co S.gen O (codeRec_of KX jx)<|hb _ _ _ _ (wpAny_newFunctionEnv_cells S.kind CV λb' he J x=>?_);subst he;refine⟨(G.mod.nolimit.keeps λb o e=>(G.bs b o e).1).keeps x.toInCall.keep,codeAny_func ?_⟩;obtain⟨t,ht,hq⟩:=CU A d s H vs Q E (F.deeper _) U;have I:Inv (oh CX P w K X g N l c f m A d s H E) [] (start N vs) H J:=Jc S F.hd G (C _ _ _ _ U) r x;refine wpAny_mono (ht [] J (start N vs) H _ I hq) (λfl Z z=>?_) λe Z z=>z;have D:∀{i:St}{H':Hp}{v:V}{u:Value},Inv (oh CX P w K X g N l c f m A d s H E) [] i H' Z->RelV v u->Q v H'->CE d P w H s Q u Z:=
  λ{i H' v u} a B q=>⟨v,H',a.os,a.bare,a.base,a.aG,B,q⟩
 cases fl with
 |ret u=>
  obtain⟨v,i,H',a,B,q⟩:=z;exact D a B q
 |next=>
  obtain⟨i,H',a,q⟩:=z;exact D (v:=V.aD) a O q
 |brk=>
  obtain⟨_,_,_,q⟩:=z;exact False.elim q
 |cont=>
  obtain⟨_,_,_,q⟩:=z;exact False.elim q
section
variable{X:Cx}{x:Str}{p pos:Pos}{e:Expr}{es:List Expr}{t:TA}{id T:String}{r:List V->Hp->VK->Prop}
def ia(r:List V->Hp->VK->Prop)(t:TA):TE:=λa H Q=>t a H λvs b=>r vs b Q
theorem CW(j:eJ X (.builtin id) r)(g:Gl X x)(m:X.mg x=none)(f:bootBuiltins x=some (.builtin id))(l:PA X (e::es) t)(n:x≠"__name__":=by decide)(o:(x==("__debug__":Str))=false:=by decide)(i:starEach (e::es) X.env=(false,eval e X.env)::starEach es X.env:=by rfl)(k:(backTo pos<|starEach es X.env).any (·.1)=false:=by rfl):PE X (.Call (.Name x p) (e::es) [] pos) (ia r t):=by
 intro a s b H Q I h;exact wpAny_Call_Name_kw<|nV I g m f (PyProof.Rows.callWith_builtin1 (aM (l pos a s b H _ I h) λu c ⟨v,y,w,d,q⟩=>j a c b y v u Q w d q) i k) n o
theorem Vb(j:eJ X (.type T) r)(g:Gl X x)(m:X.mg x=none)(f:bootBuiltins x=some (.type T))(l:PA X (e::es) t)(n:x≠"__name__":=by decide)(o:(x==("__debug__":Str))=false:=by decide)(i:starEach (e::es) X.env=(false,eval e X.env)::starEach es X.env:=by rfl)(k:(backTo pos<|starEach es X.env).any (·.1)=false:=by rfl):PE X (.Call (.Name x p) (e::es) [] pos) (ia r t):=by
 intro a s b H Q I h;exact wpAny_Call_Name_kw<|nV I g m f (PyProof.Rows.callWith_type1 (aM (l pos a s b H _ I h) λu c ⟨v,y,w,d,q⟩=>j a c b y v u Q w d q) i k) n o
end
end L2
namespace HT
open PySem PyProof.Rows
section
variable{prog:Program}{w:World}{A:Around}{E:Value->Shared->Prop}{s:Shared}
theorem Vc{Q:Value->Shared->Prop}(ht:IsTup s.heap t vs.toArray)(u:IsTup s.heap b a.toArray)(k:vs≠ [])(y:a=[]->Q (.ref t) s)(x:a≠ []->Q (.ref s.heap.objs.size) {s with heap:=s.heap.push {cls:=.type "tuple",data:=.seq (vs++a).toArray}})(hsz:vs.length+a.length<=sizeLine):wpAny (model prog w) A (binaryOp .Add (.ref t)<|.ref b) Q E s:=by
 obtain⟨⟨i,m,d,l⟩,o,r,n,q⟩:=id ht;obtain⟨⟨C,p,f,v⟩,g,z,j,c⟩:=id u;subst r q z c;have e:vs.toArray++a.toArray=(vs++a).toArray:=by simp
 by_cases h:a=[];exact concat_meets ⟨_,o,O⟩ ⟨_,g,O⟩ noFill_tuple_add seq_tuple_add PySem.F.slot_tuple_add PySem.F.entry_tuple_add (PySem.F.args_tuple_add_2 _ _)
  (tuple_addW1 t b vs.toArray a.toArray n j m p l v (by simpa using k) (by simp[h])) ⟨o,g,y h⟩
 refine concat_meets ⟨_,o,O⟩ ⟨_,g,O⟩ noFill_tuple_add seq_tuple_add PySem.F.slot_tuple_add PySem.F.entry_tuple_add (PySem.F.args_tuple_add_2 _ _)
  (tuple_addW2 t b vs.toArray a.toArray n j m p l v (by simpa using k) (by simpa using h) (by exact hsz)) ⟨o,g,?_⟩
 rw[e];exact x h
noncomputable def bq(n d:Nat):Option Int->Nat
 |none=>d
 |some v=>if v<0 then (v+(n:Int)).toNat else min v.toNat n
theorem Jf(n d:Nat):bq n d none=d:=O
theorem rM(n d k:Nat):bq n d (some (k:Int))=min k n:=O
theorem CY(n d:Nat)(a:d<=n)(o:Option Int):bq n d o<=n:=by
 cases o with
 |none=>exact a
 |some v=>
  show(if v<0 then (v+(n:Int)).toNat else min v.toNat n)<=n;by_cases h:v<0;lia;rw[if_neg h];exact Nat.min_le_right _ _
theorem Jg(v:Int)(n d:Nat):(if v<0 then max (v+(n:Int)) 0 else min v (n:Int))=((bq n d (some v):Nat):Int):=by
 show(if v<0 then max (v+(n:Int)) 0 else min v (n:Int))=(((if v<0 then (v+(n:Int)).toNat else min v.toNat n):Nat):Int);by_cases h:v<0;lia;lia
theorem Vd(lo h:Option Int)(n:Nat):Builtin.Slice.sliceAdjust lo h 1 (n:Int)=(((bq n 0 lo:Nat):Int),((bq n n h:Nat):Int)):=by
 refine Prod.ext ?_ ?_;cases lo with
 |none=>rfl
 |some v=>exact Jg v n 0
 cases h with
 |none=>rfl
 |some v=>exact Jg v n n
theorem Ve(i j:Nat):Builtin.Slice.slicePlaces (i:Int) (j:Int) 1=j - i:=by
 unfold Builtin.Slice.slicePlaces;split<;>lia
theorem Jh(p:IsPart v o)(h:Q o s):wpAny (model prog w) A (Builtin.Slice.slicePartIndex v) Q E s:=by
 cases p with
 |none=>exact slicePart_none h
 |int i t=>exact slicePart_int h
theorem Vf{lo i:Option Int}{n:Nat}{Q:Int×Int×Nat->Shared->Prop}(c:s.heap.IsSliceOf a l u .none)(b:IsPart l lo)(p:IsPart u i)(h:Q (((bq n 0 lo:Nat):Int),1,bq n n i - bq n 0 lo) s):wpAny (model prog w) A (Builtin.Slice.sliceApplied (.ref a)<|pure (n:Int)) Q E s:=by
 obtain⟨o,v,d,z⟩:=id c;refine wpAny_bind<|wpAny_bind<|wpAny_field v z O<|wpAny_bind<|wpAny_field v z O<|wpAny_bind<|wpAny_field v z O<|wpAny_pure (wpAny_bind<|slicePart_none (wpAny_bind<|Jh b<|wpAny_bind<|Jh p<|wpAny_bind<|wpAny_pure ?_));show wpAny _ _ (match Builtin.Slice.sliceAdjust lo i 1 (n:Int) with|(lo,i)=>pure (lo,(1:Int),Builtin.Slice.slicePlaces lo i 1)) _ _ s;rw[Vd lo i n];show wpAny _ _ (pure (((bq n 0 lo:Nat):Int),(1:Int),Builtin.Slice.slicePlaces ((bq n 0 lo:Nat):Int) ((bq n n i:Nat):Int) 1)) _ _ s;rw[Ve];exact wpAny_pure h
theorem Vg(xs:Array Value)(i k:Nat):((List.range k).filterMap fun(m:Nat)=>xs[((i:Int)+(m:Int)*1).toNat]?).toArray=((xs.toList.drop i).take k).toArray:=by
 have e:(fun(m:Nat)=>xs[((i:Int)+(m:Int)*1).toNat]?)=λm=>xs[i+m]?:=by
  funext m;have:((i:Int)+(m:Int)*1).toNat=i+m:=by lia
  rw[this]
 rw[e];have:=pick_run xs i k;rw[zbz] at this;have a:((λx=>xs[x]?)∘λx=>i+x)=λm=>xs[i+m]?:=O;rw[a] at this;rw[this]
theorem Vh{i:Array Value}{l v:Value}{lo a:Option Int}{Q:Value->Shared->Prop}(ht:IsTup s.heap t i)(c:s.heap.IsSliceOf b l v .none)(d:IsPart l lo)(p:IsPart v a)(e:¬(bq i.size 0 lo=0/\bq i.size i.size a=i.size))(h:Q (.ref s.heap.objs.size) {s with heap:=s.heap.push {cls:=.type "tuple",data:=.seq ((i.toList.drop<|bq i.size 0 lo).take<|bq i.size i.size a - bq i.size 0 lo).toArray}})(hsz:i.size<=sizeLine):wpAny (model prog w) A (getItem (.ref t)<|.ref b) Q E s:=by
 have z:=by
  show((i.toList.drop<|bq i.size 0 lo).take<|bq i.size i.size a - bq i.size 0 lo).toArray.size<=sizeLine;rw[zai,zaF,zaB,zbK];omega
 obtain⟨o,V,g,k⟩:=id c;have f:s.TypeIs (.ref b) "slice":=⟨o,V,g⟩;unfold getItem
 try with_reducible refine wpAny_holding ?_
 refine wpAny_bind<|wpAny_sequenceKey ht.typeIs (O) ?_;refine wpAny_bind (wpAny_callSpecial?_slot ht.typeIs PyProof.Rows.slot_tuple_getitem
  (wpAny_call_entry PyProof.Rows.slot_tuple_getitem ht.typeIs entry_tuple_getitem ?_ (args_tuple_getitem _ _)))
 show wpAny _ _ (Builtin.Tuple.tupleItemsOf (.ref t) >>=_) _ _ s;refine wpAny_bind<|tupleItemsOf_ ht (wpAny_bind<|wpAny_typeOf f (wpAny_bind<|Vf c d p ?_));have j:¬((((bq i.size 0 lo:Nat):Int)==0 && (1:Int)==1 && (bq i.size i.size a - bq i.size 0 lo)==i.size)=true):=by
  intro q;rw[zaj,zaj] at q;have r:=eq_of_beq q.1.1;have n:=eq_of_beq q.2;exact e ⟨by lia,by lia⟩
 show wpAny _ _ (if (((bq i.size 0 lo:Nat):Int)==0 && (1:Int)==1 && (bq i.size i.size a - bq i.size 0 lo)==i.size)=true then _ else _) _ _ s;rw[if_neg j,Vg]
 first
  |exact wpAny_bind (wpAny_newObj_type (wpAny_pure ⟨_,O,wpAny_pure h⟩) z)
  |exact wpAny_bind (wpAny_newObj_type (wpAny_bind<|wpAny_pure<|wpAny_pure ⟨_,O,wpAny_pure h⟩) z)
  |exact wpAny_bind (wpAny_bind<|wpAny_newObj_type (wpAny_pure<|wpAny_pure ⟨_,O,wpAny_pure h⟩) z)
  |exact wpAny_bind (wpAny_bind<|wpAny_newObj_type (wpAny_pure ⟨_,O,wpAny_pure h⟩) z)
end
end HT
namespace L2
open PySem PySem.Spec PyProof.Rows
abbrev TO:=St->Hp->(Option Int->Hp->Prop)->Prop
def PO(X:Cx)(e:Option Expr)(t:TO):Prop:=
 ∀(p:List (Addr×Obj))(s:Shared)(a:St)(H:Hp)(Q:Option Int->Hp->Prop),Inv X p a H s->t a H Q->
  wpAny (model X.prog X.w) X.A (evalPart e X.env) (λu s'=>∃o H',Inv X p a H' s'/\IsPart u o/\Q o H') X.xe s
def CZ:TO:=λ_ H Q=>Q none H
def ug(t:TE):TO:=λa H Q=>t a H λx b=>∃i,x=.int i/\Q (some i) b
theorem intsAre_of:∀{u:List Value},Vals (s.map V.int) u->IntsAre u s:=by
 induction s with
 |nil=>intro u r;cases r;exact .nil
 |cons n s i=>
  intro u r;cases r with
  |cons b a=>
   obtain⟨t,e⟩:=b;subst e;exact .cons n t<|i a
section
variable{X:Cx}{e:Expr}{te:TE}{lo hi:Option Expr}{tl th:TO}{pos p2:Pos}
theorem Jj:PO X none CZ:=by
 intro p s a H Q I h;exact wpAny_pure ⟨none,H,I,.none,h⟩
theorem C0(h:PE X e te):PO X (some e) (ug te):=by
 intro p s a H Q I w;refine aM (h p s a H _ I w) λu f ⟨x,d,c,r,b⟩=>?_;obtain⟨i,rfl,q⟩:=b;obtain⟨t,rfl⟩:=r;exact⟨some i,d,c,.int i t,q⟩
def zh(X:Cx)(r:V->Option Int->Option Int->Hp->VK->Prop):Prop:=
 ∀(p:List (Addr×Obj))(s:Shared)(a:St)(H:Hp)(x:V)(v l u:Value)(lo hi:Option Int)(b:Addr)(Q:VK),Inv X p a H s->RelV x v->s.heap.IsSliceOf b l u .none->IsPart l lo->IsPart u hi->r x lo hi H Q->
  ∃T i,typeLookup (.type T) "__getitem__"=pure (some<|.builtin i)/\s.TypeIs v T/\wpAny (model X.prog X.w) X.A (getItem v<|.ref b) (EP X p a Q) X.xe s
def C1(r:V->Option Int->Option Int->Hp->VK->Prop)(te:TE)(tl th:TO):TE:=λa H Q=>te a H λx d=>tl a d λl c=>th a c λu b=>r x l u b Q
theorem Vk(A:zh X r)(E:PE X e te)(C:PO X lo tl)(y:PO X hi th):PE X (.Subscript e (.Slice lo hi none p2) pos) (C1 r te tl th):=by
 intro p s a H Q I h;refine Subscript_<|aM (E p s a H _ I h) λv j ⟨x,V,R,k,o⟩=>wpAny_Slice<|aM (C p j a V _ R o) λf i ⟨l,S,P,w,n⟩=>aM (y p i a S _ P n) λd c ⟨u,g,N,t,m⟩=>wpAny_pure ?_;have K:Inv X p a g {c with heap:=c.heap.push {cls:=.type "slice",data:=.fields #[f,d,.none]}}:=N.kept λb Z q=>Heap.get?_push_of_some _ q;obtain⟨T,B,G,z,D⟩:=A p {c with heap:=c.heap.push {cls:=.type "slice",data:=.fields #[f,d,.none]}} a g x v f d l u c.heap.objs.size Q K k (Heap.IsSliceOf.new ..) w t m;exact tail_any z G D (O)
noncomputable def d6(xs:List V)(lo hi:Option Int):List V:=(xs.drop<|HT.bq xs.length 0 lo).take (HT.bq xs.length xs.length hi - HT.bq xs.length 0 lo)
theorem C2(xs:List V)(lo hi:Option Int):(d6 xs lo hi).length<=xs.length:=by
 unfold d6;rw[zaF,zaB];lia
def Vl(K:Frag):V->Option Int->Option Int->Hp->VK->Prop:=λx lo hi H Q=>∃a xs,x=.ref a/\aJ K H a xs/\
 ¬(HT.bq xs.length 0 lo=0/\HT.bq xs.length xs.length hi=xs.length)/\∀p,H p=none->Q (.ref p) (upd H p<|.tup<|d6 xs lo hi)
theorem Vm:zh X (Vl X.K):=by
 intro p s i H x v k j lo hi m Q I d g l u h;obtain⟨a,c,rfl,f,w,q⟩:=h;cases d;obtain⟨y,r,t,z⟩:=I.tuple f;have n:=zai▸r.length.symm;refine⟨"tuple",_,PyProof.Rows.slot_tuple_getitem.lookup,t.typeIs,HT.Vh t g l u (by lia) ?_ (zat (za3 n) z)⟩;rw[n];refine⟨.ref s.heap.objs.size,_,I.laid (λb o q=>Heap.get?_push_of_some _ q) (zqR _) ?_,O,q _<|I.aG.fresh<|zqR _⟩;exact⟨zat (C2 c lo hi) z,_,(r.drop<|HT.bq c.length 0 lo).take<|HT.bq c.length c.length hi - HT.bq c.length 0 lo,IsTup.new _ _⟩
def Jk(K:Frag):R2:=λx y H Q=>∃a b xs ys,x=.ref a/\y=.ref b/\aJ K H a xs/\aJ K H b ys/\xs≠ []/\xs.length+ys.length<=sizeLine/\
 (ys=[]->Q (.ref a) H)/\(ys≠ []->∀p,H p=none->Q (.ref p) (upd H p<|.tup<|xs++ys))
theorem Vals.C3(r:Vals xs u):u=[]↔xs=[]:=by
 cases r with
 |nil=>simp
 |cons _ _=>simp
theorem Vn:bG X (binaryOp .Add) (Jk X.K):=by
 intro p s o H x y v u Q I g f h;obtain⟨a,b,A,t,zq⟩:=qx4 h;obtain⟨rfl,rfl,n,m,l,d,j,i⟩:=qa8 zq;cases g;cases f;obtain⟨E,c,k,_⟩:=I.tuple n;obtain⟨D,r,p2,_⟩:=I.tuple m;refine HT.Vc k p2 (λz=>l<|c.C3.mp z) (λz=>⟨.ref a,H,I,O,j<|r.C3.mp z⟩) (λz=>?_) (by rw[<-c.length,<-r.length];exact d);refine⟨.ref s.heap.objs.size,_,I.laid (λb C q=>Heap.get?_push_of_some _ q) (zqR _) ?_,O,i (λw=>z<|r.C3.mpr w) _<|I.aG.fresh<|zqR _⟩;exact⟨zqA▸d,_,c.append r,IsTup.new _ _⟩
end
noncomputable def gh(n:Nat)(i:Int):Option Nat:=if 0<=i then (if i<n then some i.toNat else none) else if -(n:Int)<=i then some (i+n).toNat else none
noncomputable def gE{a:Type}(xs:List a)(i:Int):Option a:=(gh xs.length i).bind λj=>xs[j]?
theorem Jl{j:Nat}(h:gh n i=some j):seqIndex? i n=some j/\j<n/\ -(n:Int)<=i/\i<n:=by
 unfold gh at h;by_cases b:0<=i;rw[if_pos b] at h;by_cases a:i<n;rw[if_pos a] at h;exact⟨by rw[seqIndex_of b a,(zal h)],by lia,by lia,a⟩;rw[if_neg a] at h;cases h;rw[if_neg b] at h;by_cases a: -(n:Int)<=i;rw[if_pos a] at h;exact⟨by rw[seqIndex_neg (by lia) a,(zal h)],by lia,a,by lia⟩;rw[if_neg a] at h;cases h
theorem C4{v:a}(h:gE xs i=some v):∃j,seqIndex? i xs.length=some j/\xs[j]?=some v/\j<xs.length/\ -(xs.length:Int)<=i/\i<xs.length:=by
 unfold gE at h;cases e:gh xs.length i with
 |none=>rw[e] at h;cases h
 |some j=>
  rw[e] at h;obtain⟨f,d,c,b⟩:=Jl e;exact⟨j,f,h,d,c,b⟩
theorem bZ{j:Nat}{v:a}(h:xs[j]?=some v):gE xs (j:Int)=some v:=by
 have b:=(zah.mp h).1;have e:gh xs.length (j:Int)=some j:=by
  unfold gh;rw[if_pos (za6 _),if_pos (by lia)];simp
 unfold gE;rw[e];exact h
theorem zj(xs:List a)(v:a):gE (xs++[v]) (-1)=some v:=by
 have h:(xs++[v]).length=xs.length+1:=by simp
 have e:gh (xs++[v]).length (-1)=some xs.length:=by
  unfold gh;rw[if_neg (by lia),if_pos (by lia)];congr 1;lia
 unfold gE;rw[e];simp
def Jm(b:Expr):Prop:= ∀o i,subscripted b false o i=operate [o,i] (getItem o i)
def mK(X:Cx)(r:R2):Prop:=
 ∀(a e:Expr)(p:List (Addr×Obj))(s:Shared)(b:St)(H:Hp)(x y:V)(v u:Value)(Q:VK),Inv X p b H s->RelV x v->RelV y u->r x y H Q->
  subscripted e false v u=operate [v,u] (getItem v u)->wpAny (model X.prog X.w) X.A (subscriptTail a e v u) (EP X p b Q) X.xe s
def uh(X:Cx)(i:String)(r:V->List V->Hp->VK->Prop):Prop:=
 ∀(p:List (Addr×Obj))(s:Shared)(a:St)(H:Hp)(x:V)(xs:List V)(v:Value)(u:List Value)(Q:VK),Inv X p a H s->RelV x v->Vals xs u->r x xs H Q->
  wpAny (model X.prog X.w) X.A (call (.builtin i) (v::u)) (EP X p a Q) X.xe s
section
variable{X:Cx}{a b:Expr}{ta tb:TE}{pos:Pos}
theorem mK.or(h:mK X r)(j:mK X r'):mK X (λx y H Q=>r x y H Q\/r' x y H Q):=by
 intro e c p s d H x y v u Q I g f q i;rcases q with q|q
 exact h e c p s d H x y v u Q I g f q i;exact j e c p s d H x y v u Q I g f q i
theorem Vo(i:mK X r)(k:PE X a ta)(j:PE X b tb)(g:Jm b):PE X (.Subscript a b pos) (gA r ta tb):=by
 intro p s c H Q I h;exact Subscript_<|CK k j I h λv u d x y m l f e q=>i a b p d c m x y v u Q l f e q (g _ _)
def Jn(K:Frag):R2:=λx y H Q=>∃p xs i v,x=.ref p/\y=.int i/\au K H p xs/\gE xs i=some v/\Q v H
def Jo(K:Frag):R2:=λx y H Q=>∃p xs i v,x=.ref p/\y=.int i/\aJ K H p xs/\gE xs i=some v/\Q v H
def Jp:R2:=λx y H Q=>∃z i c,x=.str z/\y=.int i/\z.length<=sizeLine/\gE z.cps.toList i=some c/\Q (.str ⟨#[c]⟩) H
theorem Vp:mK X (Jn X.K):=by
 intro e g c s A H x y v u Q I D C h m;obtain⟨p,Z,i,z,rfl,rfl,G,P,q⟩:=h;cases D;obtain⟨t,rfl⟩:=C;obtain⟨V,r,l,B⟩:=I.list G;obtain⟨j,d,T,J,S,R⟩:=C4 P;obtain⟨w,o,E⟩:=r.get T;have N:=r.length;have F:=rH;have f:EP X c A Q w s:=⟨z,H,I,E,q⟩;by_cases n:0<=i;have k:=by
  rw[seqIndex_of n R] at d;exact zal d
 exact item_listR l.isList n (by lia) (by rw[k];simpa using o) f m;have k:(i+(V.toArray.size:Int)).toNat=j:=by
  rw[seqIndex_neg (by lia) S] at d;rw[zai,<-N];exact zal d
 exact subscriptTail_builtinR l.isList.typeIs slot_list_getitem.lookup
  (wpAny_getItem_list_neg l.isList (by lia) (by rw[zai] <;>lia) (by lia) (by rw[k];simpa using o) ⟨O,f⟩) m
theorem Vq:mK X (Jo X.K):=by
 intro e d c s g H x y v u Q I m k h o;obtain⟨p,N,i,z,rfl,rfl,A,C,q⟩:=h;cases m;obtain⟨t,rfl⟩:=k;obtain⟨Z,r,l,P⟩:=I.tuple A;obtain⟨j,E,D,V,T,S⟩:=C4 C;obtain⟨w,G,n⟩:=r.get D;have R:=rH;have f:EP X c g Q w s:=⟨z,H,I,n,q⟩;exact subscriptTail_builtinR l.typeIs slot_tuple_getitem.lookup
  (getItem_tuple l (by lia) (by lia) (by rw[zai,<-r.length];exact E) (by simpa using G) ⟨O,f⟩) o
theorem Vr:mK X Jp:=by
 intro e d p s D H x y v u Q I g r h k;obtain⟨z,i,c,rfl,rfl,G,m,q⟩:=h;obtain⟨t,rfl⟩:=g;obtain⟨E,rfl⟩:=r;obtain⟨j,f,w,N,o,n⟩:=C4 m;have l:z.cps.toList.length=z.length:=O;rw[l] at f o n;have K:=rH;exact tail_any (typeIs_str s z t) slot_str_getitem.lookup (getItem_str (by
  have C:decide (i< -(2 ^ 63:Int))=false:=zqF (by lia);have A:decide (i≥2 ^ 63)=false:=zqF (by lia);rw[C,A,zbo]) (by rw[f];simpa using w) ⟨.str ⟨#[c]⟩,H,I.tok _,⟨_,O⟩,q⟩) k
theorem Vs(o:List Value)(n j:Nat)(u:Value):Obj.mapSeq (·.setIfInBounds j u) {cls:=.type "list",data:=.seq o.toArray n}={cls:=.type "list",data:=.seq (o.set j u).toArray n}:=by
 simp[Obj.mapSeq]
theorem Inv.lst{d:St}{H:Hp}{s:Shared}{p:Addr}{xs:List V}(I:Inv X c d H s)(h:H p=some (.lst xs)):
  ∃(o:List Value)(n:Nat),Vals xs o/\s.heap.get? p=some {cls:=.type "list",data:=.seq o.toArray n}/\xs.length<=sizeLine:=by
 obtain⟨z,o,n,r,e⟩:=I.aG p _ h;exact⟨o,n,r,e,z⟩
theorem Inv.Vt{g:St}{H:Hp}{s:Shared}{p:Addr}{xs ys:List V}{o i:List Value}{n d:Nat}{f:Obj->Obj}(I:Inv X c g H s)(h:H p=some (.lst xs))(k:s.heap.get? p=some {cls:=.type "list",data:=.seq o.toArray n})(j:f {cls:=.type "list",data:=.seq o.toArray n}={cls:=.type "list",data:=.seq i.toArray d})(r:Vals ys i)(hz:ys.length<=sizeLine)(t:Nat):
  Inv X c g (upd H p<|.lst ys) {s with heap:=s.heap.update p f,toks:=t}:=by
 have e:(s.heap.update p f).get? p=some {cls:=.type "list",data:=.seq i.toArray d}:=by
  rw[Heap.get?_update_self f k (by rw[j] <;>rfl),j]
 refine I.write (by rw[h];trivial) (.inl O) (λb u l q=>(Heap.get?_update_other _ _<|Ne.symm l).trans q) ⟨_,e⟩ ?_;exact⟨hz,i,d,r,e⟩
def zk:V->V->V->Hp->(Hp->Prop)->Prop:=λo i v H Q=>∃p xs k j,o=.ref p/\i=.int k/\H p=some (.lst xs)/\gh xs.length k=some j/\Q (upd H p<|.lst<|xs.set j v)
theorem set_list:Iq X zk:=by
 intro f s K H o i v P R u Q I C D A h;obtain⟨p,N,k,j,rfl,rfl,g,G,q⟩:=h;cases C;obtain⟨t,rfl⟩:=D;obtain⟨y,n,r,d,E⟩:=I.lst g;obtain⟨c,T,w,m⟩:=Jl G;have l:=r.length;have S:=rH;have z:=
  I.Vt g d (Vs y n j u) (r.set A j) (by rw[zaS];exact E) s.toks
 by_cases x:0<=k;have e:=by
  rw[seqIndex_of x m] at c;exact zal c
 exact PySem.W.ki_setAt d x (by lia) (by rw[zai,<-l];exact m) (by rw[e];exact⟨_,z,q⟩);have e:(k+(y.toArray.size:Int)).toNat=j:=by
  rw[seqIndex_neg (by lia) w] at c;rw[zai,<-l];exact zal c
 exact PySem.W.ki_setBack d (by lia) (by rw[zai,<-l];exact w) (by lia) (by rw[e];exact⟨_,z,q⟩)
theorem C5(lo c:Option Int)(n:Nat):(sliceBounds lo c none n).1=((HT.bq n 0 lo:Nat):Int)/\(sliceBounds lo c none n).2.1=((HT.bq n n c:Nat):Int)/\(sliceBounds lo c none n).2.2=1:=by
 refine⟨?_,?_,O⟩;cases lo with
 |none=>simp[sliceBounds,HT.bq]
 |some i=>
  simp only[sliceBounds,HT.bq,Option.getD_none,show(1:Int) >0 by lia,if_true];by_cases h:i<0;simp only[h,if_true] <;>lia
  simp only[h,if_false] <;>lia
 cases c with
 |none=>simp[sliceBounds,HT.bq]
 |some i=>
  simp only[sliceBounds,HT.bq,Option.getD_none,show(1:Int) >0 by lia,if_true];by_cases h:i<0;simp only[h,if_true] <;>lia
  simp only[h,if_false] <;>lia
theorem Vu(o:List Value)(lo h:Option Int):slicePick o.toArray lo h none=((o.drop<|HT.bq o.length 0 lo).take<|HT.bq o.length o.length h - HT.bq o.length 0 lo).toArray:=by
 obtain⟨e,d,c⟩:=C5 lo h o.toArray.size;unfold slicePick;rw[e,d,c];simp only[sliceRange_one,pick_run,zai] <;>rfl
def Vv(K:Frag):V->Option Int->Option Int->Hp->VK->Prop:=λx lo h H Q=>∃a xs,x=.ref a/\au K H a xs/\∀p,H p=none->Q (.ref p) (upd H p<|.lst<|d6 xs lo h)
theorem Vw:zh X (Vv X.K):=by
 intro p s j H x v m k l i o Q I d g e u h;obtain⟨a,c,rfl,f,q⟩:=h;cases d;obtain⟨y,r,t,z⟩:=I.list f;have n:=r.length;refine⟨"list",_,slot_list_getitem.lookup,t.isList.typeIs,wpAny_getItem_list_slice t.isList g e u .none (by lia) ?_ (by rw[zai] <;>lia)⟩;rw[Vu,<-n];refine⟨.ref s.heap.objs.size,_,I.laid (λb w q=>Heap.get?_push_of_some _ q) (zqR _) ?_,O,q _<|I.aG.fresh<|zqR _⟩;exact⟨zat (C2 c l i) z,_,0,(r.drop<|HT.bq c.length 0 l).take<|HT.bq c.length c.length i - HT.bq c.length 0 l,Heap.get?_push_size _ O⟩
def jy:V->Bool
 |.aD=>true
 |.bl _=>true
 |.int _=>true
 |.str _=>true
 |_=>false
noncomputable def i9:V->V->Bool
 |.aD,.aD=>true
 |.bl a,.bl b=>a==b
 |.bl a,.int b=>(if a then 1 else 0)==b
 |.int a,.bl b=>a==(if b then 1 else 0)
 |.int a,.int b=>a==b
 |.str a,.str b=>a==b
 |_,_=>false
theorem Vx{y x:V}{u v:Value}(d:RelV y u)(r:RelV x v)(e:jy y=true)(f:jy x=true):SeqAt.EqAt A s u v (i9 y x):=by
 cases y with
 |aD=>
  cases d;cases x with
  |aD=>cases r;exact SeqAt.EqAt.same _
  |bl b=>cases r;exact SeqAt.EqAt.none_bool b
  |int b=>obtain⟨t,rfl⟩:=r;exact SeqAt.EqAt.none_int b t
  |str b=>obtain⟨t,rfl⟩:=r;exact SeqAt.EqAt.none_str b t
  |_=>exact absurd (show false=true from f) zas
 |bl a=>
  cases d;cases x with
  |aD=>cases r;exact SeqAt.EqAt.bool_none a
  |bl b=>cases r;exact SeqAt.EqAt.bool_bool a b
  |int b=>obtain⟨t,rfl⟩:=r;exact SeqAt.EqAt.bool_int a b t
  |str b=>obtain⟨t,rfl⟩:=r;exact SeqAt.EqAt.bool_str a b t
  |_=>exact absurd (show false=true from f) zas
 |int a=>
  obtain⟨c,rfl⟩:=d;cases x with
  |aD=>cases r;exact SeqAt.EqAt.int_none a c
  |bl b=>cases r;exact SeqAt.EqAt.int_bool a c b
  |int b=>obtain⟨t,rfl⟩:=r;exact SeqAt.EqAt.int_int a c b t
  |str b=>obtain⟨t,rfl⟩:=r;exact SeqAt.EqAt.int_str a c b t
  |_=>exact absurd (show false=true from f) zas
 |str a=>
  obtain⟨c,rfl⟩:=d;cases x with
  |aD=>cases r;exact SeqAt.EqAt.str_none a c
  |bl b=>cases r;exact SeqAt.EqAt.str_bool a c b
  |int b=>obtain⟨t,rfl⟩:=r;exact SeqAt.EqAt.str_int a c b t
  |str b=>obtain⟨t,rfl⟩:=r;exact SeqAt.EqAt.str_str a c b t
  |_=>exact absurd (show false=true from f) zas
 |_=>exact absurd (show false=true from e) zas
noncomputable def gF(x:V)(u:Value):Bool:=match u with
 |.none=>i9 .aD x
 |.bool b=>i9 (.bl b) x
 |.int i _=>i9 (.int i) x
 |.str z _=>i9 (.str z) x
 |_=>false
theorem C6{y:V}{u:Value}(r:RelV y u)(f:jy y=true):gF x u=i9 y x:=by
 cases y with
 |aD=>cases r;rfl
 |bl b=>cases r;rfl
 |int i=>obtain⟨t,rfl⟩:=r;rfl
 |str z=>obtain⟨t,rfl⟩:=r;rfl
 |_=>exact absurd (show false=true from f) zas
theorem vW:∀{xs:List V}{us:List Value},Vals xs us->xs.all jy=true->us.any (gF x)=xs.any λy=>i9 y x:=by
 intro _ _ h;induction h with
 |nil=>exact λ_=>rfl
 |cons r _ i=>
  intro f;rw[List.all_cons,Bool.and_eq_true] at f;rw[List.any_cons,List.any_cons,C6 r f.1,i f.2]
theorem ui{s:Shared}{x:V}{v:Value}(rx:RelV x v)(fx:jy x=true):∀{xs:List V}{us:List Value},Vals xs us->xs.all jy=true->∀ u ∈ us,SeqAt.EqAt A s u v (gF x u):=by
 intro _ _ h;induction h with
 |nil=>exact λ_ u hu=>by cases hu
 |cons r _ i=>
  intro f u' hu;rw[List.all_cons,Bool.and_eq_true] at f;rcases List.mem_cons.mp hu with rfl |hu
  rw[C6 r f.1];exact Vx r rx f.1 fx;exact i f.2 u' hu
noncomputable def i_(x:V)(xs:List V):Bool:=xs.any λy=>i9 y x
def C7(K:Frag)(n:Bool):R2:=λx y H Q=>∃p xs,y=.ref p/\(au K H p xs\/aJ K H p xs)/\jy x=true/\xs.all jy=true/\Q (.bl (if n then !i_ x xs else i_ x xs)) H
theorem Vy:bG X (compareOp .In) (C7 X.K false):=by
 intro g s k H x y v u Q I e j h;obtain⟨p,m,rfl,c,i,f,q⟩:=h;cases j;rcases c with c|c
 obtain⟨o,r,l,z⟩:=I.list c;refine SeqAt.in_listAt (gF x) l.isList (λw d=>ui e i r f w (by simpa using d)) ⟨.bl _,H,I,O,?_⟩;rw[show o.toArray.any (gF x)=o.any (gF x) by simp,vW r f];exact q;obtain⟨o,r,l,z⟩:=I.tuple c;refine SeqAt.in_tupleAt (gF x) l (λw d=>ui e i r f w (by simpa using d)) ⟨.bl _,H,I,O,?_⟩;rw[show o.toArray.any (gF x)=o.any (gF x) by simp,vW r f];exact q
theorem Vz:bG X (compareOp .NotIn) (C7 X.K true):=by
 intro g s k H x y v u Q I e j h;obtain⟨p,m,rfl,c,i,f,q⟩:=h;cases j;rcases c with c|c
 obtain⟨o,r,l,z⟩:=I.list c;refine SeqAt.notIn_listAt (gF x) l.isList (λw d=>ui e i r f w (by simpa using d)) ⟨.bl _,H,I,O,?_⟩;rw[show o.toArray.any (gF x)=o.any (gF x) by simp,vW r f];exact q;obtain⟨o,r,l,z⟩:=I.tuple c;refine SeqAt.notIn_tupleAt (gF x) l (λw d=>ui e i r f w (by simpa using d)) ⟨.bl _,H,I,O,?_⟩;rw[show o.toArray.any (gF x)=o.any (gF x) by simp,vW r f];exact q
theorem eJ.or(h:eJ X f r)(e:eJ X f r'):eJ X f (λxs H Q=>r xs H Q\/r' xs H Q):=by
 intro p s c H xs u Q I d q;rcases q with q|q
 exact h p s c H xs u Q I d q;exact e p s c H xs u Q I d q
theorem VA:eJ X (.type "list") (λxs H Q=>∃p ys,xs=[.ref p]/\(au X.K H p ys\/aJ X.K H p ys)/\∀l,H l=none->Q (.ref l) (upd H l<|.lst ys)):=by
 intro i s D H xs G Q I r h;obtain⟨p,ys,rfl,j,q⟩:=h;obtain⟨u,rfl,E⟩:=vals1 r;cases E;have t:∀(d:List Value),Vals ys d->ys.length<=sizeLine->∀(c:Heap)(g:Nat),(∀b C,s.heap.get? b=some C->c.get? b=some C)->
   c.get? s.heap.objs.size=some {cls:=.type "list",dict:=none,data:=.seq d.toArray g,slots:= #[]}->EP X i D Q (.ref s.heap.objs.size) {s with heap:=c}:=λd f z c g k e=>
  ⟨.ref s.heap.objs.size,_,I.laid k (zqR _) (show cT X.prog X.w _ c _ (.lst ys) from⟨z,d,g,f,e⟩),O,q _<|I.aG.fresh<|zqR _⟩
 rcases j with j|j
 obtain⟨d,f,v,z⟩:=I.list j;have m:=f.length;obtain⟨o,x,A,n,y⟩:=v.isList;exact call_list_seq p (.inl O) x A y (λc g k e=>t d f z c g k e) (by simp <;>lia);obtain⟨d,f,v,z⟩:=I.tuple j;have m:=f.length;obtain⟨o,x,A,n,y⟩:=v;exact call_list_seq p (.inr O) x A y (λc g k e=>t d f z c g k e) (by simp <;>lia)
def rN(K:Frag)(T:String)(x:V)(H:Hp):Prop:=match x with
 |.str _=>T="str"
 |.int _=>T="int"
 |.ref p=>(T="list"/\∃xs,au K H p xs)\/(T="tuple"/\∃o,K.lookup p=some o/\o.cls=.type "tuple"/\o.dict=none)\/
   (T="dict"/\((∃k,H p=some (.dK k))\/∃k,H p=some (.dT k)))\/(T="set"/\∃S n,H p=some (.set S n))
 |_=>False
theorem Jq{q:St}{H:Hp}{s:Shared}{T:String}{x:V}{v:Value}(I:Inv X j q H s)(r:RelV x v)(y:rN X.K T x H):
  s.TypeIs v T/\∀a,v=.ref a->∃m,s.heap.get? a=some m/\m.dict=none:=by
 cases x with
 |str z=>
  obtain⟨t,rfl⟩:=r;cases (show T="str" from y);exact⟨typeIs_str s z t,λ_ e=>nomatch e⟩
 |int i=>
  obtain⟨t,rfl⟩:=r;cases (show T="int" from y);exact⟨typeIs_int s i t,λ_ e=>nomatch e⟩
 |ref p=>
  cases r;rcases y with⟨rfl,A,u⟩|⟨rfl,o,h,w,f⟩|⟨rfl,h⟩|⟨rfl,S,n,h⟩
  obtain⟨C,_,l,_⟩:=I.list u;refine⟨l.isList.typeIs,λa e=>?_⟩;cases e;obtain⟨o,n,e,c,f,_⟩:=l;exact⟨o,e,f⟩;refine⟨⟨o,I.dv p o h,w⟩,λa e=>?_⟩;cases e;exact⟨o,I.dv _ o h,f⟩;have z:∃o,s.heap.get? p=some o/\o.ExactDict:=by
   rcases h with⟨k,h⟩|⟨k,h⟩
   obtain⟨_,_,_,_,o,_,_,e,d,_⟩:=I.aG p _ h;exact⟨o,e,d⟩;obtain⟨_,_,_,_,o,_,_,e,d,_⟩:=I.aG p _ h;exact⟨o,e,d⟩
  obtain⟨o,e,d⟩:=z;refine⟨⟨o,e,d.1⟩,λa g=>?_⟩;cases g;exact⟨o,e,d.2.1⟩;obtain⟨o,_,_,_,zq⟩:=qx4 (I.aG p _ h);obtain⟨e,d,_⟩:=qa3 zq;refine⟨⟨o,e,d.1⟩,λa g=>?_⟩;cases g;exact⟨o,e,d.2.1⟩
 |_=>exact False.elim y
def VB(K:Frag)(T:String)(r:V->List V->Hp->VK->Prop)(t:TE):TE:=λd H Q=>t d H λx c=>rN K T x c/\r x [] c Q
def VC(K:Frag)(T:String)(r:V->List V->Hp->VK->Prop)(o:TE)(t:TA):TE:=λc H Q=>o c H λx d=>rN K T x d/\t c d λxs e=>r x xs e Q
variable{o e:Expr}{es:List Expr}{to:TE}{t:TA}{name:Str}{apos eR:Pos}{T id:String}{r:V->List V->Hp->VK->Prop}
theorem VD(j:PlainAttrs T)(c:Slot T name id)(z:typeOf (.builtin id)=pure (.type "method_descriptor"))(m:uh X id r)(k:PE X o to)(w:attributeBase o name X.env (eval o X.env)=eval o X.env:=by rfl)(C:(apos.endLine==eR.line)=true:=by rfl):PE X (.Call (.Attribute o name apos) [] [] eR) (VB X.K T r to):=by
 intro p s d H Q I h;refine wpAny_Call_method0_late w C<|aM (k p s d H _ I h) λv i ⟨x,u,g,f,y,q⟩=>?_;obtain⟨n,l⟩:=Jq g f y;exact⟨T,id,j,c,z,n,l,Calls.callWith_builtin O<|PySem.evalArgs_none<|m p i d u x [] v [] Q g f .nil q⟩
theorem VE(n:PlainAttrs T)(c:Slot T name id)(J:typeOf (.builtin id)=pure (.type "method_descriptor"))(C:uh X id r)(z:PE X o to)(D:PA X (e::es) t)(F:attributeBase o name X.env (eval o X.env)=eval o X.env:=by rfl)(P:((backTo eR (starEach (e::es) X.env)).all (λx=> !x.1) && (backToKw eR (keywordEach [] X.env)).all (λx=>x.1.isSome)
   && decide ((e::es).length+([]:List Keyword).length+(if ([]:List Keyword).isEmpty then 0 else 1) <30))=true:=by rfl)(B:(apos.endLine==eR.line)=true:=by rfl)(w:starEach (e::es) X.env=(false,eval e X.env)::starEach es X.env:=by rfl)(N:(backTo eR<|starEach es X.env).any (·.1)=false:=by rfl):
  PE X (.Call (.Attribute o name apos) (e::es) [] eR) (VC X.K T r to t):=by
 intro p s d H Q I h;refine wpAny_Call_method_late F P B O<|aM (z p s d H _ I h) λv k ⟨x,Z,g,f,y,m⟩=>?_;obtain⟨G,E⟩:=Jq g f y;refine⟨T,id,n,c,J,G,E,?_⟩;have A:=D eR p k d Z _ g m;rw[w] at A⊢;refine Calls.callWith_builtin (by show(false ||(backTo eR<|starEach es X.env).any (·.1))=false;rw[N] <;>rfl)<|Calls.evalArgs_plain ?_;exact aM A λu j ⟨i,S,R,l,q⟩=>C p j d S x i v u Q R f l q
end
theorem Vals.one:∀{x:V}{us:List Value},Vals [x] us->∃u,us=[u]/\RelV x u:=by
 intro _ _ h;cases h with
 |cons r k=>cases k;exact⟨_,rfl,r⟩
theorem Vals.zero:∀{u:List Value},Vals [] u->u=[]
 |_,.nil=>O
theorem Vals.dropLast(h:Vals xs u):Vals xs.dropLast u.dropLast:=by
 induction h with
 |nil=>exact .nil
 |cons r t i=>
  cases t with
  |nil=>exact .nil
  |cons q a=>exact .cons r i
theorem Vals.rep(h:Vals xs u):∀k:Nat,Vals (List.replicate k xs).flatten (List.replicate k u).flatten
 | 0=>.nil
 |k+1=>by
  exact Vals.append h<|Vals.rep h k
theorem VH{c:Type}(l:List c):l.eraseIdx (l.length - 1)=l.dropLast:=by
 induction l with
 |nil=>rfl
 |cons a r i=>
  cases r with
  |nil=>rfl
  |cons b r=>
   have e:(a::b::r).length - 1=((b::r).length - 1)+1:=by
    have d:(a::b::r).length=r.length+2:=O;have h:(b::r).length=r.length+1:=O;lia
   rw[e,List.eraseIdx_cons_succ,i]
   all_goals rfl
theorem foldl_rep(o:List Value):∀(k:Nat)(a:List Value),
  List.foldl (λb x=>b++x) a.toArray (List.replicate k o.toArray)=(a++(List.replicate k o).flatten).toArray
 | 0,a=>by simp
 |k+1,a=>by
  have e:a.toArray++o.toArray=(a++o).toArray:=by simp
  have c:(a++o)++(List.replicate k o).flatten=a++(List.replicate (k+1) o).flatten:=by
   rw[zbj,zbB,zam]
  rw[<-c,<-foldl_rep o k (a++o),<-e,zbj,zbC]
section
variable{X:Cx}{pins:List (Addr×Obj)}{σ:St}{H:Hp}{s:Shared}{l b:Addr}{xs ys zs:List V}
theorem Inv.zm{a i:List Value}{n:Nat}{f:Array Value->Array Value}{t':Nat}(I:Inv X pins σ H s)(j:H l=some (.lst xs))(e:s.heap.get? l=some {cls:=.type "list",data:=.seq a.toArray n})(d:f a.toArray=i.toArray)(h:Vals ys i)(hz:ys.length<=sizeLine):
  Inv X pins σ (upd H l<|.lst ys) {s with heap:=s.heap.update l (Obj.mapSeq f),toks:=t'}:=by
 have q:=PySem.IsL.update e f;rw[d] at q;refine I.write (j▸trivial) (.inl O) (λk u g c=>(Heap.get?_update_other s.heap (Obj.mapSeq f)<|Ne.symm g).trans c) ⟨_,q⟩ ?_;exact⟨hz,i,_,h,q⟩
theorem Inv.Jr(I:Inv X pins σ H s)(h:Vals ys a)(hz:ys.length<=sizeLine):
  Inv X pins σ (upd H s.heap.objs.size<|.lst ys) {s with heap:=s.heap.push {cls:=.type "list",data:=.seq a.toArray},toks:=t'}:=
 I.laid (λ_ _ q=>Heap.get?_push_of_some _ q) (zqR _) ⟨hz,a,0,h,Heap.get?_push_size _ O⟩
theorem Inv.fresh(I:Inv X pins σ H s):H s.heap.objs.size=none:=I.aG.fresh (zqR _)
theorem Inv.pR(I:Inv X pins σ H s)(h:H l=some (.lst xs)):xs.length<=sizeLine/\∃(a:List Value)(n:Nat),Vals xs a/\xs.length=a.length/\s.heap.get? l=some {cls:=.type "list",data:=.seq a.toArray n}:=by
 obtain⟨z,a,n,r,e⟩:=I.aG l _ h;exact⟨z,a,n,r,r.length,e⟩
theorem Js(h:n<=sizeLine):Builtin.List.listTooLong n=false:=by
 exact zqF (zb4 h)
end
section
variable{X:Cx}
def VI:V->List V->Hp->VK->Prop:=λx vs H Q=>∃l xs y,x=.ref l/\vs=[y]/\H l=some (.lst xs)/\xs.length<sizeLine/\Q .aD (upd H l<|.lst<|xs++[y])
theorem VJ:uh X "list.append" VI:=by
 intro p s f H x i v j Q I b c h;obtain⟨l,g,y,rfl,rfl,a,k,q⟩:=h;cases b;obtain⟨u,rfl,d⟩:=c.one;obtain⟨z,o,n,r,m,e⟩:=I.pR a;refine call_meets F.slot_list_append ⟨_,e,O⟩ F.entry_list_append (F.args_list_append_2 _ _) (PySem.list_append l o.toArray n u (by rw[zai];lia)) ⟨e,?_⟩;refine⟨.aD,_,I.zm a e (by simp) (r.append<|.cons d .nil) ?_,O,q⟩;rw[zqA,zaK];exact zb0 k
def VL:V->List V->Hp->VK->Prop:=λx vs H Q=>∃l b xs z,x=.ref l/\vs=[.ref b]/\H l=some (.lst xs)/\H b=some (.lst z)/\xs.length+z.length<=sizeLine/\Q .aD (upd H l<|.lst<|xs++z)
theorem VM:uh X "list.extend" VL:=by
 intro p s w H x E v G Q I f i h;obtain⟨l,b,C,y,zq⟩:=qx4 h;obtain⟨rfl,rfl,d,o,K,q⟩:=qa6 zq;cases f;obtain⟨u,rfl,j⟩:=i.one;cases j;obtain⟨z,a,n,r,N,e⟩:=I.pR d;obtain⟨A,g,m,k,P,t⟩:=I.pR o;have c:a.toArray.size+g.toArray.size<=sizeLine:=by rw[zai,zai];lia
 have D:¬(!a.toArray.isEmpty && Builtin.List.listTooLong (a.toArray.size+g.toArray.size))=true:=by
  rw[Js c,Bool.and_false];exact zas
 refine call_meets F.slot_list_extend ⟨_,e,O⟩ F.entry_list_extend (F.args_list_extend_2 _ _)
  (AutoSeq1.list_extend_list_list_0 l a.toArray n b g.toArray m D (zat (zbf _ _) c) (za7 c)) ⟨e,t,?_⟩
 refine⟨.aD,_,I.zm d e (by simp) (r.append k) ?_,O,q⟩;rw[zqA];exact K
def VN:V->List V->Hp->VK->Prop:=λx vs H Q=>∃l xs y,x=.ref l/\vs=[]/\H l=some (.lst xs)/\xs[xs.length - 1]?=some y/\Q y (upd H l<|.lst xs.dropLast)
theorem VO:uh X "list.pop" VN:=by
 intro p s o H x w v A Q I d f h;obtain⟨l,t,y,rfl,rfl,b,j,q⟩:=h;cases d;have i:=f.zero;subst i;obtain⟨z,a,n,r,m,e⟩:=I.pR b;obtain⟨u,k,g⟩:=r.get j;have c:=by
  show a.toArray[a.length - 1]?=some u;rw[<-Array.getElem?_toList,<-m];exact k
 refine call_meets F.slot_list_pop ⟨_,e,O⟩ F.entry_list_pop (F.args_list_pop_1 _) (MeetsSeq.list_pop_last l a.toArray n u c (by rw[zai];lia)) ⟨e,?_⟩;refine⟨y,_,I.zm b e ?_ r.dropLast ?_,g,q⟩;rw[zai,List.eraseIdxIfInBounds_toArray,VH];rw[zcc];exact zat (zb5 _ _) z
def VP:V->List V->Hp->VK->Prop:=λx vs H Q=>∃l xs,x=.ref l/\vs=[]/\H l=some (.lst xs)/\Q .aD (upd H l<|.lst [])
theorem VQ:uh X "list.clear" VP:=by
 intro p s f H x i v u Q I b c h;obtain⟨l,g,rfl,rfl,a,q⟩:=h;cases b;have d:=c.zero;subst d;obtain⟨z,o,n,r,j,e⟩:=I.pR a;refine call_meets F.slot_list_clear ⟨_,e,O⟩ F.entry_list_clear (F.args_list_clear_1 _) (AutoSeq1.list_clear_list_0 l o.toArray n (by rw[zai];lia)) ⟨e,?_⟩;exact⟨.aD,_,I.zm a e O .nil<|zqZ _,O,q⟩
def Jt:R2:=λx y H Q=>∃l b xs z,x=.ref l/\y=.ref b/\H l=some (.lst xs)/\H b=some (.lst z)/\xs.length+z.length<=sizeLine/\∀p,H p=none->Q (.ref p) (upd H p<|.lst<|xs++z)
theorem VR:bG X (binaryOp .Add) Jt:=by
 intro p s o H x y v u Q I d c h;obtain⟨l,b,A,t,zq⟩:=qx4 h;obtain⟨rfl,rfl,i,j,D,q⟩:=qa6 zq;cases d;cases c;obtain⟨z,a,n,r,E,e⟩:=I.pR i;obtain⟨w,g,C,f,K,m⟩:=I.pR j;refine PySem.P.add_list e m ?_ (by rw[zai,zai];lia);have k:a.toArray++g.toArray=(a++g).toArray:=by simp
 rw[k];exact⟨.ref _,_,I.Jr (r.append f) (by rw[zqA];exact D),O,q _ I.fresh⟩
def Ju:R2:=λx y H Q=>∃l k xs,x=.ref l/\y=.int k/\H l=some (.lst xs)/\ -(2 ^ 63)<=k/\k<2 ^ 63/\xs.length*k.toNat<=sizeLine/\
 ∀p,H p=none->Q (.ref p) (upd H p<|.lst (List.replicate k.toNat xs).flatten)
theorem len_rep{a:Type}(xs:List a)(k:Nat):(List.replicate k xs).flatten.length=k*xs.length:=by simp
theorem VS:bG X (binaryOp .Mult) Ju:=by
 intro p s N H x y v u Q I j i h;obtain⟨l,k,P,zq⟩:=qx3 h;obtain⟨rfl,rfl,A,D,C,c,q⟩:=qa7 zq;cases j;obtain⟨t,rfl⟩:=i;obtain⟨z,o,n,r,w,e⟩:=I.pR A;have b:o.toArray.size*k.toNat<=sizeLine:=by rw[zai,<-w];exact c
 have T:¬o.toArray.size*k.toNat>(2 ^ 63 - 1) / 8:=by
  have:(sizeLine:Nat)<= (2 ^ 63 - 1) / 8:=by decide
  exact zb4 (zat b this)
 have G:¬(!Builtin.List.listFitsIndex k)=true:=by
  rw[fitsIndex_both D C];exact zas
 have K:¬Builtin.List.listTooLong (o.toArray.size*k.toNat)=true:=by
  rw[Js b];exact zas
 have V:List.foldl (λf d=>f++d) #[] (List.replicate (if o.toArray.isEmpty=true then 0 else k.toNat) o.toArray)=(List.replicate k.toNat o).flatten.toArray:=by
  have E:=λm=>by
   have:=foldl_rep o m [];rw[zbP] at this;exact this
  rw[E];cases o with
  |nil=>simp
  |cons a R=>rw[if_neg (by simp)]
 refine wpAny_binaryOp_repeat_ref (O) ⟨_,e,O⟩ (λg=>typeIs_int g k t) noFill_list_mul F.fills_int_mul F.slot_int_rmul repeat_list F.slot_int_index.lookup
  (call_meets F.slot_int_rmul (typeIs_int s k t) F.entry_int_rmul (F.args_int_rmul_2 _ _) (int___rmul___int_list k t l o.toArray n)
   ⟨e,O,⟨_,e,O⟩,call_meets F.slot_list_mul ⟨_,e,O⟩ F.entry_list_mul (F.args_list_mul_2 _ _) (AutoListH.list___mul___list_int_3 l o.toArray n k t G T K) ⟨e,?_⟩⟩)
 rw[V];exact⟨.ref _,_,I.Jr (r.rep k.toNat) (by rw[len_rep,Nat.mul_comm];exact c),O,q _ I.fresh⟩
end
end L2
namespace Jv
open PySem PySem.W PySem.Calls PyProof.Rows
theorem VX:∀(s:List Int)(vs:List Value),WellAll P h vs (s.map WData.int)->IntsAre vs s:=by
 intro s;induction s with
 |nil=>
  intro vs w;cases w;exact .nil
 |cons n s i=>
  intro vs w;cases w with
  |cons a b=>
   cases a;exact .cons _ _<|i _ b
theorem VY{l:OpenLaw}{n:Nat}(j:l.most=some n){P:Params}{h:Heap}{s:List WData}{v:List Value}(o:l.row.toRowW.claim.pre s=true)(z:WellAll P h v s):
  ∃a vs b,v=[Value.ref a]/\s=[WData.list<|b.map WData.int]/\h.get? a=some {cls:=.type "list",data:=.seq vs.toArray}/\IntsAre vs b/\b.length<=n:=by
 obtain⟨d,r,rfl,t,p⟩:=hasAllW_cons ((pre_splitW o).1);obtain rfl:=hasAllW_nil p;obtain⟨x,rfl,k⟩:=hasW_list t;obtain⟨b,rfl⟩:=items_int k;have c:b.length<=n:=by
  have e:=by
   have e:=(holds_andW ((pre_splitW o).2)).1;rw[j] at e;exact e
  have f:=condW_of e (w_not<|w_lt w_lit<|w_len_list<|w_arg O);refine Nat.le_of_not_lt λq=>?_
  first
   | (rw[zqT q'] at f;exact absurd f (O))
   | (simp at f;exact (zaC _ (zaq q f)).elim)
 cases z with
 |cons g w=>
  cases w;cases g with
  |list i m=>exact⟨_,_,b,O,O,i,VX b _ m,c⟩
theorem V0(l:OpenLaw)(a:List WData):l.row.toRowW.claim.post a (.bool true) a=true:=
 postW_of
  (show WShape.has [] (.bool true) .bool=true by first|rfl|decide|simp)
  (show(WTm.eq .res<|.lit<|.bool true).value [] {args:=a,res:=some (.bool true),after:=a}=some (.bool<|true==true) from w_eq_bool (w_res O) w_lit) O
theorem V1{l:OpenLaw}{n:Nat}{q:Program}{e:List Str}{X:(Str->Option Value)->Heap->Prop}{P:World->Heap->Prop}{d:DefRec}(Q:l.most=some n)(A:d.params.defaults=[])(k:∀(w:World)(c s:Shared)(p v:Str->Option Value)(j:Addr)(o:Obj)(u t g:Value)(a:Addr)(vs:List Value)(m:List Int),
   Ground q e [] X w c p v s.heap->P w s.heap->
   s.heap.get? j=some o->o.data=.func (docDef d.name d.params d.body d.scope u t g)->s.heap.CodeRec t d.name->p d.name=some (.ref j)->
   s.heap.get? a=some {cls:=.type "list",data:=.seq vs.toArray}->IntsAre vs m->m.length<=n->s.gens= #[]->
   codeAny (model l.prog w) callerA (.call (.ref j) ⟨[.ref a],[]⟩) (λr s'=>r=.ok (.ret (.bool true))/\OldK s.heap s'.heap/\s'.os=s.os/\AllBare s'.gens) s):
  WalkO q e X P l.row.toRowW d [] (λf vs=>PySem.call f vs):=by
 intro w c s p v G b j o u t g J V N T H D C S y x Y E W I z U;obtain rfl:J=.none:=Dflts.none D A;obtain rfl:V=.none:=Dflts.noKw D;obtain⟨a,vs,m,rfl,rfl,M,h,i⟩:=VY Q E z;refine enter_call<|codeAny_mono (k w c s p v j o u t g a vs m G b N (fd_plain T) H C M h i S) λr s' K=>?_;obtain⟨rfl,F,B,Z⟩:=K;exact⟨.inl ⟨.bool true,.bool true,[],O,λ_=>O,.bool true,V0 l _,λ_=>⟨List.Pairwise.nil,λ_ R=>(nomatch R)⟩⟩,F,B,Z⟩
section
variable{prog:Program}{w:World}{A:Around}{E:Value->Shared->Prop}{s:Shared}{K:Frag}
end
end Jv
namespace L2
open PySem PySem.Spec PyProof.Rows
theorem Jw:∀{vs:List Value}{ns:List Int},IntsAre vs ns->Vals (ns.map V.int) vs:=by
 intro _ _ h;induction h with
 |nil=>exact .nil
 |cons n t _ i=>exact .cons ⟨t,rfl⟩ i
def De(H:Hp):Prop:= ∀b,H b=none\/∃o xs,H b=some (.bY o<|.lst xs)
theorem V2{K:Frag}{p E:Str->Option Value}{CX:cE}{k:Nat}{I a:Addr}{F:FuncData}{x:Str}{sp:Sp}{f:Shared}{vs:List Value}{l:List Int}(M:K.In f.heap)(Q:f.heap.Ns mainGlobals p)(g:f.heap.Ns builtinsNs E)(V3:∀x:Str,x≠"__name__"->E x=bootBuiltins x)(V4:f.heap.NoLimit)(hg:f.gens= #[])(A:f.heap.get? a=some {cls:=.type "list",data:=.seq vs.toArray})(X:IntsAre vs l)(T:l.length<=sizeLine)(hr:d4 k callerA)(c:∀i:Heap,K.In i->i.Ns mainGlobals p->de P w K p i CX k I F [x] sp)(V_:∀(s:Shared)(u:Value),BindsTo s F ⟨[u],[]⟩ [(x,u)])(jG:∀H:Hp,De H->au K H a (l.map V.int)->sp [.ref a] H (λv _=>v=.bl true) λ_ _ _=>False)(Df:∀H e s',CX [] H f (λ_ _ _=>False) e s'->False):
  codeAny (model P w) callerA (.call (.ref I) ⟨[.ref a],[]⟩) (λr s'=>r=.ok (.ret<|.bool true)/\OldK f.heap s'.heap/\s'.os=f.os/\AllBare s'.gens) f:=by
 have Y:=Jw X;have j:∀H:Hp,De H->au K H a (l.map V.int)->cw P w H f.heap->(∀b,H b≠none->b=a)->(H a≠none->K.lookup a=none)->
   codeAny (model P w) callerA (.call (.ref I) ⟨[.ref a],[]⟩) (λr s'=>r=.ok (.ret<|.bool true)/\OldK f.heap s'.heap/\s'.os=f.os/\AllBare s'.gens) f:=by
  intro H Z hS L B hK;have S:∀{b:Addr}{o:Obj},f.heap.get? b=some o->H b=none->(nR f.heap H).get? b=some o:=λe n=>Tg e n;have W:∀{b:Addr}{o:Obj}{C:Array DictEntry}{D:Nat},f.heap.get? b=some o->o.data=.dict C D->H b=none:=λ{b o C D} e d=>by
   cases q:H b with
   |none=>rfl
   |some u=>
    have N:=B b (by lia);subst N;rw[A] at e;cases e;cases d
  have y:∀{b:Addr}{m:Str->Option Value},f.heap.Ns b m->(nR f.heap H).Ns b m:=λ{b m} ⟨o,C,D,e,d,r⟩=>⟨o,C,D,S e<|W e d,d,r⟩;have U:=λb o e=>S (M b o e) (by
   cases q:H b with
   |none=>rfl
   |some u=>
    have N:=B b (by lia);subst N;rw[hK (by lia)] at e;cases e)
  have hM:Mod K p (nR f.heap H):=⟨U,y Q,⟨E,y g,V3⟩,let ⟨mc,h1,h2⟩:=V4;⟨mc,y h1,h2⟩⟩;have e0:n_ P w K p (nR f.heap H) callerA [] f H:=⟨O,hM,λb o e=>Th e,Nat.le_of_eq<|Tf _ _,trivial,λb g=>absurd (show b∈ ([]:List Addr) from g) (by simp),L,.of_eq hg⟩;refine codeAny_mono ((c _ U<|y Q).run callerA [] f H ⟨[.ref a],[]⟩ [.ref a] [.ref a] _ _ hr e0 (V_ f<|.ref a) (.cons O .nil)<|jG H Z hS) λr s' h=>?_;cases r with
  |error e=>exact(Df H e s' h).elim
  |ok fl=>
   cases fl with
   |next=>exact False.elim h
   |brk=>exact False.elim h
   |cont=>exact False.elim h
   |ret u=>
    obtain⟨v,H',os,t,R,Wa,r',q⟩:=h;subst q;obtain rfl:u=Value.bool true:=r';refine⟨O,OldK.of_keep λb o e=>?_,os,t⟩;cases q:H b with
    |none=>exact R.keep b o e q (by intro z;exact absurd (show b∈ ([]:List Addr) from z) (by simp)) (by simp)
    |some u=>
     rcases Z b with z|⟨ob,xs,z⟩
     rw[q] at z;cases z;obtain⟨J,_⟩:=L b _ z;obtain⟨e2,_⟩:=Wa b _ (R.gQ b ob _ z);rw[e] at J;cases J;exact e2
 cases G:K.lookup a with
 |some o=>
  have e:=M a o G;rw[A] at e;cases e;refine j (λ_=>none) (λ_=>.inl O) (.inr ⟨_,vs.toArray,_,G,O,O,O,by rw[zai,X.length];exact T,by lia⟩) (λb u z=>by lia) (λb z=>absurd O z) λz=>absurd O z
 |none=>
  refine j (λb=>if b=a then some (.bY {cls:=.type "list",data:=.seq vs.toArray}<|.lst<|l.map V.int) else none) (λb=>?_) (.inl<|.inr ⟨{cls:=.type "list",data:=.seq vs.toArray},if_pos O⟩) (λb u z=>?_) (λb z=>?_) λ_=>G;by_cases g:b=a;exact .inr ⟨_,_,if_pos g⟩;exact .inl (if_neg g);by_cases g:b=a;cases ((if_pos g).symm.trans z);subst g;exact⟨A,by rw[zaa];exact T,vs,_,Y,A⟩;cases ((if_neg g).symm.trans z);by_cases g:b=a;exact g;exact absurd (if_neg g) z
theorem Wb{l:PySem.W.OpenLaw}{n k:Nat}{q:Program}{p:List Str}{M:(Str->Option Value)->Heap->Prop}{P:World->Heap->Prop}{d:DefRec}{K:Params->Frag}{CX:World->cE}{sp:World->Sp}{x:Str}(S:l.most=some n)(N:n<=sizeLine)(E:d.params.defaults=[])(R:d4 k callerA)(Y:∀(w:World)(h:Heap),P w h->(K w.params).In h)(i:∀(w:World)(t:Str->Option Value)(A:Addr)(h:Heap),(K w.params).In h->h.Ns mainGlobals t->t d.name=some (.ref A)->
   ∃C:FuncData,(∀(s:Shared)(u:Value),BindsTo s C ⟨[u],[]⟩ [(x,u)])/\
    ∀j:Heap,(K w.params).In j->j.Ns mainGlobals t->de l.prog w (K w.params) t j (CX w) k A C [x] (sp w))(Q:∀(w:World)(H:Hp)(a:Addr)(z:List Int),z.length<=n->De H->au (K w.params) H a (z.map V.int)->sp w [.ref a] H (λv _=>v=.bl true) λ_ _ _=>False)(U:∀(w:World)(H:Hp)(s:Shared)(e:Value)(s':Shared),CX w [] H s (λ_ _ _=>False) e s'->False):
  PySem.W.WalkO q p M P l.row.toRowW d [] (λf vs=>PySem.call f vs):=by
 refine Jv.V1 S E λw D y t mb A o pm cd a' a vs z G c ho hd jx I Dd r m Z=>?_;have X:=Y w _ c;obtain⟨C,B,L⟩:=i w t A _ X G.T.g I;exact V2 X G.T.g G.T.b G.T.builtins G.T.nolimit Z Dd r (zat m N) R L B (λH J F=>Q w H a z m J F) λH e s'=>U w H y e s'
end L2
namespace L2
open PySem PySem.Spec PyProof.Rows
noncomputable def inClass(s:Stmt)(j:Nat):Stmt:=match s with
 |.ClassDef _ _ _ b _ _ _ _ _ _ _=>b.getD j (.Pass ⟨0,0,0,0⟩)
 |_=>.Pass ⟨0,0,0,0⟩
noncomputable def jI(s:Stmt):Arguments:=match s with
 |.FunctionDef _ a _ _ _ _ _ _ _ _=>a
 |_=> {posonlyargs:=[],args:=[],vararg:=none,kwonlyargs:=[],kw_defaults:=[],kwarg:=none,defaults:=[]}
def fF(s:Stmt):List Stmt:=match s with
 |.FunctionDef _ _ b _ _ _ _ _ _ _=>b
 |_=>[]
noncomputable def fG(s:Stmt):Scope:=match s with
 |.FunctionDef _ _ _ _ _ _ c _ _ _=>c
 |_=> {kind:=.function,names:=[],isGenerator:=false,isCoroutine:=false}
abbrev v3:cE:=λ_ _ _ _ _ _=>False
abbrev E0:XK:=λ_ _ _=>False
structure pT(K:Frag)(x qual:Str)(st:Stmt)(f:Addr)(fd:FuncData):Prop where
 ex:∃(oc:Value)(od:Option Addr)(kV doc pm:Value)(an:Option Addr)(bH ct:Value)(iE:Array (Option Value)),
  fd=PySem.W.fnOf x qual (jI st) (fF st) (fG st) .none kV doc pm an bH ct/\K.lookup f=some ⟨oc,od,.func fd,iE⟩/\PySem.W.codeIn K bH qual=true
 kp:PySem.W.keepIn K (.ref f)=true
section
variable{P:Program}{w:World}{K:Frag}{mg:Str->Option Value}{base:Heap}
theorem pT.binds{st:Stmt}{f:Addr}{e:FuncData}{p:List Str}(a:pT K x q st f e)(h:∀(k d m:Value)(n:Option Addr)(b c:Value)(u:List Value),u.length=p.length->bindArgs (PySem.W.fnOf x q (jI st) (fF st) (fG st) .none k d m n b c) ⟨u,[]⟩=pure (p.zip u)):Binds K e p []:=by
 obtain⟨g,o,k,d,m,n,b,c,i,zq⟩:=qx9 a.ex;obtain⟨rfl,l,j⟩:=qa3 zq;exact .all<|h k d m n b c
theorem Jy{st:Stmt}{f:Addr}{o:Value}{od a:Option Addr}{i:Array (Option Value)}{V d p b t:Value}(l:K.lookup f=some ⟨o,od,.func<|PySem.W.fnOf x q (jI st) (fF st) (fG st) .none V d p a b t,i⟩)(c:PySem.W.codeIn K b q=true)(k:PySem.W.keepIn K (.ref f)=true):pT K x q st f (PySem.W.fnOf x q (jI st) (fF st) (fG st) .none V d p a b t):=⟨⟨o,od,V,d,p,a,b,t,i,O,l,c⟩,k⟩
end
theorem iG{a:Prop}(h:a):if false=true then A else a:=by lia
theorem gi{a:Prop}(h:A):if true=true then A else a:=by lia
theorem gG{a:Prop}[Decidable c](b:c->A)(h:¬c->a):if c then A else a:=by lia
def ay(H H':Hp):Prop:= ∀b o,H b=some o->H' b=some o
theorem ay.refl(H:Hp):ay H H:=λ_ _ h=>h
theorem ay.trans(a:ay H e)(b:ay e d):ay H d:=λc o h=>b c o (a c o h)
theorem ay.free(e:ay H H'){l:Addr}(h:H' l=Option.none):H l=Option.none:=by
 cases q:H l with
 |none=>rfl
 |some o=>
  rw[e l o q] at h;cases h
theorem ay.seq{K:Frag}{H H':Hp}{a:Addr}{xs:List V}(e:ay H H')(h:au K H a xs):au K H' a xs:=by
 rcases h with(h|⟨o,h⟩)|h
 exact .inl (.inl<|e _ _ h);exact .inl (.inr ⟨o,e _ _ h⟩);exact .inr h
section
variable{κ:Type}[DecidableEq κ]
noncomputable def e_(s:List (κ×V))(k:κ):Option V:=(s.find? λv=>decide (v.1=k)).map (·.2)
noncomputable def putK(s:List (κ×V))(k:κ)(v:V):List (κ×V):=
 if (s.any λa=>decide (a.1=k))=true then s.map (λa=>if a.1=k then (a.1,v) else a) else s++[(k,v)]
theorem pU{k:κ}(e:p.1=k):e_ (p::r) k=some p.2:=by simp[e_,zaT,e]
theorem uj{k:κ}(e:¬p.1=k):e_ (p::r) k=e_ r k:=by simp[e_,zaT,e]
theorem Dg(k:κ):∀s:List (κ×V),(s.any λv=>decide (v.1=k))=(e_ s k).isSome
 |[]=>O
 |p::r=>by
  rw[zbA];by_cases e:p.1=k;simp only[pU e,zqT e,Bool.true_or,Option.isSome_some];rw[uj e,zqF e];exact Dg k r
theorem Dh(s:List (κ×V))(k:κ)(v:V):(putK s k v).length<=s.length+1:=by
 unfold putK;split;rw[zaa];exact zbh _;rw[zqA,zao,zaX];exact zqR _
theorem v5{k:κ}(v:V)(h:e_ s k=none):putK s k v=s++[(k,v)]:=by
 unfold putK;rw[Dg,h];exact if_neg (by simp)
theorem iA.Di(r:iA o u):o.isSome=u.isSome:=by
 cases o with
 |none=>cases u with
  |none=>rfl
  |some _=>exact(show False from r).elim
 |some _=>cases u with
  |none=>exact(show False from r).elim
  |some _=>rfl
theorem KV.val(r:KV a vs)(k:κ):iA (e_ a k) (valueAt vs k):=by
 induction r with
 |nil=>exact True.intro
 | @cons p q g s h t i=>
  obtain⟨d,f⟩:=h;by_cases e:p.1=k;have c:=d.symm.trans e;have b:valueAt (q::s) k=some q.2:=by simp[valueAt,zaT,c]
  rw[pU e,b];exact f;have c:¬q.1=k:=λz=>e (d.trans z);have b:valueAt (q::s) k=valueAt s k:=by simp[valueAt,zaT,c]
  rw[uj e,b];exact i
theorem KV.any(r:KV s vs)(k:κ):(s.any λv=>decide (v.1=k))=vs.any λv=>decide (v.1=k):=by
 induction r with
 |nil=>rfl
 |cons h t i=>rw[zbA,zbA,i,h.1]
theorem KV.Dj(r:KV s vs)(k:κ){y:V}{u:Value}(b:RelV y u):
  KV (s.map λv=>if v.1=k then (v.1,y) else v) (vs.map λv=>if v.1=k then (v.1,u) else v):=by
 induction r with
 |nil=>exact .nil
 | @cons p q f d h t i=>
  rw[zaz,zaz];refine .cons ?_ i;obtain⟨a,c⟩:=h;by_cases e:p.1=k;rw[if_pos e,if_pos<|a.symm.trans e];exact⟨a,b⟩;rw[if_neg e,if_neg<|λz=>e<|a.trans z];exact⟨a,c⟩
theorem KV.put(r:KV s vs)(k:κ){y:V}{u:Value}(a:RelV y u):KV (putK s k y) (stored vs k u):=by
 unfold putK stored;rw[r.any k];by_cases e:(vs.any λv=>decide (v.1=k))=true;rw[if_pos e,if_pos e];exact r.Dj k a;rw[if_neg e,if_neg e];exact Paired.snoc r ⟨O,a⟩
theorem KV.length{vs:List (κ×Value)}(r:KV k vs):k.length=vs.length:=Paired.length r
end
theorem v8{k:Key}{u:Value}(r:RelV (kV k) u):(eQ P w).is k u=true:=by
 cases k with
 |inl i=>obtain⟨t,e⟩:=(show ∃t,u=Value.int i t from r);subst e;exact HQ P w i t
 |inr x=>obtain⟨t,e⟩:=(show ∃t,u=Value.str x t from r);subst e;exact yM P w x t
theorem Jz:∀{s:List Key}{u:List Value},Vals (s.map kV) u->ItemsAre (eQ P w) s u
 |[],_,r=>by cases r;exact .nil
 |k::s,_,r=>by
  cases r with
  |cons h t=>exact .cons (v8 h) (Jz t)
abbrev KT(H:Hp):List (List Key×V)->List (List Key×Addr×Value)->Prop:=Paired λp q=>p.1=q.1/\H q.2.1=some (.tup<|p.1.map kV)/\RelV p.2 q.2.2
theorem KT.val{xs:List (List Key×Addr×Value)}(r:KT H s xs)(k:List Key):iA (e_ s k) ((atKey xs k).map (·.2)):=by
 induction r with
 |nil=>exact True.intro
 | @cons p q g a h t i=>
  obtain⟨d,_,f⟩:=h;by_cases e:p.1=k;have c:=d.symm.trans e;have b:atKey (q::a) k=some q.2:=by simp[atKey,zaT,c]
  rw[pU e,b];exact f;have c:¬q.1=k:=λz=>e (d.trans z);have b:atKey (q::a) k=atKey a k:=by simp[atKey,zaT,c]
  rw[uj e,b];exact i
theorem KT.Dj{xs:List (List Key×Addr×Value)}(r:KT H s xs)(k:List Key){y:V}{u:Value}(c:RelV y u):
  KT H (s.map λv=>if v.1=k then (v.1,y) else v) (xs.map<|putAt k u):=by
 induction r with
 |nil=>exact .nil
 | @cons p q g f h t i=>
  rw[zaz];refine .cons ?_ i;obtain⟨a,b,d⟩:=h;unfold putAt;by_cases e:p.1=k;rw[if_pos e,if_pos<|a.symm.trans e];exact⟨a,b,c⟩;rw[if_neg e,if_neg<|λz=>e<|a.trans z];exact⟨a,b,d⟩
theorem KT.put{xs:List (List Key×Addr×Value)}(r:KT H s xs)(k:List Key){b:Addr}{y:V}{u:Value}(h:H b=some (.tup<|k.map kV))(a:RelV y u):
  KT H (putK s k y) (storedH xs k b u):=by
 have e:(s.any λv=>decide (v.1=k))=(atKey xs k).isSome:=by
  rw[Dg,(r.val k).Di,Option.isSome_map]
 unfold putK storedH;rw[e];by_cases q:(atKey xs k).isSome=true;rw[if_pos q,if_pos q];exact r.Dj k a;rw[if_neg q,if_neg q];exact Paired.snoc r ⟨O,h,a⟩
theorem KT.keeps{k:List (List Key×V)}{xs:List (List Key×Addr×Value)}(r:KT H k xs)(ht:∀b ys,H b=some (.tup ys)->H' b=some (.tup ys)):KT H' k xs:=
 Paired.Cr r λ_ _ z=>⟨z.1,ht _ _ z.2.1,z.2.2⟩
section
variable{P:Program}{w:World}{H:Hp}{h:Heap}{a:Addr}
theorem JA(o:cw P w H h)(e:Rd H a u):cT P w H h a u:=e.ok o
theorem zr(o:cw P w H h)(e:Rd H a (.dK k)):k.length<=sizeLine/\(a==sysModules)=false/\∃vs,KV k vs/\h.DictOf (eQ P w) a vs:=
 show cT P w H h a (.dK k) from JA o e
theorem JB(o:cw P w H h)(e:H a=some (.dK k)):k.length<=sizeLine/\(a==sysModules)=false/\∃vs,KV k vs/\h.DictOf (eQ P w) a vs:=zr o (.inl e)
theorem zt(b:cw P w H h)(e:H a=some (.tup<|k.map kV)):(tupleKind<|eQ P w).is h k a:=by
 obtain⟨_,g,r,o,f,d,n,c⟩:=(show cT P w H h a (.tup<|k.map kV) from b a _ e);exact⟨o,g.toArray,n,f,d,c,by simpa using Jz r⟩
theorem zu(d:cw P w H h)(e:Rd H a (.dT k)):k.length<=sizeLine/\(a==sysModules)=false/\
  ∃xs,KT H k xs/\h.DictOfH (tupleKind<|eQ P w) a xs:=by
 obtain⟨z,y,xs,r,o,u,v,s,n,j,g,f⟩:=(show cT P w H h a (.dT k) from JA d e);refine⟨z,y,xs,r,o,u,v,s,n,j,g,λx b=>?_,f⟩;have c:∀{l:List (List Key×V)}{m:List (List Key×Addr×Value)},KT H l m->∀x∈m,(tupleKind<|eQ P w).is h x.1 x.2.1:=by
  intro l m q;induction q with
  |nil=>intro x b;exact nomatch b
  | @cons p q C A D t i=>
   intro x b;rcases zac.mp b with e|b
   exact zt d (by lia);exact i x b
 exact c r x b
theorem Wc(o:cw P w H h)(e:H a=some (.dT k)):k.length<=sizeLine/\(a==sysModules)=false/\
  ∃xs,KT H k xs/\h.DictOfH (tupleKind<|eQ P w) a xs:=zu o (.inl e)
end
def ja(H:Hp)(a:Addr)(y:V)(r:Option V):Prop:=
 (∃s k,Rd H a (.dK s)/\y=kV k/\r=e_ s k)\/∃s k b,Rd H a (.dT s)/\y=.ref b/\H b=some (.tup<|k.map kV)/\r=e_ s k
def pV(H:Hp)(a:Addr)(y v:V)(H':Hp):Prop:=
 (∃s k,H a=some (.dK s)/\y=kV k/\s.length<sizeLine/\H'=upd H a (.dK<|putK s k v))\/
 ∃s k b,H a=some (.dT s)/\y=.ref b/\H b=some (.tup<|k.map kV)/\s.length<sizeLine/\H'=upd H a (.dT<|putK s k v)
theorem ja.k{s:List (Key×V)}{k:Key}(e:H a=some (.dK s)):ja H a (kV k) (e_ s k):=.inl ⟨s,k,.inl e,O,O⟩
theorem pV.k{s:List (Key×V)}{k:Key}{v:V}(e:H a=some (.dK s))(h:s.length<sizeLine):pV H a (kV k) v (upd H a<|.dK<|putK s k v):=.inl ⟨s,k,e,O,h,O⟩
section
variable{X:Cx}{pins:List (Addr×Obj)}{σ:St}{H:Hp}{s:Shared}{a:Addr}{y v:V}{u r:Value}{o:Option V}{A:Around}{E:Value->Shared->Prop}
theorem Inv.big(I:Inv X pins σ H s):sysModules<s.heap.objs.size:=by
 exact Nat.lt_trans (by decide) ((I.mod.glob.keeps I.bk).lt)
theorem Wd(x:A.units+1<cLine)(I:Inv X pins σ H s)(g:ja H a y (some v))(q:RelV y u)(h:∀d s',Inv X pins σ H s'->RelV v d->Q d s'):
  wpAny (model X.prog X.w) A (getItem (.ref a) u) Q E s:=by
 rcases g with⟨f,k,e,m,l⟩|⟨f,k,b,e,m,G,l⟩
 subst m;obtain⟨z,D,N,c,n⟩:=zr I.aG e;obtain⟨d,i,j⟩:=iA.some_of (l▸c.val k);exact wpAny_getItem_of (v8 q) n.mapOf i<|h d _ (I.tok _) j;subst m;cases (show u=Value.ref b from q);obtain⟨z,D,K,c,n⟩:=zu I.aG e;obtain⟨d,i,j⟩:=iA.some_of (l▸c.val k);obtain⟨p,C,t⟩:=zaY.mp i;refine wpAny_getItem_heap (tupleKind_room_in1 x) (zt I.aG G) n C ?_;rw[t];exact h d _ (I.tok _) j
theorem We(n:A.units+1<cLine)(I:Inv X pins σ H s)(g:ja H a y o)(m:RelV y u)(h:∀s',Inv X pins σ H s'->Q (.bool o.isSome) s'):
  wpAny (model X.prog X.w) A (compareOp .In u<|.ref a) Q E s:=by
 rcases g with⟨d,k,e,i,l⟩|⟨d,k,b,e,i,p,l⟩
 subst i;obtain⟨z,f,t,c,j⟩:=zr I.aG e;refine wpAny_in_of (v8 m) f j.mapOf ?_;rw[<-(c.val k).Di,<-l];exact h _<|I.tok _;subst i;cases (show u=Value.ref b from m);obtain⟨z,f,x,c,j⟩:=zu I.aG e;refine wpAny_in_heap (tupleKind_room_in1 n) (zt I.aG p) f j ?_;have q:=(c.val k).Di;rw[Option.isSome_map] at q;rw[<-q,<-l];exact h _<|I.tok _
theorem Dk{c:HO}(I:Inv X pins σ H s)(m:vL (H a))(d:Heap.SameBut a s.heap h)(e:∃q,h.get? a=some q)(n:cT X.prog X.w (upd H a c) h a c):
  Inv X pins σ (upd H a c) {s with heap:=h,toks:=t'}:=
 I.write m (.inl O) (λb q f z=>(d.2 b f).trans z) e n
theorem JC{h:Heap}{k:List (Key×V)}{vs:List (Key×Value)}(z:k.length<=sizeLine)(d:(a==sysModules)=false)(l:KV k vs)(dd:h.DictOf (eQ P w) a vs):
  cT P w H' h a (.dK k):=⟨z,d,vs,l,dd⟩
theorem Wf(T:A.units+1<cLine)(I:Inv X pins σ H s)(g:pV H a y v H')(D:RelV y u)(G:RelV v r)(h:∀s',Inv X pins σ H' s'->Q () s'):
  wpAny (model X.prog X.w) A (setItem (.ref a) u r) Q E s:=by
 rcases g with⟨f,k,e,t,l,x⟩|⟨f,k,b,e,t,P,l,x⟩
 subst t x;obtain⟨z,p,Y,d,C⟩:=JB I.aG e;have S:=d.length▸z;have n:(putK f k v).length<=sizeLine:=by have:=Dh f k v;exact zat this (zb0 l)
 refine wpAny_setItem_pairs (v8 D) C λK i m=>h _ ?_;have Z:∃q,K.get? a=some q:=let ⟨q,_,_,j,_⟩:=i;⟨q,j⟩;exact Dk I (e▸True.intro) m Z<|JC n p (d.put k G) i;subst t x;cases (show u=Value.ref b from D);obtain⟨z,p,R,d,C⟩:=Wc I.aG e;have S:R.length<=sizeLine:=by rw[<-Paired.length d];exact z
 have n:(putK f k v).length<=sizeLine:=by have:=Dh f k v;exact zat this (zb0 l)
 refine wpAny_setItem_heap (tupleKind_room_in1 T) (zt I.aG P) C λK i m=>h _ ?_;obtain⟨q,M,U,zq⟩:=qx3 i;obtain⟨j,L,J,F,_,B⟩:=qa6 zq;refine Dk I (e▸True.intro) m ⟨q,j⟩ ⟨n,p,_,(d.put k P G).keeps λc W N=>?_,q,M,U,j,L,J,F,B⟩;rw[aF<|cI N e<|λz=>nomatch z];exact N
end
def Dl(i:Expr):Prop:= ∀o v,subscripted i false o v=operate [o,v] (getItem o v)
theorem Wg{A:Around}{E:Value->Shared->Prop}{s:Shared}{env:Env}{v e:Expr}{p:Pos}{T k:String}{Q:Value->Shared->Prop}(m:typeLookup (.type T) "__getitem__"=pure (some<|.builtin k))(l:Dl e)(h:wpAny (model prog w) A (eval v env) (λo d=>wpAny (model prog w) A (eval e env) (λi a=>a.TypeIs o T/\wpAny (model prog w) A (getItem o i) Q E a) E d) E s):
  wpAny (model prog w) A (eval (.Subscript v e p) env) Q E s:=by
 refine Subscript_<|wpAny_mono h (λo d j=>wpAny_mono j (λi a b=>?_) λ_ _ x=>x) λ_ _ x=>x;obtain⟨n,b⟩:=b;refine wpAny_bind (wpAny_bind<|wpAny_specialOf n m ?_);have f:wpAny (model prog w) A (subscripted e false o i) (λr c=>wpAny (model prog w) A (letTemporaryGo v o r>>=λ_=>pure r) Q E c) E a:=by
  rw[l o i];exact wpAny_operating<|wpAny_mono b (λr c g=>wpAny_bind<|wpAny_letTemporaryGo<|wpAny_pure g) λ_ _ x=>x
 first
  |exact wpAny_pure (wpAny_bind f)
  |exact wpAny_bind (wpAny_pure<|wpAny_bind f)
  |exact wpAny_bind f
theorem Wh{f:St}{H:Hp}{s:Shared}{a:Addr}{y:V}{o:Option V}(I:Inv X p f H s)(g:ja H a y o):s.TypeIs (.ref a) "dict":=by
 rcases g with⟨c,k,e,_,_⟩|⟨c,k,b,e,_,_,_⟩
 obtain⟨_,_,v,_,d⟩:=zr I.aG e;exact d.typeIs;obtain⟨_,_,x,_,d⟩:=zu I.aG e;exact d.typeIs
def JD(d t:TE):TE:=λb H Q=>d b H λx e=>t b e λy c=>∃a v,x=.ref a/\ja c a y (some v)/\Q v c
def Dm(t d:TE):TE:=λb H Q=>t b H λy e=>d b e λx c=>∃a o,x=.ref a/\ja c a y o/\Q (.bl o.isSome) c
def JE(t d:TE):TE:=λb H Q=>t b H λy e=>d b e λx c=>∃a o,x=.ref a/\ja c a y o/\Q (.bl<|!o.isSome) c
def JF(e t d:TE):TS:=λD b H=>d b H λv h=>e b h λx g=>t b g λy f=>∃a c,x=.ref a/\pV f a y v c/\D.nx b c
section
variable{X:Cx}{o i e value:Expr}{pos pos' CM:Pos}{td ty tv:TE}
theorem Wi(l:X.A.units+1<cLine)(n:PE X o td)(t:PE X i ty)(m:Dl i):PE X (.Subscript o i pos) (JD td ty):=by
 intro p s b H Q I h;refine Wg PySem.F.slot_dict_getitem.lookup m<|aM (n p s b H _ I h) λu d ⟨x,E,C,f,j⟩=>aM (t p d b E _ C j) λP N ⟨y,D,c,r,a,v,w,g,q⟩=>?_;subst w;obtain rfl:u=Value.ref a:=f;exact⟨Wh c g,Wd l c g r λG K z k=>⟨v,D,z,k,q⟩⟩
theorem Wj(j:X.A.units+1<cLine)(l:PE X i ty)(k:PE X o td):PC X .In i o (Dm ty td):=by
 intro p s b H Q I h;refine aM (l p s b H _ I h) λG c ⟨y,C,w,r,f⟩=>aM (k p c b C _ w f) λu E ⟨x,z,t,d,a,v,m,g,q⟩=>?_;subst m;obtain rfl:u=Value.ref a:=d;exact We j t g r λD n=>⟨.bl v.isSome,z,n,O,q⟩
theorem Wk(t:X.A.units+1<cLine)(z:PE X o td)(C:PE X i ty)(n:PE X value tv)(w:swapsWith value (some<|.Subscript o i pos') pos.line X.env=pure false):
  PS X (.Assign [.Subscript o i pos'] value pos) (JF td ty tv):=by
 intro p s b H D I h;refine wpAny_Assign_Subscript (aM (n p s b H _ I h) λr d ⟨v,S,P,k,m⟩=>aM (z p d b S _ P m) λu c ⟨x,R,N,j,l⟩=>aM (C p c b R _ N l) λZ V ⟨y,B,K,f,a,Q,E,g,q⟩=>?_) w;subst E;obtain rfl:u=Value.ref a:=j;exact Wf t K g f k λT G=>⟨b,Q,G,q⟩
end
theorem Wl(h:Heap)(b:sysModules<h.objs.size):cT P w H (h.push {cls:=.type "dict",data:=.dict #[]}) h.objs.size (.dK []):=
 ⟨zqZ _,beq_eq_false_iff_ne.mpr<|Ne.symm<|zan b,[],.nil,Heap.DictOf.new h⟩
def Wm:TE:=λ_ H Q=>∀p,H p=none->Q (.ref p) (upd H p<|.dT [])
def Wn(H:Hp)(a:Addr):Prop:=(∃k,Rd H a<|.dK k)\/∃k,Rd H a (.dT k)
def Wo(f t e:TE):TE:=λb H Q=>f b H λx d=>∃a,x=.ref a/\Wn d a/\t b d λy g=>e b g λz c=>∃o,ja c a y o/\Q (o.getD z) c
end L2
set_option maxHeartbeats 4000000
namespace L2
open PySem PySem.Spec PyProof.Rows
section
variable{X:Cx}{pins:List (Addr×Obj)}{σ:St}{H:Hp}{s:Shared}{a:Addr}{o:HO}
theorem Inv.zv(I:Inv X pins σ H s)(t:H a=none)(A:X.s₀.heap.objs.size<=a)(y:a≠X.env.locals)(C:∀x c,X.env.cells.lookup x=some c->c≠a)(r:∀p∈X.pn++pins,p.1≠a)(f:cT X.prog X.w (upd H a o) s.heap a o):Inv X pins σ (upd H a o) s:=by
 have D:∀b u,X.s₀.heap.get? b=some u->b≠a:=λb u e=>zan (zaq (Heap.lt_size e) A);have v:∀b u,H b=some u->b≠a:=λb u e=>a_ e t;refine⟨I.ok,I.os,I.bare,⟨I.base.keep,I.base.slot,λb u e n l=>?_,I.base.there,λb d e=>?_,λb u d e=>?_,λb k e=>?_⟩,I.loc,I.cell,?_,λx c e=>?_,λp q=>?_,λb u e=>?_,I.len⟩;rw[aF<|D b u e];exact I.base.free b u e n l;have z:=I.base.bU b d e;rw[aF<|v b _ z];exact z;have z:=I.base.gQ b u d e;rw[aF<|v b _ z];exact z;obtain⟨m,z⟩:=I.base.iB b k e;exact⟨m,by rw[aF<|v b _ z];exact z⟩;rw[aF<|Ne.symm y];exact I.free;rw[aF<|C x c e];exact I.i5 x c e;obtain⟨j,i,g⟩:=I.pin p q;exact⟨j,by rw[aF<|r p q];exact i,g⟩;by_cases h:b=a;subst h;rw[ar] at e;cases e;exact f;rw[aF h] at e;exact(I.aG b u e).mI (λ_ _ _ q=>q) (λc q=>by rw[aF<|v c _ q];exact q) λc d q=>by rw[aF<|v c _ q];exact q
end
noncomputable def eT(cells:List (Str×Addr)):List (Str×NameKind)->List (Str×Addr)->List (Str×Addr)
 |[],a=>a
 |(n,k)::r,a=>eT cells r (if k=.free then (n,(cells.lookup n).getD 0)::a else a)
theorem JG(env:Env):∀(s:List (Str×NameKind))(b:List (Str×Addr)),(∀y∈s,y.2=.free->∃c,env.cells.lookup y.1=some c)->
  (forIn s b (fun(x:Str×NameKind)(l:List (Str×Addr))=>match x with
   |(d,f)=>if (f==NameKind.free)=true then do let a <-cellOf env d;pure (ForInStep.yield ((d,a)::l)) else pure (ForInStep.yield l)):Sem (List (Str×Addr)))=pure (eT env.cells s b)
 |[],b,_=>O
 |(n,k)::r,b,h=>by
  have j:=λm=>JG env r m λy o=>h y (zar _ o);by_cases g:k=.free;subst g;obtain⟨c,e⟩:=h (n,.free) zau O;have q:cellOf env n=pure c:=by unfold cellOf;rw[e]
  have i:eT env.cells ((n,.free)::r) b=eT env.cells r ((n,c)::b):=by simp[eT,e]
  rw[i,<-j];simp[q];have p:=by simpa using g
  have i:eT env.cells ((n,k)::r) b=eT env.cells r b:=by simp[eT,g]
  rw[i,<-j];simp[p]
theorem Wr(h:∀y∈s.names,y.2=.free->∃c,env.cells.lookup y.1=some c):closureFor s env=pure (eT env.cells s.names []):=by
 have:=JG env s.names [] h;simp only[closureFor];rw[<-this];simp
theorem JH:∀(s:List (Str×NameKind))(a:List (Str×Addr))(x:Str)(c:Addr),(eT cells s a).lookup x=some c->(a.lookup x=some c)\/((x,.free)∈s/\(cells.lookup x).getD 0=c)
 |[],a,x,c,h=>.inl h
 |(n,k)::r,a,x,c,h=>by
  rcases JH r _ x c h with z|⟨f,e⟩
  by_cases d:k=.free;subst d;simp at z;rw[zbk] at z;by_cases b:x==n;simp only[b] at z;have g:=eq_of_beq b;subst g;exact .inr ⟨zau,zal z⟩;have i:(x==n)=false:=by lia
  simp only[i] at z;exact .inl z;simp only[if_neg d] at z;exact .inl z;exact .inr ⟨zar _ f,e⟩
theorem Dp:∀(s:List (Str×NameKind))(a:List (Str×Addr))(x:Str),((x,NameKind.free)∈s\/∃c,a.lookup x=some c)->∃c,(eT cells s a).lookup x=some c
 |[],a,x,h=>by
  rcases h with h|h
  cases h;exact h
 |(n,k)::r,a,x,h=>by
  refine Dp r _ x ?_;rcases h with h|⟨c,h⟩
  rcases zac.mp h with e|h
  cases e;refine .inr ?_;simp;exact .inl h;refine .inr ?_;by_cases b:k=.free;simp only[if_pos b,zbk];cases d:x==n;exact⟨c,h⟩;exact⟨_,O⟩;simp only[if_neg b];exact⟨c,h⟩
theorem JI{env:Env}:∀(s:List (Str×NameKind))(x:Str),
  (s.map fun(n,k)=>if (k==NameKind.free && env.scope.kind==.function && env.kindOf n==some .cell) then (n,NameKind.cell) else (n,k)).lookup x=
   (s.lookup x).map λk=>if (k==NameKind.free && env.scope.kind==.function && env.kindOf x==some .cell) then NameKind.cell else k
 |[],_=>O
 |(n,k)::r,x=>by
  have i:=JI (env:=env) r x;show List.lookup x ((if (k==NameKind.free && env.scope.kind==.function && env.kindOf n==some .cell)=true then (n,NameKind.cell) else (n,k))::_)=_;cases a:x==n with
  |true=>
   have e:=eq_of_beq a;subst e;by_cases h:(k==NameKind.free && env.scope.kind==.function && env.kindOf x==some .cell)=true;rw[if_pos h];simp only[zbk,beq_self_eq_true,zbQ];rw[if_pos h];rw[if_neg h];simp only[zbk,beq_self_eq_true,zbQ];rw[if_neg h]
  |false=>
   by_cases h:(k==NameKind.free && env.scope.kind==.function && env.kindOf n==some .cell)=true;rw[if_pos h];simp only[zbk,a];exact i;rw[if_neg h];simp only[zbk,a];exact i
section
variable{prog:Program}{w:World}{A:Around}{R:Result->Shared->Prop}{s:Shared}
theorem Wt{t p:Expr}{q:List Expr}{k:Scope}{D:Pos}{it C:Value}{env:Env}(I:Nat->Shared->Prop)(l:∀n s,I n s->wpAny (model prog w) A (pyNext it) (λr b=>match r with
   |none=>R (.ok .next) b
   |some v=>wpAny (model prog w) A (letOwnedTupleGo t it v) (λ_ G=>wpAny (model prog w) A (assign t env v) (λ_ g=>
     wpAny (model prog w) A (forIn q true λc r=>if r=true then do let o <-isTrue c env (eval c env);pure (ForInStep.yield o) else pure (ForInStep.yield r)) (λo a=>
      if o=true then wpAny (model prog w) A (eval E env) (λx f=>
       wpAny (model prog w) A (call (.builtin "list.append") [C,x]) (λ_ e=>∃m,m<n/\I m e) (λ_ _=>False) f) (λ_ _=>False) a
      else ∃m,m<n/\I m a) (λ_ _=>False) g) (λ_ _=>False) G) (λ_ _=>False) b) (λ_ _=>False) s)(n:Nat)(h:I n s):codeAny (model prog w) A (.compLoop (.ListComp E [⟨t,p,q,0⟩] k D) 0 it C env) R s:=by
 refine codeAny_loop O I (λn s H=>wpAny_noted (wpAny_bind<|wpAny_standAt<|wpAny_bind<|wpAny_mono (l n s H) (λr b j=>?_) λ_ _ d=>d.elim)) n h;cases r with
 |none=>exact wpAny_pure j
 |some v=>
  refine wpAny_bind<|wpAny_mono j (λ_ G K=>wpAny_bind<|wpAny_mono K (λ_ g z=>wpAny_bind<|wpAny_mono z (λo a i=>?_) λ_ _ d=>d.elim) λ_ _ d=>d.elim) λ_ _ d=>d.elim;cases o with
  |false=>exact wpAny_pure ⟨O,i⟩
  |true=>
   exact wpAny_bind<|wpAny_bind<|wpAny_mono i (λx f y=>wpAny_bind<|wpAny_mono y (λ_ e u=>wpAny_pure<|wpAny_pure ⟨O,u⟩) λ_ _ d=>d.elim) λ_ _ d=>d.elim
end
noncomputable def iI(X:Cx)(e:Scope)(N:List Str)(x:List Addr)(C:Addr)(s:Shared)(H:Hp):Cx where
 prog:=X.prog
 w:=X.w
 K:=X.K
 mg:=X.mg
 base:=X.base
 A:=X.A
 N:=N
 s₀:=s
 H₀:=H
 env:=compEnvC e (eT X.env.cells e.names []) C X.env
 outer:=X.stack
 stack:=X.stack
 ex:=x
 fn:=λ_=>false
 calm:=X.calm
 pn:=[]
 xe:=λ_ _=>False
structure lq(X:Cx)(scope:Scope)(ln:List Str)(fv:List (Str×Nat)):Prop where
 kind:scope.kind=.function
 JK:∀y∈scope.names,y.2≠ .cell
 locals:∀y∈scope.names,y.2=.local->scope.names.lookup y.1=some .local
 free:∀y∈scope.names,y.2=.free->(X.env.kindOf y.1=some .cell\/X.env.kindOf y.1=some .free)
 Wv:∀p∈fv,X.N[p.2]?=some p.1/\scope.names.lookup p.1=some .free
noncomputable def cX(a:St)(f:List (Str×Nat)):St:=f.map λp=>(a[p.2]?).join
def lA(K:Frag):Option Nat->V->Hp->(List V->Prop)->Prop
 |none,x,_,Q=>Q [x]
 |some n,x,H,Q=>if n=102 then ∃a xs,x=.ref a/\au K H a xs/\xs.length=2/\Q xs else ∃a xs,x=.ref a/\aJ K H a xs/\xs.length=n/\Q xs
theorem Ww{K:Frag}{n:Nat}{x:V}{H:Hp}{P Q:List V->Prop}(h:lA K (some n) x H P)(k:∀xs,P xs->Q xs):lA K (some n) x H Q:=by
 by_cases e:n=102;have h:if n=102 then ∃a xs,x=.ref a/\au K H a xs/\xs.length=2/\P xs else ∃a xs,x=.ref a/\aJ K H a xs/\xs.length=n/\P xs:=h
 show if n=102 then ∃a xs,x=.ref a/\au K H a xs/\xs.length=2/\Q xs else ∃a xs,x=.ref a/\aJ K H a xs/\xs.length=n/\Q xs
 rw[if_pos e] at h⊢;obtain⟨a,xs,d,c,b,q⟩:=h;exact⟨a,xs,d,c,b,k _ q⟩;have h:if n=102 then ∃a xs,x=.ref a/\au K H a xs/\xs.length=2/\P xs else ∃a xs,x=.ref a/\aJ K H a xs/\xs.length=n/\P xs:=h
 show if n=102 then ∃a xs,x=.ref a/\au K H a xs/\xs.length=2/\Q xs else ∃a xs,x=.ref a/\aJ K H a xs/\xs.length=n/\Q xs
 rw[if_neg e] at h⊢;obtain⟨a,xs,d,c,b,q⟩:=h;exact⟨a,xs,d,c,b,k _ q⟩
def om:Option TT->TT
 |none=>λ_ H k=>k true H
 |some t=>t
def pX(K:Frag)(w:TI)(t:Option Nat)(v:List (Str×Nat))(k:Option TT)(j:TE):TE:=λf H Q=>
 w f H λc n=>∃a:Nat->Nat->List V->Hp->Prop,(∃m,a 0 m [] n)/\∀i m ys d,a i m ys d->
  (c.stop i d/\∀p,d p=none->Q (.ref p) (upd d p<|.lst ys))\/
  (c.go i d/\∀x g,c.hZ i d x g->lA K t x g λxs=>
   om k (xs.map some++cX f v) g λb h=>
    if b=true then j (xs.map some++cX f v) h λy l=>ys.length<sizeLine/\∃e,e<m/\a (i+1) e (ys++[y]) l
    else ∃e,e<m/\a (i+1) e ys h)
section
variable{X:Cx}{pins:List (Addr×Obj)}{σ:St}{H:Hp}{s₂ s₃:Shared}{scope:Scope}{ln:List Str}{fv:List (Str×Nat)}{fp:List Addr}{h₁:Heap}{D C:Addr}{m:Str->Option Value}{t:Nat}
theorem lq.cells(S:lq X scope ln fv)(I:Inv X pins σ H s₂){x:Str}{c:Addr}(h:(eT X.env.cells scope.names []).lookup x=some c):X.env.cells.lookup x=some c/\(x,NameKind.free)∈scope.names:=by
 rcases JH _ _ _ _ h with z|⟨b,a⟩
 cases z;obtain⟨d,e⟩:=I.ok.has x (S.free _ b O);rw[e] at a;subst a;exact⟨e,b⟩
theorem lq.JL(S:lq X scope ln fv)(I:Inv X pins σ H s₂):closureFor scope X.env=pure (eT X.env.cells scope.names []):=
 Wr λy h k=>I.ok.has y.1 (S.free y h k)
theorem Wx(S:lq X scope ln fv)(I:Inv X pins σ H s₂)(G:∀b∈fp,kg X pins H b)(U:∀b∈fp,∃o,s₂.heap.get? b=some o)(os:s₃.os=s₂.os)(s:s₃.gens=s₂.gens)(k3:∀b o,s₂.heap.get? b=some o->s₃.heap.get? b=some o)(n:D=s₂.heap.objs.size)(Z:s₃.heap.objs.size=s₂.heap.objs.size+1)(V:C=s₃.heap.objs.size)(w:∀b o,s₃.heap.get? b=some o->h₁.get? b=some o)(L:h₁.Ns C m):
  Inv (iI X scope (ln++fv.map (·.1)) (D::fp) C s₃ H) [] (ln.map (λ_=>none)++cX σ fv) H {s₃ with heap:=h₁,toks:=t}:=by
 have f:∀{x c},(eT X.env.cells scope.names []).lookup x=some c->X.env.cells.lookup x=some c:=λh=>(S.cells I h).1;have Wy:∀{x c},(eT X.env.cells scope.names []).lookup x=some c->c<s₂.heap.objs.size:=λh=>by
  obtain⟨v,q⟩:=I.cell _ _ (f h);exact q.lt
 have Wz:∀b∈fp,b<s₂.heap.objs.size:=λb a=>by obtain⟨o,e⟩:=U b a;exact Heap.lt_size e
 have WA:∀b∈D::fp,b<=s₂.heap.objs.size:=λb a=>by
  rcases zac.mp a with e|a
  rw[e,n];exact zqR _;exact zby (Wz b a)
 have M:∀x,(relabel scope X.env).names.lookup x=(scope.names.lookup x).map λk=>if (k==NameKind.free && X.env.scope.kind==.function && X.env.kindOf x==some .cell) then NameKind.cell else k:=λx=>JI scope.names x
 have WC:∀x,scope.names.lookup x=some .free->((relabel scope X.env).names.lookup x=some .cell\/(relabel scope X.env).names.lookup x=some .free):=λx e=>by
  rw[M,e];simp only[zbQ];split;exact .inl O;exact .inr O
 have WD:∀x,((relabel scope X.env).names.lookup x=some .cell\/(relabel scope X.env).names.lookup x=some .free)->(x,NameKind.free)∈scope.names:=λx e=>by
  rw[M] at e;cases q:scope.names.lookup x with
  |none=>rw[q] at e;rcases e with e|e<;>cases e
  |some k=>
   rw[q] at e;have R:=PySem.mem_of_lookup q;simp only[zbQ] at e;by_cases g:k=.free;rw[g] at R;exact R;have a:(k==NameKind.free)=false:=by lia
   simp only[a,Bool.false_and,zaO,if_false] at e;rcases e with e|e
   exact absurd (zal e) (S.JK _ R);exact absurd (zal e) g
 refine⟨⟨I.ok.mod,S.kind,I.ok.glob,I.ok.blt,Nat.le_of_eq V.symm,λx y c h1 h2=>I.ok.inj x y c (f h1) (f h2),λx Y=>Dp _ _ x (.inl (WD x Y)),λx c h _=>(by cases h),I.ok.hd,I.ok.frames,.inl O,λb a=>⟨?_,λx c e=>?_⟩,λb o e=>⟨k3 b o (I.bs b o e).1,(I.bs b o e).2⟩,?_,λb o e a=>?_,λb a hf=>?_,?_,I.yT⟩,
  rfl,?_,Un.kept λb u e=>w b u e,⟨m,L,λi x v e1 d e3=>?_⟩,λx c e=>?_,I.aG.fresh ?_,λx c e=>I.i5 x c (f e),λp hp=>absurd (show p∈ ([]:List (Addr×Obj)) from hp) (by simp),I.aG.kept λb u e=>w b u (k3 b u e),?_⟩
 have:=WA b a;rw[V,Z];exact zan (Nat.lt_succ_of_le this);rcases zac.mp a with z|z
 rw[z,n];exact zan (Wy e);exact(G b z).2.2.2.2.1 x c (f e);show X.base.objs.size<=s₃.heap.objs.size;have:=zat I.ok.pO I.sz;lia;have d:=(I.bs b o e).1;rcases zac.mp a with z|z
 have:=Heap.lt_size d;rw[z,n] at this;exact zaC _ this;rcases (G b z).2.2.2.1 with q|q
 exact I.ok.yQ b o e q;exact absurd (zaq (Heap.lt_size (I.ok.bs b o e).1) q) (zaC _);have J:=hf;rcases zac.mp a with z|z
 rcases zac.mp (I.yS b J) with q|q
 have:=I.lt;rw[<-q,z,n] at this;exact zaC _ this;exact I.HS (by lia) q;rcases zac.mp (I.yS b J) with q|q
 exact(G b z).2.1 q;exact(G b z).2.2.1 q;exact PySem.Heap.FunFrames.of_keeps (λb o e _=>⟨o,k3 b o e,O⟩) I.stack;rw[s];exact I.bare;have A:ln.length<=i:=by
  by_cases A:i<ln.length;exfalso;rw[zax (by simpa using A),zaf] at d;cases q:ln[i]? with
  |none=>rw[q] at d;cases d
  |some y=>rw[q] at d;cases d
  exact za4 A
 have j:(ln++fv.map (·.1))[i]?=some x:=e1;rw[zaW A,zaf] at j;rw[zaW (by simpa using A),zaa] at d;unfold cX at d;rw[zaf] at d;cases q:fv[i - ln.length]? with
 |none=>rw[q] at j;cases j
 |some p=>
  rw[q] at j d;have ex:p.1=x:=zal j;have K:(σ[p.2]?).join=some v:=zal d;obtain⟨B,E⟩:=S.Wv p (zak q);rw[ex] at B E;have WE:σ[p.2]?=some (some v):=by
   cases z:σ[p.2]? with
   |none=>rw[z] at K;cases K
   |some o=>rw[z] at K;rw[show o=some v from K]
  have g:=S.free _ (PySem.mem_of_lookup E) O;obtain⟨m2,kh,hl⟩:=I.loc;obtain⟨u,r,l⟩:=hl p.2 x v B WE (by rcases g with k|k;exact .inr (.inl k);exact .inr (.inr k));refine⟨u,r,.inr ?_⟩;rcases l with⟨k,_⟩|⟨_,c,ec,z⟩
  rcases g with P|P<;>(rw[k] at P;cases P)
  refine⟨WC x E,c,?_,?_⟩;obtain⟨c',F⟩:=Dp scope.names [] x (.inl<|PySem.mem_of_lookup E);have:=f F;rw[ec] at this;cases this;exact F;obtain⟨o,Q,T⟩:=z;exact⟨o,w c o<|k3 c o Q,T⟩
 obtain⟨v,o,Q,T⟩:=I.cell x c (f e);exact⟨v,o,w c o<|k3 c o Q,T⟩;rw[V,Z];exact zbh _;show(ln.map (λ_=>none)++cX σ fv).length=(ln++fv.map (·.1)).length;simp[cX]
end
structure Dq(Φ:Cx->Prop)(P:Program)(w:World)(K:Frag)(tg:Expr)(J:It)(fp:List Addr)(it:Addr)(tn:Nat->Heap->Prop):Prop where
 mem:it∈fp
 obj:∀i h,tn i h->∀b∈fp,∃o,h.get? b=some o/\∀v,o.data≠ .cell v
 keep:∀i h h',tn i h->(∀b∈fp,∀o,h.get? b=some o->h'.get? b=some o)->tn i h'
 item:∀(X:Cx),X.prog=P->X.w=w->X.K=K->Φ X->∀(i:Nat)(pins:List (Addr×Obj))(s:Shared)(σ:St)(H:Hp)(E:Value->Shared->Prop),Inv X pins σ H s->(∀b∈fp,kg X pins H b)->tn i s.heap->J.go i H->
  wpAny (model P w) X.A (pyNext (.ref it)) (λr s1=>∃u,r=some u/\
   wpAny (model P w) X.A (letOwnedTupleGo tg (.ref it) u) (λ_ s2=>∃x H',Inv X pins σ H' s2/\RelV x u/\J.hZ i H x H'/\tn (i+1) s2.heap/\∀b∈fp,H' b=none) E s1) E s
 done:∀(X:Cx),X.prog=P->X.w=w->X.K=K->Φ X->∀(i:Nat)(pins:List (Addr×Obj))(s:Shared)(σ:St)(H:Hp)(E:Value->Shared->Prop),Inv X pins σ H s->(∀b∈fp,kg X pins H b)->tn i s.heap->J.stop i H->
  wpAny (model P w) X.A (pyNext<|.ref it) (λr s1=>r=none/\Inv X pins σ H s1) E s
 self:∀(A:Around)(i:Nat)(s:Shared)(Q:Value->Shared->Prop)(E:Value->Shared->Prop),tn i s.heap->Q (.ref it) s->wpAny (model P w) A (pyIter<|.ref it) Q E s
def zw(e:Cx->Prop)(X:Cx)(tg i:Expr)(g:TI):Prop:=
 ∀(p:List (Addr×Obj))(s:Shared)(c:St)(H:Hp)(R:It->Hp->Prop),Inv X p c H s->g c H R->
  wpAny (model X.prog X.w) X.A (eval i X.env) (λv h=>wpAny (model X.prog X.w) X.A (pyIter v) (λr d=>
   ∃(it:Addr)(f:List Addr)(t:Nat->Heap->Prop)(a:It)(H':Hp),r=.ref it/\Inv X p c H' d/\Dq e X.prog X.w X.K tg a f it t/\t 0 d.heap/\(∀b∈f,kg X p H' b)/\R a H') X.xe h) X.xe s
abbrev Calm(X:Cx):Prop:=X.calm=true
theorem PI.p(h:PI X tg i w):zw Calm X tg i w:=λb s c H R I q=>
 aM (h b s c H R I q) λv o j=>aM j λE n ⟨g,k,t,a,m,e,l,T,d,f,r⟩=>⟨g,k,t,a,m,e,l,⟨T.mem,T.obj,T.keep,T.item,T.done,T.self⟩,d,f,r⟩
section
variable{X:Cx}{pins:List (Addr×Obj)}{σ:St}{H:Hp}{s₂:Shared}{scope:Scope}{ln:List Str}{fv:List (Str×Nat)}{elt tg iter:Expr}{ifs:List Expr}{pos:Pos}{J:It}{fp:List Addr}{it:Addr}{tn:Nat->Heap->Prop}{tk:Option Nat}{tc:Option TT}{te:TE}{Qv:VK}{RR:Value->Addr->Result->Shared->Prop}{E:Value->Shared->Prop}
def zx(b:Hp->Prop)(X:Cx)(scope:Scope)(ln:List Str)(fv:List (Str×Nat))(tg:Expr)(tk:Option Nat):Prop:=
 ∀(e:List Addr)(C:Addr)(s:Shared)(H:Hp),b H->∃g,PG (iI X scope (ln++fv.map (·.1)) e C s H) tg g/\
  ∀(x:V)(p a:St)(H':Hp)(Q:St->Hp->Prop),p.length=ln.length->lA X.K tk x H' (λxs=>xs.length=ln.length->Q (xs.map some++a) H')->g x (p++a) H' Q
def v_(X:Cx)(scope:Scope)(ln:List Str)(fv:List (Str×Nat))(tg:Expr)(tk:Option Nat):Prop:=
 ∀(e:List Addr)(C:Addr)(s:Shared)(H:Hp),∃g,PG (iI X scope (ln++fv.map (·.1)) e C s H) tg g/\
  ∀(x:V)(p a:St)(H':Hp)(Q:St->Hp->Prop),p.length=ln.length->lA X.K tk x H' (λxs=>xs.length=ln.length->Q (xs.map some++a) H')->g x (p++a) H' Q
def wa(X:Cx)(scope:Scope)(N:List Str)(ifs:List Expr)(tc:Option TT):Prop:=
 match tc with
 |none=>ifs=[]
 |some t=>∃c,ifs=[c]/\∀(e:List Addr)(C:Addr)(s:Shared)(H:Hp),PT (iI X scope N e C s H) c t
theorem JO(S:lq X scope ln fv)(hc:∀l:Cx,l.A=X.A->l.calm=X.calm->l.H₀=H->Φ l)(j':Ψ H)(hg:zx Ψ X scope ln fv tg tk)(ht:wa X scope (ln++fv.map (·.1)) ifs tc)(he:∀(ex:List Addr)(C:Addr)(s:Shared)(H:Hp),PE (iI X scope (ln++fv.map (·.1)) ex C s H) elt te)(I:Inv X pins σ H s₂)(T:Dq Φ X.prog X.w X.K tg J fp it tn)(st:tn 0 s₂.heap)(f2:∀b∈fp,kg X pins H b)(h:∃a:Nat->Nat->List V->Hp->Prop,(∃m,a 0 m [] H)/\∀i m ys H2,a i m ys H2->
   (J.stop i H2/\∀p,H2 p=none->Qv (.ref p) (upd H2 p<|.lst ys))\/
   (J.go i H2/\∀x H3,J.hZ i H2 x H3->lA X.K tk x H3 λxs=>
    om tc (xs.map some++cX σ fv) H3 λb L=>
     if b=true then te (xs.map some++cX σ fv) L λy H6=>ys.length<sizeLine/\∃G,G<m/\a (i+1) G (ys++[y]) H6
     else ∃G,G<m/\a (i+1) G ys L))(WG:∀D C H' s' m,Inv X pins σ H' s'->s'.heap.Ns C m->H' C=none->C≠X.env.locals->X.s₀.heap.objs.size<=C->(∀x c,X.env.cells.lookup x=some c->c≠C)->(∀p∈X.pn++pins,p.1≠C)->Qv (.ref D) H'->RR (.ref D) C (.ok .next) s'):
  wpAny (model X.prog X.w) X.A (newList []) (λi' f=>wpAny (model X.prog X.w) X.A (newFunctionEnv scope X.env.globals (eT X.env.cells scope.names []) [] X.env.qual none .none (some X.env)) (λJP P=>
   codeAny (model X.prog X.w) X.A (.compStart (.ListComp elt [⟨tg,iter,ifs,0⟩] scope pos) 0 (.ref it) i' {JP with scope:=relabel scope X.env}) (RR i' JP.locals) P) E f) E s₂:=by
 obtain⟨a,⟨m0,w0⟩,f'⟩:=h;refine wpAny_newObj_type<|wpAny_newFunctionEnv S.JK (by intro y hy;simp at hy) (λN zy zA=>?_) S.kind;dsimp only at zy zA⊢;generalize ou:({s₂ with heap:=s₂.heap.push {cls:=.type "list",dict:=none,data:=.seq ([]:List Value).toArray}}:Shared)=f;have wb:s₂.heap.push {cls:=.type "list",dict:=none,data:=.seq ([]:List Value).toArray}=f.heap:=by rw[<-ou]
 rw[wb] at zy zA⊢;have JQ:f.os=s₂.os:=by rw[<-ou]
 have WH:f.gens=s₂.gens:=by rw[<-ou]
 have rT:f.heap.objs.size=s₂.heap.objs.size+1:=by rw[<-wb,Heap.size_push]
 have k3:∀b o,s₂.heap.get? b=some o->f.heap.get? b=some o:=λb o e=>by rw[<-wb];exact Heap.get?_push_of_some _ e
 have k4:=λb o e=>zA.extBut b o (zan<|Heap.lt_size e) (Heap.get?_push_of_some _ e);have gD:f.heap.get? s₂.heap.objs.size=some {cls:=.type "list",dict:=none,data:=.seq ([]:List Value).toArray}:=by rw[<-wb];exact Heap.get?_push_size _ O
 generalize eD:s₂.heap.objs.size=D at gD;generalize eC:f.heap.objs.size=C at zy zA⊢;have zB:D≠C:=by rw[<-eD,<-eC,rT];exact zan (zbM _)
 have rR:∀b∈fp,∃o,s₂.heap.get? b=some o:=λb j=>by obtain⟨o,e,_⟩:=T.obj 0 _ st b j;exact⟨o,e⟩
 have JR:∀b∈fp,b≠D:=λb j=>by obtain⟨o,e⟩:=rR b j;rw[<-eD];exact zan (Heap.lt_size e)
 have WI:∀b∈fp,b≠C:=λb j=>by
  obtain⟨o,e⟩:=rR b j;have:=Heap.lt_size e;rw[<-eC,rT];exact zan (zbR this)
 generalize eX:iI X scope (ln++fv.map (·.1)) (D::fp) C f H=l;have I4:∀t,Inv l [] (ln.map (λ_=>none)++cX σ fv) H {f with heap:=N,toks:=t}:=λt=>by
  rw[<-eX];exact Wx S I f2 rR JQ WH k3 eD.symm rT eC.symm k4 zy
 have xL:l.env.locals=C:=by rw[<-eX];rfl
 have zC:l.ex=D::fp:=by rw[<-eX];rfl
 have WJ:l.fs=bR X.stack:=by rw[<-eX];rfl
 have xP:l.prog=X.prog:=by rw[<-eX];rfl
 have xw:l.w=X.w:=by rw[<-eX];rfl
 have xK:l.K=X.K:=by rw[<-eX];rfl
 have xA:l.A=X.A:=by rw[<-eX];rfl
 have xc:Φ l:=hc l xA (by rw[<-eX];rfl) (by rw[<-eX];rfl);have JS:l.pn=[]:=by rw[<-eX];rfl
 have Dr:l.xe=λ_ _=>False:=by rw[<-eX];rfl
 have JT:l.env.cells=eT X.env.cells scope.names []:=by rw[<-eX];rfl
 have Ds:l.env=compEnvC scope (eT X.env.cells scope.names []) C X.env:=by rw[<-eX];rfl
 have cD:∀x c,l.env.cells.lookup x=some c->c≠D:=λx c e=>by
  rw[JT] at e;obtain⟨v,q⟩:=I.cell x c (S.cells I e).1;rw[<-eD];exact zan q.lt
 have cF:∀x c,l.env.cells.lookup x=some c->∀b∈fp,c≠b:=λx c e b j=>by
  rw[JT] at e;exact(f2 b j).2.2.2.2.1 x c (S.cells I e).1
 have sF:∀b∈D::fp,b∉l.fs:=λb j hf=>by
  have:=(I4 0).ok.yR b (by rw[zC];exact j);exact this hf
 have rF:∀{H':Hp}{oD:Obj},(∀b∈fp,H' b=none)->∀b∈fp,kg l [(D,oD)] H' b:=λhn b j=>
  ⟨hn b j,by rw[xL];exact WI b j,sF b (zar _ j),.inl (by rw[zC];exact zar _ j),λx c e=>cF x c e b j,λp Q=>by
   rw[JS] at Q;rcases zab.mp (show p∈ [(D,_)] from Q) with rfl
   exact(JR b j).symm⟩
 have b':∀P:Shared,P={f with heap:=N,toks:=f.toks+([]:List (Str×Value)).length}->
   codeAny (model X.prog X.w) X.A (.compLoop (.ListComp elt [⟨tg,iter,ifs,0⟩] scope pos) 0 (.ref it) (.ref D)<|compEnvC scope (eT X.env.cells scope.names []) C X.env) (RR (.ref D) C) P:=by
  rintro P rfl;refine Wt (λn s'=>qX6 λi a' ys R Y H'=>qA7 (Inv l [(D,{cls:=.type "list",data:=.seq (List.toArray R) Y})] (a'++cX σ fv) H' s') (a'.length=ln.length) (tn i s'.heap) (∀b∈fp,H' b=none) (Vals ys R) (ys.length<=sizeLine) (a i n ys H')) ?_ m0
   ⟨0,ln.map<|λ_=>none,[],[],0,H,(I4 _).t4<|λp Q=>?_,by simp,T.keep 0 _ _ st<|λb _ o e=>k4 b o<|k3 b o e,λb j=>(f2 b j).1,.nil,zqZ _,w0⟩
  rotate_left
  have Dt:=zab.mp Q;subst Dt;refine⟨k4 _ _ gD,I.aG.fresh<|Nat.le_of_eq eD,by rw[xL];exact zB,sF D zau,λv z=>by cases z⟩;rintro n s' ⟨i,a',ys,R,Y,H',I',oi,dP,JU,hv,hz,w'⟩;have k':=I'.pin (D,_) (zaw _ zau);rcases f' i n ys H' w' with⟨g',qn⟩|⟨go,h'⟩
  have td:=T.done l xP xw xK xc i _ s' _ H' (λ_ _=>False) I' (rF JU) dP g';rw[xA] at td;refine aM td λr s1 ⟨hr,I1⟩=>?_;subst hr;have Du:=I1.pin (D,_) (zaw _ zau);have W:=I1.base;rw[WJ,zC] at W;have JV:l.s₀=f:=by rw[<-eX];rfl
  have WK:l.H₀=H:=by rw[<-eX];rfl
  rw[JV,WK] at W;have nD:∀b o,s₂.heap.get? b=some o->b∉fp->b∉D::fp:=λb o e j hm=>by
   rcases zac.mp hm with z|z
   have:=Heap.lt_size e;rw[z,eD] at this;exact zaC _ this;exact j z
  have un:Un (bR X.stack) fp H H' s₂.heap s1.heap:=⟨λb o e nb j hx=>W.keep b o (k3 b o e) nb j (nD b o e hx),λb o e nb j hx=>W.slot b o (k3 b o e) nb j (nD b o e hx),λb o e nb hx=>W.free b o (k3 b o e) nb (nD b o e hx),
   λb o e hx=>W.there b o (k3 b o e) (nD b o e hx),W.bU,W.gQ,W.iB⟩
  have WL:s1.os=s₂.os:=by rw[I1.os,JV,JQ]
  have JW:=I1.aG;rw[xP,xw] at JW;have J1:Inv X pins σ H' s1:=I.Cy WL un JW I1.bare λb j=>⟨(f2 b j).2.2.2.1,(f2 b j).2.1,(f2 b j).2.2.2.2.1,(f2 b j).2.2.2.2.2⟩;have WM:∀x c,X.env.cells.lookup x=some c->c≠D:=λx c e=>by
   obtain⟨v,q⟩:=I.cell x c e;rw[<-eD];exact zan q.lt
  have WN:∀x c,X.env.cells.lookup x=some c->c≠C:=λx c e=>by
   obtain⟨v,q⟩:=I.cell x c e;rw[<-eC,rT];exact zan (zbR q.lt)
  have pD:∀p∈X.pn++pins,p.1≠D:=λp Q=>by rw[<-eD];exact zan (Heap.lt_size (I.pin p Q).1)
  have pC:∀p∈X.pn++pins,p.1≠C:=λp Q=>by
   rw[<-eC,rT];exact zan (zbR<|Heap.lt_size (I.pin p Q).1)
  have lD:D≠X.env.locals:=by rw[<-eD];exact zaD I.lt
  have lC:C≠X.env.locals:=by
   rw[<-eC,rT];exact zaD (zbR I.lt)
  have J2:Inv X pins σ (upd H' D<|.lst ys) s1:=Inv.zv J1 Du.2.1 (by rw[<-eD];exact I.sz) lD WM pD ⟨hz,R,Y,hv,Du.1⟩;obtain⟨mC,JX,_⟩:=I1.loc;rw[xL] at JX;have fC:H' C=none:=by have:=I1.free;rw[xL] at this;exact this
  exact WG D C _ s1 mC J2 JX (by rw[aF<|Ne.symm zB];exact fC) lC (by rw[<-eC,rT];exact Nat.le_succ_of_le I.sz) WN pC<|qn D Du.2.1;have ti:=T.item l xP xw xK xc i _ s' _ H' (λ_ _=>False) I' (rF JU) dP go;rw[xA] at ti;refine aM ti λr s4 ⟨u,hr,h4⟩=>?_;subst hr;refine aM h4 λ_ s5 ⟨x,L,I5,r5,y5,rG,CI⟩=>?_;have vR:=I5.pinned (rF CI) (T.obj _ _ rG);obtain⟨g,pg,gq⟩:=hg (D::fp) C f H j';rw[eX] at pg;have rd:=h' x L y5;have JY:=pg _ s5 _ L x u (λe' H6=>qX1 λ(xs:List V)=>qA4 (e'=xs.map some++cX σ fv) (xs.length=ln.length) (H6=L) (om tc (xs.map some++cX σ fv) L λb L=>
    if b=true then te (xs.map some++cX σ fv) L λy H6=>ys.length<sizeLine/\∃G,G<n/\a (i+1) G (ys++[y]) H6
    else ∃G,G<n/\a (i+1) G ys L)) vR r5 (gq x a' (cX σ fv) L _ oi (by
     cases tk with
     |none=>exact λhl=>⟨_,O,hl,O,rd⟩
     |some k=>exact Ww rd λxs rd hl=>⟨xs,O,hl,O,rd⟩))
  rw[xA,xP,xw,Dr,Ds] at JY;refine aM JY λ_ s6 ⟨e',H6,I6,xs,e6,jz,eH,JZ⟩=>?_;subst e6 eH;have J0:∀{Z:Hp}{d':St}{U:Shared},Inv l ([(D,{cls:=.type "list",data:=.seq (List.toArray R) Y})]++ub fp s5.heap) d' Z U->tn (i+1) U.heap/\(∀b∈fp,Z b=none)/\U.heap.get? D=some {cls:=.type "list",data:=.seq (List.toArray R) Y}/\Z D=none:=λ{Z d' U} B=>by
   refine⟨T.keep _ _ _ rG λb j o e=>(B.pin (b,o)<|zaw _<|zaw _<|y6 j e).1,λb j=>?_,?_,?_⟩;obtain⟨o,e,d⟩:=T.obj _ _ rG b j;exact(B.pin (b,o)<|zaw _<|zaw _<|y6 j e).2.1;exact(B.pin (D,_)<|zaw _<|zav _ zau).1;exact(B.pin (D,_)<|zaw _<|zav _ zau).2.1
  have c':wpAny (model X.prog X.w) X.A (forIn ifs true λc r=>if r=true then do let ok <-isTrue c (compEnvC scope (eT X.env.cells scope.names []) C X.env) (eval c<|compEnvC scope (eT X.env.cells scope.names []) C X.env);pure (ForInStep.yield ok) else pure (ForInStep.yield r))
    (λok U=>∃Z,Inv l ([(D,{cls:=.type "list",data:=.seq (List.toArray R) Y})]++ub fp s5.heap) (xs.map some++cX σ fv) Z U/\
     if ok=true then te (xs.map some++cX σ fv) Z λy H6=>ys.length<sizeLine/\∃G,G<n/\a (i+1) G (ys++[y]) H6
     else ∃G,G<n/\a (i+1) G ys Z) (λ_ _=>False) s6:=by
   cases tc with
   |none=>
    have uk:ifs=[]:=ht;subst uk;exact wpAny_tests_nil ⟨_,I6,JZ⟩
   |some t=>
    obtain⟨c,uk,pt⟩:=(show ∃c,ifs=[c]/\∀(ex:List Addr)(C:Addr)(s:Shared)(H:Hp),PT (iI X scope (ln++fv.map (·.1)) ex C s H) c t from ht);subst uk;have J3:=pt (D::fp) C f H;rw[eX] at J3;have q:=J3 _ s6 _ _ _ I6 JZ;rw[xA,xP,xw,Dr,Ds] at q;exact wpAny_tests_one<|aM q λb U ⟨Z,B,q7⟩=>⟨Z,B,q7⟩
  refine aM c' λok U ⟨Z,B,q7⟩=>?_;cases ok with
  |false=>
   simp only[zaO,if_false] at q7⊢;obtain⟨G,hm,w7⟩:=q7;obtain⟨t7,f7,d7,n7⟩:=J0 B;refine⟨G,hm,i+1,xs.map some,ys,R,Y,Z,B.t4<|λp Q=>?_,by simpa using jz,t7,f7,hv,hz,w7⟩;exact B.pin p<|zaw _<|zav _ Q
  |true=>
   simp only[if_true] at q7⊢;have q:=he (D::fp) C f H;rw[eX] at q;have q:=q _ U _ Z _ B q7;rw[xA,xP,xw,Dr,Ds] at q;refine aM q λM s8 ⟨y,H8,I8,r8,aO,G,hm,w8⟩=>?_;obtain⟨t8,f8,d8,n8⟩:=qa4 (J0 I8);have hl:=hv.length;refine call_meets F.slot_list_append ⟨_,d8,O⟩ F.entry_list_append (F.args_list_append_2 _ _) (PySem.list_append D R.toArray Y M (by rw[zai];lia)) ⟨d8,?_⟩;have I9:=λt=>
    (I8.t4 (pins':=[])<|λp Q=>absurd Q (by simp)).turned (it:=D) (t':=t) (λb o j e=>(Heap.get?_update_other s8.heap (Obj.mapSeq (·.push M))<|Ne.symm j).trans e) n8 (by rw[xL];exact zB) (.inl (by rw[zC];exact zau)) cD
     (λp Q=>by rw[JS] at Q;exact absurd Q (by simp))
   have g9:=PySem.IsL.update d8 (·.push M);obtain⟨n9,WO⟩:∃n9,(s8.heap.update D (Obj.mapSeq (·.push M))).get? D=some {cls:=.type "list",data:=.seq (R++[M]).toArray n9}:=
    ⟨_,by rw[show(R++[M]).toArray=R.toArray.push M by simp];exact g9⟩
   refine⟨G,hm,i+1,xs.map some,ys++[y],R++[M],n9,H8,(I9 _).t4<|λp Q=>?_,by simpa using jz,?_,f8,hv.append<|.cons r8 .nil,?_,w8⟩;have Dt:=zab.mp Q;subst Dt;exact⟨WO,n8,by rw[xL];exact zB,sF D zau,λv z=>by cases z⟩;exact T.keep _ _ _ t8 λb j o e=>(Heap.get?_update_other s8.heap (Obj.mapSeq (·.push M))<|Ne.symm<|JR b j).trans e;rw[zqA,zaK];exact zb0 aO
 have WQ:tn 0 N:=T.keep 0 _ _ st λb _ o e=>k4 b o (k3 b o e);have e4:({s₂ with heap:=N,toks:=s₂.toks+([]:List (Str×Value)).length}:Shared)={f with heap:=N,toks:=f.toks+([]:List (Str×Value)).length}:=by rw[<-ou]
 exact codeAny_compStart_list (b' _ e4)<|T.self X.A 0 _ _ _ WQ<|b' _ e4
end
section
variable{X:Cx}{scope:Scope}{ln:List Str}{fv:List (Str×Nat)}{elt tg iter:Expr}{ifs:List Expr}{pos:Pos}{wi:TI}{tk:Option Nat}{tc:Option TT}{te:TE}
theorem WR{g:Hp->Prop}(S:lq X scope ln fv)(G:∀H,g H->∀d:Cx,d.A=X.A->d.calm=X.calm->d.H₀=H->j d)(c:∀p f H s,Inv X p f H s->g H)(w:zw j X tg iter wi)(y:zx g X scope ln fv tg tk)(ht:wa X scope (ln++fv.map (·.1)) ifs tc)(E:∀(J:List Addr)(C:Addr)(s:Shared)(H:Hp),PE (iI X scope (ln++fv.map (·.1)) J C s H) elt te)(r:∀x,foldedSetIterable iter X.env x=pure x:=by intro _;rfl):
  PE X (.ListComp elt [⟨tg,iter,ifs,0⟩] scope pos) (pX X.K wi tk fv tc te):=by
 intro p s f H Q I h;refine wpAny_comprehension_free O r (S.JL I) S.kind S.locals<|aM (w p s f H _ I h) λv s1 Z=>aM Z λrE Y V=>?_;obtain⟨it,fp,W,a,M,zq⟩:=qx5 V;obtain⟨e,i,T,k,F,P⟩:=qa6 zq;subst e;refine JO S (G M<|c _ _ _ _ i) (c _ _ _ _ i) y ht E i T k F P ?_;intro D C U s' m L n u R B z t q;exact⟨m,n,λh' l=>⟨.ref D,U,L.turned (λb o N e=>l.extBut b o N e) u R (.inr B) z t,O,q⟩⟩
theorem J4{j:Hp->Prop}{i:Nat}{y:Str}{n w:Pos}(hN:X.N.Nodup)(d9:X.N[i]?=some y)(P:Loc X.env.scope y)(Dv:swapsWith (.ListComp elt [⟨tg,iter,ifs,0⟩] scope pos) (some<|.Name y n) w.line X.env=pure true)(S:lq X scope ln fv)(U:∀H,j H->∀g:Cx,g.A=X.A->g.calm=X.calm->g.H₀=H->t g)(d:∀p f H s,Inv X p f H s->j H)(F:zw t X tg iter wi)(J:zx j X scope ln fv tg tk)(ht:wa X scope (ln++fv.map (·.1)) ifs tc)(M:∀(ex:List Addr)(C:Addr)(s:Shared)(H:Hp),PE (iI X scope (ln++fv.map (·.1)) ex C s H) elt te)(R:∀x,foldedSetIterable iter X.env x=pure x:=by intro _;rfl)(L:X.fn y=true\/X.env.scope.names.lookup y=some .local:=by first|exact .inl O|exact .inr O|assumption):
  PS X (.Assign [.Name y n] (.ListComp elt [⟨tg,iter,ifs,0⟩] scope pos) w) (k_ (pX X.K wi tk fv tc te)<|e9 i):=by
 intro p s f H D I h;rw[exec_Assign_Name_used _ _ _ _ Dv];refine wpAny_bind<|wpAny_standAt<|wpAny_bind ?_;refine wpAny_bind (wpAny_mono (wpAny_comprehension_free O R (S.JL I) S.kind S.locals
  (aM (F p s f H _ I h) λv s1 h1=>aM h1 λrE s2 h2=>?_)) (λ_ E V=>wpAny_pure (wpAny_pure V)) λ_ _ e=>e)
 obtain⟨it,fp,tn,c,H2,zq⟩:=qx5 h2;obtain⟨e,k,T,Q,f2,hW⟩:=qa6 zq;subst e;refine JO (Qv:=λx H1=>e9 i x f H1 D.nx) S (U H2<|d _ _ _ _ k) (d _ _ _ _ k) J ht M k T Q f2 hW ?_;intro Da C H' E m I' G B r h0 l Z q;refine wpAny_assign_Name<|HX I' hN d9 P (v:=.ref Da) O (λs4 I4 ⟨a,u,Y⟩=>?_) L;have WS:C≠a:=by
  rcases Y with z|z
  rw[z];exact r;exact Ne.symm (l _ _ z)
 exact⟨m,G.sameBut u WS,λh' WT=>⟨_,H',I4.turned (λb o W e=>WT.extBut b o W e) B r (.inr h0) l Z,q⟩⟩
theorem WU(S:lq X scope ln fv)(c:X.calm=true)(i:PI X tg iter wi)(g:v_ X scope ln fv tg tk)(ht:wa X scope (ln++fv.map (·.1)) ifs tc)(b:∀(a:List Addr)(C:Addr)(s:Shared)(H:Hp),PE (iI X scope (ln++fv.map (·.1)) a C s H) elt te)(h:∀x,foldedSetIterable iter X.env x=pure x:=by intro _;rfl):
  PE X (.ListComp elt [⟨tg,iter,ifs,0⟩] scope pos) (pX X.K wi tk fv tc te):=
 WR S (λ_ _ d _ e _=>e.trans c) (λ_ _ _ _ _=>trivial) i.p (λa C s H _=>g a C s H) ht b h
theorem WV{b w:Pos}(l:X.N.Nodup)(m:X.N[i]?=some y)(h:Loc X.env.scope y)(D:swapsWith (.ListComp elt [⟨tg,iter,ifs,0⟩] scope pos) (some<|.Name y b) w.line X.env=pure true)(S:lq X scope ln fv)(k:X.calm=true)(d:PI X tg iter wi)(g:v_ X scope ln fv tg tk)(ht:wa X scope (ln++fv.map (·.1)) ifs tc)(j:∀(a:List Addr)(C:Addr)(s:Shared)(H:Hp),PE (iI X scope (ln++fv.map (·.1)) a C s H) elt te)(c:∀x,foldedSetIterable iter X.env x=pure x:=by intro _;rfl)(f:X.fn y=true\/X.env.scope.names.lookup y=some .local:=by first|exact .inl O|exact .inr O|assumption):
  PS X (.Assign [.Name y b] (.ListComp elt [⟨tg,iter,ifs,0⟩] scope pos) w) (k_ (pX X.K wi tk fv tc te)<|e9 i):=
 J4 l m h D S (λ_ _ n _ e _=>e.trans k) (λ_ _ _ _ _=>trivial) d.p (λa C s H _=>g a C s H) ht j c f
end
section
variable{X:Cx}{scope:Scope}{fv:List (Str×Nat)}
theorem WW(l:scope.names.lookup x=some .local)(r:(x::fv.map (·.1)).Nodup):v_ X scope [x] fv (.Name x b) none:=by
 intro e C s H;have d:Loc (iI X scope ([x]++fv.map (·.1)) e C s H).env.scope x:=.inl (lookup_relabel_local l);refine⟨e9 0,t_ r O d<|.inr<|lookup_relabel_local l,λv p f g Q c h=>?_⟩;obtain⟨a,rfl⟩:∃a,p=[a]:=by
  rcases p with _|⟨a,_|_⟩<;>cases c;exact⟨a,O⟩
 exact h O
theorem WY{k:Nat}(A:X.calm=true)(w:scope.names.lookup x=some .local)(u:scope.names.lookup y=some .local)(V:(x::y::fv.map (·.1)).Nodup):v_ X scope [x,y] fv (.Tuple [.Name x l,.Name y j] k f) (some 2):=by
 intro D C s H;generalize eX:iI X scope ([x,y]++fv.map (·.1)) D C s H=c;have i:c.N=x::y::fv.map (·.1):=eX▸O;have o:c.calm=true:=eX▸A;have n:c.env.scope.names.lookup x=some .local:=eX▸lookup_relabel_local w;have m:c.env.scope.names.lookup y=some .local:=eX▸lookup_relabel_local u;have t:PG c (.Name x l) (e9 0):=t_ (by lia) (i▸O) (.inl n) (.inr n);have r:PG c (.Name y j) (e9 1):=t_ (by lia) (i▸O) (.inl m) (.inr m);have P:c.K=X.K:=eX▸O;refine⟨yZ c.K 2<|ua (e9 0)<|ua (e9 1) yY,Ir o<|vO t<|vO r CD,λv p I S Q z h=>?_⟩;obtain⟨a,b,rfl⟩:∃a b,p=[a,b]:=by
  rcases p with _|⟨a,_|⟨b,_|_⟩⟩<;>cases z;exact⟨a,b,O⟩
 obtain⟨G,g,rfl,R,E,q⟩:=h;obtain⟨e,d,rfl⟩:∃e d,g=[e,d]:=by
  rcases g with _|⟨a,_|⟨b,_|_⟩⟩<;>cases E;exact⟨a,b,O⟩
 exact⟨G,_,O,by lia,O,e,_,O,d,_,O,O,q O⟩
theorem bG.imp(h:bG X f r)(i:∀x y H Q,r' x y H Q->r x y H Q):bG X f r':=λp s a H x y v u Q I c b q=>h p s a H x y v u Q I c b (i _ _ _ _ q)
theorem eJ.imp(h:eJ X f r)(i:∀xs H Q,r' xs H Q->r xs H Q):eJ X f r':=λp s a H xs u Q I v q=>h p s a H xs u Q I v (i _ _ _ q)
def J5(K:Frag):R2:=λx y H Q=>match x,y with
 |.int i,.int j=>Q (.int<|i+j) H
 |.str i,.str j=>i.length+j.length<=sizeLine/\Q (.str<|i++j) H
 |.ref l,.ref b=>Jt (.ref l) (.ref b) H Q\/Jk K (.ref l) (.ref b) H Q
 |_,_=>False
theorem WZ:bG X (binaryOp .Add) (J5 X.K):=by
 refine bG.imp ((Uk.or UK).or<|VR.or Vn) λx y H Q h=>?_;cases x<;>cases y<;>first
  |exact False.elim h
  |exact .inl (.inl ⟨_,_,O,O,h⟩)
  |exact .inl (.inr ⟨_,_,O,O,h⟩)
  |exact .inr h
def mO(C:Int->Int->Prop)(g:Int->Int->V):R2:=λx y H Q=>match x,y with
 |.int i,.int j=>C i j/\Q (g i j) H
 |_,_=>False
theorem Dw(x y:V)(H:Hp)(Q:VK)(h:mO C g x y H Q):rI C g x y H Q:=by
 cases x<;>cases y<;>first
  |exact False.elim h
  |exact⟨_,_,O,O,h⟩
theorem wd(x y:V)(H:Hp)(Q:VK)(h:mO (λ_ _=>True) g x y H Q):nW g x y H Q:=by
 cases x<;>cases y<;>first
  |exact False.elim h
  |exact⟨_,_,O,O,h.2⟩
def J6:R2:=λx y H Q=>match x,y with
 |.int i,.int j=>uc i j/\Q (.int<|i*j) H
 |.ref l,.int k=>Ju (.ref l) (.int k) H Q
 |_,_=>False
theorem W0:bG X (binaryOp .Mult) J6:=by
 refine bG.imp (Um.or VS) λx y H Q h=>?_;cases x<;>cases y<;>first
  |exact False.elim h
  |exact .inl ⟨_,_,O,O,h⟩
  |exact .inr h
def rW(K:Frag):Operator->R2
 |.Add=>J5 K
 |.Sub=>mO (λ_ _=>True) λi j=>.int (i - j)
 |.Mult=>J6
 |.FloorDiv=>mO IF λi j=>.int (i / j)
 |.Mod=>mO (λ_ j=>0<j) λi j=>.int (i % j)
 |.Pow=>mO IG λi j=>.int (i ^ j.toNat)
 |_=>λ_ _ _ _=>False
theorem W_(o:Operator):bG X (binaryOp o) (rW X.K o):=by
 cases o<;>first
  |exact WZ
  |exact bG.imp Ul wd
  |exact W0
  |exact bG.imp Uo Dw
  |exact bG.imp Up Dw
  |exact bG.imp Uq Dw
  |exact λ_ _ _ _ _ _ _ _ _ _ _ _ h=>False.elim h
mutual
def Is(H:Hp):PyData->V->Prop
 |.none,v=>v=.aD
 |.bool b,v=>v=.bl b
 |.int i,v=>v=.int i
 |.str x,v=>v=.str x
 |.list xs,v=>∃a vs,v=.ref a/\H a=some (.lst vs)/\IsL H xs vs
 |.tuple xs,v=>∃a vs,v=.ref a/\H a=some (.tup vs)/\IsL H xs vs
 |.dict _,_=>False
def IsL(H:Hp):List PyData->List V->Prop
 |[],vs=>vs=[]
 |d::ds,vs=>∃v r,vs=v::r/\Is H d v/\IsL H ds r
end
mutual
theorem Is.reads{pins:List (Addr×Obj)}{σ:St}{H:Hp}{s:Shared}(I:Inv X pins σ H s):∀(d:PyData) (v:V) (u:Value),Is H d v->RelV v u->∃as,Reads s.heap u d as
 |.none,v,u,h,r=>by rw[show v=.aD from h] at r;rw[show u=.none from r];exact⟨_,.none⟩
 |.bool b,v,u,h,r=>by rw[show v=.bl b from h] at r;rw[show u=.bool b from r];exact⟨_,.bool b⟩
 |.int i,v,u,h,r=>by rw[show v=.int i from h] at r;obtain⟨t,e⟩:=r;rw[e];exact⟨_,.int i t⟩
 |.str x,v,u,h,r=>by rw[show v=.str x from h] at r;obtain⟨t,e⟩:=r;rw[e];exact⟨_,.str x t⟩
 |.list xs,v,u,h,r=>by
  obtain⟨a,vs,e,hH,hl⟩:=(show ∃a vs,v=.ref a/\H a=some (.lst vs)/\IsL H xs vs by simpa only[Is] using h)
  rw[e] at r;rw[show u=.ref a from r]
  obtain⟨_,ao,n,hv,hg⟩:=I.aG a _ hH;obtain⟨as,q⟩:=IsL.reads I xs vs ao hl hv;exact⟨_,.list hg rfl rfl (by simpa using q)⟩
 |.tuple xs,v,u,h,r=>by
  obtain⟨a,vs,e,hH,hl⟩:=(show ∃a vs,v=.ref a/\H a=some (.tup vs)/\IsL H xs vs by simpa only[Is] using h)
  rw[e] at r;rw[show u=.ref a from r]
  obtain⟨_,ao,hv,o,hg,hc,n,hd⟩:=I.aG a _ hH;obtain⟨as,q⟩:=IsL.reads I xs vs ao hl hv;exact⟨_,.tuple hg hc hd (by simpa using q)⟩
 |.dict _,v,u,h,r=>by simp only[Is] at h
theorem IsL.reads{pins:List (Addr×Obj)}{σ:St}{H:Hp}{s:Shared}(I:Inv X pins σ H s):∀(ds:List PyData) (vs:List V) (us:List Value),IsL H ds vs->Vals vs us->∃as,ReadsAll s.heap us ds as
 |[],vs,us,h,r=>by
  rw[show vs=[] from h] at r
  cases r;exact⟨_,.nil⟩
 |d::ds,vs,us,h,r=>by
  obtain⟨v,q,e,h1,h2⟩:=(show ∃v r,vs=v::r/\Is H d v/\IsL H ds r by simpa only[IsL] using h)
  rw[e] at r;cases r with
  |cons r1 r2=>
   obtain⟨as,q1⟩:=Is.reads I d v _ h1 r1;obtain⟨bs,q2⟩:=IsL.reads I ds q _ h2 r2;exact⟨_,.cons q1 q2⟩
end
def Xa:V->Bool
 |.pN _=>false
 |.hX _=>false
 |_=>true
def Xb:R2:=λx y H Q=>∃a b xs,x=.ref a/\y=.ref b/\H a=some (.lst xs)/\H b=some (.lst xs)/\xs.all Xa=true/\Q (.bl true) H
def oy(n:Bool):R2:=λx y H Q=>match mJ x y with
 |true=>Q (.bl<|n ^^ decide (x=y)) H
 |false=>∃d e,Is H d x/\Is H e y/\SeqAt.shaped d=true/\SeqAt.shaped e=true/\Q (.bl<|n ^^ PyData.eqv d e) H
def Xd:R2:=λx y H Q=>oy false x y H Q\/Xb x y H Q
theorem Xe(i:X.A.units+64<cLine):bG X (compareOp .Eq) (oy false):=by
 intro p s c H x y v u Q I a r h;unfold oy at h;by_cases b:mJ x y=true;rw[b] at h;simp at h;exact Uv p s c H x y v u Q I a r ⟨b,h⟩;rw[show mJ x y=false by lia] at h;obtain⟨d,e,m,l,k,j,q⟩:=h;rw[zaI] at q;obtain⟨o,g⟩:=Is.reads I d x v m a;obtain⟨n,f⟩:=Is.reads I e y u l r;exact eq_dataH g f k j i ⟨.bl _,H,I,O,q⟩
theorem Xf(i:X.A.units+64<cLine):bG X (compareOp .NotEq) (oy true):=by
 intro p s c H x y v u Q I a r h;unfold oy at h;by_cases b:mJ x y=true;rw[b] at h;simp at h;exact Uw p s c H x y v u Q I a r ⟨b,h⟩;rw[show mJ x y=false by lia] at h;obtain⟨d,e,m,l,k,j,q⟩:=h;rw[zaP] at q;obtain⟨o,g⟩:=Is.reads I d x v m a;obtain⟨n,f⟩:=Is.reads I e y u l r;exact ne_dataH g f k j i ⟨.bl _,H,I,O,q⟩
def akG(K:Frag)(H:Hp)(a:Addr):Prop:=(∃xs,au K H a xs)\/(∃xs,aJ K H a xs)\/∃k,H a=some (.dK k)
def zE(K:Frag)(n:Bool):R2:=λx y H Q=>match y with
 |.str j=>∃i,x=.str i/\Q (.bl (if n then !(!(Builtin.Str.occurrences j i 0 j.length 1).isEmpty) else !(Builtin.Str.occurrences j i 0 j.length 1).isEmpty)) H
 |.ref p=>match x with
  |.ref _=>False
  |x=>C7 K n x (.ref p) H Q
 |_=>False
theorem Xg(f:X.A.units+64<cLine):bG X (compareOp .In) (zE X.K false):=by
 intro b s c H x y v u Q I d r h;cases y with
 |str j=>
  obtain⟨i,e,q⟩:=h;exact UB b s c H x _ v u Q I d r ⟨i,j,e,O,q⟩
 |ref p=>
  cases x with
  |ref a=>exact False.elim h
  |_=>exact Vy b s c H _ _ v u Q I d r h
 |_=>exact False.elim h
theorem Xh(f:X.A.units+64<cLine):bG X (compareOp .NotIn) (zE X.K true):=by
 intro b s c H x y v u Q I d r h;cases y with
 |str j=>
  obtain⟨i,e,q⟩:=h;exact UE b s c H x _ v u Q I d r ⟨i,j,e,O,q⟩
 |ref p=>
  cases x with
  |ref a=>exact False.elim h
  |_=>exact Vz b s c H _ _ v u Q I d r h
 |_=>exact False.elim h
theorem Xi{s:Shared}{Q:Value->Shared->Prop}{v:Value}{d:Bool}(a:∀i,v≠ .builtin i)(h:Q (.bool<|v==.bool d) s):wpAny M A (compareOp .Is v<|.bool d) Q E s:=by
 cases v<;>first|exact wpAny_pure h|exact absurd O (a _)
theorem Xj{s:Shared}{Q:Value->Shared->Prop}{v:Value}{d:Bool}(a:∀i,v≠ .builtin i)(h:Q (.bool<|!(v==.bool d)) s):wpAny M A (compareOp .IsNot v<|.bool d) Q E s:=by
 cases v<;>first|exact wpAny_pure h|exact absurd O (a _)
def J7:R2:=λx y H Q=>match y with
 |.bl b=>Q (.bl<|decide<|x=.bl b) H
 |_=>y=.aD/\Q (.bl<|decide<|x=.aD) H
def J8:R2:=λx y H Q=>match y with
 |.bl b=>Q (.bl<|!decide (x=.bl b)) H
 |_=>y=.aD/\Q (.bl<|!decide (x=.aD)) H
theorem Xk:bG X (compareOp .Is) J7:=by
 intro p s d H x y v u Q I r c h;cases y with
 |bl b=>
  cases c;have n:∀i,v≠ .builtin i:=λi z=>by
   subst z;cases x<;>first
    | (obtain⟨t,e⟩:=r;cases e)
    | (cases r)
  refine Xi n<|cM I (show Q (.bl<|decide<|x=.bl b) H from h) ?_;cases x<;>first
   | (cases r;rfl)
   | (obtain⟨t,rfl⟩:=r;rfl)
   | (cases r;rename_i a;cases a<;>cases b<;>rfl)
 |_=>exact UC p s d H x _ v u Q I r c h
theorem Xl:bG X (compareOp .IsNot) J8:=by
 intro p s d H x y v u Q I r c h;cases y with
 |bl b=>
  cases c;have n:∀i,v≠ .builtin i:=λi z=>by
   subst z;cases x<;>first
    | (obtain⟨t,e⟩:=r;cases e)
    | (cases r)
  refine Xj n<|cM I (show Q (.bl<|!decide (x=.bl b)) H from h) ?_;cases x<;>first
   | (cases r;rfl)
   | (obtain⟨t,rfl⟩:=r;rfl)
   | (cases r;rename_i a;cases a<;>cases b<;>rfl)
 |_=>exact UD p s d H x _ v u Q I r c h
def dR(K:Frag):CmpOp->R2
 |.Eq=>oy false
 |.NotEq=>oy true
 |.Lt=>mO (λ_ _=>True) λi j=>.bl (decide<|i<j)
 |.LtE=>mO (λ_ _=>True) λi j=>.bl (decide<|i<=j)
 |.Gt=>mO (λ_ _=>True) λi j=>.bl (decide<|j<i)
 |.GtE=>mO (λ_ _=>True) λi j=>.bl (decide<|j<=i)
 |.In=>zE K false
 |.NotIn=>zE K true
 |.Is=>J7
 |.IsNot=>J8
theorem zF(h:X.A.units+64<cLine)(o:CmpOp):bG X (compareOp o) (dR X.K o):=by
 cases o with
 |Eq=>exact Xe h
 |NotEq=>exact Xf h
 |Lt=>exact bG.imp Ux wd
 |LtE=>exact bG.imp Uy wd
 |Gt=>exact bG.imp Uz wd
 |GtE=>exact bG.imp UA wd
 |In=>exact Xg h
 |NotIn=>exact Xh h
 |Is=>exact Xk
 |IsNot=>exact Xl
inductive Ty where|int|str|bool|list|tuple|dict
 deriving DecidableEq
def Ty.nm:Ty->String
 |.int=> "int" |.str=> "str" |.bool=> "bool" |.list=> "list" |.tuple=> "tuple" |.dict=> "dict"
def cp(T:Ty)(x:V)(H:Hp)(Q:Bool->Prop):Prop:=match x with
 |.aD=>Q false
 |.bl _=>Q (T==.bool ||T==.int)
 |.int _=>Q (T==.int)
 |.str _=>Q (T==.str)
 |.ref a=>match H a with
  |some (.lst _)=>Q (T==.list)
  |some (.bY _<|.lst _)=>Q (T==.list)
  |some (.tup _)=>Q (T==.tuple)
  |some (.dK _)=>Q (T==.dict)
  |some (.dT _)=>Q (T==.dict)
  |_=>False
 |_=>False
theorem pZ(K:Frag)(S T:Ty):kitOne K (.type S.nm) (.type T.nm)=some (S==T ||(S==.bool && T==.int)):=by
 cases S<;>cases T<;>rfl
theorem Xm(K:Frag)(T:Ty):kitOne K (.type "NoneType") (.type T.nm)=some false:=by
 cases T<;>rfl
theorem Xn(d:X.calm=true):eJ X (.builtin "sum") (λxs H Q=>∃(p:Addr)(n:List Int),xs=[.ref p]/\au X.K H p (n.map V.int)/\Q (.int n.sum) H):=by
 intro a s g H xs j Q I r h;obtain⟨p,n,rfl,c,q⟩:=h;obtain⟨u,rfl,b⟩:=vals1 r;cases b;obtain⟨o,v,l,z⟩:=I.list c;have i:=intsAre_of v;obtain⟨xs,x⟩:=i.allInts.items;refine sum_intListG (I.ok.hd d) (x ▸ l.isList) λw m t k=>?_;have f:n=xs.toList.map (·.1):=by
  rw[<-nums_intItems,<-x];exact(show numsOf o.toArray.toList=n from i.numsOf).symm
 have e:preSum (numAt xs) xs.size=n.sum:=by
  rw[preSum_eq,zaH (by simp),f]
 rw[e];exact⟨.int n.sum,H,I.kept k,⟨t,O⟩,q⟩
theorem J9:∀{s:List Str}{u:List Value},Vals (s.map V.str) u->∃l:List (Str×Tok),u=strValues l/\l.map (·.1)=s
 |[],_,.nil=>⟨[],O,O⟩
 |x::s,_,.cons ⟨t,e⟩ r=>by
  obtain⟨l,b,a⟩:=J9 r;subst e b;exact⟨(x,t)::l,O,by simp[a]⟩
def rJoin(K:Frag):V->List V->Hp->VK->Prop:=λx vs H Q=>∃(s:Str)(p:Addr)(t:List Str),x=.str s/\vs=[.ref p]/\au K H p (t.map V.str)/\JoinOk s t=true/\Q (.str<|Txt.join s t) H
theorem Xo:uh X "str.join" (rJoin X.K):=by
 intro a s m H x n v o Q I d r h;obtain⟨c,p,w,rfl,rfl,g,j,q⟩:=h;obtain⟨t,rfl⟩:=d;obtain⟨u,rfl,e⟩:=vals1 r;cases e;obtain⟨y,r,f,z⟩:=I.list g;obtain⟨l,rfl,i⟩:=J9 r;exact SC.join f.isList i j λb k=>⟨.str _,H,I.tok k,⟨b,O⟩,q⟩
def Xp:V->List V->Hp->VK->Prop:=λx vs H Q=>∃z y,x=.str z/\vs=[.str y]/\z.length<=sizeLine/\Q (.str<|Txt.lstripChars z y) H
theorem Xq:uh X "str.lstrip" Xp:=by
 intro p s e H x f v g Q I r c h;obtain⟨z,y,rfl,rfl,d,q⟩:=h;obtain⟨t,rfl⟩:=r;obtain⟨u,rfl,⟨a,rfl⟩⟩:=vals1 c;exact call_gives F.slot_str_lstrip (typeIs_str _ _ _) F.entry_str_lstrip (F.args_str_lstrip_2 _ _) (gives_str_lstrip_chars z y t a)<|post_val_or_made (λ_=>fits_stripped _ _ _ d) λb k=>⟨.str _,H,I.tok k,⟨b,O⟩,q⟩
noncomputable def oz{a:Type}(xs:List a)(lo h:Option Int):List a:=(xs.drop<|HT.bq xs.length 0 lo).take (HT.bq xs.length xs.length h - HT.bq xs.length 0 lo)
def oA(z:Str)(lo h:Option Int):Str:=⟨(oz z.cps.toList lo h).toArray⟩
theorem Xr(z:Str)(lo h:Option Int):((Builtin.Str.strSliceIndices lo h 1 z.length).filterMap (z.cps[·]?))=oz z.cps.toList lo h:=by
 obtain⟨d,c,b⟩:=C5 lo h z.length;have e:Builtin.Str.strSliceIndices lo h 1 z.length=sliceRange (sliceBounds lo h none z.length).1 (sliceBounds lo h none z.length).2.1 (sliceBounds lo h none z.length).2.2:=O;have a:z.cps.toList.length=z.length:=O;rw[e,d,c,b,sliceRange_one,pick_run];unfold oz;rw[a]
def zG(K:Frag)(n:Bool):R2:=λx y H Q=>∃p xs d s,y=.ref p/\au K H p xs/\Is H d x/\IsL H s xs/\SeqAt.shaped d=true/\d.depth<=60/\(∀e∈s,SeqAt.shaped e=true)/\Q (.bl<|n ^^ s.any λe=>PyData.eqv e d) H
open Classical in
end
def oB:HO:=.ext λ_=>True
structure zH(ob:Obj)(cls:Value)(vs:Array Value):Prop where
 cls:ob.cls=cls
 data:ob.data=.fields vs
 Xs:vs[2]?=some .none
 dict:ob.dict=none
def ExcAt(H:Hp)(e D:Addr):Prop:= ∃o vs,H e=some (.bY o oB)/\zH o (.ref D) vs
structure um(K:Frag)(D:Addr):Prop where
 we:PySem.W.findIn K (.ref D) "__getattribute__"=some (some<|.builtin "BaseException.__getattribute__")
 wg:PySem.W.findIn K (.ref D) "__getattr__"=some none
 hk:(PySem.W.clsIn K D).isSome=true
 ha:PySem.W.findIn K (.ref D) "__class__"=some (some<|.builtin "object.__class__")
 hn:PySem.W.specialIn K (.builtin "object.__class__") "__get__"=some (some<|.builtin "getset_descriptor.__get__")
 pP:PySem.W.takesIn K (.builtin "object.__class__")=some true
 hm:PySem.W.mroIn K D (.type "object")=some true
 hb:PySem.W.mroIn K D (.type "BaseException")=some true
def cV:V->Value
 |.ref a=>.ref a
 |.ty n=>.type n
 |_=>.none
def mP(K:Frag):List V->Hp->VK->Prop
 |[.ref e,c],H,Q=>∃D b,ExcAt H e D/\um K D/\((∃C,c=.ref C)\/∃n,c=.ty n)/\kitOne K (.ref D) (cV c)=some b/\Q (.bl b) H
 |_,_,_=>False
def J_(sp:Sp)(h:Option Addr)(t:TA):TE:=λb H Q=>t b H λvs a=>(∃e D,h=some e/\ExcAt a e D)/\sp vs a Q E0
def Dx(C:Addr)(E:XK)(t:TA):TS:=λ_ a H=>t a H λvs b=>vs.length<=sizeLine/\E (.ref C) none b
def zI(K:Frag)(C:Addr)(i n:Nat)(t:Addr->TS)(D:Ends):XK:=λc _ H'=>exmOne K c (.ref C)=some true/\
 ∀(e:Addr)(o:Obj)(vs:Array Value)(a:St),H' e=none->a.length=n->zH o c vs->t e {nx:=λ_ _=>False,rt:=D.rt} (a.set i<|some<|.ref e) (upd H' e<|.bY o oB)
def zJ(K:Frag)(C:Addr)(i n:Nat)(b:XK->TS)(t:Addr->TS):TS:=λD a H=>b (zI K C i n t D) {nx:=D.nx,rt:=D.rt} a H
def Xt(K:Frag)(C:Addr)(i:Nat)(t:Addr->TS)(D:Ends)(a:St):XK:=λc _ H'=>exmOne K c (.ref C)=some true/\
 ∀(e:Addr)(o:Obj)(vs:Array Value),H' e=none->zH o c vs->t e {nx:=λ_ _=>False,rt:=D.rt} (a.set i<|some<|.ref e) (upd H' e<|.bY o oB)
def Xu(K:Frag)(C:Addr)(i k:Nat)(sp:Sp)(b:TA)(t:Addr->TS):TS:=λD a H=>b a H λvs d=>sp vs d (λv c=>D.nx (a.set k<|some v) c) (Xt K C i t D a)
inductive oC where|len|min|max|sum|int|list|tuple|abs
 deriving DecidableEq
inductive jb where|append|pop|extend|join|lstrip|starts|reverse|clear|index|find|count|Ka|Dy
 deriving DecidableEq
inductive IK where|list|tup|gc|Xv|zip|Xw|txt|Xx|Xy
 deriving DecidableEq
inductive RE where
 |v (i:Nat)|c (x:V)|g (j:Nat)
 |bin (p:Operator)(a b:RE)|neg (a:RE)
 |cmp (p:CmpOp)(a b:RE)|wj (p z:CmpOp) (a b d:RE)|Kb (p z Kc:CmpOp) (a b d f:RE)
 |and (s:List RE)|or (s:List RE)|not (a:RE)|lB (t a b:RE)
 |call (j:Nat)(s:List RE)|blt (b:oC) (s:List RE)|iJ (T:Ty) (a:RE)
 |bE (m:jb)(o:RE)(s:List RE)
 |ix (a b:RE)|sl (a:RE) (lo U:Option RE)
 |tup (s:List RE)|lst (s:List RE)
 |comp (S:Option Nat)(W:List (Str×Nat))(k:IK)(ao:List RE)(l:Option RE)(C:RE)
 |dS (a c:RE)|wk (j:Nat) (a:RE)|Xz|same (a b:RE)
 |XA|bI (a b:RE)|uo (a b:RE)|Kd (a b:RE)|XB (o a b:RE)|inD (a b:RE)|Ke (a b:RE)
 |xt (T:Frag->TA->TE)(s:List RE)|xm (T:Frag->TE->TA->TE) (o:RE) (s:List RE)
 |fld (o:RE)(f:Str)|aU (j:Nat) (m:Str) (o:RE) (s:List RE)|make (j:Nat) (s:List RE)
structure ba where
 K:Frag
 fs:Nat->Sp
 gv:Nat->V
 E:XK
 sd:Addr->List (Key×V)->Prop
 ms:Nat->Addr×Sp
 kt:Nat->Addr×Sp
 ex:Nat->Addr
 hs:Nat->Sp
 hv:Option Addr
abbrev ba.calm(a:ba):ba:={a with E:=E0}
inductive RS where
 |asg (i:Nat)(e:RE)|rX (i:Nat) (e:RE)|set (o z e:RE)
 |drop (e:RE)|ret (e:RE)|XC
 |ite (c:RE)(t e:List RS)
 |ko (i:Nat)(k:IK)(x:List RE)(b:List RS)
 |lE (q:List Nat)(k:IK)(x:List RE)(b:List RS)
 |mQ (c:RE)(b:List RS)
 |pass|brk|cont|never
 |XD (o lo C e:RE)|fI (o:RE) (f:Str) (e:RE)
 |XE (q:List Nat)(e:RE)|dput (o i e:RE)|jA (j:Nat) (w:List RE)|Dz (n i j:Nat) (b s:List RS)|XF (k i j f:Nat) (w:List RE) (s:List RS)
 |xs (T:ba->TS)
def mR(K:Frag)(x:V)(H:Hp)(Q:Bool->Prop):Prop:=match x with
 |.aD=>Q false
 |.bl b=>Q b
 |.int i=>Q (i !=0)
 |.str y=>y.length<=sizeLine/\Q ((y.length:Int) !=0)
 |.ref p=>(∃xs,au K H p xs/\Q (!xs.isEmpty))\/(∃xs,aJ K H p xs/\Q (!xs.isEmpty))\/∃k,H p=some (.dK k)/\Q (!k.isEmpty)
 |_=>False
theorem Kf{K:Frag}{x:V}{H:Hp}{Q:Bool->Prop}(h:mR K x H Q):∃k,IL K x H k/\Q k:=by
 cases x with
 |aD=>exact⟨_,O,h⟩
 |bl b=>exact⟨_,O,h⟩
 |int i=>exact⟨_,O,h⟩
 |str y=>exact⟨_,⟨h.1,O⟩,h.2⟩
 |ref p=>
  rcases h with⟨s,c,a⟩|⟨s,c,a⟩|⟨s,c,a⟩
  exact⟨_,.inl ⟨s,c,O⟩,a⟩;exact⟨_,.inr<|.inl ⟨s,c,O⟩,a⟩;exact⟨_,.inr<|.inr ⟨s,c,O⟩,a⟩
 |_=>exact False.elim h
def ib(K:Frag)(t:TE):TT:=λc H Q=>t c H λx a=>mR K x a λb=>Q b a
def DA(K:Frag)(t:TE):TE:=λc H Q=>t c H λx a=>mR K x a λb=>Q (.bl<|!b) a
def Kg:V->Hp->VK->Prop:=λx H Q=>match x with|.int i=>Q (.int<|-i) H|_=>False
def vZ(K:Frag)(x:V)(H:Hp)(Q:Nat->Prop):Prop:=match x with
 |.str y=>y.length<=sizeLine/\Q y.length
 |.ref p=>(∃xs,au K H p xs/\Q xs.length)\/∃xs,aJ K H p xs/\Q xs.length
 |_=>False
noncomputable def signs(x:Str):List V:=x.cps.toList.map λc=>V.str ⟨#[c]⟩
def XG:TE:=λ_ H Q=>∀p,H p=none->Q (.ref p) (upd H p<|.dK [])
def p9(K:Frag):oC->List V->Hp->VK->Prop
 |.len,[x],H,Q=>vZ K x H λn=>Q (.int n) H
 |.min,[.int i,.int j],H,Q=>Q (.int (if j<i then j else i)) H
 |.min,[.ref p],H,Q=>∃s:List Int,au K H p (s.map V.int)/\s≠ []/\∀m:Int,m∈s->(∀n∈s,m<=n)->Q (.int m) H
 |.sum,[.ref p],H,Q=>∃s:List Int,au K H p (s.map V.int)/\Q (.int s.sum) H
 |.int,[.int i],H,Q=>Q (.int i) H
 |.int,[.bl k],H,Q=>Q (.int (if k then 1 else 0)) H
 |.list,[.ref p],H,Q=>∃ys,(au K H p ys\/aJ K H p ys)/\∀l,H l=none->Q (.ref l) (upd H l<|.lst ys)
 |.list,[.str x],H,Q=>x.length<=sizeLine/\∀l,H l=none->Q (.ref l) (upd H l<|.lst<|signs x)
 |_,_,_,_=>False
def p_(T:Ty):List V->Hp->VK->Prop
 |[x,.ty n],H,Q=>n=T.nm/\cp T x H λb=>Q (.bl b) H
 |_,_,_=>False
def wm(K:Frag):jb->V->List V->Hp->VK->Prop
 |.append,.ref l,[y],H,Q=>∃xs,H l=some (.lst xs)/\xs.length<sizeLine/\Q .aD (upd H l<|.lst<|xs++[y])
 |.pop,.ref l,[],H,Q=>∃xs y,H l=some (.lst xs)/\xs[xs.length - 1]?=some y/\Q y (upd H l<|.lst xs.dropLast)
 |.extend,.ref l,[.ref b],H,Q=>∃xs a,H l=some (.lst xs)/\H b=some (.lst a)/\xs.length+a.length<=sizeLine/\Q .aD (upd H l<|.lst<|xs++a)
 |.join,.str s,[.ref p],H,Q=>∃t:List Str,au K H p (t.map V.str)/\JoinOk s t=true/\Q (.str<|Txt.join s t) H
 |.lstrip,.str z,[.str y],H,Q=>z.length<=sizeLine/\Q (.str<|Txt.lstripChars z y) H
 |.clear,.ref l,[],H,Q=>∃xs,H l=some (.lst xs)/\Q .aD (upd H l<|.lst [])
 |.Dy,.ref l,[y],H,Q=>∃xs,au K H l xs/\jy y=true/\xs.all jy=true/\i_ y xs=true/\Q (.int (xs.findIdx (λz=>i9 z y):Nat)) H
 |_,_,_,_,_=>False
def uq:jb->String
 |.join|.lstrip|.starts|.find|.count=> "str"
 |_=> "list"
def ur(K:Frag)(m:jb)(o:TE)(t:TA):TE:=λa H Q=>o a H λx b=>rN K (uq m) x b/\t a b λxs c=>wm K m x xs c Q
def uu(K:Frag):V->Option Int->Option Int->Hp->VK->Prop:=λx lo h H Q=>match x with
 |.str z=>z.length<=sizeLine/\Q (.str<|oA z lo h) H
 |.ref a=>(∃xs,au K H a xs/\∀p,H p=none->Q (.ref p) (upd H p<|.lst<|d6 xs lo h))\/
  (∃xs,aJ K H a xs/\ ¬(HT.bq xs.length 0 lo=0/\HT.bq xs.length xs.length h=xs.length)/\∀p,H p=none->Q (.ref p) (upd H p<|.tup<|d6 xs lo h))
 |_=>False
noncomputable def oE(s:List (Key×V))(k:Key):Option V:=(s.find? λv=>decide (v.1=k)).map (·.2)
def Kh(d:Addr->List (Key×V)->Prop):R2:=λx y H Q=>∃p s k v,x=.ref p/\y=kV k/\d p s/\oE s k=some v/\Q v H
def qd(K:Frag)(s:Addr->List (Key×V)->Prop):R2:=λx y H Q=>Jn K x y H Q\/Jo K x y H Q\/Jp x y H Q\/Kh s x y H Q
def XH(r r' i:R2)(h g f t:TE):TT:=λa H Q=>h a H λx o=>g a o λy n=>r x y n λz c=>∃k,z=.bl k/\
 (if k=true then f a c λw m=>r' y w m λe b=>∃k2,e=.bl k2/\(if k2=true then t a b λu l=>i w u l λd j=>∃k3,d=.bl k3/\Q k3 j else Q false b) else Q false c)
def lF(K:Frag)(a b:Addr):It:=
  ⟨λi H=>∃xs ys,au K H a xs/\au K H b ys/\i<xs.length/\i<ys.length,
   λi H x H'=>∃T,H T=none/\x=.ref T/\∀xs ys u v,au K H a xs->au K H b ys->xs[i]?=some u->ys[i]?=some v->H'=upd H T (.tup [u,v]),
   λi H=>∃xs ys,au K H a xs/\au K H b ys/\i=min xs.length ys.length⟩
def XI(K:Frag)(a:Addr):It:=
  ⟨λi H=>∃xs,au K H a xs/\i<xs.length,
   λi H x H'=>∃T,H T=none/\x=.ref T/\∀xs u,au K H a xs->xs[i]?=some u->H'=upd H T (.tup [.int (i:Nat),u]),
   λi H=>∃xs,au K H a xs/\i=xs.length⟩
def XJ(K:Frag)(t:TA):TI:=λc H R=>t c H λvs b=>∃a,vs=[.ref a]/\(∃xs,au K b a xs)/\R (XI K a) b
def DB(K:Frag)(t:TA):TI:=λd H R=>t d H λvs c=>∃a b,vs=[.ref a,.ref b]/\(∃xs,au K c a xs)/\(∃ys,au K c b ys)/\R (lF K a b) c
def XM(K:Frag)(a b:Addr):It:=
  ⟨λi H=>∃xs ys,aJ K H a xs/\aJ K H b ys/\i<xs.length/\i<ys.length,
   λi H x H'=>∃T,H T=none/\x=.ref T/\∀xs ys u v,aJ K H a xs->aJ K H b ys->xs[i]?=some u->ys[i]?=some v->H'=upd H T (.tup [u,v]),
   λi H=>∃xs ys,aJ K H a xs/\aJ K H b ys/\i=min xs.length ys.length⟩
def XN(K:Frag)(t:TA):TI:=λd H R=>t d H λvs c=>∃a b,vs=[.ref a,.ref b]/\(∃xs,aJ K c a xs)/\(∃ys,aJ K c b ys)/\R (XM K a b) c
def XO(z:Str):It:=⟨λi _=>i<z.length,λi H x H'=>H'=H/\∃c,z.cps[i]?=some c/\x=.str ⟨#[c]⟩,λi _=>i=z.length⟩
def XQ(t:TE):TI:=λa H R=>t a H λx b=>∃z,x=.str z/\R (XO z) b
def XR(lo c:Int)(n:Nat):It:=⟨λi _=>i<n,λi H x H'=>H'=H/\x=.int (lo+i*c),λi _=>n<=i⟩
def XS(t:TA):TI:=λa H R=>t a H λvs b=>∃(i j c:Int)(n:Nat),vs=[.int i,.int j,.int c]/\c≠0/\Builtin.Range.small i j c=true/\Builtin.divisionGoesByPylong (j - i) c=false/\Builtin.Range.rangeSize i j c=n/\R (XR i c n) b
mutual
def ah(Γ:ba):RE->TE
 |.v i=>Cz i
 |.c x=>tC x
 |.g j=>tC (Γ.gv j)
 |.bin op a b=>gA (rW Γ.K op) (ah Γ a) (ah Γ b)
 |.neg a=>IC Kg (ah Γ a)
 |.cmp op a b=>gA (dR Γ.K op) (ah Γ a) (ah Γ b)
 |.wj op h9 a b d=>y_ (dR Γ.K op) (dR Γ.K h9) (ah Γ a) (ah Γ b) (ah Γ d)
 |.Kb _ _ _ _ _ _ _=>λ_ _ _=>False
 |.and as=>Ki Γ as
 |.or as=>Kj Γ as
 |.not a=>DA Γ.K (ah Γ a)
 |.lB t a b=>Ii (bo Γ t) (ah Γ a) (ah Γ b)
 |.call j as=>CQ (Γ.fs j) [] Γ.E (bg Γ as)
 |.blt b as=>ia (p9 Γ.K b) (bg Γ as)
 |.iJ T a=>ia (p_ T) (d5 (ah Γ a)<|d5 (tC<|.ty T.nm) i7)
 |.bE m o as=>ur Γ.K m (ah Γ o) (bg Γ as)
 |.ix a b=>gA (qd Γ.K Γ.sd) (ah Γ a) (ah Γ b)
 |.sl a lo hi=>C1 (uu Γ.K) (ah Γ a) (qe Γ lo) (qe Γ hi)
 |.tup as=>IW (bg Γ as)
 |.lst as=>IX (bg Γ as)
 |.comp tk fv k ao cond elt=>pX Γ.K (jJ Γ k ao) tk fv (wo Γ.calm cond) (ah Γ.calm elt)
 |.dS a c=>ia (mP Γ.K) (d5 (ah Γ a)<|d5 (ah Γ c) i7)
 |.Xz=>XG
 |.same a b=>gA Xd (ah Γ a) (ah Γ b)
 |.inD a b=>gA (zG Γ.K false) (ah Γ a) (ah Γ b)
 |.Ke a b=>gA (zG Γ.K true) (ah Γ a) (ah Γ b)
 |.XA=>Wm
 |.bI a b=>JD (ah Γ a) (ah Γ b)
 |.uo a b=>Dm (ah Γ a) (ah Γ b)
 |.Kd a b=>JE (ah Γ a) (ah Γ b)
 |.XB o a b=>Wo (ah Γ o) (ah Γ a) (ah Γ b)
 |.xt T as=>T Γ.K (bg Γ as)
 |.xm T o as=>T Γ.K (ah Γ o) (bg Γ as)
 |.wk j a=>J_ (Γ.hs j) Γ.hv (d5 (ah Γ a) i7)
 |.fld o f=>zc Γ.K (ah Γ o) f
 |.aU j m o as=>rL (Γ.ms j).1 m (Γ.ms j).2 [] Γ.E (ah Γ o) (bg Γ as)
 |.make j as=>CS (Γ.kt j).1 (Γ.kt j).2 [] Γ.E (bg Γ as)
def bo(Γ:ba):RE->TT
 |.not a=>Ig (bo Γ a)
 |.inD a b=>ud (gA (zG Γ.K false) (ah Γ a)<|ah Γ b)
 |.Ke a b=>ud (gA (zG Γ.K true) (ah Γ a)<|ah Γ b)
 |.uo a b=>tB (Dm (ah Γ a)<|ah Γ b)
 |.Kd a b=>tB (JE (ah Γ a)<|ah Γ b)
 |.and as=>Kk Γ as
 |.or as=>Kl Γ as
 |.cmp op a b=>ud (gA (dR Γ.K op) (ah Γ a)<|ah Γ b)
 |.wj op h9 a b d=>ud (y_ (dR Γ.K op) (dR Γ.K h9) (ah Γ a) (ah Γ b)<|ah Γ d)
 |.Kb op h9 Kc a b d f=>XH (dR Γ.K op) (dR Γ.K h9) (dR Γ.K Kc) (ah Γ a) (ah Γ b) (ah Γ d) (ah Γ f)
 |.v i=>ib Γ.K (Cz i)
 |.call j as=>ib Γ.K (CQ (Γ.fs j) [] Γ.E<|bg Γ as)
 |.iJ T a=>ib Γ.K (ia (p_ T)<|d5 (ah Γ a)<|d5 (tC<|.ty T.nm) i7)
 |.dS a c=>ib Γ.K (ia (mP Γ.K)<|d5 (ah Γ a)<|d5 (ah Γ c) i7)
 |.bE m o as=>ib Γ.K (ur Γ.K m (ah Γ o)<|bg Γ as)
 |.ix a b=>ib Γ.K (gA (qd Γ.K Γ.sd) (ah Γ a)<|ah Γ b)
 |.bin op a b=>ib Γ.K (gA (rW Γ.K op) (ah Γ a)<|ah Γ b)
 |.fld o f=>ib Γ.K (zc Γ.K (ah Γ o) f)
 |.xt T as=>ib Γ.K (T Γ.K<|bg Γ as)
 |.xm T o as=>ib Γ.K (T Γ.K (ah Γ o)<|bg Γ as)
 |.aU j m o as=>ib Γ.K (rL (Γ.ms j).1 m (Γ.ms j).2 [] Γ.E (ah Γ o)<|bg Γ as)
 |_=>λ_ _ _=>False
def bg(Γ:ba):List RE->TA
 |[]=>i7
 |a::r=>d5 (ah Γ a) (bg Γ r)
def Ki(Γ:ba):List RE->TE
 |[]=>λ_ _ _=>False
 |[a]=>ah Γ a
 |a::r=>Ih (ah Γ a) (Ki Γ r)
def Kj(Γ:ba):List RE->TE
 |[]=>λ_ _ _=>False
 |[a]=>ah Γ a
 |a::r=>Tz (ah Γ a) (Kj Γ r)
def Kk(Γ:ba):List RE->TT
 |[]=>λ_ _ _=>False
 |[a]=>bo Γ a
 |a::r=>Ic (bo Γ a) (Kk Γ r)
def Kl(Γ:ba):List RE->TT
 |[]=>λ_ _ _=>False
 |[a]=>bo Γ a
 |a::r=>Ie (bo Γ a) (Kl Γ r)
def qe(Γ:ba):Option RE->TO
 |none=>CZ
 |some a=>ug (ah Γ a)
def wo(Γ:ba):Option RE->Option TT
 |none=>none
 |some a=>some (bo Γ a)
def jJ(Γ:ba)(k:IK):List RE->TI
 |[]=>λ_ _ _=>False
 |a::r=>match k with
  |.list=>vP Γ.K (ah Γ a)
  |.tup=>Ub Γ.K (ah Γ a)
  |.gc=>Iy (d5 (ah Γ a)<|bg Γ r)
  |.Xv=>Ue (d5 (ah Γ a)<|bg Γ r)
  |.zip=>DB Γ.K (d5 (ah Γ a)<|bg Γ r)
  |.Xw=>XJ Γ.K (d5 (ah Γ a)<|bg Γ r)
  |.txt=>XQ (ah Γ a)
  |.Xx=>XN Γ.K (d5 (ah Γ a)<|bg Γ r)
  |.Xy=>XS (d5 (ah Γ a)<|bg Γ r)
end
structure df where
 N:List Str
 sc:Scope
 fn:List Str
 gn:List Str
 bl:List Str
 mn:List Str
 kn:List Str
 en:List Str
 hn:List Str
 md:Nat
noncomputable def vis(s:Scope)(x:Str):Bool:=match s.names.lookup x with
 |some .local=>true|some .cell=>true|some .free=>true|_=>false
noncomputable def loc(s:Scope)(x:Str):Bool:=match s.names.lookup x with
 |some .local=>true|some .cell=>true|_=>false
noncomputable def oF(s:Scope)(x:Str):Bool:=match s.names.lookup x with
 |some .globalImplicit=>true|_=>false
theorem XT(h:vis s x=true):yO s x:=by
 unfold vis at h;unfold yO;cases e:s.names.lookup x with
 |none=>rw[e] at h;cases h
 |some k=>rw[e] at h;cases k<;>first|exact .inl O|exact .inr (.inl O)|exact .inr (.inr O)|cases h
theorem zK(h:loc s x=true):Loc s x:=by
 unfold loc at h;unfold Loc;cases e:s.names.lookup x with
 |none=>rw[e] at h;cases h
 |some k=>rw[e] at h;cases k<;>first|exact .inl O|exact .inr O|cases h
theorem XU(h:oF s x=true):s.names.lookup x=some .globalImplicit:=by
 unfold oF at h;cases e:s.names.lookup x with
 |none=>rw[e] at h;cases h
 |some k=>rw[e] at h;cases k<;>first|rfl|cases h
structure wq where
 elt:Expr
 tg:Expr
 iter:Expr
 ifs:List Expr
 sc:Scope
noncomputable def oC.nm:oC->Str
 |.len=> "len" |.min=> "min" |.max=> "max" |.sum=> "sum" |.int=> "int" |.list=> "list" |.tuple=> "tuple" |.abs=> "abs"
noncomputable def jb.nm:jb->Str
 |.append=> "append" |.pop=> "pop" |.extend=> "extend" |.join=> "join" |.lstrip=> "lstrip" |.starts=> "startswith" |.reverse=> "reverse" |.clear=> "clear" |.index=> "index" |.find=> "find" |.count=> "count" |.Ka=> "count" |.Dy=> "index"
noncomputable def qf:Expr->Bool
 |.Call (.Name _ _) [] [] _=>false
 |_=>true
def noStar:Expr->Bool
 |.Starred ..=>false
 |_=>true
def wt:Expr->Bool
 |.Set ..=>false
 |_=>true
noncomputable def DC(K s:Scope):Scope:=
 {K with names:=K.names.map fun(n,k)=>if (k==.free && s.kind==.function && s.names.lookup n==some .cell) then (n,.cell) else (n,k)}
noncomputable def DD(t:Option Nat)(tg:Expr):Option (List Str):=match t,tg with
 |none,.Name x _=>some [x]
 |some 2,.Tuple [.Name x _,.Name y _] _ _=>some [x,y]
 |_,_=>none
noncomputable def Kn(S:df)(c:wq)(ln:List Str)(f:List (Str×Nat)):df:={S with N:=ln++f.map (·.1),sc:=DC c.sc S.sc,en:=[],md:=if S.md=0 then 0 else 2}
noncomputable def DE(S:df)(c:wq)(ln:List Str)(f:List (Str×Nat)):Bool:=
 decide (c.sc.kind=.function) && c.sc.names.all (λy=>decide<|y.2≠ .cell) && c.sc.names.all (λy=>decide (y.2≠ .local)||decide (c.sc.names.lookup y.1=some .local))
 && c.sc.names.all (λy=>decide (y.2≠ .free)||decide (S.sc.names.lookup y.1=some .cell)||decide (S.sc.names.lookup y.1=some .free))
 && f.all (λp=>decide (S.N[p.2]?=some p.1) && decide (c.sc.names.lookup p.1=some .free))
 && ln.all (λx=>decide<|c.sc.names.lookup x=some .local) && decide ((ln++f.map (·.1)).Nodup) && wt c.iter
theorem XW{K:Frag}{c':List Expr}{k:Nat}{f':Pos}{z G l j g W U:Addr}(D:ZipApart z G l j g W U)(dl:W≠G/\U≠G):
  Turn P w K (.Tuple c' k f') (lF K W U) [z,G,l,j,g] z
   (λi h=>IsZip h z G l .none/\IsPair h G (.ref j) (.ref g)/\(∃a b,IsPair h l a b)/\h.IsListIter j W i/\h.IsListIter g U i) where
 mem:=by simp
 obj:=λi h N b f=>by
  obtain⟨R,B,⟨a,b',Z⟩,⟨o1,e1,c1,d1⟩,⟨o2,e2,c2,d2⟩⟩:=N;simp at f;rcases f with rfl|rfl|rfl|rfl|rfl
  exact⟨_,R,λv q=>by cases q⟩;exact⟨_,B,λv q=>by cases q⟩;exact⟨_,Z,λv q=>by cases q⟩;exact⟨_,e1,λv q=>by lia⟩;exact⟨_,e2,λv q=>by lia⟩
 keep:=λi h h' N y=>by
  obtain⟨R,B,⟨a,b',Z⟩,h1,h2⟩:=N;exact⟨y z (by simp) _ R,y G (by simp) _ B,⟨a,b',y l (by simp) _ Z⟩,h1.at λo e=>y j (by simp) o e,h2.at λo e=>y g (by simp) o e⟩
 item:=by
  intro X hP hw hK t i C s σ H E I F N hg;subst hP hw hK;obtain⟨xs,ys,hx,hy,m',l'⟩:=hg;obtain⟨M,r1,p1,z1⟩:=I.list hx;obtain⟨Y,r2,p2,z2⟩:=I.list hy;have dA:=r1.length;have eK:=r2.length;have d:=WalksT.zip2 (prog:=X.prog) (w:=X.w) (A:=X.A) (I.ok.hd t) z G l j g W U D M.toArray Y.toArray;obtain⟨R,B,Z,h1,h2⟩:=qa5 (id N);have hn:i<min M.toArray.size Y.toArray.size:=by simp;lia
  refine d.item i s _ _ hn ⟨R,B,Z,h1,h2,p1.isList,p2.isList⟩ λT j' h' tk hv hT XX i' y=>?_;refine⟨.ref T,O,d.go c' k f' i T _ _ _ i' λzL XY Ko=>?_⟩;obtain⟨u,v,eu,ev,rfl⟩:=hv;have J:∀b∈ [z,l,j,g],b∈ [z,G,l,j,g]:=λb f=>by
   simp at f⊢;rcases f with rfl|rfl|rfl|rfl<;>simp
  have kk:=λb o f e=>Ko b o f (y b o f e);have I1:Inv X C σ H {s with heap:=zL,toks:=tk}:=by
   refine I.step (λb f=>?_) (λb o _ _ t e _=>kk b o t e) (λb o _ _ t e _=>⟨o.slots,kk b o t e⟩) (λ_ _ _ _ n=>n)
    (λb o t e=>⟨o,kk b o t e⟩) (λ_ _ e=>e) (λ_ _ _ e=>e) (λb ps e=>⟨#[],by rw[e];simp⟩) (λm hm=>?_) (λb o e=>?_) I.bare
   obtain⟨f0,f1,f2,f3,f4,f5⟩:=qa6 (F b (J b f));exact⟨f3,f1,f4,f5⟩;obtain⟨o,es,ep,ho,r⟩:=hm;exact⟨o,es,ep,kk _ o (λf=>(F _<|J _ f).2.1 O) ho,r⟩;have nb:∀c o',H c=some o'->c∉ [z,l,j,g]:=λc o' e f=>by
    rw[(F c<|J c f).1] at e;cases e
   refine(I.aG b o e).mI (λc q S V=>kk c q ?_ V) (λ_ q=>q) λ_ _ q=>q;rcases S with rfl|S
   exact nb _ _ e;exact nb _ _ S
  have L:=hT;have fT:H T=none:=I.aG.fresh L;have tT:zL.IsTuple T #[u,v]:=by
   obtain⟨o,ho,q⟩:=XX;exact⟨o,Ko T o (d.apart i T h' i') ho,q⟩
  obtain⟨a,XZ,ra⟩:∃a,xs[i]?=some a/\RelV a u:=by
   have e:=by simpa using eu
   have:i<xs.length:=m'
   obtain⟨u',V,r'⟩:=r1.get (i:=i) (x:=xs[i]) (by simp[this]);rw[e] at V;cases V;exact⟨xs[i],by simp[this],r'⟩
  obtain⟨b,X0,rb⟩:∃b,ys[i]?=some b/\RelV b v:=by
   have e:=by simpa using ev
   have:i<ys.length:=l'
   obtain⟨u',V,r'⟩:=r2.get (i:=i) (x:=ys[i]) (by simp[this]);rw[e] at V;cases V;exact⟨ys[i],by simp[this],r'⟩
  have I2:Inv X C σ (upd H T<|.tup [a,b]) {s with heap:=zL,toks:=tk}:=by
   refine Inv.zv I1 fT (zat I.sz L) (zaD<|zaq I.lt L) (λx c e q=>?_) (λp hp q=>?_) ⟨by show 2<=sizeLine;decide,[u,v],.cons ra<|.cons rb .nil,tT⟩;obtain⟨v',q'⟩:=I.cell x c e;have:=q'.lt;rw[q] at this;exact absurd (zaq this L)<|zaC _;have:=Heap.lt_size (I.pin p hp).1;rw[q] at this;exact absurd (zaq this L)<|zaC _
  refine⟨.ref T,_,I2,O,⟨T,fT,O,λbu fJ a' b' iH vX ea eb=>?_⟩,?_,λc S=>?_⟩;rw[I.yX iH hx,XZ] at ea;rw[I.yX vX hy,X0] at eb;cases ea;cases eb;rfl;obtain⟨q1,q2,q3,q4,q5,_⟩:=qa6 XY;exact⟨q1,q2,q3,q4,q5⟩;have:c≠T:=λq=>by
   obtain⟨o,e,_⟩:∃o,s.heap.get? c=some o/\True:=by
    obtain⟨R,B,⟨a',b',Z⟩,⟨o1,e1,_⟩,⟨o2,e2,_⟩⟩:=N;simp at S;rcases S with rfl|rfl|rfl|rfl|rfl
    exact⟨_,R,trivial⟩;exact⟨_,B,trivial⟩;exact⟨_,Z,trivial⟩;exact⟨_,e1,trivial⟩;exact⟨_,e2,trivial⟩
   have:=Heap.lt_size e;rw[q] at this;exact absurd (zaq this L)<|zaC _
  rw[aF this];exact ((F c S).1)
 done:=by
  intro X hP hw hK t i C s σ H E I F N hg;subst hP hw hK;obtain⟨xs,ys,hx,hy,hi⟩:=hg;obtain⟨M,r1,p1,z1⟩:=I.list hx;obtain⟨Y,r2,p2,z2⟩:=I.list hy;have dA:=r1.length;have eK:=r2.length;have d:=WalksT.zip2 (prog:=X.prog) (w:=X.w) (A:=X.A) (I.ok.hd t) z G l j g W U D M.toArray Y.toArray;obtain⟨R,B,Z,h1,h2⟩:=id N;have hn:i=min M.toArray.size Y.toArray.size:=by simp;lia
  subst hn;refine d.done s _ _ ⟨R,B,Z,h1,h2,p1.isList,p2.isList⟩ λh' tk y=>⟨O,?_⟩;have J:∀b∈ [z,l,j,g],b∈ [z,G,l,j,g]:=λb f=>by
   simp at f⊢;rcases f with rfl|rfl|rfl|rfl<;>simp
  refine I.step (λb f=>?_) (λb o _ _ t e _=>y b o t e) (λb o _ _ t e _=>⟨o.slots,y b o t e⟩) (λ_ _ _ _ n=>n)
   (λb o t e=>⟨o,y b o t e⟩) (λ_ _ e=>e) (λ_ _ _ e=>e) (λb ps e=>⟨#[],by rw[e];simp⟩) (λm hm=>?_) (λb o e=>?_) I.bare
  obtain⟨f0,f1,f2,f3,f4,f5⟩:=qa6 (F b (J b f));exact⟨f3,f1,f4,f5⟩;obtain⟨o,es,ep,ho,r⟩:=hm;exact⟨o,es,ep,y _ o (λf=>(F _<|J _ f).2.1 O) ho,r⟩;have nb:∀c o',H c=some o'->c∉ [z,l,j,g]:=λc o' e f=>by
   rw[(F c<|J c f).1] at e;cases e
  refine(I.aG b o e).mI (λc q S V=>y c q ?_ V) (λ_ q=>q) λ_ _ q=>q;rcases S with rfl|S
  exact nb _ _ e;exact nb _ _ S
 self:=λA i s Q E N hQ=>wpAny_pyIter_zip N.1 hQ
theorem boot_zip:bootBuiltins "zip"=some (.type "zip"):=O
theorem X1{k:Nat}{W:Pos}{a b:Expr}{t:TA}{p d:Pos}(Z:Gl X "zip")(T:X.mg "zip"=none)(B:PA X [a,b] t)(S:starEach [a,b] X.env=(false,eval a X.env)::starEach [b] X.env)(N:(backTo d<|starEach [b] X.env).any (·.1)=false):
  PI X (.Tuple i k W) (.Call (.Name "zip" p) [a,b] [] d) (DB X.K t):=by
 intro f s z H R I h;refine Call_<|nV I Z T boot_zip<|PyProof.Rows.callWith_type1 (aM (B d f s z H _ I h) λus c ⟨vs,y,j,E,G⟩=>?_) S N;obtain⟨o,n,e,⟨xs,Q⟩,⟨ys,P⟩,q⟩:=G;subst e;obtain⟨u,v,rfl,C,A⟩:=vals2 E;cases C;cases A;obtain⟨lG,zM,m,z1⟩:=j.list Q;obtain⟨gg,zN,l,z2⟩:=j.list P;refine call_zip_2 m.isList l.isList λh' x M L J F a6 V=>wpAny_pyIter_zip x ?_;have DF: @LT.lt Nat _ o c.heap.objs.size:=by obtain⟨_,e,_⟩:=m.isList;exact Heap.lt_size e
 have Y: @LT.lt Nat _ n c.heap.objs.size:=by obtain⟨_,e,_⟩:=l.isList;exact Heap.lt_size e
 have D:ZipApart (c.heap.objs.size+4) (c.heap.objs.size+2) (c.heap.objs.size+3) c.heap.objs.size (c.heap.objs.size+1) o n:=by
  constructor<;>(lia)
 refine⟨_,_,_,_,y,O,(j.kept V),XW D ⟨by lia,by lia⟩,⟨x,M,⟨_,_,L⟩,J,F⟩,λw r=>?_,q⟩;have g:c.heap.objs.size<=w:=by
  simp at r;rcases r with rfl|rfl|rfl|rfl|rfl
  exact zbf _ _;exact zbf _ _;exact zbf _ _;exact zqR _;exact zbf _ _
 have:=j.y2 g (j.aG.fresh g);exact this
end L2
set_option maxHeartbeats 400000
namespace L2
open PySem PySem.Spec PyProof.Rows
def jK(A:Around)(h:Heap):Prop:=A.handled=none\/∃e o vs,A.handled=some (.ref e)/\h.get? e=some o/\o.data=.fields vs/\vs[2]?=some .none
theorem jK.keeps(x:jK A h)(k:∀b o vs,h.get? b=some o->o.data=.fields vs->vs[2]?=some .none->f.get? b=some o):jK A f:=by
 rcases x with x|⟨e,o,vs,a,b,c,d⟩
 exact .inl x;exact .inr ⟨e,o,vs,a,k e o vs b c d,c,d⟩
theorem X3:entryFor table "proto.unchain"=some Builtin.«proto.unchain»:=entryFor_of_fast (O)
section
variable{prog:Program}{w:World}{A:Around}{E:Value->Shared->Prop}{s:Shared}
theorem X6{vs:Array Value}{i:Nat}{v:Value}{Q:Unit->Shared->Prop}(b:s.heap.get? a=some o)(d:o.data=.fields vs)(c:i<vs.size)(h:Q () {s with heap:=s.heap.update a (Obj.mapFields (·.setIfInBounds i v))}):
  wpAny (model prog w) A (updateField a i v) Q E s:=by
 refine wpAny_bind<|wpAny_load b ?_;rw[d];show wpAny _ _ (if i<vs.size then _ else _) _ _ s;rw[if_pos c];exact wpAny_update b h
theorem X7{o:Obj}{vs:Array Value}{Q:i->Shared->Prop}(h:jK A s.heap)(b:s.heap.get? a=some o)(f:o.data=.fields vs)(l:2<vs.size)(K:∀e,A.handled=some (.ref e)->e≠a)(g:∀c,Heap.SameBut a s.heap c->(∃d,c.get? a=some d/\d.cls=o.cls)->E (.ref a) {s with heap:=c}):wpAny (model prog w) A (raiseNew (.ref a):Sem i) Q E s:=by
 refine wpAny_bind<|wpAny_handled ?_;rcases h with h|⟨e,n,v,h,j,m,X⟩
 rw[h];exact wpAny_bind<|wpAny_pure<|wpAny_throw<|g s.heap (Heap.SameBut.refl ..) ⟨o,b,O⟩;rw[h];have k:((Value.ref e) !=(Value.ref a))=true:=by
  simp;exact (K e h)
 dsimp only;rw[if_pos k];refine wpAny_bind<|wpAny_holding<|wpAny_runValue<|codeAny_builtin X3 (wpAny_bind<|wpAny_field j m X (wpAny_bind<|wpAny_pure<|wpAny_pure ?_));refine wpAny_bind<|X6 b f l (wpAny_throw<|g _ (Heap.SameBut.update ..) ⟨_,Heap.get?_update_self _ b<|Obj.isFreed_of_fields<|Obj.data_mapFields f _,Obj.cls_mapFields ..⟩)
theorem Kp{D:Fin->Shared->Prop}{Q:Option Value->Shared->Prop}(h:jK A s.heap)(x:∀vs:Array Value,¬ ∃o,s.heap.get? it=some o/\o.data=.fields vs/\vs[2]?=some .none)(y:∀n,Heap.ExtBut it s.heap n->Q none {s with heap:=n}):
  wpAny (model prog w) A.in1 Builtin.SmallTypes.stopIteration D (λe s'=>wpAny (model prog w) A (do let b <-isInstance e (.type "StopIteration");if b=true then pure none else throw e) Q E s') {s with heap:=s.heap.update it f}:=by
 refine wpAny_bind (wpAny_bind<|wpAny_newObj_type ?_ (by size_fits));refine wpAny_bind<|wpAny_of_eq (O) (wpAny_newObj_type ?_ (by size_fits));have t:∀b o,s.heap.get? b=some o->b≠it->(s.heap.update it f).get? b=some o:=λb o e i=>(Heap.get?_update_other _ _<|Ne.symm i).trans e;have X:jK A.in1 (((s.heap.update it f).push {cls:=.type "tuple",data:=.seq ([]:List Value).toArray}).push
   {cls:=.type "StopIteration",data:=.fields (#[.ref (s.heap.update it f).objs.size,.none,.none,.none,.bool false,.none]++ownMembersOf (.type "StopIteration") [])}):=by
  rcases h with h|⟨e,c,v,l,g,k,j⟩
  exact .inl h;refine .inr ⟨e,c,v,l,Heap.get?_push_of_some _<|Heap.get?_push_of_some _<|t e c g λz=>?_,k,j⟩;subst z;exact x v ⟨c,g,k,j⟩
 refine X7 X (Heap.get?_push_size _ O) O (zaq (show 2<6 by lia) (by simp)) (λe d=>?_)<|λn q ⟨G,u,r⟩=>?_;rcases h with h|⟨H,c,v,l,g,k,j⟩
 rw[show A.in1.handled=none from h] at d;cases d;rw[show A.in1.handled=_ from l] at d;cases d;have:=Heap.lt_size g;refine zan<|zaq this ?_;rw[Heap.size_push,Heap.size_update];exact zbh _;refine wpAny_bind (wpAny_isInstance ⟨_,u,r⟩ isSubtype_stop (wpAny_pure<|y _ λb o i e=>?_));have p:=t b o e i;refine(q.2 b<|zan<|zaq (Heap.lt_size p) ?_).trans (Heap.get?_push_of_some {cls:=.type "StopIteration",data:=.fields (#[.ref (s.heap.update it f).objs.size,.none,.none,.none,.bool false,.none]++ownMembersOf (.type "StopIteration") [])} (Heap.get?_push_of_some {cls:=.type "tuple",data:=.seq ([]:List Value).toArray} p));rw[Heap.size_push];exact zbh _
theorem Ya{a}{Q:Option Value->Shared->Prop}(j:jK A s.heap)
  (h:s.heap.IsListIter it l i) (g:s.heap.IsList l a) (x:a[i]?=none)
  (k:∀f,Heap.ExtBut it s.heap f->Q none {s with heap:=f}):wpAny (model prog w) A (pyNext<|.ref it) Q E s:=by
 obtain⟨o,b,t,d⟩:=id h;obtain⟨n,D,_,r,q⟩:=g;refine wpAny_bind (wpAny_attempt (wpAny_callSpecial?_slot h.typeIs slot_listiter_next
  (wpAny_call_entry slot_listiter_next h.typeIs entry_listiter_next ?_ (args_listiter_next _))))
 show wpAny _ _ (field (.ref it) 0>>=_) _ _ s;refine wpAny_bind<|wpAny_field b d O (wpAny_bind<|wpAny_field b d O (wpAny_bind<|wpAny_seqItems D q ?_));simp only[zaG,x];refine wpAny_bind<|wpAny_rule<|wpAny_bind<|wpAny_setField b d (by simp) ?_;exact Kp j (λv z=>by obtain⟨p,e,c,m⟩:=z;rw[b] at e;cases e;rw[d] at c;cases c;cases m) k
theorem Yb{a}{Q:Option Value->Shared->Prop}(g:jK A s.heap)
  (h:IsTupIter s.heap it t i) (ht:IsTup s.heap t a) (x:a[i]?=none)
  (j:∀f,Heap.ExtBut it s.heap f->Q none {s with heap:=f}):wpAny (model prog w) A (pyNext<|.ref it) Q E s:=by
 obtain⟨o,b,p,d⟩:=id h;obtain⟨l,D,_,n,q⟩:=ht;refine wpAny_bind (wpAny_attempt (wpAny_callSpecial?_slot h.typeIs slot_tupleiter_next
  (wpAny_call_entry slot_tupleiter_next h.typeIs entry_tupleiter_next ?_ (args_tupleiter_next _))))
 show wpAny _ _ (field (.ref it) 0>>=_) _ _ s;refine wpAny_bind<|wpAny_field b d O (wpAny_bind<|wpAny_field b d O (wpAny_bind<|wpAny_seqItems D q ?_));simp only[zaG,x];refine wpAny_bind<|wpAny_rule<|wpAny_bind<|wpAny_setField b d (by simp) ?_;exact Kp g (λv z=>by obtain⟨m,e,c,k⟩:=z;rw[b] at e;cases e;rw[d] at c;cases c;cases k) j
theorem Yc{Q:List Value->Shared->Prop}(k:jK A s.heap)(ht:IsTup s.heap t i)(l:∀f,Heap.ExtBut s.heap.objs.size s.heap f->Q i.toList {s with heap:=f}):wpAny (model prog w) A (unpackItems (.ref t) i.size none) Q E s:=by
 have g:t≠s.heap.objs.size:=by obtain⟨o,j,_⟩:=ht;exact zan (Heap.lt_size j)
 refine wpAny_bind ?_;refine wpAny_bind<|wpAny_specialOf ht.typeIs slot_tuple_iter.lookup ?_;refine wpAny_pure ?_;refine wpAny_bind<|wpAny_holding<|iter_tuple ht (wpAny_bind<|wpAny_holding<|draw_tuple g i.size 0 _ _ ⟨_,Heap.get?_push_size _ O,O,O⟩ (ht.push _) (za3 (zb6 _ _)) λa u d=>?_);have m:List.take i.size (List.drop 0 i.toList)=i.toList:=by
  exact zaH (by simp)
 rw[m];rw[if_neg (by simp)];refine wpAny_bind<|wpAny_holding<|Yb (k.keeps λb o v e _ _=>d.extBut b o (zan<|Heap.lt_size e) (Heap.get?_push_of_some _ e)) u ((ht.push _).extBut d.extBut g) (by simp) λh D=>?_;refine wpAny_pure<|l h λb o c e=>D b o c (d.extBut b o c<|Heap.get?_push_of_some _ e)
theorem Ye{e:List Expr}{x}{p:Pos}{t:Addr}{i:Array Value}{Q:Unit->Shared->Prop}(b:jK A s.heap)(ht:IsTup s.heap t i)
  (n:(assignEach e env).length=i.size) (D:(assignEach e env).findIdx? (·.1)=none)
  (h:∀a,Heap.ExtBut s.heap.objs.size s.heap a->wpAny (model prog w) A (assignInOrder ((assignEach e env).map (·.2)) i.toList) Q E {s with heap:=a}):
  wpAny (model prog w) A (assign (.Tuple e x p) env<|.ref t) Q E s:=by
 refine wpAny_bind<|wpAny_standAt ?_;unfold unpack;rw[n,D];exact wpAny_bind<|wpAny_holding<|Yc b ht h
end
end L2
set_option maxHeartbeats 1000000
namespace L2
open PySem PySem.Spec PyProof.Rows PySem.W
section
variable{prog:Program}{w:World}{A:Around}{E:Value->Shared->Prop}{s:Shared}{K:Frag}{x D:Addr}{ox:Obj}
theorem Yf(X:K.In s.heap)(I:InstAt s.heap x ox D none)(k:findIn K (.ref D) "__getattribute__"=some (some<|.builtin "BaseException.__getattribute__"))(j:findIn K (.ref D) "__getattr__"=some none)(l:(clsIn K D).isSome=true)(v:findIn K (.ref D) "__class__"=some (some<|.builtin "object.__class__"))(n:specialIn K (.builtin "object.__class__") "__get__"=some (some<|.builtin "getset_descriptor.__get__"))(p:takesIn K (.builtin "object.__class__")=some true)(m:mroIn K D (.type "object")=some true)(u:mroIn K D (.type "BaseException")=some true)(h:Q (some<|.ref D) {s with toks:=s.toks+1}):wpAny (model prog w) A (getAttr? (.ref x) "__class__") Q E s:=by
 have q:findObj K D none "__class__"=some (.bind (.builtin "getset_descriptor.__get__")<|.builtin "object.__class__"):=by
  obtain⟨S,r⟩:=zbO.mp l;unfold findObj;rw[r,Option.bind_some,v,Option.bind_some];simp only[n,p,Option.bind_some]
 obtain⟨b,g,d,t,o⟩:=s;have c:=I.type (M:=model prog w);have R:=looks_findIn (M:=model prog w) X k;have P:=looks_findIn (M:=model prog w) X j;have N:=looks_find (M:=model prog w) X I q;unfold getAttr? getAttrBy? getAttrBy;refine wpAny_bind<|wpAny_mkText<|wpAny_bind<|wpAny_attempt<|wpAny_holding<|wpAny_bind<|c.at<|wpAny_bind<|R.at ?_;have C:(Value.builtin "BaseException.__getattribute__"==Value.builtin "object.__getattribute__")=false:=by decide+kernel
 show wpAny _ _ (if (onTheHeap (Value.ref D) && Value.builtin "BaseException.__getattribute__"==Value.builtin "object.__getattribute__")=true then _ else _) _ _ _;rw[C,Bool.and_false,if_neg (by decide)];unfold getAttrByItsOwn hookBefore;refine wpAny_bind<|P.at ?_;refine wpAny_bind<|wpAny_attempt<|wpAny_holding ?_;show wpAny _ _ (boundAndCalled _ _ _) _ _ _;unfold boundAndCalled;rw[F.excAttr_ValueError.ga.bind<|.ref x];refine wpAny_bind<|wpAny_pure ?_;refine wpAny_call<|codeAny_call_builtin F.excAttr_ValueError.ga.plain F.entry_bexc_ga ?_;have H:=looks_mroIn (M:=model prog w) X u;have i:builtinKind "BaseException.__getattribute__"=some .slot:=by decide+kernel
 have z:splitId "BaseException.__getattribute__"=some ("BaseException","__getattribute__"):=by decide+kernel
 simp only[checkBuiltinCall,i,z];have G:Looks (model prog w) b (isInstance (.ref x)<|.type "BaseException") true:=c.andThen H;refine wpAny_bind<|G.at ?_
 repeat (any_goals (first|assumption|(with_reducible refine wpAny_loadPart_at I.at_ ?_;rw[I.cls];refine wpAny_pure (wpAny_bind<|N.at ?_))|wp_step))
 refine class_get (s:=⟨b,g,d,t+1,o⟩) (ox:=ox) (od:=none) X I m ?_;exact wpAny_pure<|wpAny_pure<|wpAny_pure h
theorem Yi(d:findIn K (.ref D) "__getattribute__"=some (some<|.builtin "BaseException.__getattribute__"))(g:findIn K (.ref D) "__getattr__"=some none)(c:(clsIn K D).isSome=true)(j:findIn K (.ref D) "__class__"=some (some<|.builtin "object.__class__"))(f:specialIn K (.builtin "object.__class__") "__get__"=some (some<|.builtin "getset_descriptor.__get__"))(p:takesIn K (.builtin "object.__class__")=some true)(m:mroIn K D (.type "object")=some true)(i:mroIn K D (.type "BaseException")=some true):KitX K (.ref x) (.ref D) (λh=>InstAt h x ox D none) where
 ty:=λ_ _ _ I=>I.type
 it:=λ_ _ X _=>by
  obtain⟨u,b⟩:=zbO.mp c;unfold clsIn at b;split at b;rename_i r l Yk Cs o;intro N Q H z k q;exact wpAny_bind<|wpAny_loadPart (k _ _<|X _ _ o)<|wpAny_pure q;cases b
 ne:=λh v C G n y X t=>by
  obtain⟨u,b⟩:=zbO.mp c;refine Bool.eq_false_iff.mpr λq=>?_;have e:=Value.ref.inj (beq_iff_eq.mp q);subst e;unfold clsIn at b;split at b;rename_i r l Yk Cs o;cases ((X _ _ o).symm.trans t);cases b
 ca:=λX I k=>Yf X I d g c j f p m i k
end
end L2
set_option maxHeartbeats 400000
namespace L2
open PySem PySem.Spec PyProof.Rows
inductive cq(b:Shared->Prop){c:Type}:Sem c->Prop
 |pure (a:c):cq b (.pure a)
 |raise (e:Value):cq b (.raise e)
 |unsupported (w:String):cq b (.unsupported w)
 |rule {t:String}{k:Unit->Sem c}:cq b (k ())->cq b (.rule t k)
 |load {a:Addr}{p:Option Value}{k:Obj->Sem c}:(∀o,cq b<|k o)->cq b (.load a p k)
 |update {a:Addr}{p:Option Value}{f:Obj->Obj}{k:Unit->Sem c}:(∀s,b s->b {s with heap:=s.heap.update a f})->cq b (k ())->cq b (.update a p f k)
 |alloc {o:Obj}{k:Addr->Sem c}:(∀s,b s->b {s with heap:=s.heap.push o})->(∀a,cq b<|k a)->cq b (.alloc o k)
 |stack {k:List (Code×Pos)->Sem c}:(∀t,cq b<|k t)->cq b (.stack k)
theorem Ym{b:Shared->Prop}{c:Type}{t:Sem c}(k:cq b t):∀{Q:c->Pos->Shared->Prop}{E:Value->Pos->Shared->Prop}{p:Pos}{s:Shared},b s->Sem.wp M d t Q E p s->
  Sem.wp M d t (λa p s=>Q a p s/\b s) (λe p s=>E e p s/\b s) p s:=by
 induction k with
 |pure a=>intro Q E p s j h;exact⟨h,j⟩
 |raise e=>intro Q E p s j h;exact⟨h,j⟩
 |unsupported w=>intro Q E p s j h;exact h.elim
 |rule _ i=>intro Q E p s j h;exact i j h
 |load _ i=>intro Q E p s j h;obtain⟨o,e,h⟩:=h;exact⟨o,e,i o j h⟩
 |update f _ i=>intro Q E p s j h;exact⟨h.1,i (f _ j) h.2⟩
 |alloc f _ i=>intro Q E p s j h;exact i _ (f _ j) h
 |stack _ i=>intro Q E p s j h;exact i _ j h
theorem wy{b:Shared->Prop}{d:Type}{t:Sem d}{Q:d->Shared->Prop}{E:Value->Shared->Prop}{s:Shared}(k:cq b t)(j:b s)(h:wpAny M A t Q E s):
  wpAny M A t (λa s=>Q a s/\b s) (λe s=>E e s/\b s) s:=λf p c=>Ym k j (h f p c)
def fK(e:Addr)(s:Shared):Prop:= ∃o vs,s.heap.get? e=some o/\o.data=.fields vs/\vs[2]?=some .none/\o.dict=none
theorem Yn(f:Array Value->Array Value)(o:Obj):(Obj.mapFields f o).dict=o.dict:=by
 unfold Obj.mapFields;split<;>rfl
theorem Yo{i:Nat}{v:Value}(k:i≠2)(s:Shared)(j:fK e s):fK e {s with heap:=s.heap.update a (Obj.mapFields (·.setIfInBounds i v))}:=by
 obtain⟨o,g,f,c,b,h⟩:=j;by_cases z:a=e;subst z;have d:=Obj.data_mapFields c (·.setIfInBounds i v);exact⟨_,_,Heap.get?_update_self _ f<|Obj.isFreed_of_fields d,d,by rw[Array.getElem?_setIfInBounds_ne k];exact b,(Yn _ _).trans h⟩;exact⟨o,g,(Heap.get?_update_other _ _ z).trans f,c,b,h⟩
theorem Yp{f:Obj->Obj}(h:∀o,(f o).data=o.data/\(f o).dict=o.dict)(s:Shared)(j:fK e s):fK e {s with heap:=s.heap.update a f}:=by
 obtain⟨o,v,g,b,d,c⟩:=j;by_cases z:a=e;subst z;exact⟨_,v,Heap.get?_update_self _ g<|Obj.isFreed_of_fields<|(h o).1.trans b,(h o).1.trans b,d,(h o).2.trans c⟩;exact⟨o,v,(Heap.get?_update_other _ _ z).trans g,b,d,c⟩
theorem Yq(s:Shared)(j:fK e s):fK e {s with heap:=s.heap.push b}:=by
 obtain⟨o,v,d,c,a,h⟩:=j;exact⟨o,v,Heap.get?_push_of_some _ d,c,a,h⟩
theorem cq.bind{c d:Type}{t:Sem c}{f:c->Sem d}(k:cq b t)(h:∀a,cq b<|f a):cq b (t>>=f):=by
 induction k with
 |pure a=>exact h a
 |raise e=>exact .raise e
 |unsupported w=>exact .unsupported w
 |rule _ i=>exact .rule i
 |load _ i=>exact .load i
 |update g _ i=>exact .update g i
 |alloc g _ i=>exact .alloc g i
 |stack _ i=>exact .stack i
section
variable{e:Addr}
theorem DK{a:Addr}:cq (fK e) (load a):=.load λo=>.pure o
theorem DL{i:Nat}(h:i≠2):cq (fK e) (setField v i x):=by
 unfold setField;split;refine DK.bind λo=>?_;split;split;exact .update (λs j=>Yo h s j) (.pure ());exact .unsupported _;exact .unsupported _;exact .unsupported _
theorem Yr:cq (fK e) (fieldsOf v):=by
 unfold fieldsOf;split;refine DK.bind λo=>?_;split;exact .pure _;exact .unsupported _;exact .unsupported _
theorem zP:cq (fK e) (field v i):=by
 refine Yr.bind λs=>?_;split;exact .pure _;exact .unsupported _
theorem DM:cq (fK e) (setFlight v f):=by
 refine zP.bind λt=>?_;split;exact DL (zaD (zbM _));exact .pure _
theorem DN:cq (fK e) stack:=.stack λt=>.pure t
theorem Ys:cq (fK e) (newFields t vs):=by
 show cq (fK e) (if vs.toArray.size>sizeLine+2 then (unsupported "record:memory" >>=_) else _);split;exact .unsupported _;exact cq.bind (.alloc (λs j=>Yq s j) λa=>.pure a) λa=>.pure _
theorem Yt:cq (fK e) (entryPlaceOf f b):=by
 refine DN.bind λa=>?_;split;exact .pure _;exact .pure _
theorem Kq:∀l:List Env,cq (fK e) (readyFrames l)
 |[]=>.pure _
 |v::r=>by
  unfold readyFrames;split;refine DK.bind λo=>?_;split;exact .pure _;refine cq.bind ?_ λi=>cq.bind ?_ λb=>cq.bind (.update (λs j=>Yp (by lia) s j)<|.pure ()) λ_=>Kq r;unfold behindIsImport;split;exact .pure _;split;exact .pure _;exact zP.bind λ_=>.pure _;unfold keptBack;split;split;exact .pure _;exact cq.bind (DN.bind λ_=>.pure _) λ_=>.pure _;exact .pure _;exact .unsupported _
theorem Yu:cq (fK e) (PySem.frameOf env):=by
 refine cq.bind (DN.bind λ_=>.pure _) λl=>cq.bind ?_ λr=>?_;unfold frameObject;split;exact .pure _;exact(Kq _).bind λ_=>.pure _;split;exact .pure _;exact .unsupported _
theorem Kr:cq (fK e) (noteFrame v env):=by
 unfold noteFrame;split;rename_i x d hq;refine zP.bind λh=>?_;have t:cq (fK e) (do let a <-PySem.frameOf env;let p <-entryPlaceOf d (h !=.none);let b <-EntryCells.newEntry h a .none (rawInt d) .none p;setField v 1 b):=
  Yu.bind λa=>Yt.bind λp=>cq.bind Ys λb=>DL (zan (zbM _))
 split;refine zP.bind λx=>?_;split;exact .pure _;exact(DL (zaD (zbM _))).bind λ_=>t;exact t;exact .unsupported _
theorem Ks{env:Env}:cq (fK e) (leaving env v):=by
 exact Kr.bind λ_=>DM
end
end L2
set_option maxHeartbeats 4000000
namespace L2
open PySem PySem.Spec PyProof.Rows
theorem cT.zQ{H:Hp}{h:Heap}{a:Addr}{o:HO}(x:cT P w H h a o):∃b,h.get? a=some b:=by
 cases o with
 |lst s=>obtain⟨_,_,_,_,e⟩:=x;exact⟨_,e⟩
 |tup s=>obtain⟨_,_,_,b,e,_⟩:=x;exact⟨_,e⟩
 |dK k=>obtain⟨_,_,_,_,o,_,_,e,_⟩:=x;exact⟨_,e⟩
 |dT k=>obtain⟨_,_,_,_,o,_,_,e,_⟩:=x;exact⟨_,e⟩
 |set S n=>obtain⟨o,_,_,_,e,_⟩:=x;exact⟨_,e⟩
 |ins C g c=>obtain⟨_,_,_,e,_⟩:=x;exact⟨_,e⟩
 |own y=>obtain⟨_,e⟩:=x;exact⟨_,e⟩
 |xd c=>obtain⟨_,⟨_,_,_,e,_⟩,_⟩:=x;exact⟨_,e⟩
 |gc l i=>obtain⟨_,_,_,e⟩:=x;exact⟨_,e⟩
 |bY b u=>obtain⟨e,_⟩:=x;exact⟨_,e⟩
 |mH p=>exact⟨_,(show h.get? a=some _ from x)⟩
 |met f y=>exact⟨_,(show h.get? a=some _ from x)⟩
 |ext d=>obtain⟨_,⟨_,e⟩,_⟩:=x;exact⟨_,e⟩
theorem cw.zR{h d:Heap}(f:cw P w H h)(k:∀b u,H b≠none->h.get? b=some u->d.get? b=some u):cw P w H d:=λa o e=>
 (f a o e).mI (λb u c g=>k b u (by
  rcases c with rfl|c
  rw[e];exact Option.some_ne_none _;rw[c];exact Option.some_ne_none _) g) (λ_ z=>z) (λ_ _ z=>z)
def gj(P:Program)(w:World):cE:=λr H s E e s'=>∃(d:Addr)(c:Value)(t:Addr)(a:Heap)(H':Hp),
 e=.ref d/\s'.os=s.os/\AllBare s'.gens/\Un (bR r) [] H H' s.heap s'.heap/\cw P w H' s'.heap/\Heap.FlyingW a r d c (.ref t) s'.heap/\fK d s'/\H' d=none/\
 (∀b,H' b≠none->∀o,s'.heap.get? b=some o->a.get? b=some o)/\(∀b o,s.heap.get? b=some o->b∉bR r->∀f,s'.heap.get? b=some f->a.get? b=some f)/\E c none H'
theorem zS{o:List Env}{H:Hp}{s:Shared}{e:Value}{s':Shared}(h:gj P w o H s E0 e s'):False:=by
 obtain⟨_,_,_,_,_,zq⟩:=qx5 h;obtain⟨_,_,_,_,_,_,_,_,_,_,h⟩:=qa11 zq;exact h
section
variable{P:Program}{w:World}{K:Frag}{mg:Str->Option Value}{base:Heap}{N:List Str}{qual:Str}{scope:Scope}{f:Addr}{cd:Value}{A:Around}{outer:List Env}{s₀:Shared}{H₀:Hp}{E:XK}
theorem Yv:Passes (gj P w) (oh (gj P w) P w K mg base N qual scope f cd A outer s₀ H₀ E) E:=by
 intro a' σ H s e S I hx;obtain⟨U,y,t,a,H',zq⟩:=qx5 hx;obtain⟨rfl,os,C,u,aG,M,wz,oG,c1,Y,hE⟩:=qa11 zq;have L:∀b o,s₀.heap.get? b=some o->b∉bR outer->b∉bR (envOfC qual scope s₀.heap.objs.size f cd::outer):=λb o h d D=>by
  rcases zac.mp D with rfl|z
  exact absurd (Heap.lt_size h) (Nat.not_lt.mpr I.ok.above);exact d z
 have ke:∀b∈bR (envOfC qual scope s₀.heap.objs.size f cd::outer),H' b=none:=λb h=>by
  obtain⟨o,j,_⟩:=(I.stack.mem h).2;exact u.free b o j (I.yT b h) zag
 refine wpAny_mono (wy Ks wz<|wpAny_leaves_onW (Q:=λ_ J=>∃p,J={S with heap:=p}/\Heap.FlyingW a outer U y (.ref t) p/\S.heap.UpToSlots p) (E:=λ_ _=>False) I.ok.frames O M λp x G=>⟨p,O,x,G⟩)
  (λ_ J hq=>?_) (λ_ _ z=>z.1.elim)
 obtain⟨⟨p,rfl,x,G⟩,DO⟩:=hq;have i:=λb o h d V X=>x.1 b V (Y b o h d V X);have W:=λb o h j=>x.1 b o (c1 b h o j);have F:∀b∈bR (envOfC qual scope s₀.heap.objs.size f cd::outer),∀o,S.heap.get? b=some o->∃R,p.get? b=some {o with slots:=R}:=λb h o j=>by
  obtain⟨k,B,hd⟩:=(M.2.2.1.mem h).2;rw[j] at B;cases B;exact G b o j hd
 refine⟨U,y,t,a,H',O,os.trans I.os,C,⟨λb o q n d _=>?_,λb o q n d _=>?_,λb o q n _=>?_,λb o q _=>?_,λb Z q=>u.bU b Z (I.base.bU b Z q),λb o v q=>u.gQ b o v (I.base.gQ b o v q),λb ps q=>?_⟩,
  aG.zR (λb o h j=>W b o h j),x,DO,oG,λb h o j=>?_,λb o q d V X=>?_,hE⟩
 have c:=I.base.keep b o q n d zag;have l:=L b o q d;exact i b o c l o<|u.keep b o c (I.base.free b o q n zag) l zag;obtain⟨R,c⟩:=I.base.slot b o q n d zag;have l:b∈bR (envOfC qual scope s₀.heap.objs.size f cd::outer):=zar _ d;obtain⟨vU,g⟩:=u.slot b _ c (I.base.free b o q n zag) l zag;obtain⟨DP,T⟩:=F b l _ g;exact⟨DP,T⟩;obtain⟨k,c⟩:=I.base.there b o q zag;exact u.free b k c (I.base.free b o q n zag) zag;obtain⟨k,c⟩:=I.base.there b o q zag;obtain⟨m,g⟩:=u.there b k c zag;by_cases D:b∈bR (envOfC qual scope s₀.heap.objs.size f cd::outer);obtain⟨R,T⟩:=F b D m g;exact⟨_,T⟩;exact⟨m,i b k c D m g⟩;obtain⟨m1,e1⟩:=I.base.iB b ps q;obtain⟨m2,e2⟩:=u.iB b _ e1;exact⟨m1++m2,by rw[e2,Array.append_assoc]⟩;obtain⟨gC,hH⟩:=zcd.mp h;obtain⟨m,g⟩:=(aG b gC hH).zQ;have r:=j;rw[(W b m h g)] at r;cases r;exact c1 b h _ g;obtain⟨k,c⟩:=I.base.there b o q zag;obtain⟨m,g⟩:=u.there b k c zag;have l:=L b o q d;have r:=X;rw[(i b k c l m g)] at r;cases r;exact Y b k c l _ g
def Raises(X:Cx)(E:XK):Prop:= ∀(p:List (Addr×Obj))(a:St)(H:Hp)(s:Shared)(h:Heap)(e:Addr)(c:Value)(vs:List Value),Inv X p a H s->Heap.MadeExcOf s.heap h e c vs->E c none H->X.xe (.ref e) {s with heap:=h}
theorem Yw:Raises (oh (gj P w) P w K mg base N qual scope f cd A outer s₀ H₀ E) E:=by
 intro G σ H s Z e p vs I x hE;have S:∀b o,s₀.heap.get? b=some o->b∉bR outer->b∉bR (envOfC qual scope s₀.heap.objs.size f cd::outer):=λb o h a m=>by
  rcases zac.mp m with rfl|z
  exact absurd (Heap.lt_size h) (Nat.not_lt.mpr I.ok.above);exact a z
 have F:∀v∈ (envOfC qual scope s₀.heap.objs.size f cd::outer),∀b,v.frame=some b->b∈bR (envOfC qual scope s₀.heap.objs.size f cd::outer):=λv M b h=>zbe.mpr ⟨v,M,h⟩;have B:fK e {s with heap:=Z}:=by
  obtain⟨t,J,_,_⟩:=x.there;exact⟨_,_,J,O,O,O⟩
 refine wpAny_mono (wy Ks B (wpAny_leaves_madeW (Q:=λ_ X=>∃g t,X={s with heap:=g}/\Heap.FlyingW (hideAll s.heap (bR (envOfC qual scope s₀.heap.objs.size f cd::outer))) outer e p (.ref t) g/\Z.UpToSlots g) (E:=λ_ _=>False)
  I.ok.frames O (λb o q=>of_hideAll _ q) (PySem.W.funFrames_hide I.stack F) x λg t r _ _ u=>⟨g,t,O,r,u⟩)) (λ_ X L=>?_) (λ_ _ z=>z.1.elim)
 obtain⟨⟨g,t,rfl,r,u⟩,DO⟩:=L;have i:=λb o h a=>r.1 b o (hideAll_get _ h a);have D:∀b,H b≠none->b∉bR (envOfC qual scope s₀.heap.objs.size f cd::outer):=λb h m=>h (I.yT b m);have V:∀b∈bR (envOfC qual scope s₀.heap.objs.size f cd::outer),∀o,s.heap.get? b=some o->∃y,g.get? b=some {o with slots:=y}:=λb h o c=>by
  obtain⟨j,T,Y⟩:=(I.stack.mem h).2;rw[c] at T;cases T;exact u b o (x.keeps b o c) Y
 refine⟨e,p,t,_,H,O,I.os,I.bare,⟨λb o q n a _=>?_,λb o q n a _=>?_,λb o q n _=>I.base.free b o q n zag,λb o q _=>?_,I.base.bU,I.base.gQ,I.base.iB⟩,
  I.aG.zR (λb o h c=>i b o c (D b h)),r,DO,?_,λb h o c=>?_,λb o q a o' gf=>?_,hE⟩
 exact i b o (I.base.keep b o q n a zag) (S b o q a);obtain⟨y,d⟩:=I.base.slot b o q n a zag;obtain⟨DP,C⟩:=V b (zar _ a) _ d;exact⟨DP,C⟩;obtain⟨j,d⟩:=I.base.there b o q zag;by_cases m:b∈bR (envOfC qual scope s₀.heap.objs.size f cd::outer);obtain⟨y,C⟩:=V b m j d;exact⟨_,C⟩;exact⟨j,i b j d m⟩;cases q:H e with
 |none=>rfl
 |some c=>
  obtain⟨R,k⟩:=(I.aG e c q).zQ;rw[x.new] at k;cases k
 obtain⟨gC,hH⟩:=zcd.mp h;obtain⟨R,k⟩:=(I.aG b gC hH).zQ;have l:=c;rw[(i b R k (D b h))] at l;cases l;exact hideAll_get _ k<|D b h;obtain⟨j,d⟩:=I.base.there b o q zag;have U:=S b o q a;have l:=gf;rw[(i b j d U)] at l;cases l;exact hideAll_get _ d U
end
section
variable{X:Cx}
theorem Yx{V:List Value}{b n L:String}{e:Expr}{d:List Expr}{t:TA}{r R k:Pos}{E:XK}(hc:X.calm=true)(a:OwnCls x C V n X.mg X.base)(F:ExcBaseFacts b n L V)(DR:Gl X x)(hd:(x==("__debug__":Str))=false)(ha:PA X (e::d) t)(K:starEach (e::d) X.env=(false,eval e X.env)::starEach d X.env)(h1:(backTo R<|starEach d X.env).any (·.1)=false)(hR:Raises X E):
  PS X (.Raise (some<|.Call (.Name x r) (e::d) [] R) none k) (Dx C E t):=by
 intro p s i H D I h;obtain⟨tl,N,u,q,S,c,o,g,Z,l,Q,G,A,z,y,w,mN,hC,hN,J,T⟩:=a.obj;have hg:PE X (.Name x r) (tC<|.ref C):=Ia DR a.bound O hd;refine wpAny_Raise_call_subT (C:=C) (nm:=u) (q:=q) (N:=N) (bs:=S) (hdct:=c) (sn:=o) (sub:=g) (ab:=Z) (col:=l) (dd:=Q) (k0:=G) (k1:=A) (k2:=z) (k3:=y) (k5:=w)
  F (T.hasType F.hasBase) (I.ok.hd hc) (by rw[K];show(false ||(backTo R<|starEach d X.env).any (·.1))=false;rw[h1];rfl) J
  (aM (hg p s i H (λv m=>v=.ref C/\Dx C E t D i m) I ⟨O,h⟩) λf W ⟨v,m,I1,r1,ev,q1⟩=>?_)
 subst ev;obtain rfl:f=Value.ref C:=r1;refine⟨O,?_⟩;have P:=ha R p W i m _ I1 q1;rw[K] at P⊢;refine Calls.evalArgs_plain<|aM P λus U ⟨vs,H2,j,Y,hl,q2⟩=>⟨O,?_,j.bk _ _ hC,hN.keeps j.bk,T.keeps j.bk,λh' e' hm=>hR p i H2 U h' e' _ _ j hm q2⟩;have:=Y.length;lia
end
theorem Kt{l:List Env}{H H':Hp}{h j k a:Heap}(u:Un (bR l) [] H H' h j)(G:cw P w H' j)(Q:j.FunFrames a l)(A:∀b,H' b≠none->∀o,j.get? b=some o->a.get? b=some o)(z:∀b o,h.get? b=some o->b∉bR l->∀e,j.get? b=some e->a.get? b=some e)(st:a.StaysIn k)(D:j.UpToSlots k):
  Un (bR l) [] H H' h k/\cw P w H' k/\(∀b,H' b≠none->∀o,k.get? b=some o->a.get? b=some o)/\(∀b o,h.get? b=some o->b∉bR l->∀e,k.get? b=some e->a.get? b=some e):=by
 have Z:=λb o c f=>st b o (A b c o f);have i:=λb o c d e r=>st b e (z b o c d e r);have x:∀b∈bR l,∀o,j.get? b=some o->∃s,k.get? b=some {o with slots:=s}:=λb c o f=>by
  obtain⟨p,v,I⟩:=(Q.mem c).2;rw[f] at v;cases v;exact D b o f I
 refine⟨⟨λb o q n d _=>i b o q d o<|u.keep b o q n d zag,λb o q n d _=>?_,u.free,λb o q _=>?_,u.bU,u.gQ,u.iB⟩,G.zR<|λb o c f=>Z b o c f,λb c o f=>?_,λb o q d e r=>?_⟩;obtain⟨s,m⟩:=u.slot b o q n d zag;obtain⟨C,g⟩:=x b d _ m;exact⟨C,g⟩;obtain⟨p,m⟩:=u.there b o q zag;by_cases y:b∈bR l;obtain⟨s,E⟩:=x b y p m;exact⟨_,E⟩;exact⟨p,i b o q y p m⟩;obtain⟨N,K⟩:=zcd.mp c;obtain⟨t,g⟩:=(G b N K).zQ;rw[(Z b t c g)] at f;cases f;exact A b c _ g;obtain⟨t,g⟩:=u.there b o q zag;rw[(i b o q d t g)] at r;cases r;exact z b o q d _ g
noncomputable def Cx.alt(X:Cx)(A:Around)(c:Bool)(p:List (Addr×Obj))(x:Value->Shared->Prop):Cx:={X with A:=A,calm:=c,pn:=p,xe:=x}
theorem Inv.alt{pn':List (Addr×Obj)}{c:St}{H:Hp}{s:Shared}{b:Around}{calm':Bool}{D:Value->Shared->Prop}(I:Inv X a c H s)(f:b.frames=X.A.frames)(e:calm'=true->b.handled=none)(d:∀p∈pn'++pins',p∈X.pn++a):
  Inv (X.alt b calm' pn' D) pins' c H s where
 ok:=⟨I.ok.mod,I.ok.kind,I.ok.glob,I.ok.blt,I.ok.above,I.ok.inj,I.ok.has,I.ok.yP,e,f.trans I.ok.frames,I.ok.ke,I.ok.Ti,I.ok.bs,I.ok.pO,I.ok.yQ,I.ok.yR,I.ok.kf,I.ok.rB⟩
 os:=I.os
 bare:=I.bare
 base:=I.base
 loc:=I.loc
 cell:=I.cell
 free:=I.free
 i5:=I.i5
 pin:=λp h=>I.pin p (d p h)
 aG:=I.aG
 len:=I.len
theorem Inv.DT{a pins' pn':List (Addr×Obj)}{b:St}{H:Hp}{s:Shared}{A:Around}{calm':Bool}{D:Value->Shared->Prop}(o:X.Ok)(I:Inv (X.alt A calm' pn' D) pins' b H s)(c:∀p∈X.pn++a,p∈pn'++pins'):
  Inv X a b H s where
 ok:=o
 os:=I.os
 bare:=I.bare
 base:=I.base
 loc:=I.loc
 cell:=I.cell
 free:=I.free
 i5:=I.i5
 pin:=λp h=>I.pin p (c p h)
 aG:=I.aG
 len:=I.len
theorem Yy{H:Hp}{h:Heap}{e:Addr}{o:Obj}(a:h.get? e=some o):cT P w H h e (.bY o oB):=
 ⟨a,trivial,⟨o,a⟩,λ_ _ _ _=>trivial⟩
theorem cw.more{H:Hp}{h:Heap}{a:Addr}{o:HO}(k:cw P w H h)(d:H a=none)(x:cT P w (upd H a o) h a o):cw P w (upd H a o) h:=λb u e=>by
 by_cases z:b=a;subst z;rw[ar] at e;cases e;exact x;rw[aF z] at e;exact(k b u e).mI (λ_ _ _ q=>q) (λc q=>by rw[aF<|a_ q d];exact q) (λc s q=>by rw[aF<|a_ q d];exact q)
section
variable{X:Cx}
theorem Inv.Yz{A:St}{H:Hp}{s:Shared}{t:Heap}{w:Str->Option Value}{C:Nat}(I:Inv X g A H s)(k:t.Ns X.env.locals w)(f:Heap.SameBut X.env.locals s.heap t):
  Inv X g (List.replicate X.N.length none) H {s with heap:=t,toks:=C} where
 ok:=I.ok
 os:=I.os
 bare:=I.bare
 base:=by
  have l:∀b o,X.s₀.heap.get? b=some o->b≠X.env.locals:=λb o q z=>by
   rw[z] at q;exact absurd (Heap.lt_size q)<|Nat.not_lt.mpr I.ok.above
  refine⟨λb o q n k j=>(f.2 b<|l b o q).trans<|I.base.keep b o q n k j,λb o q n k j=>?_,I.base.free,λb o q j=>?_,I.base.bU,I.base.gQ,I.base.iB⟩;obtain⟨D,e⟩:=I.base.slot b o q n k j;exact⟨D,(f.2 b<|l b o q).trans e⟩;obtain⟨E,e⟩:=I.base.there b o q j;exact⟨E,(f.2 b<|l b o q).trans e⟩
 loc:=⟨w,k,λi x v S r=>by
  rw[List.getElem?_replicate] at r;split at r<;>cases r⟩
 cell:=λx c h=>by
  obtain⟨v,o,e,d⟩:=I.cell x c h;refine⟨v,o,(f.2 c<|λz=>?_).trans e,d⟩;obtain⟨m,⟨R,T,V,Q,y,_⟩,_⟩:=I.loc;rw[z,Q] at e;cases e;rw[d] at y;cases y
 free:=I.free
 i5:=I.i5
 pin:=λp K=>by
  obtain⟨a,b,c,d,e⟩:=I.pin p K;exact⟨(f.2 _ c).trans a,b,c,d,e⟩
 aG:=I.aG.zR λb u P G=>(f.2 b<|λz=>P (z▸I.free)).trans G
 len:=zaJ
theorem YA{C:Addr}{i:Nat}{V:List Stmt}{R:Stmt}{DU:List Stmt}{tb:XK->TS}{th:Addr->TS}{np zU f':Pos}(fE:X.stack=X.env::X.outer)(wB:X.env.frame=some X.env.locals)(k':X.ex=[])(DR:Gl X x)(hd:(x==("__debug__":Str))=false)(oj:X.mg x=some (.ref C))(nd:X.N.Nodup)(hN:X.N[i]?=some n)(pS:X.env.scope.names.lookup n=some .local)(hb:∀(pn:List (Addr×Obj))(xe:Value->Shared->Prop)(E:XK),PassesOwn (model X.prog X.w) X.A X.env xe->Passes (gj X.prog X.w) (X.alt X.A X.calm pn xe) E->dZ (X.alt X.A X.calm pn xe) V (tb E))(hh:∀(d:Addr)(pn:List (Addr×Obj)),dZ (X.alt (X.A.mark<|some<|.ref d) false pn λ_ _=>False) (R::DU)<|th d):
  PS X (.Try V [.ExceptHandler (some<|.Name x np) (some n) (R::DU) zU] [] [] f') (zJ X.K C i X.N.length tb th):=by
 intro c s σ H D I h;refine wpAny_Try_except ?_;have P1:Passes (gj X.prog X.w) (X.alt X.A X.calm (X.pn++c) λe c'=>wpAny (model X.prog X.w) X.A (noteFrame e X.env) (λ_ b'=>wpAny (model X.prog X.w) X.A (setFlight e none) (λ_ a'=>wpAny (model X.prog X.w) X.A (handleBy e X.env [.ExceptHandler (some<|.Name x np) (some n) (R::DU) zU]) (SP X c D) X.xe a') X.xe b') X.xe c') (zI X.K C i X.N.length th D):=by
  intro P g H1 s1 e' y I1 hx;obtain⟨d,j,t,a,J,zq⟩:=qx5 hx;obtain⟨rfl,os,Z,u,aG,fl,wz,oG,c1,c2,hm,YB⟩:=qa12 zq;have YC:X.A.frames=some (X.env::X.outer):=by rw[I.ok.frames,fE]
  refine wpAny_mono (wy Kr wz<|wpAny_looks_onW (Q:=λ_ i8=>∃G,i8={y with heap:=G}/\Heap.HeldW a (X.env::X.outer) d j (.ref t) X.env.locals G/\y.heap.UpToSlots G) (E:=λ_ _=>False) YC wB (fE▸fl) λh4 jL DV=>⟨h4,O,jL,DV⟩)
   (λ_ s4 hq=>?_) (λ_ _ z=>z.1.elim)
  obtain⟨⟨h4,rfl,jL,DV⟩,YD⟩:=hq;refine wpAny_mono (wy DM YD<|wpAny_landsW (Q:=λ_ i8=>∃G,i8={y with heap:=G}/\Heap.FlyingW a (X.env::X.outer) d j (.ref t) G/\h4.UpToSlots G) (E:=λ_ _=>False) jL λF M DW=>⟨F,O,M,DW⟩)
   (λ_ s5 hq=>?_) (λ_ _ z=>z.1.elim)
  obtain⟨⟨F,rfl,YE,DW⟩,YF⟩:=hq;have M:Heap.FlyingW a X.stack d j (.ref t) F:=by lia
  obtain⟨u5,Ku,YG,YH⟩:=qa4 (Kt u aG fl.2.2.1 c1 c2 M.1 (DV.trans DW));obtain⟨oe,ws,YI,YJ,n',l'⟩:=M.first
  have I5:=I1.Cy (s':={y with heap:=F}) os u5 Ku Z (λb z=>absurd z zag);refine wpAny_handleBy_cons (codeAny_handlers_test ?_) (by intro q;cases q);have vR:Inv (X.alt (X.A.mark<|some<|.ref d) false (X.pn++c) λ_ _=>False) [] g J {y with heap:=F}:=I5.alt O (λz=>nomatch z) (λp k=>zad.mpr<|.inl (by rw[zae] at k;exact k));refine vN vR DR oj ?_ hd;have LT:PySem.W.Looks (model X.prog X.w) F (typeOf<|.ref d) j:=by
   subst YJ;exact(PySem.W.Looks.ld YI).andThen .now
  refine(PySem.W.exm_one I5.dv LT hm).here ?_;refine codeAny_handlers_suite_as ?_;refine wpAny_mono (wy DM YF<|lands_againW (Q:=λ_ i8=>∃G,i8={y with heap:=G}/\Heap.FlyingW a X.stack d j (.ref t) G/\F.UpToSlots G) (E:=λ_ _=>False) M λU L DX=>⟨U,O,L,DX⟩)
   (λ_ s6 hq=>?_) (λ_ _ z=>z.1.elim)
  obtain⟨⟨U,rfl,L,DX⟩,YK⟩:=hq;obtain⟨B,YL,DY,zV⟩:=qa4 (Kt u5 Ku M.2.2.1 YG YH L.1 DX);obtain⟨Y,Kv,zq⟩:=qx2 L.first;obtain⟨zW,YM,DZ,_⟩:=qa4 zq
  have YN:zH Y j Kv:=by
   obtain⟨o',j',q1,q2,q3,q4⟩:=YK;have mS:=q1;rw[zW] at mS;cases mS;rw[DZ] at q2;cases q2;exact⟨YM,DZ,q3,q4⟩
  have g':s1.heap.get? d=none:=by
   cases q:s1.heap.get? d with
   |none=>rfl
   |some o1=>
    by_cases Kw:d∈bR X.stack;obtain⟨o2,gC,i'⟩:=(L.2.2.1.mem Kw).2;rw[zW] at gC;cases gC;exact(i' _ DZ).elim;have:=zV d o1 q Kw Y zW;rw[L.2.1] at this;cases this
  have u7:Un (bR X.stack) [] H1 (upd J d (.bY Y oB)) s1.heap U:=⟨B.keep,B.slot,λb o q n hx=>by
    rw[aF (λz=>by lia)];exact B.free b o q n hx,B.there,λb xs q=>by
    have T:=B.bU b xs q;rw[aF<|a_ T oG];exact T,λb o v q=>by
    have T:=B.gQ b o v q;rw[aF<|a_ T oG];exact T,λb ps q=>by
    obtain⟨d',T⟩:=B.iB b ps q;exact⟨d',by rw[aF (a_ T oG)];exact T⟩⟩
  have I8:Inv (X.alt (X.A.mark<|some<|.ref d) false (X.pn++c) λ_ _=>False) [] g (upd J d<|.bY Y oB) {y with heap:=U}:=(I1.Cy (s':={y with heap:=U}) os u7 (YL.more oG (Yy zW)) Z (λb z=>absurd z zag)).alt O (λz=>nomatch z) (λp k=>zad.mpr<|.inl (by rw[zae] at k;exact k));refine Cw (X:=X.alt (X.A.mark<|some<|.ref d) false (X.pn++c) λ_ _=>False) (v:=.ref d) I8 nd hN (.inl pS) O (λs9 I9=>wpAny_mono (hh d (X.pn++c) [] s9 _ _ {nx:=λ_ _=>False,rt:=D.rt} I9<|YB d Y Kv g oG I1.len YN) (λf uB S=>?_) λ_ _ z=>z.elim)<|.inr pS;cases f with
  |next=>obtain⟨_,_,_,z⟩:=S;exact z.elim
  |brk=>obtain⟨_,_,_,z⟩:=S;exact z.elim
  |cont=>obtain⟨_,_,_,z⟩:=S;exact z.elim
  |ret v=>
   obtain⟨v',YQ,qi,zq⟩:=qx3 S;obtain⟨YR,r,q⟩:=qa3 zq;have Kx:=YR.DT I.ok (λp k=>by simpa using k);obtain⟨m,hn,_⟩:=Kx.loc;refine wpAny_nameGoes pS hn (by rw[I.ok.kind];rfl) λG m' Cu sb=>?_;exact⟨v',_,qi,Kx.Yz Cu sb,r,q⟩
 refine wpAny_mono (hb _ _ _ PassesOwn.looking P1 [] s σ H {nx:=D.nx,rt:=D.rt} (I.alt O I.ok.hd (λp k=>by simpa using k)) h) (λf s1 S=>?_) λe' y hx=>hx;cases f with
 |next=>
  obtain⟨g,J,I',q⟩:=S;exact Ik c s1 g J D (I'.DT I.ok (λp k=>by simpa using k)) q
 |brk=>obtain⟨_,_,_,z⟩:=S;exact z.elim
 |cont=>obtain⟨_,_,_,z⟩:=S;exact z.elim
 |ret v=>
  obtain⟨v',g,J,I',r,q⟩:=S;exact⟨v',g,J,I'.DT I.ok (λp k=>by simpa using k),r,q⟩
end
def jc(A:Around)(H:Hp):Prop:= ∃e D,A.handled=some (.ref e)/\ExcAt H e D
def Hd(X:Cx):Prop:=jc X.A X.H₀
theorem ExcAt.keeps{e D:Addr}(h:ExcAt H e D)(k:∀b o u,H b=some (.bY o u)->H' b=some (.bY o u)):ExcAt H' e D:=by
 obtain⟨a,v,d,c⟩:=h;exact⟨a,v,k _ _ _ d,c⟩
theorem jc.keeps(h:jc A H)(k:∀b o u,H b=some (.bY o u)->H' b=some (.bY o u)):jc A H':=by
 obtain⟨e,D,c,a⟩:=h;exact⟨e,D,c,a.keeps k⟩
theorem jc.qg{A:Around}{H:Hp}{h:Heap}(x:jc A H)(o:cw P w H h):jK A h:=by
 obtain⟨e,D,d,b,v,c,a⟩:=x;exact .inr ⟨e,b,v,d,(o e _ c).1,a.data,a.Xs⟩
section
variable{X:Cx}{pins:List (Addr×Obj)}{σ:St}{H:Hp}{s:Shared}
theorem Hd.at(h:Hd X)(I:Inv X pins σ H s):jc X.A H:=jc.keeps h I.base.gQ
theorem Hd.qg(h:Hd X)(I:Inv X pins σ H s):jK X.A s.heap:=(h.at I).qg I.aG
end
theorem YS{K:Frag}{tg:Expr}(a it:Addr):Dq Hd P w K tg (i6 K a) [it] it (λi h=>h.IsListIter it a i) where
 mem:=by simp
 obj:=(y3 (P:=P) (w:=w) (K:=K) (tg:=tg) a it).obj
 keep:=(y3 (P:=P) (w:=w) (K:=K) (tg:=tg) a it).keep
 item:=by
  intro X n l v G i f s Q H E I j t m;subst n l v;obtain⟨R,x,q,k⟩:=m;obtain⟨M,r,p,V⟩:=I.list q;obtain⟨u,B,T⟩:=r.get k;obtain⟨D,C,J,A,z,y⟩:=qa6 (j it (by simp));refine wpAny_pyNext_list_item t p.isList (by simpa using B) λF N S=>?_;obtain⟨o,e,c,d⟩:=id N;exact⟨u,O,CG e c d (O) ⟨x,H,(I.turned (λb o g e=>(S.2 b g).trans e) D C A z y),T,⟨O,λU Z=>by rw[I.yX Z q];exact k⟩,N,λb g=>(j b g).1⟩⟩
 done:=by
  intro X n l v G i f s Q H E I j t m;subst n l v;obtain⟨R,q,k⟩:=m;obtain⟨M,r,p,V⟩:=I.list q;obtain⟨D,C,J,A,z,y⟩:=qa6 (j it (by simp));have W:=r.length;exact Ya (G.qg I) t p.isList (by simp;lia) λF L=>⟨O,I.turned (λb o g e=>L b o g e) D C A z y⟩
 self:=(y3 (K:=K) (tg:=tg) a it).self
section
variable{X:Cx}{tg:Expr}
theorem YT(k:PE X l t):zw Hd X tg l (vP X.K t):=by
 intro c s g H R I h;refine aM (k c s g H _ I h) λv f ⟨x,n,d,r,i⟩=>?_;obtain⟨a,e,⟨u,j⟩,q⟩:=i;subst e;cases r;obtain⟨y,w,p,z⟩:=d.list j;refine wpAny_pyIter_list p.isList (⟨f.heap.objs.size,[f.heap.objs.size],_,_,n,O,d.kept λb o e=>Heap.get?_push_of_some _ e,YS a _,⟨_,Heap.get?_push_size _ O,O,O⟩,λb m=>?_,q⟩);have e:=by simpa using m
 subst e;exact d.y2 (zqR _)<|d.aG.fresh<|zqR _
theorem YU{d:Pos}{c:List Expr}{k:Nat}{t:kZ}{n:Nat}(y:Hd X)(h:rD X c t)(l:(assignEach c X.env).length=n:=by rfl)(E:(assignEach c X.env).findIdx? (·.1)=none:=by rfl):PG X (.Tuple c k d) (yZ X.K n t):=by
 intro p s f H v u Q I r w;obtain⟨a,x,z,q,m,w⟩:=w;subst z;cases r;obtain⟨D,g,j,A⟩:=I.tuple q;refine Ye (y.qg I) j (by simp[l,<-m,g.length]) E λC i=>?_;exact h p _ f H x _ Q (I.kept λb o e=>i b o (zan<|Heap.lt_size e) e) (by lia) w
theorem YV{x y:Str}{n m i:Pos}{k:Nat}(D:e.names.lookup x=some .local)(z:e.names.lookup y=some .local)(V:(x::y::g.map (·.1)).Nodup):zx (jc X.A) X e [x,y] g (.Tuple [.Name x n,.Name y m] k i) (some 2):=by
 intro I C s H G;generalize eX:iI X e ([x,y]++g.map (·.1)) I C s H=c;have l:c.N=x::y::g.map (·.1):=eX▸O;have t:Hd c:=eX▸G;have r:c.env.scope.names.lookup x=some .local:=eX▸lookup_relabel_local D;have o:c.env.scope.names.lookup y=some .local:=eX▸lookup_relabel_local z;have w:PG c (.Name x n) (e9 0):=t_ (by lia) (l▸O) (.inl r) (.inr r);have u:PG c (.Name y m) (e9 1):=t_ (by lia) (l▸O) (.inl o) (.inr o);have T:c.K=X.K:=eX▸O;refine⟨yZ c.K 2<|ua (e9 0)<|ua (e9 1) yY,YU t<|vO w<|vO u CD,λv p S B Q E h=>?_⟩;obtain⟨a,b,rfl⟩:∃a b,p=[a,b]:=by
  match p,E with
  |[a,b],_=>exact⟨a,b,O⟩
 obtain⟨R,j,rfl,Z,P,q⟩:=h;obtain⟨f,d,rfl⟩:∃f d,j=[f,d]:=by
  match j,P with
  |[f,d],_=>exact⟨f,d,O⟩
 exact⟨R,_,O,by lia,O,f,_,O,d,_,O,O,q O⟩
theorem YW:∀H,jc X.A H->∀c:Cx,c.A=X.A->c.calm=X.calm->c.H₀=H->Hd c:=λH h c a _ b=>by
 show jc c.A c.H₀;rw[a,b];exact h
theorem YX:eJ X (.builtin "isinstance") (mP X.K):=by
 intro p s w H x A Q I r h
 rcases x with _|⟨x,_|⟨c,_|_⟩⟩<;>first|exact False.elim h|cases x<;>first|exact False.elim h|skip
 case ref e=>
  obtain⟨D,b,⟨o,y,m,d⟩,a,l,k,q⟩:=h;cases r with
  |cons j r=>
   cases r with
   |cons f r=>
    cases r
    rename_i g u
    cases (show g=Value.ref e from j)
    have v:u=cV c:=by
     rcases l with⟨C,rfl⟩|⟨n,rfl⟩
     exact f
     exact f
    subst v;have i:InstAt s.heap e o D none:=⟨((I.aG e _ m).1),d.cls,by unfold PySem.W.notCls;rw[d.data],by rw[d.dict];trivial⟩
    exact kia_one (Yi a.we a.wg a.hk a.ha a.hn a.pP a.hm a.hb) I.dv i k (λz=>nomatch z) λt=>⟨.bl b,H,I.tok t,O,q⟩
end
structure jd(k:Nat)(A:Around):Prop where
 dp:A.depth+3*k+5<recursionLimit
 un:A.units+16*k+200<cLine
 gd:A.guards=some []:=by rfl
theorem d4.h(r:d4 k A):jd k A:=⟨r.dp,r.un,r.gd⟩
theorem jd.mark(r:jd k A)(v:Option Value):jd k (A.mark v):=⟨r.dp,r.un,r.gd⟩
theorem jd.deeper(r:jd (k+1) A)(env:Env):jd k (A.deeper env):=
 ⟨by have:=r.dp;show A.depth+1+3*k+5<_;lia,by have:=r.un;show A.units+3+16*k+200<_;lia,r.gd⟩
theorem jd.depth(r:jd k A):A.depth<recursionLimit:=by have:=r.dp;lia
theorem jd.units(r:jd k A):A.units+64<cLine:=by have:=r.un;lia
def YY(o:List Env)(P:Program)(w:World)(H:Hp)(s:Shared)(Q:VK)(r:Result)(s':Shared):Prop:=
 match r with
 |.ok (.ret u)=>CE o P w H s Q u s'
 |_=>False
structure rY(P:Program)(w:World)(K:Frag)(mg:Str->Option Value)(base:Heap)(k:Nat)(f:Addr)(fd:FuncData)(ps:List Str)(sp:Sp):Prop where
 len:∀vs H Q E,sp vs H Q E->vs.length=ps.length
 run:∀(A:Around)(outer:List Env)(s:Shared)(H:Hp)(args:Args)(us:List Value)(vs:List V)(Q:VK),jd k A->jc A H->n_ P w K mg base A outer s H->BindsTo s fd args (ps.zip us)->Vals vs us->sp vs H Q E0->
  codeAny (model P w) A (.call (.ref f) args) (YY outer P w H s Q) s
theorem rY.mono{K:Frag}{m:Str->Option Value}{b:Heap}{j k:Nat}{f:Addr}{d:FuncData}{p:List Str}{sp:Sp}(a:rY P w K m b j f d p sp)(h:j<=k):rY P w K m b k f d p sp:=
 ⟨a.len,λA o s H c u v Q r=>a.run A o s H c u v Q ⟨by have:=r.dp;lia,by have:=r.un;lia,r.gd⟩⟩
noncomputable def zX(CX:cE)(P:Program)(w:World)(K:Frag)(m:Str->Option Value)(b:Heap)(N:List Str)(q:Str)(e:Scope)(f:Addr)(c:Value)(A:Around)(o:List Env)(s:Shared)(H:Hp):Cx:=
 (oh CX P w K m b N q e f c {A with handled:=none} o s H E0).alt (A.deeper<|envOfC q e s.heap.objs.size f c) false [] λ_ _=>False
theorem YZ{w:World}{K:Frag}{G:Str->Option Value}{g:Heap}{k:Nat}{f:Addr}{C l:Str}{h:Arguments}{j:List Stmt}{c:Scope}{dV U Z M D ct oc:Value}{an od:Option Addr}{iE:Array (Option Value)}{N B:List Str}{sp:Sp}(lk:K.lookup f=some ⟨oc,od,.func<|PySem.W.fnOf C l h j c dV U Z M an D ct,iE⟩)(jx:PySem.W.codeIn K D l=true)(S:pQ N B c)(T:∀vs H Q E,sp vs H Q E->vs.length=B.length)(CU:∀(A:Around)(d:List Env)(s:Shared)(H:Hp)(vs:List V)(Q:VK),jd k (A.deeper (envOfC l c s.heap.objs.size f D))->jc A H->sp vs H Q E0->
   ∃t,dZ (zX CX P w K G g N l c f D A d s H) j t/\t {nx:=λ_ H'=>Q .aD H',rt:=Q} (start N vs) H):
  rY P w K G g (k+1) f (PySem.W.fnOf C l h j c dV U Z M an D ct) B sp:=by
 refine⟨T,λA d s H a' us vs Q hr hh i hb r Y=>?_⟩;have KX:=i.mod.rA.keeps λb o e=>(i.bs b o e).1;have CV:∀y∈B.zip us,c.names.lookup y.1=some .local\/(c.names.lookup y.1=some .cell/\((cellsFrom (s.heap.objs.size+1) c.names []).lookup y.1).isSome=true):=λ⟨n,v⟩ hy=>by
  rcases S.par n (zbN hy).1 with q|q
  exact .inl q;exact .inr ⟨q,cellsFrom_some _ _ _<|.inl q⟩
 refine codeAny_call_function hr.depth (KX _ _ lk) O S.co S.gen O (codeRec_of KX jx)<|hb _ _ _ _ (wpAny_newFunctionEnv_cells S.kind CV λb' he F x=>?_);subst he;refine⟨(i.mod.nolimit.keeps λb o e=>(i.bs b o e).1).keeps x.toInCall.keep,codeAny_func ?_⟩;obtain⟨t,ht,hq⟩:=CU A d s H vs Q (hr.deeper _) hh Y;have Y0:n_ P w K G g {A with handled:=none} d s H:=⟨i.frames,i.mod,i.bs,i.pO,i.kf,i.rB,i.aG,i.bare⟩;have I0:Inv (oh CX P w K G g N l c f D {A with handled:=none} d s H E0) [] (start N vs) H F:=Jc S O Y0 (T _ _ _ _ Y) r x;have I:Inv (zX CX P w K G g N l c f D A d s H) [] (start N vs) H F:=I0.alt O (λz=>nomatch z) (λp hp=>hp);refine wpAny_mono (ht [] F (start N vs) H _ I hq) (λfl J R=>?_) λe J R=>R.elim;have X:∀{m:St}{H':Hp}{v:V}{u:Value},Inv (zX CX P w K G g N l c f D A d s H) [] m H' J->RelV v u->Q v H'->CE d P w H s Q u J:=
  λ{m H' v u} a L q=>⟨v,H',a.os,a.bare,a.base,a.aG,L,q⟩
 cases fl with
 |ret u=>
  obtain⟨v,m,H',a,L,q⟩:=R;exact X a L q
 |next=>
  obtain⟨m,H',a,q⟩:=R;exact X (v:=V.aD) a O q
 |brk=>
  obtain⟨_,_,_,q⟩:=R;exact False.elim q
 |cont=>
  obtain⟨_,_,_,q⟩:=R;exact False.elim q
theorem Y1{K:Frag}{m:Str->Option Value}{b:Heap}{N:List Str}{q:Str}{e:Scope}{f:Addr}{c:Value}{A:Around}{o:List Env}{s:Shared}{H:Hp}(h:jc A H):Hd (zX CX P w K m b N q e f c A o s H):=h
section
variable{X:Cx}{k:Nat}{f:Addr}{fd:FuncData}{ps:List Str}{sp:Sp}{x:Str}{p pos:Pos}{e:Expr}{ta:TE}{hv:Option Addr}
theorem Y2(a:rY X.prog X.w X.K X.mg X.base k f fd ps sp)(z:jd k X.A)(N:Gl X x)(C:X.mg x=some (.ref f))(E:PySem.W.keepIn X.K (.ref f)=true)(P:Binds X.K fd ps [])(G:∀e,hv=some e->X.A.handled=some (.ref e))(R:PE X e ta)(y:noStar e=true)(t:(x==("__debug__":Str))=false):PE X (.Call (.Name x p) [e] [] pos) (J_ sp hv<|d5 ta i7):=by
 intro b s o H Q I h;have m:starEach [e] X.env=(false,eval e X.env)::starEach [] X.env:=by cases e<;>first|rfl|cases y
 refine wpAny_Call_Name_kw<|vN I N C (callWith_K I.ok.mod.rA E (aM ((nZ R uf m) pos b s o H _ I h) λg i ⟨v,Z,d,r,⟨n,D,T,S⟩,q⟩=>⟨d.dv,?_⟩) m O) t;have j:=r;have l:=P i g d.dv (by rw[zae];exact (j.length▸a.len _ _ _ _ q));rw[zae] at l;refine wpAny_call<|codeAny_mono (a.run X.A X.stack i Z ⟨g,[]⟩ g v Q z ⟨n,D,G n T,S⟩ d.CO l j q) λr B c=>?_;cases r with
 |error e=>exact False.elim c
 |ok V=>
  cases V with
  |ret u=>exact d.after c
  |next=>exact False.elim c
  |brk=>exact False.elim c
  |cont=>exact False.elim c
end
def Ky(CX:cE)(X:Cx)(x:Str)(sp:Sp):Prop:=
 ∃k f d p,de X.prog X.w X.K X.mg X.base CX k f d p sp/\d4 k X.A/\X.mg x=some (.ref f)/\PySem.W.keepIn X.K (.ref f)=true/\Binds X.K d p []
def zY(CX:cE)(X:Cx)(C:Addr)(m:Str)(sp:Sp):Prop:=
 gT X.K C/\∃k f d p,Meth X.K C m f/\de X.prog X.w X.K X.mg X.base CX k f d p sp/\d4 k X.A/\Binds X.K d p []
def Kz(CX:cE)(X:Cx)(x:Str)(C:Addr)(sp:Sp):Prop:=
 ∃k f d p,Mk X.K C f/\de X.prog X.w X.K X.mg X.base CX k f d p sp/\d4 (k+1) X.A/\X.mg x=some (.ref C)/\Binds X.K d p []
def KA(X:Cx)(x:Str)(sp:Sp):Prop:=
 ∃k f d p,rY X.prog X.w X.K X.mg X.base k f d p sp/\jd k X.A/\X.mg x=some (.ref f)/\PySem.W.keepIn X.K (.ref f)=true/\Binds X.K d p []
def KC(X:Cx)(x:Str)(C:Addr):Prop:= ∃b a n u,OwnCls x C b n X.mg X.base/\ExcBaseFacts a n u b
structure Good(CX:cE)(S:df)(Γ:ba)(X:Cx):Prop where
 N:X.N=S.N
 sc:X.env.scope=S.sc
 K:X.K=Γ.K
 calm:S.md=0->X.calm=true
 units:X.A.units+64<cLine
 gd:X.A.guards=some []
 fns:S.md=0->∀j x,S.fn[j]?=some x->Ky CX X x (Γ.fs j)
 fN:∀j x,S.gn[j]?=some x->∃u,X.mg x=some u/\RelV (Γ.gv j) u
 gk:∀x,S.bl.contains x=true->X.mg x=none
 pass:Passes CX X Γ.E
 mT:∀outer H s e s',CX outer H s E0 e s'->False
 oH:∀p kvs,Γ.sd p kvs->∀h:Heap,X.K.In h->∃vs,KV kvs vs/\h.DictOf (eQ X.prog X.w) p vs
 oI:S.md=0->∀j m,S.mn[j]?=some m->zY CX X (Γ.ms j).1 m (Γ.ms j).2
 qj:S.md=0->∀j x,S.kn[j]?=some x->Kz CX X x (Γ.kt j).1 (Γ.kt j).2
 uC:∀j x,S.en[j]?=some x->KC X x (Γ.ex j)
 oJ:∀j x,S.hn[j]?=some x->KA X x (Γ.hs j)
 qk:∀e,Γ.hv=some e->X.A.handled=some (.ref e)
 rZ:S.md=1->Hd X
theorem zZ{S:df}(h:(if S.md=0 then 0 else 2)=0):S.md=0:=by lia
section
variable{CX:cE}{S:df}{Γ:ba}{X:Cx}
theorem Good.inner(G:Good CX S Γ X)(c:wq)(ln:List Str)(f:List (Str×Nat))(b:List Addr)(C:Addr)(s:Shared)(H:Hp):
  Good CX (Kn S c ln f) Γ.calm (iI X c.sc (ln++f.map (·.1)) b C s H) where
 N:=O
 sc:=by
  show relabel c.sc X.env=DC c.sc S.sc;rw[<-G.sc];rfl
 K:=G.K
 calm:=λh=>G.calm (zZ h)
 units:=G.units
 gd:=G.gd
 fns:=λm j x h=>G.fns (zZ m) j x h
 fN:=G.fN
 gk:=G.gk
 pass:=λ_ _ _ _ _ _ _ h=>(G.mT _ _ _ _ _ h).elim
 mT:=G.mT
 oH:=G.oH
 oI:=λz j m h=>G.oI (zZ z) j m h
 qj:=λz j x h=>G.qj (zZ z) j x h
 uC:=λj x h=>by simp[Kn] at h
 oJ:=λj x h=>G.oJ j x h
 qk:=λe h=>G.qk e h
 rZ:=λh=>by
  have a:(if S.md=0 then 0 else 2)=1:=h;split at a<;>cases a
theorem Good.gl(G:Good CX S Γ X){x:Str}(h:oF S.sc x=true):Gl X x:=by
 show X.env.scope.names.lookup x=_;rw[G.sc];exact XU h
theorem fO{env:Env}(h:noStar e=true):starEach (e::s) env=(false,eval e env)::starEach s env:=by
 cases e<;>first|rfl|cases h
theorem rP{env:Env}(h:qf o=true):attributeBase o x env (eval o env)=eval o env:=by
 cases o<;>first|rfl|skip
 rename_i f a k p;cases f<;>first|rfl|skip
 cases a<;>first|rfl|skip
 cases k<;>first|rfl|cases h
theorem wC(h:wt e=true):∀x,foldedSetIterable e env x=pure x:=by
 intro x;cases e<;>first|rfl|cases h
noncomputable def ic(e:List Expr):Bool:=e.all noStar
theorem lK(env:Env)(p:Pos):∀(s:List Expr),ic s=true->(backTo p<|starEach s env).any (·.1)=false
 |[],h=>O
 |e::s,h=>by
  simp only[ic,zbp,zaj] at h;rw[fO h.1];show(false ||(backTo p<|starEach s env).any (·.1))=false;rw[(lK env p s h.2)];rfl
theorem D0(env:Env)(p:Pos):∀(s:List Expr),ic s=true->(backTo p<|starEach s env).all (λx=> !x.1)=true
 |[],h=>O
 |e::s,h=>by
  simp only[ic,zbp,zaj] at h;rw[fO h.1];show(!false && (backTo p<|starEach s env).all (λx=> !x.1))=true;rw[(D0 env p s h.2)];rfl
theorem d_(h:ic (e::s)=true):noStar e=true/\ic s=true:=by
 simp only[ic,zbp,zaj] at h;exact h
theorem D1(G:Good CX S Γ X){c:wq}{ln:List Str}{f:List (Str×Nat)}(h:DE S c ln f=true):
  lq X c.sc ln f/\(∀x∈ln,c.sc.names.lookup x=some .local)/\(ln++f.map (·.1)).Nodup/\wt c.iter=true:=by
 simp only[DE,zaj,decide_eq_true_eq,zbr,zbS] at h;obtain⟨⟨⟨⟨⟨⟨⟨o,n⟩,m⟩,k⟩,j⟩,i⟩,g⟩,e⟩:=h;refine⟨⟨o,λy a=>n y a,λy a l=>?_,λy a d=>?_,λp b=>?_⟩,i,g,e⟩;rcases m y a with z|z
 exact absurd l z;exact z;show X.env.scope.names.lookup y.1=_\/X.env.scope.names.lookup y.1=_;rw[G.sc];rcases k y a with(z|z)|z
 exact absurd d z;exact .inl z;exact .inr z;rw[G.N];exact j p b
theorem KD(b:X.calm=true){c:wq}{t:Option Nat}{ln:List Str}{f:List (Str×Nat)}(h:DD t c.tg=some ln)(l:∀x∈ln,c.sc.names.lookup x=some .local)(n:(ln++f.map (·.1)).Nodup):
  v_ X c.sc ln f c.tg t:=by
 unfold DD at h;split at h;rename_i x p he;cases h;rw[he];exact WW (l x (by simp)) n;rename_i x p y q k a he;cases h;rw[he];exact WY b (l x (by simp)) (l y (by simp)) n;cases h
theorem Y3{Q:VK}{K:Frag}(h:p9 K .int xs H Q):(∃i,xs=[.int i]/\Q (.int i) H)\/∃k,xs=[.bl k]/\Q (.int (if k then 1 else 0)) H:=by
 rcases xs with _|⟨x,_|_⟩<;>first|cases h|cases x<;>first|cases h|exact .inl ⟨_,O,h⟩|exact .inr ⟨_,O,h⟩
theorem Y4{K:Frag}{x:V}{H:Hp}{Q:Nat->Prop}(h:vZ K x H Q):∃n,IQ K x H n/\Q n:=by
 match x,h with
 |.str y,h=>exact⟨_,⟨h.1,O⟩,h.2⟩
 |.ref p,.inl ⟨s,a,b⟩=>exact⟨_,.inl ⟨s,a,O⟩,b⟩
 |.ref p,.inr ⟨s,a,b⟩=>exact⟨_,.inr ⟨s,a,O⟩,b⟩
inductive Y5(X:Cx)(b:oC):Prop where
 |fn (i:String)(h:bootBuiltins b.nm=some (.builtin i))(c:eJ X (.builtin i) (p9 X.K b))
 |ty (T:String)(h:bootBuiltins b.nm=some (.type T))(c:eJ X (.type T) (p9 X.K b))
theorem boot_min:bootBuiltins "min"=some (.builtin "min"):=O
theorem boot_max:bootBuiltins "max"=some (.builtin "max"):=O
theorem boot_abs:bootBuiltins "abs"=some (.builtin "abs"):=O
theorem boot_sum:bootBuiltins "sum"=some (.builtin "sum"):=O
theorem KG:bootBuiltins "isinstance"=some (.builtin "isinstance"):=O
theorem Y6:bootBuiltins "int"=some (.type "int"):=O
theorem D2:bootBuiltins "list"=some (.type "list"):=O
theorem Y7:bootBuiltins "tuple"=some (.type "tuple"):=O
theorem KH(f:Nat->Int)(l:Nat->Nat->Bool)(h:∀i j,l i j=decide (f i<f j)):∀n,argBest l n<=n/\∀i,i<=n->f (argBest l n)<=f i
 | 0=>⟨zqR _,λi c=>by
   obtain rfl:i=0:=za5 c (zqZ _)
   exact zaZ _⟩
 |n+1=>by
  obtain⟨a,b⟩:=KH f l h n;have e:argBest l (n+1)=if l (n+1) (argBest l n)=true then n+1 else argBest l n:=O
  rw[e,h];split;refine⟨zqR _,λi c=>?_⟩;by_cases z:i=n+1;rw[z];exact zaZ _;have:=b i (zb1 (zb9 c z));lia;refine⟨za7 a,λi c=>?_⟩;by_cases z:i=n+1;lia;exact b i (zb1 (zb9 c z))
theorem KI{i:Nat}(h:i<xs.size):numAt xs i=xs[i].1:=by
 unfold numAt;rw[zbs h];rfl
theorem Y8{i:Nat}(h:i<xs.size):numAt xs i∈xs.toList.map (·.1):=by
 rw[KI h];exact zbt.mpr ⟨xs[i],by simp,O⟩
theorem Y9{n:Int}(h:n∈xs.toList.map (·.1)):∃i,i<xs.size/\n=numAt xs i:=by
 obtain⟨y,a,rfl⟩:=zbt.mp h;obtain⟨i,b,rfl⟩:=List.getElem_of_mem a;have d:=by simpa using b
 exact⟨i,d,by rw[KI d];simp⟩
theorem Y_{b:St}{H:Hp}{s:Shared}{p:Addr}{n:List Int}(I:Inv X a b H s)(q:au X.K H p (n.map V.int)):∃xs:Array (Int×Tok),s.heap.IsList p (intItems xs)/\n=xs.toList.map (·.1):=by
 obtain⟨o,r,l,z⟩:=I.list q;have i:=intsAre_of r;obtain⟨xs,h⟩:=i.allInts.items;refine⟨xs,h ▸ l.isList,?_⟩;rw[<-nums_intItems,<-h];exact(show numsOf o.toArray.toList=n from i.numsOf).symm
theorem Za(w:X.calm=true):eJ X (.builtin "min") (λxs H Q=>∃(p:Addr)(a:List Int),xs=[.ref p]/\au X.K H p (a.map V.int)/\a≠ []/\∀m:Int,m∈a->(∀n∈a,m<=n)->Q (.int m) H):=by
 intro b s y H xs A Q I r h;obtain⟨p,a,rfl,g,e,q⟩:=h;obtain⟨u,rfl,d⟩:=vals1 r;cases d;obtain⟨xs,l,rfl⟩:=Y_ I g;have c:0<xs.size:=Nat.pos_of_ne_zero λz=>e (by rw[Array.eq_empty_of_size_eq_zero z];rfl);refine min_intList (I.ok.hd w) l c λv E C f o=>?_;obtain⟨t,rfl⟩:=intItems_at f;obtain⟨G,x⟩:=KH (numAt xs) (λi j=>decide<|numAt xs i<numAt xs j) (λ_ _=>O) (xs.size - 1);refine⟨.int _,H,I.kept o,⟨t,O⟩,q _ (Y8 (by lia)) λn k=>?_⟩;obtain⟨i,D,rfl⟩:=Y9 k;exact x i (by lia)
theorem Zb(h:ItemsOf (SignAt x) a x.cps.size):Vals (signs x) a.toList:=by
 have o:∀(l:List Nat)(s:List Value),s.length=l.length->(∀(j:Nat)(v:Value),s[j]?=some v->∃(c:Nat)(t:Tok),l[j]?=some c/\v=Value.str ⟨#[c]⟩ t)->Vals (l.map λc=>V.str ⟨#[c]⟩) s:=by
  intro l;induction l with
  |nil=>
   intro s b _;rw[zaE.mp b];exact .nil
  |cons c l k=>
   intro s b g;cases s with
   |nil=>cases b
   |cons u s=>
    obtain⟨q,t,f,e⟩:=g 0 u O;have r:=by simpa using f
    subst r;exact .cons ⟨t,e⟩ (k s (by simpa using b) λj v d=>by
     obtain⟨p,i,n,m⟩:=g (j+1) v (by simpa using d);exact⟨p,i,by simpa using n,m⟩)
 refine o x.cps.toList a.toList ?_ λj v d=>?_;have:=h.1;simpa using this;obtain⟨c,t,f,e⟩:=h.2 j v (by simpa using d);exact⟨c,t,by simpa using f,e⟩
theorem Zc(x:Str):(signs x).length=x.length:=by simp[signs,Str.length]
theorem Zd(c:X.calm=true):eJ X (.type "list") (λxs H Q=>∃x,xs=[.str x]/\x.length<=sizeLine/\∀l,H l=none->Q (.ref l) (upd H l<|.lst<|signs x)):=by
 intro p s f H xs g Q I r h;obtain⟨x,rfl,a,q⟩:=h;obtain⟨u,rfl,t,rfl⟩:=vals1 r;exact call_list_str (I.ok.hd c) x t (λb j m d k e i=>⟨.ref s.heap.objs.size,_,I.laid k (zqR _) (show cT X.prog X.w _ b _ (.lst<|signs x) from⟨by rw[Zc];exact a,m.toList,d,(Zb i),by simpa using e⟩),O,q _<|I.aG.fresh<|zqR _⟩) a
theorem Ze(d:X.calm=true)(b:oC):Y5 X b:=by
 cases b with
 |len=>exact .fn "len" boot_len (eJ.imp UN λs H Q h=>by
   rcases s with _|⟨x,_|⟨_,_⟩⟩ <;>(try exact False.elim h)
   obtain⟨n,c,a⟩:=Y4 (Q:=λn=>Q (.int n) H) h;exact⟨x,n,O,c,a⟩)
 |min=>exact .fn "min" boot_min (eJ.imp ((UL d).or (Za d)) λs H Q h=>by
   rcases s with _|⟨x,_|⟨y,_|_⟩⟩<;>first|exact False.elim h|cases x<;>first|exact False.elim h|obtain⟨e,c,a,k⟩:=h;exact .inr ⟨_,e,O,c,a,k⟩|cases y<;>first|exact False.elim h|exact .inl ⟨_,_,O,h⟩)
 |max=>exact .fn "max" boot_max λ_ _ _ _ s _ _ _ _ h=>by rcases s with _|⟨y,_|⟨f,_⟩⟩ <;>first|exact False.elim h| (cases y<;>exact False.elim h)
 |sum=>exact .fn "sum" boot_sum (eJ.imp (Xn d) λs H Q h=>by
   rcases s with _|⟨x,_|⟨_,_⟩⟩ <;>(try exact False.elim h) <;>cases x<;>(try exact False.elim h)
   obtain⟨e,c,a⟩:=h;exact⟨_,e,O,c,a⟩)
 |abs=>exact .fn "abs" boot_abs λ_ _ _ _ s _ _ _ _ h=>by rcases s with _|⟨y,_|⟨f,_⟩⟩ <;>first|exact False.elim h| (cases y<;>exact False.elim h)
 |int=>exact .ty "int" Y6 (eJ.imp UM λs H Q h=>Y3 h)
 |list=>exact .ty "list" D2 (eJ.imp (VA.or (Zd d)) λs H Q h=>by
   rcases s with _|⟨x,_|⟨_,_⟩⟩ <;>(try exact False.elim h) <;>cases x<;>(try exact False.elim h)
   exact .inr ⟨_,O,h.1,h.2⟩
   obtain⟨g,c,a⟩:=h;exact .inl ⟨_,g,O,c,a⟩)
 |tuple=>exact .ty "tuple" Y7 λ_ _ _ _ s _ _ _ _ h=>by rcases s with _|⟨y,_|⟨f,_⟩⟩ <;>first|exact False.elim h| (cases y<;>exact False.elim h)
structure Zf(X:Cx)(m:jb)(id:String):Prop where
 pa:PlainAttrs (uq m)
 slot:Slot (uq m) m.nm id
 ty:typeOf (.builtin id)=pure (.type "method_descriptor")
 mt:uh X id (wm X.K m)
theorem Zh(r:KV d vs)(k:Key){v:V}(h:oE d k=some v):∃u,valueAt vs k=some u/\RelV v u:=by
 induction r with
 |nil=>cases h
 | @cons p q c s j t i=>
  obtain⟨g,l⟩:=j;by_cases e:p.1=k;have f:=g.symm.trans e;have b:valueAt (q::s) k=some q.2:=by simp[valueAt,zaT,f]
  have a:oE (p::c) k=some p.2:=by simp[oE,zaT,e]
  rw[a] at h;cases h;exact⟨_,b,l⟩;have f:¬q.1=k:=λz=>e (g.trans z);have b:valueAt (q::s) k=valueAt s k:=by simp[valueAt,zaT,f]
  have a:oE (p::c) k=oE c k:=by simp[oE,zaT,e]
  rw[a] at h;rw[b];exact i h
theorem Zi(D:∀p a,f p a->∀h:Heap,X.K.In h->∃vs,KV a vs/\h.DictOf (eQ X.prog X.w) p vs):mK X (Kh f):=by
 intro e b c s t H x y v u Q I i g h l;obtain⟨p,a,k,z,rfl,rfl,m,n,q⟩:=h;cases i;obtain⟨vs,r,d⟩:=D p a m s.heap I.dv;obtain⟨w,o,j⟩:=Zh r k n;exact subscriptTail_builtinR d.mapOf.typeIs PySem.F.slot_dict_getitem.lookup
  (wpAny_getItem_of (v8 g) d.mapOf o ⟨O,z,H,I.tok _,j,q⟩) l
theorem Zj(D:∀p k,s p k->∀h:Heap,X.K.In h->∃vs,KV k vs/\h.DictOf (eQ X.prog X.w) p vs):mK X (qd X.K s):=Vp.or (Vq.or<|Vr.or<|Zi D)
theorem Zk:uh X "list.index" (λx vs H Q=>∃(l:Addr)(y:V)(xs:List V),x=.ref l/\vs=[y]/\au X.K H l xs/\jy y=true/\xs.all jy=true/\i_ y xs=true/\Q (.int (xs.findIdx (λz=>i9 z y):Nat)) H):=by
 intro p s U H x vs v W Q I C D h;obtain⟨l,y,xs,rfl,rfl,P,B,g,t,q⟩:=h;cases C;obtain⟨u,rfl,E⟩:=vals1 D;obtain⟨a,r,⟨⟨a',L,m,A⟩,n,o,Z,R,T⟩,Y⟩:=I.list P;subst Z T;have b:=r.length;have e:∀j (f:j<a.length) (d:j<xs.length),gF y a[j]=i9 xs[j] y:=λj f d=>by
  obtain⟨w,J,G⟩:=r.get (i:=j) (x:=xs[j]) (by simp);have k:=zay f;rw[J] at k;rw[<-zal k];exact C6 G<|zbr.mp g _<|List.getElem_mem d
 have c:=List.findIdx_lt_length.mpr (List.any_eq_true.mp t);have hn:=rH;refine call_meets PySem.F.slot_list_index ⟨_,o,O⟩ PySem.F.entry_list_index (PySem.F.args_list_index_2 _ _)
  (PySem.SeqAt.list_indexAt l a.toArray n L A u (gF y) (xs.findIdx λz=>i9 z y) (by simp;exact zaq c (za3 b)) (by lia) ?_ ?_) ⟨o,λz N=>ui E B r g z (by simpa using N),⟨.int _,H,I.tok _,⟨_,O⟩,q⟩⟩
 show gF y a[xs.findIdx λz=>i9 z y]=true;rw[e _ (zaq c (za3 b)) c];exact List.findIdx_getElem (w:=c);intro j Zl M;show gF y a[j]=false;rw[e j Zl (za2 M c)];simpa using List.not_of_lt_findIdx M
theorem KJ(m:jb):∃l,Zf X m l:=by
 cases m with
 |append=>exact⟨_,F.plainAttrs_list,F.slot_list_append,F.type_list_append,λp s c H x a v u Q I r d h=>by
   cases x<;>(try exact False.elim h) <;>rcases a with _|⟨b,_|⟨_,_⟩⟩ <;>(try exact False.elim h)
   obtain⟨z,f,e,g⟩:=h;exact VJ p s c H _ _ v u Q I r d ⟨_,z,_,O,O,f,e,g⟩⟩
 |pop=>exact⟨_,F.plainAttrs_list,F.slot_list_pop,F.type_list_pop,λp s c H x a v u Q I r d h=>by
   cases x<;>(try exact False.elim h) <;>rcases a with _|⟨_,_⟩ <;>(try exact False.elim h)
   obtain⟨z,y,f,e,g⟩:=h;exact VO p s c H _ _ v u Q I r d ⟨_,z,y,O,O,f,e,g⟩⟩
 |extend=>exact⟨_,F.plainAttrs_list,F.slot_list_extend,F.type_list_extend,λp s c H x a v u Q I r d h=>by
   cases x<;>(try exact False.elim h) <;>rcases a with _|⟨b,_|⟨_,_⟩⟩ <;>(try exact False.elim h) <;>cases b<;>(try exact False.elim h)
   obtain⟨k,z,f,e,g,j⟩:=h;exact VM p s c H _ _ v u Q I r d ⟨_,_,k,z,O,O,f,e,g,j⟩⟩
 |join=>exact⟨_,F.plainAttrs_str,F.slot_str_join,F.type_str_join,λp s c H x a v u Q I r d h=>by
   cases x<;>(try exact False.elim h) <;>rcases a with _|⟨b,_|⟨_,_⟩⟩ <;>(try exact False.elim h) <;>cases b<;>(try exact False.elim h)
   obtain⟨t,f,e,g⟩:=h;exact Xo p s c H _ _ v u Q I r d ⟨_,_,t,O,O,f,e,g⟩⟩
 |lstrip=>exact⟨_,F.plainAttrs_str,F.slot_str_lstrip,F.type_str_lstrip,λp s c H x a v u Q I r d h=>by
   cases x<;>(try exact False.elim h) <;>rcases a with _|⟨b,_|⟨_,_⟩⟩ <;>(try exact False.elim h) <;>cases b<;>(try exact False.elim h)
   obtain⟨f,e⟩:=h;exact Xq p s c H _ _ v u Q I r d ⟨_,_,O,O,f,e⟩⟩
 |starts=>exact⟨_,F.plainAttrs_str,F.slot_str_startswith,F.type_str_startswith,λ_ _ _ _ x a _ _ _ _ _ _ h=>by cases x<;>rcases a with _|⟨b,_|⟨i,_⟩⟩ <;>first|exact False.elim h| (cases b<;>exact False.elim h)⟩
 |find=>exact⟨_,F.plainAttrs_str,F.slot_str_find,F.type_str_find,λ_ _ _ _ x a _ _ _ _ _ _ h=>by cases x<;>rcases a with _|⟨b,_|⟨i,_⟩⟩ <;>first|exact False.elim h| (cases b<;>exact False.elim h)⟩
 |count=>exact⟨_,F.plainAttrs_str,F.slot_str_count,F.type_str_count,λ_ _ _ _ x a _ _ _ _ _ _ h=>by cases x<;>rcases a with _|⟨b,_|⟨i,_⟩⟩ <;>first|exact False.elim h| (cases b<;>exact False.elim h)⟩
 |reverse=>exact⟨_,F.plainAttrs_list,F.slot_list_reverse,F.type_list_reverse,λ_ _ _ _ x a _ _ _ _ _ _ h=>by cases x<;>rcases a with _|⟨b,_|⟨i,_⟩⟩ <;>first|exact False.elim h| (cases b<;>exact False.elim h)⟩
 |index=>exact⟨_,F.plainAttrs_list,F.slot_list_index,F.type_list_index,λ_ _ _ _ x a _ _ _ _ _ _ h=>by cases x<;>rcases a with _|⟨b,_|⟨i,_⟩⟩ <;>first|exact False.elim h| (cases b<;>exact False.elim h)⟩
 |Ka=>exact⟨_,F.plainAttrs_list,F.slot_list_count,F.type_list_count,λ_ _ _ _ x a _ _ _ _ _ _ h=>by cases x<;>rcases a with _|⟨b,_|⟨i,_⟩⟩ <;>first|exact False.elim h| (cases b<;>exact False.elim h)⟩
 |Dy=>exact⟨_,F.plainAttrs_list,F.slot_list_index,F.type_list_index,λp s c H x a v u Q I r d h=>by
   cases x<;>(try exact False.elim h) <;>rcases a with _|⟨b,_|⟨_,_⟩⟩ <;>(try exact False.elim h)
   obtain⟨z,f,e,g,j,n⟩:=h;exact Zk p s c H _ _ v u Q I r d ⟨_,_,z,O,O,f,e,g,j,n⟩⟩
 |clear=>exact⟨_,F.plainAttrs_list,F.slot_list_clear,F.type_list_clear,λp s c H x a v u Q I r d h=>by
   cases x<;>(try exact False.elim h) <;>rcases a with _|⟨_,_⟩ <;>(try exact False.elim h)
   obtain⟨z,f,e⟩:=h;exact VQ p s c H _ _ v u Q I r d ⟨_,z,O,O,f,e⟩⟩
theorem Zm{g:St}{H:Hp}{s:Shared}{T:Ty}{x:V}{u:Value}{f:Bool->Prop}{Q:Value->Shared->Prop}{E:Value->Shared->Prop}(I:Inv X p g H s)(r:RelV x u)(h:cp T x H f)(q:∀b t,f b->Q (.bool b) {s with toks:=t}):wpAny (model X.prog X.w) X.A (call (.builtin "isinstance") [u,.type T.nm]) Q E s:=by
 match x,r,h with
 |.aD,r,h=>exact nY I r (.aD) (Xm _ T) λt=>q _ _ h
 |.bl b,r,h=>exact nY I r (.bl b) (pZ X.K .bool T) λt=>q _ _ (by cases T<;>exact h)
 |.int i,r,h=>exact nY I r (.int i) (pZ X.K .int T) λt=>q _ _ (by cases T<;>exact h)
 |.str i,r,h=>exact nY I r (.str i) (pZ X.K .str T) λt=>q _ _ (by cases T<;>exact h)
 |.ref a,r,h=>
  cases e:H a with
  |none=>simp only[cp,e] at h
  |some o=>
   match o,e with
   |.lst d,e=>simp only[cp,e] at h;exact nY I r (.lst e) (pZ X.K .list T) λt=>q _ _ (by lia)
   |.bY c (.lst d),e=>simp only[cp,e] at h;exact nY I r (.bY e) (pZ X.K .list T) λt=>q _ _ (by lia)
   |.tup d,e=>simp only[cp,e] at h;exact nY I r (.tup e) (pZ X.K .tuple T) λt=>q _ _ (by lia)
   |.dK d,e=>simp only[cp,e] at h;exact nY I r (.dK e) (pZ X.K .dict T) λt=>q _ _ (by lia)
   |.dT d,e=>simp only[cp,e] at h;exact nY I r (.dT e) (pZ X.K .dict T) λt=>q _ _ (by lia)
   |.set _ _,e=>simp only[cp,e] at h
   |.ins _ _ _,e=>simp only[cp,e] at h
   |.own _,e=>simp only[cp,e] at h
   |.xd _,e=>simp only[cp,e] at h
   |.met _ _,e=>simp only[cp,e] at h
   |.gc _ _,e=>simp only[cp,e] at h
   |.mH _,e=>simp only[cp,e] at h
   |.ext _,e=>simp only[cp,e] at h
   |.bY c (.tup d),e=>simp only[cp,e] at h
   |.bY c (.dK d),e=>simp only[cp,e] at h
   |.bY c (.dT d),e=>simp only[cp,e] at h
   |.bY c (.set _ _),e=>simp only[cp,e] at h
   |.bY c (.ins _ _ _),e=>simp only[cp,e] at h
   |.bY c (.own _),e=>simp only[cp,e] at h
   |.bY c (.xd _),e=>simp only[cp,e] at h
   |.bY c (.met _ _),e=>simp only[cp,e] at h
   |.bY c (.gc _ _),e=>simp only[cp,e] at h
   |.bY c (.mH _),e=>simp only[cp,e] at h
   |.bY c (.ext _),e=>simp only[cp,e] at h
   |.bY c (.bY _ _),e=>simp only[cp,e] at h
theorem Zn(T:Ty):bootBuiltins (Str.ofString T.nm)=some (.type T.nm):=by cases T<;>decide+kernel
theorem Zo(T:Ty):eJ X (.builtin "isinstance") (p_ T):=by
 intro p s f H a g Q I r h
 rcases a with _|⟨x,_|⟨n,_|_⟩⟩<;>first|exact False.elim h|cases n<;>first|exact False.elim h|skip
 case ty n=>
  obtain⟨e,h⟩:=h;subst e;obtain⟨u,w,rfl,c,j⟩:=vals2 r;cases j;exact Zm I c h λb t d=>⟨.bl b,H,I.tok t,O,d⟩
theorem Zp{a:Expr}{t:TE}{p q s:Pos}(b:PE X a t)(h:noStar a=true)(g:Gl X "isinstance")(m:X.mg "isinstance"=none)(d:Gl X (Str.ofString T.nm))(Z:X.mg (Str.ofString T.nm)=none):
  PE X (.Call (.Name "isinstance" p) [a,.Name (Str.ofString T.nm) q] [] s) (ia (p_ T)<|d5 t<|d5 (tC<|.ty T.nm) i7):=by
 have c:PE X (.Name (Str.ofString T.nm) q) (tC<|.ty T.nm):=Ib d Z (Zn T) O (by cases T<;>decide) (by cases T<;>decide);exact CW (Zo T) g m KG (nZ b (nZ c uf O)<|fO h) (by decide) (O) (fO h) O
theorem Zs:zh X (uu X.K):=by
 intro p s w H x v j g o b y Q I r q n m h
 cases x<;>first|exact False.elim h|skip
 case ref a=>
  rcases h with⟨f,d,c⟩|⟨f,d,c,P⟩
  exact Vw p s w H _ v j g o b y Q I r q n m ⟨a,f,O,d,c⟩
  exact Vm p s w H _ v j g o b y Q I r q n m ⟨a,f,O,d,c,P⟩
 case str z=>
  obtain⟨d,c⟩:=h;obtain⟨t,rfl⟩:=r;obtain⟨l,T,C⟩:∃l:Option (Int×Tok),j=partValue l/\l.map (·.1)=o:=by
   cases n with
   |none=>exact⟨none,O,O⟩
   |int i t=>exact⟨some (i,t),O,O⟩
  obtain⟨u,R,A⟩:∃u:Option (Int×Tok),g=partValue u/\u.map (·.1)=b:=by
   cases m with
   |none=>exact⟨none,O,O⟩
   |int i t=>exact⟨some (i,t),O,O⟩
  subst T R;refine⟨"str",_,F.slot_str_getitem.lookup,typeIs_str _ _ _,?_⟩;refine wpAny_getItem_str_slice (l:=l) (u:=u) (st:=none) q O ?_;obtain⟨J,B,Z⟩:=C5 o b z.length;have N:slicePicked z l u none=(List.range<|HT.bq z.length z.length b - HT.bq z.length 0 o).map (HT.bq z.length 0 o+ ·):=by
   show Builtin.Str.strSliceIndices (l.map (·.1)) (u.map (·.1)) 1 z.length=_;rw[C,A];have V:Builtin.Str.strSliceIndices o b 1 z.length=sliceRange (sliceBounds o b none z.length).1 (sliceBounds o b none z.length).2.1 (sliceBounds o b none z.length).2.2:=O;rw[V,J,B,Z,sliceRange_one]
  have E:((slicePicked z l u none).filterMap (z.cps[·]?))=oz z.cps.toList o b:=by
   show(Builtin.Str.strSliceIndices (l.map (·.1)) (u.map (·.1)) 1 z.length).filterMap (z.cps[·]?)=_;rw[C,A,Xr]
  have D:z.cps.toList.length=z.length:=rfl
  have Y:=HT.CY z.length 0 (zqZ _) o;have W:=HT.CY z.length z.length (zqR _) b;refine post_val_or_made (λ_=>?_) λG k=>?_
  show(List.toArray ((slicePicked z l u none).filterMap (z.cps[·]?))).size<=sizeLine;rw[E,zai];have:(oz z.cps.toList o b).length<=z.cps.toList.length:=by unfold oz;simp;lia
  lia
  have e:(if (((none:Option (Int×Tok)).map (·.1)).getD 1==1 && (slicePicked z l u none).length==z.length)=true then z else ⟨((slicePicked z l u none).filterMap (z.cps[·]?)).toArray⟩)=oA z o b:=by
   split
   rename_i hq
   simp only[zaj,beq_iff_eq] at hq
   have U:=hq.2;rw[N,zaa,zbT] at U;have M:HT.bq z.length 0 o=0:=by lia
   have L:HT.bq z.length z.length b=z.length:=by lia
   unfold oA oz;rw[D,M,L,<-D,Nat.sub_zero,zbq,zbu]
   rw[E];rfl
  rw[e];exact⟨.str _,H,I.tok k,⟨G,O⟩,c⟩
theorem Zu:y7 X (unaryOp .USub) Kg:=by
 intro p s a H x v Q I r h;cases x<;>first|cases h|exact Us p s a H _ v Q I r ⟨_,O,h⟩
theorem Zv(i:PE X a t):PE X (.UnaryOp .Not a c) (DA X.K t):=by
 intro p s e H Q I h;exact UnaryOp_<|aM (i p s e H _ I h) λv f ⟨x,l,k,r,g⟩=>not_of (aM (IP p f e l x v (λb d=>Q (.bl<|!b) d) k r<|Kf g) λb m ⟨d,j,q⟩=>⟨.bl<|!b,d,j,O,q⟩)
theorem z6(d:PE X a t)(e:∀w,isTrue a X.env w=(do let v <-w;standAt a.pos;holding [v] (truthy v))):PT X a (ib X.K t):=by
 intro p s b H Q I h;exact isTrue_plain (aM (d p s b H _ I h) λv c ⟨x,g,f,r,q⟩=>IP p c b g x v Q f r (Kf q))<|e _
theorem Zw{o e:Expr}{s:List Expr}{c:TE}{t:TA}{b R:Pos}(d:PE X o c)(g:PA X (e::s) t)(f:qf o=true)(l:(b.endLine==R.line)=true)(n:(e::s).length<29)(h:starEach (e::s) X.env=(false,eval e X.env)::starEach s X.env)(j:(backTo R<|starEach s X.env).any (·.1)=false)(i:(backTo R<|starEach (e::s) X.env).all (λx=> !x.1)=true):
  PE X (.Call (.Attribute o m.nm b) (e::s) [] R) (ur X.K m c t):=by
 obtain⟨k,a⟩:=KJ m;exact VE a.pa a.slot a.ty a.mt d g (rP f) (by
  rw[i];show(true && true && decide ((e::s).length+0+0<30))=true;rw[zqT (by lia)];rfl) l h j
theorem Zx{o:Expr}{t:TE}{s e:Pos}(h:PE X o t)(b:qf o=true)(l:(s.endLine==e.line)=true):
  PE X (.Call (.Attribute o m.nm s) [] [] e) (ur X.K m t i7):=by
 obtain⟨i,a⟩:=KJ m;exact VD a.pa a.slot a.ty a.mt h (rP b) l
theorem KL{b p:Pos}{a:List Expr}{Q:Value->Shared->Prop}{E:Value->Shared->Prop}{A:Around}{s:Shared}{env:Env}{prog:Program}{w:World}(k:qf o=true)(i:(b.endLine==p.line)=true)(r:a.length<29)(j:(backTo p<|starEach a env).all (λx=> !x.1)=true)(h:wpAny (model prog w) A (eval o env) (λv d=>∀g,wpAny (model prog w) A (getMethod v m g) (λf c=>wpAny (model prog w) A (callWith p f.1 f.2 (backTo p<|starEach a env)<|backToKw p<|keywordEach [] env) Q E c) E d) E s):
  wpAny (model prog w) A (eval (.Call (.Attribute o m b) a [] p) env) Q E s:=by
 have Z:methodCallForm (a.length+0) (backTo p<|starEach a env) (backToKw p<|keywordEach [] env)=true:=by
  show((backTo p<|starEach a env).all (λx=> !x.1) && true && decide (a.length+0+0<30))=true;rw[j,zqT (by lia)];rfl
 have l:methodCallPos true o env b p=pure p:=by unfold methodCallPos;simp[i]
 rw[arm_eval_Call,rP k];refine wpAny_bind<|wpAny_mono h (λv d q=>wpAny_bind<|wpAny_standAt ?_) λ_ _ e=>e;unfold methodCall;rw[show([]:List Keyword).length=0 from O,Z];exact wpAny_bind<|wpAny_holding<|wpAny_mono (q _) (λf c n=>wpAny_bind<|wpAny_of_eq l n) λ_ _ e=>e
theorem Zz{n:TE}{t:TA}{g p:Pos}{C:Addr}{m:Str}{sp:Sp}{E:XK}(M:zY CX X C m sp)(N:Passes CX X E)(T:PE X o n)(F:PA X (e::i) t)(B:qf o=true)(Z:(g.endLine==p.line)=true)(V:(e::i).length<29)(P:starEach (e::i) X.env=(false,eval e X.env)::starEach i X.env)(L:(backTo p<|starEach i X.env).any (·.1)=false)(J:(backTo p<|starEach (e::i) X.env).all (λx=> !x.1)=true):
  PE X (.Call (.Attribute o m g) (e::i) [] p) (rL C m sp [] E n t):=by
 obtain⟨c,k,f,fd,ps,w,b,R,D⟩:=M;intro d s j H Q I h;refine KL B Z V J<|aM (T d s j H _ I h) λu A ⟨x,Y,z,G,a,dx,fs,U,W,l,q⟩=>λpl=>?_;subst U;obtain rfl:u=Value.ref a:=G;exact IU z W c w l (callWith_K I.ok.mod.rA w.kp (aM (F p d A j Y _ z q) λus s2 ⟨v,H2,y,r,K⟩=>⟨y.dv,CT (vs:=.ref a::v) b R D .nil N y (.cons O r) K⟩) P L)
theorem ZA{d p:Pos}{C:Addr}{m:Str}{sp:Sp}{E:XK}(M:zY CX X C m sp)(n:Passes CX X E)(y:PE X o t)(A:qf o=true)(z:(d.endLine==p.line)=true):
  PE X (.Call (.Attribute o m d) [] [] p) (rL C m sp [] E t i7):=by
 obtain⟨c,k,f,V,P,i,b,v,w⟩:=M;intro e s j H Q I h;refine KL A z (by simp) O<|aM (y e s j H _ I h) λu N ⟨x,F,g,r,a,Z,T,D,G,l,q⟩=>λR=>?_;subst D;obtain rfl:u=Value.ref a:=r;exact IU g G c i l (PySem.W.callWith_K0 g.dv i.kp<|CT (vs:=[.ref a]) b v w .nil n g (.cons O .nil) q)
variable{prog:Program}{w:World}{A:Around}{E:Value->Shared->Prop}{s:Shared}
theorem KN{l:Addr}{a:Array Value}(K:l≠it):∀(n i:Nat)(s:Shared)(Q:List Value->Shared->Prop),s.heap.IsListIter it l i->s.heap.IsList l a->i+n<=a.size->
  (∀d,d.IsListIter it l (i+n)->Heap.SameBut it s.heap d->Q ((a.toList.drop i).take n) {s with heap:=d})->wpAny (model prog w) A (draw (.ref it) n) Q E s
 | 0,i,s,Q,h,_,_,c=>by
  exact wpAny_pure (by simpa using c s.heap h (Heap.SameBut.refl ..))
 |n+1,i,s,Q,h,t,g,c=>by
  have m:i<a.size:=by lia
  refine wpAny_bind<|wpAny_pyNext_list_item h t (x:=a[i]) (by simp) λe u f=>?_;refine wpAny_bind<|wpAny_holding<|KN K n (i+1) _ _ u (t.extBut f.extBut K) (by lia) λb Z j=>wpAny_pure ?_;have k:a.toList.drop i=a[i]::a.toList.drop (i+1):=by simp[zbl,m]
  have:=c b (by lia) (f.trans j);rw[k] at this;exact this
theorem ZD{Q:List Value->Shared->Prop}(k:A.handled=none)(ht:s.heap.IsList t i)(l:∀d,Heap.ExtBut s.heap.objs.size s.heap d->Q i.toList {s with heap:=d}):wpAny (model prog w) A (unpackItems (.ref t) i.size none) Q E s:=by
 have g:t≠s.heap.objs.size:=by obtain⟨o,j,_⟩:=ht;exact zan (Heap.lt_size j)
 refine wpAny_bind ?_;refine wpAny_bind<|wpAny_specialOf ht.typeIs slot_list_iter.lookup ?_;refine wpAny_pure ?_;refine wpAny_bind<|wpAny_holding<|wpAny_pyIter_list ht (wpAny_bind<|wpAny_holding<|KN g i.size 0 _ _ ⟨_,Heap.get?_push_size _ O,O,O⟩ (ht.push _) (za3 (zb6 _ _)) λa u f=>?_);have m:List.take i.size (List.drop 0 i.toList)=i.toList:=by
  exact zaH (by simp)
 rw[m];rw[if_neg (by simp)];refine wpAny_bind<|wpAny_holding<|wpAny_pyNext_list_end k u ((ht.push _).extBut f.extBut g) (by simp) λh D=>?_;refine wpAny_pure<|l h λb o c e=>D b o c (f.extBut b o c<|Heap.get?_push_of_some _ e)
theorem ZE{e:List Expr}{x}{p:Pos}{t:Addr}{i:Array Value}{Q:Unit->Shared->Prop}(b:A.handled=none)(ht:s.heap.IsList t i)
  (n:(assignEach e env).length=i.size) (D:(assignEach e env).findIdx? (·.1)=none)
  (h:∀a,Heap.ExtBut s.heap.objs.size s.heap a->wpAny (model prog w) A (assignInOrder ((assignEach e env).map (·.2)) i.toList) Q E {s with heap:=a}):
  wpAny (model prog w) A (assign (.Tuple e x p) env<|.ref t) Q E s:=by
 refine wpAny_bind<|wpAny_standAt ?_;unfold unpack;rw[n,D];exact wpAny_bind<|wpAny_holding<|ZD b ht h
end
def r9(K:Frag)(n:Nat)(t:kZ):TG:=λv b H Q=>∃a xs,v=.ref a/\(aJ K H a xs\/au K H a xs)/\xs.length=n/\t xs b H Q
theorem ZF{k:Nat}{t:kZ}{n:Nat}{d:Pos}(i:X.calm=true)(h:rD X c t)(g:(assignEach c X.env).length=n)(E:(assignEach c X.env).findIdx? (·.1)=none):PG X (.Tuple c k d) (r9 X.K n t):=by
 intro p s f H v u Q I r w;obtain⟨a,x,j,q,l,w⟩:=w;rcases q with q|q
 exact Ir i h g E p s f H v u Q I r ⟨a,x,j,q,l,w⟩;subst j;cases r;obtain⟨D,m,z,A⟩:=I.list q;refine ZE (I.ok.hd i) z.isList (by simp[g,<-l,m.length]) E λC y=>?_;exact h p _ f H x _ Q (I.kept λb o e=>y b o (zan<|Heap.lt_size e) e) (by lia) w
def qm:List Nat->kZ
 |[]=>yY
 |i::r=>ua (e9 i) (qm r)
def ZH(t:TE)(f h:TO):TG:=λv d H Q=>t d H λo k=>f d k λi g=>h d g λj e=>∃l b xs ys a c,o=.ref l/\v=.ref b/\i=some a/\j=some c/\e l=some (.lst xs)/\e b=some (.lst ys)/\l≠b/\
 0<=a/\a<=c/\c<=xs.length/\xs.length+ys.length<=sizeLine/\Q d (upd e l<|.lst<|xs.take a.toNat++ys++xs.drop c.toNat)
mutual
def cg(Γ:ba):RS->TS
 |.asg i e=>k_ (ah Γ e) (e9 i)
 |.rX i e=>k_ (ah Γ e) (e9 i)
 |.set o ix e=>k_ (ah Γ e) (Iu (ah Γ o) (ah Γ ix) zk)
 |.dput o i e=>JF (ah Γ o) (ah Γ i) (ah Γ e)
 |.drop e=>Im (ah Γ e)
 |.ret e=>Io (ah Γ e)
 |.XC=>TQ
 |.ite c t e=>Ip (bo Γ c) (az Γ t) (az Γ e)
 |.ko i k ao body=>y4 (jJ Γ k ao) (e9 i) (az Γ body)
 |.lE is k ao body=>y4 (jJ Γ k ao) (r9 Γ.K is.length<|qm is) (az Γ body)
 |.mQ c body=>Iv (bo Γ c) (az Γ body)
 |.pass=>CA
 |.brk=>TK
 |.cont=>Il
 |.never=>TU
 |.XD o lo hi e=>k_ (ah Γ e) (ZH (ah Γ o) (ug<|ah Γ lo)<|ug<|ah Γ hi)
 |.fI o f e=>zd Γ.K (ah Γ o) (ah Γ e) f
 |.XE is e=>k_ (ah Γ e) (r9 Γ.K is.length<|qm is)
 |.jA j as=>Dx (Γ.ex j) Γ.E (bg Γ as)
 |.Dz n i j body su=>λD σ H=>∃C,Γ.gv j=.ref C/\zJ Γ.K C i n (λE=>az {Γ with E:=E} body) (λea=>az {Γ with E:=E0,hv:=some ea} su) D σ H
 |.XF k i j f as su=>λD σ H=>∃C,Γ.gv j=.ref C/\Xu Γ.K C i k (Γ.fs f) (bg {Γ with E:=E0} as) (λea=>az {Γ with E:=E0,hv:=some ea} su) D σ H
 |.xs T=>T Γ
def az(Γ:ba):List RS->TS
 |[]=>CA
 |s::r=>Ij (cg Γ s) (az Γ r)
end
def wF:Expr->Bool
 |.Slice ..=>false|_=>true
noncomputable def z7:Expr->Bool
 |.ListComp ..=>false|.SetComp ..=>false|.DictComp ..=>false|_=>true
noncomputable def z8(c:Scope)(x:Str)(l:Nat)(s:Scope)(p:Pos):Bool:=
 decide (c.kind=.function) && decide (c.names.lookup x=some .local) && (l==p.line) && !(s.names.any fun(n,k)=>n==x && (k==.local ||k==.cell))
noncomputable def uD(N:List Str)(s:Scope):List Nat->List Str->Bool
 |[],xs=>xs.isEmpty
 |i::r,xs=>match xs with
  |[]=>false
  |x::t=>decide (N[i]?=some x) && loc s x && uD N s r t
structure dE(CX:cE)(S:df)(Γ:ba)(X:Cx):Prop extends Good CX S Γ X where
 nd:S.N.Nodup
 mU:∀x,X.fn x=true
 own:PassesOwn (model X.prog X.w) X.A X.env X.xe
 qo:X.env.scope.kind=.function
 rs:∀(j:Nat)(x:Str),S.en[j]?=some x->Raises X Γ.E
 ke:X.stack=X.env::X.outer
 iL:X.env.frame=some X.env.locals
 r_:X.ex=[]
 se:CX=gj X.prog X.w
noncomputable def qV(S:df)(i:Nat)(x:Str):Bool:=decide (S.N[i]?=some x) && vis S.sc x && !(x==("__debug__":Str)) && !(x==("__classdict__":Str))
noncomputable def kG(S:df)(j:Nat)(x:Str):Bool:=decide (S.gn[j]?=some x) && oF S.sc x && !(x==("__debug__":Str))
noncomputable def kF(S:df)(j:Nat)(x:Str):Bool:=decide (S.fn[j]?=some x) && oF S.sc x && !(x==("__debug__":Str))
noncomputable def kK(S:df)(j:Nat)(x:Str):Bool:=decide (S.kn[j]?=some x) && oF S.sc x && !(x==("__debug__":Str))
noncomputable def kB(S:df)(x y:Str):Bool:=decide (x=y) && oF S.sc x && S.bl.contains x
noncomputable def kM(o:Expr)(m:Str)(x:Str)(n:Nat)(a c:Pos):Bool:=decide (x=m) && qf o && (a.endLine==c.line) && decide (n<29)
noncomputable def kL(S:df)(i:Nat)(x:Str):Bool:=decide (S.N[i]?=some x) && loc S.sc x
section
variable{CX:cE}{S:df}{Γ:ba}{X:Cx}{e e2 a b c d:Expr}{es:List Expr}{x:Str}{p q pos:Pos}{r ra rb rc:RE}{rs:List RE}{i j:Nat}
theorem aa(G:Good CX S Γ X)(h:qV S i x=true:=by kernel_rfl):PE X (.Name x p) (ah Γ<|.v i):=by
 simp only[qV,zaj,decide_eq_true_eq,zaU] at h;exact Tq (G.N▸h.1.1.1) (G.sc▸XT h.1.1.2) h.1.2 h.2
theorem aw:PE X (.Constant (.int v) k p) (ah Γ<|.c<|.int v):=Ts
theorem ax:PE X (.Constant (.str v) k p) (ah Γ<|.c<|.str v):=Tv
theorem ig:PE X (.Constant (.bool v) k p) (ah Γ<|.c<|.bl v):=Tt
theorem lL:PE X (.Constant .none k p) (ah Γ<|.c .aD):=Tu
theorem iM(G:Good CX S Γ X)(h:kG S j x=true:=by kernel_rfl):PE X (.Name x p) (ah Γ<|.g j):=by
 simp only[kG,zaj,decide_eq_true_eq,zaU] at h;obtain⟨u,m,r⟩:=G.fN j x h.1.1;exact Ia (G.gl h.1.2) m r h.2
theorem aP(G:Good CX S Γ X)(f:PE X a (ah Γ ra))(h:PE X b (ah Γ rb)):PE X (.BinOp a o b p) (ah Γ<|.bin o ra rb):=by
 show PE X _ (gA (rW Γ.K o) (ah Γ ra)<|ah Γ rb);rw[<-G.K];exact ID (W_ o) f h
theorem ku(h:PE X a (ah Γ ra)):PE X (.UnaryOp .USub a p) (ah Γ<|.neg ra):=Uj Zu h
theorem iN(G:Good CX S Γ X)(g:PE X a (ah Γ ra))(f:PE X b (ah Γ rb))(h:behindInMarks o b=false:=by kernel_rfl):PE X (.Compare a [o] [b] p) (ah Γ<|.cmp o ra rb):=by
 show PE X _ (gA (dR Γ.K o) (ah Γ ra)<|ah Γ rb);rw[<-G.K];exact UG (zF G.units o) g f h
theorem ZI(G:Good CX S Γ X)(k:PE X a (ah Γ ra))(g:PE X b (ah Γ rb))(f:PE X c (ah Γ rc))(m:lastMarks [o,h] [b,c]=false:=by kernel_rfl):PE X (.Compare a [o,h] [b,c] p) (ah Γ<|.wj o h ra rb rc):=by
 show PE X _ (y_ (dR Γ.K o) (dR Γ.K h) (ah Γ ra) (ah Γ rb)<|ah Γ rc);rw[<-G.K];exact UI (zF G.units o) (zF G.units h) k g f m
theorem kx(h:PE X e (ah Γ r)):PE X (.BoolOp .And [e] p) (ah Γ<|.and [r]):=TB h
theorem jN(h:PE X e (ah Γ r))(t:PE X (.BoolOp .And (e2::es) p) (ah Γ<|.and (f::rs))):PE X (.BoolOp .And (e::e2::es) p) (ah Γ<|.and (r::f::rs)):=TC h t
theorem D4(G:Good CX S Γ X)(h:PE X a (ah Γ ra)):PE X (.UnaryOp .Not a p) (ah Γ<|.not ra):=by
 show PE X _ (DA Γ.K<|ah Γ ra);rw[<-G.K];exact Zv h
theorem uE(h:PT X c (bo Γ rc))(g:PE X a (ah Γ ra))(f:PE X b (ah Γ rb)):PE X (.IfExp c a b p) (ah Γ<|.lB rc ra rb):=TF h g f
theorem ak:PA X [] (bg Γ []):=uf
theorem ae(h:PE X e (ah Γ r))(t:PA X es (bg Γ rs))(s:noStar e=true:=by kernel_rfl):PA X (e::es) (bg Γ (r::rs)):=nZ h t (fO s)
theorem aX(G:Good CX S Γ X)(A:PA X (e::es) (bg Γ (r::rs)))(h:kF S j x=true:=by kernel_rfl)(n:ic (e::es)=true:=by kernel_rfl)(m:S.md=0:=by rfl):PE X (.Call (.Name x p) (e::es) [] pos) (ah Γ<|.call j (r::rs)):=by
 simp only[kF,zaj,decide_eq_true_eq,zaU] at h;obtain⟨k,f,v,u,zq⟩:=qx4 (G.fns m j x h.1.1);obtain⟨g,l,o,s,t⟩:=qa5 zq;exact U7 g l (G.gl h.1.2) o s t .nil G.pass A h.2 (fO (d_ n).1)<|lK _ _ es (d_ n).2
theorem z9(G:Good CX S Γ X)(A:PA X (e::es) (bg Γ (r::rs)))(h:kK S j x=true:=by kernel_rfl)(n:ic (e::es)=true:=by kernel_rfl)(o:S.md=0:=by rfl):PE X (.Call (.Name x p) (e::es) [] pos) (ah Γ<|.make j (r::rs)):=by
 simp only[kK,zaj,decide_eq_true_eq,zaU] at h;obtain⟨k,f,v,u,zq⟩:=qx4 (G.qj o j x h.1.1);obtain⟨g,l,m,s,t⟩:=qa5 zq;exact U9 g l m (G.gl h.1.2) s t .nil G.pass A h.2 (fO (d_ n).1)<|lK _ _ es (d_ n).2
theorem cy{t:oC}(G:Good CX S Γ X)(A:PA X (e::es) (bg Γ (r::rs)))(h:kB S x t.nm=true:=by kernel_rfl)(n:ic (e::es)=true:=by kernel_rfl)(o:S.md=0:=by rfl):PE X (.Call (.Name x p) (e::es) [] pos) (ah Γ<|.blt t (r::rs)):=by
 simp only[kB,zaj,decide_eq_true_eq] at h;obtain⟨⟨rfl,m⟩,l⟩:=h;have k:t.nm≠"__name__":=by cases t<;>decide
 have g:(t.nm==("__debug__":Str))=false:=by cases t<;>decide
 show PE X _ (ia (p9 Γ.K t)<|bg Γ (r::rs));rw[<-G.K];cases Ze (G.calm o) t with
 |fn s v f=>exact CW f (G.gl m) (G.gk _ l) v A k g (fO (d_ n).1) (lK _ _ es (d_ n).2)
 |ty T v f=>exact Vb f (G.gl m) (G.gk _ l) v A k g (fO (d_ n).1) (lK _ _ es (d_ n).2)
theorem oM{T:Ty}{y:Str}(G:Good CX S Γ X)(l:PE X a (ah Γ ra))(h:kB S x "isinstance"=true:=by kernel_rfl)(f:kB S y (Str.ofString T.nm)=true:=by kernel_rfl)(s:noStar a=true:=by kernel_rfl):PE X (.Call (.Name x p) [a,.Name y q] [] pos) (ah Γ<|.iJ T ra):=by
 simp only[kB,zaj,decide_eq_true_eq] at h f;obtain⟨⟨rfl,n⟩,m⟩:=h;obtain⟨⟨rfl,g⟩,k⟩:=f;exact Zp l s (G.gl n) (G.gk _ m) (G.gl g)<|G.gk _ k
theorem je(G:Good CX S Γ X)(g:PE X a (ah Γ ra))(f:PE X b (ah Γ rb))(h:kB S x "isinstance"=true:=by kernel_rfl)(n:ic [a,b]=true:=by kernel_rfl):PE X (.Call (.Name x p) [a,b] [] pos) (ah Γ<|.dS ra rb):=by
 simp only[kB,zaj,decide_eq_true_eq] at h;obtain⟨⟨rfl,l⟩,k⟩:=h;show PE X _ (ia (mP Γ.K)<|d5 (ah Γ ra)<|d5 (ah Γ rb) i7);rw[<-G.K];exact CW YX (G.gl l) (G.gk _ k) KG (nZ g (nZ f uf<|fO (d_ (d_ n).2).1)<|fO (d_ n).1) (by decide) (O) (fO (d_ n).1)<|lK _ _ _ (d_ n).2
theorem ZJ(G:Good CX S Γ X)(v:bootBuiltins (Str.ofString n)=some (.type n))(g:Str.ofString n≠"__name__")(f:(Str.ofString n==("__debug__":Str))=false)(h:kB S x (Str.ofString n)=true:=by kernel_rfl):PE X (.Name x p) (ah Γ<|.c<|.ty n):=by
 simp only[kB,zaj,decide_eq_true_eq] at h;obtain⟨⟨rfl,l⟩,k⟩:=h;exact Ib (G.gl l) (G.gk _ k) v O g f
noncomputable def kH(S:df)(j:Nat)(x:Str):Bool:=decide (S.hn[j]?=some x) && oF S.sc x && !(x==("__debug__":Str))
theorem ZK(G:Good CX S Γ X)(t:PE X a (ah Γ ra))(h:kH S j x=true:=by kernel_rfl)(s:noStar a=true:=by kernel_rfl):PE X (.Call (.Name x p) [a] [] pos) (ah Γ<|.wk j ra):=by
 simp only[kH,zaj,decide_eq_true_eq,zaU] at h;obtain⟨k,f,v,u,zq⟩:=qx4 (G.oJ j x h.1.1);obtain⟨g,l,m,n,o⟩:=qa5 zq;exact Y2 g l (G.gl h.1.2) m n o G.qk t s h.2
theorem sf{o:Expr}{f:RE}{g:Pos}(G:Good CX S Γ X)(k:PE X o (ah Γ f))(h:kM o m.nm x 0 g pos=true:=by kernel_rfl):PE X (.Call (.Attribute o x g) [] [] pos) (ah Γ<|.bE m f []):=by
 simp only[kM,zaj,decide_eq_true_eq] at h;obtain⟨⟨⟨rfl,n⟩,l⟩, -⟩:=h;show PE X _ (ur Γ.K m (ah Γ f) i7);rw[<-G.K];exact Zx k n l
theorem cL{m:jb}{o:Expr}{f:RE}{g:Pos}(G:Good CX S Γ X)(k:PE X o (ah Γ f))(A:PA X (e::es) (bg Γ (r::rs)))(h:kM o m.nm x (es.length+1) g pos=true:=by kernel_rfl)(n:ic (e::es)=true:=by kernel_rfl):PE X (.Call (.Attribute o x g) (e::es) [] pos) (ah Γ<|.bE m f (r::rs)):=by
 simp only[kM,zaj,decide_eq_true_eq] at h;obtain⟨⟨⟨rfl,t⟩,s⟩,l⟩:=h;show PE X _ (ur Γ.K m (ah Γ f)<|bg Γ (r::rs));rw[<-G.K];exact Zw k A t s l (fO (d_ n).1) (lK _ _ es (d_ n).2)<|D0 _ _ (e::es) n
theorem bK{o:RE}(G:Good CX S Γ X)(g:PE X a (ah Γ o))(h:qf a=true:=by kernel_rfl):PE X (.Attribute a f p) (ah Γ<|.fld o f):=by
 show PE X _ (zc Γ.K (ah Γ o) f);rw[<-G.K];exact U2 g<|rP h
theorem eo{o:Expr}{f:RE}{g:Pos}(G:Good CX S Γ X)(l:PE X o (ah Γ f))(h:(kM o m m 0 g pos && decide (S.mn[j]?=some m))=true:=by kernel_rfl)(k:S.md=0:=by rfl):PE X (.Call (.Attribute o m g) [] [] pos) (ah Γ<|.aU j m f []):=by
 simp only[kM,zaj,decide_eq_true_eq] at h;obtain⟨⟨⟨⟨-,t⟩,s⟩, -⟩,n⟩:=h;exact ZA (G.oI k j _ n) G.pass l t s
theorem dn{o:Expr}{f:RE}{g:Pos}(G:Good CX S Γ X)(l:PE X o (ah Γ f))(A:PA X (e::es) (bg Γ (r::rs)))(h:(kM o m m (es.length+1) g pos && decide (S.mn[j]?=some m))=true:=by kernel_rfl)(n:ic (e::es)=true:=by kernel_rfl)(k:S.md=0:=by rfl):PE X (.Call (.Attribute o m g) (e::es) [] pos) (ah Γ<|.aU j m f (r::rs)):=by
 simp only[kM,zaj,decide_eq_true_eq] at h;obtain⟨⟨⟨⟨-,v⟩,u⟩,t⟩,s⟩:=h;exact Zz (G.oI k j _ s) G.pass l A v u t (fO (d_ n).1) (lK _ _ es (d_ n).2)<|D0 _ _ (e::es) n
theorem ZM(h:wF b=true):Jm b:=λo i=>by cases b<;>first|rfl|cases h
theorem aK(G:Good CX S Γ X)(g:PE X a (ah Γ ra))(f:PE X b (ah Γ rb))(h:wF b=true:=by kernel_rfl):PE X (.Subscript a b p) (ah Γ<|.ix ra rb):=by
 show PE X _ (gA (qd Γ.K Γ.sd) (ah Γ ra)<|ah Γ rb);rw[<-G.K];exact Vo (Zj G.oH) g f<|ZM h
theorem ZN(h:wF b=true):Dl b:=λo v=>by cases b<;>first|rfl|cases h
theorem bV(G:Good CX S Γ X)(g:PE X a (ah Γ ra))(f:PE X b (ah Γ rb))(h:wF b=true:=by kernel_rfl):PE X (.Subscript a b p) (ah Γ<|.bI ra rb):=
 Wi (by have:=G.units;lia) g f (ZN h)
theorem ZO(G:Good CX S Γ X)(g:PE X a (ah Γ ra))(f:PE X b (ah Γ rb))(h:behindInMarks .In b=false:=by kernel_rfl):PT X (.Compare a [.In] [b] p) (bo Γ<|.uo ra rb):=
 Tw (Wj (by have:=G.units;lia) g f) h
theorem lM{lo f:Option Expr}{rl h:Option RE}(G:Good CX S Γ X)(k:PE X a (ah Γ ra))(l:PO X lo (qe Γ rl))(g:PO X f (qe Γ h)):PE X (.Subscript a (.Slice lo f none q) p) (ah Γ<|.sl ra rl h):=by
 show PE X _ (C1 (uu Γ.K) (ah Γ ra) (qe Γ rl)<|qe Γ h);rw[<-G.K];exact Vk Zs k l g
theorem wG:PO X none (qe Γ none):=Jj
theorem ij(h:PE X a (ah Γ ra)):PO X (some a) (qe Γ<|some ra):=C0 h
theorem bN(h:PA X es (bg Γ rs)):PE X (.Tuple es k p) (ah Γ<|.tup rs):=U5 h
theorem bh(h:PA X es (bg Γ rs)):PE X (.List es p) (ah Γ<|.lst rs):=U6 h
def wH(CX:cE)(S:df)(Γ:ba)(f:Option RE)(s:List Expr):Prop:=match f with
 |none=>s=[]
 |some r=>∃g,s=[g]/\∀X,Good CX S Γ X->PT X g (bo Γ r)
theorem si:wH CX S Γ none []:=O
theorem z_(h:∀X,Good CX S Γ X->PT X e (bo Γ r)):wH CX S Γ (some r) [e]:=⟨e,O,h⟩
noncomputable def kC(S:df)(t:Option Nat)(tg f:Expr)(s:Scope)(k:IK)(ln:List Str)(v:List (Str×Nat)):Bool:=decide (DD t tg=some ln) && (decide (k≠ .zip)||t.isSome) && DE S ⟨.Constant .none 0 ⟨0,0,0,0⟩,tg,f,[],s⟩ ln v
noncomputable abbrev cS(S:df)(s:Scope)(ln:List Str)(f:List (Str×Nat)):df:={S with N:=ln++f.map (·.1),sc:=DC s S.sc,en:=[],md:=if S.md=0 then 0 else 2}
theorem oN{k:IK}{u:List RE}{g:Option RE}{t:RE}{z tg f:Expr}{m:List Expr}{l:Scope}{ln:List Str}(G:Good CX S Γ X)(h:kC S w tg f l k ln v=true)(N:PI X tg f (jJ Γ k u))(y:wH CX (cS S l ln v) Γ.calm g m)(P:∀X,Good CX (cS S l ln v) Γ.calm X->PE X z (ah Γ.calm t))(n:S.md=0:=by rfl):PE X (.ListComp z [⟨tg,f,m,0⟩] l p) (ah Γ<|.comp w v k u g t):=by
 simp only[kC,zaj,decide_eq_true_eq] at h;obtain⟨⟨R,V⟩,Q⟩:=h;obtain⟨I,E,D,A⟩:=D1 G Q;show PE X _ (pX Γ.K (jJ Γ k u) w v (wo Γ.calm g)<|ah Γ.calm t);rw[<-G.K];refine WU I (G.calm n) N (KD (G.calm n) R E D) ?_ (λo C s H=>P _<|G.inner ⟨.Constant .none 0 ⟨0,0,0,0⟩,tg,f,[],l⟩ ln v o C s H)<|wC A;cases g with
 |none=>exact y
 |some r=>
  obtain⟨T,q,n⟩:=y;exact⟨T,q,λo C s H=>n _<|G.inner ⟨.Constant .none 0 ⟨0,0,0,0⟩,tg,f,[],l⟩ ln v o C s H⟩
theorem cn{k u g t z tg f m l}(G:Good CX S Γ X)(N:PI X tg f (jJ Γ k u))(y:wH CX (cS S l ((DD w tg).getD []) v) Γ.calm g m)(P:∀X,Good CX (cS S l ((DD w tg).getD []) v) Γ.calm X->PE X z (ah Γ.calm t))(h:kC S w tg f l k ((DD w tg).getD []) v=true:=by kernel_rfl)(n:S.md=0:=by rfl):PE X (.ListComp z [⟨tg,f,m,0⟩] l p) (ah Γ<|.comp w v k u g t):=oN G h N y P n
theorem iO(h:PT X a (bo Γ ra)):PT X (.UnaryOp .Not a p) (bo Γ<|.not ra):=Tx h
theorem mV(h:PT X e (bo Γ r)):PW X (.BoolOp .And [e] p) (bo Γ<|.and [r]):=pw_and1 h
theorem lN(h:PT X e (bo Γ r))(t:PW X (.BoolOp .And (e2::es) p) (bo Γ<|.and (f::rs))):PW X (.BoolOp .And (e::e2::es) p) (bo Γ<|.and (r::f::rs)):=pw_and h t
theorem oO(h:PT X e (bo Γ r)):PW X (.BoolOp .Or [e] p) (bo Γ<|.or [r]):=pw_or1 h
theorem mW(h:PT X e (bo Γ r))(t:PW X (.BoolOp .Or (e2::es) p) (bo Γ<|.or (f::rs))):PW X (.BoolOp .Or (e::e2::es) p) (bo Γ<|.or (r::f::rs)):=pw_or h t
theorem aS(G:Good CX S Γ X)(g:PE X a (ah Γ ra))(f:PE X b (ah Γ rb))(h:behindInMarks o b=false:=by kernel_rfl):PT X (.Compare a [o] [b] p) (bo Γ<|.cmp o ra rb):=by
 show PT X _ (ud<|gA (dR Γ.K o) (ah Γ ra)<|ah Γ rb);rw[<-G.K];exact UH (zF G.units o) g f h
theorem KO(G:Good CX S Γ X)(h:PE X (.Name x p) (ah Γ<|.v i)):PT X (.Name x p) (bo Γ<|.v i):=by
 show PT X _ (ib Γ.K<|ah Γ<|.v i);rw[<-G.K];exact z6 h λ_=>O
theorem lO(G:Good CX S Γ X)(h:PE X (.Call a es [] p) (ah Γ<|.call j rs)):PT X (.Call a es [] p) (bo Γ<|.call j rs):=by
 show PT X _ (ib Γ.K<|ah Γ<|.call j rs);rw[<-G.K];exact z6 h λ_=>O
theorem KP(G:Good CX S Γ X)(h:PE X (.Call a es [] p) (ah Γ<|.dS ra rb)):PT X (.Call a es [] p) (bo Γ<|.dS ra rb):=by
 show PT X _ (ib Γ.K<|ah Γ<|.dS ra rb);rw[<-G.K];exact z6 h λ_=>O
theorem D5(G:Good CX S Γ X)(h:PE X (.Call a es [] p) (ah Γ<|.iJ T ra)):PT X (.Call a es [] p) (bo Γ<|.iJ T ra):=by
 exact z6 h λ_=>O
theorem jf(G:Good CX S Γ X)(h:PE X a (ah Γ ra)):PI X tg a (jJ Γ .list [ra]):=by
 show PI X tg a (vP Γ.K<|ah Γ ra);rw[<-G.K];exact Uc h
theorem sj{tg:Expr}(G:Good CX S Γ X)(f:PE X a (ah Γ ra))(h:kB S x "range"=true:=by kernel_rfl)(s:noStar a=true:=by kernel_rfl):PI X tg (.Call (.Name x p) [a] [] pos) (jJ Γ .gc [ra]):=by
 simp only[kB,zaj,decide_eq_true_eq] at h;obtain⟨⟨rfl,k⟩,g⟩:=h;exact Ug (G.gl k) (G.gk _ g) (nZ f uf<|fO s)<|fO s
theorem KQ{t:List Expr}{k}{f:Pos}(G:Good CX S Γ X)(l:PE X a (ah Γ ra))(g:PE X b (ah Γ rb))(h:kB S x "zip"=true:=by kernel_rfl)(n:ic [a,b]=true:=by kernel_rfl):PI X (.Tuple t k f) (.Call (.Name x p) [a,b] [] pos) (jJ Γ .zip [ra,rb]):=by
 simp only[kB,zaj,decide_eq_true_eq] at h;obtain⟨⟨rfl,o⟩,m⟩:=h;show PI X _ _ (DB Γ.K<|d5 (ah Γ ra)<|bg Γ [rb]);rw[<-G.K];exact X1 (G.gl o) (G.gk _ m) (nZ l (nZ g uf<|fO (d_ (d_ n).2).1)<|fO (d_ n).1) (fO (d_ n).1)<|lK _ _ _ (d_ n).2
end
section
variable{CX:cE}{S:df}{Γ:ba}{X:Cx}{e a b c v:Expr}{es:List Expr}{x:Str}{p q pos:Pos}{r ra rb rc:RE}{i j:Nat}{st:Stmt}{KR:List Stmt}{s:RS}{ss t u:List RS}
theorem D6{t:Option Expr}{l:Nat}{env:Env}(h:z7 v=true):swapsWith v t l env=pure false:=by
 cases v<;>first|rfl|cases h
theorem ZP{l:Nat}{env:Env}(h:env.kindOf x=some .cell):swapsWith v (some<|.Name x p) l env=pure false:=by
 cases v<;>first
  |rfl
  |(unfold swapsWith;simp only[h];have q:(some NameKind.cell==some NameKind.local)=false:=O;simp only[q,Bool.and_false,Bool.false_and])
theorem KS{i:Expr}{p:Pos}{l:Nat}{env:Env}:swapsWith v (some<|.Subscript o i p) l env=pure false:=by
 cases v<;>rfl
theorem ZQ{i:Expr}{p:Pos}{env:Env}:swappedStores [.Subscript o i p] v env=pure none:=O
theorem dE.name(G:dE CX S Γ X)(h:kL S i x=true):PG X (.Name x p) (e9 i):=by
 simp only[kL,zaj,decide_eq_true_eq] at h;exact t_ (G.N▸G.nd) (G.N▸h.1) (G.sc▸zK h.2)<|.inl<|G.mU x
theorem aq:dZ X [] (az Γ []):=Ik
theorem aj(h:PS X st (cg Γ s))(t:dZ X KR (az Γ ss)):dZ X (st::KR) (az Γ (s::ss)):=TJ h t
theorem aL(G:dE CX S Γ X)(g:PE X v (ah Γ r))(h:kL S i x=true:=by kernel_rfl)(f:(z7 v ||decide (S.sc.names.lookup x=some .cell))=true:=by kernel_rfl):PS X (.Assign [.Name x p] v q) (cg Γ<|.asg i r):=by
 simp only[kL,zaj,decide_eq_true_eq,zbS] at h f;refine TY (G.N▸G.nd) (G.N▸h.1) (G.sc▸zK h.2) g ?_<|.inl<|G.mU x;rcases f with d|d
 exact D6 d;exact ZP (by show X.env.scope.names.lookup x=_;rw[G.sc];exact d)
theorem ZR{k:IK}{D:List RE}{f:Option RE}{m:RE}{P tg d:Expr}{n:List Expr}{g:Scope}{ln:List Str}{o:Pos}(G:dE CX S Γ X)(z:kL S i x=true)(w:z8 S.sc x p.line g o=true)(h:kC S E tg d g k ln l=true)(Z:PI X tg d (jJ Γ k D))(I:wH CX (cS S g ln l) Γ.calm f n)(B:∀X,Good CX (cS S g ln l) Γ.calm X->PE X P (ah Γ.calm m))(y:S.md=0:=by rfl):PS X (.Assign [.Name x p] (.ListComp P [⟨tg,d,n,0⟩] g o) q) (cg Γ<|.rX i<|.comp E l k D f m):=by
 simp only[kC,kL,z8,zaj,decide_eq_true_eq,beq_iff_eq,zaU] at h z w;obtain⟨⟨J,W⟩,F⟩:=h;obtain⟨V,T,R,Q⟩:=D1 G.toGood F;show PS X _ (k_ (pX Γ.K (jJ Γ k D) E l (wo Γ.calm f)<|ah Γ.calm m)<|e9 i);rw[<-G.K];refine WV (G.N▸G.nd) (G.N▸z.1) (G.sc▸zK z.2) ?_ V (G.calm y) Z (KD (G.calm y) J T R) ?_ (λA C s H=>B _<|G.toGood.inner ⟨.Constant .none 0 ⟨0,0,0,0⟩,tg,d,[],g⟩ ln l A C s H) (wC Q)<|.inl<|G.mU x;have M:X.env.kindOf x=some .local:=by show X.env.scope.names.lookup x=_;rw[G.sc];exact w.1.1.2
 have L:X.env.blockKind=.function:=by unfold Env.blockKind;rw[G.qo];rfl
 unfold swapsWith;simp only[M,L,w.1.2,w.2];show pure (true && true && (o.line==o.line) && !false)=pure true;rw[beq_self_eq_true];rfl;cases f with
 |none=>exact I
 |some r=>
  obtain⟨U,q,y⟩:=I;exact⟨U,q,λA C s H=>y _<|G.toGood.inner ⟨.Constant .none 0 ⟨0,0,0,0⟩,tg,d,[],g⟩ ln l A C s H⟩
theorem ZS{l:RE}{Z d:Expr}{o:List Expr}{k:Scope}{g n:Str}{A z w:Pos}{D}{y:Pos}(G:dE CX S Γ X)(Q:kL S i x=true)(E:z8 S.sc x p.line k y=true)(h:kC S (some 2) (.Tuple [.Name g A,.Name n z] D w) d k .list [g,n] m=true)(L:PE X d (ah Γ ra))
  (V:wH CX (cS S k [g,n] m) Γ.calm f o) (M:∀X,Good CX (cS S k [g,n] m) Γ.calm X->PE X Z (ah Γ.calm l)) (P:S.md=1:=by rfl):PS X (.Assign [.Name x p] (.ListComp Z [⟨.Tuple [.Name g A,.Name n z] D w,d,o,0⟩] k y) q) (cg Γ<|.rX i<|.comp (some 2) m .list [ra] f l):=by
 simp only[kC,kL,z8,zaj,decide_eq_true_eq,beq_iff_eq,zaU] at h Q E;obtain⟨⟨h1,h2⟩,U⟩:=h;obtain⟨J,T,F,B⟩:=D1 G.toGood U;show PS X _ (k_ (pX Γ.K (vP Γ.K<|ah Γ ra) (some 2) m (wo Γ.calm f)<|ah Γ.calm l)<|e9 i);rw[<-G.K];refine J4 (G.N▸G.nd) (G.N▸Q.1) (G.sc▸zK Q.2) ?_ J YW (λ_ _ _ _ I=>(G.rZ P).at I) (YT L) (YV (T g (by simp)) (T n (by simp)) F) ?_ (λR C s H=>M _<|G.toGood.inner ⟨.Constant .none 0 ⟨0,0,0,0⟩,.Tuple [.Name g A,.Name n z] D w,d,[],k⟩ [g,n] m R C s H) (wC B)<|.inl<|G.mU x;have Y:X.env.kindOf x=some .local:=by show X.env.scope.names.lookup x=_;rw[G.sc];exact E.1.1.2
 have W:X.env.blockKind=.function:=by unfold Env.blockKind;rw[G.qo];rfl
 unfold swapsWith;simp only[Y,W,E.1.2,E.2];show pure (true && true && (y.line==y.line) && !false)=pure true;rw[beq_self_eq_true];rfl;cases f with
 |none=>exact V
 |some r=>
  obtain⟨e0,q,P⟩:=V;exact⟨e0,q,λR C s H=>P _<|G.toGood.inner ⟨.Constant .none 0 ⟨0,0,0,0⟩,.Tuple [.Name g A,.Name n z] D w,d,[],k⟩ [g,n] m R C s H⟩
theorem jO(d:PE X v (ah Γ r))(g:PE X a (ah Γ ra))(f:PE X b (ah Γ rb))(h:wF b=true:=by kernel_rfl):PS X (.Assign [.Subscript a b p] v q) (cg Γ<|.set ra rb r):=
 TX d (TV g f set_list (by intro w;cases b<;>first|rfl|cases h)) (by exact KS (o:=a) (i:=b) (p:=p) (l:=q.line) (env:=X.env)) ZQ O
theorem wI(G:dE CX S Γ X)(h:PE X v (ah Γ r))(f:PE X a (ah Γ ra))(d:PE X b (ah Γ rb)):PS X (.Assign [.Subscript a b p] v q) (cg Γ<|.dput ra rb r):=
 Wk (by have:=G.toGood.units;lia) f d h (by exact KS)
theorem jg(G:dE CX S Γ X)(o:PE X a (ah Γ ra))(d:PE X v (ah Γ r))(h:z7 v=true:=by kernel_rfl):PS X (.Assign [.Attribute a f p] v q) (cg Γ<|.fI ra f r):=by
 show PS X _ (zd Γ.K (ah Γ ra) (ah Γ r) f);rw[<-G.K];exact IV o d<|D6 h
theorem bJ(d:PE X v (ah Γ r))(h:z7 v=true:=by kernel_rfl):PS X (.Expr v p) (cg Γ<|.drop r):=TM d (D6 h)
theorem aZ(h:PE X v (ah Γ r)):PS X (.Return (some v) p) (cg Γ<|.ret r):=TN h
theorem bj(h:PT X c (bo Γ rc))(f:dZ X g (az Γ t))(d:dZ X bs (az Γ u)):PS X (.If c g bs p) (cg Γ<|.ite rc t u):=TR h f d
theorem sk(G:dE CX S Γ X)(h:PT X c (bo Γ rc))(d:dZ X f (az Γ t)):PS X (.While c f [] p) (cg Γ<|.mQ rc t):=TZ G.own h d
theorem so{d:Expr}{f:List Stmt}(G:dE CX S Γ X)(m:PI X (.Name x p) d (jJ Γ k o))(n:dZ X f (az Γ t))(h:kL S i x=true:=by kernel_rfl)(g:wt d=true:=by kernel_rfl)(l:S.md=0:=by rfl):PS X (.For (.Name x p) d f [] q) (cg Γ<|.ko i k o t):=
 Iz G.own (G.calm l) m (G.name h) n (wC g)
theorem KU(G:dE CX S Γ X):∀(d:List Nat)(xs:List (Str×Pos)),uD S.N S.sc d (xs.map (·.1))=true->
  rD X (xs.map λy=>.Name y.1 y.2) (qm d)/\(assignEach (xs.map λy=>Expr.Name y.1 y.2) X.env).length=d.length/\(assignEach (xs.map λy=>Expr.Name y.1 y.2) X.env).findIdx? (·.1)=none
 |[],xs,h=>by
  simp only[uD,List.isEmpty_iff,List.map_eq_nil_iff] at h;subst h;exact⟨CD,O,O⟩
 |i::r,[],h=>by cases h
 |i::r,y::t,h=>by
  simp only[zaz,uD,zaj] at h;obtain⟨k,g,f⟩:=KU G r t h.2;refine⟨vO (G.name (by simp only[kL,zaj];exact h.1)) k O,?_,?_⟩;show(assignEach _ X.env).length+1=r.length+1;rw[g];show List.findIdx? (·.1) ((false,assign (.Name y.1 y.2) X.env)::assignEach _ X.env)=none;rw[List.findIdx?_cons,f];rfl
theorem sq{k:IK}{o:List RE}{d:Expr}{n:List Stmt}{l}{g:Pos}(xs:List (Str×Pos))(G:dE CX S Γ X)(D:PI X (.Tuple (xs.map λy=>.Name y.1 y.2) l g) d (jJ Γ k o))(E:dZ X n (az Γ t))(h:uD S.N S.sc f (xs.map (·.1))=true:=by kernel_rfl)(C:wt d=true:=by kernel_rfl)(m:S.md=0:=by rfl):
  PS X (.For (.Tuple (xs.map λy=>.Name y.1 y.2) l g) d n [] q) (cg Γ<|.lE f k o t):=by
 obtain⟨A,z,w⟩:=KU G f xs h;show PS X _ (y4 (jJ Γ k o) (r9 Γ.K f.length<|qm f)<|az Γ t);rw[<-G.K];exact Iz G.own (G.calm m) D (ZF (G.calm m) A z w) E<|wC C
noncomputable def kX(S:df)(j:Nat)(x:Str):Bool:=decide (S.en[j]?=some x) && oF S.sc x && !(x==("__debug__":Str))
theorem ky{k R:Pos}(G:dE CX S Γ X)(A:PA X (e::es) (bg Γ (r::rs)))(h:kX S j x=true:=by kernel_rfl)(g:ic (e::es)=true:=by kernel_rfl)(l:S.md=0:=by rfl):PS X (.Raise (some<|.Call (.Name x k) (e::es) [] R) none pos) (cg Γ<|.jA j (r::rs)):=by
 simp only[kX,zaj,decide_eq_true_eq,zaU] at h;obtain⟨o,f,n,w,d,m⟩:=G.uC j x h.1.1;exact Yx (G.calm l) d m (G.gl h.1.2) h.2 A (fO (d_ g).1) (lK _ _ es (d_ g).2)<|G.rs j x h.1.1
abbrev tS(S:df):df:={S with en:=[]}
abbrev hS(S:df):df:={S with en:=[],md:=2}
theorem dE.ZT(G:dE CX S Γ X)(n:List (Addr×Obj))(d:Value->Shared->Prop)(E:XK)(o:PassesOwn (model X.prog X.w) X.A X.env d)(f:Passes (gj X.prog X.w) (X.alt X.A X.calm n d) E):
  dE CX (tS S) {Γ with E:=E} (X.alt X.A X.calm n d):=
 {N:=G.N,sc:=G.sc,K:=G.K,calm:=G.calm,units:=G.units,gd:=G.gd,fns:=G.fns,fN:=G.fN,gk:=G.gk,pass:=G.se▸f,mT:=G.mT,oH:=G.oH,oI:=G.oI,qj:=G.qj,
  uC:=λ_ _ h=>(by simp at h),oJ:=G.oJ,qk:=G.qk,rZ:=G.rZ,nd:=G.nd,mU:=G.mU,own:=o,qo:=G.qo,rs:=λ_ _ h=>(by simp at h),ke:=G.ke,iL:=G.iL,r_:=G.r_,se:=G.se}
theorem dE.held(G:dE CX S Γ X)(g:Addr)(n:List (Addr×Obj)):
  dE CX (hS S) {Γ with E:=E0,hv:=some g} (X.alt (X.A.mark<|some<|.ref g) false n λ_ _=>False):=
 {N:=G.N,sc:=G.sc,K:=G.K,calm:=λh=>(nomatch h),units:=G.units,gd:=G.gd,fns:=λh=>(nomatch h),fN:=G.fN,gk:=G.gk,pass:=λ_ _ _ _ _ _ _ h=>(G.mT _ _ _ _ _ h).elim,mT:=G.mT,oH:=G.oH,oI:=λh=>(nomatch h),qj:=λh=>(nomatch h),
  uC:=λ_ _ h=>(by simp at h),oJ:=λj x h=>(by
   obtain⟨k,f,o,l,zq⟩:=qx4 (G.oJ j x h);obtain⟨d,r,m⟩:=qa3 zq;exact⟨k,f,o,l,d,r.mark _,m⟩),
  qk:=λe h=>(by cases h;rfl),rZ:=λh=>(nomatch h),nd:=G.nd,mU:=G.mU,own:=PassesOwn.never,qo:=G.qo,rs:=λ_ _ h=>(by simp at h),ke:=G.ke,iL:=G.iL,r_:=G.r_,se:=G.se}
theorem ZU{T P:Pos}{f z:List Stmt}{d:Stmt}{rb w:List RS}(G:dE CX S Γ X)(h:kG S j x=true)(l:(decide (S.N.length=n) && decide (S.N[i]?=some y) && decide (S.sc.names.lookup y=some .local))=true)(L:∀{Γ:ba}{X:Cx},dE CX (tS S) Γ X->dZ X f (az Γ rb))(V:∀{Γ:ba}{X:Cx},dE CX (hS S) Γ X->dZ X (d::z) (az Γ w)):
  PS X (.Try f [.ExceptHandler (some<|.Name x T) (some y) (d::z) P] [] [] pos) (cg Γ<|.Dz n i j rb w):=by
 simp only[kG,zaj,decide_eq_true_eq,zaU] at h l;obtain⟨u,F,A⟩:=G.fN j x h.1.1;intro g s m H D I q;obtain⟨C,e,q⟩:=(show ∃C,Γ.gv j=.ref C/\zJ Γ.K C i n (λE=>az {Γ with E:=E} rb) (λk=>az {Γ with E:=E0,hv:=some k} w) D m H from q);rw[e] at A;subst A;have J:=G.N▸l.1.1;have R:zJ X.K C i X.N.length (λE=>az {Γ with E:=E} rb) (λk=>az {Γ with E:=E0,hv:=some k} w) D m H:=by rw[G.K,J];exact q
 exact YA G.ke G.iL G.r_ (G.gl h.1.2) h.2 F (G.N▸G.nd) (G.N▸l.1.2) (G.sc▸l.2)
  (λo Q E B Z=>L<|G.ZT o Q E B Z) (λk o=>V<|G.held k o) g s m H D I R
theorem KW:PS X (.Continue p) (cg Γ .cont):=TL
end
section
variable{P:Program}{w:World}{K:Frag}{mg:Str->Option Value}{base:Heap}
def iP(P:Program)(w:World)(K:Frag)(mg:Str->Option Value)(base:Heap)(k:Nat)(x:Str)(sp:Sp):Prop:=
 ∃f d p,de P w K mg base (gj P w) k f d p sp/\mg x=some (.ref f)/\PySem.W.keepIn K (.ref f)=true/\Binds K d p []
theorem iP.mono{x:Str}{sp:Sp}(h:iP P w K mg base j x sp)(b:j<=k):iP P w K mg base k x sp:=by
 obtain⟨f,d,p,a,r⟩:=h;exact⟨f,d,p,a.mono b,r⟩
def qp(t:List (Str×Sp))(j:Nat):Sp:=match t[j]? with
 |some p=>p.2
 |none=>λ_ _ _ _=>False
def sv(t:List (Str×V))(j:Nat):V:=match t[j]? with
 |some p=>p.2
 |none=>.aD
structure wK(mg:Str->Option Value)(p:Str×V):Prop where
 ex:∃u,mg p.1=some u/\RelV p.2 u
def mX(t:List (Str×Addr×Sp))(j:Nat):Addr×Sp:=match t[j]? with
 |some p=>p.2
 |none=>(0,λ_ _ _ _=>False)
def Aa(t:List (Str×Addr))(j:Nat):Addr:=match t[j]? with
 |some p=>p.2
 |none=>0
noncomputable abbrev aI(K:Frag)(t:List (Str×Sp))(g:List (Str×V))(d:List (Addr×List (Key×V)):=[])(m a:List (Str×Addr×Sp):=[])(et:List (Str×Addr):=[])(ht:List (Str×Sp):=[])(E:XK:=E0):ba:=
 {K:=K,fs:=qp t,gv:=sv g,E:=E,sd:=λp k=>(p,k)∈d,ms:=mX m,kt:=mX a,ex:=Aa et,hs:=qp ht,hv:=none}
def iQ(P:Program)(w:World)(K:Frag)(mg:Str->Option Value)(base:Heap)(k:Nat)(p:Str×Addr×Sp):Prop:=
 gT K p.2.1/\∃f d s,Meth K p.2.1 p.1 f/\de P w K mg base (gj P w) k f d s p.2.2/\Binds K d s []
def sx(P:Program)(w:World)(K:Frag)(mg:Str->Option Value)(base:Heap)(k:Nat)(p:Str×Addr×Sp):Prop:=
 ∃j f d s,j+1<=k/\Mk K p.2.1 f/\de P w K mg base (gj P w) j f d s p.2.2/\mg p.1=some (.ref p.2.1)/\Binds K d s []
theorem iQ.mono{p:Str×Addr×Sp}(h:iQ P w K mg base j p)(d:j<=k):iQ P w K mg base k p:=by
 obtain⟨c,f,e,s,m,a,b⟩:=h;exact⟨c,f,e,s,m,a.mono d,b⟩
theorem sx.mono{p:Str×Addr×Sp}(h:sx P w K mg base j p)(a:j<=k):sx P w K mg base k p:=by
 obtain⟨i,f,d,s,m,r⟩:=h;exact⟨i,f,d,s,zat m a,r⟩
def Ab(P:Program)(w:World)(K:Frag)(q:Addr×List (Key×V)):Prop:= ∀h:Heap,K.In h->∃vs,KV q.2 vs/\h.DictOf (eQ P w) q.1 vs
abbrev uF(N:List Str)(s:Scope)(t:List Str)(g:List Str)(b:List Str)(m k:List Str:=[])(e h:List Str:=[])(md:Nat:=0):df:={N:=N,sc:=s,fn:=t,gn:=g,bl:=b,mn:=m,kn:=k,en:=e,hn:=h,md:=md}
def Ac(mg:Str->Option Value)(base:Heap)(p:Str×Addr):Prop:= ∃b a n u,OwnCls p.1 p.2 b n mg base/\ExcBaseFacts a n u b
def qq(P:Program)(w:World)(K:Frag)(mg:Str->Option Value)(base:Heap)(k:Nat)(x:Str)(sp:Sp):Prop:=
 ∃f d p,rY P w K mg base k f d p sp/\mg x=some (.ref f)/\PySem.W.keepIn K (.ref f)=true/\Binds K d p []
theorem qq.mono{mg:Str->Option Value}{base:Heap}{j k:Nat}{x:Str}{sp:Sp}(h:qq P w K mg base j x sp)(b:j<=k):qq P w K mg base k x sp:=by
 obtain⟨f,d,p,a,r⟩:=h;exact⟨f,d,p,a.mono b,r⟩
theorem ZW{st:Stmt}{f:Addr}{J:FuncData}{N R:List Str}{k:Nat}{sp:Sp}(a:pT K x c' st f J)(S:pQ N R (fG st))(t:List (Str×Sp))(I:List (Str×V))(M:List Str)(m o:List (Str×Addr×Sp))(et:List (Str×Addr))(ht:List (Str×Sp))(l:List RS)(hm:∀{CX:cE}{F:ba}{X:Cx},dE CX (uF N (fG st) (t.map (·.1)) (I.map (·.1)) M (m.map (·.1)) (o.map (·.1)) (et.map (·.1)) (ht.map (·.1))) F X->dZ X (fF st) (az F l))(D7:∀p∈t,iP P w K mg base k p.1 p.2)(U:∀p∈I,wK mg p)(Y:∀y∈M,mg y=none)(L:List (Addr×List (Key×V)))(D8:∀q∈L,Ab P w K q)(D9:∀p∈m,iQ P w K mg base k p)(D_:∀p∈o,sx P w K mg base k p)(a':∀p∈et,Ac mg base p)(Ea:∀p∈ht,qq P w K mg base k p.1 p.2)(Z:∀vs H Q E,sp vs H Q E->vs.length=R.length)(W:∀vs H Q E,sp vs H Q E->az (aI K t I L m o et ht E) l {nx:=λ_ H'=>Q .aD H',rt:=Q} (start N vs) H):de P w K mg base (gj P w) (k+1) f J R sp:=by
 obtain⟨oc,od,kV,e',pm,an,bH,ct,iE,zq⟩:=qx9 a.ex;obtain⟨rfl,lk,jx⟩:=qa3 zq;refine Va lk jx S Z λA T s H vs Q E G jG=>⟨_,hm (CX:=gj P w) ?_,W vs H Q E jG⟩;refine {N:=O,sc:=O,K:=O,calm:=λ_=>O,units:=G.units,gd:=G.gd,fns:=λ_ j y d=>?_,fN:=λj y d=>?_,gk:=λy hy=>?_,pass:=Yv,mT:=λ_ _ _ _ _ h=>zS h,oH:=λp d' h=>D8 _ h,oI:=λ_ j y d=>?_,qj:=λ_ j y d=>?_,uC:=λj y d=>?_,oJ:=λj y d=>?_,qk:=λ_ h=>(nomatch h),rZ:=λh=>(nomatch h),nd:=S.nd,mU:=λ_=>O,own:=PassesOwn.leaving,qo:=S.kind,rs:=λ_ _ _=>Yw,ke:=O,iL:=O,r_:=O,se:=O};have b:=d;rw[zaf] at b;cases q:t[j]? with
 |none=>rw[q] at b;cases b
 |some p=>
  rw[q] at b;have e:=zal b;obtain⟨r,C,z,D,n,B,v⟩:=D7 p (zak q);have g:qp t j=p.2:=by unfold qp;rw[q]
  show Ky (gj P w) _ y (qp t j);rw[g,<-e];exact⟨k,r,C,z,D,G,n,B,v⟩
 have b:=d;rw[zaf] at b;cases q:I[j]? with
 |none=>rw[q] at b;cases b
 |some p=>
  rw[q] at b;have e:=zal b;obtain⟨u,h1,h2⟩:=(U p<|zak q).ex;have g:sv I j=p.2:=by unfold sv;rw[q]
  show ∃u,mg y=some u/\RelV (sv I j) u;rw[g,<-e];exact⟨u,h1,h2⟩
 exact Y y (by simpa using hy);have b:=d;rw[zaf] at b;cases q:m[j]? with
 |none=>rw[q] at b;cases b
 |some p=>
  rw[q] at b;have e:p.1=y:=zal b;obtain⟨c,r,C,z,n,D,v⟩:=D9 p (zak q);have g:mX m j=p.2:=by unfold mX;rw[q]
  show zY (gj P w) _ (mX m j).1 y (mX m j).2;rw[g,<-e];exact⟨c,k,r,C,z,n,D,G,v⟩
 have b:=d;rw[zaf] at b;cases q:o[j]? with
 |none=>rw[q] at b;cases b
 |some p=>
  rw[q] at b;have e:p.1=y:=zal b;obtain⟨i,r,C,z,zq⟩:=qx4 (D_ p (zak q));obtain⟨hi,n,D,g',v⟩:=qa5 zq;have g:mX o j=p.2:=by unfold mX;rw[q]
  show Kz (gj P w) _ y (mX o j).1 (mX o j).2;rw[g,<-e];exact⟨i,r,C,z,n,D,G.mono hi,g',v⟩
 have b:=d;rw[zaf] at b;cases q:et[j]? with
 |none=>rw[q] at b;cases b
 |some p=>
  rw[q] at b;have e:=zal b;have g:Aa et j=p.2:=by unfold Aa;rw[q]
  show KC _ y (Aa et j);rw[g,<-e];exact a' p<|zak q
 have b:=d;rw[zaf] at b;cases q:ht[j]? with
 |none=>rw[q] at b;cases b
 |some p=>
  rw[q] at b;have e:p.1=y:=zal b;obtain⟨r,C,z,D,n,B,v⟩:=Ea p (zak q);have g:qp ht j=p.2:=by unfold qp;rw[q]
  show KA _ y (qp ht j);rw[g,<-e];exact⟨k,r,C,z,D,G.h,n,B,v⟩
variable{x qual:Str}{st:Stmt}{f:Addr}{fd:FuncData}{N ps:List Str}{k:Nat}{sp:Sp}
theorem ZX(a:pT K x qual st f fd)(S:pQ N ps (fG st))(t:mg x=some (.ref f))(Z:Binds K fd ps [])(g:List (Str×V))(i:List Str)(b:List RS)(R:∀{CX:cE}{e:ba}{X:Cx},dE CX (uF N (fG st) [] (g.map (·.1)) i (md:=1)) e X->dZ X (fF st) (az e b))(m:∀p∈g,wK mg p)(v:∀y∈i,mg y=none)(l:∀vs H Q E,sp vs H Q E->vs.length=ps.length)(n:∀vs H Q,sp vs H Q E0->az (aI K [] g) b {nx:=λ_ H'=>Q .aD H',rt:=Q} (start N vs) H):qq P w K mg base (k+1) x sp:=by
 obtain⟨U,M,W,a',L,an,bH,ct,Y,zq⟩:=qx9 a.ex;obtain⟨rfl,z,D⟩:=qa3 zq;refine⟨f,_,ps,YZ (CX:=gj P w) z D S l λA o s H vs Q r T G=>⟨_,R (CX:=gj P w) ?_,n vs H Q G⟩,t,a.kp,Z⟩;refine {N:=O,sc:=O,K:=O,calm:=λh=>(nomatch h),units:=r.units,gd:=r.gd,fns:=λh=>(nomatch h),fN:=λj y c=>?_,gk:=λy I=>?_,pass:=λ_ _ _ _ _ _ _ h=>(zS h).elim,mT:=λ_ _ _ _ _ h=>zS h,oH:=λp C h=>(nomatch h),oI:=λh=>(nomatch h),qj:=λh=>(nomatch h),uC:=λj y c=>(nomatch c),oJ:=λj y c=>(nomatch c),qk:=λ_ h=>(nomatch h),rZ:=λ_=>Y1 T,nd:=S.nd,mU:=λ_=>O,own:=PassesOwn.never,qo:=S.kind,rs:=λ_ _ c=>(nomatch c),ke:=O,iL:=O,r_:=O,se:=O};have d:=c;rw[zaf] at d;cases q:g[j]? with
 |none=>rw[q] at d;cases d
 |some p=>
  rw[q] at d;obtain⟨u,F,B⟩:=(m p<|zak q).ex;have J:sv g j=p.2:=by unfold sv;rw[q]
  show ∃u,mg y=some u/\RelV (sv g j) u;rw[J,<-(zal d)];exact⟨u,F,B⟩
 exact v y (by simpa using I)
theorem de.top{k:Nat}(a:de P w K mg base (gj P w) k f fd ps sp):de P w K mg base v3 k f fd ps (λvs H Q _=>sp vs H Q E0):=
 ⟨λvs H Q E h=>a.len vs H Q E0 h,λA o s H b u vs Q E d i g v c=>codeAny_mono (a.run A o s H b u vs Q E0 d i g v c) λr j h=>by
  cases r with
  |error e=>exact(zS h).elim
  |ok l=>cases l<;>exact h⟩
end
section
variable{Γ:ba}{D:Ends}{σ:St}{H:Hp}{r:List RS}{Q:VK}
theorem Eb{e:RE}(h:ah Γ e σ H λx a=>az Γ r D (σ.set i<|some x) a):az Γ (.asg i e::r) D σ H:=h
theorem ZY{e:RE}(h:ah Γ e σ H λx a=>az Γ r D (σ.set i<|some x) a):az Γ (.rX i e::r) D σ H:=h
theorem ZZ(h:bo Γ c σ H λb a=>if b=true then az Γ t {D with nx:=az Γ r D} σ a else az Γ e {D with nx:=az Γ r D} σ a):az Γ (.ite c t e::r) D σ H:=h
theorem KY{a:List RE}(h:bg Γ a σ H λvs c=>p9 Γ.K b vs c Q):ah Γ (.blt b a) σ H Q:=h
theorem KZ{Q:List V->Hp->Prop}(h:ah Γ a σ H λx b=>Q [x] b):bg Γ [a] σ H Q:=h
end
end L2
variable{H H' H2 H1:L2.Hp}{pars:List (Option Nat)}{σ:L2.St}{Γ:L2.ba}{Q:L2.VK}{a o e:L2.RE}{here i n j T:Nat}{xs:List L2.V}{C L lo be lg dx i1 i2 l1 l2 z:PySem.Addr}{v:L2.V}{as:List L2.RE}{body:List L2.RS}{M Ed:List PySem.Addr}{D:L2.Ends}{s y:PySem.Str}{bB:List Nat}
namespace L2.B
open PySem PySem.Spec PyProof.Rows
def oQ:List Str:=["thing"]
noncomputable def K0:List RS:=
 [.ret<|.and [(.iJ .int<|.v 0),(.not<|.iJ .bool<|.v 0)]]
def af:List Str:=[]
def K1:List Str:=["isinstance","int","bool"]
def Ec:List Str:=["thing","words"]
noncomputable def Ee:List RS:=
 [.ret<|.and [(.iJ .str<|.v 0),(.cmp .In (.v 0)<|.v 1)]]
def K2:List Str:=["isinstance","str"]
noncomputable def Ef:List RS:=
 [.ret<|.and [(.iJ .str<|.v 0),(.cmp .Eq (.bE .lstrip (.v 0) [.g 0])<|.c<|.str "")]]
def Z0:List Str:=["SIGNS"]
noncomputable def Ad:List RS:=
 [.ite (.or [(.not (.iJ .tuple (.v 0))),(.cmp .NotEq (.blt .len [.v 0]) (.c (.int 2)))]) [.ret (.c (.bl false))] [],
 .ite (.call 0 [(.ix (.v 0)<|.c<|.int 0),(.tup [(.c<|.str "keep")])]) [.ret<|.and [(.call 1 [(.ix (.v 0)<|.c<|.int 1)]),(.cmp .GtE (.ix (.v 0)<|.c<|.int 1)<|.c<|.int 1)]] [],
 .ret (.and [(.call 0 [(.ix (.v 0) (.c (.int 0))),(.tup [(.c (.str "cut")),(.c (.str "put"))])]),(.call 2 [(.ix (.v 0) (.c (.int 1)))]),(.cmp .NotEq (.ix (.v 0) (.c (.int 1))) (.c (.str "")))])]
def Z1:List Str:=["is_word","is_whole","is_text"]
def Z2:List Str:=["isinstance","tuple","len"]
def K3:List Str:=["word","ahead"]
noncomputable def K4:List RS:=
 [.ret<|.and [(.cmp .NotEq (.v 0)<|.v 1),(.not<|.and [(.cmp .Eq (.v 1)<|.c<|.str "cut"),(.cmp .Eq (.v 0)<|.c<|.str "put")])]]
def Eg:List Str:=["change","ahead","part"]
noncomputable def Eh:List RS:=
 [.ite (.not (.iJ .list (.v 0))) [.jA 0 [(.c (.str "a change is a list"))]] [],
 .asg 1 (.c<|.str ""),
 .ko 2 .list [.v 0] [.ite (.not (.call 0 [.v 2])) [.jA 0 [(.c (.str "a part is a keep of 1 sign or more, or a cut or put of a text that is not empty"))]] [],
  .ite (.not<|.call 1 [(.ix (.v 2)<|.c<|.int 0),.v 1]) [.jA 0 [(.c<|.str "neighbours have two words, and no put stands right behind a cut")]] [],
  .asg 1 (.ix (.v 2) (.c (.int 0)))]]
def Z3:List Str:=["is_part","may_follow"]
def Z4:List Str:=["isinstance","list"]
def Z5:List Str:=["BadChange"]
def K5:List Str:=["part"]
noncomputable def K6:List RS:=
 [.ret<|.lB (.cmp .Eq (.ix (.v 0)<|.c<|.int 0)<|.c<|.str "keep") (.ix (.v 0)<|.c<|.int 1)<|.blt .len [(.ix (.v 0)<|.c<|.int 1)]]
def eE:List Str:=["len"]
def Ei:List Str:=["change","over","gives"]
noncomputable def Ej:List RS:=
 [.drop (.call 0 [.v 0]),
 .asg 1 (.blt .sum [(.comp none [] .list [.v 0] (some<|.cmp .NotEq (.ix (.v 0)<|.c<|.int 0)<|.c<|.str "put")<|.call 1 [.v 0])]),
 .asg 2 (.blt .sum [(.comp none [] .list [.v 0] (some<|.cmp .NotEq (.ix (.v 0)<|.c<|.int 0)<|.c<|.str "cut")<|.call 1 [.v 0])]),
 .ret (.tup [.v 1,.v 2])]
def Z6:List Str:=["need_change","part_size"]
def Z7:List Str:=["sum"]
def K7:List Str:=["change","size"]
noncomputable def K8:List RS:=
 [.ite (.and [(.cmp .Gt (.blt .len [.v 0]) (.c (.int 0))),(.cmp .Eq (.ix (.ix (.v 0) (.neg (.c (.int 1)))) (.c (.int 0))) (.c (.str "keep")))]) [.asg 1 (.bin .Add (.v 1) (.ix (.bE .pop (.v 0) []) (.c (.int 1))))] [],
 .drop (.bE .append (.v 0) [(.tup [(.c (.str "keep")),.v 1])])]
noncomputable def K9:List Str:=["change","puts","cuts","put","cut"]
noncomputable def K_:List RS:=
 [.asg 3 (.bE .join (.c (.str "")) [.v 1]),
 .asg 4 (.bE .join (.c<|.str "") [.v 2]),
 .ite (.cmp .NotEq (.v 3)<|.c<|.str "") [.drop<|.bE .append (.v 0) [(.tup [(.c<|.str "put"),.v 3])]] [],
 .ite (.cmp .NotEq (.v 4) (.c (.str ""))) [.drop (.bE .append (.v 0) [(.tup [(.c (.str "cut")),.v 4])])] []]
noncomputable def La:List Str:=["parts","change","puts","cuts","word","what"]
noncomputable def Lb:List RS:=
 [.asg 1 (.lst []),
 .asg 2 (.lst []),
 .asg 3 (.lst []),
 .lE [4,5] .list [.v 0] [.ite (.cmp .Eq (.v 4) (.c (.str "put"))) [.drop (.bE .append (.v 2) [.v 5])] [.ite (.cmp .Eq (.v 4) (.c (.str "cut"))) [.drop (.bE .append (.v 3) [.v 5])] [.ite (.cmp .Gt (.v 5) (.c (.int 0))) [.drop (.call 0 [.v 1,.v 2,.v 3]),
     .asg 2 (.lst []),
     .asg 3 (.lst []),
     .drop (.call 1 [.v 1,.v 5])] []]]],
 .drop (.call 0 [.v 1,.v 2,.v 3]),
 .ret (.v 1)]
def Z8:List Str:=["add_texts","add_keep"]
def Lc:List Str:=["change"]
noncomputable def Ld:List RS:=
 [.drop (.call 0 [.v 0]),
 .ret (.call 1 [(.comp (some 2) [] .list [.v 0] none (.tup [(.ix (.g 0) (.v 0)),.v 1]))])]
def Z9:List Str:=["need_change","neat"]
def Z_:List Str:=["WAYS_BACK"]
def Le:List Str:=["_law_script","_law_k"]
noncomputable def Lf:List RS:=
 [.ite (.cmp .Lt (.v 1) (.blt .len [.v 0])) [.ret (.ix (.v 0) (.v 1))] [],
 .ret (.c (.int 0))]
def Lg:List Str:=["_law_cell","_law_k","_law_number"]
noncomputable def Lh:List RS:=
 [.asg 2 (.bin .Mod (.bin .Add (.bin .Add (.bin .Mult (.v 0) (.c (.int 48271))) (.bin .Mult (.c (.int 7919)) (.v 1))) (.c (.int 11))) (.c (.int 1000003))),
 .ret (.bin .Mod (.bin .Mult (.bin .Mod (.bin .Mult (.v 2) (.v 2)) (.c (.int 1000003))) (.v 2)) (.c (.int 1000003)))]
def Li:List Str:=["_law_cell","_law_size_here","_law_some"]
noncomputable def Lj:List RS:=
 [.asg 2 (.c (.str " !\"#$&'()*+,-./0123456789:;<=>?@ABCDEFGHIJKLMNOPQRSTUVWXYZ[\\]^_`")),
 .asg 2 (.bin .Add (.v 2)<|.c<|.str "abcdefghijklmnopqrstuvwxyz{|}~\n"),
 .ite (.cmp .Eq (.bin .Mod (.v 0)<|.c<|.int 3)<|.c<|.int 0) [.asg 2<|.c<|.str "ab\n"] [],
 .ret (.bE .join (.c (.str "")) [(.comp none [("_law_some",2),("_law_cell",0)] .gc [.v 1] none (.ix (.v 1) (.bin .Mod (.bin .FloorDiv (.call 0 [.v 2,.v 0]) (.c (.int 7))) (.blt .len [.v 1]))))])]
def aaa:List Str:=["_law_mixed"]
def aab:List Str:=["range","len"]
def Lk:List Str:=["_law_cell"]
noncomputable def Ll:List RS:=
 [.ite (.cmp .Eq (.bin .Mod (.v 0) (.c (.int 8))) (.c (.int 1))) [.ret (.bin .Mod (.bin .FloorDiv (.v 0) (.c (.int 8))) (.c (.int 401)))] [],
 .ret (.bin .Mod (.bin .FloorDiv (.v 0) (.c (.int 8))) (.c (.int 25)))]
noncomputable def Lm:List Str:=["_law_cell","_law_text_here","_law_many","_law_parts_here","_law_at","_law_k","_law_number","_law_size_here","_law_left"]
noncomputable def Ln:List RS:=
 [.asg 3 (.lst []),
 .asg 4 (.c<|.int 0),
 .ko 5 .gc [.v 2] [.asg 6 (.call 0 [.v 0,(.bin .Add (.c (.int 50)) (.v 5))]),
  .asg 7 (.ix (.lst [(.c<|.int 1),(.c<|.int 2),(.c<|.int 0),(.c<|.int 3),(.c<|.int 5),(.c<|.int 40)])<|.bin .Mod (.bin .FloorDiv (.v 6)<|.c<|.int 4)<|.c<|.int 6),
  .asg 8 (.blt .min [.v 7,(.bin .Sub (.blt .len [.v 1])<|.v 4)]),
  .ite (.cmp .Eq (.bin .Mod (.v 6)<|.c<|.int 4)<|.c<|.int 3) [.drop<|.bE .append (.v 3) [(.tup [(.c<|.str "put"),(.call 1 [.v 6,.v 7])])]] [.ite (.cmp .Eq (.bin .Mod (.v 6)<|.c<|.int 4)<|.c<|.int 2) [.drop<|.bE .append (.v 3) [(.tup [(.c<|.str "cut"),(.sl (.v 1) (some<|.v 4)<|some<|.bin .Add (.v 4)<|.v 8)])]] [.drop<|.bE .append (.v 3) [(.tup [(.c<|.str "keep"),.v 8])]]],
  .ite (.cmp .Lt (.bin .Mod (.v 6) (.c (.int 4))) (.c (.int 3))) [.asg 4 (.bin .Add (.v 4) (.v 8))] []],
 .ret (.bin .Add (.v 3) (.lst [(.tup [(.c (.str "keep")),(.bin .Sub (.blt .len [.v 1]) (.v 4))])]))]
def aac:List Str:=["_law_mixed","_law_text"]
def aad:List Str:=["range","min","len"]
noncomputable def Ek:List Str:=["_law_parts_here","_law_rows","_law_word","_law_thing","_law_found","_law_put","_law_cut","_law_keep","_law_some"]
noncomputable def Lo:List RS:=
 [.asg 1 (.lst [(.lst [(.c (.str "")),(.c (.str "")),(.c (.int 0))])]),
 .lE [2,3] .list [.v 0] [.ite (.cmp .Eq (.v 2) (.c (.str "keep"))) [.set (.ix (.v 1) (.neg (.c (.int 1)))) (.c (.int 2)) (.bin .Add (.ix (.ix (.v 1) (.neg (.c (.int 1)))) (.c (.int 2))) (.v 3))] [.ite (.cmp .NotEq (.v 3) (.c (.str ""))) [.ite (.cmp .Gt (.ix (.ix (.v 1) (.neg (.c (.int 1)))) (.c (.int 2))) (.c (.int 0))) [.drop (.bE .append (.v 1) [(.lst [(.c (.str "")),(.c (.str "")),(.c (.int 0))])])] [],
    .set (.ix (.v 1) (.neg (.c (.int 1)))) (.blt .int [(.cmp .Eq (.v 2) (.c (.str "cut")))]) (.bin .Add (.ix (.ix (.v 1) (.neg (.c (.int 1)))) (.blt .int [(.cmp .Eq (.v 2) (.c (.str "cut")))])) (.v 3))] []]],
 .asg 4 (.lst []),
 .lE [5,6,7] .list [.v 1] [.asg 8 (.lst [(.tup [(.c (.str "put")),.v 5]),(.tup [(.c (.str "cut")),.v 6]),(.tup [(.c (.str "keep")),.v 7])]),
  .asg 4 (.bin .Add (.v 4) (.comp none [] .list [.v 8] (some (.and [(.cmp .NotEq (.ix (.v 0) (.c (.int 1))) (.c (.str ""))),(.cmp .NotEq (.ix (.v 0) (.c (.int 1))) (.c (.int 0)))])) (.v 0)))],
 .ret (.v 4)]
def aae:List Str:=["int"]
def Lp:List Str:=["_law_cell","_law_text_here","_law_many"]
noncomputable def Lq:List RS:=
 [.ret<|.call 0 [(.call 1 [.v 0,.v 1,.v 2])]]
def aaf:List Str:=["_law_neat","_law_parts"]
noncomputable def El:List Str:=["_law_text_here","_law_change_here","_law_found_here","_law_at","_law_word_here","_law_thing"]
noncomputable def Lr:List RS:=
 [.asg 2 (.c (.str "")),
 .asg 3 (.c<|.int 0),
 .lE [4,5] .list [.v 1] [.ite (.cmp .Eq (.v 4) (.c (.str "put"))) [.asg 2 (.bin .Add (.v 2) (.v 5))] [.ite (.cmp .Eq (.v 4) (.c (.str "cut"))) [.asg 3 (.bin .Add (.v 3) (.blt .len [.v 5]))] [.asg 2 (.bin .Add (.v 2) (.sl (.v 0) (some (.v 3)) (some (.bin .Add (.v 3) (.v 5))))),
    .asg 3 (.bin .Add (.v 3) (.v 5))]]],
 .ret (.v 2)]
def lP:List Str:=["_law_e","_law_some","_law_found_here"]
noncomputable def gm:List RS:=
 [.asg 1 (.lst [(.tup [(.c (.str "text")),(.dS (.v 0) (.g 0))]),(.tup [(.c (.str "change")),(.dS (.v 0) (.g 1))]),(.tup [(.c (.str "fit")),(.dS (.v 0) (.g 2))])]),
 .asg 1 (.bin .Add (.v 1)<|.lst [(.tup [(.c<|.str "place"),(.dS (.v 0)<|.g 3)]),(.tup [(.c<|.str "side"),(.dS (.v 0)<|.g 4)]),(.tup [(.c<|.str "mark"),(.dS (.v 0)<|.g 5)])]),
 .asg 1 (.bin .Add (.v 1)<|.lst [(.tup [(.c<|.str "node"),(.dS (.v 0)<|.g 6)]),(.tup [(.c<|.str "cursor"),(.dS (.v 0)<|.g 7)])]),
 .asg 1 (.bin .Add (.v 1)<|.lst [(.tup [(.c<|.str "deed"),(.dS (.v 0)<|.g 8)]),(.tup [(.c<|.str "letter"),(.dS (.v 0)<|.g 9)])]),
 .asg 1 (.bin .Add (.v 1)<|.lst [(.tup [(.c<|.str "gone"),(.dS (.v 0)<|.g 10)]),(.tup [(.c<|.str "hand"),(.dS (.v 0)<|.g 11)]),(.tup [(.c<|.str "note"),(.dS (.v 0)<|.g 12)])]),
 .rX 2 (.comp (some 2) [] .list [.v 1] (some<|.v 1)<|.v 0),
 .ite (.or [(.not<|.dS (.v 0)<|.g 13),(.not<|.dS (.v 0)<|.c<|.ty "ValueError")]) [.drop<|.bE .append (.v 2) [(.c<|.str "bare")]] [],
 .ret (.bE .join (.c (.str "/")) [.v 2])]
noncomputable def oR:List Str:=["BadText","BadChange","BadFit","NoPlace","BadSide","NoMark","NoNode","NoCursor","BadDeed","BadLetter","NoLetter","NoHand","NoNote","InkError"]
def oS:List Str:=["isinstance","ValueError"]
def Ls:List Str:=["thing","least","most"]
noncomputable def Lu:List RS:=
 [.ret<|.and [(.call 0 [.v 0]),(.wj .LtE .LtE (.v 1) (.v 0)<|.v 2)]]
def Lv:List Str:=["is_whole"]
def Em:List Str:=["_law_found_here"]
end L2.B
namespace L2
open PySem PySem.Spec PyProof.Rows
section
variable{X:Cx}
end
end L2
namespace L2.B
open PySem PySem.Spec PyProof.Rows
end L2.B
namespace L2
open PySem PySem.Spec PyProof.Rows
section
variable{X:Cx}
noncomputable def jP(z:Str)(n:Int):Str:=⟨((List.replicate n.toNat z.cps.toList).flatten).toArray⟩
def En:R2:=λx y H Q=>∃z n,x=.str z/\y=.int n/\0<=n/\n<=100000/\z.length<=10/\Q (.str<|jP z n) H
theorem Lx(z:Str)(n:Nat):(⟨(List.replicate n z.cps).foldl (· ++ ·) #[]⟩:Str)=⟨((List.replicate n z.cps.toList).flatten).toArray⟩:=by
 have:∀(n:Nat)(c:Array Nat),((List.replicate n z.cps).foldl (· ++ ·) c).toList=c.toList++(List.replicate n z.cps.toList).flatten:=by
  intro n;induction n with
  |zero=>intro c;simp
  |succ n h=>intro c;rw[zbj,zbC,h,zbj,zbB,Array.toList_append,zam]
 congr 1;apply Array.ext';rw[this];simp
theorem aag:bG X (binaryOp .Mult) En:=by
 intro p s σ H x y v u Q I f r h;obtain⟨z,n,rfl,rfl,N,K,w,q⟩:=h;obtain⟨t,rfl⟩:=f;obtain⟨A,rfl⟩:=r;have l:n.toNat<=100000:=by lia
 have m:=Nat.mul_le_mul w l;refine P.mul_str (by lia) (λG _=>?_) (λ_ _=>?_) ?_;have:(10:Int)<= (2 ^ 63 - 1) / n:=(Int.le_ediv_iff_mul_le (by lia)).mpr (by lia);lia;have E:(10*100000:Nat)<=sizeLine:=by decide
 exact zqF (zb4 (zat m E));by_cases c:n<1;rw[if_pos c];have e:jP z n=Str.empty:=by
  have:n.toNat=0:=by lia
  unfold jP;rw[this];rfl
 rw[e] at q;exact⟨by decide,.str Str.empty,H,I.tok _,⟨_,O⟩,q⟩;rw[if_neg c];cases b:(n==1 ||z.length==0);rw[if_neg (by simp)];refine⟨?_,.str _,H,I.tok _,⟨_,O⟩,?_⟩;rw[Lx];show(((List.replicate n.toNat z.cps.toList).flatten).toArray).size<=sizeLine;have e:(((List.replicate n.toNat z.cps.toList).flatten).toArray).size=n.toNat*z.length:=by
  rw[zai,len_rep];rfl
 rw[e,Nat.mul_comm];exact zat m (by decide);rw[Lx];exact q;refine⟨.str z,H,I,⟨_,O⟩,?_⟩;have e:jP z n=z:=by
  rw[zbS] at b;have k:(List.replicate n.toNat z.cps.toList).flatten=z.cps.toList:=by
   rcases b with g|g
   have:n.toNat=1:=by lia
   rw[this];simp;have d:z.cps.toList=[]:=zbU (by have:=eq_of_beq g;simpa[Str.length] using this);rw[d];simp
  unfold jP;rw[k]
 rw[e] at q;exact q
def Eo:Frag->TA->TE:=λ_ t σ H Q=>t σ H λvs H1=>match vs with|[x,y]=>En x y H1 Q|_=>False
variable{CX:cE}{S:df}{Γ:ba}{e e2 a b c d:Expr}{es:List Expr}{x:Str}{p q pos:Pos}{r ra rb rc:RE}{rs:List RE}{i j:Nat}
theorem aah(f:PE X a (ah Γ ra))(h:PE X b (ah Γ rb)):PE X (.BinOp a .Mult b pos) (ah Γ<|.xt Eo [ra,rb]):=ID aag f h
end
end L2
namespace L2.B
open PySem PySem.Spec PyProof.Rows
end L2.B
namespace L2.Ly
open PySem PySem.W PyProof.Rows
section
variable{n:Nat}{lt:Nat->Nat->Bool}{p:Array Nat}
variable{cmp:Nat->Nat->(Bool->Shared->Prop)->Shared->Prop}{R:Shared->Prop}
end
end L2.Ly
namespace L2
open PySem PySem.Spec PyProof.Rows PySem.W L2.Ly
end L2
namespace L2
open PySem PySem.Spec PyProof.Rows
end L2
namespace L2.B
open PySem PySem.Spec PyProof.Rows
end L2.B
namespace L2
open PySem PySem.Spec PyProof.Rows
def wL:List (TE×TE)->St->Hp->(List (V×V)->Hp->Prop)->Prop
 |[],_,H,Q=>Q [] H
 |(k,t)::r,σ,H,Q=>k σ H λx H1=>t σ H1 λy H2=>wL r σ H2 λp b=>Q ((x,y)::p) b
abbrev VV:List (V×V)->List (Value×Value)->Prop:=Paired λp q=>RelV p.1 q.1/\RelV p.2 q.2
def qr(X:Cx)(c:Pos)(k:List (Option Expr))(b:List Expr)(f:List (TE×TE)):Prop:=
 ∀(p:List (Addr×Obj))(s:Shared)(σ:St)(H:Hp)(Q:List (V×V)->Hp->Prop),Inv X p σ H s->wL f σ H Q->
  wpAny (model X.prog X.w) X.A (evalPairs<|pairTrees k b X.env c) (λvs s'=>∃d H',Inv X p σ H' s'/\VV d vs/\Q d H') X.xe s
theorem aai:qr X p [] [] []:=λb s σ H Q I h=>pairTrees_nil_walk ⟨[],H,I,.nil,h⟩
theorem aaj{k v:Expr}{f:List (Option Expr)}{vs:List Expr}{c t:TE}{d:List (TE×TE)}(P:PE X k c)(K:PE X v t)(N:qr X b f vs d):
  qr X b (some k::f) (v::vs) ((c,t)::d):=λp s σ H Q I h=>
 pairTrees_cons_walk (aM (P p s σ H _ I h) λu l ⟨x,H1,V,q,E⟩=>aM (K p l σ H1 _ V E) λF g ⟨y,H2,S,m,A⟩=>
  aM (N p g σ H2 _ S A) λB J ⟨G,Z,R,r,w⟩=>⟨(x,y)::G,Z,R,.cons ⟨q,m⟩ r,w⟩)
noncomputable def jQ(k m:List (Key×V)):List (Key×V):=m.foldl (λc b=>putK c b.1 b.2) k
theorem KV.merge:∀{m:List (Key×V)}{rs:List (Key×Value)}{k:List (Key×V)}{vs:List (Key×Value)},KV m rs->KV k vs->KV (jQ k m) (merged vs rs):=by
 intro m rs k vs r;induction r generalizing k vs with
 |nil=>intro q;exact q
 | @cons p q f d h t c=>
  intro b;have e:KV (putK k p.1 p.2) (stored vs q.1 q.2):=by
   have:=b.put p.1 h.2;rw[<-h.1];exact this
  exact c e
theorem Lz:∀(m k:List (Key×V)),(jQ k m).length<=k.length+m.length
 |[],k=>by show k.length<=k.length+0;exact zqR _
 |p::r,k=>by
  have b:=Lz r (putK k p.1 p.2);have h:=Dh k p.1 p.2;show(jQ (putK k p.1 p.2) r).length<=_;rw[zao];lia
theorem LA:∀{k:List (Key×V)}{d:List (Value×Value)},VV (k.map λf=>(kV f.1,f.2)) d->∃rs,Carries (eQ P w) d rs/\KV k rs
 |[],_,r=>by cases r;exact⟨[],True.intro,.nil⟩
 |p::k,_,r=>by
  cases r with
  | @cons a b as l h t=>
   obtain⟨rs,c,q⟩:=LA t;obtain⟨m,g⟩:=b;exact⟨(p.1,g)::rs,⟨v8 h.1,O,c⟩,.cons ⟨O,h.2⟩ q⟩
def Ep(d:List (TE×TE)):TE:=λσ H Q=>∀p,H p=none->wL d σ (upd H p<|.dK []) λc H2=>H2 p=some (.dK [])/\∃k:List (Key×V),c=k.map (λb=>(kV b.1,b.2))/\k.length<=15/\Q (.ref p) (upd H2 p<|.dK<|jQ [] k)
theorem aak{b:List Expr}{m:List (TE×TE)}(h:qr X p k b m)(K:k.all (·.isSome)=true)(S:k.length=b.length)(F:k≠ [])(g:k.length<=15):PE X (.Dict k b p) (Ep m):=by
 intro d s σ H Q I q;refine wpAny_Dict_walk (knd:=eQ X.prog X.w) K S F g<|aM (h d _ σ _ _ (I.laid (λ_ _ q=>Heap.get?_push_of_some _ q) (zqR _) (Wl s.heap I.big))<|q _ (I.aG.fresh (zqR s.heap.objs.size))) λY s2 ⟨ps,H2,t,r,e,f,U,lk,G⟩=>?_;subst U;obtain⟨x,c,A⟩:=LA r;obtain⟨z,Z,u,E,W⟩:=JB t.aG e;cases E;refine⟨x,c,W,λJ l P=>⟨.ref s.heap.objs.size,_,?_,O,G⟩⟩;have N:(jQ [] f).length<=sizeLine:=by
  have B:=Lz f [];rw[zaX] at B;rw[sizeLine_eq];lia
 have V:∃q,J.get? s.heap.objs.size=some q:=let ⟨q,_,_,R,_⟩:=l;⟨q,R⟩;exact Dk t (e▸True.intro) P V<|JC N Z (A.merge .nil) l
noncomputable def sD:List (Key×V)->List V
 |[]=>[]
 |k::r=>kV k.1::k.2::sD r
def sE:List (V×V)->List V
 |[]=>[]
 |p::r=>p.1::p.2::sE r
def sG:Frag->TA->TE:=λ_ t σ H Q=>∀p,H p=none->t σ (upd H p<|.dK []) λvs H2=>H2 p=some (.dK [])/\∃k:List (Key×V),vs=sD k/\k.length<=15/\Q (.ref p) (upd H2 p<|.dK<|jQ [] k)
noncomputable def qt(Γ:ba):List RE->List (TE×TE)
 |a::b::r=>(ah Γ a,ah Γ b)::qt Γ r
 |_=>[]
theorem Er{σ:St}:∀(rs:List RE)(H:Hp)(Q:List V->Hp->Prop),rs.length % 2=0->bg Γ rs σ H Q=wL (qt Γ rs) σ H λp H2=>Q (sE p) H2
 |[],H,Q,_=>O
 |[a],H,Q,e=>absurd e (by simp)
 |a::b::r,H,Q,e=>by
  have f:r.length % 2=0:=by
   have:(r.length+1+1) % 2=0:=e;lia
  show(ah Γ a σ H λx H1=>ah Γ b σ H1 λy H2=>bg Γ r σ H2 λd c=>Q (x::y::d) c)=ah Γ a σ H λx H1=>ah Γ b σ H1 λy H2=>wL (qt Γ r) σ H2 λp c=>Q (x::y::sE p) c;congr 1;funext x H1;congr 1;funext y H2;exact Er r H2 (λd c=>Q (x::y::d) c) f
theorem Ae:∀(b:List (V×V))(c:List (Key×V)),sE b=sD c↔b=c.map λk=>(kV k.1,k.2)
 |[],[]=>⟨λ_=>O,λ_=>O⟩
 |[],k::r=>⟨nofun,nofun⟩
 |p::b,[]=>⟨nofun,nofun⟩
 |p::b,k::r=>by
  constructor;intro h;have f:=(zbv h).1;have d:=(zbv (zbv h).2).1;rw[((Ae b r).mp (zbv (zbv h).2).2),zaz,<-f,<-d];intro h;obtain⟨f,d⟩:=zbv h;show p.1::p.2::sE b=kV k.1::k.2::sD r;rw[(Ae b r).mpr d,f]
theorem aam{K:Frag}(rs:List RE)(e:rs.length % 2=0):sG K (bg Γ rs)=Ep (qt Γ rs):=by
 funext σ H Q;apply propext;constructor;intro h p d;have:=h p d;rw[Er rs _ _ e] at this;have f:(fun(b:List (V×V))(H2:Hp)=>H2 p=some (.dK [])/\∃k:List (Key×V),sE b=sD k/\k.length<=15/\Q (.ref p) (upd H2 p<|.dK<|jQ [] k))=λb H2=>H2 p=some (.dK [])/\∃k:List (Key×V),b=k.map (λc=>(kV c.1,c.2))/\k.length<=15/\Q (.ref p) (upd H2 p<|.dK<|jQ [] k):=by
  simp only[Ae]
 rw[f] at this;exact this;intro h p d;have:=h p d;rw[Er rs _ _ e];have f:(fun(b:List (V×V))(H2:Hp)=>H2 p=some (.dK [])/\∃k:List (Key×V),sE b=sD k/\k.length<=15/\Q (.ref p) (upd H2 p<|.dK<|jQ [] k))=λb H2=>H2 p=some (.dK [])/\∃k:List (Key×V),b=k.map (λc=>(kV c.1,c.2))/\k.length<=15/\Q (.ref p) (upd H2 p<|.dK<|jQ [] k):=by
  simp only[Ae]
 rw[f];exact this
section
variable{CX:cE}{S:df}{Γ:ba}{X:Cx}{pos:Pos}{k v:Expr}{ks:List (Option Expr)}{vs:List Expr}{rk rv:RE}{rs:List RE}
theorem LB:qr X pos [] [] (qt Γ []):=aai
theorem wM(c:PE X k (ah Γ rk))(b:PE X v (ah Γ rv))(h:qr X pos ks vs (qt Γ rs)):qr X pos (some k::ks) (v::vs) (qt Γ (rk::rv::rs)):=aaj c b h
noncomputable def LC(b:List (Option Expr))(c:List Expr)(rs:List RE):Bool:=b.all (·.isSome) && decide (b.length=c.length) && decide (b.length≠0) && decide (b.length<=15) && decide (rs.length % 2=0)
theorem LD(p:qr X pos ks vs (qt Γ rs))(h:LC ks vs rs=true:=by kernel_rfl):PE X (.Dict ks vs pos) (ah Γ<|.xt sG rs):=by
 simp only[LC,zaj,decide_eq_true_eq] at h;obtain⟨⟨⟨⟨g,f⟩,d⟩,c⟩,b⟩:=h;show PE X _ (sG Γ.K<|bg Γ rs);rw[aam rs b];exact aak p g f (λz=>d (z▸O)) c
end
noncomputable def sI(xs:List V)(lo h st:Option Int):List V:=(sliceRange (sliceBounds lo h st xs.length).1 (sliceBounds lo h st xs.length).2.1 (sliceBounds lo h st xs.length).2.2).filterMap (xs[·]?)
def wN(K:Frag):V->Option Int->Option Int->Option Int->Hp->VK->Prop:=λx lo h st H Q=>∃a xs,x=.ref a/\au K H a xs/\st≠some 0/\∀p,H p=none->Q (.ref p) (upd H p<|.lst<|sI xs lo h st)
theorem LF(r:Vals xs u):∀(b:List Nat),Vals (b.filterMap (xs[·]?)) (b.filterMap (u.toArray[·]?))
 |[]=>.nil
 |i::b=>by
  have f:=LF r b;by_cases h:i<xs.length;obtain⟨w,k,g⟩:=r.get (i:=i) (x:=xs[i]) (by simp);have d:xs[i]?=some xs[i]:=by simp
  have c:u.toArray[i]?=some w:=by simpa using k
  rw[List.filterMap_cons_some d,List.filterMap_cons_some c];exact .cons g f;have l:=r.length;have d:xs[i]?=none:=by simp;exact za4 h
  have c:u.toArray[i]?=none:=by simp;lia
  rw[List.filterMap_cons_none d,List.filterMap_cons_none c];exact f
section
variable{X:Cx}{e ee el st:Expr}{te tl ts:TE}{p2 pos:Pos}
theorem aan{s:Shared}{x:V}{v l u vs:Value}{lo c k:Option Int}{g:Addr}(I:Inv X p σ H s)(E:RelV x v)(Z:s.heap.IsSliceOf g l u vs)(P:IsPart l lo)(G:IsPart u c)(N:IsPart vs k)(h:wN X.K x lo c k H Q):
  ∃T R,typeLookup (.type T) "__getitem__"=pure (some<|.builtin R)/\s.TypeIs v T/\wpAny (model X.prog X.w) X.A (getItem v<|.ref g) (EP X p σ Q) X.xe s:=by
 obtain⟨a,xs,rfl,S,B,q⟩:=h;cases E;obtain⟨f,r,t,J⟩:=I.list S;have d:=r.length;refine⟨"list",_,slot_list_getitem.lookup,t.isList.typeIs,wpAny_getItem_list_slice t.isList Z P G N B ?_ (by rw[zai] <;>lia)⟩;have W:=slicePick_size_le f.toArray lo c k;refine⟨.ref s.heap.objs.size,_,I.laid (λb F q=>Heap.get?_push_of_some _ q) (zqR _) ?_,O,q _<|I.aG.fresh<|zqR _⟩;have m:=LF r (sliceRange (sliceBounds lo c k xs.length).1 (sliceBounds lo c k xs.length).2.1 (sliceBounds lo c k xs.length).2.2);have e:(slicePick f.toArray lo c k)=((sliceRange (sliceBounds lo c k xs.length).1 (sliceBounds lo c k xs.length).2.1 (sliceBounds lo c k xs.length).2.2).filterMap (f.toArray[·]?)).toArray:=by
  unfold slicePick;rw[zai,<-d]
 refine⟨?_,_,0,m,e▸Heap.get?_push_size _ O⟩;have:=m.length;unfold sI;rw[this,<-zai];have U:f.toArray.size=f.length:=zai;lia
def LG(K:Frag)(te:TE)(tl t ts:TO):TE:=λσ H Q=>te σ H λx H1=>tl σ H1 λl H2=>t σ H2 λu c=>ts σ c λk b=>wN K x l u k b Q
theorem aao{lo f:Option Expr}{c t ts:TO}(he:PE X ee te)(W:PO X lo c)(F:PO X f t)(U:PO X (some st) ts):PE X (.Subscript ee (.Slice lo f (some st) p2) pos) (LG X.K te c t ts):=by
 intro p s σ H Q I h;refine Subscript_<|aM (he p s σ H _ I h) λv E ⟨x,H1,I1,G,S⟩=>wpAny_Slice<|aM (W p E σ H1 _ I1 S) λr A ⟨l,H2,I2,Z,R⟩=>aM (F p A σ H2 _ I2 R) λg w ⟨u,H3,I3,V,P⟩=>aM (U p w σ H3 _ I3 P) λm d ⟨k,H4,I4,B,N⟩=>?_;have I5:Inv X p σ H4 {d with heap:=d.heap.push {cls:=.type "slice",data:=.fields #[r,g,m]}}:=I4.kept λb ob q=>Heap.get?_push_of_some _ q;obtain⟨T,id,hT,J,Y⟩:=aan I5 G (Heap.IsSliceOf.new ..) Z V B N;exact tail_any J hT Y (O)
end
def wO(lo:Option Int)(k:Int):Frag->TA->TE:=λK t σ H Q=>t σ H λvs H1=>match vs with
 |[x]=>wN K x lo none (some k) H1 Q
 |_=>False
theorem aap{K:Frag}{r rl rs:RE}{i k:Int}(l:∀σ H Q,ah Γ rl σ H Q=Q (.int i) H)(d:∀σ H Q,ah Γ rs σ H Q=Q (.int k) H):wO (some i) k K (bg Γ [r])=LG K (ah Γ r) (ug<|ah Γ rl) CZ (ug<|ah Γ rs):=by
 funext σ H Q;show(ah Γ r σ H λx H1=>wN K x (some i) none (some k) H1 Q)=ah Γ r σ H λx H1=>ah Γ rl σ H1 λy H2=>∃c,y=V.int c/\ah Γ rs σ H2 λz f=>∃b,z=V.int b/\wN K x (some c) none (some b) f Q;congr 1;funext x H1;rw[l];apply propext;constructor;intro h;refine⟨i,O,?_⟩;rw[d];exact⟨k,O,h⟩;rintro⟨c,e,h⟩;cases e;rw[d] at h;obtain⟨b,e,h⟩:=h;cases e;exact h
section
variable{CX:cE}{S:df}{Γ:ba}{X:Cx}{a:Expr}{ra:RE}{p q p1 p2 p3:Pos}
theorem LH{i k:Int}{d b}(G:Good CX S Γ X)(h:PE X a (ah Γ ra))(g:PE X (.Constant (.int i) d p1) (ah Γ<|.c<|.int i))(f:PE X (.Constant (.int k) b p2) (ah Γ<|.c<|.int k)):PE X (.Subscript a (.Slice (some<|.Constant (.int i) d p1) none (some<|.Constant (.int k) b p2) q) p) (ah Γ<|.xt (wO (some i) k) [ra]):=by
 show PE X _ (wO (some i) k Γ.K<|bg Γ [ra]);rw[aap (rl:=.c (.int i)) (rs:=.c (.int k)) (λ_ _ _=>O)<|λ_ _ _=>O,<-G.K];exact aao h (C0 g) Jj<|C0 f
end
theorem aaq:typeLookup (.type "list_reverseiterator") "__len__"=pure none:=O
theorem aar:typeLookup (.type "list_reverseiterator") "__length_hint__"=pure (some<|.builtin "list_reverseiterator.__length_hint__"):=O
section
variable{prog:Program}{w:World}{A:Around}{E:Value->Shared->Prop}{s:Shared}
theorem aas{Q:Bool->Shared->Prop}(b:s.TypeIs (.ref I) "list_reverseiterator")(h:Q false s):wpAny (model prog w) A (Builtin.List.listLengthHint<|.ref I) Q E s:=by
 refine wpAny_bind<|wpAny_specialOf b aaq (wpAny_bind<|wpAny_specialOf b aar ?_);generalize LI:("list_reverseiterator.__length_hint__":String)=c;subst LI;refine wpAny_bind<|wpAny_isInstance b (O) (wpAny_ite_split (λf=>absurd f (by decide))<|λ_=>?_);refine wpAny_ite_split (λ_=>wpAny_ite_split (λf=>absurd f (by lia))<|λ_=>?_)<|λf=>absurd (O) f;exact wpAny_pure h
theorem aau{Q:Value->Shared->Prop}{I l:Addr}{d:Array Value}(hh:A.handled=none)(t:s.heap.IsRevIter I l ((d.size:Int) - 1))(J:s.heap.IsList l d)(iK:l≠I)(hn:d.size<=sizeLine)(hQ:∀N tk m P,(∀b o,b≠I->s.heap.get? b=some o->N.get? b=some o)->
   N.get? s.heap.objs.size=some {cls:=.type "list",dict:=none,data:=.seq m P,slots:= #[]}->ItemsOf (λi v=>d[d.size - 1 - i]?=some v) m d.size->Q (.ref s.heap.objs.size) {s with heap:=N,toks:=tk}):
  wpAny (model prog w) A (call (.type "list") [.ref I]) Q E s:=by
 have hI:I<s.heap.objs.size:=by obtain⟨o,u,_⟩:=t;exact Heap.lt_size u
 have aO:l<s.heap.objs.size:=by obtain⟨o,u,_⟩:=J;exact Heap.lt_size u
 refine callType_codes (Q₁:=λg f=>g=.ref s.heap.objs.size/\f={s with heap:=s.heap.push {cls:=.type "list",data:=.seq #[]}}) F.called_list (F.typeCall_list_1 _) F.entry_list_init
  (code_list_new _ ⟨O,O⟩) λg f k=>?_
 obtain⟨rfl,rfl⟩:=k;have p:(s.heap.push {cls:=.type "list",data:=.seq #[]}).get? s.heap.objs.size=some {cls:=.type "list",data:=.seq #[]}:=Heap.get?_push_size _ O;refine⟨⟨_,p,O⟩,F.args_list_init_2 _ _,?_⟩;have R:(s.heap.push {cls:=.type "list",data:=.seq #[]}).IsRevIter I l ((d.size:Int) - 1):=t.at λo e=>Heap.get?_push_of_some _ e;have dA:(s.heap.push {cls:=.type "list",data:=.seq #[]}).IsList l d:=J.at λo e=>Heap.get?_push_of_some _ e;have q:∀b o,s.heap.get? b=some o->(s.heap.push {cls:=.type "list",data:=.seq #[]}).get? b=some o:=λb o e=>Heap.get?_push_of_some _ e;have Y:∀b o,s.heap.get? b=some o->b≠s.heap.objs.size:=λb o e=>zan (Heap.lt_size e);generalize hS0:s.heap.objs.size=S at*;generalize s.heap.push {cls:=.type "list",data:=.seq #[]}=h1 at*;refine wpAny_bind (wpAny_bind<|wpAny_seqItems p O<|wpAny_pure (wpAny_bind<|wpAny_updateSeq p O ?_));have uG:=Heap.get?_update_self (Obj.mapSeq<|λ_=>(#[]:Array Value)) p O;have r:∀b o,b≠S->h1.get? b=some o->(h1.update S<|Obj.mapSeq<|λ_=>(#[]:Array Value)).get? b=some o:=
  λb o x e=>(Heap.get?_update_other _ _<|Ne.symm x).trans e
 have Z:=zan hI;have W:=zan aO;have X:=R.at λo e=>r I o Z e;refine wpAny_bind<|wpAny_letGo ?_;generalize h1.update S (Obj.mapSeq<|λ_=>(#[]:Array Value))=h2 at*;have U:=X.typeIs (s:={s with heap:=h2});refine wpAny_bind<|wpAny_typeOf U ?_;have gX:Builtin.List.listSameRef (.ref S) (.ref I)=false:=by simp[Builtin.List.listSameRef,Ne.symm Z]
 have uH:(Value.type "list_reverseiterator"==Value.type "list")=false:=rfl;simp only[gX,uH,K,zbo,zaO,if_false];refine wpAny_bind<|wpAny_pyIter_revIter X (wpAny_bind<|wpAny_holding<|aas U ?_);have G:S∉ [I,l]:=λh=>by
  rcases zac.mp h with e|h
  exact Z e.symm;exact W (zab.mp h).symm
 refine wpAny_ite_split (λfj=>absurd fj (by decide))<|λ_=>wpAny_pure ⟨plainId_quiet F.plain_extend_loop _,?_⟩;refine codeAny_extend_loopS ((Walks.listRev (A:=A.in1.in1) hh I l iK d).toS) hn S G _ d.size 0 _ #[] _ O (zqZ _) ⟨zqZ _,?_,(dA.at λo e=>r l o W e)⟩ uG (ItemsOf.nil _) λB m P h qu ie=>?_;have e:(d.size:Int) - 1 - ((0:Nat):Int)=(d.size:Int) - 1:=by lia
 rw[e];exact X;rw[Moved.eq_with h];refine⟨O,hQ B.heap B.toks m P (λb o x e=>h.heap b o (λV=>?_)<|r b o (Y b o e)<|q b o e) qu ie⟩;rcases zac.mp V with e'|V
 exact Y b o e e';exact x (zab.mp V)
end
theorem aaz(r:RelV x u):∀{xs:List V}{b:List Value},Vals xs b->Vals (xs++[x]) (b++[u]):=λh=>Vals.append h (.cons r .nil)
theorem LL:∀{xs:List V}{us:List Value},Vals xs us->Vals xs.reverse us.reverse:=by
 intro _ _ h;induction h with
 |nil=>exact .nil
 |cons r _ i=>rw[List.reverse_cons,List.reverse_cons];exact aaz r i
theorem aaA{b:List Value}{c:Array Value}(h:ItemsOf (λi v=>b.toArray[b.toArray.size - 1 - i]?=some v) c b.toArray.size):c.toList=b.reverse:=by
 obtain⟨g,k⟩:=h;refine List.ext_getElem? λi=>?_;by_cases f:i<b.length;have d:i<c.size:=by rw[g];simpa using f
 rw[List.getElem?_reverse f];have l:c.toList[i]?=some c[i]:=by simp
 rw[l];simpa using (k i c[i] (zbs d)).symm;have d:c.toList.length=b.length:=by simpa using g
 rw[zce (by lia),zce (by rw[zba];exact za4 f)]
def Af(K:Frag):List V->Hp->VK->Prop:=λxs H Q=>∃p ys,xs=[.ref p]/\au K H p ys/\∀l,H l=none->Q (.ref l) (upd H l<|.lst ys.reverse)
def Ew:Frag->TA->TE:=λK t=>ia (Af K) t
theorem boot_reversed:bootBuiltins "reversed"=some (.type "reversed"):=O
section
variable{CX:cE}{S:df}{Γ:ba}{X:Cx}{e:Expr}{es:List Expr}{x y:Str}{p p2 pos mY:Pos}{r:RE}{rs:List RE}
theorem aaB(hc:X.calm=true)(g1:Gl X "list")(Z:X.mg "list"=none)(g2:Gl X "reversed")(V:X.mg "reversed"=none)(ha:PA X [e] t)(U:starEach [e] X.env=[(false,eval e X.env)]):
  PE X (.Call (.Name "list" p) [.Call (.Name "reversed" p2) [e] [] mY] [] pos) (ia (Af X.K) t):=by
 intro c s σ H Q I h;refine wpAny_Call_Name_kw<|nV I g1 Z D2 ?_ (by decide) (O);refine PyProof.Rows.callWith_type1 (Calls.spliced_cons (wpAny_Call_Name_kw<|nV I g2 V boot_reversed ?_ (by decide) (O))) O O;refine PyProof.Rows.callWith_type1 (aM (ha mY c s σ H _ I h) λus A ⟨vs,H1,f,G,N⟩=>?_) U O;obtain⟨l,m,rfl,W,q⟩:=N;obtain⟨u,rfl,E⟩:=vals1 G;cases E;obtain⟨ao,g,P,J⟩:=f.list W;have d:=P.isList;have aO:l<A.heap.objs.size:=by obtain⟨o,Y,_⟩:=d;exact Heap.lt_size Y
 refine call_reversed_list d (Calls.spliced_nil ?_);have LM:=g.length;refine aau (I.ok.hd hc) ⟨_,Heap.get?_push_size _ O,O,O⟩ (d.push _) (zan aO) (by simp;lia) λh' tk R c' B e F=>?_;refine⟨.ref _,_,f.laid (λb o k=>B b o (zan (Heap.lt_size k)) (Heap.get?_push_of_some _ k)) (by simp)
  (show cT X.prog X.w _ h' _ (.lst m.reverse) from⟨by rw[zba];exact J,R.toList,c',(aaA F)▸LL g,by simpa using e⟩),O,q _ (f.aG.fresh (by simp))⟩
theorem aaC(G:Good CX S Γ X)(A:PA X [e] (bg Γ [r]))(h:kB S x "list"=true:=by kernel_rfl)(b:kB S y "reversed"=true:=by kernel_rfl)(c:ic [e]=true:=by kernel_rfl)(q:S.md=0:=by rfl):PE X (.Call (.Name x p) [.Call (.Name y p2) [e] [] mY] [] pos) (ah Γ<|.xt Ew [r]):=by
 simp only[kB,zaj,decide_eq_true_eq] at h b;obtain⟨⟨rfl,k⟩,g⟩:=h;obtain⟨⟨rfl,f⟩,d⟩:=b;show PE X _ (ia (Af Γ.K)<|bg Γ [r]);rw[<-G.K];exact aaB (G.calm q) (G.gl k) (G.gk _ g) (G.gl f) (G.gk _ d) A<|fO (d_ c).1
end
end L2
namespace L2.B
open PySem PySem.Spec PyProof.Rows
def LN:List Str:=["changes","pairs"]
noncomputable def LO:List RS:=
 [.mQ (.cmp .Gt (.blt .len [.v 0]) (.c (.int 1))) [.rX 1 (.comp (some 2) [] .zip [(.xt (wO (some 0) 2) [.v 0]),(.xt (wO (some 1) 2) [.v 0])] none (.call 0 [.v 0,.v 1])),
  .asg 0 (.bin .Add (.v 1) (.sl (.v 0) (some (.bin .Mult (.c (.int 2)) (.blt .len [.v 1]))) none))],
 .ret (.ix (.v 0) (.c (.int 0)))]
def aaD:List Str:=["then"]
def mZ:List Str:=["len","zip"]
def LP:List Str:=["self","size"]
noncomputable def LQ:List RS:=
 [.ite (.or [(.not (.call 0 [.v 1])),(.cmp .Lt (.v 1) (.c (.int 0)))]) [.jA 0 [(.c (.str "a text has no such number of signs"))]] [],
 .fI (.v 0) "here" (.c<|.int 0),
 .fI (.v 0) "lengths" (.lst [.v 1]),
 .fI (.v 0) "parents" (.lst [.c .aD]),
 .fI (.v 0) "edges" (.lst [.c .aD]),
 .fI (.v 0) "below" (.lst [(.lst [])]),
 .fI (.v 0) "last_gone" (.lst [.c .aD])]
def aaE:List Str:=["NoPlace"]
def uI:List Str:=["self","node"]
noncomputable def LR:List RS:=
 [.ite (.not<|.call 0 [.v 1,(.c<|.int 0),(.bin .Sub (.aU 0 "many" (.v 0) [])<|.c<|.int 1)]) [.jA 0 [(.c<|.str "there is no such node")]] []]
def aaF:List Str:=["is_between"]
def LS:List Str:=["many"]
def Ex:List Str:=["NoNode"]
def qv:List Str:=["self","change"]
noncomputable def Ey:List RS:=
 [.ite (.cmp .NotEq (.ix (.call 0 [.v 1])<|.c<|.int 0)<|.ix (.fld (.v 0) "lengths")<|.fld (.v 0) "here") [.jA 0 [(.c<|.str "the change is over a text of another number of signs")]] []]
def LU:List Str:=["sizes"]
def wQ:List Str:=["BadFit"]
def m4:List Str:=["self"]
noncomputable def LV:List RS:=
 [.ret<|.blt .len [(.fld (.v 0) "parents")]]
noncomputable def LW:List RS:=
 [.drop (.aU 0 "need_node" (.v 0) [.v 1]),
 .ret (.ix (.fld (.v 0) "lengths") (.v 1))]
def aaG:List Str:=["need_node"]
def Ag:List Str:=["self","change","node"]
noncomputable def Ah:List RS:=
 [.drop (.aU 0 "need_over" (.v 0) [.v 1]),
 .asg 2 (.aU 1 "many" (.v 0) []),
 .drop (.bE .append (.fld (.v 0) "parents") [(.fld (.v 0) "here")]),
 .drop (.bE .append (.fld (.v 0) "edges") [(.blt .list [.v 1])]),
 .drop (.bE .append (.fld (.v 0) "lengths") [(.ix (.call 0 [.v 1])<|.c<|.int 1)]),
 .drop (.bE .append (.fld (.v 0) "below") [(.lst [])]),
 .drop (.bE .append (.fld (.v 0) "last_gone") [.c .aD]),
 .drop (.bE .append (.ix (.fld (.v 0) "below")<|.fld (.v 0) "here") [.v 2]),
 .fI (.v 0) "here" (.v 2),
 .ret (.v 2)]
def LX:List Str:=["list"]
def aaH:List Str:=["need_over","many"]
noncomputable def Ez:List RS:=
 [.drop (.aU 0 "need_over" (.v 0) [.v 1]),
 .ite (.or [(.cmp .Eq (.fld (.v 0) "here")<|.c<|.int 0),(.cmp .NotEq (.fld (.v 0) "here")<|.bin .Sub (.aU 1 "many" (.v 0) [])<|.c<|.int 1)]) [.ret<|.aU 2 "do" (.v 0) [.v 1]] [],
 .set (.fld (.v 0) "edges") (.fld (.v 0) "here") (.call 0 [(.ix (.fld (.v 0) "edges")<|.fld (.v 0) "here"),.v 1]),
 .set (.fld (.v 0) "lengths") (.fld (.v 0) "here") (.ix (.call 1 [.v 1])<|.c<|.int 1),
 .ret (.fld (.v 0) "here")]
def aaI:List Str:=["then","sizes"]
def aaJ:List Str:=["need_over","many","do"]
def EA:List Str:=["self","node","other"]
noncomputable def EB:List RS:=
 [.ret<|.lB (.cmp .Eq (.ix (.fld (.v 0) "parents")<|.v 2)<|.v 1) (.ix (.fld (.v 0) "edges")<|.v 2)<|.call 0 [(.ix (.fld (.v 0) "edges")<|.v 1)]]
def aaK:List Str:=["back"]
noncomputable def LY:List RS:=
 [.ite (.cmp .Eq (.fld (.v 0) "here") (.c (.int 0))) [.jA 0 [(.c (.str "the root has no parent"))]] [],
 .ret (.aU 0 "along" (.v 0) [(.lst [(.fld (.v 0) "here"),(.ix (.fld (.v 0) "parents") (.fld (.v 0) "here"))])])]
def LZ:List Str:=["along"]
def L8:List Str:=["self","child"]
noncomputable def L9:List RS:=
 [.asg 1 (.ix (.fld (.v 0) "last_gone") (.fld (.v 0) "here")),
 .ite (.cmp .Is (.v 1)<|.c .aD) [.jA 0 [(.c<|.str "this node has no child")]] [],
 .ret (.aU 0 "along" (.v 0) [(.lst [(.fld (.v 0) "here"),.v 1])])]
noncomputable def L_:List RS:=
 [.ret<|.aU 0 "along" (.v 0) [(.aU 1 "way" (.v 0) [(.fld (.v 0) "here"),.v 1])]]
def aaL:List Str:=["along","way"]
def Ma:List Str:=["self","node","row"]
noncomputable def Mb:List RS:=
 [.asg 2 (.lst [.v 1]),
 .mQ (.cmp .NotEq (.ix (.v 2)<|.neg<|.c<|.int 1)<|.c<|.int 0) [.drop<|.bE .append (.v 2) [(.ix (.fld (.v 0) "parents")<|.ix (.v 2)<|.neg<|.c<|.int 1)]],
 .ret (.v 2)]
noncomputable def Mc:List Str:=["self","one","other","ups","downs"]
noncomputable def EC:List RS:=
 [.drop (.aU 0 "need_node" (.v 0) [.v 1]),
 .drop (.aU 0 "need_node" (.v 0) [.v 2]),
 .asg 3 (.aU 1 "upward" (.v 0) [.v 1]),
 .asg 4 (.aU 1 "upward" (.v 0) [.v 2]),
 .mQ (.and [(.cmp .Gt (.blt .len [.v 3]) (.c (.int 1))),(.cmp .Gt (.blt .len [.v 4]) (.c (.int 1))),(.cmp .Eq (.ix (.v 3) (.neg (.c (.int 2)))) (.ix (.v 4) (.neg (.c (.int 2)))))]) [.drop (.bE .pop (.v 3) []),
  .drop (.bE .pop (.v 4) [])],
 .ret (.bin .Add (.v 3) (.xt Ew [(.sl (.v 4) none (some (.neg (.c (.int 1)))))]))]
def aaM:List Str:=["len","list","reversed"]
def aaN:List Str:=["need_node","upward"]
def Md:List Str:=["self","node","above"]
noncomputable def Me:List RS:=
 [.asg 2 (.lB (.cmp .Eq (.v 1) (.c (.int 0))) (.lst []) (.lst [(.ix (.fld (.v 0) "parents") (.v 1))])),
 .ret (.bin .Add (.v 2) (.ix (.fld (.v 0) "below") (.v 1)))]
structure fP(K:Frag)(C:Addr):Prop where
 cl:gT K C
 gH:gB K C "here"
 sJ:gB K C "lengths"
 m5:gB K C "parents"
 m6:gB K C "edges"
 Ai:gB K C "below"
 Aj:gB K C "last_gone"
end L2.B
namespace L2.N
open PySem PySem.Spec
def dX:List V->List V
 |[]=>[]
 |[x]=>[x]
 |x::_::r=>x::dX r
theorem Mf(a n:Nat)(c:a<=n):sliceRange (a:Int) (n:Int) 2=(List.range<|(n - a+1) / 2).map λk=>a+2*k:=by
 unfold sliceRange;have h:(2:Int) >0:=by lia
 simp only[h,if_true];have e:(if (a:Int) < (n:Int) then ((n:Int) - (a:Int)+2 - 1) / 2 else 0).toNat=(n - a+1) / 2:=by
  by_cases z:a<n;lia;lia
 rw[e];refine zbD λk b=>?_;lia
theorem ED:∀(xs:List V),((List.range<|(xs.length+1) / 2).map λk=>2*k).filterMap (xs[·]?)=dX xs
 |[]=>O
 |[x]=>by
  simp[dX]
 |x::y::r=>by
  have e:((x::y::r).length+1) / 2=(r.length+1) / 2+1:=by
   show(r.length+1+1+1) / 2=_;lia
  rw[e,List.range_succ_eq_map,zaz,zbb];show x::List.filterMap _ _=x::dX r;rw[<-(ED r),zbz,zbz];congr 1
theorem aaO(xs:List V):sI xs (some 0) none (some 2)=dX xs:=by
 unfold sI;have e:sliceBounds (some 0) none (some 2) xs.length=(((0:Nat):Int),(xs.length:Int),2):=by
  unfold sliceBounds;simp;lia
 rw[e];rw[Mf 0 _<|zqZ _,<-ED xs];congr 1;refine zbD λk _=>?_;exact zb6 _ _
theorem aaP(xs:List V):sI xs (some 1) none (some 2)=dX (xs.drop 1):=by
 unfold sI;cases xs with
 |nil=>rfl
 |cons x r=>
  have e:sliceBounds (some 1) none (some 2) (x::r).length=(((1:Nat):Int),((x::r).length:Int),2):=by
   unfold sliceBounds;simp;lia
  rw[e];rw[Mf 1 _ (by simp)];show _=dX r;rw[<-ED r,zbz,zbz];congr 1;funext k;show(x::r)[1+2*k]?=r[2*k]?;rw[Nat.add_comm 1<|2*k,zbc]
end L2.N
namespace L2.B
open PySem PySem.Spec PyProof.Rows
def dq(H H':Hp):Prop:= ∀b xs,H b=some (.tup xs)->H' b=some (.tup xs)
theorem dg(h:ay H H'):dq H H':=λb xs e=>h b _ e
theorem dq.trans(a:dq H H1)(b:dq H1 H2):dq H H2:=λc xs e=>b c xs (a c xs e)
theorem sameNew{o:HO}(h:H p=none):ay H (upd H p o):=λb u e=>by rw[aF<|a_ e h];exact e
def aR(c:Addr)(H H':Hp):Prop:= ∀b o,H b=some o->b≠c->H' b=some o
theorem aR.upd{o:HO}:aR c H (upd H c o):=λb u e n=>by rw[aF n];exact e
theorem aR.trans(a:aR c H H1)(b:aR c H1 H2):aR c H H2:=λd o e n=>b d o (a d o e n) n
theorem aR.same(a:aR c H H1)(b:ay H1 H2):aR c H H2:=λd o e n=>b d o (a d o e n)
theorem sameBut(a:ay H H1)(b:aR c H1 H2):aR c H H2:=λd o e n=>b d o (a d o e) n
theorem qw(a:ay H H1)(h:H c=none)(b:aR c H1 H2):ay H H2:=λd o e=>b d o (a d o e) (a_ e h)
theorem aR.bU(h:aR c H H')(f:H c=some (.lst xs)):dq H H':=λb d e=>h b _ e (λz=>by lia)
theorem iF{b:Prop}(q:b)(h:c=false:=by first|rfl|decide):if c=true then A else b:=by lia
theorem iT{A b:Prop}(q:A)(h:c=true:=by first|rfl|decide):if c=true then A else b:=by lia
inductive Pt where|keep (n:Int)|put (s:Str)|cut (s:Str)
 deriving DecidableEq
def Pt.word:Pt->Str|.keep _=> "keep" |.put _=> "put" |.cut _=> "cut"
def Pt.val:Pt->V|.keep n=>.int n|.put s=>.str s|.cut s=>.str s
def jh(H:Hp)(v:V)(p:Pt):Prop:= ∃a,v=.ref a/\H a=some (.tup [.str p.word,p.val])
abbrev aQ(H:Hp):List V->List Pt->Prop:=Paired (jh H)
theorem jh.mono(t:dq H H')(h:jh H v p):jh H' v p:=by
 obtain⟨a,e,h⟩:=h;exact⟨a,e,t _ _ h⟩
theorem aQ.mono (t:dq H H'):∀{vs:List V}{ps:List Pt},aQ H vs ps->aQ H' vs ps:=by
 intro _ _ h;exact Paired.Cr h λ_ _ x=>x.mono t
theorem aQ.get:∀{vs:List V}{ps:List Pt}{i:Nat}{v:V},aQ H vs ps->vs[i]?=some v->∃p,ps[i]?=some p/\jh H v p:=by
 intro _ _ i v h;induction h generalizing i with
 |nil=>intro e;simp at e
 |cons x _ ih=>
  intro e;cases i with
  |zero=>simp at e;subst e;exact⟨_,rfl,x⟩
  |succ i=>
   obtain⟨p,a,b⟩:=ih (by simpa using e);exact⟨p,by simpa using a,b⟩
theorem aQ.snoc{p:Pt}(h:aQ H vs b)(q:jh H v p):aQ H (vs++[v]) (b++[p]):=Paired.snoc h q
theorem aQ.dropLast:∀{vs:List V}{ps:List Pt},aQ H vs ps->aQ H vs.dropLast ps.dropLast:=by
 intro _ _ h;induction h with
 |nil=>exact .nil
 |cons x k i=>
  cases k with
  |nil=>exact .nil
  |cons _ _=>exact .cons x i
inductive EE(vs:List V)(H:Hp)(Q:VK)(E:XK):Prop|i(i:_)(_:vs=[.int i])(_:Q (.bl true) H)
noncomputable def lQ(w a:Str):Bool:=w !=a && !(a=="cut" && w=="put")
inductive EF(vs:List V)(H:Hp)(Q:VK)(E:XK):Prop|i(w a:_)(_:vs=[.str w,.str a])(_:Q (.bl<|lQ w a) H)
theorem aaQ{K:Frag}(vs:List V)(H:Hp)(Q:VK)(E:XK)(h:EF vs H Q E):az (aI K [] [] (E:=E)) K4 {nx:=λ_ H'=>Q .aD H',rt:=Q} (start K3 vs) H:=by
 obtain⟨w,a,rfl,q⟩:=h;refine⟨_,O,_,O,_,O,?_⟩;unfold lQ at q;refine gG (λh=>?_)<|λh=>?_;rw[zaP,iD] at h;have e:(w !=a)=true:=h;rw[e] at q;refine⟨_,O,_,O,?_⟩;refine gG (λb=>?_)<|λb=>?_;rw[zaI,iD] at b;rw[b] at q;refine⟨_,O,?_⟩;show Q (.bl<|!(false ^^ decide (V.str w=V.str "put"))) H;rw[zaI,iD];exact q;have c:(a=="cut")=false:=by lia
 rw[c] at q;exact q;have e:(w !=a)=false:=by lia
 rw[e] at q;exact q
def sL:Pt->Int|.keep n=>n|.put s=>s.length|.cut s=>s.length
def EG:Pt->Prop|.keep _=>True|.put s=>s.length<=1000000|.cut s=>s.length<=1000000
theorem cz(h:n<=1000000):n<=sizeLine:=zat h (by decide)
theorem dr(h:n<=1000000):n<sizeLine:=Nat.lt_of_le_of_lt h (by decide)
inductive oU(vs:List V)(H:Hp)(Q:VK)(E:XK):Prop|i(v p:_)(_:vs=[v])(_:jh H v p)(_:EG p)(_:Q (.int<|sL p) H)
theorem aaR{K:Frag}(vs:List V)(H:Hp)(Q:VK)(E:XK)(h:oU vs H Q E):az (aI K [] [] (E:=E)) K6 {nx:=λ_ H'=>Q .aD H',rt:=Q} (start K5 vs) H:=by
 obtain⟨v,p,rfl,⟨a,rfl,b⟩,c,q⟩:=h;refine⟨_,O,.inr<|.inl ⟨_,_,_,_,O,O,aJ.of b,O,_,O,?_⟩⟩;cases p with
 |keep n=>exact gi ⟨_,O,.inr<|.inl ⟨_,_,_,_,O,O,aJ.of b,O,q⟩⟩
 |put s=>exact iG ⟨_,O,.inr<|.inl ⟨_,_,_,_,O,O,aJ.of b,O,cz c,q⟩⟩
 |cut s=>exact iG ⟨_,O,.inr<|.inl ⟨_,_,_,_,O,O,aJ.of b,O,cz c,q⟩⟩
def cell(b:List Int)(k:Nat):Int:=b.getD k 0
inductive EH(K:Frag)(vs:List V)(H:Hp)(Q:VK)(E:XK):Prop|i(a:Addr)(b:List Int)(k:Int)(_:vs=[.ref a,.int k])(_:au K H a (b.map V.int))(_:0<=k)(_:Q (.int<|cell b k.toNat) H)
theorem aaS{K:Frag}(vs:List V)(H:Hp)(Q:VK)(E:XK)(h:EH K vs H Q E):az (aI K [] [] (E:=E)) Lf {nx:=λ_ H'=>Q .aD H',rt:=Q} (start Le vs) H:=by
 obtain⟨a,b,k,rfl,c,d,q⟩:=h;refine⟨_,O,_,O,.inl ⟨_,c,trivial,_,O,?_⟩⟩;rw[zaa];refine gG (λh=>?_)<|λh=>?_;refine⟨_,O,_,O,.inl ⟨_,_,_,_,O,O,c,?_,q⟩⟩;have e:=bZ (xs:=b.map V.int) (j:=k.toNat) (v:=.int (cell b k.toNat)) (by
  have:k.toNat<b.length:=by lia
  simp[cell,this])
 rw[show((k.toNat:Nat):Int)=k by lia] at e;exact e;have e:cell b k.toNat=0:=by
  have z:b[k.toNat]?=none:=List.getElem?_eq_none_iff.mpr (by lia);unfold cell;rw[List.getD_eq_getElem?_getD,z];rfl
 rw[e] at q;exact q
theorem EI:(0:Int) <1000003:=by decide
noncomputable def mixed(c k:Int):Int:=let n:=(c*48271+7919*k+11) % 1000003;n*n % 1000003*n % 1000003
inductive EK(vs:List V)(H:Hp)(Q:VK)(E:XK):Prop|i(c k:_)(_:vs=[.int c,.int k])(_:Q (.int<|mixed c k) H)
theorem aaT{K:Frag}(vs:List V)(H:Hp)(Q:VK)(E:XK)(h:EK vs H Q E):az (aI K [] [] (E:=E)) Lh {nx:=λ_ H'=>Q .aD H',rt:=Q} (start Lg vs) H:=by
 obtain⟨c,k,rfl,q⟩:=h;refine⟨_,O,.inr ⟨by lia,by lia⟩,_,O,.inl ⟨by lia,by lia⟩,EI,?_⟩;refine⟨_,O,_,O,.inl ⟨by lia,by lia⟩,EI,_,O,.inl ⟨by lia,by lia⟩,EI,?_⟩;exact q
theorem aaU(c k:Int):0<=mixed c k/\mixed c k<1000003:=⟨zaL _ (by lia),zaM _ (by lia)⟩
def SG:Str:=" !\"#$&'()*+,-./0123456789:;<=>?@ABCDEFGHIJKLMNOPQRSTUVWXYZ[\\]^_`abcdefghijklmnopqrstuvwxyz{|}~\n"
def good(x:Str):Prop:=x.length<=1000000/\∀c∈x.cps.toList,SG.cps.contains c=true
theorem takeWhile_all{b:Type}(p:b->Bool):∀l:List b,(∀c∈l,p c=true)->l.takeWhile p=l
 |[],_=>O
 |c::l,h=>by rw[List.takeWhile_cons,h c zau,takeWhile_all p l λd f=>h d (zar _ f)];rfl
theorem aaV(x y:Str)(h:∀c∈x.cps.toList,y.cps.contains c=true):Txt.lstripChars x y="":=by
 have b:stripLo y.cps.contains true x=x.length:=by
  unfold stripLo;rw[takeWhile_all _ _ h];simp[Str.length]
 unfold Txt.lstripChars Txt.stripBy stripSame stripped;rw[b];split;rename_i q;simp at q;have:=Array.eq_empty_of_size_eq_zero q.1;obtain⟨c⟩:=x;subst this;rfl;show(⟨x.cps.extract x.length x.length⟩:Str)=_;have:x.cps.extract x.length x.length= #[]:=by simp[Str.length]
 rw[this];rfl
theorem EL{a:Addr}{T:Ty}{k:Bool->Prop}(h:H a=some (.tup xs))(q:k (T==.tuple)):cp T (.ref a) H k:=by
 show(match H a with|some (.lst _)=>k (T==.list)|some (.bY _<|.lst _)=>k (T==.list)|some (.tup _)=>k (T==.tuple)|some (.dK _)=>k (T==.dict)|some (.dT _)=>k (T==.dict)|_=>False);rw[h];exact q
theorem Ak{a:Addr}{T:Ty}{k:Bool->Prop}(h:H a=some (.lst xs))(q:k (T==.list)):cp T (.ref a) H k:=by
 show(match H a with|some (.lst _)=>k (T==.list)|some (.bY _<|.lst _)=>k (T==.list)|some (.tup _)=>k (T==.tuple)|some (.dK _)=>k (T==.dict)|some (.dT _)=>k (T==.dict)|_=>False);rw[h];exact q
abbrev gS:List (Str×V):=[("SIGNS",.str SG)]
inductive aaW(vs:List V)(H:Hp)(Q:VK)(E:XK):Prop|i(x:_)(_:vs=[.str x])(_:good x)(_:Q (.bl true) H)
theorem aaX{K:Frag}(vs:List V)(H:Hp)(Q:VK)(E:XK)(h:aaW vs H Q E):az (aI K [] gS (E:=E)) Ef {nx:=λ_ H'=>Q .aD H',rt:=Q} (start oQ vs) H:=by
 obtain⟨x,rfl,b,q⟩:=h;refine⟨_,O,O,_,O,gi ⟨_,O,O,cz b.1,?_⟩⟩;rw[aaV x SG b.2];exact q
def bA:Pt->Prop|.keep n=>1<=n|.put s=>good s/\s≠"" |.cut s=>good s/\s≠""
inductive aaY(K:Frag)(vs:List V)(H:Hp)(Q:VK)(E:XK):Prop|i(w p xs:_)(_:vs=[.str w,.ref p])(_:aJ K H p xs)(_:xs.all jy=true)(_:Q (.bl<|i_ (.str w) xs) H)
theorem aaZ{K:Frag}(vs:List V)(H:Hp)(Q:VK)(E:XK)(h:aaY K vs H Q E):az (aI K [] [] (E:=E)) Ee {nx:=λ_ H'=>Q .aD H',rt:=Q} (start Ec vs) H:=by
 obtain⟨w,p,xs,rfl,b,f,q⟩:=h;exact⟨_,O,O,_,O,gi ⟨_,O,_,O,p,xs,O,.inr b,O,f,q⟩⟩
inductive EM(vs:List V)(H:Hp)(Q:VK)(E:XK):Prop|i(v p:_)(_:vs=[v])(_:jh H v p)(_:bA p)(_:∀H',ay H H'->Q (.bl true) H')
def chainOk:Str->List Pt->Bool
 |_,[]=>true
 |a,p::r=>lQ p.word a && chainOk p.word r
noncomputable def jR(a:Str)(b:List Pt):Nat->Str
 | 0=>a
 |i+1=>match b[i]? with|some p=>p.word|none=> ""
theorem EN:∀(b:List Pt)(a:Str)(i:Nat)(p:Pt),chainOk a b=true->b[i]?=some p->lQ p.word (jR a b i)=true
 |[],_,_,_,_,h=>by simp at h
 |q::r,a,0,p,h,e=>by
  simp only[chainOk,zaj] at h;simp at e;subst e;exact h.1
 |q::r,a,i+1,p,h,e=>by
  simp only[chainOk,zaj] at h;have c:=EN r q.word i p h.2 (by simpa using e);cases i with
  |zero=>simpa[jR] using c
  |succ i=>simpa[jR] using c
abbrev aa0:List (Str×Sp):=[("is_part",EM),("may_follow",EF)]
inductive EO(vs:List V)(H:Hp)(Q:VK)(E:XK):Prop|i(a xs b:_)(_:vs=[.ref a])(_:H a=some (.lst xs))(_:aQ H xs b)(_:(∀p∈b,bA p))(_:chainOk "" b=true)(_:∀H',ay H H'->Q .aD H')
theorem aa1{K:Frag}{et:List (Str×Addr)}(vs:List V)(H:Hp)(Q:VK)(E:XK)(h:EO vs H Q E):az (aI K aa0 [] (et:=et) (E:=E)) Eh {nx:=λ_ H'=>Q .aD H',rt:=Q} (start Eg vs) H:=by
 obtain⟨a,xs,f,rfl,m,G,w,u,q⟩:=h;refine⟨_,O,O,Ak m ⟨_,O,a,O,⟨_,au.of m⟩,lh (λi σ H2=>∃v,σ=[some (.ref a),some (.str (jR "" f i)),v]/\ay H H2) ⟨none,O,ay.refl _⟩
  (λi σ H2 _ ⟨_,_,d⟩=>au.of (d _ _ m)) ?_ ?_⟩⟩
 rintro i x σ H2 r ⟨v,rfl,d⟩;obtain⟨p,k,S⟩:=G.get r;obtain⟨b,rfl,l⟩:=S.mono (dg d);refine⟨_,O,_,p,O,⟨b,O,l⟩,w p<|zak k,λA g=>⟨_,O,.inr<|.inl ⟨_,_,_,_,O,O,aJ.of<|g _ _ l,O,_,O,p.word,_,O,?_⟩⟩⟩;show(λc H1=>if (!c)=true then _ else _) (lQ p.word<|jR "" f i) A;rw[(EN f "" i p u k)];refine⟨_,O,.inr<|.inl ⟨_,_,_,_,O,O,aJ.of<|g _ _ l,O,some<|.ref b,?_,d.trans g⟩⟩;show[some<|V.ref a,some<|V.str p.word,some<|V.ref b]=_;have t:jR "" f (i+1)=p.word:=by simp only[jR,k]
 rw[t];rintro σ H2 ⟨v,rfl,d⟩;exact q H2 d
noncomputable def overOf(b:List Pt):List Int:=(b.filter λp=>decide (p.word≠ ("put":Str))).map sL
noncomputable def qx(b:List Pt):List Int:=(b.filter λp=>decide (p.word≠ ("cut":Str))).map sL
abbrev Mg:List (Str×Sp):=[("need_change",EO),("part_size",oU)]
inductive fQ(vs:List V)(H:Hp)(Q:VK)(E:XK):Prop|i(a xs b:_)(_:vs=[.ref a])(_:H a=some (.lst xs))(_:aQ H xs b)(_:(∀p∈b,bA p))(_:chainOk "" b=true)(_:b.length<=1000000)(_:∀t H',ay H H'->H' t=some (.tup [.int (overOf b).sum,.int (qx b).sum])->Q (.ref t) H')
theorem uJ(h:bA p):EG p:=by
 cases p with
 |keep n=>trivial
 |put s=>exact h.1.1
 |cut s=>exact h.1.1
theorem Mh{b:Type}(p:b->Bool)(l:List b)(i:Nat)(v:b)(h:l[i]?=some v):(l.take<|i+1).filter p=(l.take i).filter p++(if p v then [v] else []):=by
 rw[zbw,h];cases c:p v<;>simp[c]
theorem aa2{K:Frag}(vs:List V)(H:Hp)(Q:VK)(E:XK)(h:fQ vs H Q E):az (aI K Mg [] (E:=E)) Ej {nx:=λ_ H'=>Q .aD H',rt:=Q} (start Ei vs) H:=by
 obtain⟨a,xs,g,rfl,k,G,X,cU,R,q⟩:=h;refine⟨_,O,a,xs,g,O,k,G,X,cU,λH1 l=>?_⟩;have hl:=Paired.length G;have f:∀(w:Str)(H1:Hp)(I:VK)(σ:St),ay H H1->σ[0]?=some (some<|.ref a)->
   (∀b H2,ay H H2->H2 b=some (.lst<|((g.filter λp=>decide (p.word≠w)).map sL).map V.int)->I (.ref b) H2)->
   ah (aI K Mg []) (.comp none [] .list [.v 0] (some<|.cmp .NotEq (.ix (.v 0)<|.c<|.int 0)<|.c<|.str w)<|.call 1 [.v 0]) σ H1 I:=by
  intro w H1 I σ l u W;refine⟨_,u,a,O,⟨_,au.of<|l _ _ k⟩,λi m N H2=>m=xs.length - i/\i<=xs.length/\ay H H2/\N=(((g.take i).filter λp=>decide (p.word≠w)).map sL).map V.int,⟨_,O,zqZ _,l,O⟩,?_⟩;rintro i m N H2 ⟨rfl,hi,d,rfl⟩;by_cases A:i<xs.length;refine .inr ⟨⟨xs,xs[i],au.of<|d _ _ k,by simp⟩,?_⟩;rintro x H3 ⟨rfl,J⟩;obtain⟨p,r,B⟩:=G.get (J xs (au.of<|d _ _ k));obtain⟨b,rfl,S⟩:=B.mono (dg d);refine⟨_,O,.inr<|.inl ⟨_,_,_,_,O,O,aJ.of S,O,_,O,?_⟩⟩;have P:=Mh (λp=>decide<|p.word≠w) g i p r;have Y:((g.take i).filter λp=>decide (p.word≠w)).length<=1000000:=zat (zbV _ _) (zat (List.length_take_le _ _) (by lia));refine gG (λh=>?_)<|λh=>?_;have e:decide (p.word≠w)=true:=by lia
  refine⟨_,O,_,p,O,⟨b,O,S⟩,uJ<|X p<|zak r,?_,xs.length - (i+1),by lia,O,A,d,?_⟩;rw[zaa,zaa];exact dr Y;rw[P,e];simp;have e:=by simpa using h
  refine⟨xs.length - (i+1),by lia,O,A,d,?_⟩;rw[P,e];simp;have gI:i=xs.length:=za5 hi (za4 A)
  subst gI;refine .inl ⟨⟨xs,au.of<|d _ _ k,zqR _⟩,λp r=>?_⟩;have e:g.take xs.length=g:=zaH (by lia);rw[e];exact W p _ (d.trans<|sameNew r) ar
 exact Eb<|KY<|KZ<|f "put" H1 _ _ l O λb1 H2 d e2=>⟨_,au.of e2,Eb<|KY<|KZ<|f "cut" H2 _ _ d O λb2 H3 Z e3=>⟨_,au.of e3,⟨_,O,_,O,cK,λt U=>q t _ (Z.trans<|sameNew U) ar⟩⟩⟩
def cat(t:List Str):Str:=Txt.join "" t
noncomputable def sz(t:List Str):Nat:=(t.map Str.length).sum
theorem ofString_empty:(Str.ofString "")=⟨#[]⟩:=O
theorem uK(b:List Str):(cat b).cps.toList=(b.map λt=>t.cps.toList).flatten:=by
 have e:(Str.ofString "").cps= #[]:=O;cases b with
 |nil=>rfl
 |cons t r=>
  show(r.foldl (λc p=>c++(Str.ofString "").cps++p.cps) t.cps).toList=_;rw[e];have g:∀(r:List Str)(c:Array Nat),(r.foldl (λc p=>c++ #[]++p.cps) c).toList=c.toList++(r.map λt=>t.cps.toList).flatten:=by
   intro r;induction r with
   |nil=>intro c;simp
   |cons q r h=>
    intro c;show(r.foldl (λc p=>c++ #[]++p.cps)<|c++ #[]++q.cps).toList=_;rw[h];simp
  rw[g];simp
theorem jC(h:x.cps.toList=y.cps.toList):x=y:=by
 obtain⟨x⟩:=x;obtain⟨y⟩:=y;exact congrArg Str.mk<|Array.toList_inj.mp h
theorem app_list(x y:Str):(x++y).cps.toList=x.cps.toList++y.cps.toList:=by
 show(x.cps++y.cps).toList=_;simp
theorem aa3(a b:List Str):cat (a++b)=cat a++cat b:=jC (by rw[app_list,uK,uK,uK];simp)
theorem aa4(x:Str):cat [x]=x:=jC (by rw[uK];simp)
theorem len_list(x:Str):x.length=x.cps.toList.length:=O
theorem Mi(t:List Str):(cat t).length=sz t:=by
 rw[len_list,uK,List.length_flatten];rw[zbb];congr 1
theorem Mj(x:Str):x++(Str.ofString "")=x:=O
theorem uL(x:Str):(Str.ofString "")++x=x:=jC (by rw[app_list];simp[ofString_empty])
theorem Ml(a b:List Str):sz (a++b)=sz a+sz b:=by simp[sz]
theorem joinOk_of(h:sz b<=1000000):JoinOk "" b=true:=by
 have g:∀(l:List Str)(n:Nat),l.foldl (· + ·.length+(Str.ofString "").length) n=n+sz l:=by
  intro l;induction l with
  |nil=>intro n;rfl
  |cons t r c=>
   intro n;show r.foldl _ (n+t.length+0)=_;rw[c];show n+t.length+0+sz r=n+(t.length+sz r);lia
 unfold JoinOk;have e:b.toArray.foldl (· + ·.length+(Str.ofString "").length) 0=sz b:=by
  rw[List.foldl_toArray,g,Nat.zero_add]
 rw[e];show(!decide (sz b>sizeLine))=true;rw[zqF (by have:=cz h;exact zb4 this)];rfl
def txt(mk:Str->Pt)(x:Str):List Pt:=if x="" then [] else [mk x]
noncomputable def eF(ch:List Pt)(c d:List Str):List Pt:=ch++txt .put (cat c)++txt .cut (cat d)
inductive Mm(vs:List V)(H:Hp)(Q:VK)(E:XK):Prop|i(c p q xs b f d:_)(_:vs=[.ref c,.ref p,.ref q])(_:H c=some (.lst xs))(_:aQ H xs b)(_:H p=some (.lst<|f.map .str))(_:H q=some (.lst<|d.map .str))(_:sz f<=1000000)(_:sz d<=1000000)(_:b.length<=900000)(_:∀H' u,aR c H H'->H' c=some (.lst u)->aQ H' u (eF b f d)->Q .aD H')
theorem aa5{K:Frag}(vs:List V)(H:Hp)(Q:VK)(E:XK)(h:Mm vs H Q E):az (aI K [] [] (E:=E)) K_ {nx:=λ_ H'=>Q .aD H',rt:=Q} (start K9 vs) H:=by
 obtain⟨c,p,q,xs,I,l,S,rfl,hc,cG,hp,hq,Z,ER,hl,k⟩:=h;refine⟨O,_,O,l,au.of hp,joinOk_of Z,?_⟩;refine⟨O,_,O,S,au.of hq,joinOk_of ER,?_⟩;have A:∀(i:Nat)(w x:Str)(m:Str->Pt)(H1:Hp)(d:List V)(g:List Pt)(σ:St)(D:Ends),(∀y,(m y).word=w/\(m y).val=.str y)->H1 c=some (.lst d)->aQ H1 d g->g.length<=950000->σ[0]?=some (some<|.ref c)->σ[i]?=some (some<|.str x)->
   (∀H2 f,aR c H1 H2->H2 c=some (.lst f)->aQ H2 f (g++txt m x)->D.nx σ H2)->
   cg (aI K [] [] (E:=E)) (.ite (.cmp .NotEq (.v i)<|.c<|.str "") [.drop<|.bE .append (.v 0) [(.tup [(.c<|.str w),.v i])]] []) D σ H1:=by
  intro i w x m H1 d g σ D X N u dA h0 R P;have a':=Paired.length u;refine⟨_,R,_,O,gG (λh=>?_)<|λh=>?_⟩;have U:x≠"":=by lia
  refine⟨_,h0,.inl ⟨O,_,au.of N⟩,_,R,cK,λt r=>?_⟩;have G:c≠t:=a_ N r;refine⟨d,(by rw[aF G];exact N),dr (by lia),P _ (d++[.ref t]) ((sameBut (sameNew r) aR.upd)) ar ?_⟩;have F:dq H1 (upd (upd H1 t<|.tup [.str w,.str x]) c<|.lst<|d++[.ref t]):=(sameBut (sameNew r) aR.upd).bU N;unfold txt;rw[if_neg U];refine aQ.snoc (u.mono F) ⟨t,O,?_⟩;rw[aF G.symm,ar,(X x).1,(X x).2];have e:x="":=by lia
  refine P H1 d (λb o e _=>e) N ?_;unfold txt;rw[if_pos e,zae];exact u
 refine A 3 "put" (cat l) .put H xs I _ _ (λ_=>⟨O,O⟩) hc cG (zat hl (za0 _ _)) O O λH2 f b2 dQ J=>?_;have l2:(I++txt .put (cat l)).length<=950000:=by
  rw[zqA];have:(txt .put<|cat l).length<=1:=by unfold txt;split<;>simp
  lia
 exact A 4 "cut" (cat S) .cut H2 f _ _ _ (λ_=>⟨O,O⟩) dQ J l2 O O λH3 W b3 Y B=>k H3 W (b2.trans b3) Y B
noncomputable def fk(ch:List Pt)(n:Int):List Pt:=match ch.getLast? with
 |some (.keep m)=>ch.dropLast++[.keep<|n+m]
 |_=>ch++[.keep n]
inductive Mo(vs:List V)(H:Hp)(Q:VK)(E:XK):Prop|i(c n xs p:_)(_:vs=[.ref c,.int n])(_:H c=some (.lst xs))(_:aQ H xs p)(_:p.length<=900000)(_:∀H' b,aR c H H'->H' c=some (.lst b)->aQ H' b (fk p n)->Q .aD H')
theorem aQ.last(h:aQ H xs c)(f:xs.length≠0):∃v p,xs[xs.length - 1]?=some v/\gE xs (-1)=some v/\c.getLast?=some p/\jh H v p:=by
 obtain⟨p,d,b⟩:=h.get (i:=xs.length - 1) (v:=xs[xs.length - 1]) (by simp);refine⟨xs[xs.length - 1],p,by simp,?_,?_,b⟩;unfold gE gh;have:¬(0:Int)<= -1:=by lia
 rw[if_neg this,if_pos (by lia)];have e:((-1:Int)+(xs.length:Int)).toNat=xs.length - 1:=by lia
 rw[e];simp;rw[List.getLast?_eq_getElem?,<-Paired.length h];exact d
theorem aa7{K:Frag}(vs:List V)(H:Hp)(Q:VK)(E:XK)(h:Mo vs H Q E):az (aI K [] [] (E:=E)) K8 {nx:=λ_ H'=>Q .aD H',rt:=Q} (start K7 vs) H:=by
 obtain⟨c,n,xs,g,rfl,d,G,u,k⟩:=h;have P:=Paired.length G;have f:∀(m:Int)(H1:Hp)(l:List V)(q:List Pt),aR c H H1->H1 c=some (.lst l)->aQ H1 l q->q.length<=900000->fk g n=q++[.keep m]->
   az (aI K [] []) [.drop<|.bE .append (.v 0) [(.tup [(.c<|.str "keep"),.v 1])]] {nx:=λ_ H'=>Q .aD H',rt:=Q} [some<|.ref c,some<|.int m] H1:=by
  intro m H1 l q F N A J e;have U:=Paired.length A;refine⟨_,O,.inl ⟨O,_,au.of N⟩,_,O,cK,λt r=>?_⟩;have I:c≠t:=a_ N r;refine⟨l,(by rw[aF I];exact N),dr (by lia),k _ (l++[.ref t]) (F.trans<|sameBut (sameNew r) aR.upd) ar ?_⟩;rw[e];refine aQ.snoc (A.mono<|(sameBut (sameNew r) aR.upd).bU N) ⟨t,O,?_⟩;rw[aF I.symm,ar];rfl
 refine⟨_,O,.inl ⟨_,au.of d,trivial,_,O,gG (λh=>?_)<|λh=>?_⟩⟩;have S:xs.length≠0:=by
  lia
 obtain⟨v,p,Z,X,x,a,rfl,w⟩:=G.last S;refine⟨_,O,.inl ⟨_,_,_,_,O,O,au.of d,X,.inr<|.inl ⟨_,_,_,_,O,O,aJ.of w,O,_,O,?_⟩⟩⟩;cases p with
 |keep m=>
  have R:upd H c (.lst xs.dropLast) a=some (.tup [.str "keep",.int m]):=by rw[aF<|cI w d (by lia)];exact w
  refine⟨_,O,_,O,.inl ⟨O,_,au.of d⟩,xs,_,d,Z,.inr<|.inl ⟨_,_,_,_,O,O,aJ.of R,O,?_⟩⟩;refine f (n+m) _ xs.dropLast g.dropLast aR.upd ar (G.dropLast.mono<|aR.upd.bU d) (by rw[zcc];exact zat (zb5 _ _) u) ?_;unfold fk;rw[x]
 |put s=>exact f n H xs g (λb o e _=>e) d G u (by unfold fk;rw[x])
 |cut s=>exact f n H xs g (λb o e _=>e) d G u (by unfold fk;rw[x])
 have B:g=[]:=by
  exact zaE.mp (by lia)
 exact f n H xs g (λb o e _=>e) d G u (by rw[B];rfl)
abbrev NS:=List Pt×List Str×List Str
noncomputable def dF:NS->Pt->NS
 |(ch,p,c),.put s=>(ch,p++[s],c)
 |(ch,p,c),.cut s=>(ch,p,c++[s])
 |(ch,p,c),.keep n=>if 0<n then (fk (eF ch p c) n,[],[]) else (ch,p,c)
noncomputable def jj(p:List Pt):List Pt:=let s:=p.foldl dF ([],[],[]);eF s.1 s.2.1 s.2.2
def fo:Pt->Nat|.keep _=>0|.put s=>s.length|.cut s=>s.length
noncomputable def aB(p:List Pt):Nat:=(p.map fo).sum
theorem ES(p:List Pt)(i:Nat):aB (p.take i)<=aB p:=by
 have:aB p=aB (p.take i)+aB (p.drop i):=by
  unfold aB;rw[<-List.sum_append,<-zap,zbW]
 lia
theorem Mp{b:List Pt}{p:Pt}(h:b[i]?=some p):aB (b.take<|i+1)=aB (b.take i)+fo p:=by
 rw[zbw,h];simp[aB]
theorem Mq{d c:Type}{f:c->d->c}{b:c}{l:List d}{i:Nat}{p:d}(h:l[i]?=some p):(l.take<|i+1).foldl f b=f ((l.take i).foldl f b) p:=by
 rw[zbw,h,List.foldl_append];rfl
theorem Mr(mk:Str->Pt)(x:Str):(txt mk x).length<=1:=by unfold txt;split<;>simp
theorem Al(ch:List Pt)(p c:List Str):(eF ch p c).length<=ch.length+2:=by
 unfold eF;have:=Mr .put (cat p);have:=Mr .cut (cat c);simp;lia
theorem Ms(ch:List Pt)(n:Int):(fk ch n).length<=ch.length+1:=by
 unfold fk;split;simp only[zqA,zcc,zaK];exact za9 (zb5 _ _) _;simp
abbrev aa8:List (Str×Sp):=[("add_texts",Mm),("add_keep",Mo)]
inductive lR(vs:List V)(H:Hp)(Q:VK)(E:XK):Prop|i(a xs p:_)(_:vs=[.ref a])(_:H a=some (.lst xs))(_:aQ H xs p)(_:p.length<=200000)(_:aB p<=100000)(_:∀b H' ys,ay H H'->H b=none->H' b=some (.lst ys)->aQ H' ys (jj p)->Q (.ref b) H')
theorem aa9{K:Frag}(vs:List V)(H:Hp)(Q:VK)(E:XK)(h:lR vs H Q E):az (aI K aa8 [] (E:=E)) Lb {nx:=λ_ H'=>Q .aD H',rt:=Q} (start La vs) H:=by
 obtain⟨a,xs,m,rfl,ha,cG,hl,ht,k⟩:=h;have d':=Paired.length cG;refine⟨zqZ _,λc G=>⟨zqZ _,λY B=>⟨zqZ _,λU N=>?_⟩⟩⟩;have ET:c≠Y:=λz=>by rw[<-z,ar] at B;cases B
 have Mt:c≠U:=λz=>by rw[<-z,aF ET,ar] at N;cases N
 have Mu:Y≠U:=λz=>by rw[<-z,ar] at N;cases N
 have s0:ay H (upd (upd (upd H c<|.lst []) Y<|.lst []) U<|.lst []):=(sameNew G).trans ((sameNew B).trans<|sameNew N);have b':H Y=none:=(sameNew G).free B;have a':H U=none:=((sameNew G).trans<|sameNew B).free N;refine⟨_,O,a,O,⟨_,au.of (s0 _ _ ha)⟩,lh (K:=K) (a:=a) (xs:=xs) (λi σ H2=>qX8 λp q g f d r w x=>qA16 (σ=[some (.ref a),some (.ref c),some (.ref p),some (.ref q),w,x]) (H p=none) (H q=none) (p≠c) (q≠c) (p≠q) (ay H H2) (H2 c=some (.lst r)) (aQ H2 r g) (H2 p=some (.lst (f.map .str))) (H2 q=some (.lst (d.map .str))) ((m.take i).foldl dF ([],[],[])=(g,f,d)) (g.length<=3*i) (f.length<=i) (d.length<=i) (sz f+sz d<=aB (m.take i)))
  ⟨Y,U,[],[],[],[],none,none,O,b',a',ET.symm,Mt.symm,Mu,s0,(by rw[aF Mt,aF ET,ar]),.nil,(by rw[aF Mu,ar];rfl),ar,O,by simp,by simp,by simp,by simp[sz]⟩
  (by rintro i σ H2 _ ⟨_,_,_,_,_,_,_,_,_,_,_,_,_,_,l,_,_,_,_,_,_,_,_,_⟩;exact au.of (l _ _ ha)) ?_ ?_⟩
 rintro i x σ H2 hi ⟨p,q,g,f,d,r,w,x',rfl,fp,fq,W,F,R,l,P,X,A,u,ef,l1,l2,l3,l4⟩;obtain⟨pt,jk,jS⟩:=cG.get hi;obtain⟨b,rfl,hb⟩:=jS.mono (dg l);have d9:i<m.length:=(zah.mp jk).1;have qA:(m.take<|i+1).foldl dF ([],[],[])=dF (g,f,d) pt:=by rw[Mq jk,ef]
 have et:=Mp jk;have tb:=ES m i;refine⟨b,_,O,.inl<|aJ.of hb,O,_,_,O,_,_,O,O,?_⟩;cases pt with
 |put s=>
  refine⟨_,O,_,O,_,O,.inl ⟨O,_,au.of A⟩,_,O,_,A,dr (by rw[zaa];lia),?_⟩;have t:aR p H2 (upd H2 p<|.lst<|f.map V.str++[.str s]):=aR.upd;refine⟨p,q,g,f++[s],d,r,_,_,O,fp,fq,W,F,R,qw l fp t,t _ _ P W.symm,X.mono<|t.bU A,(by rw[ar,zap];rfl),t _ _ u R.symm,qA,za8 l1,by simp;exact l2,za7 l3,?_⟩;rw[Ml,et];show sz f+(s.length+0)+sz d<=aB (m.take i)+s.length;lia
 |cut s=>
  refine⟨_,O,_,O,_,O,_,O,_,O,.inl ⟨O,_,au.of u⟩,_,O,_,u,dr (by rw[zaa];lia),?_⟩;have t:aR q H2 (upd H2 q<|.lst<|d.map V.str++[.str s]):=aR.upd;refine⟨p,q,g,f,d++[s],r,_,_,O,fp,fq,W,F,R,qw l fq t,t _ _ P F.symm,X.mono<|t.bU u,t _ _ A R,(by rw[ar,zap];rfl),qA,za8 l1,za7 l2,by simp;exact l3,?_⟩;rw[Ml,et];show sz f+(sz d+(s.length+0))<=aB (m.take i)+s.length;lia
 |keep n=>
  refine⟨_,O,_,O,_,O,_,O,_,O,trivial,_,O,?_⟩;refine gG (λh=>?_)<|λh=>?_;have hn:0<n:=of_decide_eq_true h;have e2:dF (g,f,d) (.keep n)=(fk (eF g f d) n,[],[]):=if_pos hn;refine⟨_,O,_,O,_,O,c,p,q,r,g,f,d,O,P,X,A,u,by lia,by lia,by lia,λI jV b3 Am EU=>?_⟩;have s3:ay H I:=qw l G b3;refine⟨zqZ _,λS jm=>⟨zqZ _,λJ Z=>?_⟩⟩;have EV:c≠S:=a_ Am jm;have kA:upd I S (.lst []) c=some (.lst jV):=by rw[aF EV];exact Am
  have EW:c≠J:=a_ kA Z;have Mv:S≠J:=λz=>by rw[<-z,ar] at Z;cases Z
  have oX:upd (upd I S<|.lst []) J (.lst []) c=some (.lst jV):=by rw[aF EW];exact kA
  have s5:ay I (upd (upd I S<|.lst []) J<|.lst []):=(sameNew jm).trans (sameNew Z);refine⟨_,O,_,O,c,n,jV,_,O,oX,EU.mono<|dg s5,?_,λH6 jW b6 jn c'=>?_⟩;have:=Al g f d;lia;refine⟨S,J,_,[],[],jW,_,_,O,s3.free jm,(s3.trans<|sameNew jm).free Z,EV.symm,EW.symm,Mv,qw (s3.trans s5) G b6,jn,c',b6 _ _ (by rw[aF Mv,ar];rfl) EV.symm,b6 _ _ (by rw[ar];rfl) EW.symm,qA.trans e2,?_,by simp,by simp,by simp[sz]⟩;have:=Al g f d;have:=Ms (eF g f d) n;lia;have hn:¬0<n:=λz=>h (zqT z);have e2:dF (g,f,d) (.keep n)=(g,f,d):=if_neg hn;refine⟨p,q,g,f,d,r,_,_,O,fp,fq,W,F,R,l,P,X,A,u,qA.trans e2,za8 l1,za7 l2,za7 l3,by lia⟩
 rintro σ H2 ⟨p,q,g,f,d,r,w,x',rfl,fp,fq,W,F,R,l,P,X,A,u,ef,l1,l2,l3,l4⟩;have e:m.take xs.length=m:=zaH (by lia);rw[e] at ef l4;refine⟨_,O,_,O,_,O,c,p,q,r,g,f,d,O,P,X,A,u,by lia,by lia,by lia,λI jV b3 Am EU=>?_⟩;refine⟨_,O,k c I jV (qw l G b3) G Am ?_⟩;unfold jj;rw[ef];exact EU
def A1:Str:=" !\"#$&'()*+,-./0123456789:;<=>?@ABCDEFGHIJKLMNOPQRSTUVWXYZ[\\]^_`"
def A2:Str:="abcdefghijklmnopqrstuvwxyz{|}~\n"
def A3:Str:="ab\n"
def An(l:Str):Prop:=0<l.length/\l.length<=1000/\∀c∈l.cps.toList,SG.cps.contains c=true
theorem Mw(h:(decide (0<l.length) && decide (l.length<=1000) && l.cps.toList.all λc=>SG.cps.contains c)=true):An l:=by
 simp only[zaj,decide_eq_true_eq,zbr] at h;exact⟨h.1.1,h.1.2,h.2⟩
theorem abc:An (A1++A2):=Mw (by decide+kernel)
theorem al3:An A3:=Mw (by decide+kernel)
theorem abe:A1.length+A2.length<=sizeLine:=by decide+kernel
abbrev Mx:List (Str×Sp):=[("_law_mixed",EK)]
inductive Ao(vs:List V)(H:Hp)(Q:VK)(E:XK):Prop|i(c n:_)(_:vs=[.int c,.int n])(_:0<=n)(_:n<=1000)(_:∀x H',good x->x.length=n.toNat->ay H H'->Q (.str x) H')
def EX(t:Str):Prop:=t.length=1/\∀c∈t.cps.toList,SG.cps.contains c=true
theorem Ap:∀(b:List Str),(∀t∈b,EX t)->sz b=b.length
 |[],_=>O
 |t::r,h=>by
  show t.length+sz r=r.length+1;rw[(h t zau).1,Ap r λq c=>h q (zar _ c)];exact zb6 _ _
theorem abf(h:∀t∈d,EX t)(f:d.length<=1000):good (cat d):=by
 refine⟨by rw[Mi,Ap d h];exact zat f (za0 _ _),λc b=>?_⟩;rw[uK,List.mem_flatten] at b;obtain⟨l,f,b⟩:=b;obtain⟨t,g,rfl⟩:=zbt.mp f;exact(h t g).2 c b
theorem abg{K:Frag}(vs:List V)(H:Hp)(Q:VK)(E:XK)(h:Ao vs H Q E):az (aI K Mx [] (E:=E)) Lj {nx:=λ_ H'=>Q .aD H',rt:=Q} (start Li vs) H:=by
 obtain⟨c,n,rfl,Z,U,k⟩:=h;have g:∀(l:Str),An l->az (aI K Mx [] (E:=E)) [.ret<|.bE .join (.c<|.str "") [(.comp none [("_law_some",2),("_law_cell",0)] .gc [.v 1] none<|.ix (.v 1)<|.bin .Mod (.bin .FloorDiv (.call 0 [.v 2,.v 0])<|.c<|.int 7)<|.blt .len [.v 1])]]
   {nx:=λ_ H'=>Q .aD H',rt:=Q} [some<|.int c,some<|.int n,some<|.str l] H:=by
  intro l f;refine⟨O,_,O,n,O,by lia,by lia,λi m w H2=>m=n.toNat - i/\i<=n.toNat/\H2=H/\∃b:List Str,w=b.map V.str/\b.length=i/\∀t∈b,EX t,⟨_,O,zqZ _,O,[],O,O,λt r=>by cases r⟩,?_⟩;rintro i m w H2 ⟨rfl,B,rfl,b,rfl,G,q⟩;by_cases N:i<n.toNat;refine .inr ⟨N,?_⟩;rintro x F ⟨rfl,rfl⟩;refine⟨_,O,_,O,_,O,_,_,O,⟨by decide,by decide⟩,_,O,cz (by have:=f.2.1;exact zat this (za0 _ _)),(by have:=f.1;lia),?_⟩;have u:0<=mixed c (0+(i:Int)) / 7 % (l.length:Int):=zaL _ (by have:=f.1;lia);have X:mixed c (0+(i:Int)) / 7 % (l.length:Int) < (l.length:Int):=zaM _ (by have:=f.1;lia);obtain⟨j,I⟩:∃j,j=mixed c (0+(i:Int)) / 7 % (l.length:Int):=⟨_,O⟩;have A:j.toNat<l.cps.toList.length:=by rw[<-len_list];lia
  refine .inr<|.inr<|.inl ⟨l,j,l.cps.toList[j.toNat],O,(by rw[I]),cz (by have:=f.2.1;exact zat this (za0 _ _)),?_,?_,n.toNat - (i+1),by lia,O,N,O,b++[⟨#[l.cps.toList[j.toNat]]⟩],(by rw[zap];rfl),by simp[G],?_⟩;have e:=bZ (xs:=l.cps.toList) (j:=j.toNat) (v:=l.cps.toList[j.toNat]) (by simp[A]);rw[show((j.toNat:Nat):Int)=j by lia] at e;exact e;rw[zaa];exact dr (by lia);intro t r;rcases zad.mp r with z|z
  exact q t z;rw[zab.mp z];refine⟨O,λd R=>?_⟩;have:=by simpa using R
  rw[this];exact f.2.2 _<|List.getElem_mem A;have S:i=n.toNat:=za5 B (za4 N)
  refine .inl ⟨by show n.toNat<=i;exact za4 N,λp P=>?_⟩;refine⟨b,au.of ar,joinOk_of (by rw[Ap b q];lia),?_⟩;exact k (cat b) _ (abf q (by lia)) (by rw[Mi,Ap b q,G,S])<|sameNew P
 refine⟨_,O,abe,_,O,(by lia),_,O,?_⟩;refine gG (λh=>?_)<|λh=>?_;exact g A3 al3;exact g (A1++A2) abc
def fU:Pt->Prop|.keep n=>0<=n|.put s=>good s/\s.length<=100000|.cut s=>good s/\s.length<=100000
abbrev Row:=Str×Str×Int
noncomputable def lS(r:Row):List V:=[.str r.1,.str r.2.1,.int r.2.2]
def My(H:Hp)(v:V)(r:Row):Prop:= ∃b,v=.ref b/\H b=some (.lst<|lS r)
abbrev oY(H:Hp):List V->List Row->Prop:=Paired (My H)
theorem oY.mono:∀{vs:List V}{ps:List Row},oY H vs ps->(∀ v ∈ vs,∀ b,v=.ref b->∀ o,H b=some o->H' b=some o)->oY H' vs ps:=by
 intro _ _ h;induction h with
 |nil=>exact λ_=>.nil
 |cons x _ i=>
  obtain⟨b,e,h⟩:=x;exact λk=>.cons ⟨b,e,k _ List.mem_cons_self b e _ h⟩ (i λv hv=>k v (List.mem_cons_of_mem _ hv))
theorem oY.get:∀{vs:List V}{ps:List Row}{i:Nat}{v:V},oY H vs ps->vs[i]?=some v->∃p,ps[i]?=some p/\My H v p:=by
 intro _ _ i v h;induction h generalizing i with
 |nil=>intro e;simp at e
 |cons x _ ih=>
  intro e;cases i with
  |zero=>simp at e;subst e;exact⟨_,rfl,x⟩
  |succ i=>
   obtain⟨p,a,b⟩:=ih (by simpa using e);exact⟨p,by simpa using a,b⟩
noncomputable def bC:List Row×Row->Pt->List Row×Row
 |(p,r),.keep n=>(p,(r.1,r.2.1,r.2.2+n))
 |(p,r),.put s=>if s="" then (p,r) else if 0<r.2.2 then (p++[r],(Str.ofString ""++s,"",0)) else (p,(r.1++s,r.2.1,r.2.2))
 |(p,r),.cut s=>if s="" then (p,r) else if 0<r.2.2 then (p++[r],("",Str.ofString ""++s,0)) else (p,(r.1,r.2.1++s,r.2.2))
noncomputable def eU(r:Row):List Pt:=txt .put r.1++txt .cut r.2.1++(if r.2.2=0 then [] else [.keep r.2.2])
noncomputable def cO(r:List Row):List Pt:=(r.map eU).flatten
noncomputable def uQ(p:List Pt):List Row:=let s:=p.foldl bC ([],("","",0));s.1++[s.2]
def fV(p:List Pt):List Pt:=cO (uQ p)
structure kD(H H2:Hp)(R:Addr)(rs:List V)(b:Addr)(pre:List Row)(r:Row):Prop where
 same:ay H H2
 lst:H2 R=some (.lst<|rs++[.ref b])
 fr:H R=none
 rows:oY H2 rs pre
 last:H2 b=some (.lst<|lS r)
 fb:H b=none
 bR:∀v∈rs,∀x,v=.ref x->H x=none/\x≠b/\x≠R
 ne:b≠R
theorem wZ(xs:List V)(v:V):gE (xs++[v]) (-1)=some v:=zj xs v
theorem kD.set{rs:List V}{p:List Row}{r r':Row}(S:kD H H2 R rs b p r):kD H (upd H2 b<|.lst<|lS r') R rs b p r' where
 same:=qw S.same S.fb aR.upd
 lst:=by rw[aF S.ne.symm];exact S.lst
 fr:=S.fr
 rows:=S.rows.mono λv c x e o h=>by rw[aF (S.bR v c x e).2.1];exact h
 last:=ar
 fb:=S.fb
 bR:=S.bR
 ne:=S.ne
theorem kD.grow{rs:List V}{c:List Row}{r r':Row}(S:kD H H2 R rs b c r)(ht:H2 t=none):
  kD H (upd (upd H2 t<|.lst<|lS r') R<|.lst<|rs++[.ref b]++[.ref t]) R (rs++[.ref b]) t (c++[r]) r':=by
 have A:t≠R:=λz=>by rw[z,S.lst] at ht;cases ht
 have f:b≠t:=a_ S.last ht;have k:∀x o,H2 x=some o->x≠R->upd (upd H2 t<|.lst<|lS r') R (.lst<|rs++[.ref b]++[.ref t]) x=some o:=λx o e n=>by rw[aF n,aF<|a_ e ht];exact e
 exact {
  same:=λx o e=>k x o (S.same x o e) (a_ e S.fr)
  lst:=ar
  fr:=S.fr
  rows:=Paired.snoc (S.rows.mono λv d x e o h=>k x o h (S.bR v d x e).2.2) ⟨b,O,k b _ S.last S.ne⟩
  last:=by rw[aF A,ar]
  fb:=S.same.free ht
  bR:=λv d x e=>by
   rcases zad.mp d with z|z
   obtain⟨w,E,u⟩:=S.bR v z x e;refine⟨w,λq=>?_,u⟩;obtain⟨i,m⟩:=List.getElem?_of_mem z;obtain⟨p,_,y,l,g⟩:=S.rows.get m;rw[e] at l;cases l;rw[q,ht] at g;cases g;rw[zab.mp z] at e;cases e;exact⟨S.fb,f,S.ne⟩
  ne:=A}
abbrev Dn(Q:VK):Ends:={nx:=λ_ H'=>Q .aD H',rt:=Q}
abbrev bO(sp:Sp)(Γ:XK->ba)(b:List RS)(N:List Str):Prop:= ∀vs H Q E,sp vs H Q E->az (Γ E) b (Dn Q) (start N vs) H
inductive Mz(vs:List V)(H:Hp)(Q:VK)(E:XK):Prop|i(a xs p:_)(_:vs=[.ref a])(_:H a=some (.lst xs))(_:aQ H xs p)(_:p.length<=100000)(_:aB p<=100000)(_:∀b H' ys,ay H H'->H b=none->H' b=some (.lst ys)->aQ H' ys (fV p)->Q (.ref b) H')
theorem As{K:Frag}{R b:Addr}{rs:List V}{p:List Row}{r r':Row}{a:Addr}{w:Str}{h g f d x:Option V}(S:kD H H2 R rs b p r)(i:Nat)(I:i<2)(G:(if (w=="cut")=true then 1 else 0:Int)=(i:Int))(o:Str)(A:(lS r)[i]?=some (.str o))(u:(lS r).set i (.str<|o++s)=lS r')(t:o.length+s.length<=sizeLine)(k:∀m,kD H m R rs b p r'->D.nx [some<|.ref a,some<|.ref R,some<|.str w,some<|.str s,h,g,f,d,x] m):
  cg (aI K [] [] (E:=E)) (.set (.ix (.v 1)<|.neg<|.c<|.int 1) (.blt .int [(.cmp .Eq (.v 2)<|.c<|.str "cut")])<|.bin .Add (.ix (.ix (.v 1)<|.neg<|.c<|.int 1)<|.blt .int [(.cmp .Eq (.v 2)<|.c<|.str "cut")])<|.v 3) D
   [some<|.ref a,some<|.ref R,some<|.str w,some<|.str s,h,g,f,d,x] H2:=by
 have q:au K H2 b (lS r):=au.of S.last;have l:(if (false ^^ decide (V.str w=V.str "cut"))=true then 1 else 0:Int)=(i:Int):=by lia
 refine⟨_,O,.inl ⟨_,_,_,_,O,O,au.of S.lst,wZ _ _,_,O,?_⟩⟩;show qd K (aI K [] []).sd (.ref b) (.int (if (false ^^ decide (V.str w=V.str "cut"))=true then 1 else 0)) H2 _;rw[l];refine .inl ⟨b,_,_,_,O,O,q,bZ A,_,O,t,_,O,.inl ⟨_,_,_,_,O,O,au.of S.lst,wZ _ _,_,O,?_⟩⟩;show zk (.ref b) (.int (if (false ^^ decide (V.str w=V.str "cut"))=true then 1 else 0)) (.str<|o++s) H2 _;rw[l];refine⟨b,lS r,(i:Int),i,O,O,S.last,?_,?_⟩;unfold gh;rw[if_pos (za6 _),if_pos (by show(i:Int) < ((3:Nat):Int);lia)];simp;rw[u];exact k _ S.set
theorem abj{b:List Row}{r:Row}(h:b[i]?=some r):cO (b.take<|i+1)=cO (b.take i)++eU r:=by
 unfold cO;rw[zbw,h];simp
theorem MA{K:Frag}{R b:Addr}{rs:List V}{d:List Row}{r:Row}{a:Addr}{w:Str}{P N I G A:Option V}(S:kD H H2 R rs b d r)(p:Pt)(x:(p=.put s/\w="put")\/(p=.cut s/\w="cut"))(hs:s.length<=100000)(W:r.1.length<=100000)(U:r.2.1.length<=100000)(J:rs.length<=100000)(k:∀f B Y,kD H f R B Y (bC (d,r) p).1 (bC (d,r) p).2->B.length<=rs.length+1->D.nx [some<|.ref a,some<|.ref R,some<|.str w,some<|.str s,P,N,I,G,A] f):
  az (aI K [] [] (E:=E)) [.ite (.cmp .NotEq (.v 3) (.c (.str ""))) [.ite (.cmp .Gt (.ix (.ix (.v 1) (.neg (.c (.int 1)))) (.c (.int 2))) (.c (.int 0))) [.drop (.bE .append (.v 1) [(.lst [(.c (.str "")),(.c (.str "")),(.c (.int 0))])])] [],
    .set (.ix (.v 1) (.neg (.c (.int 1)))) (.blt .int [(.cmp .Eq (.v 2) (.c (.str "cut")))]) (.bin .Add (.ix (.ix (.v 1) (.neg (.c (.int 1)))) (.blt .int [(.cmp .Eq (.v 2) (.c (.str "cut")))])) (.v 3))] []] D
   [some<|.ref a,some<|.ref R,some<|.str w,some<|.str s,P,N,I,G,A] H2:=by
 refine⟨_,O,_,O,?_⟩;refine gG (λh=>?_)<|λh=>?_;have u:s≠"":=by simpa using h
 refine⟨_,O,.inl ⟨_,_,_,_,O,O,au.of S.lst,wZ _ _,.inl ⟨_,_,_,_,O,O,au.of S.last,O,trivial,_,O,?_⟩⟩⟩;have l:∀n:Nat,n<=100000->n+s.length<=sizeLine:=λn J=>cz (by lia);have Z:(Str.ofString "").length=0:=O;refine gG (λh=>?_)<|λh=>?_;have q:0<r.2.2:=of_decide_eq_true h;refine⟨_,O,.inl ⟨O,_,au.of S.lst⟩,yL,λt X=>?_⟩;have Ar:R≠t:=a_ S.lst X;refine⟨_,(by rw[aF Ar];exact S.lst),dr (by rw[zqA,zaK];lia),?_⟩;have F:=S.grow (r':=((Str.ofString "",Str.ofString "",0):Row)) X;rcases x with⟨rfl,rfl⟩|⟨rfl,rfl⟩
 have g:bC (d,r) (.put s)=(d++[r],((Str.ofString ""++s,Str.ofString "",0):Row)):=by show(if s="" then _ else if 0<r.2.2 then _ else _)=_;rw[if_neg u,if_pos q]
 rw[g] at k;exact As F 0 (zb7 _) O "" O O (l _ (by rw[Z];exact zqZ _)) λf m=>k f _ t m (by simp);have g:bC (d,r) (.cut s)=(d++[r],((Str.ofString "",Str.ofString ""++s,0):Row)):=by show(if s="" then _ else if 0<r.2.2 then _ else _)=_;rw[if_neg u,if_pos q]
 rw[g] at k;exact As F 1 (zbM _) O "" O O (l _ (by rw[Z];exact zqZ _)) λf m=>k f _ t m (by simp);have q:¬0<r.2.2:=λz=>h (zqT z);rcases x with⟨rfl,rfl⟩|⟨rfl,rfl⟩
 have g:bC (d,r) (.put s)=(d,(r.1++s,r.2.1,r.2.2)):=by show(if s="" then _ else if 0<r.2.2 then _ else _)=_;rw[if_neg u,if_neg q]
 rw[g] at k;exact As S 0 (zb7 _) O r.1 O O (l _ W) λf m=>k f _ b m (zbh _);have g:bC (d,r) (.cut s)=(d,(r.1,r.2.1++s,r.2.2)):=by show(if s="" then _ else if 0<r.2.2 then _ else _)=_;rw[if_neg u,if_neg q]
 rw[g] at k;exact As S 1 (zbM _) O r.2.1 O O (l _ U) λf m=>k f _ b m (zbh _);have e:s="":=by simpa using h
 have g:bC (d,r) p=(d,r):=by
  rcases x with⟨rfl,rfl⟩|⟨rfl,rfl⟩
  show(if s="" then _ else _)=_;rw[if_pos e];show(if s="" then _ else _)=_;rw[if_pos e]
 rw[g] at k;exact k H2 rs b S (zbh _)
theorem lT(x y:Str):(x++y).length=x.length+y.length:=by rw[len_list,app_list,zqA,<-len_list,<-len_list]
theorem abk(b:List Row)(r:Row)(p:Pt)(n:Nat)(d:r.1.length<=n)(h:r.2.1.length<=n):(bC (b,r) p).2.1.length<=n+fo p/\(bC (b,r) p).2.2.1.length<=n+fo p:=by
 have c:(Str.ofString "").length=0:=O;cases p with
 |keep m=>exact⟨by show r.1.length<=n+0;exact d,by show r.2.1.length<=n+0;exact h⟩
 |put s=>
  show(if s="" then (b,r) else if 0<r.2.2 then (b++[r],((Str.ofString ""++s,Str.ofString "",0):Row)) else (b,(r.1++s,r.2.1,r.2.2))).2.1.length<=n+s.length/\
   (if s="" then (b,r) else if 0<r.2.2 then (b++[r],((Str.ofString ""++s,Str.ofString "",0):Row)) else (b,(r.1++s,r.2.1,r.2.2))).2.2.1.length<=n+s.length
  split;exact⟨za8 d,za8 h⟩;split;exact⟨by rw[lT];lia,by lia⟩;exact⟨by rw[lT];exact za9 d _,za8 h⟩
 |cut s=>
  show(if s="" then (b,r) else if 0<r.2.2 then (b++[r],((Str.ofString "",Str.ofString ""++s,0):Row)) else (b,(r.1,r.2.1++s,r.2.2))).2.1.length<=n+s.length/\
   (if s="" then (b,r) else if 0<r.2.2 then (b++[r],((Str.ofString "",Str.ofString ""++s,0):Row)) else (b,(r.1,r.2.1++s,r.2.2))).2.2.1.length<=n+s.length
  split;exact⟨za8 d,za8 h⟩;split;exact⟨by lia,by rw[lT];lia⟩;exact⟨za8 d,by rw[lT];exact za9 h _⟩
theorem MB(h:dR Γ.K p x v H Q):ah Γ (.c v) σ H λy H2=>dR Γ.K p x y H2 Q:=h
theorem MC{K:Frag}{x y:V}(h:mJ x y=true)(q:Q (.bl<|true ^^ decide (x=y)) H):dR K .NotEq x y H Q:=by
 show oy true x y H Q;unfold oy;rw[h];exact q
theorem abl{K:Frag}{l t1 t2 t3:Addr}{r:Row}{U:VK}(hl:H1 l=some (.lst [.ref t1,.ref t2,.ref t3]))(h1:H1 t1=some (.tup [.str "put",.str r.1]))(h2:H1 t2=some (.tup [.str "cut",.str r.2.1]))(h3:H1 t3=some (.tup [.str "keep",.int r.2.2]))(X:σ[8]?=some (some<|.ref l))(k:∀p ys,H1 p=none->aQ H1 ys (eU r)->ys.length<=3->U (.ref p) (upd H1 p<|.lst ys)):
  ah (aI K [] [] (E:=E)) (.comp none [] .list [.v 8] (some<|.and [(.cmp .NotEq (.ix (.v 0)<|.c<|.int 1)<|.c<|.str ""),(.cmp .NotEq (.ix (.v 0)<|.c<|.int 1)<|.c<|.int 0)])<|.v 0) σ H1 U:=by
 have I:au K H1 l [.ref t1,.ref t2,.ref t3]:=au.of hl
 let N:Nat->List Pt:=λi=>match i with| 0=>[]| 1=>txt .put r.1| 2=>txt .put r.1++txt .cut r.2.1|_=>eU r
 refine⟨_,X,l,O,⟨_,I⟩,λi m ys H2=>m=3 - i/\i<=3/\H2=H1/\aQ H1 ys (N i)/\ys.length<=i,⟨_,O,zqZ _,O,.nil,zqR _⟩,?_⟩;rintro i m ys H2 ⟨rfl,hi,rfl,G,Au⟩;have f:ys.length<sizeLine:=dr (by lia);have F:∀(t:Addr)(p:Pt)(j:Nat),H2 t=some (.tup [.str p.word,p.val])->i=j->j<3->(N (j+1)=N j++[p]/\p.val≠ .str ""/\p.val≠ .int 0\/N (j+1)=N j/\(p.val=.str ""\/p.val=.int 0))->
   (∃s,p.val=.str s)\/(∃n,p.val=.int n)->
   om (wo (aI K [] [] (E:=E)).calm<|some<|.and [(.cmp .NotEq (.ix (.v 0)<|.c<|.int 1)<|.c<|.str ""),(.cmp .NotEq (.ix (.v 0)<|.c<|.int 1)<|.c<|.int 0)]) ([V.ref t].map some++cX σ []) H2 λb W=>
    if b=true then ah (aI K [] [] (E:=E)).calm (.v 0) ([V.ref t].map some++cX σ []) W λy H6=>ys.length<sizeLine/\∃q,q<3 - i/\q=3 - (i+1)/\i+1<=3/\H6=H2/\aQ H2 (ys++[y]) (N<|i+1)/\(ys++[y]).length<=i+1
    else ∃q,q<3 - i/\q=3 - (i+1)/\i+1<=3/\W=H2/\aQ H2 ys (N<|i+1)/\ys.length<=i+1:=by
  intro t p j Z ej hj B h;subst ej;have R:mJ p.val (.str "")=true:=by rcases h with⟨s,e⟩|⟨n,e⟩ <;>rw[e] <;>rfl
  have P:mJ p.val (.int 0)=true:=by rcases h with⟨s,e⟩|⟨n,e⟩ <;>rw[e] <;>rfl
  refine⟨_,O,.inr<|.inl ⟨_,_,_,_,O,O,aJ.of Z,O,MB<|MC R ⟨_,O,?_⟩⟩⟩;by_cases A:p.val=.str "";rw[zqT A];rcases B with⟨_,z,_⟩|⟨e,_⟩
  exact absurd A z;exact⟨3 - (i+1),by lia,O,zb0 hj,O,by rw[e];exact G,za7 Au⟩;rw[zqF A];refine⟨_,O,.inr<|.inl ⟨_,_,_,_,O,O,aJ.of Z,O,MB<|MC P ⟨_,O,?_⟩⟩⟩;by_cases w:p.val=.int 0;rw[zqT w];rcases B with⟨_,_,z⟩|⟨e,_⟩
  exact absurd w z;exact⟨3 - (i+1),by lia,O,zb0 hj,O,by rw[e];exact G,za7 Au⟩;rw[zqF w];rcases B with⟨e,_,_⟩|⟨_,z⟩
  refine⟨_,O,f,3 - (i+1),by lia,O,zb0 hj,O,?_,by simp;exact Au⟩;rw[e];exact aQ.snoc G ⟨t,O,Z⟩;rcases z with z|z
  exact absurd z A;exact absurd z w
 have J:∀(d:Str->Pt)(x:Str)(l:List Pt),(d x).val=.str x->(l++txt d x=l++[d x]/\(d x).val≠ .str ""/\(d x).val≠ .int 0\/l++txt d x=l/\((d x).val=.str ""\/(d x).val=.int 0)):=by
  intro d x l h;unfold txt;by_cases e:x="";rw[if_pos e];exact .inr ⟨by simp,.inl (by rw[h,e])⟩;rw[if_neg e];exact .inl ⟨O,by lia,by lia⟩
 by_cases aO:i<3;refine .inr ⟨⟨_,[V.ref t1,V.ref t2,V.ref t3][i],I,by simp[aO]⟩,?_⟩;rintro x H3 ⟨rfl,Y⟩;have S:=Y _ I;have:i=0\/i=1\/i=2:=by lia
 rcases this with rfl|rfl|rfl
 have u:x=.ref t1:=by simpa using S.symm
 subst u;exact F t1 (.put r.1) 0 h1 O aO (J .put r.1 [] O)<|.inl ⟨_,O⟩;have u:x=.ref t2:=by simpa using S.symm
 subst u;exact F t2 (.cut r.2.1) 1 h2 O aO (J .cut r.2.1 _ O)<|.inl ⟨_,O⟩;have u:x=.ref t3:=by simpa using S.symm
 subst u;refine F t3 (.keep r.2.2) 2 h3 O aO ?_<|.inr ⟨_,O⟩;by_cases e:r.2.2=0;refine .inr ⟨?_,.inr (by show V.int r.2.2=_;rw[e])⟩;show eU r=txt .put r.1++txt .cut r.2.1;unfold eU;rw[if_pos e,zae];refine .inl ⟨?_,?_,?_⟩;show eU r=txt .put r.1++txt .cut r.2.1++[.keep r.2.2];unfold eU;rw[if_neg e];intro z;have g:=z;cases g;intro z;have g:=z;injection g with g
 exact e g;have gI:i=3:=za5 hi (za4 aO)
 subst gI;refine .inl ⟨⟨_,I,by simp⟩,λp hp=>?_⟩;exact k p ys hp G Au
theorem abo{K:Frag}(vs:List V)(H:Hp)(Q:VK)(E:XK)(h:Mz vs H Q E):az (aI K [] [] (E:=E)) Lo {nx:=λ_ H'=>Q .aD H',rt:=Q} (start Ek vs) H:=by
 obtain⟨a,xs,d,rfl,ha,cG,hl,ht,k⟩:=h;have k':=Paired.length cG;refine⟨yL,λY EY=>⟨cC,λR hR=>?_⟩⟩;have MD:Y≠R:=λz=>by rw[<-z,ar] at hR;cases hR
 have fR:H R=none:=(sameNew EY).free hR;have S0:kD H (upd (upd H Y<|.lst [.str "",.str "",.int 0]) R<|.lst [.ref Y]) R [] Y [] ((Str.ofString "",Str.ofString "",0):Row):=
  {same:=(sameNew EY).trans (sameNew hR),lst:=ar,fr:=fR,rows:=.nil,last:=(by rw[aF MD,ar];rfl),fb:=EY,bR:=(λv hv=>by cases hv),ne:=MD}
 refine⟨_,O,a,O,⟨_,au.of (S0.same _ _ ha)⟩,lh (K:=K) (a:=a) (xs:=xs) (λi σ H2=>qX6 λu v A b c r=>qA6 (σ=[some (.ref a),some (.ref R),u,v,none,none,none,none,none]) (kD H H2 R A b c r) ((d.take i).foldl bC ([],((Str.ofString "",Str.ofString "",0):Row))=(c,r)) (A.length<=i) (r.1.length<=aB (d.take i)) (r.2.1.length<=aB (d.take i)))
  ⟨none,none,[],Y,[],_,O,S0,O,zqR _,zqZ _,zqZ _⟩ (by rintro i σ H2 _ ⟨_,_,_,_,_,_,_,S,_,_,_,_⟩;exact au.of (S.same _ _ ha)) ?_ ?_⟩
 rintro i x σ H2 hi ⟨u,v,A,b,c,r,rfl,S,ef,l1,l2,l3⟩;obtain⟨pt,jk,jS⟩:=cG.get hi;obtain⟨t,rfl,hb⟩:=jS.mono (dg S.same);have d9:i<d.length:=(zah.mp jk).1;have qA:(d.take<|i+1).foldl bC ([],((Str.ofString "",Str.ofString "",0):Row))=bC (c,r) pt:=by rw[Mq jk,ef]
 have et:=Mp jk;have tb:=ES d i;have l':=ES d (i+1);have sl:=abk c r pt _ l2 l3;refine⟨t,_,O,.inl<|aJ.of hb,O,_,_,O,_,_,O,O,?_⟩;refine⟨_,O,_,O,?_⟩;cases pt with
 |keep n=>
  refine⟨_,O,.inl ⟨_,_,_,_,O,O,au.of S.lst,wZ _ _,.inl ⟨_,_,_,_,O,O,au.of S.last,O,_,O,_,O,.inl ⟨_,_,_,_,O,O,au.of S.lst,wZ _ _,b,lS r,2,2,O,O,S.last,O,?_⟩⟩⟩⟩;refine⟨_,_,A,b,c,(r.1,r.2.1,r.2.2+n),O,S.set (r':=(r.1,r.2.1,r.2.2+n)),qA,za7 l1,?_,?_⟩;show r.1.length<=_;lia;show r.2.1.length<=_;lia
 |put s=>
  refine MA S (.put s) (.inl ⟨O,O⟩) ?_ (zat l2 (zat tb ht)) (zat l3 (zat tb ht)) (by lia) λF dB b' S' a'=>⟨_,_,dB,b',_,_,O,S',qA,zat a' (za9 l1 _),by lia,by lia⟩;have:fo (.put s)=s.length:=O;lia
 |cut s=>
  refine MA S (.cut s) (.inr ⟨O,O⟩) ?_ (zat l2 (zat tb ht)) (zat l3 (zat tb ht)) (by lia) λF dB b' S' a'=>⟨_,_,dB,b',_,_,O,S',qA,zat a' (za9 l1 _),by lia,by lia⟩;have:fo (.cut s)=s.length:=O;lia
 rintro σ Hm ⟨u,v,A,b,c,r,rfl,S,ef,l1,l2,l3⟩;have e:d.take xs.length=d:=zaH (by lia);rw[e] at ef;have j':uQ d=c++[r]:=by
  show(d.foldl bC ([],((Str.ofString "",Str.ofString "",0):Row))).1++[(d.foldl bC ([],((Str.ofString "",Str.ofString "",0):Row))).2]=_;rw[ef]
 have ME:oY Hm (A++[.ref b]) (uQ d):=by rw[j'];exact Paired.snoc S.rows ⟨b,O,S.last⟩
 have Av:=Paired.length ME;refine⟨zqZ _,λf0 EZ=>?_⟩;refine⟨_,O,R,O,⟨_,au.of (sameNew EZ _ _ S.lst)⟩,lh (K:=K) (a:=R) (xs:=A++[.ref b]) (λi σ H2=>qX6 λf m p5 p6 p7 p8=>qA6 (σ=[some (.ref a),some (.ref R),u,v,some (.ref f),p5,p6,p7,p8]) (ay Hm H2) (H f=none) (H2 f=some (.lst m)) (aQ H2 m (cO ((uQ d).take i))) (m.length<=3*i))
  ⟨f0,[],none,none,none,none,O,sameNew EZ,S.same.free EZ,ar,.nil,zqR _⟩ (by rintro i σ H2 _ ⟨_,_,_,_,_,_,_,Z,_,_,_,_⟩;exact au.of (Z _ _ S.lst)) ?_ ?_⟩
 rintro i x σ H2 hi ⟨f,m,p5,p6,p7,p8,rfl,Z,ff,E1,ip,Au⟩;obtain⟨g,i',w,rfl,hw⟩:=ME.get hi;have d':=Z _ _ hw;have d9:i< (A++[V.ref b]).length:=(zah.mp hi).1;have w9:A.length<=100000:=by lia
 have E2:i<=100000:=by simp only[zqA,zaK] at d9;exact zat (zb1 d9) w9
 refine⟨w,_,O,.inr<|au.of d',O,_,_,O,_,_,O,_,_,O,O,?_⟩;refine⟨_,O,cK,λP jX=>⟨_,O,cK,λN sO=>⟨_,O,cK,λI J=>⟨yL,λl B=>?_⟩⟩⟩⟩;have c1:P≠N:=λz=>by rw[<-z,ar] at sO;cases sO
 have MF:P≠I:=λz=>by rw[<-z,aF c1,ar] at J;cases J
 have MG:N≠I:=λz=>by rw[<-z,ar] at J;cases J
 have g':P≠l:=λz=>by rw[<-z,aF MF,aF c1,ar] at B;cases B
 have f':N≠l:=λz=>by rw[<-z,aF MG,ar] at B;cases B
 have e':I≠l:=λz=>by rw[<-z,ar] at B;cases B
 have U:=((sameNew (o:=.tup [.str "put",.str g.1]) jX).trans<|sameNew (o:=.tup [.str "cut",.str g.2.1]) sO).trans ((sameNew J).trans<|sameNew (o:=.lst [.ref P,.ref N,.ref I]) B);refine⟨_,O,abl (r:=g) (l:=l) (t1:=P) (t2:=N) (t3:=I) ar (by rw[aF g',aF MF,aF c1,ar]) (by rw[aF f',aF MG,ar]) (by rw[aF e',ar]) O λp X W MH E3=>?_⟩;generalize wb:upd (upd (upd (upd H2 P<|.tup [.str "put",.str g.1]) N<|.tup [.str "cut",.str g.2.1]) I<|.tup [.str "keep",.int g.2.2]) l (.lst [.ref P,.ref N,.ref I])=F at U W MH;have MI:=U _ _ E1;have c':upd F p (.lst X) f=some (.lst m):=by rw[aF<|a_ MI W];exact MI
 refine .inl ⟨f,p,m,X,O,O,c',ar,cz (by lia),λq hq=>?_⟩;have s5:ay Hm (upd (upd F p<|.lst X) q<|.lst<|m++X):=Z.trans (U.trans<|(sameNew W).trans<|sameNew hq);have t5:dq F (upd (upd F p<|.lst X) q<|.lst<|m++X):=dg ((sameNew W).trans<|sameNew hq);refine⟨q,m++X,_,_,_,_,O,s5,S.same.free<|(Z.trans<|U.trans<|sameNew W).free hq,ar,?_,by rw[zqA];exact zcq Au E3⟩;rw[abj i'];have h':∀{vs:List V}{as:List Pt}{ws:List V}{bs:List Pt}{G:Hp},aQ G vs as->aQ G ws bs->aQ G (vs++ws) (as++bs):=λ{vs as ws bs G} h1 h2=>by
  induction h1 with
  |nil=>exact h2
  |cons a _ ih=>exact .cons a ih
 exact h' ((ip.mono<|dg U).mono t5)<|MH.mono t5;rintro σ H2 ⟨f,m,p5,p6,p7,p8,rfl,Z,ff,E1,ip,Au⟩;have e2:(uQ d).take (A++[V.ref b]).length=uQ d:=zaH (by lia);rw[e2] at ip;exact⟨_,O,k f H2 m (S.same.trans Z) ff E1 ip⟩
theorem Aw(a b:List Row):cO (a++b)=cO a++cO b:=by simp[cO]
theorem w_(r:Row):cO [r]=eU r:=by simp[cO]
theorem E4(h:0<r.2.2):eU r=txt .put r.1++txt .cut r.2.1++[.keep r.2.2]:=by
 unfold eU;rw[if_neg (zb3 h)]
theorem MJ(h:r.2.2=0):eU r=txt .put r.1++txt .cut r.2.1:=by
 unfold eU;rw[if_pos h,zae]
def MK:Pt->Bool|.keep _=>true|_=>false
theorem aby{n:Int}(h:∀p,ch.getLast?=some p->MK p=false):fk ch n=ch++[.keep n]:=by
 unfold fk;split;rename_i m e;have:=h _ e;cases this;rfl
theorem abz(ch:List Pt)(m n:Int):fk (ch++[.keep m]) n=ch++[.keep<|n+m]:=by
 unfold fk;simp
theorem txt_nil(mk:Str->Pt):txt mk ""=[]:=if_pos O
theorem kI{x:Str}(h:x≠""):txt mk x=[mk x]:=if_neg h
theorem abA{r:Row}(h:c≠ []->r.1≠""\/r.2.1≠""):∀p,(cO c++txt .put r.1++txt .cut r.2.1).getLast?=some p->MK p=false:=by
 intro p b;by_cases d:r.2.1="";rw[d,txt_nil] at b;by_cases f:r.1="";rw[f,txt_nil] at b;by_cases g:c=[];rw[g] at b;simp[cO] at b;rcases h g with z|z
 exact absurd f z;exact absurd d z;rw[kI f] at b;simp at b;subst b;rfl;rw[kI d] at b;simp at b;subst b;rfl
def Rel(s:NS)(t:List Row×Row):Prop:=
 (∀x∈t.1,0<x.2.2)/\(t.1≠ []->t.2.1≠""\/t.2.2.1≠"")/\0<=t.2.2.2/\
  ((t.2.2.2=0/\s.1=cO t.1/\cat s.2.1=t.2.1/\cat s.2.2=t.2.2.1)\/(0<t.2.2.2/\s.1=cO (t.1++[t.2])/\cat s.2.1=""/\cat s.2.2=""))
theorem qB(a:List Str)(s:Str):cat (a++[s])=cat a++s:=by rw[aa3,aa4]
theorem abB{s:NS}{t:List Row×Row}{p:Pt}(R:Rel s t)(X:fU p):Rel (dF s p) (bC t p):=by
 obtain⟨q,u,d⟩:=s;obtain⟨b,r⟩:=t;obtain⟨m,G,E,l⟩:=qa4 R;simp only at m G E l;cases p with
 |keep n=>
  have B:0<=n:=X;by_cases V:0<n;have S:dF (q,u,d) (.keep n)=(fk (eF q u d) n,[],[]):=if_pos V;rw[S];refine⟨m,G,by show 0<=r.2.2+n;lia,.inr ⟨by show 0<r.2.2+n;lia,?_,O,O⟩⟩;show fk (eF q u d) n=cO (b++[(r.1,r.2.1,r.2.2+n)]);rw[Aw,w_,E4 (by lia)];rcases l with⟨k,c,g,f⟩|⟨k,c,g,f⟩
  have P:eF q u d=cO b++txt .put r.1++txt .cut r.2.1:=by unfold eF;rw[c,g,f]
  rw[P,aby<|abA G];rw[k];simp;have P:eF q u d=cO b++(txt .put r.1++txt .cut r.2.1)++[.keep r.2.2]:=by
   unfold eF;rw[c,g,f,txt_nil,txt_nil,zae,zae,Aw,w_,E4 k];simp
  rw[P,abz];rw[Int.add_comm n];simp;have Z:n=0:=by lia
  have S:dF (q,u,d) (.keep n)=(q,u,d):=if_neg V;have c:bC (b,r) (.keep n)=(b,r):=by show(b,(r.1,r.2.1,r.2.2+n))=_;rw[Z,Int.add_zero]
  rw[S,c];exact⟨m,G,E,l⟩
 |put x=>
  show Rel (q,u++[x],d) (bC (b,r)<|.put x);by_cases h:x="";have c:bC (b,r) (.put x)=(b,r):=if_pos h;rw[c];refine⟨m,G,E,?_⟩;have e:cat (u++[x])=cat u:=by rw[qB,h];exact Mj _
  simp only[e];exact l;by_cases w:0<r.2.2;have c:bC (b,r) (.put x)=(b++[r],((Str.ofString ""++x,Str.ofString "",0):Row)):=by show(if x="" then _ else if 0<r.2.2 then _ else _)=_;rw[if_neg h,if_pos w]
  rw[c];rcases l with⟨k,_⟩|⟨_,A,g,f⟩
  lia;refine⟨λy N=>?_,λ_=>.inl (by rw[uL];exact h),zaZ _,.inl ⟨O,A,?_,f⟩⟩;rcases zad.mp N with z|z
  exact m y z;rw[zab.mp z];exact w;rw[qB,g];have c:bC (b,r) (.put x)=(b,(r.1++x,r.2.1,r.2.2)):=by show(if x="" then _ else if 0<r.2.2 then _ else _)=_;rw[if_neg h,if_neg w]
  rw[c];rcases l with⟨k,A,g,f⟩|⟨k,_⟩
  refine⟨m,λ_=>.inl ?_,E,.inl ⟨k,A,?_,f⟩⟩;intro z;have:=congrArg Str.length z;rw[lT] at this;have K:(Str.ofString "").length=0:=O;have I:x.length=0:=by lia
  exact h<|jC (by rw[zaE.mp I];rfl);rw[qB,g];exact (zcm _ (zcn k (zco w))).elim
 |cut x=>
  show Rel (q,u,d++[x]) (bC (b,r)<|.cut x);by_cases h:x="";have c:bC (b,r) (.cut x)=(b,r):=if_pos h;rw[c];refine⟨m,G,E,?_⟩;have e:cat (d++[x])=cat d:=by rw[qB,h];exact Mj _
  show _\/_;simp only[e];exact l;by_cases w:0<r.2.2;have c:bC (b,r) (.cut x)=(b++[r],((Str.ofString "",Str.ofString ""++x,0):Row)):=by show(if x="" then _ else if 0<r.2.2 then _ else _)=_;rw[if_neg h,if_pos w]
  rw[c];rcases l with⟨k,_⟩|⟨_,A,g,f⟩
  lia;refine⟨λy N=>?_,λ_=>.inr (by rw[uL];exact h),zaZ _,.inl ⟨O,A,g,?_⟩⟩;rcases zad.mp N with z|z
  exact m y z;rw[zab.mp z];exact w;rw[qB,f];have c:bC (b,r) (.cut x)=(b,(r.1,r.2.1++x,r.2.2)):=by show(if x="" then _ else if 0<r.2.2 then _ else _)=_;rw[if_neg h,if_neg w]
  rw[c];rcases l with⟨k,A,g,f⟩|⟨k,_⟩
  refine⟨m,λ_=>.inr ?_,E,.inl ⟨k,A,g,?_⟩⟩;intro z;have:=congrArg Str.length z;rw[lT] at this;have K:(Str.ofString "").length=0:=O;rw[K] at this;have I:x.length=0:=by lia
  exact h<|jC (by rw[len_list] at I;rw[zaE.mp I];rfl);rw[qB,f];exact (zcm _ (zcn k (zco w))).elim
theorem ML:∀(b:List Pt)(s:NS)(t:List Row×Row),Rel s t->(∀p∈b,fU p)->Rel (b.foldl dF s) (b.foldl bC t)
 |[],s,t,R,_=>R
 |p::r,s,t,R,h=>ML r _ _ (abB R<|h p zau) λq c=>h q (zar _ c)
theorem abC(b:List Pt)(h:∀p∈b,fU p):Rel (b.foldl dF ([],[],[])) (b.foldl bC ([],((Str.ofString "",Str.ofString "",0):Row))):=
 ML b _ _ ⟨nofun,λz=>absurd O z,zaZ _,.inl ⟨O,O,O,O⟩⟩ h
theorem xa(b:List Pt)(h:∀p∈b,fU p):jj b=fV b:=by
 obtain⟨m,l,g,r⟩:=qa4 (abC b h);show eF _ _ _=cO (_++[_]);unfold eF;rcases r with⟨k,c,f,d⟩|⟨k,c,f,d⟩
 rw[c,f,d,Aw,w_,MJ k];simp;rw[c,f,d,txt_nil,txt_nil];simp
def sg(x:Str):Prop:= ∀c∈x.cps.toList,SG.cps.contains c=true
theorem Ax(a:sg x)(b:sg y):sg (x++y):=λc h=>by
 rw[app_list] at h;rcases zad.mp h with z|z
 exact a c z;exact b c z
theorem qD:sg (Str.ofString ""):=λc h=>by cases h
def lU(r:Row):Nat:=r.1.length+r.2.1.length
structure RI(n:Nat)(t:List Row×Row):Prop where
 pos:∀x∈t.1,0<x.2.2
 nn:0<=t.2.2.2
 s1:∀x∈t.1++[t.2],sg x.1/\sg x.2.1
 tl:∀x∈ (t.1++[t.2]).tail,x.1≠""\/x.2.1≠""
 aB:((t.1++[t.2]).map lU).sum=n
theorem MM{x:Str}(h:x≠""):x++y≠"":=λz=>by
 have:=congrArg Str.length z;rw[lT] at this;have l:(Str.ofString "").length=0:=O;have q:x.length=0:=by lia
 exact h<|jC (by rw[zaE.mp q];rfl)
theorem MN{c:Type}(l:List c)(a:c):(l++[a]).tail=if l=[] then [] else l.tail++[a]:=by
 cases l with
 |nil=>rfl
 |cons b r=>simp
theorem E5{p:List Row}{r r':Row}(I:RI n (p,r))(f:0<=r'.2.2)(d:sg r'.1/\sg r'.2.1)(c:(r.1≠""->r'.1≠"")/\(r.2.1≠""->r'.2.1≠""))(g:lU r'=lU r+m):RI (n+m) (p,r'):=by
 refine⟨I.pos,f,λx h=>?_,λx h=>?_,?_⟩;rcases zad.mp h with z|z
 exact I.s1 x (zav _ z);rw[zab.mp z];exact d;have t:=I.tl;rw[MN] at h t;by_cases b:p=[];rw[if_pos b] at h;cases h;rw[if_neg b] at h t;rcases zad.mp h with z|z
 exact t x (zav _ z);rw[zab.mp z];rcases t r (by simp) with q|q
 exact .inl (c.1 q);exact .inr (c.2 q);have:=I.aB;simp at this⊢;lia
theorem MO{p:List Row}{r r':Row}(I:RI n (p,r))(k:0<r.2.2)(d:0<=r'.2.2)(c:sg r'.1/\sg r'.2.1)(b:r'.1≠""\/r'.2.1≠"")(f:lU r'=m):RI (n+m) (p++[r],r'):=by
 refine⟨λx h=>?_,d,λx h=>?_,λx h=>?_,?_⟩;rcases zad.mp h with z|z
 exact I.pos x z;rw[zab.mp z];exact k;rcases zad.mp h with z|z
 exact I.s1 x z;rw[zab.mp z];exact c;have t:=I.tl;rw[MN,if_neg (by simp)] at h;rcases zad.mp h with z|z
 exact t x z;rw[zab.mp z];exact b;have:=I.aB;simp at this⊢;lia
theorem abD(I:RI n t)(f:fU p):RI (n+fo p) (bC t p):=by
 obtain⟨b,r⟩:=t;have d:=I.s1 r (by simp);have P:=I.nn;have q:(Str.ofString "").length=0:=O;cases p with
 |keep m=>exact E5 I (by have:0<=m:=f;lia) d ⟨λz=>z,λz=>z⟩ O
 |put x=>
  have g:=f.1.2;by_cases h:x="";have c:bC (b,r) (.put x)=(b,r):=if_pos h;have l:fo (.put x)=0:=h▸rfl;rw[c,l];exact I;by_cases k:0<r.2.2;have c:bC (b,r) (.put x)=(b++[r],((Str.ofString ""++x,Str.ofString "",0):Row)):=by show(if x="" then _ else if 0<r.2.2 then _ else _)=_;rw[if_neg h,if_pos k]
  rw[c];refine MO I k (zaZ _) ⟨Ax qD g,qD⟩ (.inl (by rw[uL];exact h)) ?_;show(Str.ofString ""++x).length+(Str.ofString "").length=x.length;rw[lT];lia;have c:bC (b,r) (.put x)=(b,(r.1++x,r.2.1,r.2.2)):=by show(if x="" then _ else if 0<r.2.2 then _ else _)=_;rw[if_neg h,if_neg k]
  rw[c];refine E5 I P ⟨Ax d.1 g,d.2⟩ ⟨MM,λz=>z⟩ ?_;show(r.1++x).length+r.2.1.length=r.1.length+r.2.1.length+x.length;rw[lT];lia
 |cut x=>
  have g:=f.1.2;by_cases h:x="";have c:bC (b,r) (.cut x)=(b,r):=if_pos h;have l:fo (.cut x)=0:=h▸rfl;rw[c,l];exact I;by_cases k:0<r.2.2;have c:bC (b,r) (.cut x)=(b++[r],((Str.ofString "",Str.ofString ""++x,0):Row)):=by show(if x="" then _ else if 0<r.2.2 then _ else _)=_;rw[if_neg h,if_pos k]
  rw[c];refine MO I k (zaZ _) ⟨qD,Ax qD g⟩ (.inr (by rw[uL];exact h)) ?_;show(Str.ofString "").length+(Str.ofString ""++x).length=x.length;rw[lT,q];lia;have c:bC (b,r) (.cut x)=(b,(r.1,r.2.1++x,r.2.2)):=by show(if x="" then _ else if 0<r.2.2 then _ else _)=_;rw[if_neg h,if_neg k]
  rw[c];refine E5 I P ⟨d.1,Ax d.2 g⟩ ⟨λz=>z,MM⟩ ?_;show r.1.length+(r.2.1++x).length=r.1.length+r.2.1.length+x.length;rw[lT];lia
theorem E6:∀(b:List Pt)(n:Nat)(t:List Row×Row),RI n t->(∀p∈b,fU p)->RI (n+aB b) (b.foldl bC t)
 |[],n,t,I,_=>I
 |p::r,n,t,I,h=>by
  have:=E6 r _ _ (abD I<|h p zau) λq c=>h q (zar _ c);have e:n+fo p+aB r=n+aB (p::r):=by show _=n+(fo p+aB r);exact Nat.add_assoc _ _ _
  rw[e] at this;exact this
theorem MQ{r:Row}{a:Str}{rest:List Pt}(d:a=""\/(a="keep"/\(r.1≠""\/r.2.1≠"")))(k:0<r.2.2)(h:chainOk "keep" rest=true):chainOk a (eU r++rest)=true:=by
 rw[E4 k];by_cases c:r.1="" <;>by_cases b:r.2.1=""
 rw[c,b];rcases d with rfl|⟨_,z|z⟩
 exact h;exact absurd c z;exact absurd b z;rw[c,kI b];rcases d with rfl|⟨rfl,_⟩ <;>exact h
 rw[b,kI c];rcases d with rfl|⟨rfl,_⟩ <;>exact h
 rw[kI c,kI b];rcases d with rfl|⟨rfl,_⟩ <;>exact h
theorem chain_last{r:Row}{a:Str}(h:a=""\/(a="keep"/\(r.1≠""\/r.2.1≠"")))(k:0<=r.2.2):chainOk a (eU r)=true:=by
 by_cases d:0<r.2.2;have:=MQ (rest:=[]) h d O;rw[zae] at this;exact this;rw[MJ (by lia)];by_cases c:r.1="" <;>by_cases b:r.2.1=""
 rw[c,b];rfl;rw[c,kI b];rcases h with rfl|⟨rfl,_⟩ <;>rfl
 rw[b,kI c];rcases h with rfl|⟨rfl,_⟩ <;>rfl
 rw[kI c,kI b];rcases h with rfl|⟨rfl,_⟩ <;>rfl
theorem MR:∀(p:List Row)(r:Row)(a:Str),(∀x∈p,0<x.2.2)->0<=r.2.2->(a=""\/(a="keep"/\∀x,(p++[r]).head?=some x->x.1≠""\/x.2.1≠""))->(∀x∈ (p++[r]).tail,x.1≠""\/x.2.1≠"")->
  chainOk a (cO<|p++[r])=true
 |[],r,a,_,k,b,_=>by
  rw[zbP,w_];exact chain_last (b.imp id λ⟨x,y⟩=>⟨x,y r O⟩) k
 |q::p,r,a,c,k,b,t=>by
  exact MQ (b.imp id λ⟨x,y⟩=>⟨x,y q O⟩) (c q zau) (MR p r "keep" (λx h=>c x<|zar _ h) k (.inr ⟨O,λx h=>t x (List.mem_of_mem_head? h)⟩) λx h=>t x (zcg h))
theorem abE(b:sg r.1/\sg r.2.1)(l:lU r<=1000000)(k:0<=r.2.2)(h:p∈eU r):bA p:=by
 unfold eU txt at h;unfold lU at l;rcases zad.mp h with h|h
 rcases zad.mp h with h|h
 split at h;cases h;rename_i ne;rw[zab.mp h];exact⟨⟨zat (zbf _ _) l,b.1⟩,ne⟩;split at h;cases h;rename_i ne;rw[zab.mp h];exact⟨⟨zat (za0 _ _) l,b.2⟩,ne⟩;split at h;cases h;rw[zab.mp h];show 1<=r.2.2;lia
theorem abF(r:Row):aB (eU r)=lU r:=by
 have c:∀(m:Str->Pt)(x:Str),(∀y,fo (m y)=y.length)->aB (txt m x)=x.length:=by
  intro m x h;unfold txt;by_cases e:x="";rw[e];rfl;rw[if_neg e];show fo (m x)+0=_;rw[h,Nat.add_zero]
 have t:∀a b:List Pt,aB (a++b)=aB a+aB b:=λa b=>by simp[aB]
 unfold eU lU;rw[t,t,c .put _ λ_=>O,c .cut _ λ_=>O];split;rfl;rfl
theorem E7:∀c:List Row,aB (cO c)=(c.map lU).sum
 |[]=>O
 |r::c=>by
  have e:cO (r::c)=eU r++cO c:=O;have t:∀a b:List Pt,aB (a++b)=aB a+aB b:=λa b=>by simp[aB]
  rw[e,t,abF,E7 c];rfl
theorem abG{l:List Row}{x:Row}(h:x∈l):lU x<= (l.map lU).sum:=by
 induction l with
 |nil=>cases h
 |cons a l b=>
  rw[zaz,zbE];rcases zac.mp h with rfl|h
  exact zbf _ _;lia
theorem Ay(b:List Pt)(h:∀p∈b,fU p)(ht:aB b<=100000):chainOk "" (fV b)=true/\(∀p∈fV b,bA p)/\aB (fV b)<=100000:=by
 have I:=E6 b 0 ([],((Str.ofString "",Str.ofString "",0):Row)) ⟨nofun,zaZ _,(λx c=>by rw[zab.mp c];exact⟨qD,qD⟩),nofun,O⟩ h;rw[Nat.zero_add] at I;have e:fV b=cO ((b.foldl bC ([],((Str.ofString "",Str.ofString "",0):Row))).1++[(b.foldl bC ([],((Str.ofString "",Str.ofString "",0):Row))).2]):=O;rw[e];generalize b.foldl bC ([],((Str.ofString "",Str.ofString "",0):Row))=t at I;refine⟨MR t.1 t.2 "" I.pos I.nn (.inl O) I.tl,λp d=>?_,by rw[E7,I.aB];exact ht⟩;unfold cO at d;rw[List.mem_flatten] at d;obtain⟨l,g,d⟩:=d;obtain⟨x,c,rfl⟩:=zbt.mp g;have f:=abG c;rw[I.aB] at f;refine abE (I.s1 x c) (by lia) ?_ d;rcases zad.mp c with z|z
 have:=I.pos x z;exact zcl this;rw[zab.mp z];exact I.nn
theorem xb(b:List Pt):(jj b).length<=3*b.length+2:=by
 have m:∀(l:List Pt)(s:NS),(l.foldl dF s).1.length<=s.1.length+3*l.length:=by
  intro l;induction l with
  |nil=>intro s;simp
  |cons p l g=>
   intro s;have f:=g (dF s p);have k:(dF s p).1.length<=s.1.length+3:=by
    obtain⟨c,u,d⟩:=s;cases p with
    |keep n=>
     by_cases h:0<n;have q:dF (c,u,d) (.keep n)=(fk (eF c u d) n,[],[]):=if_pos h;have:=Al c u d;have:=Ms (eF c u d) n;lia;have q:dF (c,u,d) (.keep n)=(c,u,d):=if_neg h;lia
    |put x=>show c.length<=c.length+3;exact zbf _ _
    |cut x=>show c.length<=c.length+3;exact zbf _ _
   rw[zbC,zao];lia
 have f:=m b ([],[],[]);have k:=Al (b.foldl dF ([],[],[])).1 (b.foldl dF ([],[],[])).2.1 (b.foldl dF ([],[],[])).2.2;show(eF _ _ _).length<=_;simp at f;exact zat k (za9 f _)
def MS:Pt->Prop|.keep _=>True|.put s=>sg s|.cut s=>sg s
def Pt.qE:Pt->Pt|.keep n=>.keep n|.put s=>.cut s|.cut s=>.put s
noncomputable def dC(p:List Pt):List Pt:=p.map Pt.qE
theorem abH(h:∀p∈b,fU p):∀p∈dC b,fU p:=by
 intro p d;obtain⟨q,c,rfl⟩:=zbt.mp d;have:=h q c;cases q<;>exact this
theorem E8(b:List Pt):aB (dC b)=aB b:=by
 unfold aB dC;rw[zbb];congr 1;refine zbD λp _=>?_;cases p<;>rfl
theorem abI(b:List Pt)(h:∀p∈b,fU p):RI (aB b) (b.foldl bC ([],((Str.ofString "",Str.ofString "",0):Row))):=by
 have I:=E6 b 0 ([],((Str.ofString "",Str.ofString "",0):Row)) ⟨nofun,zaZ _,(λx c=>by rw[zab.mp c];exact⟨qD,qD⟩),nofun,O⟩ h
 rwa [Nat.zero_add] at I
theorem abJ(h:bA p)(ht:fo p<=100000):fU p:=by
 cases p with
 |keep n=>exact Int.le_trans (za6 _) (show(1:Int)<=n from h)
 |put s=>exact⟨h.1,ht⟩
 |cut s=>exact⟨h.1,ht⟩
theorem abK(h:p∈b):fo p<=aB b:=by
 induction b with
 |nil=>cases h
 |cons q b c=>
  have e:aB (q::b)=fo q+aB b:=O;rcases zac.mp h with rfl|h
  lia;lia
theorem E9(h:∀p∈b,bA p)(ht:aB b<=100000):∀p∈b,fU p:=λp c=>abJ (h p c) (zat (abK c) ht)
inductive Run:List Nat->List Pt->List Nat->Prop
 |nil:Run [] [] []
 |keep {a l r:List Nat}{n:Int}{p:List Pt}:n=a.length->Run l p r->Run (a++l) (.keep n::p) (a++r)
 |put {s:Str}{l r:List Nat}{p:List Pt}:Run l p r->Run l (.put s::p) (s.cps.toList++r)
 |cut {s:Str}{l r:List Nat}{p:List Pt}:Run l p r->Run (s.cps.toList++l) (.cut s::p) r
theorem Run.qE{p:List Pt}(h:Run l p r):Run r (dC p) l:=by
 induction h with
 |nil=>exact .nil
 |keep e _ b=>exact .keep e b
 |put _ b=>exact .cut b
 |cut _ b=>exact .put b
theorem Run.app{r r':List Nat}{p q:List Pt}(h:Run l p r)(d:Run c q r'):Run (l++c) (p++q) (r++r'):=by
 induction h with
 |nil=>exact d
 |keep e _ b=>rw[zam,zam];exact .keep e b
 |put _ b=>rw[zam];exact .put b
 |cut _ b=>rw[zam];exact .cut b
theorem Run.over{p:List Pt}(h:Run l p r):(overOf p).sum=l.length:=by
 induction h with
 |nil=>rfl
 | @keep a l r n p e _ b=>
  have c:overOf (.keep n::p)=n::overOf p:=O;rw[c,zbE,b,e];simp
 | @put s l r p _ b=>
  have c:overOf (.put s::p)=overOf p:=O;rw[c,b]
 | @cut s l r p _ b=>
  have c:overOf (.cut s::p)=(s.length:Int)::overOf p:=O;rw[c,zbE,b,len_list];simp
def sQ(r:Row)(l q:List Nat):Prop:= ∃k:List Nat,r.2.2=k.length/\l=r.2.1.cps.toList++k/\q=r.1.cps.toList++k
inductive oZ:List Row->List Nat->List Nat->Prop
 |nil:oZ [] [] []
 |snoc {rs:List Row}{r:Row}{l q d b:List Nat}:oZ rs l q->sQ r d b->oZ (rs++[r]) (l++d) (q++b)
theorem MT:Run [] (txt .put s) s.cps.toList:=by
 by_cases h:s="";rw[h];exact .nil;rw[kI h];have:=Run.put (s:=s) Run.nil
 rwa [zae] at this
theorem abL:Run s.cps.toList (txt .cut s) []:=by
 have:=(MT (s:=s)).qE;have e:dC (txt .put s)=txt .cut s:=by
  unfold txt;split<;>rfl
 rwa [e] at this
theorem sQ.run(h:sQ r l q):Run l (eU r) q:=by
 obtain⟨k,b,rfl,rfl⟩:=h;have c:Run k (if r.2.2=0 then [] else [.keep r.2.2]) k:=by
  split;rename_i h;have:k=[]:=zaE.mp (by lia);rw[this];exact .nil;have:=Run.keep b Run.nil
  rwa [zae] at this
 have:=((MT (s:=r.1)).app<|abL (s:=r.2.1)).app c;simpa[eU] using this
theorem oZ.run(h:oZ rs l q):Run l (cO rs) q:=by
 induction h with
 |nil=>exact .nil
 |snoc _ c b=>rw[Aw,w_];exact b.app c.run
def One:Pt->List Nat->List Nat->Prop
 |.keep n,l,q=>l=q/\n=l.length
 |.put s,l,q=>l=[]/\q=s.cps.toList
 |.cut s,l,q=>l=s.cps.toList/\q=[]
theorem MU{l q:List Nat}{d:List Pt}(h:Run l (p::d) q):∃l1 l2 c b,l=l1++l2/\q=c++b/\Run l2 d b/\
  One p l1 c:=by
 cases h with
 |keep e h=>exact⟨_,_,_,_,O,O,h,O,e⟩
 |put h=>exact⟨[],_,_,_,O,O,h,O,O⟩
 |cut h=>exact⟨_,_,[],_,O,O,h,O,O⟩
theorem abM{p:Pt}{l q l1 g l2 t:List Nat}(f:oZ b l q)(d:sQ r l1 g)(m:One p l2 t):
  ∃R S V u,oZ (bC (b,r) p).1 R S/\sQ (bC (b,r) p).2 V u/\l++l1++l2=R++V/\q++g++t=S++u:=by
 cases p with
 |keep n=>
  obtain⟨rfl,rfl⟩:=m;obtain⟨k,c,rfl,rfl⟩:=d;refine⟨l,q,_,_,f,⟨k++l2,?_,O,O⟩,by simp[bC],by simp[bC]⟩;show r.2.2+(l2.length:Int)=_;rw[c];simp
 |put s=>
  obtain⟨rfl,rfl⟩:=m;by_cases h:s="";have e:bC (b,r) (.put s)=(b,r):=by simp only[bC,if_pos h]
  rw[e];refine⟨l,q,l1,g,f,d,by simp,?_⟩;rw[h];rw[ofString_empty];simp;by_cases c:0<r.2.2;have e:bC (b,r) (.put s)=(b++[r],((Str.ofString ""++s,"",0):Row)):=by simp only[bC,if_neg h,if_pos c]
  rw[e];refine⟨_,_,[],s.cps.toList,f.snoc d,⟨[],O,O,?_⟩,O,O⟩;rw[uL];simp;have e:bC (b,r) (.put s)=(b,(r.1++s,r.2.1,r.2.2)):=by simp only[bC,if_neg h,if_neg c]
  rw[e];obtain⟨k,w,rfl,rfl⟩:=d;have:k=[]:=zaE.mp (by lia);subst this;refine⟨l,q,r.2.1.cps.toList,r.1.cps.toList++s.cps.toList,f,⟨[],w,by simp,by simp[app_list]⟩,by simp,by simp⟩
 |cut s=>
  obtain⟨rfl,rfl⟩:=m;by_cases h:s="";have e:bC (b,r) (.cut s)=(b,r):=by simp only[bC,if_pos h]
  rw[e];refine⟨l,q,l1,g,f,d,?_,by simp⟩;rw[h];rw[ofString_empty];simp;by_cases c:0<r.2.2;have e:bC (b,r) (.cut s)=(b++[r],(("",Str.ofString ""++s,0):Row)):=by simp only[bC,if_neg h,if_pos c]
  rw[e];refine⟨_,_,s.cps.toList,[],f.snoc d,⟨[],O,?_,O⟩,O,O⟩;rw[uL];simp;have e:bC (b,r) (.cut s)=(b,(r.1,r.2.1++s,r.2.2)):=by simp only[bC,if_neg h,if_neg c]
  rw[e];obtain⟨k,w,rfl,rfl⟩:=d;have:k=[]:=zaE.mp (by lia);subst this;refine⟨l,q,r.2.1.cps.toList++s.cps.toList,r.1.cps.toList,f,⟨[],w,by simp[app_list],by simp⟩,by simp,by simp⟩
theorem MV:∀(ps:List Pt)(pre:List Row)(r:Row)(l0 q0 l1 q1 l2 q2:List Nat),oZ pre l0 q0->sQ r l1 q1->Run l2 ps q2->∃sR sS lV mS,oZ (ps.foldl bC (pre,r)).1 sR sS/\sQ (ps.foldl bC (pre,r)).2 lV mS/\l0++l1++l2=sR++lV/\q0++q1++q2=sS++mS:=by
 intro ps;induction ps with
 |nil=>
  intro pre r l0 q0 l1 q1 l2 q2 h0 h1 h2;cases h2;exact⟨l0,q0,l1,q1,h0,h1,by simp,by simp⟩
 |cons p ps ih=>
  intro pre r l0 q0 l1 q1 l2 q2 h0 h1 h2;obtain⟨a,b,c,d,rfl,rfl,h3,h4⟩:=MU h2;obtain⟨sR,sS,lV,mS,g0,g1,e1,e2⟩:=abM h0 h1 h4;obtain⟨abN,abO,abP,abQ,f0,f1,e3,e4⟩:=ih _ _ sR sS lV mS b d g0 g1 h3;refine⟨abN,abO,abP,abQ,f0,f1,?_,?_⟩;rw[<-e3,<-e1];simp;rw[<-e4,<-e2];simp
theorem Az{l q:List Nat}(h:Run l p q):Run l (fV p) q:=by
 obtain⟨m,k,l1,g,c,b,f,d⟩:=MV p [] ("","",0) [] [] [] [] l q .nil ⟨[],O,O,O⟩ h;have:=(c.snoc b).run;rw[<-f,<-d] at this;exact this
inductive E_(vs:List V)(H:Hp)(Q:VK)(E:XK):Prop|i(c:_)(_:vs=[.int c])(_:∀n,0<=n->n<=400->Q (.int n) H)
theorem abR{K:Frag}(vs:List V)(H:Hp)(Q:VK)(E:XK)(h:E_ vs H Q E):az (aI K [] [] (E:=E)) Ll {nx:=λ_ H'=>Q .aD H',rt:=Q} (start Lk vs) H:=by
 obtain⟨c,rfl,q⟩:=h;refine⟨_,O,by lia,_,O,?_⟩;refine gG (λ_=>?_)<|λ_=>?_;exact⟨_,O,⟨by lia,by lia⟩,by lia,q _ (zaL _ (by lia)) (by lia)⟩;exact⟨_,O,⟨by lia,by lia⟩,by lia,q _ (zaL _ (by lia)) (by lia)⟩
noncomputable def WB:List (Key×V):=[(.inr "keep",.str "keep"),(.inr "cut",.str "put"),(.inr "put",.str "cut")]
abbrev abS:List (Str×Sp):=[("need_change",EO),("neat",lR)]
inductive o7(vs:List V)(H:Hp)(Q:VK)(E:XK):Prop|i(a xs c:_)(_:vs=[.ref a])(_:H a=some (.lst xs))(_:aQ H xs c)(_:(∀p∈c,bA p))(_:chainOk "" c=true)(_:c.length<=100000)(_:aB c<=100000)(_:∀b H' ys,ay H H'->H b=none->H' b=some (.lst ys)->aQ H' ys (jj<|dC c)->Q (.ref b) H')
theorem abT{K:Frag}{p:Addr}(vs:List V)(H:Hp)(Q:VK)(E:XK)(h:o7 vs H Q E):az (aI K abS [("WAYS_BACK",.ref p)] [(p,WB)] (E:=E)) Ld {nx:=λ_ H'=>Q .aD H',rt:=Q} (start Lc vs) H:=by
 obtain⟨a,xs,d,rfl,l,G,aG,cU,hl,U,q⟩:=h;refine⟨_,O,a,xs,d,O,l,G,aG,cU,λH1 I=>?_⟩;have k:=Paired.length G;refine⟨_,O,a,O,⟨_,au.of<|I _ _ l⟩,λi m r H2=>m=xs.length - i/\i<=xs.length/\ay H H2/\aQ H2 r (dC<|d.take i),⟨_,O,zqZ _,I,.nil⟩,?_⟩;rintro i m r H2 ⟨rfl,hi,f,u⟩;by_cases P:i<xs.length;refine .inr ⟨⟨xs,xs[i],au.of<|f _ _ l,by simp⟩,?_⟩;rintro x R ⟨rfl,F⟩;obtain⟨g,W,Z⟩:=G.get (F xs (au.of<|f _ _ l));obtain⟨b,rfl,A⟩:=Z.mono (dg f);have Au:=Paired.length u;have J:oE WB (.inr g.word)=some (.str g.qE.word):=by
  cases g<;>first|rfl| (decide+kernel)
 refine⟨b,_,O,aJ.of A,O,_,O,.inr<|.inr<|.inr ⟨p,WB,.inr g.word,_,O,O,zab.2 O,J,⟨_,O,by show 2<=sizeLine;decide,λt N=>⟨?_,xs.length - (i+1),by lia,O,P,f.trans<|sameNew N,?_⟩⟩⟩⟩;have:(dC<|d.take i).length=i:=by simp[dC];lia
 exact dr (by lia);have e:dC (d.take<|i+1)=dC (d.take i)++[g.qE]:=by
  rw[zbw,W];simp[dC]
 rw[e];refine(u.mono<|dg<|sameNew N).snoc ⟨t,O,?_⟩;rw[ar];cases g<;>rfl
 have gI:i=xs.length:=za5 hi (za4 P)
 subst gI;refine .inl ⟨⟨xs,au.of<|f _ _ l,zqR _⟩,λb A=>?_⟩;have e:dC (d.take xs.length)=dC d:=by rw[k,zbu]
 rw[e] at u;have w:=sameNew (o:=.lst r) A;refine⟨b,r,dC d,O,ar,u.mono<|dg w,by simp[dC];exact zat hl (za0 _ _),by rw[E8];exact U,λc R S X Y h3 B=>?_⟩;exact q c R S (f.trans<|w.trans X) ((f.trans w).free Y) h3 B
theorem Fb{a b c:List Nat}(h:x.cps.toList=a++(b++c))(n:Int)(g:n=b.length):oA x (some (a.length:Int)) (some<|(a.length:Int)+n)=⟨b.toArray⟩:=by
 have f:(a.length:Int)+n=((a.length+b.length:Nat):Int):=by lia
 unfold oA oz;rw[f,HT.rM,HT.rM,h];have l1:(a++(b++c)).length=a.length+(b.length+c.length):=by simp
 rw[l1];have d:min a.length (a.length+(b.length+c.length))=a.length:=by lia
 have m:min (a.length+b.length) (a.length+(b.length+c.length))=a.length+b.length:=by lia
 rw[d,m,List.drop_left,show a.length+b.length - a.length=b.length by lia,List.take_left]
theorem AA(x:Str):(⟨x.cps.toList.toArray⟩:Str)=x:=O
theorem abU(j:Int)(b:0<=j)(h:j<6):∃n:Int,gE [V.int 1,V.int 2,V.int 0,V.int 3,V.int 5,V.int 40] j=some (.int n)/\0<=n/\n<=40:=by
 obtain rfl|rfl|rfl|rfl|rfl|rfl:j=0\/j=1\/j=2\/j=3\/j=4\/j=5:=by lia
 all_goals exact⟨_,O,by lia,by lia⟩
theorem Fc(a b:List Pt):aB (a++b)=aB a+aB b:=by simp[aB]
abbrev abV:List (Str×Sp):=[("_law_mixed",EK),("_law_text",Ao)]
theorem xf(b:List Pt)(h:∀p∈b,fU p):aB (fV b)=aB b:=by
 have e:fV b=cO ((b.foldl bC ([],((Str.ofString "",Str.ofString "",0):Row))).1++[(b.foldl bC ([],((Str.ofString "",Str.ofString "",0):Row))).2]):=O;rw[e,E7,(abI b h).aB]
inductive At where|K|P (c:Nat)|C (c:Nat)
 deriving DecidableEq
abbrev Form:=List Nat×List Nat×List (List Nat×List Nat)
noncomputable def nb:List At->Form
 |[]=>([],[],[])
 |.P c::xs=>(c::(nb xs).1,(nb xs).2.1,(nb xs).2.2)
 |.C c::xs=>((nb xs).1,c::(nb xs).2.1,(nb xs).2.2)
 |.K::xs=>([],[],((nb xs).1,(nb xs).2.1)::(nb xs).2.2)
def fit:List Nat->List At->Prop
 |l,[]=>l=[]
 |l,.P _::xs=>fit l xs
 |[],.K::_=>False
 |_::l,.K::xs=>fit l xs
 |[],.C _::_=>False
 |a::l,.C c::xs=>a=c/\fit l xs
abbrev Sg:=Sum Nat Nat
noncomputable def res(i:Nat):List At->List Sg
 |[]=>[]
 |.P c::xs=>.inr c::res i xs
 |.K::xs=>.inl i::res (i+1) xs
 |.C _::xs=>res (i+1) xs
theorem sT:∀(xs:List At)(i j:Nat),Sum.inl j∈res i xs->i<=j
 |[],i,j,h=>by cases h
 |.P c::xs,i,j,h=>by
  rcases zac.mp h with z|z
  cases z;exact sT xs i j z
 |.K::xs,i,j,h=>by
  rcases zac.mp h with z|z
  cases z;exact zqR _;have:=sT xs (i+1) j z;exact zcj this
 |.C c::xs,i,j,h=>by have:=sT xs (i+1) j h;exact zcj this
noncomputable def out:List Nat->List At->List Nat
 |l,[]=>[]
 |l,.P c::xs=>c::out l xs
 |[],.K::xs=>out [] xs
 |a::l,.K::xs=>a::out l xs
 |[],.C _::xs=>out [] xs
 |_::l,.C _::xs=>out l xs
inductive cH:List At->List At->List At->Prop
 |nil:cH [] [] []
 |p {c xs ys b}:cH xs ys b->cH xs (.P c::ys) (.P c::b)
 |c {c xs ys b}:cH xs ys b->cH (.C c::xs) ys (.C c::b)
 |kk {xs ys b}:cH xs ys b->cH (.K::xs) (.K::ys) (.K::b)
 |kc {c xs ys b}:cH xs ys b->cH (.K::xs) (.C c::ys) (.C c::b)
 |pk {c xs ys b}:cH xs ys b->cH (.P c::xs) (.K::ys) (.P c::b)
 |pc {c xs ys b}:cH xs ys b->cH (.P c::xs) (.C c::ys) b
def sb(r:List Sg)(k:Nat):Sg->Sg
 |.inr c=>.inr c
 |.inl j=>r.getD (j - k) (.inr 0)
noncomputable def sub(r:List Sg)(k:Nat)(t:List Sg):List Sg:=t.map (sb r k)
theorem AB(x:Sg)(r:List Sg)(k:Nat)(t:List Sg)(h:∀j,Sum.inl j∈t->k+1<=j):sub (x::r) k t=sub r (k+1) t:=by
 refine zbD λy b=>?_;cases y with
 |inr c=>rfl
 |inl j=>
  have:=h j b;simp only[sb];rw[show j - k=(j - (k+1))+1 by lia,List.getD_cons_succ]
theorem abW{xs ys f:List At}(h:cH xs ys f):∀(l:List Nat)(i k:Nat),fit l xs->fit (out l xs) ys->fit l f/\out l f=out (out l xs) ys/\res i f=sub (res i xs) k (res k ys):=by
 induction h with
 |nil=>intro l i k g m;exact⟨g,O,O⟩
 | @p c xs ys f _ q=>
  intro l i k g m;obtain⟨a,b,d⟩:=q l i k g m;refine⟨a,?_,?_⟩;show c::out l f=c::out (out l xs) ys;rw[b];show Sum.inr c::res i f=_;rw[d];rfl
 | @c c xs ys f _ q=>
  intro l i k g m;cases l with
  |nil=>exact g.elim
  |cons a l=>
   obtain⟨rfl,g⟩:=g;obtain⟨u,t,r⟩:=q l (i+1) k g m;exact⟨⟨O,u⟩,t,r⟩
 | @kk xs ys f _ q=>
  intro l i k g m;cases l with
  |nil=>exact g.elim
  |cons a l=>
   obtain⟨u,t,r⟩:=q l (i+1) (k+1) g m;refine⟨u,?_,?_⟩;show a::out l f=a::out (out l xs) ys;rw[t];show Sum.inl i::res (i+1) f=sub (Sum.inl i::res (i+1) xs) k (Sum.inl k::res (k+1) ys);rw[r];show _=sb (Sum.inl i::res (i+1) xs) k (Sum.inl k)::sub (Sum.inl i::res (i+1) xs) k (res (k+1) ys);rw[AB _ _ _ _ λj w=>sT ys (k+1) j w];simp only[sb];rw[zbm,List.getD_cons_zero]
 | @kc c xs ys f _ q=>
  intro l i k g m;cases l with
  |nil=>exact g.elim
  |cons a l=>
   obtain⟨rfl,m⟩:=m;obtain⟨u,t,r⟩:=q l (i+1) (k+1) g m;refine⟨⟨O,u⟩,t,?_⟩;show res (i+1) f=sub (Sum.inl i::res (i+1) xs) k (res (k+1) ys);rw[r,AB _ _ _ _ λj w=>sT ys (k+1) j w]
 | @pk c xs ys f _ q=>
  intro l i k g m;obtain⟨u,t,r⟩:=q l i (k+1) g m;refine⟨u,?_,?_⟩;show c::out l f=c::out (out l xs) ys;rw[t];show Sum.inr c::res i f=sub (Sum.inr c::res i xs) k (Sum.inl k::res (k+1) ys);rw[r];show _=sb (Sum.inr c::res i xs) k (Sum.inl k)::sub (Sum.inr c::res i xs) k (res (k+1) ys);rw[AB _ _ _ _ λj w=>sT ys (k+1) j w];simp only[sb];rw[zbm,List.getD_cons_zero]
 | @pc c xs ys f _ q=>
  intro l i k g m;obtain⟨_,m⟩:=m;obtain⟨u,t,r⟩:=q l i (k+1) g m;refine⟨u,t,?_⟩;show res i f=sub (Sum.inr c::res i xs) k (res (k+1) ys);rw[r,AB _ _ _ _ λj w=>sT ys (k+1) j w]
def sw:At->At|.K=>.K|.P c=>.C c|.C c=>.P c
noncomputable def m_:Nat->List Nat->List Nat->List (List Nat×List Nat)->List Sg
 |i,p,q,[]=>p.map .inr
 |i,p,q,(c,b)::r=>p.map .inr++ .inl (i+q.length)::m_ (i+q.length+1) c b r
theorem abX(c:Nat):∀(r:List (List Nat×List Nat))(i:Nat)(p q:List Nat),m_ (i+1) p q r=m_ i p (c::q) r
 |[],i,p,q=>O
 |(d,b)::r,i,p,q=>by
  simp only[m_,zao];rw[show i+1+q.length=i+(q.length+1) by lia]
theorem abY(c:Nat):∀(r:List (List Nat×List Nat))(i:Nat)(p q:List Nat),m_ i (c::p) q r=.inr c::m_ i p q r
 |[],i,p,q=>O
 |(d,b)::r,i,p,q=>O
theorem xg:∀(xs:List At)(i:Nat),res i xs=m_ i (nb xs).1 (nb xs).2.1 (nb xs).2.2
 |[],i=>O
 |.P c::xs,i=>by
  show Sum.inr c::res i xs=m_ i (c::(nb xs).1) _ _;rw[xg xs i,abY];rfl
 |.C c::xs,i=>by
  show res (i+1) xs=m_ i (nb xs).1 (c::(nb xs).2.1) _;rw[xg xs<|i+1,abX c];rfl
 |.K::xs,i=>by
  show Sum.inl i::res (i+1) xs=Sum.inl (i+0)::m_ (i+0+1) _ _ _;rw[xg xs<|i+1];rfl
theorem abZ{xs ys:List At}(h:nb xs=nb ys)(i:Nat):res i xs=res i ys:=by rw[xg,xg,h]
noncomputable def jZ:List Nat->List Nat->List (List Nat×List Nat)->Form->Form
 |p,q,[],c=>(p++c.1,q++c.2.1,c.2.2)
 |p,q,(a,b)::r,c=>(p,q,((jZ a b r c).1,(jZ a b r c).2.1)::(jZ a b r c).2.2)
theorem ab0(c:Nat)(p q:List Nat)(r:List (List Nat×List Nat))(b:Form):jZ (c::p) q r b=(c::(jZ p q r b).1,(jZ p q r b).2.1,(jZ p q r b).2.2):=by
 cases r<;>rfl
theorem ab1(c:Nat)(p q:List Nat)(r:List (List Nat×List Nat))(b:Form):jZ p (c::q) r b=((jZ p q r b).1,c::(jZ p q r b).2.1,(jZ p q r b).2.2):=by
 cases r<;>rfl
theorem sU:∀(xs ys:List At),nb (xs++ys)=jZ (nb xs).1 (nb xs).2.1 (nb xs).2.2 (nb ys)
 |[],ys=>O
 |.K::xs,ys=>by
  simp only[zbn,nb,sU xs ys];rfl
 |.P c::xs,ys=>by
  simp only[zbn,nb,sU xs ys,ab0]
 |.C c::xs,ys=>by
  simp only[zbn,nb,sU xs ys,ab1]
theorem Fd{xs b ys f:List At}(h:nb xs=nb b)(c:nb ys=nb f):nb (xs++ys)=nb (b++f):=by rw[sU,sU,h,c]
theorem MW:∀(p:List Nat),nb (p.map .P)=(p,[],[])
 |[]=>O
 |c::p=>by simp only[zaz,nb,MW p]
theorem MZ:∀(p:List Nat),nb (p.map .C)=([],p,[])
 |[]=>O
 |c::p=>by simp only[zaz,nb,MZ p]
theorem ab2(p q:List Nat):nb (q.map .C++p.map .P)=nb (p.map .P++q.map .C):=by
 rw[sU,sU,MW,MZ];simp[jZ]
def rK(n:Nat):List At:=List.replicate n .K
theorem AD:∀(a l:List Nat)(xs:List At),fit (a++l) (rK a.length++xs)↔fit l xs
 |[],l,xs=>Iff.rfl
 |c::a,l,xs=>AD a l xs
theorem AE:∀(a l:List Nat)(xs:List At),out (a++l) (rK a.length++xs)=a++out l xs
 |[],l,xs=>O
 |c::a,l,xs=>by
  show c::out (a++l) (rK a.length++xs)=_;rw[AE a l xs];rfl
theorem sV:∀(s l:List Nat)(xs:List At),fit l (s.map .P++xs)↔fit l xs
 |[],l,xs=>Iff.rfl
 |c::s,l,xs=>sV s l xs
theorem AF:∀(s l:List Nat)(xs:List At),out l (s.map .P++xs)=s++out l xs
 |[],l,xs=>O
 |c::s,l,xs=>by
  show c::out l (s.map .P++xs)=_;rw[AF s l xs];rfl
theorem Fe:∀(s l:List Nat)(xs:List At),fit (s++l) (s.map .C++xs)↔fit l xs
 |[],l,xs=>Iff.rfl
 |c::s,l,xs=>by
  show c=c/\fit (s++l) (s.map .C++xs)↔_;rw[Fe s l xs];simp
theorem AG:∀(s l:List Nat)(xs:List At),out (s++l) (s.map .C++xs)=out l xs
 |[],l,xs=>O
 |c::s,l,xs=>AG s l xs
inductive du:List At->List At->List At->List At->Prop
 |nil:du [] [] [] []
 |p1 {c xs ys b t}:du xs ys b t->du (.P c::xs) ys (.P c::b) (.K::t)
 |p2 {c xs ys b t}:du xs ys b t->du xs (.P c::ys) (.K::b) (.P c::t)
 |kk {xs ys b t}:du xs ys b t->du (.K::xs) (.K::ys) (.K::b) (.K::t)
 |kc {c xs ys b t}:du xs ys b t->du (.K::xs) (.C c::ys) b (.C c::t)
 |ck {c xs ys b t}:du xs ys b t->du (.C c::xs) (.K::ys) (.C c::b) t
 |cc {c xs ys b t}:du xs ys b t->du (.C c::xs) (.C c::ys) b t
theorem du.fits{xs ys m t:List At}(h:du xs ys m t):∀l,fit l xs->fit l ys->fit (out l xs) t/\fit (out l ys) m/\out (out l xs) t=out (out l ys) m:=by
 induction h with
 |nil=>intro l f g;cases f;exact⟨O,O,O⟩
 | @p1 c xs ys m t _ k=>
  intro l f g;obtain⟨a,b,d⟩:=k l f g;exact⟨a,b,by show c::_=c::_;rw[d]⟩
 | @p2 c xs ys m t _ k=>
  intro l f g;obtain⟨a,b,d⟩:=k l f g;exact⟨a,b,by show c::_=c::_;rw[d]⟩
 | @kk xs ys m t _ k=>
  intro l f g;cases l with
  |nil=>exact f.elim
  |cons x l=>
   obtain⟨a,b,d⟩:=k l f g;exact⟨a,b,by show x::_=x::_;rw[d]⟩
 | @kc c xs ys m t _ k=>
  intro l f g;cases l with
  |nil=>exact f.elim
  |cons x l=>
   obtain⟨rfl,g⟩:=g;obtain⟨a,b,d⟩:=k l f g;exact⟨⟨O,a⟩,b,d⟩
 | @ck c xs ys m t _ k=>
  intro l f g;cases l with
  |nil=>exact f.elim
  |cons x l=>
   obtain⟨rfl,f⟩:=f;obtain⟨a,b,d⟩:=k l f g;exact⟨a,⟨O,b⟩,d⟩
 | @cc c xs ys m t _ k=>
  intro l f g;cases l with
  |nil=>exact f.elim
  |cons x l=>
   obtain⟨rfl,f⟩:=f;obtain⟨_,g⟩:=g;exact k l f g
end L2.B
variable{ps other:List L2.B.Pt}{aA:List (List Nat)}{ys:List L2.B.At}{es gY:List L2.V}{node:Nat}{cs:List PySem.Addr}{S:PySem.Addr}{lat las:List (Option Nat)}
namespace L2.B
open PySem PySem.Spec PyProof.Rows
noncomputable def bF:Pt->List At
 |.keep n=>rK n.toNat
 |.put s=>s.cps.toList.map .P
 |.cut s=>s.cps.toList.map .C
noncomputable def aE(ps:List Pt):List At:=(ps.map bF).flatten
theorem eG(p:Pt)(ps:List Pt):aE (p::ps)=bF p++aE ps:=O
theorem gZ(ps q:List Pt):aE (ps++q)=aE ps++aE q:=by simp[aE]
theorem g6(p:Pt):aE [p]=bF p:=by simp[aE]
def iq:Pt->Prop|.keep n=>0<=n|_=>True
theorem ab3(h:fU p):iq p:=by cases p<;>first|exact h|trivial
theorem o9(h:bA p):iq p:=by
 cases p with
 |keep n=>exact Int.le_trans (za6 _) (show(1:Int)<=n from h)
 |_=>trivial
theorem Run.fits(h:Run l ps r):fit l (aE ps)/\out l (aE ps)=r:=by
 induction h with
 |nil=>exact⟨O,O⟩
 | @keep a l r n ps e _ b=>
  rw[eG];have c:bF (.keep n)=rK a.length:=by show rK n.toNat=_;rw[e];simp
  rw[c];exact⟨(AD a l _).mpr b.1,by rw[AE,b.2]⟩
 | @put s l r ps _ b=>
  rw[eG];exact⟨(sV _ l _).mpr b.1,by show out l (s.cps.toList.map .P++_)=_;rw[AF,b.2]⟩
 | @cut s l r ps _ b=>
  rw[eG];exact⟨(Fe _ l _).mpr b.1,by show out _ (s.cps.toList.map .C++_)=_;rw[AG,b.2]⟩
theorem M0:∀(n:Nat)(l:List Nat)(xs:List At),fit l (rK n++xs)->∃a b,l=a++b/\a.length=n
 | 0,l,xs,h=>⟨[],l,O,O⟩
 |n+1,[],xs,h=>(show False from h).elim
 |n+1,c::l,xs,h=>by
  obtain⟨a,b,e,d⟩:=M0 n l xs h;exact⟨c::a,b,e▸O,by simp[d]⟩
theorem xh:∀(s l:List Nat)(xs:List At),fit l (s.map .C++xs)->∃b,l=s++b
 |[],l,xs,h=>⟨l,O⟩
 |c::s,[],xs,h=>(show False from h).elim
 |c::s,d::l,xs,h=>by
  obtain⟨e,h⟩:=(show d=c/\fit l (s.map .C++xs) from h);obtain⟨b,f⟩:=xh s l xs h;exact⟨b,by rw[e,f];rfl⟩
theorem uR:∀(ps:List Pt)(l:List Nat),(∀p∈ps,iq p)->fit l (aE ps)->Run l ps (out l<|aE ps)
 |[],l,_,h=>by
  have:=h;subst this;exact .nil
 |.keep n::ps,l,c,h=>by
  rw[eG] at h⊢;obtain⟨a,b,rfl,f⟩:=M0 _ _ _ h;have w:0<=n:=c _ (.head _);have g:bF (.keep n)=rK a.length:=by show rK n.toNat=_;rw[f]
  rw[g] at h⊢;rw[AE];exact .keep (by lia)<|uR ps b (λp d=>c p<|.tail _ d)<|(AD a b _).mp h
 |.put s::ps,l,c,h=>by
  show Run l _ (out l<|s.cps.toList.map .P++_);rw[AF];exact .put<|uR ps l (λp d=>c p<|.tail _ d)<|(sV _ l _).mp h
 |.cut s::ps,l,c,h=>by
  obtain⟨b,rfl⟩:=xh _ _ _ h;show Run _ _ (out _<|s.cps.toList.map .C++_);rw[AG];exact .cut<|uR ps b (λp d=>c p<|.tail _ d)<|(Fe _ b _).mp h
noncomputable def lW(s:NS):List At:=aE s.1++((cat s.2.1).cps.toList.map .P++(cat s.2.2).cps.toList.map .C)
theorem M1(mk:Str->Pt)(f:Nat->At)(h:∀s,bF (mk s)=s.cps.toList.map f)(x:Str):aE (txt mk x)=x.cps.toList.map f:=by
 by_cases b:x="";rw[b];rfl;rw[kI b,g6,h]
theorem M3(ch:List Pt)(p c:List Str):aE (eF ch p c)=lW (ch,p,c):=by
 unfold eF lW;rw[gZ,gZ,M1 .put .P<|λ_=>O,M1 .cut .C<|λ_=>O,zam]
theorem M4(m n:Nat):rK m++rK n=rK (m+n):=by unfold rK;rw[List.replicate_append_replicate]
theorem ab4(ch:List Pt)(n:Int)(d:0<=n)(h:∀p∈ch,iq p):aE (fk ch n)=aE ch++rK n.toNat:=by
 unfold fk;split;rename_i m e;have b:=List.mem_of_getLast? e;have A:0<=m:=h _ b;have c:ch=ch.dropLast++[.keep m]:=by
  have K:ch≠ []:=by intro z;rw[z] at b;cases b
  rw[List.getLast?_eq_some_getLast K] at e;rw[<-(zal e),List.dropLast_concat_getLast]
 conv=>rhs;rw[c]
 rw[gZ,gZ,g6,g6,zam];show _++rK (n+m).toNat=_++(rK m.toNat++rK n.toNat);rw[M4,show(n+m).toNat=m.toNat+n.toNat by lia];rw[gZ,g6];rfl
theorem M5(h:∀s,iq<|mk s)(x:Str):∀p∈txt mk x,iq p:=by
 intro p b;unfold txt at b;split at b;cases b;rw[zab.mp b];exact h x
theorem M6(p c:List Str)(h:∀p∈ch,iq p):∀q∈eF ch p c,iq q:=by
 intro q b;rcases zad.mp b with z|z
 rcases zad.mp z with z|z
 exact h q z;exact M5 (mk:=.put) (λ_=>trivial) _ q z;exact M5 (mk:=.cut) (λ_=>trivial) _ q z
theorem ab5{n:Int}(c:0<=n)(h:∀p∈ch,iq p):∀q∈fk ch n,iq q:=by
 intro q b;unfold fk at b;split at b;rename_i m e;rcases zad.mp b with z|z
 exact h q ((List.dropLast_sublist ch).subset z);rw[zab.mp z];have A:0<=m:=h _ (List.mem_of_getLast? e);show 0<=n+m;lia;rcases zad.mp b with z|z
 exact h q z;rw[zab.mp z];exact c
theorem ab6(s:NS)(p:Pt)(f:iq p)(h:∀q∈s.1,iq q):nb (lW<|dF s p)=nb (lW s++bF p)/\∀q∈ (dF s p).1,iq q:=by
 obtain⟨b,u,c⟩:=s;cases p with
 |put x=>
  refine⟨?_,h⟩;show nb (aE b++((cat<|u++[x]).cps.toList.map .P++(cat c).cps.toList.map .C))=nb (aE b++((cat u).cps.toList.map .P++(cat c).cps.toList.map .C)++x.cps.toList.map .P);rw[qB,app_list,zap,zam,zam,zam];exact Fd O<|Fd O ((ab2 _ _).symm)
 |cut x=>
  refine⟨?_,h⟩;show nb (aE b++((cat u).cps.toList.map .P++(cat<|c++[x]).cps.toList.map .C))=nb (aE b++((cat u).cps.toList.map .P++(cat c).cps.toList.map .C)++x.cps.toList.map .C);rw[qB,app_list,zap,zam,zam]
 |keep n=>
  have w:=f;by_cases d:0<n;have e:dF (b,u,c) (.keep n)=(fk (eF b u c) n,[],[]):=if_pos d;rw[e];refine⟨?_,ab5 w<|M6 _ _ h⟩;show nb (aE (fk (eF b u c) n)++[])=nb (lW (b,u,c)++rK n.toNat);rw[zae,ab4 _ _ w<|M6 _ _ h,M3];have e:dF (b,u,c) (.keep n)=(b,u,c):=if_neg d;rw[e];refine⟨?_,h⟩;show _=nb (lW (b,u,c)++rK n.toNat);rw[show n.toNat=0 by lia];show _=nb (_++[]);rw[zae]
theorem M7:∀(ps:List Pt)(s:NS),(∀p∈ps,iq p)->(∀q∈s.1,iq q)->nb (lW<|ps.foldl dF s)=nb (lW s++aE ps)
 |[],s,_,_=>by show nb (lW s)=nb (lW s++[]);rw[zae]
 |p::ps,s,h,c=>by
  obtain⟨a,b⟩:=ab6 s p (h p<|.head _) c;show nb (lW<|ps.foldl dF<|dF s p)=_;rw[M7 ps _ (λq d=>h q<|.tail _ d) b,eG,<-zam];exact Fd a O
theorem uS(ps:List Pt)(h:∀p∈ps,iq p):nb (aE<|jj ps)=nb (aE ps):=by
 unfold jj;rw[M3];exact (M7 ps ([],[],[]) h nofun)
theorem AI(h:s≠""):∃c r,s.cps.toList=c::r:=by
 cases e:s.cps.toList with
 |nil=>exact absurd (jC (e▸O)) h
 |cons c r=>exact⟨c,r,O⟩
noncomputable def M8:List RS:=
 [.fI (.v 0) "parts" (.blt .list [.v 1]),
 .fI (.v 0) "passed_by" (.c<|.int 0),
 .fI (.v 0) "offset" (.c (.int 0))]
noncomputable def M9:List RS:=
 [.ret<|.lB (.cmp .Lt (.fld (.v 0) "passed_by")<|.blt .len [(.fld (.v 0) "parts")]) (.ix (.ix (.fld (.v 0) "parts")<|.fld (.v 0) "passed_by")<|.c<|.int 0)<|.c<|.str ""]
noncomputable def M_:List RS:=
 [.ret<|.bin .Sub (.call 0 [(.ix (.fld (.v 0) "parts")<|.fld (.v 0) "passed_by")])<|.fld (.v 0) "offset"]
def Na:List Str:=["part_size"]
noncomputable def Nb:List Str:=["self","size","part","begin","end"]
noncomputable def Ff:List RS:=
 [.asg 2 (.ix (.fld (.v 0) "parts") (.fld (.v 0) "passed_by")),
 .asg 3 (.fld (.v 0) "offset"),
 .asg 4 (.bin .Add (.v 3)<|.v 1),
 .fI (.v 0) "offset" (.v 4),
 .ite (.cmp .Eq (.aU 0 "left" (.v 0) []) (.c (.int 0))) [.fI (.v 0) "passed_by" (.bin .Add (.fld (.v 0) "passed_by") (.c (.int 1))),
  .fI (.v 0) "offset" (.c (.int 0))] [],
 .ret (.tup [(.ix (.v 2) (.c (.int 0))),(.lB (.cmp .Eq (.ix (.v 2) (.c (.int 0))) (.c (.str "keep"))) (.v 1) (.sl (.ix (.v 2) (.c (.int 1))) (some (.v 3)) (some (.v 4))))])]
def ab7:List Str:=["left"]
def Nc:List Str:=["walk","putting","keeping","part"]
noncomputable def Nd:List RS:=
 [.asg 3 (.aU 0 "take" (.v 0) [(.aU 1 "left" (.v 0) [])]),
 .drop (.bE .append (.v 1) [.v 3]),
 .drop (.bE .append (.v 2) [(.tup [(.c (.str "keep")),(.call 0 [.v 3])])])]
def ab8:List Str:=["take","left"]
def Nf:List Str:=["first","second","ones","others"]
noncomputable def Ng:List RS:=
 [.ite (.and [(.cmp .Eq (.ix (.v 0) (.c (.int 0))) (.c (.str "cut"))),(.cmp .Eq (.ix (.v 1) (.c (.int 0))) (.c (.str "cut")))]) [.ite (.cmp .NotEq (.ix (.v 0) (.c (.int 1))) (.ix (.v 1) (.c (.int 1)))) [.jA 0 [(.c (.str "both changes cut a sign, and tell it otherwise"))]] []] [.ite (.cmp .Eq (.ix (.v 1) (.c (.int 0))) (.c (.str "keep"))) [.drop (.bE .append (.v 2) [.v 0]),
   .ite (.cmp .Eq (.ix (.v 0) (.c (.int 0))) (.c (.str "keep"))) [.drop (.bE .append (.v 3) [.v 1])] []] [.drop (.bE .append (.v 3) [.v 1])]]]
noncomputable def Nh:List Str:=["one","other","first","second","ones","others","size"]
noncomputable def Ni:List RS:=
 [.ite (.cmp .NotEq (.ix (.call 0 [.v 0]) (.c (.int 0))) (.ix (.call 0 [.v 1]) (.c (.int 0)))) [.jA 0 [(.c (.str "the changes are over unlike numbers of signs"))]] [],
 .asg 2 (.make 0 [.v 0]),
 .asg 3 (.make 0 [.v 1]),
 .asg 4 (.lst []),
 .asg 5 (.lst []),
 .mQ (.or [(.cmp .NotEq (.aU 0 "word" (.v 2) []) (.c (.str ""))),(.cmp .NotEq (.aU 0 "word" (.v 3) []) (.c (.str "")))]) [.ite (.cmp .Eq (.aU 0 "word" (.v 2) []) (.c (.str "put"))) [.drop (.call 1 [.v 2,.v 4,.v 5])] [.ite (.cmp .Eq (.aU 0 "word" (.v 3) []) (.c (.str "put"))) [.drop (.call 1 [.v 3,.v 5,.v 4])] [.asg 6 (.blt .min [(.aU 1 "left" (.v 2) []),(.aU 1 "left" (.v 3) [])]),
    .drop (.call 2 [(.aU 2 "take" (.v 2) [.v 6]),(.aU 2 "take" (.v 3) [.v 6]),.v 4,.v 5])]]],
 .ret (.tup [(.call 3 [.v 4]),(.call 3 [.v 5])])]
def ab9:List Str:=["sizes","put_first","share","neat"]
def Nj:List Str:=["min"]
def ab_:List Str:=["word","left","take"]
def Nk:List Str:=["Walk"]
def Nl:List Str:=["given","text"]
noncomputable def Nm:List RS:=
 [.ite (.cmp .Eq (.ix (.v 0) (.c (.int 0))) (.c (.str "keep"))) [.ret (.lst [(.tup [(.c (.str "cut")),.v 1])])] [],
 .ite (.cmp .NotEq (.ix (.v 0)<|.c<|.int 1)<|.v 1) [.jA 0 [(.c<|.str "what the first change puts is cut otherwise")]] [],
 .ret (.lst [])]
noncomputable def Nn:List Str:=["walk","part","parts","place","size","given"]
noncomputable def Np:List RS:=
 [.asg 2 (.lst []),
 .asg 3 (.c<|.int 0),
 .mQ (.cmp .Lt (.v 3) (.call 0 [.v 1])) [.ite (.cmp .Eq (.aU 0 "word" (.v 0) []) (.c (.str "cut"))) [.drop (.bE .append (.v 2) [(.aU 1 "take" (.v 0) [(.aU 2 "left" (.v 0) [])])]),
   .cont] [],
  .asg 4 (.blt .min [(.aU 2 "left" (.v 0) []),(.bin .Sub (.call 0 [.v 1])<|.v 3)]),
  .asg 5 (.aU 1 "take" (.v 0) [.v 4]),
  .ite (.cmp .Eq (.ix (.v 1)<|.c<|.int 0)<|.c<|.str "keep") [.drop<|.bE .append (.v 2) [.v 5]] [.drop<|.bE .extend (.v 2) [(.call 1 [.v 5,(.sl (.ix (.v 1)<|.c<|.int 1) (some<|.v 3)<|some<|.bin .Add (.v 3)<|.v 4)])]],
  .asg 3 (.bin .Add (.v 3) (.v 4))],
 .ret (.v 2)]
def aca:List Str:=["part_size","cut_behind"]
def Nq:List Str:=["word","take","left"]
noncomputable def Nr:List Str:=["one","other","walk","parts","part"]
noncomputable def Nt:List RS:=
 [.ite (.cmp .NotEq (.ix (.call 0 [.v 0]) (.c (.int 1))) (.ix (.call 0 [.v 1]) (.c (.int 0)))) [.jA 0 [(.c (.str "the other change is over another number of signs than the first one gives"))]] [],
 .asg 2 (.make 0 [.v 0]),
 .asg 3 (.lst []),
 .ko 4 .list [.v 1] [.ite (.cmp .Eq (.ix (.v 4)<|.c<|.int 0)<|.c<|.str "put") [.drop<|.bE .append (.v 3) [.v 4]] [.drop<|.bE .extend (.v 3) [(.call 1 [.v 2,.v 4])]]],
 .mQ (.cmp .NotEq (.aU 0 "word" (.v 2) [])<|.c<|.str "") [.drop<|.bE .append (.v 3) [(.aU 1 "take" (.v 2) [(.aU 2 "left" (.v 2) [])])]],
 .ret (.call 2 [.v 3])]
def acb:List Str:=["sizes","parts_behind","neat"]
structure qF(K:Frag)(C:Addr):Prop where
 cl:gT K C
 xj:gB K C "parts"
 sW:gB K C "passed_by"
 xk:gB K C "offset"
theorem o_{r:List (Str×V)}:((k,v)::r).lookup k=some v:=by simp
theorem dY{j:Str}{r:List (Str×V)}(h:¬k=j):((j,v)::r).lookup k=r.lookup k:=by
 have:(k==j)=false:=by lia
 simp[List.lookup,this]
theorem xl{r:List (Str×V)}:cx k v ((k,w)::r)=(k,v)::r:=by simp[cx]
theorem eO{j:Str}{w:V}{r:List (Str×V)}(h:¬j=k):cx k v ((j,w)::r)=(j,w)::cx k v r:=by simp[cx,h]
theorem acd{T:Ty}{P Q:Bool->Prop}(h:cp T v H P)(i:∀b,P b->Q b):cp T v H Q:=by
 cases v with
 |ref a=>
  unfold cp at h⊢;simp only at h⊢;split at h
  all_goals first|exact i _ h|exact h.elim
 |aD=>exact i _ h
 |bl b=>exact i _ h
 |int _=>exact i _ h
 |str _=>exact i _ h
 |_=>exact False.elim h
theorem ace{T:Ty}{P:Bool->Prop}(h:cp T v H P)(s:ay H H'):cp T v H' P:=by
 cases v with
 |ref a=>
  unfold cp at h⊢;simp only at h⊢;cases e:H a with
  |none=>rw[e] at h;exact h.elim
  |some o=>rw[e] at h;rw[s _ _ e];exact h
 |aD=>exact h
 |bl b=>exact h
 |int _=>exact h
 |str _=>exact h
 |_=>exact False.elim h
def jo(T:Ty)(v:V)(H:Hp):Prop:=cp T v H λb=>b=false
theorem jo.same{T:Ty}(h:jo T v H)(s:ay H H'):jo T v H':=ace h s
theorem jo.go{T:Ty}{Q:Bool->Prop}(h:jo T v H)(q:Q false):cp T v H Q:=acd h λb e=>e▸q
noncomputable def acf(x:Str):Bool:=x.cps.toList.all λc=>SG.cps.contains c
theorem Nu{b:Type}(p:b->Bool):∀l:List b,l.all p=false->(l.takeWhile p).length<l.length
 |[],h=>by cases h
 |c::l,h=>by
  rw[List.takeWhile_cons];cases d:p c with
  |false=>simp
  |true=>
   rw[zbp,d] at h;have:=Nu p l h;simp;exact this
theorem acg(x y:Str)(h:(x.cps.toList.all λc=>y.cps.contains c)=false):Txt.lstripChars x y≠"":=by
 have l:=Nu _ _ h;have k:stripLo y.cps.contains true x=(x.cps.toList.takeWhile y.cps.contains).length:=by
  unfold stripLo;rw[if_pos O]
 intro z;have b:=congrArg Str.length z;unfold Txt.lstripChars Txt.stripBy stripSame stripped at b;have f:x.cps.size=x.cps.toList.length:=O;split at b;have:x.cps.size=0:=b;exact (zcp _ (zaq l (za3 this))).elim;have d:(x.cps.extract (x.cps.toList.takeWhile y.cps.contains).length x.cps.size).size=0:=b;rw[Array.size_extract] at d;lia
def uT(v:V)(H:Hp):Prop:=(∃x,v=.str x/\x.length<=1000000/\acf x=false)\/jo .str v H
theorem uT.same(h:uT v H)(s:ay H H'):uT v H':=by
 rcases h with h|h
 exact .inl h;exact .inr (h.same s)
def qG(v:V)(H:Hp):Prop:=(∃b,v=.bl b)\/jo .int v H
theorem qG.same(h:qG v H)(s:ay H H'):qG v H':=by
 rcases h with h|h
 exact .inl h;exact .inr (h.same s)
inductive qH(vs:List V)(H:Hp)(Q:VK)(E:XK):Prop|i(v:_)(_:vs=[v])(_:((∃i,v=.int i/\Q (.bl true) H)\/(qG v H/\Q (.bl false) H)))
theorem ach{K:Frag}:bO (qH) (λE=>aI K [] [] (E:=E)) K0 oQ:=by
 intro d H Q E h;obtain⟨v,rfl,⟨i,rfl,q⟩|⟨⟨b,rfl⟩|c,q⟩⟩:=h;exact⟨_,O,O,_,O,gi ⟨_,O,O,q⟩⟩;exact⟨_,O,O,_,O,gi ⟨_,O,O,q⟩⟩;exact⟨_,O,O,c.go ⟨_,O,iG q⟩⟩
inductive Nv(vs:List V)(H:Hp)(Q:VK)(E:XK):Prop|i(v:_)(_:vs=[v])(_:((∃x,v=.str x/\good x/\Q (.bl true) H)\/(uT v H/\Q (.bl false) H)))
theorem aci{K:Frag}:bO (Nv) (λE=>aI K [] gS (E:=E)) Ef oQ:=by
 intro d H Q E h;obtain⟨v,rfl,⟨x,rfl,b,q⟩|⟨⟨x,rfl,l,b⟩|c,q⟩⟩:=h;exact aaX _ _ _ _ ⟨x,O,b,q⟩;refine⟨_,O,O,_,O,gi ⟨_,O,O,cz l,?_⟩⟩;show Q (.bl<|false ^^ decide (V.str (Txt.lstripChars x SG)=V.str "")) H;rw[zqF<|λz=>acg x SG b (by lia)];exact q;exact⟨_,O,O,c.go ⟨_,O,iG q⟩⟩
inductive Nw(K:Frag)(vs:List V)(H:Hp)(Q:VK)(E:XK):Prop|i(v p xs:_)(_:vs=[v,.ref p])(_:aJ K H p xs)(_:xs.all jy=true)(_:((∃w,v=.str w/\Q (.bl<|i_ (.str w) xs) H)\/(jo .str v H/\Q (.bl false) H)))
theorem acj{K:Frag}:bO (Nw K) (λE=>aI K [] [] (E:=E)) Ee Ec:=by
 intro d H Q E h;obtain⟨v,p,xs,rfl,b,f,⟨w,rfl,q⟩|⟨c,q⟩⟩:=h;exact aaZ _ _ _ _ ⟨w,p,xs,O,b,f,q⟩;exact⟨_,O,O,c.go ⟨_,O,iG q⟩⟩
def qI(v:V)(H:Hp):Prop:=jo .tuple v H\/∃a xs,v=.ref a/\H a=some (.tup xs)/\xs.length<=1000000/\(xs.length≠2\/∃w t,xs=[w,t]/\
 (jo .str w H\/(∃s,w=.str s/\s≠"keep"/\s≠"cut"/\s≠"put")\/(w=.str "keep"/\(qG t H\/∃n,t=.int n/\n<1))\/((w=.str "cut"\/w=.str "put")/\(uT t H\/t=.str ""))))
theorem qI.same(h:qI v H)(s:ay H H'):qI v H':=by
 rcases h with h|⟨a,xs,rfl,c,l,h⟩
 exact .inl (h.same s);refine .inr ⟨a,xs,O,s _ _ c,l,?_⟩;rcases h with h|⟨w,t,rfl,h⟩
 exact .inl h;refine .inr ⟨w,t,O,?_⟩;rcases h with h|h|⟨h,b⟩|⟨h,b⟩
 exact .inl (h.same s);exact .inr (.inl h);refine .inr (.inr<|.inl ⟨h,?_⟩);rcases b with b|b
 exact .inl (b.same s);exact .inr b;refine .inr (.inr<|.inr ⟨h,?_⟩);rcases b with b|b
 exact .inl (b.same s);exact .inr b
noncomputable abbrev AJ(K:Frag):List (Str×Sp):=[("is_word",Nw K),("is_whole",qH),("is_text",Nv)]
inductive Fh(vs:List V)(H:Hp)(Q:VK)(E:XK):Prop|i(v:_)(_:vs=[v])(_:((∃p,jh H v p/\bA p/\∀H',ay H H'->Q (.bl true) H')\/(qI v H/\∀H',ay H H'->Q (.bl false) H')))
theorem Nx(s t:Str):i_ (.str s) [.str t]=(t==s):=by
 show(i9 (.str t) (.str s)||false)=_;rw[zbo];rfl
theorem ack{K:Frag}:bO (Fh) (λE=>aI K (AJ K) [] (E:=E)) Ad oQ:=by
 intro vs H Q E h;have u:∀(a:Addr)(w t:V)(U:VK)(H1:Hp)(σ:St),σ[0]?=some (some<|.ref a)->H1 a=some (.tup [w,t])->
   (∀(Z:Addr) H2,ay H1 H2->∀b:Bool,(b=true->w=.str "cut"\/w=.str "put")->(b=false->w≠ .str "cut"/\w≠ .str "put")->U (.bl b) H2)->(jo .str w H1\/∃s,w=.str s)->
   ah (aI K (AJ K) [] (E:=E)) (.call 0 [(.ix (.v 0)<|.c<|.int 0),(.tup [(.c<|.str "cut"),(.c<|.str "put")])]) σ H1 U:=by
  intro a w t U H1 σ h0 m q l;refine⟨_,h0,.inr<|.inl ⟨_,_,_,_,O,O,aJ.of m,O,cK,λt ht=>?_⟩⟩;have g:=sameNew (o:=.tup [V.str "cut",V.str "put"]) ht;refine⟨w,t,_,O,aJ.of ar,O,?_⟩;rcases l with l|⟨s,rfl⟩
  refine .inr ⟨l.same g,q t _ g false (λz=>by cases z) λ_=>⟨?_,?_⟩⟩;rintro rfl;cases (show true=false from l);rintro rfl;cases (show true=false from l);refine .inl ⟨s,O,q t _ g _ (λz=>?_) λz=>?_⟩;have r:((Str.ofString "cut"==s)||((Str.ofString "put"==s)||false))=true:=z;simp only[zbo,zbS,beq_iff_eq] at r;rcases r with r|r<;>subst r
  exact .inl O;exact .inr O;have r:((Str.ofString "cut"==s)||((Str.ofString "put"==s)||false))=false:=z;simp at r;exact⟨λy=>r.1 (by injection y with y;exact y.symm),λy=>r.2 (by injection y with y;exact y.symm)⟩
 obtain⟨v,rfl,⟨p,⟨a,rfl,m⟩,A,q⟩|⟨hn|⟨a,xs,rfl,m,hl,d⟩,q⟩⟩:=h;refine⟨_,O,O,EL m ⟨_,O,.inr ⟨_,aJ.of m,_,O,?_⟩⟩⟩;refine⟨_,O,.inr<|.inl ⟨_,_,_,_,O,O,aJ.of m,O,cC,λx J=>?_⟩⟩;have f:=sameNew (o:=.tup [V.str "keep"]) J;refine⟨.str p.word,x,[.str "keep"],O,aJ.of ar,O,.inl ⟨p.word,O,?_⟩⟩;have k:=f _ _ m;generalize upd H x (.tup [V.str "keep"])=H1 at f k;have G:∀(s:Str),good s->s≠""->H1 a=some (.tup [.str p.word,.str s])->p.word="put"\/p.word="cut"->az (aI K (AJ K) [] (E:=E)) (Ad.drop 2) (Dn Q) (start oQ [.ref a]) H1:=by
  intro s gs ns hs l;refine u a (.str p.word) (.str s) _ H1 _ O hs (λZ H2 g b X N=>?_)<|.inr ⟨_,O⟩;have I:b=true:=by
   cases b with
   |true=>rfl
   |false=>
    obtain⟨R,P⟩:=N O;rcases l with z|z
    exact absurd (congrArg V.str z) P;exact absurd (congrArg V.str z) R
  subst I;have AL:=g _ _ hs;refine⟨_,O,gi ⟨_,O,.inr<|.inl ⟨_,_,_,_,O,O,aJ.of AL,O,.str s,O,.inl ⟨s,O,gs,_,O,?_⟩⟩⟩⟩;refine gi ⟨_,O,.inr<|.inl ⟨_,_,_,_,O,O,aJ.of AL,O,?_⟩⟩;show Q (.bl<|true ^^ decide (V.str s=V.str "")) _;rw[zqF<|λz=>ns (by injection z)];exact q _<|f.trans g
 cases p with
 |keep n=>
  refine⟨_,O,.inr<|.inl ⟨_,_,_,_,O,O,aJ.of k,O,.int n,O,.inl ⟨n,O,_,O,?_⟩⟩⟩;refine gi ⟨_,O,.inr<|.inl ⟨_,_,_,_,O,O,aJ.of k,O,trivial,?_⟩⟩;show Q (.bl<|decide<|1<=n) H1;rw[zqT (show(1:Int)<=n from A)];exact q _ f
 |put s=>
  exact G s A.1 A.2 k<|.inl O
 |cut s=>
  exact G s A.1 A.2 k<|.inr O
 exact⟨_,O,O,hn.go<|q _<|ay.refl _⟩;refine⟨_,O,O,EL m ⟨_,O,.inr ⟨_,aJ.of m,_,O,?_⟩⟩⟩;show if (true ^^ decide (V.int (xs.length:Int)=V.int 2))=true then _ else _
 rcases d with d|⟨w,t,rfl,d⟩
 rw[zqF<|λz=>d (by injection z with z;lia)];exact q _<|ay.refl _;refine⟨_,O,.inr<|.inl ⟨_,_,_,_,O,O,aJ.of m,O,cC,λx J=>?_⟩⟩;have f:=sameNew (o:=.tup [V.str "keep"]) J;refine⟨w,x,[.str "keep"],O,aJ.of ar,O,?_⟩;have k:=f _ _ m;generalize upd H x (.tup [V.str "keep"])=H1 at f k;have W:(jo .str w H1\/∃s,w=.str s)->w≠ .str "cut"->w≠ .str "put"->az (aI K (AJ K) [] (E:=E)) (Ad.drop 2) (Dn Q) (start oQ [.ref a]) H1:=by
  intro l F B;refine u a w t _ H1 _ O k (λZ H2 g b X N=>?_) l;have I:b=false:=by
   cases b with
   |false=>rfl
   |true=>rcases X rfl with z|z;exact absurd z F;exact absurd z B
  subst I;exact⟨_,O,iG<|q _<|f.trans g⟩
 rcases d with d|⟨s,rfl,n0,F,B⟩|⟨rfl,d⟩|⟨l,d⟩
 refine .inr ⟨d.same f,W (.inl<|d.same f) ?_ ?_⟩;rintro rfl;cases (show true=false from d);rintro rfl;cases (show true=false from d);refine .inl ⟨s,O,?_⟩;rw[Nx,beq_eq_false_iff_ne.mpr<|Ne.symm n0];exact W (.inr ⟨s,O⟩) (λz=>F (by injection z))<|λz=>B (by injection z);refine .inl ⟨_,O,?_⟩;rw[show i_ (.str "keep") [.str "keep"]=true by decide];refine⟨_,O,.inr<|.inl ⟨_,_,_,_,O,O,aJ.of k,O,t,O,?_⟩⟩;rcases d with d|⟨n,rfl,hn⟩
 exact .inr ⟨d.same f,_,O,iG<|q _ f⟩;refine .inl ⟨n,O,_,O,gi ⟨_,O,.inr<|.inl ⟨_,_,_,_,O,O,aJ.of k,O,trivial,?_⟩⟩⟩;show Q (.bl<|decide<|1<=n) H1;rw[zqF (by lia)];exact q _ f;have xp:∃s,w=.str s/\(Str.ofString "keep"==s)=false:=by
  rcases l with rfl|rfl
  exact⟨_,O,by decide⟩;exact⟨_,O,by decide⟩
 obtain⟨s,rfl,hk⟩:=xp;refine .inl ⟨s,O,?_⟩;rw[Nx,hk];refine u a (.str s) t _ H1 _ O k (λZ H2 g b X N=>?_)<|.inr ⟨s,O⟩;have I:b=true:=by
  cases b with
  |true=>rfl
  |false=>
   obtain⟨R,P⟩:=N O;rcases l with z|z
   exact absurd z R;exact absurd z P
 subst I;have Y:=g _ _ k;refine⟨_,O,gi ⟨_,O,.inr<|.inl ⟨_,_,_,_,O,O,aJ.of Y,O,t,O,?_⟩⟩⟩;rcases d with d|rfl
 exact .inr ⟨d.same<|f.trans g,_,O,iG<|q _<|f.trans g⟩;refine .inl ⟨_,O,⟨by decide,λc hc=>by cases hc⟩,_,O,gi ⟨_,O,.inr<|.inl ⟨_,_,_,_,O,O,aJ.of Y,O,?_⟩⟩⟩;exact q _<|f.trans g
theorem acm(h:EM vs H Q E):Fh vs H Q E:=by
 obtain⟨v,p,rfl,b,c,q⟩:=h;exact⟨_,O,.inl ⟨p,b,c,q⟩⟩
def AM(H:Hp)(xs:List V):Prop:= ∃b x t ps,xs=b++x::t/\aQ H b ps/\(∀p∈ps,bA p)/\chainOk "" ps=true/\
 (qI x H\/∃p,jh H x p/\bA p/\lQ p.word (jR "" ps ps.length)=false)
def jr(v:V)(H:Hp):Prop:=jo .list v H\/∃a xs,v=.ref a/\H a=some (.lst xs)/\AM H xs
theorem AM.same(h:AM H xs)(s:ay H H'):AM H' xs:=by
 obtain⟨d,x,t,ps,zq⟩:=qx4 h;obtain⟨e,l,k,g,f⟩:=qa5 zq;refine⟨d,x,t,ps,e,l.mono<|dg s,k,g,?_⟩;rcases f with f|⟨p,a,b,c⟩
 exact .inl (f.same s);exact .inr ⟨p,a.mono<|dg s,b,c⟩
theorem jr.same(h:jr v H)(s:ay H H'):jr v H':=by
 rcases h with h|⟨a,xs,e,c,b⟩
 exact .inl (jo.same h s);exact .inr ⟨a,xs,e,s _ _ c,b.same s⟩
abbrev acn:List (Str×Sp):=[("is_part",Fh),("may_follow",EF)]
def Fi(C:Addr):Sp:=λvs H Q E=>∃v,vs=[v]/\jr v H/\∀H',ay H H'->E (.ref C) none H'
theorem aco{K:Frag}:bO (Fi C) (λE=>aI K acn [] (et:=[("BadChange",C)]) (E:=E)) Eh Eg:=by
 intro vs H Q E h;obtain⟨v,rfl,X|⟨a,xs,rfl,u,d,x,G,ps,rfl,I,Y,W,w⟩,q⟩:=h;exact⟨_,O,O,X.go ⟨cC,q _<|ay.refl _⟩⟩;refine⟨_,O,O,Ak u ⟨_,O,a,O,⟨_,au.of u⟩,lh (λi σ H2=>i<=d.length/\∃v,σ=[some (.ref a),some (.str (jR "" ps i)),v]/\ay H H2) ⟨zqZ _,none,O,ay.refl _⟩
  (λi σ H2 _ ⟨_,_,_,f⟩=>au.of (f _ _ u)) ?_ ?_⟩⟩
 rintro i y σ H2 t ⟨m,v,rfl,f⟩;by_cases N:i<d.length;have U:=by rw[zax N] at t;exact t
 obtain⟨p,r,P⟩:=I.get U;obtain⟨b,rfl,k⟩:=P.mono (dg f);refine⟨_,O,_,O,.inl ⟨p,⟨b,O,k⟩,Y p<|zak r,λA g=>⟨_,O,.inr<|.inl ⟨_,_,_,_,O,O,aJ.of<|g _ _ k,O,_,O,p.word,_,O,?_⟩⟩⟩⟩;rw[(EN ps "" i p W r)];refine⟨_,O,.inr<|.inl ⟨_,_,_,_,O,O,aJ.of<|g _ _ k,O,N,some<|.ref b,?_,f.trans g⟩⟩;show[some<|V.ref a,some<|V.str p.word,some<|V.ref b]=_;have J:jR "" ps (i+1)=p.word:=by simp only[jR,r]
 rw[J];have B:i=d.length:=za5 m (za4 N)
 subst B;have F:=by
  simpa using t.symm
 subst F;rcases w with k|⟨p,⟨b,rfl,k⟩,R,Z⟩
 exact⟨_,O,_,O,.inr ⟨k.same f,λA g=>⟨cC,q _<|f.trans g⟩⟩⟩;refine⟨_,O,_,O,.inl ⟨p,⟨b,O,f _ _ k⟩,R,λA g=>⟨_,O,.inr<|.inl ⟨_,_,_,_,O,O,aJ.of<|g _ _<|f _ _ k,O,_,O,p.word,_,O,?_⟩⟩⟩⟩;show(λc H1=>if (!c)=true then _ else _) (lQ p.word<|jR "" ps d.length) A;rw[(Paired.length I),Z];exact⟨cC,q _<|f.trans g⟩;rintro σ H2 ⟨m,_⟩;simp at m;exact (zaC _ (zb8 (za8 m))).elim
def Fj(C:Addr):Sp:=Fi C
theorem acq{K:Frag}:bO (Fj C) (λE=>aI K [("need_change",Fi C),("part_size",oU)] [] (E:=E)) Ej Ei:=by
 intro c H Q E h;obtain⟨v,rfl,b,q⟩:=h;exact⟨_,O,v,O,b,q⟩
def j5(a b:Sp):Sp:=λvs H Q E=>a vs H Q E\/b vs H Q E
end L2.B
namespace L2
open PySem PySem.Spec PyProof.Rows
section
variable{Γ:ba}{D:Ends}{σ:St}{H:Hp}{r:List RS}{Q:VK}{QA:List V->Hp->Prop}{QT:Bool->Hp->Prop}
theorem ag(h:σ[i]?=some (some v))(q:Q v H):ah Γ (.v i) σ H Q:=⟨_,h,q⟩
theorem aC(q:Q v H):ah Γ (.c v) σ H Q:=q
theorem Ny(q:Q (Γ.gv j) H):ah Γ (.g j) σ H Q:=q
theorem bT{b:RE}(h:ah Γ a σ H λx H1=>ah Γ b σ H1 λy H2=>rW Γ.K p x y H2 Q):ah Γ (.bin p a b) σ H Q:=h
theorem sX{b:RE}(h:ah Γ a σ H λx H1=>ah Γ b σ H1 λy H2=>dR Γ.K p x y H2 Q):ah Γ (.cmp p a b) σ H Q:=h
theorem bD(h:ah Γ a σ H λx H1=>ah Γ b σ H1 λy H2=>qd Γ.K Γ.sd x y H2 Q):ah Γ (.ix a b) σ H Q:=h
theorem acr(h:bg Γ as σ H λvs H1=>Γ.fs j (vs++[]) H1 Q Γ.E):ah Γ (.call j as) σ H Q:=h
theorem b_(sp:Sp)(b:Γ.fs j=sp)(h:bg Γ as σ H λvs H1=>sp vs H1 Q Γ.E):ah Γ (.call j as) σ H Q:=by
 subst b;refine acr ?_;have e:(fun(vs:List V)(H1:Hp)=>Γ.fs j (vs++[]) H1 Q Γ.E)=λvs H1=>Γ.fs j vs H1 Q Γ.E:=by
  funext vs H1;rw[zae]
 rw[e];exact h
theorem Fm(h:bg Γ as σ H λvs H1=>p9 Γ.K b vs H1 Q):ah Γ (.blt b as) σ H Q:=h
theorem iu(h:bg Γ as σ H λxs H1=>xs.length<=sizeLine/\∀p,H1 p=none->Q (.ref p) (upd H1 p<|.tup xs)):ah Γ (.tup as) σ H Q:=h
theorem cJ(h:bg Γ as σ H λxs H1=>xs.length<=sizeLine/\∀p,H1 p=none->Q (.ref p) (upd H1 p<|.lst xs)):ah Γ (.lst as) σ H Q:=h
theorem acs(h:ah Γ a σ H λx H1=>ah Γ c σ H1 λy H2=>mP Γ.K [x,y] H2 Q):ah Γ (.dS a c) σ H Q:=h
theorem Nz(h:ah Γ a σ H λx H1=>ah Γ c σ H1 λy H2=>mP Γ.K [x,y] H2 λz d=>mR Γ.K z d λb=>QT b d):bo Γ (.dS a c) σ H QT:=h
theorem aH(q:QA [] H):bg Γ [] σ H QA:=q
theorem av(h:ah Γ a σ H λx H1=>bg Γ as σ H1 λxs H2=>QA (x::xs) H2):bg Γ (a::as) σ H QA:=h
theorem bw(h:ah Γ e σ H λx H1=>az Γ r D (σ.set i<|some x) H1):az Γ (.asg i e::r) D σ H:=h
theorem cN(h:ah Γ e σ H λ_ H1=>az Γ r D σ H1):az Γ (.drop e::r) D σ H:=h
theorem dh(h:ah Γ e σ H D.rt):az Γ (.ret e::r) D σ H:=h
end
end L2
namespace L2.B
open PySem PySem.Spec PyProof.Rows
structure qJ(K:Frag)(cs:List Addr)(cA:Addr)(D:Addr)(j:Nat):Prop where
 cls:um K D
 kit:∀i c,cs[i]?=some c->kitOne K (.ref D) (.ref c)=some (decide<|i=j)
 cA:kitOne K (.ref D) (.ref cA)=some true
 val:kitOne K (.ref D) (.type "ValueError")=some true
noncomputable def kJ:List Str:=["text","change","fit","place","side","mark","node","cursor","deed","letter","gone","hand","note"]
noncomputable abbrev gW(r q p m l k h g f d c b u A:Addr):List (Str×V):=
 [("BadText",.ref r),("BadChange",.ref q),("BadFit",.ref p),("NoPlace",.ref m),("BadSide",.ref l),("NoMark",.ref k),("NoNode",.ref h),("NoCursor",.ref g),("BadDeed",.ref f),("BadLetter",.ref d),("NoLetter",.ref c),("NoHand",.ref b),("NoNote",.ref u),("InkError",.ref A)]
inductive xq(K:Frag)(cs:List Addr)(c:Addr)(vs:List V)(H:Hp)(Q:VK)(E:XK):Prop|i(b D j:_)(_:vs=[.ref b])(_:ExcAt H b D)(_:qJ K cs c D j)(_:j<13)(_:∀H',ay H H'->Q (.str<|kJ.getD j "") H')
theorem _root_.Internal.L2.ExcAt.same{D:Addr}(h:ExcAt H c D)(s:ay H H'):ExcAt H' c D:=ExcAt.keeps h λb o u e=>s b _ e
def lX(H:Hp)(v:V)(p:Str×Bool):Prop:= ∃t,v=.ref t/\H t=some (.tup [.str p.1,.bl p.2])
theorem lX.mono(h:lX H v p)(s:ay H H'):lX H' v p:=by
 obtain⟨t,e,h⟩:=h;exact⟨t,e,s _ _ h⟩
theorem sY.mono (s:ay H H'):∀{vs:List V}{ps:List (Str × Bool)},Paired (lX H) vs ps->Paired (lX H') vs ps:=by
 intro _ _ h;exact Paired.Cr h λ_ _ x=>x.mono s
theorem sY.get:∀{vs:List V}{ps:List (Str × Bool)}{i:Nat}{v:V},Paired (lX H) vs ps->vs[i]?=some v->∃p,ps[i]?=some p/\lX H v p:=by
 intro _ _ i v h;induction h generalizing i with
 |nil=>intro e;simp at e
 |cons x _ ih=>
  intro e;cases i with
  |zero=>simp at e;subst e;exact⟨_,rfl,x⟩
  |succ i=>
   obtain⟨p,a,b⟩:=ih (by simpa using e);exact⟨p,by simpa using a,b⟩
theorem Paired.app{R:α->β->Prop}:∀{xs bu:List α}{ys fJ:List β},Paired R xs ys->Paired R bu fJ->Paired R (xs++bu) (ys++fJ):=by
 intro _ _ _ _ h s;induction h with
 |nil=>exact s
 |cons r _ i=>exact .cons r i
section
variable{Γ:ba}{cs:List Addr}{cA ea D:Addr}{j:Nat}
theorem Fn(f:qJ Γ.K cs cA D j)(u:∀i c,cs[i]?=some c->Γ.gv i=.ref c):∀(b:List (Str×Nat))(σ:St)(H:Hp)(Q:List V->Hp->Prop),(∀p∈b,p.2<cs.length)->σ[0]?=some (some<|.ref ea)->ExcAt H ea D->
  (∀vs H',ay H H'->Paired (lX H') vs (b.map λp=>(p.1,decide<|p.2=j))->Q vs H')->bg Γ (b.map λp=>.tup [(.c<|.str p.1),(.dS (.v 0)<|.g p.2)]) σ H Q
 |[],σ,H,Q,_,_,_,q=>q [] H (ay.refl _) .nil
 |(w,i)::b,σ,H,Q,r,E,x,q=>by
  have I:=r (w,i) (.head _);have A:cs[i]?=some cs[i]:=by simp
  have d:∀k:VK,mP Γ.K [.ref ea,.ref cs[i]] H k->mP Γ.K [.ref ea,Γ.gv i] H k:=by
   intro k;rw[u i _ A];exact id
  refine av<|iu<|av<|aC<|av<|acs<|ag E<|Ny<|d _ ⟨D,_,x,f.cls,.inl ⟨_,O⟩,f.kit i _ A,aH ⟨cK,λt G=>?_⟩⟩;have m:=sameNew (o:=.tup [.str w,.bl<|decide<|i=j]) G;exact Fn f u b σ _ _ (λp h=>r p<|.tail _ h) E (x.same m) λvs H' l h=>q (.ref t::vs) H' (m.trans l)<|.cons ⟨t,O,l _ _ ar⟩ h
theorem uY(I:qJ Γ.K cs cA D j)(N:∀i c,cs[i]?=some c->Γ.gv i=.ref c)(w:List (Str×Nat)){l:Addr}{ps:List (Str×Bool)}{r:List RS}{E:Ends}(G:∀p∈w,p.2<cs.length)(P:ExcAt H ea D)(u:H l=some (.lst xs))(A:Paired (lX H) xs ps)(Z:xs.length+w.length<=1000)(q:∀m x H',ay H H'->H' m=some (.lst x)->Paired (lX H') x (ps++w.map λp=>(p.1,decide<|p.2=j))->az Γ r E [some<|.ref ea,some<|.ref m,none] H'):
  az Γ (.asg 1 (.bin .Add (.v 1)<|.lst<|w.map λp=>.tup [(.c<|.str p.1),(.dS (.v 0)<|.g p.2)])::r) E [some<|.ref ea,some<|.ref l,none] H:=by
 refine⟨_,O,Fn I N w _ H _ G O P λb H1 f k=>⟨?_,λd t=>?_⟩⟩
 have:=Paired.length k;rw[zaa] at this;exact cz (by lia)
 have R:upd H1 d (.lst b) l=some (.lst xs):=by rw[aF<|a_ (f _ _ u) t];exact f _ _ u
 have X:=Paired.length k;rw[zaa] at X;refine .inl ⟨l,d,xs,b,O,O,R,ar,cz (by lia),λe V=>?_⟩
 have h:=(sameNew t).trans (sameNew (o:=.lst (xs++b)) V);exact q e (xs++b) _ (f.trans h) ar<|Paired.app (sY.mono (f.trans h) A)<|sY.mono h k
end
theorem acv(j:Nat)(h:j<13):(((kJ.zipIdx).map λp=>(p.1,decide<|p.2=j)).filter (·.2)).map (·.1)=[kJ.getD j ""]/\(kJ.getD j "").length<=10:=by
 revert j;decide+kernel
theorem join_one(p x:Str):Txt.join p [x]=x:=jC O
theorem acx{b c:Type}(p:b->Bool)(f:b->c)(l:List b)(i:Nat)(v:b)(h:l[i]?=some v):((l.take<|i+1).filter p).map f=((l.take i).filter p).map f++(if p v then [f v] else []):=by
 rw[Mh p l i v h,zap];cases p v<;>rfl
theorem acy{c D:Addr}{b:Bool}{Q:Bool->Hp->Prop}(p:σ[i]?=some (some<|.ref c))(l:ExcAt H c D)(m:um Γ.K D)(f:Γ.gv g=.ref C)(h:kitOne Γ.K (.ref D) (.ref C)=some b)(q:Q b H):bo Γ (.dS (.v i)<|.g g) σ H Q:=by
 have d:∀k:VK,mP Γ.K [.ref c,.ref C] H k->mP Γ.K [.ref c,Γ.gv g] H k:=by
  intro k;rw[f];exact id
 exact Nz<|ag p<|Ny<|d _ ⟨D,b,l,m,.inl ⟨_,O⟩,h,q⟩
theorem acz{D:Addr}{n:String}{b:Bool}{Q:Bool->Hp->Prop}(g:σ[i]?=some (some<|.ref k))(d:ExcAt H k D)(f:um Γ.K D)(h:kitOne Γ.K (.ref D) (.type n)=some b)(q:Q b H):bo Γ (.dS (.v i)<|.c<|.ty n) σ H Q:=
 Nz (ag g<|aC ⟨D,b,d,f,.inr ⟨_,O⟩,h,q⟩)
theorem acA{D:Addr}(A:cs.length=13)(E:∀i c,cs[i]?=some c->Γ.gv i=.ref c)(hi:Γ.gv 13=.ref cA)(r:ExcAt H ea D)(h:qJ Γ.K cs cA D j)(hj:j<13)(q:∀H',ay H H'->Q (.str<|kJ.getD j "") H'):
  az Γ gm (Dn Q) [some<|.ref ea,none,none] H:=by
 refine Eb<|cJ<|Fn h E [("text",0),("change",1),("fit",2)] _ H _ (by rw[A];decide) O r λF H1 s1 R=>⟨?_,λd Y=>?_⟩;have:=Paired.length R;exact cz (by rw[this];simp);have l:=s1.trans (sameNew (o:=.lst F) Y);refine uY h E [("place",3),("side",4),("mark",5)] (by rw[A];decide) (r.same l) ar (sY.mono (sameNew Y) R) (by rw[(Paired.length R)];simp) λl3 jV H3 u h3 Fp=>?_;refine uY h E [("node",6),("cursor",7)] (by rw[A];decide) ((r.same l).same u) h3 Fp (by rw[(Paired.length Fp)];simp) λl4 b' H4 G h4 Fq=>?_;refine uY h E [("deed",8),("letter",9)] (by rw[A];decide) (((r.same l).same u).same G) h4 Fq (by rw[(Paired.length Fq)];simp) λl5 sZ H5 P h5 Fs=>?_;have ND:=Paired.length Fs;refine uY h E [("gone",10),("hand",11),("note",12)] (by rw[A];decide) ((((r.same l).same u).same G).same P) h5 Fs (by rw[ND];simp) λl6 f H6 W I NF=>?_;have N:Paired (lX H6) f ((kJ.zipIdx).map λp=>(p.1,decide<|p.2=j)):=NF;obtain⟨k,c'⟩:=acv j hj;have a':((kJ.zipIdx).map λp=>(p.1,decide<|p.2=j)).length=13:=rfl;generalize ((kJ.zipIdx).map λp=>(p.1,decide<|p.2=j))=g at N k a';have xu:=Paired.length N;have Z:=((((r.same l).same u).same G).same P).same W;have s_:=(((l.trans u).trans G).trans P).trans W;refine ZY ⟨_,O,l6,O,⟨_,au.of I⟩,λi m ys H7=>m=f.length - i/\i<=f.length/\H7=H6/\ys=(((g.take i).filter (·.2)).map (·.1)).map V.str,⟨_,O,zqZ _,O,O⟩,?_⟩;rintro i m ys H7 ⟨rfl,d9,rfl,rfl⟩;by_cases B:i<f.length;refine .inr ⟨⟨f,f[i],au.of I,by simp[B]⟩,?_⟩;rintro x H8 ⟨rfl,hx⟩;obtain⟨⟨w,b⟩,X,t,rfl,ht⟩:=sY.get N (hx f<|au.of I);have J:=acx (·.2) (·.1) g i _ X;refine⟨t,_,O,aJ.of ht,O,_,O,?_⟩;show if b=true then _ else _
 cases b with
 |true=>
  refine gi ⟨_,O,?_,f.length - (i+1),by lia,O,B,O,?_⟩;rw[zaa,zaa];have:=zbV (·.2) (g.take i);have:=List.length_take_le i g;exact dr (by lia);rw[J];simp
 |false=>
  refine iG ⟨f.length - (i+1),by lia,O,B,O,?_⟩;rw[J];simp
 have gI:i=f.length:=za5 d9 (za4 B)
 subst gI;refine .inl ⟨⟨f,au.of I,zqR _⟩,λp X=>?_⟩;rw[xu,show g.take g.length=g from zbu ..,k];have U:=sameNew (o:=.lst (List.map V.str [kJ.getD j ""])) X;have NG:=Z.same U;refine ZZ<|acy O NG h.cls hi h.cA<|acz O NG h.cls h.val ?_;refine⟨O,_,O,[kJ.getD j ""],au.of ar,?_,?_⟩;show(!decide (0+(kJ.getD j "").length+(Str.ofString "/").length>sizeLine))=true;rw[zqF];rfl;have:(Str.ofString "/").length=1:=O;have:(1000:Nat)<=sizeLine:=by decide
 lia;exact q _<|s_.trans U
theorem acE{K:Frag}{E x w t r p m l k g d b u A:Addr}(vs:List V)(H:Hp)(Q:VK)(h:xq K [E,x,w,t,r,p,m,l,k,g,d,b,u] A vs H Q E0):
  az (aI K []<|gW E x w t r p m l k g d b u A) gm (Dn Q) (start lP vs) H:=by
 obtain⟨P,D,j,rfl,N,G,I,q⟩:=h;refine acA O (λi c f=>?_) O N G I q
 iterate 13 (rcases i with _|i;exact congrArg V.ref (zal f))
 cases f
theorem Run.good(h:Run l ps r)(f:∀c∈l,SG.cps.contains c=true)(g:∀p∈ps,MS p):∀c∈r,SG.cps.contains c=true:=by
 induction h with
 |nil=>exact f
 |keep e _ b=>
  intro c m;rcases zad.mp m with z|z
  exact f c (zad.mpr<|.inl z);exact b (λd k=>f d<|zad.mpr<|.inr k) (λp h=>g p<|.tail _ h) c z
 |put _ b=>
  intro c m;rcases zad.mp m with z|z
  exact(g _ (.head _):sg _) c z;exact b f (λp h=>g p<|.tail _ h) c z
 |cut _ b=>exact b (λd k=>f d<|zad.mpr<|.inr k) (λp h=>g p<|.tail _ h)
theorem Run.len(h:Run l ps r):r.length<=l.length+aB ps:=by
 induction h with
 |nil=>simp
 | @keep a l r n ps e _ b=>
  have:aB (.keep n::ps)=0+aB ps:=O;simp;lia
 | @put s l r ps _ b=>
  have:aB (.put s::ps)=s.length+aB ps:=O;have e:=len_list s;simp only[zqA];lia
 | @cut s l r ps _ b=>
  have:aB (.cut s::ps)=s.length+aB ps:=O;simp;lia
theorem Fu(k:Nat)(n:Int)(m:Nat)(c:n=m):oA x (some (k:Int)) (some<|(k:Int)+n)=⟨((x.cps.toList.drop k).take m).toArray⟩:=by
 have b:(k:Int)+n=((k+m:Nat):Int):=by lia
 unfold oA oz;rw[b,HT.rM,HT.rM];by_cases h:k<=x.cps.toList.length;rw[show min k x.cps.toList.length=k by lia];by_cases d:k+m<=x.cps.toList.length;rw[show min (k+m) x.cps.toList.length=k+m by lia,Nat.add_sub_cancel_left];rw[zaH (by rw[zaB];lia),zaH (by rw[zaB];lia)];rw[show min k x.cps.toList.length=x.cps.toList.length by lia,zbX,zbY (zby (zck h)),zbF,zbF]
inductive uZ(vs:List V)(H:Hp)(Q:VK)(E:XK):Prop|i(x a xs ps r:_)(_:vs=[.str x,.ref a])(_:good x)(_:H a=some (.lst xs))(_:aQ H xs ps)(_:(∀p∈ps,EG p))(_:Run x.cps.toList ps r)(_:r.length<=1000000)(_:Q (.str ⟨r.toArray⟩) H)
theorem acF{K:Frag}:bO (uZ) (λE=>aI K [] [] (E:=E)) Lr El:=by
 intro vs H Q E h;obtain⟨x,a,xs,ps,r,rfl,U,P,X,aG,W,B,q⟩:=h;have k:=Paired.length X;refine⟨_,O,a,O,⟨_,au.of P⟩,lh (K:=K) (a:=a) (xs:=xs) (λi σ H2=>qX6 λl1 l2 c m w v=>qA5 (σ=[some (.str x),some (.ref a),some (.str ⟨c.toArray⟩),some (.int ((l1.length:Nat):Int)),w,v]) (H2=H) (x.cps.toList=l1++l2) (r=c++m) (Run l2 (ps.drop i) m))
  ⟨[],x.cps.toList,[],r,none,none,O,O,O,O,W⟩ (by rintro i σ H2 _ ⟨_,_,_,_,_,_,_,e,_,_,_⟩;exact e ▸ au.of P) ?_ ?_⟩
 rintro i y σ H2 Y ⟨l1,l2,c,m,w,v,rfl,rfl,l,f,g⟩;obtain⟨u,G,b,rfl,hb⟩:=X.get Y;have R:i<ps.length:=(zah.mp G).1;have ed:ps.drop i=u::ps.drop (i+1):=by
  rw[zbl R];congr 1;exact zal<|(zay R).symm.trans G
 rw[ed] at g;obtain⟨p,A,J,t,rfl,rfl,I,d⟩:=MU g;have F:=aG u (zak G);have Z:c.length+J.length<=1000000:=by rw[f] at B;simp at B;lia
 refine⟨b,_,O,.inl<|aJ.of hb,O,_,_,O,_,_,O,O,?_⟩;cases u with
 |put s=>
  obtain⟨rfl,rfl⟩:=d;refine⟨_,O,_,O,_,O,_,O,cz (by rw[len_list,len_list];exact Z),?_⟩;refine⟨l1,A,c++s.cps.toList,t,some<|.str "put",some<|.str s,?_,O,l,by rw[f];simp,I⟩;rw[show(⟨c.toArray⟩++s:Str)=⟨(c++s.cps.toList).toArray⟩ from jC (by rw[app_list])];rfl
 |cut s=>
  obtain⟨rfl,rfl⟩:=d;refine⟨_,O,_,O,_,O,_,O,_,O,_,O,cz F,?_⟩;refine⟨l1++s.cps.toList,A,c,t,some<|.str "cut",some<|.str s,?_,O,by rw[l];simp,f,I⟩;rw[zqA,<-len_list,zbg];rfl
 |keep n=>
  obtain⟨rfl,N⟩:=d;refine⟨_,O,_,O,_,O,_,O,?_⟩;refine⟨_,O,_,O,_,O,_,O,_,O,_,O,_,O,cz U.1,?_⟩;rw[Fb l n N];refine⟨cz (by rw[len_list,len_list];exact Z),?_⟩;refine⟨_,O,_,O,?_⟩;refine⟨l1++p,A,c++p,t,some<|.str "keep",some<|.int n,?_,O,by rw[l];simp,by rw[f];simp,I⟩;rw[show(⟨c.toArray⟩++ ⟨p.toArray⟩:Str)=⟨(c++p).toArray⟩ from jC (by rw[app_list]),zqA,N,zbg];rfl
 rintro σ H2 ⟨l1,l2,c,m,w,v,rfl,rfl,l,f,g⟩;rw[k,zbX] at g;cases g;rw[zae] at f;subst f;exact⟨_,O,q⟩
def aY:Pt->Nat|.keep n=>n.toNat|.put s=>s.length|.cut s=>s.length
noncomputable def cP:Pt->Nat->Pt
 |.keep n,o=>.keep (n - o)
 |.put s,o=>.put ⟨(s.cps.toList.drop o).toArray⟩
 |.cut s,o=>.cut ⟨(s.cps.toList.drop o).toArray⟩
noncomputable def aV:Pt->Nat->Pt
 |.keep _,o=>.keep o
 |.put s,o=>.put ⟨(s.cps.toList.take o).toArray⟩
 |.cut s,o=>.cut ⟨(s.cps.toList.take o).toArray⟩
theorem NI(p:Pt)(o:Nat):(cP p o).word=p.word:=by cases p<;>rfl
theorem acG(p:Pt)(o:Nat):(aV p o).word=p.word:=by cases p<;>rfl
theorem kN(h:bA p):sL p=(aY p:Int)/\1<=aY p:=by
 cases p with
 |keep n=>
  have b:(1:Int)<=n:=h;exact⟨by show n=(n.toNat:Int);lia,by show 1<=n.toNat;lia⟩
 |put s=>
  obtain⟨c,r,e⟩:=AI h.2;exact⟨O,by show 1<=s.length;rw[len_list,e];simp⟩
 |cut s=>
  obtain⟨c,r,e⟩:=AI h.2;exact⟨O,by show 1<=s.length;rw[len_list,e];simp⟩
theorem lY(l:List Nat):(⟨l.toArray⟩:Str).length=l.length:=O
theorem ni(p:Pt)(o:Nat)(h:o<=aY p):aY (cP p o)=aY p - o:=by
 cases p with
 |keep n=>
  show(n - (o:Int)).toNat=n.toNat - o;lia
 |put s=>show(⟨(s.cps.toList.drop o).toArray⟩:Str).length=s.length - o;rw[lY,zaB,<-len_list]
 |cut s=>show(⟨(s.cps.toList.drop o).toArray⟩:Str).length=s.length - o;rw[lY,zaB,<-len_list]
theorem xx(p:Pt)(o:Nat)(h:o<=aY p):aY (aV p o)=o:=by
 cases p with
 |keep n=>show((o:Int)).toNat=o;exact zaG _
 |put s=>
  have b:o<=s.length:=h;rw[len_list] at b;show(⟨(s.cps.toList.take o).toArray⟩:Str).length=o;rw[lY,zaF];lia
 |cut s=>
  have b:o<=s.length:=h;rw[len_list] at b;show(⟨(s.cps.toList.take o).toArray⟩:Str).length=o;rw[lY,zaF];lia
theorem drop_zero(p:Pt):cP p 0=p:=by
 cases p with
 |keep n=>show Pt.keep (n - ((0:Nat):Int))=_;rw[show n - ((0:Nat):Int)=n by lia]
 |put s=>show Pt.put ⟨(s.cps.toList.drop 0).toArray⟩=_;rw[zbq]
 |cut s=>show Pt.cut ⟨(s.cps.toList.drop 0).toArray⟩=_;rw[zbq]
theorem drop_drop(p:Pt)(a b:Nat):cP (cP p a) b=cP p (a+b):=by
 cases p with
 |keep n=>show Pt.keep (n - (a:Int) - (b:Int))=Pt.keep (n - ((a+b:Nat):Int));lia
 |put s=>show Pt.put ⟨((s.cps.toList.drop a).drop b).toArray⟩=Pt.put ⟨(s.cps.toList.drop<|a+b).toArray⟩;rw[List.drop_drop]
 |cut s=>show Pt.cut ⟨((s.cps.toList.drop a).drop b).toArray⟩=Pt.cut ⟨(s.cps.toList.drop<|a+b).toArray⟩;rw[List.drop_drop]
theorem take_all(p:Pt)(h:iq p):aV p (aY p)=p:=by
 cases p with
 |keep n=>
  have b:0<=n:=h;show Pt.keep ((n.toNat:Nat):Int)=_;rw[show((n.toNat:Nat):Int)=n by lia]
 |put s=>show Pt.put ⟨(s.cps.toList.take s.length).toArray⟩=_;rw[len_list,zbu]
 |cut s=>show Pt.cut ⟨(s.cps.toList.take s.length).toArray⟩=_;rw[len_list,zbu]
theorem AO(p:Pt)(o:Nat)(h:o<=aY p):bF p=bF (aV p o)++bF (cP p o):=by
 cases p with
 |keep n=>
  have b:o<=n.toNat:=h;show rK n.toNat=rK ((o:Nat):Int).toNat++rK (n - (o:Int)).toNat;rw[M4];congr 1;lia
 |put s=>
  show s.cps.toList.map At.P=(s.cps.toList.take o).map At.P++(s.cps.toList.drop o).map At.P;rw[<-zap,zbW]
 |cut s=>
  show s.cps.toList.map At.C=(s.cps.toList.take o).map At.C++(s.cps.toList.drop o).map At.C;rw[<-zap,zbW]
theorem AQ(h:good s)(l:List Nat)(b:l.length<=s.length)(m:∀c∈l,c∈s.cps.toList):good ⟨l.toArray⟩:=
 ⟨by exact zat b h.1,λc d=>h.2 c<|m c d⟩
theorem AR(h:l≠ []):(⟨l.toArray⟩:Str)≠"":=λz=>h (by have:=congrArg (λs=>s.cps.toList) z;exact this)
theorem Fw{o:Nat}(h:bA p)(b:o<aY p):bA (cP p o):=by
 cases p with
 |keep n=>
  have f:o<n.toNat:=b;show(1:Int)<=n - (o:Int);lia
 |put s=>
  have f:o<s.cps.toList.length:=by exact b
  exact⟨AQ h.1 _ (by rw[zaB,<-len_list];exact zb5 _ _) λc d=>zbG d,AR (by intro z;have:=congrArg List.length z;rw[zaB] at this;have t:s.cps.toList.length - o=0:=this;lia)⟩
 |cut s=>
  have f:o<s.cps.toList.length:=by exact b
  exact⟨AQ h.1 _ (by rw[zaB,<-len_list];exact zb5 _ _) λc d=>zbG d,AR (by intro z;have:=congrArg List.length z;rw[zaB] at this;have t:s.cps.toList.length - o=0:=this;lia)⟩
theorem AS{o:Nat}(h:bA p)(g:1<=o)(d:o<=aY p):bA (aV p o):=by
 cases p with
 |keep n=>show(1:Int)<= (o:Int);lia
 |put s=>
  have f:o<=s.cps.toList.length:=by exact d
  exact⟨AQ h.1 _ (by rw[zaF,<-len_list];lia) λc b=>zch b,AR (by intro z;have:=congrArg List.length z;rw[zaF] at this;have t:min o s.cps.toList.length=0:=this;lia)⟩
 |cut s=>
  have f:o<=s.cps.toList.length:=by exact d
  exact⟨AQ h.1 _ (by rw[zaF,<-len_list];lia) λc b=>zch b,AR (by intro z;have:=congrArg List.length z;rw[zaF] at this;have t:min o s.cps.toList.length=0:=this;lia)⟩
noncomputable def wf(L:Addr)(i o:Int):List (Str×V):=[("parts",.ref L),("passed_by",.int i),("offset",.int o)]
theorem AU{i o:Int}:(wf L i o).lookup ("parts":Str)=some (.ref L):=o_
theorem xy{i o:Int}:(wf L i o).lookup ("passed_by":Str)=some (.int i):=O
theorem NJ{i o:Int}:(wf L i o).lookup ("offset":Str)=some (.int o):=O
theorem AV{i o:Int}{m:Str}(c:¬m="parts")(b:¬m="passed_by")(h:¬m="offset"):(wf L i o).lookup m=none:=(dY c).trans ((dY b).trans<|(dY h).trans O)
theorem NK{i o k:Int}:cx "offset" (.int k) (wf L i o)=wf L i k:=O
theorem acH{i o k:Int}:cx "passed_by" (.int k) (wf L i o)=wf L k o:=O
theorem acI:cx "offset" (.int 0) (cx "passed_by" (.int 0)<|cx "parts" (.ref L) [])=wf L 0 0:=O
def bW(C:Addr)(H:Hp)(w L:Addr)(rs:List Pt):Prop:= ∃(dx:Addr)(xs:List V)(ps:List Pt)(i o:Nat),H w=some (.ins C dx<|wf L i o)/\H L=some (.lst xs)/\aQ H xs ps/\(∀p∈ps,bA p)/\ps.length<=200000/\
 ((ps.drop i=[]/\rs=[])\/∃p t,ps.drop i=p::t/\o<aY p/\rs=cP p o::t)
theorem bW.keep(h:bW C H w L rs)(k:∀b o,H b=some o->b=w\/b=L\/(∃xs,o=.tup xs)->H' b=some o):bW C H' w L rs:=by
 obtain⟨dx,xs,ps,i,o,zq⟩:=qx5 h;obtain⟨g,f,d,c⟩:=qa4 zq;exact⟨dx,xs,ps,i,o,k _ _ g<|.inl O,k _ _ f<|.inr<|.inl O,d.mono λb ys e=>k _ _ e (.inr<|.inr ⟨ys,O⟩),c⟩
theorem bW.same(h:bW C H w L rs)(s:ay H H'):bW C H' w L rs:=h.keep λb o e _=>s b o e
theorem bW.but{rs:List Pt}(h:bW C H w L rs)(b:aR c H H')(f:H c=some (.lst xs))(g:c≠L):bW C H' w L rs:=by
 refine h.keep λd o e z=>b d o e ?_;obtain⟨dx,_,_,_,_,k,_⟩:=qx5 h;rcases z with rfl|rfl|⟨ys,rfl⟩
 exact cI k f (by lia);exact g.symm;exact cI e f (by lia)
theorem bW.ok(h:bW C H w L rs):∀p∈rs,bA p:=by
 obtain⟨dx,xs,ps,i,o,zq⟩:=qx5 h;obtain⟨r,l,k,f,g,⟨_,rfl⟩|⟨p,t,e,d,rfl⟩⟩:=qa6 zq;intro p c;cases c;have m:=λq b=>f q (zbG (by rw[e];exact b));intro q b;rcases zac.mp b with rfl|b
 exact Fw (m p<|.head _) d;exact m q (.tail _ b)
def qK:List Pt->Str
 |[]=> ""
 |p::_=>p.word
inductive lZ(C:Addr)(vs:List V)(H:Hp)(Q:VK)(E:XK):Prop|i(w dx a:Addr)(xs:List V)(ps:List Pt)(_:vs=[.ref w,.ref a])(_:H w=some (.ins C dx []))(_:H a=some (.lst xs))(_:aQ H xs ps)(_:(∀p∈ps,bA p))(_:ps.length<=200000)(_:∀L H',H L=none->L≠w->aR w H H'->bW C H' w L ps->Q .aD H')
theorem acJ{K:Frag}(T:qF K C):bO (lZ C) (λE=>aI K [] [] (E:=E)) M8 qv:=by
 intro r H Q E h;obtain⟨w,dx,a,xs,ps,rfl,f,m,q,G,l,k⟩:=h;refine⟨_,O,xs,.inl<|au.of m,λL g=>?_⟩;have d:=a_ f g;refine⟨_,O,w,C,dx,[],O,(by rw[aF d];exact f),T.cl,T.xj,(by simp),?_⟩;refine⟨_,O,w,C,dx,_,O,ar,T.cl,T.sW,(by show 1<1000;decide),?_⟩;refine⟨_,O,w,C,dx,_,O,ar,T.cl,T.xk,(by show 2<1000;decide),?_⟩;rw[yN,yN];have b:aR w H (upd (upd H L<|.lst xs) w<|.ins C dx<|cx "offset" (.int 0)<|cx "passed_by" (.int 0)<|cx "parts" (.ref L) []):=λc o e n=>by rw[aF n,aF<|a_ e g];exact e
 refine k L _ g d.symm b ⟨dx,xs,ps,0,0,?_,?_,q.mono ?_,G,l,?_⟩;rw[ar];rfl;rw[aF d.symm,ar];intro c ys e;exact b c _ e<|cI e f (by lia);cases ps with
 |nil=>exact .inl ⟨O,O⟩
 |cons p t=>exact .inr ⟨p,t,O,(kN<|G p<|.head _).2,by rw[drop_zero]⟩
theorem Fx(h:ps.drop i=p::t):ps[i]?=some p/\ps.drop (i+1)=t/\i<ps.length:=by
 have l:i<ps.length:=by
  rcases Nat.lt_or_ge i ps.length with z|z
  exact z;rw[zbY z] at h;cases h
 refine⟨?_,?_,l⟩;have:=congrArg List.head? h;rw[List.head?_drop] at this;simpa using this;rw[<-List.drop_drop,h];rfl
theorem aQ.at(h:aQ H xs ps)(e:ps[i]?=some p):∃a,xs[i]?=some (.ref a)/\H a=some (.tup [.str p.word,p.val]):=by
 have f:i<xs.length:=by rw[(Paired.length h)];exact(zah.mp e).1
 obtain⟨q,b,a,d,c⟩:=h.get (i:=i) (v:=xs[i]) (by simp);rw[e] at b;cases b;exact⟨a,by rw[<-d];simp,c⟩
inductive qL(C:Addr)(vs:List V)(H:Hp)(Q:VK)(E:XK):Prop|i(w L:Addr)(rs:List Pt)(_:vs=[.ref w])(_:bW C H w L rs)(_:Q (.str<|qK rs) H)
theorem acK{K:Frag}(T:qF K C):bO (qL C) (λE=>aI K [] [] (E:=E)) M9 m4:=by
 intro m H Q E h;obtain⟨w,L,r,rfl,⟨dx,xs,ps,i,o,b,d,c,G,A,g⟩,q⟩:=h;have x:=Paired.length c;refine⟨_,O,w,C,dx,_,_,O,b,T.cl,T.sW,xy,_,O,w,C,dx,_,_,O,b,T.cl,T.xj,AU,.inl ⟨_,au.of d,trivial,_,O,?_⟩⟩;rcases g with⟨e,rfl⟩|⟨p,t,e,u,rfl⟩
 have:ps.length<=i:=by
  rcases Nat.lt_or_ge i ps.length with z|z
  rw[zbl z] at e;cases e;exact z
 exact iF q<|zqF (by lia);obtain⟨l,N,I⟩:=Fx e;obtain⟨a,k,f⟩:=c.at l;refine iT ?_<|zqT (by lia);refine⟨_,O,w,C,dx,_,_,O,b,T.cl,T.xj,AU,_,O,w,C,dx,_,_,O,b,T.cl,T.sW,xy,.inl ⟨_,_,_,_,O,O,au.of d,bZ k,.inr<|.inl ⟨_,_,_,_,O,O,aJ.of f,O,?_⟩⟩⟩;rw[show qK (cP p o::t)=p.word from NI p o] at q;exact q
inductive AW(C:Addr)(vs:List V)(H:Hp)(Q:VK)(E:XK):Prop|i(w L dx:Addr)(xs:List V)(ps:List Pt)(i o:Nat)(p:Pt)(_:vs=[.ref w])(_:H w=some (.ins C dx<|wf L i o))(_:H L=some (.lst xs))(_:aQ H xs ps)(_:ps[i]?=some p)(_:bA p)(_:Q (.int<|(aY p:Int) - (o:Int)) H)
theorem acL{K:Frag}(T:qF K C):bO (AW C) (λE=>aI K [("part_size",oU)] [] (E:=E)) M_ m4:=by
 intro m H Q E h;obtain⟨w,L,dx,xs,ps,i,o,p,rfl,b,g,f,l,c,q⟩:=h;obtain⟨a,k,d⟩:=f.at l;refine⟨_,O,w,C,dx,_,_,O,b,T.cl,T.xj,AU,_,O,w,C,dx,_,_,O,b,T.cl,T.sW,xy,.inl ⟨_,_,_,_,O,O,au.of g,bZ k,⟨_,p,O,⟨a,O,d⟩,uJ c,⟨_,O,w,C,dx,_,_,O,b,T.cl,T.xk,NJ,trivial,?_⟩⟩⟩⟩;rw[(kN c).1];exact q
inductive nq(C:Addr)(vs:List V)(H:Hp)(Q:VK)(E:XK):Prop|i(w L:Addr)(p:Pt)(t:List Pt)(_:vs=[.ref w])(_:bW C H w L (p::t))(_:Q (.int (aY p:Int)) H)
theorem acM(h:nq C vs H Q E):AW C vs H Q E:=by
 obtain⟨w,L,p,t,rfl,⟨dx,xs,ps,i,o,k,g,f,d,u,⟨_,e⟩|⟨b,m,e,r,l⟩⟩,q⟩:=h;cases e;cases l;obtain⟨c,_,_⟩:=Fx e;refine⟨w,L,dx,xs,ps,i,o,b,O,k,g,f,c,d _<|zak c,?_⟩;rw[ni b o (zby r)] at q;rw[show((aY b:Int) - (o:Int))=((aY b - o:Nat):Int) by lia];exact q
def eI(p:Pt)(t:List Pt)(k:Nat):List Pt:=if k=aY p then t else cP p k::t
inductive pb(C:Addr)(vs:List V)(H:Hp)(Q:VK)(E:XK):Prop|i(w L:Addr)(p:Pt)(t:List Pt)(k:Nat)(_:vs=[.ref w,.int (k:Int)])(_:bW C H w L (p::t))(_:1<=k)(_:k<=aY p)(_:∀r H',aR w H H'->H' r=some (.tup [.str (aV p k).word,(aV p k).val])->H r=none->bW C H' w L (eI p t k)->Q (.ref r) H')
theorem acN{K:Frag}(T:qF K C):bO (pb C) (λE=>aI K [] [] [] [("left",C,AW C)] (E:=E)) Ff Nb:=by
 intro vs H Q E h;obtain⟨w,L,p,t,k,rfl,⟨dx,xs,ps,i,o,l,G,F,B,h5,⟨_,e⟩|⟨c,N,e,ho,e'⟩⟩,xB,a',q⟩:=h;cases e;cases e';obtain⟨U,e2,e3⟩:=Fx e;obtain⟨a,ea,ha⟩:=F.at U;have Z:=B _ (zak U);rw[ni c o (zby ho)] at a';have NL:w≠L:=cI l G (by intro z;cases z);have R:a≠w:=cI ha l (by intro z;cases z);refine⟨_,O,w,C,dx,_,_,O,l,T.cl,T.xj,AU,_,O,w,C,dx,_,_,O,l,T.cl,T.sW,xy,.inl ⟨_,_,_,_,O,O,au.of G,bZ ea,?_⟩⟩;refine⟨_,O,w,C,dx,_,_,O,l,T.cl,T.xk,NJ,?_⟩;refine⟨_,O,_,O,?_⟩;refine⟨_,O,_,O,w,C,dx,_,O,l,T.cl,T.xk,(by show 3<1000;decide),?_⟩;rw[NK];have I:∀(fs:List (Str×V)),dq H (upd H w<|.ins C dx fs):=λfs b ys m=>by rw[aF<|cI m l (by intro z;cases z)];exact m
 refine⟨_,O,w,dx,_,O,ar,AV (by decide+kernel) (by decide+kernel) (by decide+kernel),w,L,dx,xs,ps,i,o+k,c,O,ar,(by rw[aF NL.symm];exact G),F.mono<|I _,U,Z,?_⟩;have u:∀(g f:Nat),((ps.drop g=[]/\eI (cP c o) t k=[])\/∃p N,ps.drop g=p::N/\f<aY p/\eI (cP c o) t k=cP p f::N)->
   az (aI K [] [] [] [("left",C,AW C)] (E:=E)) (Ff.drop 5) (Dn Q) [some<|.ref w,some<|.int (k:Int),some<|.ref a,some<|.int (o:Int),some<|.int ((o+k:Nat):Int)] (upd H w<|.ins C dx<|wf L (g:Int) (f:Int)):=by
  intro g f hr;have x:upd H w (.ins C dx<|wf L (g:Int) (f:Int)) a=some (.tup [.str c.word,c.val]):=by rw[aF R];exact ha
  have d:∀v:V,v=(aV (cP c o) k).val->∀r,upd H w (.ins C dx<|wf L (g:Int) (f:Int)) r=none->Q (.ref r) (upd (upd H w<|.ins C dx<|wf L (g:Int) (f:Int)) r<|.tup [.str c.word,v]):=by
   rintro v rfl r A;have NM:r≠w:=λz=>by rw[z,ar] at A;cases A
   have NN:H r=none:=by rw[aF NM] at A;exact A
   have W:aR w H (upd (upd H w<|.ins C dx<|wf L (g:Int) (f:Int)) r<|.tup [.str c.word,(aV (cP c o) k).val]):=λb ob m X=>by rw[aF<|a_ m NN,aF X];exact m
   refine q r _ W (by rw[ar,acG,NI]) NN ⟨dx,xs,ps,g,f,?_,W _ _ G NL.symm,F.mono λb ys m=>W b _ m (cI m l (by intro z;cases z)),B,h5,hr⟩;rw[aF NM.symm,ar]
  refine⟨_,O,.inr<|.inl ⟨_,_,_,_,O,O,aJ.of x,O,?_⟩⟩;refine⟨_,O,.inr<|.inl ⟨_,_,_,_,O,O,aJ.of x,O,_,O,?_⟩⟩;rw[zaI,iD];cases c with
  |keep n=>exact gi ⟨_,O,cK,d _ O⟩
  |put s=>
   refine iG ⟨_,O,.inr<|.inl ⟨_,_,_,_,O,O,aJ.of x,O,_,O,_,O,_,O,_,O,cz Z.1.1,cK,d _ ?_⟩⟩;show V.str (oA s (some (o:Int))<|some ((o+k:Nat):Int))=V.str ⟨((s.cps.toList.drop o).take k).toArray⟩;rw[zbg,Fu o (k:Int) k O]
  |cut s=>
   refine iG ⟨_,O,.inr<|.inl ⟨_,_,_,_,O,O,aJ.of x,O,_,O,_,O,_,O,_,O,cz Z.1.1,cK,d _ ?_⟩⟩;show V.str (oA s (some (o:Int))<|some ((o+k:Nat):Int))=V.str ⟨((s.cps.toList.drop o).take k).toArray⟩;rw[zbg,Fu o (k:Int) k O]
 refine⟨_,O,?_⟩;rw[zaI];by_cases Y:k=aY c - o;refine iT ?_ (zqT (by congr 1;lia));refine⟨_,O,w,C,dx,_,_,O,ar,T.cl,T.sW,xy,_,O,w,C,dx,_,O,ar,T.cl,T.sW,(by show 3<1000;decide),?_⟩;rw[yN,acH];refine⟨_,O,w,C,dx,_,O,ar,T.cl,T.xk,(by show 3<1000;decide),?_⟩;rw[yN,NK];refine u (i+1) 0 ?_;have J:eI (cP c o) t k=t:=if_pos (by rw[ni c o (zby ho)];exact Y);rw[J,e2];cases t with
 |nil=>exact .inl ⟨O,O⟩
 |cons P t2=>
  have hm:bA P:=B P (zbG (by rw[e];exact .tail _ (.head _)));exact .inr ⟨P,t2,O,(kN hm).2,by rw[drop_zero]⟩
 refine iF ?_ (zqF (by lia));refine u i (o+k)<|.inr ⟨c,t,e,by lia,?_⟩;have J:eI (cP c o) t k=cP (cP c o) k::t:=if_neg (by rw[ni c o (zby ho)];exact Y);rw[J,drop_drop]
theorem cH.app{xs d u f G:List At}(h:cH xs ys d)(g:cH u f G):cH (xs++u) (ys++f) (d++G):=by
 induction h with
 |nil=>exact g
 |p _ b=>exact .p b
 |c _ b=>exact .c b
 |kk _ b=>exact .kk b
 |kc _ b=>exact .kc b
 |pk _ b=>exact .pk b
 |pc _ b=>exact .pc b
theorem NO:∀s:List Nat,cH [] (s.map .P) (s.map .P)
 |[]=>.nil
 |c::s=>.p (NO s)
theorem Fy:∀s:List Nat,cH (s.map .C) [] (s.map .C)
 |[]=>.nil
 |c::s=>.c (Fy s)
theorem NP:∀n:Nat,cH (rK n) (rK n) (rK n)
 | 0=>.nil
 |n+1=>.kk (NP n)
theorem NQ:∀s:List Nat,cH (rK s.length) (s.map .C) (s.map .C)
 |[]=>.nil
 |c::s=>.kc (NQ s)
theorem NR:∀s:List Nat,cH (s.map .P) (rK s.length) (s.map .P)
 |[]=>.nil
 |c::s=>.pk (NR s)
theorem NT:∀s:List Nat,cH (s.map .P) (s.map .C) []
 |[]=>.nil
 |c::s=>.pc (NT s)
def dJ:List At->Nat
 |[]=>0
 |.P _::xs=>dJ xs
 |.K::xs=>dJ xs+1
 |.C _::xs=>dJ xs+1
def fN:List At->Nat
 |[]=>0
 |.P _::xs=>fN xs+1
 |.K::xs=>fN xs+1
 |.C _::xs=>fN xs
def cnt:List At->Nat
 |[]=>0
 |.K::xs=>cnt xs
 |.P _::xs=>cnt xs+1
 |.C _::xs=>cnt xs+1
theorem nr:∀(xs:List At)(l:List Nat),fit l xs->l.length=dJ xs
 |[],l,h=>by cases h;rfl
 |.P c::xs,l,h=>nr xs l h
 |.K::xs,[],h=>h.elim
 |.K::xs,a::l,h=>by simp[dJ,nr xs l h]
 |.C c::xs,[],h=>h.elim
 |.C c::xs,a::l,h=>by simp[dJ,nr xs l h.2]
theorem AX:∀(xs:List At)(l:List Nat),fit l xs->(out l xs).length=fN xs
 |[],l,h=>O
 |.P c::xs,l,h=>by simp[out,fN,AX xs l h]
 |.K::xs,[],h=>h.elim
 |.K::xs,a::l,h=>by simp[out,fN,AX xs l h]
 |.C c::xs,[],h=>h.elim
 |.C c::xs,a::l,h=>AX xs l h.2
theorem xD:∀(xs ys:List At),dJ (xs++ys)=dJ xs+dJ ys
 |[],ys=>by simp[dJ]
 |.P c::xs,ys=>xD xs ys
 |.K::xs,ys=>by simp only[zbn,dJ,xD xs ys];lia
 |.C c::xs,ys=>by simp only[zbn,dJ,xD xs ys];lia
theorem AY:∀(xs ys:List At),cnt (xs++ys)=cnt xs+cnt ys
 |[],ys=>by simp[cnt]
 |.K::xs,ys=>AY xs ys
 |.P c::xs,ys=>by simp only[zbn,cnt,AY xs ys];lia
 |.C c::xs,ys=>by simp only[zbn,cnt,AY xs ys];lia
theorem cH.cnt{xs b:List At}(h:cH xs ys b):cnt b<=B.cnt xs+B.cnt ys:=by
 induction h<;>simp only[B.cnt] <;>lia
theorem qM:∀(xs:List At)(l:List Nat),fit l (xs++ys)->∃l1 l2,l=l1++l2/\fit l1 xs/\fit l2 ys/\out l (xs++ys)=out l1 xs++out l2 ys:=by
 intro xs;induction xs with
 |nil=>exact λl h=>⟨[],l,rfl,rfl,h,rfl⟩
 |cons x xs i=>
  intro l h;cases x with
  |P c=>
   obtain⟨l1,l2,rfl,a,b,d⟩:=i l h;exact⟨l1,l2,rfl,a,b,by show c :: out _ (xs++ys)=c :: (out l1 xs++out l2 ys);rw[d]⟩
  |K=>
   cases l with
   |nil=>exact (show False from h).elim
   |cons e l=>
    obtain⟨l1,l2,rfl,a,b,d⟩:=i l h;exact⟨e :: l1,l2,rfl,a,b,by show e :: out _ (xs++ys)=e :: (out l1 xs++out l2 ys);rw[d]⟩
  |C c=>
   cases l with
   |nil=>exact (show False from h).elim
   |cons e l=>
    obtain⟨h0,h⟩:=(show e=c/\fit l (xs++ys) from h);obtain⟨l1,l2,rfl,a,b,d⟩:=i l h;exact⟨e :: l1,l2,rfl,⟨h0,a⟩,b,d⟩
theorem NU{a b:List Nat}{c:List At}(h:fit (a++b) (ys++c))(l:a.length=dJ ys):fit a ys/\fit b c:=by
 obtain⟨l1,l2,e,d,f,_⟩:=qM ys _ h;have:=nr _ _ d;obtain⟨rfl,rfl⟩:=List.append_inj e (by lia);exact⟨d,f⟩
theorem xG(n:Nat):dJ (rK n)=n:=by
 induction n with
 |zero=>rfl
 |succ n h=>show dJ (rK n)+1=_;rw[h]
theorem pd(s:List Nat):dJ (s.map .C)=s.length:=by
 induction s with
 |nil=>rfl
 |cons c s h=>show dJ (s.map .C)+1=_;rw[h];rfl
theorem acR(n:Nat):fN (rK n)=n:=by
 induction n with
 |zero=>rfl
 |succ n h=>show fN (rK n)+1=_;rw[h]
theorem acS(s:List Nat):fN (s.map .P)=s.length:=by
 induction s with
 |nil=>rfl
 |cons c s h=>show fN (s.map .P)+1=_;rw[h];rfl
theorem NV:∀(xs:List At)(l:List Nat),fit l xs->out l xs=[]->∀x∈xs,∃c,x=.C c
 |[],l,_,_,x,b=>by cases b
 |.P c::xs,l,h,e,x,b=>by cases e
 |.K::xs,[],h,_,_,_=>h.elim
 |.K::xs,a::l,h,e,x,b=>by cases e
 |.C c::xs,[],h,_,_,_=>h.elim
 |.C c::xs,a::l,h,e,x,b=>by
  rcases zac.mp b with rfl|b
  exact⟨c,O⟩;exact NV xs l h.2 e x b
theorem du.app{xs d t u f c N:List At}(h:du xs ys d t)(g:du u f c N):du (xs++u) (ys++f) (d++c) (t++N):=by
 induction h with
 |nil=>exact g
 |p1 _ b=>exact .p1 b
 |p2 _ b=>exact .p2 b
 |kk _ b=>exact .kk b
 |kc _ b=>exact .kc b
 |ck _ b=>exact .ck b
 |cc _ b=>exact .cc b
theorem NX:∀s:List Nat,du (s.map .P) [] (s.map .P) (rK s.length)
 |[]=>.nil
 |c::s=>.p1 (NX s)
theorem NY:∀s:List Nat,du [] (s.map .P) (rK s.length) (s.map .P)
 |[]=>.nil
 |c::s=>.p2 (NY s)
theorem NZ:∀n:Nat,du (rK n) (rK n) (rK n) (rK n)
 | 0=>.nil
 |n+1=>.kk (NZ n)
theorem N1:∀s:List Nat,du (rK s.length) (s.map .C) [] (s.map .C)
 |[]=>.nil
 |c::s=>.kc (N1 s)
theorem N2:∀s:List Nat,du (s.map .C) (rK s.length) (s.map .C) []
 |[]=>.nil
 |c::s=>.ck (N2 s)
theorem N3:∀s:List Nat,du (s.map .C) (s.map .C) [] []
 |[]=>.nil
 |c::s=>.cc (N3 s)
theorem du.acT{xs b t:List At}(h:du xs ys b t):cnt b<=B.cnt xs/\cnt t<=B.cnt ys:=by
 induction h<;>simp only[B.cnt] <;>lia
end L2.B
namespace L2
open PySem PySem.Spec PyProof.Rows
section
variable{Γ:ba}{D:Ends}{σ:St}{H:Hp}{r:List RS}{Q:VK}{QA:List V->Hp->Prop}{QT:Bool->Hp->Prop}
theorem j6(C:Addr)(sp:Sp)(b:Γ.ms j=(C,sp))(h:ah Γ o σ H λx H1=>∃a dx f,x=.ref a/\H1 a=some (.ins C dx f)/\f.lookup m=none/\sp [x] H1 Q Γ.E):ah Γ (.aU j m o []) σ H Q:=by
 show rL (Γ.ms j).1 m (Γ.ms j).2 [] Γ.E (ah Γ o) (bg Γ []) σ H Q;rw[b];exact h
theorem gJ(C:Addr)(sp:Sp)(b:Γ.ms j=(C,sp))(h:ah Γ o σ H λx H1=>∃p dx f,x=.ref p/\H1 p=some (.ins C dx f)/\f.lookup m=none/\ah Γ a σ H1 λy H2=>sp [x,y] H2 Q Γ.E):ah Γ (.aU j m o [a]) σ H Q:=by
 show rL (Γ.ms j).1 m (Γ.ms j).2 [] Γ.E (ah Γ o) (bg Γ [a]) σ H Q;rw[b];exact h
theorem AZ(C:Addr)(sp:Sp)(m:Γ.kt j=(C,sp))(h:ah Γ a σ H λy H1=>∀x dx,H1 x=none->H1 dx=none->dx≠x->sp [.ref x,y] (upd (upd H1 dx<|.own x) x<|.ins C dx []) (λv H2=>v=.aD/\Q (.ref x) H2) Γ.E):ah Γ (.make j [a]) σ H Q:=by
 show CS (Γ.kt j).1 (Γ.kt j).2 [] Γ.E (bg Γ [a]) σ H Q;rw[m];exact h
theorem tj(d:Nat->St->Hp->Prop)(k:∃m,d m σ H)(h:∀m σ H,d m σ H->bo Γ c σ H λb H1=>if b=true then ∃N:St->Hp->Prop,(∀f H',N f H'->∃g,g<m/\d g f H')/\az Γ body {{D with nx:=az Γ r D} with nx:=N,ct:=N,bk:=az Γ r D} σ H1 else az Γ r D σ H1):az Γ (.mQ c body::r) D σ H:=⟨d,k,h⟩
theorem bf{b:RE}(h:ah Γ a σ H λx H1=>ah Γ b σ H1 λy H2=>dR Γ.K p x y H2 λz c=>∃k,z=.bl k/\QT k c):bo Γ (.cmp p a b) σ H QT:=h
theorem cB(h:ah Γ o σ H λx H1=>∃a C dx b v,x=.ref a/\H1 a=some (.ins C dx b)/\gT Γ.K C/\gB Γ.K C f/\b.lookup f=some v/\Q v H1):ah Γ (.fld o f) σ H Q:=h
theorem ju(h:ah Γ o σ H λx H1=>rN Γ.K (uq m) x H1/\ah Γ a σ H1 λy H2=>wm Γ.K m x [y] H2 Q):ah Γ (.bE m o [a]) σ H Q:=h
theorem iR{K:Frag}{x:Str}(q:Q (.bl<|x==y) H):dR K .Eq (.str x) (.str y) H Q:=by
 show Q (.bl<|false ^^ decide (V.str x=V.str y)) H;rw[zaI,iD];exact q
theorem xH{K:Frag}{x:Str}(q:Q (.bl<|x !=y) H):dR K .NotEq (.str x) (.str y) H Q:=by
 show Q (.bl<|true ^^ decide (V.str x=V.str y)) H;rw[zaP,iD];exact q
end
end L2
namespace L2.B
open PySem PySem.Spec PyProof.Rows
theorem bW.ob(h:bW C H w L rs):∃(dx:Addr)(i o:Int),H w=some (.ins C dx<|wf L i o):=by
 obtain⟨dx,xs,ps,i,o,b,_⟩:=qx5 h;exact⟨dx,i,o,b⟩
theorem Fz{i o:Int}:(wf L i o).lookup ("word":Str)=none/\(wf L i o).lookup ("left":Str)=none/\(wf L i o).lookup ("take":Str)=none:=
 ⟨AV (by decide+kernel) (by decide+kernel) (by decide+kernel),AV (by decide+kernel) (by decide+kernel) (by decide+kernel),AV (by decide+kernel) (by decide+kernel) (by decide+kernel)⟩
inductive A8(vs:List V)(H:Hp)(Q:VK)(E:XK):Prop|i(v:V)(p:Pt)(u:Str)(_:vs=[v,.str u])(_:jh H v p)(_:((∃n,p=.keep n/\∀c t H',ay H H'->H c=none->H' c=some (.lst [.ref t])->H' t=some (.tup [.str "cut",.str u])->Q (.ref c) H')\/
 (p=.put u/\∀c H',ay H H'->H c=none->H' c=some (.lst [])->Q (.ref c) H')))
theorem acU{K:Frag}{et:List (Str×Addr)}:bO (A8) (λE=>aI K [] [] (et:=et) (E:=E)) Nm Nl:=by
 intro l H Q E h;obtain⟨v,p,u,rfl,⟨a,rfl,d⟩,⟨n,rfl,q⟩|⟨rfl,q⟩⟩:=h;refine⟨_,O,.inr<|.inl ⟨_,_,_,_,O,O,aJ.of d,O,_,O,⟨_,O,cK,λt k=>⟨cC,λc b=>?_⟩⟩⟩⟩;have g:=sameNew (o:=.tup [V.str "cut",V.str u]) k;have f:=sameNew (o:=.lst [V.ref t]) b;exact q c t _ (g.trans f) (g.free b) ar<|f _ _ ar;refine⟨_,O,.inr<|.inl ⟨_,_,_,_,O,O,aJ.of d,O,_,O,⟨_,O,.inr<|.inl ⟨_,_,_,_,O,O,aJ.of d,O,_,O,_,O,?_⟩⟩⟩⟩;rw[zqT (show(Pt.put u).val=V.str u from O)];exact⟨zqZ _,λc b=>q c _ (sameNew b) b ar⟩
theorem FA(p:Pt)(t:List Pt)(k:Nat):(eI p t k).length<=t.length+1:=by
 unfold eI;split<;>simp
theorem A9(t:List Pt){k:Nat}(b:k<=aY p):aE (p::t)=bF (aV p k)++aE (eI p t k):=by
 unfold eI;rw[eG,AO p k b];split;rename_i e;have:bF (cP p k)=[]:=by
  have h:=ni p k b;rw[e,zbm] at h;cases p with
  |keep n=>
   have K:(n - (k:Int)).toNat=0:=e▸h;show rK (n - (k:Int)).toNat=[];rw[K];rfl
  |put s=>
   rw[<-e] at h;have K:(⟨(s.cps.toList.drop k).toArray⟩:Str).length=0:=h;rw[lY] at K;show(s.cps.toList.drop k).map At.P=[];rw[zaE.mp K];rfl
  |cut s=>
   rw[<-e] at h;have K:(⟨(s.cps.toList.drop k).toArray⟩:Str).length=0:=h;rw[lY] at K;show(s.cps.toList.drop k).map At.C=[];rw[zaE.mp K];rfl
 rw[this,zae];rw[eG,zam]
theorem u0(p:Pt):(bF p).length=aY p:=by
 cases p with
 |keep n=>show(rK n.toNat).length=_;unfold rK;rw[zaJ];rfl
 |put s=>show(s.cps.toList.map At.P).length=_;rw[zaa];rfl
 |cut s=>show(s.cps.toList.map At.C).length=_;rw[zaa];rfl
theorem FC(t:List Pt){k:Nat}(b:1<=k)(h:k<=aY p):(aE<|eI p t k).length< (aE (p::t)).length:=by
 rw[A9 t h,zqA,u0,xx p k h];lia
theorem u9(h:Γ.ms j=(C,qL C))(d:σ[i]?=some (some<|.ref w))(c:bW C H w L rs)(q:Q (.str<|qK rs) H):ah Γ (.aU j "word" (.v i) []) σ H Q:=by
 obtain⟨dx,a,b,f⟩:=c.ob;exact j6 C (qL C) h<|ag d ⟨w,dx,_,O,f,Fz.1,w,L,rs,O,c,q⟩
theorem u_(h:Γ.ms j=(C,nq C))(d:σ[i]?=some (some<|.ref w))(c:bW C H w L (p::t))(q:Q (.int (aY p:Int)) H):ah Γ (.aU j "left" (.v i) []) σ H Q:=by
 obtain⟨dx,a,b,f⟩:=c.ob;exact j6 C (nq C) h<|ag d ⟨w,dx,_,O,f,Fz.2.1,w,L,p,t,O,c,q⟩
theorem va{t:List Pt}{k:Nat}(h:Γ.ms j=(C,pb C))(g:σ[i]?=some (some<|.ref w))(c:bW C H w L (p::t))(m:1<=k)(f:k<=aY p)(l:∀d:VK,d (.int (k:Int)) H->ah Γ a σ H d)(q:∀r H',aR w H H'->H' r=some (.tup [.str (aV p k).word,(aV p k).val])->H r=none->bW C H' w L (eI p t k)->Q (.ref r) H'):ah Γ (.aU j "take" (.v i) [a]) σ H Q:=by
 obtain⟨dx,x,b,u⟩:=c.ob;exact gJ C (pb C) h<|ag g ⟨w,dx,_,O,u,Fz.2.2,l _ (⟨w,L,p,t,k,O,c,m,f,q⟩)⟩
inductive A_(C:Addr)(vs:List V)(H:Hp)(Q:VK)(E:XK):Prop|i(w L:Addr)(v:V)(rs:List Pt)(t:Pt)(l:List Nat)(ys:List At)(_:vs=[.ref w,v])(_:bW C H w L rs)(_:jh H v t)(_:bA t)(_:(∀s,t≠ .put s))(_:rs.length<=200000)(_:fit l (aE rs))(_:fit (out l<|aE rs) (bF t++ys))(_:∀(c:Addr)(H':Hp)(u:List V)(r d:List Pt)(f:List Nat)(b:List At),aR w H H'->H c=none->H' c=some (.lst u)->aQ H' u r->(∀p∈r,bA p)->bW C H' w L d->aE rs=b++aE d->cH b (bF t) (aE r)->
  fit f (aE d)->fit (out f<|aE d) ys->r.length+d.length<=rs.length+1->Q (.ref c) H')
theorem aR.vb(b:aR w H H')(h:H w=some (.ins C dx f)):dq H H':=λc xs e=>b c _ e (cI e h (by lia))
theorem acV:aV (cP (.cut s) k) m=.cut ⟨((s.cps.toList.drop k).take m).toArray⟩:=O
theorem acW{K:Frag}:bO (A_ C) (λE=>aI K [("part_size",oU),("cut_behind",A8)] [] [] [("word",C,qL C),("take",C,pb C),("left",C,nq C)] (E:=E)) Np Nn:=by
 intro vs H Q E h;obtain⟨w,L,v,rs,g,l,ys,rfl,f,⟨J,rfl,pf⟩,aG,xI,Av,q',p',q⟩:=h;obtain⟨t',B'⟩:=kN aG;refine bw<|cJ<|aH ⟨zqZ _,λc hc=>?_⟩;refine bw<|aC ?_;have b0:aR w H (upd H c<|.lst []):=λb o e _=>by rw[aF<|a_ e hc];exact e
 obtain⟨A',i0,o0,N4⟩:=f.ob;have nu:c≠w:=λz=>by rw[z,N4] at hc;cases hc
 have l7:c≠L:=by
  obtain⟨_,_,_,_,_,zq⟩:=qx5 f;obtain⟨_,hL,_⟩:=qa3 zq;exact(a_ hL hc).symm
 refine tj (λm σ H'=>∃(k:Nat)(u4 u5:Option V)(A:List V)(r I:List Pt)(l':List Nat)(X:List At),m=(aE I).length/\σ=[some (.ref w),some (.ref J),some (.ref c),some (.int (k:Int)),u4,u5]/\aR w H H'/\H' c=some (.lst A)/\aQ H' A r/\
   (∀p∈r,bA p)/\bW C H' w L I/\aE rs=X++aE I/\cH X (bF (aV g k)) (aE r)/\k<=aY g/\fit l' (aE I)/\fit (out l' (aE I)) (bF (cP g k)++ys)/\r.length+I.length<=rs.length+(if k=aY g then 1 else 0))
  ⟨_,0,none,none,[],[],rs,l,[],O,O,b0,ar,.nil,(λp hp=>by cases hp),f.same<|sameNew hc,O,?_,zqZ _,q',by rw[drop_zero];exact p',by simp⟩ ?_
 have e:bF (aV g 0)=[]:=zaE.mp (by rw[u0,xx g 0<|zqZ _]);rw[e];exact .nil;rintro m σ H1 ⟨k,u4,u5,A,r,I,l',X,rfl,rfl,b1,Ba,jv,jE,W,ez,iS,hk,ph,Z,G⟩;have FD:H1 J=some (.tup [.str g.word,g.val]):=b1 _ _ pf (cI pf N4 (by intro z;cases z));have xu:=Paired.length jv;have sz:∀{σ:St}{Q1:VK},σ[1]?=some (some<|.ref J)->Q1 (.int (aY g:Int)) H1->ah (aI K [("part_size",oU),("cut_behind",A8)] [] [] [("word",C,qL C),("take",C,pb C),("left",C,nq C)] (E:=E)) (.call 0 [.v 1]) σ H1 Q1:=by
  intro σ Q1 h1 hq;refine b_ oU O<|av<|ag h1<|aH ⟨_,g,O,⟨J,O,FD⟩,uJ aG,?_⟩;rw[t'];exact hq
 refine bf<|ag O<|sz O ⟨trivial,_,O,?_⟩;by_cases N5:k<aY g;refine iT ⟨_,λv' H' z=>z,?_⟩ (zqT (by lia));have x':=Fw aG N5;have uk:(if k=aY g then 1 else 0)=0:=if_neg (zan N5);rw[uk] at G;cases I with
 |nil=>
  exfalso;have e1:out l' (aE [])=[]:=O;rw[e1] at Z;have:=nr _ _ Z;rw[xD] at this;have w':dJ (bF<|cP g k)=aY g - k:=by
   rw[<-ni g k hk];cases g with
   |keep n=>exact xG _
   |put s=>exact absurd O (xI s)
   |cut s=>show dJ ((s.cps.toList.drop k).map At.C)=_;rw[pd];show _=(⟨(s.cps.toList.drop k).toArray⟩:Str).length;rw[lY]
  simp only[zaX] at this;lia
 |cons p t=>
  have hp:=W.ok p (.head _);obtain⟨N6,xJ⟩:=kN hp;refine ZZ<|bf<|u9 (C:=C) O O W<|aC<|iR ⟨_,O,?_⟩;show if ((p.word:Str)=="cut")=true then _ else _
  have b':∀(H2:Hp)(B:List V)(a:Addr)(pt:Pt),aR w H H2->H2 c=some (.lst B)->aQ H2 B r->H2 a=some (.tup [.str pt.word,pt.val])->
    aR w H (upd H2 c<|.lst<|B++[V.ref a])/\aQ (upd H2 c<|.lst<|B++[V.ref a]) (B++[V.ref a]) (r++[pt]):=by
   intro H2 B a pt bb R oV ir;have tt:dq H2 (upd H2 c<|.lst<|B++[V.ref a]):=aR.upd.bU R;exact⟨λb o e n=>by rw[aF<|a_ e hc];exact bb b o e n,aQ.snoc (oV.mono tt) ⟨a,O,tt _ _ ir⟩⟩
  have Bb:∀(H2:Hp)(B N7:List V)(FE:List Pt),H2 c=some (.lst B)->bW C H2 w L FE->bW C (upd H2 c<|.lst N7) w L FE:=λH2 B N7 FE R W2=>W2.but aR.upd R l7;by_cases pj:p.word="cut"
  
  rw[pj];obtain⟨s,rfl⟩:∃s,p=.cut s:=by
   cases p with
   |keep n=>exact absurd (show(Str.ofString "keep")="cut" from pj) (by decide)
   |put s=>exact absurd (show(Str.ofString "put")="cut" from pj) (by decide)
   |cut s=>exact⟨s,O⟩
  have ta:aV (.cut s) (aY<|.cut s)=.cut s:=take_all _ trivial;have re:eI (.cut s) t (aY<|.cut s)=t:=if_pos O;refine cN<|ju<|ag O ⟨.inl ⟨O,_,au.of Ba⟩,va (C:=C) (k:=aY (.cut s)) O O W xJ (zqR _) (λQ' hq=>u_ (C:=C) O O W hq) λa H2 b2 ha t9 W2=>?_⟩;rw[ta] at ha;rw[re] at W2;have R:H2 c=some (.lst A):=b2 _ _ Ba nu;obtain⟨Bc,i1,o1,Be⟩:=W.ob;have oV:aQ H2 A r:=jv.mono (b2.vb Be);obtain⟨bb,pp⟩:=b' H2 A a (.cut s) (b1.trans b2) R oV ha;refine⟨A,R,dr (by lia),?_⟩;rw[eG] at ph Z ez;obtain⟨la,lb,rfl,f1,f2,f3⟩:=qM _ _ ph;have f0:out la (bF<|.cut s)=[]:=by
   obtain⟨b,rfl⟩:=xh s.cps.toList la [] (by rw[zae];exact f1);have:=nr _ _ f1;have e1:dJ (bF<|.cut s)=s.cps.toList.length:=pd _;rw[e1,zqA] at this;have:b=[]:=zaE.mp (by lia);subst this;have:=AG s.cps.toList [] [];simp only[zae] at this;rw[zae];exact this
  rw[f3,f0,zbP] at Z;refine⟨_,?_,k,u4,u5,A++[V.ref a],r++[.cut s],t,lb,X++bF (.cut s),O,O,bb,ar,pp,?_,Bb H2 _ _ _ R W2,by rw[ez,zam],?_,hk,f2,Z,?_⟩;rw[eG,zqA,u0];lia;intro x hx;rcases zad.mp hx with z|z
  exact jE x z;rw[zab.mp z];exact hp;have:=iS.app (Fy s.cps.toList);rw[zae] at this;rw[gZ,g6];exact this;rw[uk];simp only[zqA,zao,zaX] at G⊢;lia;have iK:((p.word:Str)=="cut")=false:=beq_eq_false_iff_ne.mpr pj;rw[iK];obtain⟨n,hn⟩:∃n,n=min (aY p) (aY g - k):=⟨_,O⟩;have gU:1<=n:=by lia
  have kh:n<=aY p:=by lia
  have y':n<=aY g - k:=by lia
  have c':(if ((aY g:Int) - (k:Int)) < (aY p:Int) then ((aY g:Int) - (k:Int)) else (aY p:Int))=(n:Int):=by
   split<;>lia
  refine bw<|Fm<|av<|u_ (C:=C) O O W<|av<|bT<|sz O<|ag O ⟨trivial,aH ?_⟩;show az _ _ _ ([some<|.ref w,some<|.ref J,some<|.ref c,some<|.int (k:Int),u4,u5].set 4 (some<|V.int (if ((aY g:Int) - (k:Int)) < (aY p:Int) then ((aY g:Int) - (k:Int)) else (aY p:Int)))) H1;rw[c'];refine bw<|va (C:=C) (k:=n) O O W gU kh (λQ' hq=>ag O hq) λa H2 b2 ha t9 W2=>?_;have R:H2 c=some (.lst A):=b2 _ _ Ba nu;obtain⟨Bc,i1,o1,Be⟩:=W.ob;have oV:aQ H2 A r:=jv.mono (b2.vb Be);have N8:H2 J=some (.tup [.str g.word,g.val]):=b2 _ _ FD (cI FD Be (by intro z;cases z));have FF:=b1.trans b2;have u':=AS hp gU kh;have eA:=A9 t kh;have eB:bF (cP g k)=bF (aV (cP g k) n)++bF (cP g<|k+n):=by
   rw[AO (cP g k) n (by rw[ni g k hk];exact y'),drop_drop]
  have eC:bF (aV g<|k+n)=bF (aV g k)++bF (aV (cP g k) n):=by
   have h1:=AO g (k+n) (by lia);have h2:=AO g k hk;rw[eB] at h2;rw[h2,<-zam] at h1;exact(List.append_inj_left' h1 O).symm
  rw[eA] at ph Z ez;obtain⟨la,lb,rfl,f1,f2,f3⟩:=qM _ _ ph;rw[f3,eB,zam] at Z;have g':(out la<|bF<|aV p n).length=n:=by
   rw[AX _ _ f1];cases p with
   |keep m=>exact acR n
   |put s=>show fN ((s.cps.toList.take n).map At.P)=n;rw[acS,zaF];have hh:n<=s.length:=kh;rw[len_list] at hh;lia
   |cut s=>exact absurd O pj
  have FG:dJ (bF<|aV (cP g k) n)=n:=by
   have e:aY (aV (cP g k) n)=n:=xx _ _ (by rw[ni g k hk];exact y');cases g with
   |keep m=>exact xG n
   |put s=>exact absurd O (xI s)
   |cut s=>
    have e':(⟨((s.cps.toList.drop k).take n).toArray⟩:Str).length=n:=e;rw[lY] at e';show dJ (((s.cps.toList.drop k).take n).map At.C)=n;rw[pd];exact e'
  obtain⟨g1,g2⟩:=NU Z (by rw[g',FG]);have a':∀(N:Hp)(jV:List V)(vc:List Pt),aR w H N->N c=some (.lst jV)->aQ N jV vc->(∀x∈vc,bA x)->bW C N w L (eI p t n)->cH (X++bF (aV p n)) (bF<|aV g<|k+n) (aE vc)->vc.length<=r.length+1->
    ∃m',m'< (aE (p::t)).length/\∃(k':Nat)(f' d':Option V)(A:List V)(r I:List Pt)(l':List Nat)(X:List At),m'=(aE I).length/\[some<|V.ref w,some<|.ref J,some<|.ref c,some<|.int<|(k:Int)+(n:Int),some<|.int (n:Int),some<|.ref a]=[some<|.ref w,some<|.ref J,some<|.ref c,some<|.int (k':Int),f',d']/\aR w H N/\N c=some (.lst A)/\aQ N A r/\
    (∀p∈r,bA p)/\bW C N w L I/\aE rs=X++aE I/\cH X (bF<|aV g k') (aE r)/\k'<=aY g/\fit l' (aE I)/\fit (out l'<|aE I) (bF (cP g k')++ys)/\r.length+I.length<=rs.length+(if k'=aY g then 1 else 0):=by
   intro N jV vc b3 U j' n' W3 sP z';refine⟨_,FC t gU kh,k+n,some<|.int (n:Int),some<|.ref a,jV,vc,eI p t n,lb,X++bF (aV p n),O,by rw[zbg],b3,U,j',n',W3,by rw[ez,zam],sP,by lia,f2,g2,?_⟩;have r1:=FA p t n;simp only[zao] at G;by_cases hz:n=aY p;have r2:eI p t n=t:=if_pos hz;rw[r2];split<;>lia
   rw[if_pos (show k+n=aY g by lia)];lia
  refine ZZ<|bf<|bD<|ag O<|aC<|.inr<|.inl ⟨_,_,_,_,O,O,aJ.of N8,O,aC<|iR ⟨_,O,?_⟩⟩;cases g with
  |put s=>exact absurd O (xI s)
  |keep m=>
   refine gi ?_;refine cN<|ju<|ag O ⟨.inl ⟨O,_,au.of R⟩,ag O ⟨A,R,dr (by lia),?_⟩⟩;obtain⟨bb,pp⟩:=b' H2 A a (aV p n) FF R oV ha;refine bw<|bT<|ag O<|ag O ?_;refine a' _ _ (r++[aV p n]) bb ar pp ?_ (Bb H2 _ _ _ R W2) ?_ (by simp);intro x hx;rcases zad.mp hx with z|z
   exact jE x z;rw[zab.mp z];exact u';rw[eC,gZ,g6];refine iS.app ?_;show cH (bF<|aV p n) (rK ((n:Nat):Int).toNat) (bF<|aV p n);rw[zaG];cases p with
   |keep m'=>show cH (rK ((n:Nat):Int).toNat) (rK n) (rK ((n:Nat):Int).toNat);rw[zaG];exact NP n
   |put s=>
    have:=NR (s.cps.toList.take n);rw[zaF] at this;have hh:n<=s.length:=kh;rw[len_list] at hh;rw[show min n s.cps.toList.length=n by lia] at this;exact this
   |cut s=>exact absurd O pj
  |cut s=>
   refine iG ?_;have za:H2 J=some (.tup [.str "cut",.str s]):=N8;refine cN<|ju<|ag O ⟨.inl ⟨O,_,au.of R⟩,b_ A8 O<|av<|ag O<|av ?_⟩;refine⟨_,O,.inr<|.inl ⟨_,_,_,_,O,O,aJ.of za,O,_,O,_,O,_,O,_,O,_,O,cz aG.1.1,?_⟩⟩;rw[Fu k (n:Int) n O];generalize hu:((s.cps.toList.drop k).take n)=u at*;have tm:bF (aV (cP (.cut s) k) n)=u.map At.C:=by rw[<-hu];rfl
   have h':u.length=n:=by rw[tm,pd] at FG;exact FG
   rw[tm] at g1;refine⟨_,aV p n,⟨u.toArray⟩,O,⟨a,O,ha⟩,?_⟩;cases p with
   |cut Y=>exact absurd O pj
   |keep m=>
    refine .inl ⟨_,O,λd tt N F hd FH i'=>?_⟩;have U:=F _ _ R;refine⟨A,[V.ref tt],U,FH,cz (by simp;lia),?_⟩;obtain⟨bb,pp⟩:=b' N A tt (.cut ⟨u.toArray⟩) (λb o e nn=>F b o<|FF b o e nn) U (oV.mono<|dg F) i';refine bw<|bT<|ag O<|ag O ?_;refine a' _ _ (r++[.cut ⟨u.toArray⟩]) bb ar pp ?_ (Bb N _ _ _ U<|W2.same F) ?_ (by simp);intro x hx;rcases zad.mp hx with z|z
    exact jE x z;rw[zab.mp z];have:=AS (Fw aG N5) gU (show n<=aY (cP (.cut s) k) by rw[ni _ k hk];exact y');rw[acV,hu] at this;exact this;rw[eC,gZ,g6,tm];refine iS.app ?_;show cH (rK ((n:Nat):Int).toNat) (u.map At.C) (u.map At.C);rw[zaG,<-h'];exact NQ u
   |put Y=>
    have eu:(Y.cps.toList.take n)=u:=by
     have r':fit la ((Y.cps.toList.take n).map At.P++[]):=by rw[zae];exact f1
     have xM:la=[]:=(sV _ _ _).mp r';subst xM;have o1:out [] (bF<|aV (.put Y) n)=Y.cps.toList.take n:=by
      have:=AF (Y.cps.toList.take n) [] [];rw[zae] at this;exact this.trans<|zae _
     rw[o1] at g1;obtain⟨b,e⟩:=xh u _ [] (by rw[zae];exact g1);have dA:=nr _ _ g1;rw[pd] at dA;rw[e,zqA] at dA;have:b=[]:=zaE.mp (by lia);rw[this,zae] at e;exact e
    refine .inr ⟨by show Pt.put ⟨(Y.cps.toList.take n).toArray⟩=_;rw[eu],λd N F hd FH=>?_⟩;have U:=F _ _ R;refine⟨A,[],U,FH,cz (by simp;lia),?_⟩;rw[zae];have tt:dq N (upd N c<|.lst A):=aR.upd.bU U;refine bw<|bT<|ag O<|ag O ?_;refine a' _ _ r (λb o e nn=>by rw[aF<|a_ e hc];exact F b o (FF b o e nn)) ar ((oV.mono<|dg F).mono tt) jE (Bb N _ _ _ U<|W2.same F) ?_ (zbh _);rw[eC,tm];have:=iS.app (NT u);rw[zae] at this;show cH (X++(Y.cps.toList.take n).map At.P) _ _;rw[eu];exact this
 refine iF ?_ (zqF (by lia));have o':k=aY g:=za5 hk (za4 N5)
 subst o';rw[take_all g<|o9 aG] at iS;have e0:bF (cP g<|aY g)=[]:=zaE.mp (by rw[u0,ni g _<|zqR _,zbm]);rw[e0,zbP] at Z;rw[if_pos O] at G;exact dh<|ag O<|q c H1 A r I l' X b1 hc Ba jv jE W ez iS ph Z G
theorem ac_(ps:List Pt):qx ps=overOf (dC ps):=by
 unfold qx overOf dC;rw[List.filter_map,zbb];congr 1;funext p;cases p<;>rfl
 congr 1;funext p;cases p with
 |keep n=>show(decide<|(Str.ofString "keep")≠"cut")=decide ((Str.ofString "keep")≠"put");decide
 |put n=>show(decide<|(Str.ofString "put")≠"cut")=decide ((Str.ofString "cut")≠"put");decide
 |cut n=>show(decide<|(Str.ofString "cut")≠"cut")=decide ((Str.ofString "put")≠"put");decide
theorem Run.gives(h:Run l ps r):(qx ps).sum=r.length:=by
 rw[ac_];exact h.qE.over
theorem ada(p:Pt):cnt (bF p)=fo p:=by
 cases p with
 |keep n=>
  have:∀m,cnt (rK m)=0:=λm=>by
   induction m with
   |zero=>rfl
   |succ m h=>exact h
  exact this _
 |put s=>
  show cnt (s.cps.toList.map At.P)=s.length;rw[len_list];induction s.cps.toList with
  |nil=>rfl
  |cons c t h=>show cnt (t.map At.P)+1=_;rw[h];rfl
 |cut s=>
  show cnt (s.cps.toList.map At.C)=s.length;rw[len_list];induction s.cps.toList with
  |nil=>rfl
  |cons c t h=>show cnt (t.map At.C)+1=_;rw[h];rfl
theorem xO(ps:List Pt):cnt (aE ps)=aB ps:=by
 induction ps with
 |nil=>rfl
 |cons p ps h=>
  rw[eG,AY,ada,h];simp[aB]
theorem N9(h:ps[i]?=some p):aE (ps.take<|i+1)=aE (ps.take i)++bF p:=by
 rw[zbw,h];simp[aE]
theorem drop_cons(h:ps[i]?=some p):ps.drop i=p::ps.drop (i+1):=by
 have b:=(zah.mp h).1;rw[zbl b];congr 1;exact zal<|(zay b).symm.trans h
structure xQ(one other ps:List Pt)(l r:List Nat):Prop where
 ok:∀p∈ps,bA p
 ch:chainOk "" ps=true
 run:Run l ps r
 res:res 0 (aE ps)=sub (res 0<|aE one) 0 (res 0<|aE other)
 len:ps.length<=3* (one.length+other.length)+2
 aB:aB ps<=aB one+aB other
 aM:∃zs,cH (aE one) (aE other) zs/\nb (aE ps)=nb zs
inductive pw(vs:List V)(H:Hp)(Q:VK)(E:XK):Prop|i(a b:Addr)(xs ys:List V)(d other:List Pt)(l m r:List Nat)(_:vs=[.ref a,.ref b])(_:H a=some (.lst xs))(_:H b=some (.lst ys))(_:aQ H xs d)(_:aQ H ys other)(_:(∀p∈d,bA p))(_:(∀p∈other,bA p))(_:chainOk "" d=true)(_:chainOk "" other=true)(_:d.length+other.length<=180000)(_:aB d+aB other<=100000)(_:Run l d m)(_:Run m other r)(_:∀(c:Addr)(H':Hp)(f:List V)(ps:List Pt),ay H H'->H c=none->H' c=some (.lst f)->aQ H' f ps->xQ d other ps l r->Q (.ref c) H')
theorem adb{l m r:List Nat}(E:Run l c m)(A:Run m other r)(g:∀p∈b,bA p)(X:b.length<=c.length+other.length)(ht:B.aB c+B.aB other<=100000)(h:cH (aE c) (aE other) (aE b)):xQ c other (jj b) l r/\B.aB b<=100000:=by
 have V:=by
  have:=h.cnt;rw[xO,xO,xO] at this;exact this
 have d:=E9 g (zat V ht);have q:=xa b d;obtain⟨Z,G,_⟩:=Ay b d (zat V ht);obtain⟨K,I⟩:=E.fits;obtain⟨t,k⟩:=A.fits;rw[<-I] at t k;obtain⟨R,P,N⟩:=abW h l 0 0 K t;have x:=uS b λp f=>o9 (g p f);have u:=by
  have:=uR b l (λp f=>o9<|g p f) R;rw[P,k] at this;exact this
 have w:=xb b;refine⟨⟨q▸G,by lia,q▸Az u,by rw[abZ x,N],by lia,by rw[q,xf b d];exact V,_,h,x⟩,zat V ht⟩
theorem ade{K:Frag}{et:List (Str×Addr)}(T:qF K C):bO (pw) (λE=>aI K [("sizes",fQ),("parts_behind",A_ C),("neat",lR)] [] [] [("word",C,qL C),("take",C,pb C),("left",C,nq C)] [("Walk",C,lZ C)] (et:=et) (E:=E)) Nt Nr:=by
 intro vs H Q E h;obtain⟨a,b,xs,ys,R,other,l,m,r,rfl,ha,hb,jz,ip,jB,gC,eN,dQ,o',FJ,tw,kO,q⟩:=h;have lx:=Paired.length jz;have ly:=Paired.length ip;obtain⟨f1,f2⟩:=tw.fits;obtain⟨f3,f4⟩:=kO.fits;rw[<-f2] at f3;refine ZZ<|bf<|bD<|b_ fQ O<|av<|ag O<|aH ⟨a,xs,R,O,ha,jz,jB,eN,by lia,λt1 H1 s1 jX=>?_⟩;refine aC<|.inr<|.inl ⟨_,_,_,_,O,O,aJ.of jX,O,?_⟩;refine bD<|b_ fQ O<|av<|ag O<|aH ⟨b,ys,other,O,s1 _ _ hb,ip.mono<|dg s1,gC,dQ,by lia,λt2 H2 s2 sO=>?_⟩;refine aC<|.inr<|.inl ⟨_,_,_,_,O,O,aJ.of sO,O,?_⟩;refine⟨_,O,?_⟩;rw[tw.gives,kO.over,zqT O];have jw:=s1.trans s2;refine bw<|AZ C (lZ C) O<|ag O λw dx hw FK iK=>?_;have s3:ay H2 (upd (upd H2 dx<|.own w) w<|.ins C dx []):=λb o e=>by rw[aF<|a_ e hw,aF<|a_ e FK];exact e
 have tD:=jw.trans s3;refine⟨w,dx,a,xs,R,O,ar,tD _ _ ha,jz.mono<|dg tD,jB,by lia,λL H3 hL q' b3 f=>⟨O,?_⟩⟩;have tE:ay H H3:=λb o e=>b3 b o (tD b o e) (a_ (jw b o e) hw);have fw:H w=none:=jw.free hw;refine bw<|cJ<|aH ⟨zqZ _,λc hc=>?_⟩;have fc:H c=none:=tE.free hc;have l7:c≠L:=by
  obtain⟨_,_,_,_,_,zq⟩:=qx5 f;obtain⟨_,g',_⟩:=qa3 zq;exact(a_ g' hc).symm
 have nu:c≠w:=by
  obtain⟨_,_,_,hW⟩:=f.ob;exact(a_ hW hc).symm
 have N_:∀{N B:Hp},ay H N->aR w N B->ay H B:=λs b d o e=>b d o (s d o e) (a_ e fw);have FL:∀{N:Hp}{o:HO},ay H N->ay H (upd N c o):=λs d o e=>by rw[aF<|a_ e fc];exact s d o e
 refine⟨_,O,b,O,⟨_,au.of ((sameNew (o:=.lst []) hc) _ _ (tE _ _ hb))⟩,lh (K:=K) (a:=b) (xs:=ys) (λi σ N=>∃(u:Option V)(I:List V)(A G:List Pt)(Z:List Nat)(X:List At),σ=[some (.ref a),some (.ref b),some (.ref w),some (.ref c),u]/\ay H N/\N c=some (.lst I)/\
   aQ N I A/\(∀p∈A,bA p)/\bW C N w L G/\aE R=X++aE G/\cH X (aE (other.take i)) (aE A)/\fit Z (aE G)/\fit (out Z (aE G)) (aE (other.drop i))/\A.length+G.length<=R.length+i)
  ⟨none,[],[],R,l,[],O,tE.trans<|sameNew hc,ar,.nil,(λp hp=>by cases hp),f.same<|sameNew hc,O,.nil,f1,f3,by simp⟩
  (by rintro i σ N _ ⟨_,_,_,_,_,_,_,s4,_⟩;exact au.of (s4 _ _ hb)) ?_ ?_⟩
 rintro i y σ N hi zq;obtain⟨u,I,A,G,Z,X,zq⟩:=qx6 zq;obtain⟨rfl,s4,W,J,jE,W4,U,Y,fa,fb,Oa⟩:=qa11 zq;obtain⟨p,hp,jS⟩:=ip.get hi;obtain⟨F,rfl,pf⟩:=jS.mono (dg s4);have d9:i<other.length:=(zah.mp hp).1;have iU:=gC p (zak hp);have E3:=Paired.length J;rw[drop_cons hp,eG] at fb;refine ZZ<|bf<|bD<|ag O<|aC<|.inr<|.inl ⟨_,_,_,_,O,O,aJ.of pf,O,aC<|iR ⟨_,O,?_⟩⟩;have a':(∀s,p≠ .put s)->az (aI K [("sizes",fQ),("parts_behind",A_ C),("neat",lR)] [] [] [("word",C,qL C),("take",C,pb C),("left",C,nq C)] [("Walk",C,lZ C)] (et:=et) (E:=E)) [.drop<|.bE .extend (.v 3) [(.call 1 [.v 2,.v 4])]]
   {nx:=λσ N=>∃(u:Option V)(I:List V)(A G:List Pt)(Z:List Nat)(X:List At),σ=[some (.ref a),some (.ref b),some (.ref w),some (.ref c),u]/\ay H N/\N c=some (.lst I)/\
  aQ N I A/\(∀p∈A,bA p)/\bW C N w L G/\aE R=X++aE G/\cH X (aE (other.take (i+1))) (aE A)/\fit Z (aE G)/\fit (out Z (aE G)) (aE (other.drop (i+1)))/\A.length+G.length<=R.length+(i+1),rt:=Q} [some (.ref a),some (.ref b),some (.ref w),some (.ref c),some (.ref F)] N:=by
  intro xI;refine cN<|ju<|ag O ⟨.inl ⟨O,_,au.of W⟩,b_ (A_ C) O<|av<|ag O<|av<|ag O<|aH ?_⟩;refine⟨w,L,_,G,p,Z,_,O,W4,⟨F,O,pf⟩,iU,xI,by lia,fa,fb,λd B sZ n' d' l5 b' b5 hd h' Ob m' W5 k' Bf j' i' tF=>?_⟩;have oX:B c=some (.lst I):=b5 _ _ W nu;obtain⟨_,_,_,f'⟩:=W4.ob;have r':=Paired.length Ob;refine⟨I,sZ,oX,h',cz (by lia),?_⟩;have tt:dq B (upd B c<|.lst<|I++sZ):=aR.upd.bU oX;refine⟨some<|.ref F,I++sZ,A++n',d',l5,X++b',O,FL<|N_ s4 b5,ar,Paired.app ((J.mono<|b5.vb f').mono tt)<|Ob.mono tt,?_,W5.but aR.upd oX l7,by rw[U,k',zam],?_,j',i',?_⟩;intro x hx;rcases zad.mp hx with z|z
  exact jE x z;exact m' x z;rw[N9 hp,gZ];exact Y.app Bf;simp only[zqA];lia
 cases p with
 |put s=>
  refine gi ?_;refine cN<|ju<|ag O ⟨.inl ⟨O,_,au.of W⟩,ag O ⟨I,W,dr (by lia),?_⟩⟩;have tt:dq N (upd N c<|.lst<|I++[V.ref F]):=aR.upd.bU W;refine⟨some<|.ref F,I++[V.ref F],A++[.put s],G,Z,X,O,FL s4,ar,aQ.snoc (J.mono tt) ⟨F,O,tt _ _ pf⟩,?_,W4.but aR.upd W l7,U,?_,fa,(sV _ _ _).mp fb,by simp;lia⟩;intro x hx;rcases zad.mp hx with z|z
  exact jE x z;rw[zab.mp z];exact iU;rw[N9 hp,gZ,g6];have:=Y.app (NO s.cps.toList);rw[zae] at this;exact this
 |keep n=>exact iG (a' λs z=>by cases z)
 |cut s=>exact iG (a' λs z=>by cases z)
 rintro σ N ⟨u,I,A,G,Z,X,rfl,s4,W,J,jE,W4,U,Y,fa,fb,Oa⟩;rw[ly,zbu] at Y;rw[ly,zbX] at fb;have oe:out Z (aE G)=[]:=fb;refine tj (λmm σ B=>∃(I:List V)(A G:List Pt)(Z:List Nat)(X:List At),mm=G.length/\σ=[some (.ref a),some (.ref b),some (.ref w),some (.ref c),u]/\ay H B/\B c=some (.lst I)/\
  aQ B I A/\(∀p∈A,bA p)/\bW C B w L G/\aE R=X++aE G/\cH X (aE other) (aE A)/\fit Z (aE G)/\out Z (aE G)=[]/\A.length+G.length<=R.length+other.length)
  ⟨_,I,A,G,Z,X,O,O,s4,W,J,jE,W4,U,Y,fa,oe,by lia⟩ ?_
 rintro mm σ B ⟨I,A,G,Z,X,rfl,rfl,s5,oX,J,jE,W5,U,Y,fa,oe,tF⟩;have E3:=Paired.length J;refine bf<|u9 (C:=C) O O W5<|aC<|xH ⟨_,O,?_⟩;cases G with
 |nil=>
  refine iF ?_ O;rw[show aE []=[] from O,zae] at U;subst U;obtain⟨g,FI⟩:=adb tw kO jE (by simp at tF;exact tF) FJ Y;refine dh<|b_ lR O<|av<|ag O<|aH ⟨c,I,A,O,oX,J,by simp at tF;lia,FI,λd H6 ws s6 hd h6 l8=>?_⟩;exact q d H6 ws _ (s5.trans s6) (s5.free hd) h6 l8 g
 |cons p t=>
  have iU:=W5.ok p (.head _);obtain⟨N6,xJ⟩:=kN iU;have pj:∃s,p=.cut s:=by
   have mL:=NV _ _ fa oe;cases p with
   |cut s=>exact⟨s,O⟩
   |keep n=>
    exfalso;have gU:(1:Int)<=n:=iU;obtain⟨c',e⟩:=mL .K (by rw[eG];refine zav _ ?_;show At.K∈rK n.toNat;unfold rK;rw[List.mem_replicate];exact⟨by lia,O⟩);cases e
   |put s=>
    exfalso;obtain⟨c0,r0,e0⟩:=AI iU.2;obtain⟨c',e⟩:=mL (.P c0) (by rw[eG];refine zav _ ?_;show At.P c0∈s.cps.toList.map At.P;rw[e0];exact .head _);cases e
  obtain⟨s,rfl⟩:=pj;have ta:aV (.cut s) (aY<|.cut s)=.cut s:=take_all _ trivial;have re:eI (.cut s) t (aY<|.cut s)=t:=if_pos O;refine iT ⟨_,λp' H' z=>z,?_⟩ O;refine cN<|ju<|ag O ⟨.inl ⟨O,_,au.of oX⟩,va (C:=C) (k:=aY (.cut s)) O O W5 xJ (zqR _) (λQ' hq=>u_ (C:=C) O O W5 hq) λF H6 b6 pf t9 W6=>?_⟩;rw[ta] at pf;rw[re] at W6;have jn:H6 c=some (.lst I):=b6 _ _ oX nu;obtain⟨_,_,_,e'⟩:=W5.ob;simp only[zao] at tF;refine⟨I,jn,dr (by lia),?_⟩;have tt:dq H6 (upd H6 c<|.lst<|I++[V.ref F]):=aR.upd.bU jn;rw[eG] at fa oe U;obtain⟨la,lb,zq⟩:=qx2 (qM _ _ fa);obtain⟨rfl,g1,g2,g3⟩:=qa4 zq;rw[g3] at oe;refine⟨t.length,by simp,I++[V.ref F],A++[.cut s],t,lb,X++bF (.cut s),O,O,FL<|N_ s5 b6,ar,aQ.snoc ((J.mono<|b6.vb e').mono tt) ⟨F,O,tt _ _ pf⟩,?_,W6.but aR.upd jn l7,by rw[U,zam],?_,g2,(List.append_eq_nil_iff.mp oe).2,by simp;lia⟩;intro x hx;rcases zad.mp hx with z|z
  exact jE x z;rw[zab.mp z];exact iU;rw[gZ,g6];have:=Y.app (Fy s.cps.toList);rw[zae] at this;exact this
def xS(w c d:Addr)(H H':Hp):Prop:= ∀b o,H b=some o->b≠w->b≠c->b≠d->H' b=some o
theorem bW.Oc{v c d:Addr}{rs:List Pt}{ys:List V}(h:bW C H w L rs)(b:xS v c d H H')(l:H c=some (.lst xs))(k:H d=some (.lst ys))(u:c≠L)(t:d≠L)(q:w≠v)(r:∃p dx E,H v=some (.ins p dx E)):bW C H' w L rs:=by
 obtain⟨p,N,A,g⟩:=r;refine h.keep λe o f z=>b e o f ?_ ?_ ?_
 all_goals obtain⟨dx,_,_,_,_,m,x,_⟩:=h
 rcases z with rfl|rfl|⟨ys,rfl⟩
 exact q;exact cI x g (by lia);exact cI f g (by lia);rcases z with rfl|rfl|⟨ys,rfl⟩
 exact cI m l (by lia);exact u.symm;exact cI f l (by lia);rcases z with rfl|rfl|⟨ys,rfl⟩
 exact cI m k (by lia);exact t.symm;exact cI f k (by lia)
inductive Bg(C:Addr)(vs:List V)(H:Hp)(Q:VK)(E:XK):Prop|i(w L c d:Addr)(s:Str)(t:List Pt)(xs ys:List V)(_:vs=[.ref w,.ref c,.ref d])(_:bW C H w L (.put s::t))(_:H c=some (.lst xs))(_:H d=some (.lst ys))(_:c≠d)(_:c≠L)(_:d≠L)(_:xs.length<=100000)(_:ys.length<=100000)(_:∀(a b:Addr)(H':Hp),xS w c d H H'->H' c=some (.lst<|xs++[.ref a])->H' d=some (.lst<|ys++[.ref b])->H' a=some (.tup [.str "put",.str s])->H' b=some (.tup [.str "keep",.int (s.length:Int)])->bW C H' w L t->Q .aD H')
theorem adt{K:Frag}:bO (Bg C) (λE=>aI K [("part_size",oU)] [] [] [("take",C,pb C),("left",C,nq C)] (E:=E)) Nd Nc:=by
 intro vs H Q E h;obtain⟨w,L,c,d,s,t,xs,ys,rfl,f,Z,X,P,l7,F,lx,ly,q⟩:=h;have I:=f.ok _ (.head _);obtain⟨N6,J⟩:=kN I;have U:aV (.put s) (aY<|.put s)=.put s:=take_all _ trivial;have Y:eI (.put s) t (aY<|.put s)=t:=if_pos O;refine bw<|va O O f J (zqR _) (λQ' hq=>u_ O O f hq) λa H1 m u t9 W=>?_;rw[U] at u;rw[Y] at W;obtain⟨_,_,_,R⟩:=f.ob;have N:=m _ _ Z (cI Z R (by lia));refine cN<|ju<|ag O ⟨.inl ⟨O,_,au.of N⟩,ag O ⟨xs,N,dr (zat lx (za0 _ _)),?_⟩⟩;have g:upd H1 c (.lst<|xs++[V.ref a]) d=some (.lst ys):=by rw[aF P.symm];exact (m _ _ X (cI X R (by lia)))
 have r:upd H1 c (.lst<|xs++[V.ref a]) a=some (.tup [.str "put",.str s]):=by rw[aF<|cI u N (by lia)];exact u
 refine cN<|ju<|ag O ⟨.inl ⟨O,_,au.of g⟩,iu<|av<|aC<|av<|b_ oU O<|av<|ag O<|aH ⟨_,.put s,O,⟨a,O,r⟩,uJ I,aH ⟨cK,λl k=>?_⟩⟩⟩;have G:upd (upd H1 c<|.lst<|xs++[V.ref a]) l (.tup [.str "keep",.int<|sL<|.put s]) d=some (.lst ys):=by rw[aF<|a_ g k];exact g
 refine⟨ys,G,dr (zat ly (za0 _ _)),?_⟩;have B:c≠l:=λz=>by rw[<-z,ar] at k;cases k
 have f2:=by rw[aF B.symm] at k;exact k
 refine q a l _ ?_ ?_ ar ?_ ?_ ?_;intro b o e A n2 n3;rw[aF n3,aF<|a_ (m b o e A) f2,aF n2];exact m b o e A;rw[aF P,aF B,ar];rw[aF<|cI r g (by lia),aF<|a_ r k];exact r;rw[aF (a_ g k).symm,ar];rfl;refine((W.but aR.upd N l7).same<|sameNew k).but aR.upd G F
inductive FO(vs:List V)(H:Hp)(Q:VK)(E:XK):Prop|i(h g:V)(c d:Addr)(f p:Pt)(xs ys:List V)(_:vs=[h,g,.ref c,.ref d])(_:jh H h f)(_:jh H g p)(_:(∀s,f≠ .put s))(_:(∀s,p≠ .put s))(_:(∀s s',f=.cut s->p=.cut s'->s=s'))(_:H c=some (.lst xs))(_:H d=some (.lst ys))(_:c≠d)(_:xs.length<=100000)(_:ys.length<=100000)(_:∀(H':Hp),(∀b o,H b=some o->b≠c->b≠d->H' b=some o)->H' c=some (.lst<|xs++if MK p then [h] else [])->H' d=some (.lst<|ys++if MK f then [g] else [])->Q .aD H')
theorem adw{K:Frag}{et:List (Str×Addr)}:bO (FO) (λE=>aI K [] [] (et:=et) (E:=E)) Ng Nf:=by
 intro W H Q E h;obtain⟨v1,Y,c,d,B,N,xs,ys,rfl,⟨t,rfl,l⟩,⟨a2,rfl,r⟩,U,R,A,g,p,P,lx,ly,q⟩:=h;have u:∀f,upd H c (.lst f) d=some (.lst ys):=λf=>by rw[aF P.symm];exact p
 have J:∀f b o,H b=some o->b≠c->b≠d->upd H c (.lst f) b=some o:=λf b o e x _=>by rw[aF x];exact e
 have F:∀f b o,H b=some o->b≠c->b≠d->upd H d (.lst f) b=some o:=λf b o e _ w=>by rw[aF w];exact e
 have G:∀f I b o,H b=some o->b≠c->b≠d->upd (upd H c<|.lst f) d (.lst I) b=some o:=λf I b o e x w=>by rw[aF w,aF x];exact e
 cases B with
 |put s=>exact absurd O (U s)
 |keep n=>
  refine⟨_,O,.inr<|.inl ⟨_,_,_,_,O,O,aJ.of l,O,_,O,?_⟩⟩;refine⟨_,O,.inr<|.inl ⟨_,_,_,_,O,O,aJ.of r,O,_,O,?_⟩⟩;cases N with
  |put s=>exact absurd O (R s)
  |keep m=>
   refine⟨_,O,.inl ⟨O,_,au.of g⟩,_,O,xs,g,dr (zat lx (za0 _ _)),?_⟩;have X:upd H c (.lst<|xs++[V.ref t]) t=some (.tup [.str "keep",.int n]):=by rw[aF<|cI l g (by lia)];exact l
   refine⟨_,O,.inr<|.inl ⟨_,_,_,_,O,O,aJ.of X,O,_,O,?_⟩⟩;refine⟨_,O,.inl ⟨O,_,au.of<|u _⟩,_,O,ys,u _,dr (zat ly (za0 _ _)),?_⟩;exact q _ (G _ _) (by rw[aF P,ar];rfl) (by rw[ar];rfl)
  |cut s=>
   refine⟨_,O,.inl ⟨O,_,au.of p⟩,_,O,ys,p,dr (zat ly (za0 _ _)),?_⟩;exact q _ (F _) (by rw[aF P,g];simp[MK]) (by rw[ar];rfl)
 |cut s=>
  refine⟨_,O,.inr<|.inl ⟨_,_,_,_,O,O,aJ.of l,O,_,O,?_⟩⟩;refine⟨_,O,.inr<|.inl ⟨_,_,_,_,O,O,aJ.of r,O,_,O,?_⟩⟩;cases N with
  |put s=>exact absurd O (R s)
  |keep m=>
   refine⟨_,O,.inr<|.inl ⟨_,_,_,_,O,O,aJ.of r,O,_,O,?_⟩⟩;refine⟨_,O,.inl ⟨O,_,au.of g⟩,_,O,xs,g,dr (zat lx (za0 _ _)),?_⟩;have X:upd H c (.lst<|xs++[V.ref t]) t=some (.tup [.str "cut",.str s]):=by rw[aF<|cI l g (by intro z;cases z)];exact l
   refine⟨_,O,.inr<|.inl ⟨_,_,_,_,O,O,aJ.of X,O,_,O,?_⟩⟩;exact q _ (J _) (by rw[ar];rfl) (by rw[u];simp[MK])
  |cut Z=>
   have e:=A s Z O O;subst e;refine⟨_,O,.inr<|.inl ⟨_,_,_,_,O,O,aJ.of l,O,_,O,.inr<|.inl ⟨_,_,_,_,O,O,aJ.of r,O,_,O,?_⟩⟩⟩;rw[zaP,zqT (show(Pt.cut s).val=(Pt.cut s).val from O)];exact q _ (λb o e _ _=>e) (by rw[g];simp[MK]) (by rw[p];simp[MK])
end L2.B
namespace L2
open PySem PySem.Spec PyProof.Rows
theorem ady{d:Bool->Hp->Prop}(h:bo Γ a σ H λc H1=>if c=true then d true H1 else bo Γ b σ H1 d):bo Γ (.or [a,b]) σ H d:=h
end L2
namespace L2.B
open PySem PySem.Spec PyProof.Rows
inductive fW:List At->List At->List At->List At->Prop
 |nil:fW [] [] [] []
 |p1 {c xs ys b t}:fW xs ys b t->fW (.P c::xs) ys (.P c::b) (.K::t)
 |p2 {c xs ys b t}:(∀d f,xs≠ .P d::f)->fW xs ys b t->fW xs (.P c::ys) (.K::b) (.P c::t)
 |kk {xs ys b t}:fW xs ys b t->fW (.K::xs) (.K::ys) (.K::b) (.K::t)
 |kc {c xs ys b t}:fW xs ys b t->fW (.K::xs) (.C c::ys) b (.C c::t)
 |ck {c xs ys b t}:fW xs ys b t->fW (.C c::xs) (.K::ys) (.C c::b) t
 |cc {c xs ys b t}:fW xs ys b t->fW (.C c::xs) (.C c::ys) b t
def Seg(a b o t:List At):Prop:=du a b o t/\∀xs ys d c,fW xs ys d c->fW (a++xs) (b++ys) (o++d) (t++c)
theorem adz(s:List Nat):Seg (s.map .P) [] (s.map .P) (rK s.length):=⟨NX s,by
 induction s with
 |nil=>intro xs ys b t h;exact h
 |cons c s d=>intro xs ys b t h;exact .p1 (d xs ys b t h)⟩
theorem adA(n:Nat):Seg (rK n) (rK n) (rK n) (rK n):=⟨NZ n,by
 induction n with
 |zero=>intro xs ys b t h;exact h
 |succ n c=>intro xs ys b t h;exact .kk (c xs ys b t h)⟩
theorem adB(s:List Nat):Seg (rK s.length) (s.map .C) [] (s.map .C):=⟨N1 s,by
 induction s with
 |nil=>intro xs ys b t h;exact h
 |cons c s d=>intro xs ys b t h;exact .kc (d xs ys b t h)⟩
theorem adC(s:List Nat):Seg (s.map .C) (rK s.length) (s.map .C) []:=⟨N2 s,by
 induction s with
 |nil=>intro xs ys b t h;exact h
 |cons c s d=>intro xs ys b t h;exact .ck (d xs ys b t h)⟩
theorem adD(s:List Nat):Seg (s.map .C) (s.map .C) [] []:=⟨N3 s,by
 induction s with
 |nil=>intro xs ys b t h;exact h
 |cons c s d=>intro xs ys b t h;exact .cc (d xs ys b t h)⟩
theorem Oe{xs ys b t:List At}(f:∀d g,xs≠ .P d::g)(h:fW xs ys b t):∀s:List Nat,fW xs (s.map .P++ys) (rK s.length++b) (s.map .P++t)
 |[]=>h
 |c::s=>.p2 f (Oe f h s)
def ma(xs ys a b g f o t:List At):Prop:=du g f o t/\∀d c,fW a b d c->fW xs ys (o++d) (t++c)
theorem ma.seg{xs c a b1 b f d o t g t1:List At}(h:ma xs ys (c++a) (b1++b) f d o t)(s:Seg c b1 g t1):ma xs ys a b (f++c) (d++b1) (o++g) (t++t1):=
 ⟨h.1.app s.1,λl k p=>by rw[zam,zam];exact h.2 _ _ (s.2 _ _ _ _ p)⟩
theorem ma.p2{xs a b f c o t:List At}{s:List Nat}(k:∀d g,a≠ .P d::g)(h:ma xs ys a (s.map .P++b) f c o t):ma xs ys a b f (c++s.map .P) (o++rK s.length) (t++s.map .P):=
 ⟨by have:=h.1.app (NY s);rw[zae] at this;exact this,λm l p=>by rw[zam,zam];exact h.2 _ _ (Oe k p s)⟩
theorem adE(g:∀p∈ps,bA p)(h:qK ps≠"put"):∀d b,aE ps≠ .P d::b:=by
 intro d b;cases ps with
 |nil=>intro z;cases z
 |cons p t=>
  have f:=g p (.head _);cases p with
  |put s=>exact absurd O h
  |keep n=>
   obtain⟨m,e⟩:∃m,n.toNat=m+1:=⟨n.toNat - 1,by have:1<=n:=f;lia⟩;show rK n.toNat++_≠_;rw[e];intro z;cases z
  |cut s=>
   obtain⟨c,r,e⟩:=AI f.2;show s.cps.toList.map At.C++_≠_;rw[e];intro z;cases z
structure Passed(one other ps qs:List Pt)(l m n:List Nat):Prop where
 ok1:∀p∈ps,bA p
 ok2:∀p∈qs,bA p
 ch1:chainOk "" ps=true
 ch2:chainOk "" qs=true
 runs:∃r,Run n ps r/\Run m qs r
 xU:ps.length<=3* (one.length+other.length)+2
 xV:qs.length<=3* (one.length+other.length)+2
 adJ:aB ps<=aB one
 adK:aB qs<=aB other
 pas:∃os ts,du (aE one) (aE other) os ts/\nb (aE ps)=nb os/\nb (aE qs)=nb ts
 ak4:∃os ts,fW (aE one) (aE other) os ts/\nb (aE ps)=nb os/\nb (aE qs)=nb ts
theorem Of(c:∀p∈ps,bA p)(ht:aB ps<=100000)(h:fit l (aE ps)):(∀p∈jj ps,bA p)/\chainOk "" (jj ps)=true/\Run l (jj ps) (out l<|aE ps)/\aB (jj ps)=aB ps:=by
 have b:=E9 c ht;obtain⟨f,g,_⟩:=Ay ps b ht;rw[(xa ps b)];exact⟨g,f,Az<|uR ps l (λp d=>o9<|c p d) h,xf ps b⟩
theorem adL{l m n:List Nat}(x:Run l b m)(w:Run l other n)(g:∀p∈c,bA p)(f:∀p∈r,bA p)(l1:c.length<=b.length+other.length)(l2:r.length<=b.length+other.length)(ht:aB b+aB other<=100000)(h:du (aE b) (aE other) (aE c) (aE r))(u:fW (aE b) (aE other) (aE c) (aE r)):Passed b other (jj c) (jj r) l m n/\aB c<=100000/\aB r<=100000:=by
 obtain⟨N,K⟩:=h.acT;rw[xO,xO] at N K;obtain⟨I,G⟩:=x.fits;obtain⟨E,A⟩:=w.fits;obtain⟨t,q,k⟩:=h.fits l I E;rw[A] at q k;obtain⟨Z,X,V,W⟩:=Of g (zat (za8 N) ht) q;obtain⟨R,P,U,J⟩:=Of f (zat (zcr K) ht) t;have F:=xb c;have B:=xb r;refine⟨⟨Z,R,X,P,⟨_,V,by lia⟩,by lia,by lia,zat (za3 W) N,zat (za3 J) K,⟨_,_,h,uS c λp d=>o9 (g p d),uS r λp d=>o9 (f p d)⟩,⟨_,_,u,uS c λp d=>o9 (g p d),uS r λp d=>o9 (f p d)⟩⟩,zat (za8 N) ht,zat (zcr K) ht⟩
inductive xW(vs:List V)(H:Hp)(Q:VK)(E:XK):Prop|i(a b:Addr)(xs ys:List V)(f other:List Pt)(l m n:List Nat)(_:vs=[.ref a,.ref b])(_:H a=some (.lst xs))(_:H b=some (.lst ys))(_:aQ H xs f)(_:aQ H ys other)(_:(∀p∈f,bA p))(_:(∀p∈other,bA p))(_:chainOk "" f=true)(_:chainOk "" other=true)(_:f.length+other.length<=30000)(_:aB f+aB other<=100000)(_:Run l f m)(_:Run l other n)(_:∀(t c d:Addr)(H':Hp)(g w:List V)(ps q:List Pt),ay H H'->H c=none->H d=none->c≠d->H' t=some (.tup [.ref c,.ref d])->H' c=some (.lst g)->H' d=some (.lst w)->aQ H' g ps->aQ H' w q->Passed f other ps q l m n->Q (.ref t) H')
noncomputable abbrev xX(C:Addr):List (Str×Sp):=[("sizes",fQ),("put_first",Bg C),("share",FO),("neat",lR)]
noncomputable abbrev xY(C:Addr):List (Str×Addr×Sp):=[("word",C,qL C),("left",C,nq C),("take",C,pb C)]
theorem Og:(qK (p::t) !="")=true:=by
 cases p<;>rfl
theorem adM{K:Frag}{et:List (Str×Addr)}(T:qF K C):bO (xW) (λE=>aI K (xX C) [] [] (xY C) [("Walk",C,lZ C)] (et:=et) (E:=E)) Ni Nh:=by
 intro vs H Q E h;obtain⟨a,b,xs,ys,R,other,l,m,n,rfl,ha,hb,jz,ip,jB,gC,eN,dQ,I',FJ,tw,kO,q⟩:=h;have lx:=Paired.length jz;have ly:=Paired.length ip;obtain⟨f1,f2⟩:=tw.fits;obtain⟨f3,f4⟩:=kO.fits;refine ZZ<|bf<|bD<|b_ fQ O<|av<|ag O<|aH ⟨a,xs,R,O,ha,jz,jB,eN,by lia,λt1 H1 s1 jX=>?_⟩;refine aC<|.inr<|.inl ⟨_,_,_,_,O,O,aJ.of jX,O,?_⟩;refine bD<|b_ fQ O<|av<|ag O<|aH ⟨b,ys,other,O,s1 _ _ hb,ip.mono<|dg s1,gC,dQ,by lia,λt2 H2 s2 sO=>?_⟩;refine aC<|.inr<|.inl ⟨_,_,_,_,O,O,aJ.of sO,O,?_⟩;show ∃k,V.bl (true ^^ decide (V.int (overOf R).sum=V.int (overOf other).sum))=V.bl k/\_;refine⟨_,O,?_⟩;rw[tw.over,kO.over,zqT O];have jw:=s1.trans s2;refine bw<|AZ C (lZ C) O<|ag O λw dx hw FK iK=>?_;have s3:ay H2 (upd (upd H2 dx<|.own w) w<|.ins C dx []):=λb o e=>by rw[aF<|a_ e hw,aF<|a_ e FK];exact e
 have tD:=jw.trans s3;refine⟨w,dx,a,xs,R,O,ar,tD _ _ ha,jz.mono<|dg tD,jB,by lia,λL H3 hL W' b3 f=>⟨O,?_⟩⟩;have tE:ay H H3:=λb o e=>b3 b o (tD b o e) (a_ (jw b o e) hw);have fw:H w=none:=jw.free hw;refine bw<|AZ C (lZ C) O<|ag O λv FQ hv E' a0=>?_;have s4:ay H3 (upd (upd H3 FQ<|.own v) v<|.ins C FQ []):=λb o e=>by rw[aF<|a_ e hv,aF<|a_ e E'];exact e
 have vd:=tE.trans s4;refine⟨v,FQ,b,ys,other,O,ar,vd _ _ hb,ip.mono<|dg vd,gC,by lia,λM H5 hM U' b5 V5=>⟨O,?_⟩⟩;have Oh:ay H3 H5:=λb o e=>b5 b o (s4 b o e) (a_ e hv);have tG:=tE.trans Oh;have fv:H v=none:=tE.free hv;have W5:=f.same Oh;obtain⟨_,_,_,FR⟩:=f.ob;have Bi:w≠v:=a_ FR hv;refine bw<|cJ<|aH ⟨zqZ _,λc hc=>?_⟩;refine bw<|cJ<|aH ⟨zqZ _,λd hd=>?_⟩;have kP:c≠d:=λz=>by rw[<-z,ar] at hd;cases hd
 have FT:H5 d=none:=by rw[aF kP.symm] at hd;exact hd
 have fc:H c=none:=tG.free hc;have fd:H d=none:=tG.free FT;have a':∀{H4:Hp}{w' L':Addr}{rs:List Pt},bW C H4 w' L' rs->∃Z,H4 L'=some (.lst Z):=λ⟨_,Z,_,_,_,_,h,_⟩=>⟨Z,h⟩;obtain⟨_,Oi⟩:=a' W5;obtain⟨_,Oj⟩:=a' V5;have l7:c≠L:=(a_ Oi hc).symm;have kQ:c≠M:=(a_ Oj hc).symm;have xT:d≠L:=(a_ Oi FT).symm;have FU:d≠M:=(a_ Oj FT).symm;have s6:ay H5 (upd (upd H5 c<|.lst []) d<|.lst []):=(sameNew hc).trans (sameNew hd);refine tj (λmm σ X=>∃(u:Option V)(Z W:List V)(F B P I:List Pt)(z1 z2:List At)(l':List Nat),mm=(aE P).length+(aE I).length/\σ=[some (.ref a),some (.ref b),some (.ref w),some (.ref v),some (.ref c),some (.ref d),u]/\ay H X/\X c=some (.lst Z)/\X d=some (.lst W)/\
   aQ X Z F/\aQ X W B/\(∀p∈F,bA p)/\(∀p∈B,bA p)/\bW C X w L P/\bW C X v M I/\aE R=z1++aE P/\aE other=z2++aE I/\ma (aE R) (aE other) (aE P) (aE I) z1 z2 (aE F) (aE B)/\fit l' (aE P)/\fit l' (aE I)/\
   F.length+P.length+I.length<=R.length+other.length/\B.length+P.length+I.length<=R.length+other.length)
  ⟨_,none,[],[],[],[],R,other,[],[],l,O,O,tG.trans s6,(by rw[aF kP,ar]),ar,.nil,.nil,(λp hp=>by cases hp),(λp hp=>by cases hp),W5.same s6,V5.same s6,O,O,⟨.nil,λ_ _ h=>h⟩,f1,f3,by simp,by simp⟩ ?_
 rintro mm σ X ⟨u,Z,W,F,B,P,I,z1,z2,l',rfl,rfl,s_,jn,pA,hz,l8,o1,o2,W6,V6,e1,e2,nA,fa,fb,xU,xV⟩;have E3:=Paired.length hz;have zo:=Paired.length l8;obtain⟨Y',iw,ow,tH⟩:=W6.ob;obtain⟨Z',iv,ov,Bj⟩:=V6.ob;have nu:c≠w:=cI jn tH (by intro z;cases z);have Ol:c≠v:=cI jn Bj (by intro z;cases z);have Bh:d≠w:=cI pA tH (by intro z;cases z);have Om:d≠v:=cI pA Bj (by intro z;cases z);have y':P=[]->I=[]->az (aI K (xX C) [] [] (xY C) [("Walk",C,lZ C)] (et:=et) (E:=E)) [.ret<|.tup [(.call 3 [.v 4]),(.call 3 [.v 5])]] (Dn Q) [some<|.ref a,some<|.ref b,some<|.ref w,some<|.ref v,some<|.ref c,some<|.ref d,u] X:=by
  rintro rfl rfl;rw[show aE []=[] from O,zae] at e1 e2;subst e1 e2;simp only[zaX] at xU xV;have hO:=nA.2 [] [] .nil;rw[zae,zae] at hO;have nA:=nA.1;obtain⟨A,t1,t2⟩:=adL tw kO o1 o2 xU xV FJ nA hO;refine dh<|iu<|av<|b_ lR O<|av<|ag O<|aH ⟨c,Z,F,O,jn,hz,by lia,t1,λe U h' s7 G h7 xr=>?_⟩;refine av<|b_ lR O<|av<|ag O<|aH ⟨d,W,B,O,s7 _ _ pA,l8.mono<|dg s7,by lia,t2,λg H8 g' s8 hg h8 r'=>?_⟩;refine aH ⟨cK,λt ht=>?_⟩;have s9:=sameNew (o:=.tup [V.ref e,V.ref g]) ht;have q':e≠g:=a_ h7 hg;exact q t e g _ h' g' _ _ (s_.trans<|s7.trans<|s8.trans s9) (s_.free G) ((s_.trans s7).free hg) q' ar (s9 _ _<|s8 _ _ h7) (s9 _ _ h8) ((xr.mono<|dg s8).mono<|dg s9) (r'.mono<|dg s9) A
 have b':(P≠ []\/I≠ [])->∃N:St->Hp->Prop,(∀c' H',N c' H'->∃m',m'< (aE P).length+(aE I).length/\∃(u:Option V)(Z W:List V)(F B P I:List Pt)(z1 z2:List At)(l':List Nat),m'=(aE P).length+(aE I).length/\c'=[some (.ref a),some (.ref b),some (.ref w),some (.ref v),some (.ref c),some (.ref d),u]/\ay H H'/\H' c=some (.lst Z)/\H' d=some (.lst W)/\
   aQ H' Z F/\aQ H' W B/\(∀p∈F,bA p)/\(∀p∈B,bA p)/\bW C H' w L P/\bW C H' v M I/\aE R=z1++aE P/\aE other=z2++aE I/\ma (aE R) (aE other) (aE P) (aE I) z1 z2 (aE F) (aE B)/\fit l' (aE P)/\fit l' (aE I)/\
   F.length+P.length+I.length<=R.length+other.length/\B.length+P.length+I.length<=R.length+other.length)/\
   az (aI K (xX C) [] [] (xY C) [("Walk",C,lZ C)] (et:=et) (E:=E)) [.ite (.cmp .Eq (.aU 0 "word" (.v 2) []) (.c (.str "put"))) [.drop (.call 1 [.v 2,.v 4,.v 5])] [.ite (.cmp .Eq (.aU 0 "word" (.v 3) []) (.c (.str "put"))) [.drop (.call 1 [.v 3,.v 5,.v 4])] [.asg 6 (.blt .min [(.aU 1 "left" (.v 2) []),(.aU 1 "left" (.v 3) [])]),
    .drop (.call 2 [(.aU 2 "take" (.v 2) [.v 6]),(.aU 2 "take" (.v 3) [.v 6]),.v 4,.v 5])]]]
    {{Dn Q with nx:=az (aI K (xX C) [] [] (xY C) [("Walk",C,lZ C)] (et:=et) (E:=E)) [.ret<|.tup [(.call 3 [.v 4]),(.call 3 [.v 5])]] (Dn Q)} with nx:=N,ct:=N,bk:=az (aI K (xX C) [] [] (xY C) [("Walk",C,lZ C)] (et:=et) (E:=E)) [.ret<|.tup [(.call 3 [.v 4]),(.call 3 [.v 5])]] (Dn Q)} [some<|.ref a,some<|.ref b,some<|.ref w,some<|.ref v,some<|.ref c,some<|.ref d,u] X:=by
  intro D';refine⟨_,λc' H' z=>z,?_⟩;have Oo:∀{U:Hp}{x:Addr},H x=none->xS x c d X U->ay H U:=λ{U x} hx b e o G=>b e o (s_ e o G) (a_ G hx) (a_ G fc) (a_ G fd);have Oq:∀{U:Hp}{x:Addr}{C' FN d'},X x=some (.ins C' FN d')->xS x c d X U->dq X U:=λ{U x C' FN d'} hx b e vs G=>b e _ G (cI G hx (by intro z;cases z)) (cI G jn (by intro z;cases z)) (cI G pA (by intro z;cases z));have vf:∀{r:List Pt}{x:Pt},(∀p∈r,bA p)->bA x->∀p∈r++[x],bA p:=λ{r x} h hx p hp=>by
   rcases zad.mp hp with z|z
   exact h p z;rw[zab.mp z];exact hx
  refine ZZ<|bf<|u9 (C:=C) O O W6<|aC<|iR ⟨_,O,?_⟩;by_cases jm:qK P="put";obtain⟨s,t,rfl⟩:∃s t,P=.put s::t:=by
   cases P with
   |nil=>exact absurd (show(Str.ofString "")="put" from jm) (by decide)
   |cons p t=>
    cases p with
    |put s=>exact⟨s,t,O⟩
    |keep n=>exact absurd (show(Str.ofString "keep")="put" from jm) (by decide)
    |cut n=>exact absurd (show(Str.ofString "cut")="put" from jm) (by decide)
  have iU:=W6.ok _ (.head _);refine iT ?_ O;refine cN<|b_ (Bg C) O<|av<|ag O<|av<|ag O<|av<|ag O<|aH ?_;simp only[zao] at xU xV;refine⟨w,L,c,d,s,t,Z,W,O,W6,jn,pA,kP,l7,xT,by lia,by lia,λa1 a2 U Y FV FW FX FY W7=>?_⟩;have tt:=Oq tH Y;have V7:bW C U v M I:=V6.Oc Y jn pA kQ FU Bi.symm ⟨_,_,_,tH⟩;rw[eG] at e1 fa;have dA:=u0 (.put s);have wR:=(kN iU).2;refine⟨_,?_,u,Z++[V.ref a1],W++[V.ref a2],F++[.put s],B++[.keep (s.length:Int)],t,I,z1++bF (.put s),z2,l',O,O,Oo fw Y,FV,FW,aQ.snoc (p:=.put s) (hz.mono tt) ⟨a1,O,FX⟩,aQ.snoc (p:=.keep (s.length:Int)) (l8.mono tt) ⟨a2,O,FY⟩,vf o1 iU,vf (x:=.keep (s.length:Int)) o2 (show(1:Int)<= (s.length:Int) by have:1<=s.length:=wR;lia),W7,V7,by rw[e1,zam],e2,?_,(sV _ _ _).mp fa,fb,by simp;lia,by simp;lia⟩;rw[eG,zqA];lia;rw[eG] at nA;have:=ma.seg (b1:=[]) nA (adz s.cps.toList);rw[zae] at this;rw[gZ,gZ,g6,g6];have ek:bF (.keep (s.length:Int))=rK s.cps.toList.length:=by show rK ((s.length:Int)).toNat=_;rw[zaG,len_list]
  rw[ek];exact this;refine iF ?_ (beq_eq_false_iff_ne.mpr jm);refine ZZ<|bf<|u9 (C:=C) O O V6<|aC<|iR ⟨_,O,?_⟩;by_cases km:qK I="put";obtain⟨s,t,rfl⟩:∃s t,I=.put s::t:=by
   cases I with
   |nil=>exact absurd (show(Str.ofString "")="put" from km) (by decide)
   |cons p t=>
    cases p with
    |put s=>exact⟨s,t,O⟩
    |keep n=>exact absurd (show(Str.ofString "keep")="put" from km) (by decide)
    |cut n=>exact absurd (show(Str.ofString "cut")="put" from km) (by decide)
  have iU:=V6.ok _ (.head _);refine iT ?_ O;refine cN<|b_ (Bg C) O<|av<|ag O<|av<|ag O<|av<|ag O<|aH ?_;simp only[zao] at xU xV;refine⟨v,M,d,c,s,t,W,Z,O,V6,pA,jn,kP.symm,FU,kQ,by lia,by lia,λa1 a2 U B' FW FV FX FY V7=>?_⟩;have Y:xS v c d X U:=λe o G n1 n2 n3=>B' e o G n1 n3 n2;have tt:=Oq Bj Y;have W7:bW C U w L P:=W6.Oc Y jn pA l7 xT Bi ⟨_,_,_,Bj⟩;rw[eG] at e2 fb;have dA:=u0 (.put s);have wR:=(kN iU).2;refine⟨_,?_,u,Z++[V.ref a2],W++[V.ref a1],F++[.keep (s.length:Int)],B++[.put s],P,t,z1,z2++bF (.put s),l',O,O,Oo fv Y,FV,FW,aQ.snoc (p:=.keep (s.length:Int)) (hz.mono tt) ⟨a2,O,FY⟩,aQ.snoc (p:=.put s) (l8.mono tt) ⟨a1,O,FX⟩,vf (x:=.keep (s.length:Int)) o1 (show(1:Int)<= (s.length:Int) by have:1<=s.length:=wR;lia),vf o2 iU,W7,V7,e1,by rw[e2,zam],?_,fa,(sV _ _ _).mp fb,by simp;lia,by simp;lia⟩;rw[eG,zqA];lia;rw[eG] at nA;have:=ma.p2 (s:=s.cps.toList) (adE W6.ok jm) nA;rw[gZ,gZ,g6,g6];have ek:bF (.keep (s.length:Int))=rK s.cps.toList.length:=by show rK ((s.length:Int)).toNat=_;rw[zaG,len_list]
  rw[ek];exact this;refine iF ?_ (beq_eq_false_iff_ne.mpr km);have Bk:∀{p:Pt}{t:List Pt},qK (p::t)≠"put"->∀s,p≠ .put s:=λ{p t} h s z=>by subst z;exact h O
  have Ot:∀{p:Pt}{t:List Pt},bA p->(∀s,p≠ .put s)-> ¬fit [] (aE (p::t)):=by
   intro p t hp hn hf;have hl:=nr _ _ hf;rw[eG,xD] at hl;have h1:=(kN hp).2;have:dJ (bF p)=aY p:=by
    cases p with
    |keep n=>exact xG _
    |put s=>exact absurd O (hn s)
    |cut s=>show dJ (s.cps.toList.map At.C)=s.length;rw[pd,len_list]
   simp only[zaX] at hl;lia
  obtain⟨x,t,ex⟩:∃x t,P=x::t:=by
   cases P with
   |cons x t=>exact⟨x,t,O⟩
   |nil=>
    exfalso;have fi:l'=[]:=fa;subst fi;cases I with
    |nil=>rcases D' with z|z<;>exact z O
    |cons y J=>exact Ot (V6.ok y<|.head _) (Bk km) fb
  subst ex;obtain⟨y,J,ey⟩:∃y J,I=y::J:=by
   cases I with
   |cons y J=>exact⟨y,J,O⟩
   |nil=>
    exfalso;have fi:l'=[]:=fb;subst fi;exact Ot (W6.ok x<|.head _) (Bk jm) fa
  subst ey;have nx:=Bk jm;have ny:=Bk km;have Ou:=W6.ok x (.head _);have Ov:=V6.ok y (.head _);obtain⟨N',M'⟩:=kN Ou;obtain⟨K',J'⟩:=kN Ov;obtain⟨k,hk⟩:∃k,k=min (aY x) (aY y):=⟨_,O⟩;have k1:1<=k:=by lia
  have k2:k<=aY x:=by lia
  have k3:k<=aY y:=by lia
  have f':(if (aY y:Int) < (aY x:Int) then (aY y:Int) else (aY x:Int))=(k:Int):=by split<;>lia
  refine bw<|Fm<|av<|u_ (C:=C) O O W6<|av<|u_ (C:=C) O O V6<|aH ?_;show az _ _ _ ([some<|.ref a,some<|.ref b,some<|.ref w,some<|.ref v,some<|.ref c,some<|.ref d,u].set 6 (some<|V.int (if (aY y:Int) < (aY x:Int) then (aY y:Int) else (aY x:Int)))) X;rw[f'];refine cN<|b_ FO O<|av<|va (C:=C) (k:=k) O O W6 k1 k2 (λQ' hq=>ag O hq) λa1 U Y jq P' W7=>?_;have V7:bW C U v M (y::J):=V6.keep λe o G z=>Y e o G (by
   rcases z with rfl|rfl|⟨_,rfl⟩
   exact Bi.symm;obtain⟨_,u'⟩:=a' V6;exact cI u' tH (by intro z;cases z);exact cI G tH (by intro z;cases z))
  refine av<|va (C:=C) (k:=k) O O V7 k1 k3 (λQ' hq=>ag O hq) λa2 H8 b8 ir O' V8=>?_;obtain⟨_,_,_,S'⟩:=W7.ob;obtain⟨_,_,_,Bl⟩:=qx2 V7.ob;have W8:bW C H8 w L (eI x t k):=W7.keep λe o G z=>b8 e o G (by
   rcases z with rfl|rfl|⟨_,rfl⟩
   exact Bi;obtain⟨_,Bm⟩:=a' W7;exact cI Bm Bl (by intro z;cases z);exact cI G Bl (by intro z;cases z))
  have Ow:=b8 _ _ jq (cI jq Bl (by intro z;cases z));have Ox:=b8 _ _ (Y _ _ jn nu) Ol;have Oy:=b8 _ _ (Y _ _ pA Bh) Om;have i':dq X H8:=(Y.vb tH).trans (b8.vb Bl);refine av<|ag O<|av<|ag O<|aH ?_;have eA:=A9 t k2;have eB:=A9 J k3;rw[eA] at fa;rw[eB] at fb;obtain⟨la,lb,rfl,g1,g2,g3⟩:=qM _ _ fa;have xM:la.length=k:=by
   rw[nr _ _ g1];have e:=xx x k k2;cases x with
   |keep n=>exact xG k
   |put s=>exact absurd O (nx s)
   |cut s=>
    have e':(⟨(s.cps.toList.take k).toArray⟩:Str).length=k:=e;rw[lY] at e';show dJ ((s.cps.toList.take k).map At.C)=k;rw[pd];exact e'
  have k':dJ (bF<|aV y k)=k:=by
   have e:=xx y k k3;cases y with
   |keep n=>exact xG k
   |put s=>exact absurd O (ny s)
   |cut s=>
    have e':(⟨(s.cps.toList.take k).toArray⟩:Str).length=k:=e;rw[lY] at e';show dJ ((s.cps.toList.take k).map At.C)=k;rw[pd];exact e'
  obtain⟨g4,g5⟩:=NU fb (by rw[xM,k']);have xZ:∀{s:Str}{u:List Nat},fit u (bF<|.cut s)->s.cps.toList=u:=by
   intro s u hu;obtain⟨b,rfl⟩:=xh s.cps.toList u [] (by rw[zae];exact hu);have h1:=nr _ _ hu;have e1:dJ (bF<|.cut s)=s.cps.toList.length:=pd _;rw[e1,zqA] at h1;have:b=[]:=zaE.mp (by lia);rw[this,zae]
  have p':=AS Ou k1 k2;have o':=AS Ov k1 k3;simp only[zao] at xU xV;refine⟨.ref a1,.ref a2,c,d,aV x k,aV y k,Z,W,O,⟨a1,O,Ow⟩,⟨a2,O,ir⟩,?_,?_,?_,Ox,Oy,kP,by lia,by lia,λH9 b9 x' v'=>?_⟩;intro s z;cases x<;>first|exact absurd O (nx _)|cases z
  intro s z;cases y<;>first|exact absurd O (ny _)|cases z
  intro s s' z z';rw[z] at g1;rw[z'] at g4;exact jC<|(xZ g1).trans (xZ g4).symm;have x3:∀{e:Addr}{o:HO},H8 e=some o->(e=w\/e=L\/e=v\/e=M\/∃vs,o=.tup vs)->H9 e=some o:=by
   intro e o G z;obtain⟨_,X'⟩:=a' W8;obtain⟨_,V'⟩:=a' V8;obtain⟨_,_,_,R'⟩:=W8.ob;obtain⟨_,_,_,T'⟩:=V8.ob;refine b9 e o G ?_ ?_;rcases z with rfl|rfl|rfl|rfl|⟨vs,rfl⟩
   exact nu.symm;exact l7.symm;exact Ol.symm;exact kQ.symm;exact cI G Ox (by intro z;cases z);rcases z with rfl|rfl|rfl|rfl|⟨vs,rfl⟩
   exact Bh.symm;exact xT.symm;exact Om.symm;exact FU.symm;exact cI G Oy (by intro z;cases z)
  have W9:bW C H9 w L (eI x t k):=W8.keep λe o G z=>x3 G (by
   rcases z with z|z|z
   exact .inl z;exact .inr (.inl z);exact .inr (.inr (.inr (.inr z))))
  have V9:bW C H9 v M (eI y J k):=V8.keep λe o G z=>x3 G (by
   rcases z with z|z|z
   exact .inr (.inr<|.inl z);exact .inr (.inr<|.inr<|.inl z);exact .inr (.inr (.inr (.inr z))))
  have Bn:dq X H9:=λe vs G=>x3 (i' e vs G) (.inr<|.inr<|.inr<|.inr ⟨vs,O⟩);have G':H9 a1=some (.tup [.str (aV x k).word,(aV x k).val]):=x3 Ow (.inr<|.inr<|.inr<|.inr ⟨_,O⟩);have F':H9 a2=some (.tup [.str (aV y k).word,(aV y k).val]):=x3 ir (.inr<|.inr<|.inr<|.inr ⟨_,O⟩);have j':ay H H9:=λe o G=>b9 e o (b8 e o (Y e o (s_ e o G)<|a_ G fw)<|a_ G fv) (a_ G fc) (a_ G fd);have DF:=FC t k1 k2;have zO:=FC J k1 k3;have bB:(eI x t k).length+(eI y J k).length<=t.length+J.length+1:=by
   have F:=FA x t k;have B:=FA y J k;by_cases hz:k=aY x;have e:eI x t k=t:=if_pos hz;rw[e];lia;have ER:k=aY y:=by lia
   have e:eI y J k=J:=if_pos ER;rw[e];lia
  refine⟨_,Nat.add_lt_add DF zO,some<|.int (k:Int),Z++(if MK (aV y k) then [V.ref a1] else []),W++(if MK (aV x k) then [V.ref a2] else []),F++(if MK (aV y k) then [aV x k] else []),B++(if MK (aV x k) then [aV y k] else []),eI x t k,eI y J k,z1++bF (aV x k),z2++bF (aV y k),lb,O,O,j',x',v',?_,?_,?_,?_,W9,V9,by rw[e1,eA,zam],by rw[e2,eB,zam],?_,g2,g5,?_,?_⟩;split;exact aQ.snoc (hz.mono Bn) ⟨a1,O,G'⟩;rw[zae,zae];exact hz.mono Bn;split;exact aQ.snoc (l8.mono Bn) ⟨a2,O,F'⟩;rw[zae,zae];exact l8.mono Bn;split;exact vf o1 p';rw[zae];exact o1;split;exact vf o2 o';rw[zae];exact o2;rw[gZ,gZ];rw[eA,eB] at nA;refine ma.seg nA ?_;cases x with
  |put s=>exact absurd O (nx s)
  |keep n=>
   have Oz:bF (aV (.keep n) k)=rK k:=by show rK ((k:Nat):Int).toNat=_;rw[zaG]
   cases y with
   |put s=>exact absurd O (ny s)
   |keep n'=>
    have FZ:bF (aV (.keep n') k)=rK k:=by show rK ((k:Nat):Int).toNat=_;rw[zaG]
    rw[show(if MK (aV (.keep n') k)=true then [aV (.keep n) k] else [])=[aV (.keep n) k] from O,show(if MK (aV (.keep n) k)=true then [aV (.keep n') k] else [])=[aV (.keep n') k] from O,g6,g6,Oz,FZ];exact adA k
   |cut s=>
    rw[show(if MK (aV (.cut s) k)=true then [aV (.keep n) k] else [])=[] from O,show(if MK (aV (.keep n) k)=true then [aV (.cut s) k] else [])=[aV (.cut s) k] from O,g6,Oz];have ec:bF (aV (.cut s) k)=la.map At.C:=by
     have:=xZ (s:=⟨(s.cps.toList.take k).toArray⟩) g4;show(s.cps.toList.take k).map At.C=_;rw[show s.cps.toList.take k=la from this]
    rw[ec,<-xM];exact adB la
  |cut s=>
   have ec:bF (aV (.cut s) k)=la.map At.C:=by
    have:=xZ (s:=⟨(s.cps.toList.take k).toArray⟩) g1;show(s.cps.toList.take k).map At.C=_;rw[show s.cps.toList.take k=la from this]
   cases y with
   |put s=>exact absurd O (ny s)
   |keep n'=>
    have FZ:bF (aV (.keep n') k)=rK k:=by show rK ((k:Nat):Int).toNat=_;rw[zaG]
    rw[show(if MK (aV (.keep n') k)=true then [aV (.cut s) k] else [])=[aV (.cut s) k] from O,show(if MK (aV (.cut s) k)=true then [aV (.keep n') k] else [])=[] from O,g6,FZ,ec,<-xM];exact adC la
   |cut s'=>
    have A':bF (aV (.cut s') k)=la.map At.C:=by
     have:=xZ (s:=⟨(s'.cps.toList.take k).toArray⟩) g4;show(s'.cps.toList.take k).map At.C=_;rw[show s'.cps.toList.take k=la from this]
    rw[show(if MK (aV (.cut s') k)=true then [aV (.cut s) k] else [])=[] from O,show(if MK (aV (.cut s) k)=true then [aV (.cut s') k] else [])=[] from O,ec,A'];exact adD la
  have:(F++(if MK (aV y k) then [aV x k] else [])).length<=F.length+1:=by rw[zqA];split<;>simp
  lia;have:(B++(if MK (aV x k) then [aV y k] else [])).length<=B.length+1:=by rw[zqA];split<;>simp
  lia
 refine ady<|bf<|u9 (C:=C) O O W6<|aC<|xH ⟨_,O,?_⟩;cases P with
 |cons x t=>exact iT (iT (b'<|.inl (by simp)) O) Og
 |nil=>
  refine iF ?_ O;refine bf<|u9 (C:=C) O O V6<|aC<|xH ⟨_,O,?_⟩;cases I with
  |cons x t=>exact iT (b'<|.inr (by simp)) Og
  |nil=>exact iF (y' O O) O
end L2.B
namespace L2.B
open PySem PySem.Spec PyProof.Rows
theorem ad4(ps:List Pt):aE (dC ps)=(aE ps).map sw:=by
 induction ps with
 |nil=>rfl
 |cons p ps h=>
  have e:dC (p::ps)=p.qE::dC ps:=O;rw[e,eG,eG,zap];congr 1;cases p with
  |keep n=>show rK n.toNat=(rK n.toNat).map sw;unfold rK;rw[List.map_replicate];rfl
  |put s=>show s.cps.toList.map At.C=(s.cps.toList.map At.P).map sw;rw[zbb];rfl
  |cut s=>show s.cps.toList.map At.P=(s.cps.toList.map At.C).map sw;rw[zbb];rfl
structure mf(ps:List Pt)(l r:List Nat):Prop where
 ok:∀p∈ps,bA p
 ch:chainOk "" ps=true
 run:Run l ps r
def bk(ps:List Pt):List Pt:=jj (dC ps)
theorem mf.bk(h:mf ps l r)(ht:aB ps<=100000):mf (bk ps) r l/\aB (B.bk ps)=aB ps/\(B.bk ps).length<=3*ps.length+2/\nb (aE<|B.bk ps)=nb ((aE ps).map sw):=by
 have w:=abH (E9 h.ok ht);have m:aB (dC ps)<=100000:=by rw[E8];exact ht
 obtain⟨c,g,_⟩:=Ay (dC ps) w m;have q:=xa (dC ps) w;have d:=xb (dC ps);have f:(dC ps).length=ps.length:=by simp[dC]
 have x:=uS (dC ps) λp b=>ab3 (w p b);rw[ad4] at x;refine⟨⟨?_,?_,?_⟩,?_,?_,x⟩;unfold B.bk;rw[q];exact g;unfold B.bk;rw[q];exact c;unfold B.bk;rw[q];exact Az h.run.qE;unfold B.bk;rw[q,xf _ w,E8];unfold B.bk;lia
theorem xQ.chg(h:xQ b other ps l r):mf ps l r:=⟨h.ok,h.ch,h.run⟩
theorem ad5:aE (fV [.keep (n:Int)])=rK n/\(∀p∈fV [.keep (n:Int)],bA p)/\chainOk "" (fV [.keep (n:Int)])=true/\(fV [.keep (n:Int)]).length<=1/\aB (fV [.keep (n:Int)])=0:=by
 have r:∀p∈ [Pt.keep (n:Int)],fU p:=λp b=>by rw[zab.mp b];show(0:Int)<= (n:Int);exact za6 _
 have e:fV [.keep (n:Int)]=if n=0 then [] else [.keep (n:Int)]:=by
  have c:fV [.keep (n:Int)]=txt .put ""++txt .cut ""++(if ((0:Int)+(n:Int))=0 then [] else [.keep<|(0:Int)+(n:Int)]):=by
   show cO [("","",(0:Int)+(n:Int))]=_;simp[cO,eU]
  rw[c,Int.zero_add];by_cases h:n=0;rw[if_pos h,if_pos (by lia)];rfl;rw[if_neg h,if_neg (by lia)];rfl
 rw[e];by_cases h:n=0;rw[h];exact⟨O,nofun,O,zqZ _,O⟩;rw[if_neg h];refine⟨by rw[g6];show rK ((n:Int)).toNat=_;rw[zaG],(λp b=>?_),?_,zqR _,O⟩;rw[zab.mp b];show(1:Int)<= (n:Int);lia;show(lQ "keep" "" && true)=true;decide
theorem ad6:mf (fV [.keep (l.length:Int)]) l l:=by
 obtain⟨e,o,c,_,_⟩:=ad5;refine⟨o,c,?_⟩;have f:fit l (aE<|fV [.keep (l.length:Int)]):=by
  rw[e];have:=(AD l [] []).mpr O;rw[zae,zae] at this;exact this
 have:=uR _ l (λp b=>o9<|o p b) f;rw[e] at this;have h:=AE l [] [];rw[zae,zae] at h;have d:out [] ([]:List At)=[]:=O;rw[h,d,zae] at this;exact this
def bM(H:Hp)(b:Addr)(ps:List Pt)(l r:List Nat):Prop:= ∃xs,H b=some (.lst xs)/\aQ H xs ps/\mf ps l r
theorem bM.same(h:bM H b ps l r)(s:ay H H'):bM H' b ps l r:=by
 obtain⟨xs,f,d,c⟩:=h;exact⟨xs,s _ _ f,d.mono<|dg s,c⟩
theorem bM.keep(h:bM H b ps l r)(c:∀o,H b=some o->H' b=some o)(t:dq H H'):bM H' b ps l r:=by
 obtain⟨xs,g,f,d⟩:=h;exact⟨xs,c _ g,f.mono t,d⟩
theorem bM.chg(h:bM H b ps l r):mf ps l r:=by
 obtain⟨_,_,_,h⟩:=h;exact h
section
variable{H:Hp}{Q:VK}{E:XK}
theorem OA{a b:Addr}{f:List Pt}{l m r:List Nat}(A:bM H a f l m)(x:bM H b other m r)(p:f.length+other.length<=180000)(ht:aB f+aB other<=100000)(q:∀(c:Addr)(H':Hp)(ps:List Pt),ay H H'->H c=none->bM H' c ps l r->xQ f other ps l r->Q (.ref c) H'):pw [.ref a,.ref b] H Q E:=by
 obtain⟨xs,N,K,h⟩:=A;obtain⟨ys,I,G,g⟩:=x;exact⟨a,b,xs,ys,f,other,l,m,r,O,N,I,K,G,h.ok,g.ok,h.ch,g.ch,p,ht,h.run,g.run,λc H' k ps s t w u d=>q c H' ps s t ⟨k,w,u,d.chg⟩ d⟩
theorem F6{a:Addr}{l r:List Nat}(h:bM H a ps l r)(p:ps.length<=30000)(ht:aB ps<=100000)(q:∀(c:Addr)(H':Hp),ay H H'->H c=none->bM H' c (bk ps) r l->Q (.ref c) H'):o7 [.ref a] H Q E:=by
 obtain⟨xs,m,k,b⟩:=h;exact⟨a,xs,ps,O,m,k,b.ok,b.ch,zat p (za0 _ _),ht,λc H' ys s d g f=>q c H' s d ⟨ys,g,f,(b.bk ht).1⟩⟩
theorem OB{a:Addr}{r:List Nat}(c:good x)(h:bM H a ps x.cps.toList r)(d:r.length<=1000000)(q:Q (.str ⟨r.toArray⟩) H):uZ [.str x,.ref a] H Q E:=by
 obtain⟨xs,k,g,b⟩:=h;exact⟨x,a,xs,ps,r,O,c,k,g,λp f=>uJ<|b.ok p f,b.run,d,q⟩
end
theorem ad7{K:Frag}:bO (EE) (λE=>aI K [] [] (E:=E)) K0 Em:=by
 intro b H Q E h;obtain⟨i,rfl,q⟩:=h;exact⟨_,O,O,_,O,gi ⟨_,O,O,q⟩⟩
end L2.B
namespace L2.B
open PySem PySem.StrLaws
end L2.B
namespace L2.B
open PySem PySem.Spec PyProof.Rows
end L2.B
namespace L2.B
open PySem PySem.Spec PyProof.Rows
theorem cj{K:Frag}{d:Addr->List (Key×V)->Prop}{a:Addr}{i:Int}(h:H a=some (.lst xs))(e:gE xs i=some v)(q:Q v H):qd K d (.ref a) (.int i) H Q:=
 .inl ⟨_,_,_,_,O,O,au.of h,e,q⟩
end L2.B
namespace L2
open PySem PySem.Spec PyProof.Rows
theorem nB{p:b->Prop}:∀x∈ ([]:List b),p x:=nofun
theorem nC{p:b->Prop}{a:b}{l:List b}(h:p a)(t:∀x∈l,p x):∀x∈a::l,p x:=List.forall_mem_cons.2 ⟨h,t⟩
inductive kR(w:World):List DictEntry->List (Key×V)->List (Key×Value)->Prop
 |nil:kR w [] [] []
 |cons {x:Str}{t:Tok}{v:V}{u:Value}{es:List DictEntry}{k:List (Key×V)}{vs:List (Key×Value)}:RelV v u->kR w es k vs->
   kR w (⟨PyData.keyHash w.params x,.str x t,u⟩::es) ((.inr x,v)::k) ((.inr x,u)::vs)
section
variable{P:Program}{w:World}{K:Frag}
theorem kR.kv{es:List DictEntry}{k:List (Key×V)}{vs:List (Key×Value)}(h:kR w es k vs):KV k vs:=by
 induction h with
 |nil=>exact .nil
 |cons r _ b=>exact .cons ⟨O,r⟩ b
theorem kR.pairs{es:List DictEntry}{k:List (Key×V)}{vs:List (Key×Value)}(h:kR w es k vs):Pairs (eQ P w) es vs:=by
 induction h with
 |nil=>exact .nil
 |cons r _ b=>exact .cons (yM P w _ _) O b
theorem kR.keys{es:List DictEntry}{b:List (Key×V)}{vs:List (Key×Value)}(h:kR w es b vs):∀e∈es,∃k,(eQ P w).is k e.key=true/\e.hash=(eQ P w).hash k:=by
 induction h with
 |nil=>intro e c;cases c
 | @cons x t v u es b vs r _ d=>
  intro e c;rcases zac.mp c with rfl|c
  exact⟨.inr x,yM P w _ _,O⟩;exact d e c
theorem kR.same{es:List DictEntry}{k:List (Key×V)}{vs:List (Key×Value)}(h:kR w es k vs):vs.map (·.1)=k.map (·.1):=by
 induction h with
 |nil=>rfl
 |cons r _ b=>simp only[zaz,b]
theorem ad8{es:Array DictEntry}{k:List (Key×V)}{vs:List (Key×Value)}(l:K.lookup p=some ⟨.type "dict",none,.dict es n,#[]⟩)(b:kR w es.toList k vs)(d:(k.map (·.1)).Nodup):Ab P w K (p,k):=λh X=>
 ⟨vs,b.kv,_,es,n,X p _ l,⟨O,O,O⟩,O,(λe c=>b.keys e (by simpa using c)),b.pairs,b.same▸d⟩
variable{mg:Str->Option Value}{base:Heap}{k:Nat}
theorem de.or{g:FuncData}{ps:List Str}{a b:Sp}(A:de P w K mg base CX k f g ps a)(C:de P w K mg base CX k f g ps b):de P w K mg base CX k f g ps (B.j5 a b):=
 ⟨λd H Q E h=>h.elim (A.len d H Q E)<|C.len d H Q E,λt r s H c u d Q E m q p l x=>x.elim (A.run t r s H c u d Q E m q p l)<|C.run t r s H c u d Q E m q p l⟩
theorem de.weak{ps:List Str}{a b:Sp}(A:de P w K mg base CX k f d ps b)(h:∀vs H Q E,a vs H Q E->b vs H Q E):de P w K mg base CX k f d ps a:=
 ⟨λvs H Q E q=>A.len vs H Q E<|h _ _ _ _ q,λx r s H c u vs Q E m t p g l=>A.run x r s H c u vs Q E m t p g<|h _ _ _ _ l⟩
theorem iP.weak{a b:Sp}(T:iP P w K mg base k x b)(h:∀vs H Q E,a vs H Q E->b vs H Q E):iP P w K mg base k x a:=by
 obtain⟨f,d,ps,c,r⟩:=T;exact⟨f,d,ps,c.weak h,r⟩
theorem iQ.weak{a b:Sp}(T:iQ P w K mg base k (x,C,b))(h:∀vs H Q E,a vs H Q E->b vs H Q E):iQ P w K mg base k (x,C,a):=by
 obtain⟨c,f,g,ps,m,d,r⟩:=T;exact⟨c,f,g,ps,m,d.weak h,r⟩
open PySem.W in
theorem ad9{x:Str}(X:K.In base)(G:base.Ns mainGlobals mg)(e:nsIn K mainGlobals x=some (some<|.ref C))(q:excIn K C [.type "ValueError",.type "Exception",.type "BaseException",.type "object"] "ValueError.__new__"=true):Ac mg base (x,C):=by
 refine⟨_,_,_,_,⟨mg_of X G e,?_⟩,PySem.F.excBase_ValueError⟩;unfold excIn at q
 split at q
 ·rename_i dd cd sl ho
  split at q
  ·rename_i C' bm k0 k1 k2 k3 n k5 hm hs
   simp only[zaj,beq_iff_eq,zaU] at q
   obtain⟨⟨⟨⟨⟨rfl,rfl⟩,OC⟩,ht⟩,aG⟩,zT⟩:=q;obtain⟨nm,bs,mro,ns,qn,hd,sn,sub,ab,col,del⟩:=cd
   dsimp only at hm OC aG zT
   subst hm OC;obtain⟨sl⟩:=sl;have AL:sl=_:=hs;subst AL;exact⟨bm,ns,nm,qn,bs,hd,sn,sub,ab,col,dd,k0,k1,k2,k3,k5,_,X _ _ ho,.of_isNs<|isNs_of_in X aG,nsMap_none_of_in X aG zT,tail_of_in X ht⟩
  ·cases q
 ·cases q
end
end L2
namespace L2.B
open PySem PySem.Spec PyProof.Rows
def OD(v:V)(lo h:Int)(H:Hp):Prop:=qG v H\/∃i,v=.int i/\(i<lo\/h<i)
inductive F7(vs:List V)(H:Hp)(Q:VK)(E:XK):Prop|i(v:V)(lo h:Int)(_:vs=[v,.int lo,.int h])(_:((∃i,v=.int i/\lo<=i/\i<=h/\Q (.bl true) H)\/(OD v lo h H/\Q (.bl false) H)))
theorem ad_{K:Frag}:bO (F7) (λE=>aI K [("is_whole",qH)] [] (E:=E)) Lu Ls:=by
 intro l H Q E h;have c:∀(i lo d:Int)(b:Bool)(H:Hp),decide (lo<=i/\i<=d)=b->Q (.bl b) H->ah (aI K [("is_whole",qH)] []) (.wj .LtE .LtE (.v 1) (.v 0)<|.v 2) [some<|.int i,some<|.int lo,some<|.int d] H Q:=by
  intro i lo d b H k q;refine⟨_,O,_,O,trivial,_,O,gG (λf=>?_)<|λf=>?_⟩;refine⟨_,O,trivial,?_⟩;have e:decide (i<=d)=b:=by lia
  show Q (.bl<|decide<|i<=d) H;rw[e];exact q;have e:b=false:=by lia
  rw[e] at q
  first
   |exact q
   | (rw[e2];exact q)
 obtain⟨v,lo,d,rfl,⟨i,rfl,f,m,q⟩|⟨g|⟨i,rfl,k⟩,q⟩⟩:=h;exact⟨_,O,_,O,.inl ⟨i,O,_,O,gi<|c i lo d true H (by lia) q⟩⟩;exact⟨_,O,_,O,.inr ⟨g,_,O,iG q⟩⟩;exact⟨_,O,_,O,.inl ⟨i,O,_,O,gi<|c i lo d false H (by lia) q⟩⟩
end L2.B
namespace L2
open PySem PySem.Spec PyProof.Rows
section
variable{Γ:ba}{D:Ends}{σ:St}{H:Hp}{r:List RS}{Q:VK}{QA:List V->Hp->Prop}{QT:Bool->Hp->Prop}
theorem mi{K:Frag}{b:Bool}{c:Bool->Prop}(h:c b):mR K (.bl b) H c:=h
theorem kS(h:bo Γ a σ H λb H1=>QT (!b) H1):bo Γ (.not a) σ H QT:=h
theorem nE(sp:Sp)(c:Γ.fs j=sp)(h:bg Γ as σ H λvs H1=>sp vs H1 (λx H2=>mR Γ.K x H2 λb=>QT b H2) Γ.E):bo Γ (.call j as) σ H QT:=by
 subst c;show bg Γ as σ H λvs H1=>Γ.fs j (vs++[]) H1 (λx H2=>mR Γ.K x H2 λb=>QT b H2) Γ.E;have e:(fun(vs:List V)(H1:Hp)=>Γ.fs j (vs++[]) H1 (λx H2=>mR Γ.K x H2 λb=>QT b H2) Γ.E)=λvs H1=>Γ.fs j vs H1 (λx H2=>mR Γ.K x H2 λb=>QT b H2) Γ.E:=by
  funext vs H1;rw[zae]
 rw[e];exact h
theorem vg(h:bo Γ a σ H λc H1=>if c=true then QT true H1 else bo Γ b σ H1 QT):bo Γ (.or [a,b]) σ H QT:=h
theorem qN(h:bo Γ a σ H λc H1=>if c=true then bo Γ b σ H1 QT else QT false H1):bo Γ (.and [a,b]) σ H QT:=h
end
end L2
namespace L2.B
open PySem PySem.Spec PyProof.Rows
section
variable{Γ:ba}{σ:St}{H:Hp}{Q:VK}{QT:Bool->Hp->Prop}{K:Frag}
theorem x9(h:bo Γ a σ H λc H1=>if c=true then QT true H1 else bo Γ (.or (b::r)) σ H1 QT):bo Γ (.or (a::b::r)) σ H QT:=h
theorem F8(h:bo Γ a σ H QT):bo Γ (.or [a]) σ H QT:=h
theorem Bp(h:bo Γ a σ H λc H1=>if c=true then bo Γ (.and (b::r)) σ H1 QT else QT false H1):bo Γ (.and (a::b::r)) σ H QT:=h
theorem aea(h:bo Γ a σ H QT):bo Γ (.and [a]) σ H QT:=h
theorem aeb{T:Ty}(h:ah Γ a σ H λx H1=>cp T x H1 λb=>QT b H1):bo Γ (.iJ T a) σ H QT:=by
 have e:∀(q:VK),(fun(x:V)(H1:Hp)=>cp T x H1 λb=>q (.bl b) H1)=λx H1=>p_ T [x,.ty T.nm] H1 q:=by
  intro q;simp[p_]
 show ah Γ a σ H λx H1=>p_ T [x,.ty T.nm] H1 λv H2=>mR Γ.K v H2 λb=>QT b H2;rw[<-e];exact h
theorem tJ{a:Addr}{i:Int}(h:H a=some (.tup xs))(e:gE xs i=some v)(q:Q v H):qd K d (.ref a) (.int i) H Q:=
 .inr (.inl ⟨_,_,_,_,O,O,aJ.of h,e,q⟩)
theorem eV{y:Int}(q:Q (.bl<|decide<|x=y) H):dR K .Eq (.int x) (.int y) H Q:=by
 show Q (.bl<|false ^^ decide (V.int x=V.int y)) H;rw[zaI,show decide (V.int x=V.int y)=decide (x=y) from decide_eq_decide.mpr ⟨λz=>by lia,λz=>by lia⟩];exact q
theorem qO{y:Int}(q:Q (.bl<|!decide (x=y)) H):dR K .NotEq (.int x) (.int y) H Q:=by
 show Q (.bl<|true ^^ decide (V.int x=V.int y)) H;rw[zaP,show decide (V.int x=V.int y)=decide (x=y) from decide_eq_decide.mpr ⟨λz=>by lia,λz=>by lia⟩];exact q
theorem cnS(q:Q (.bl false) H):dR K .NotEq (.str x) (.str x) H Q:=by
 refine xH ?_;rw[show(x !=x)=false by lia];exact q
theorem mj{i j:Int}(h:Q (.int<|i+j) H):rW K .Add (.int i) (.int j) H Q:=h
end
end L2.B
namespace L2.N
open PySem PySem.Spec PyProof.Rows L2.B
end L2.N
namespace L2.N
open PySem PySem.Spec L2.B
theorem cQ(h:az Γ r D σ H):az Γ [] {D with nx:=az Γ r D} σ H:=h
end L2.N
namespace L2.B
open PySem PySem.Spec PyProof.Rows
theorem OE{K:Frag}{u:List V->Hp->Addr->Prop}{t:TE}{h:List (Str×Nat)}{lo:Int}(B:n<=1000000)(P:Nat->List V->Hp->Prop)(I:P 0 [] H)(f:∀i ys H2,i<n->ay H H2->P i ys H2->∀w:VK,(∀y d,ay H2 d->P (i+1) (ys++[y]) d->w y d)->t (some (.int<|lo+i)::cX σ h) H2 w)(k:∀ys H2 p,ay H H2->P n ys H2->H2 p=none->u ys H2 p):∃c:Nat->Nat->List V->Hp->Prop,(∃m,c 0 m [] H)/\∀i m ys H2,c i m ys H2->
   ((gz lo n).stop i H2/\∀p,H2 p=none->u ys H2 p)\/
   ((gz lo n).go i H2/\∀x d,(gz lo n).hZ i H2 x d->lA K none x d λr=>om none (r.map some++cX σ h) d λb A=>
    if b=true then t (r.map some++cX σ h) A λy Z=>ys.length<sizeLine/\∃g,g<m/\c (i+1) g (ys++[y]) Z else ∃g,g<m/\c (i+1) g ys A):=by
 refine⟨λi m ys H2=>m=n - i/\i<=n/\ys.length=i/\ay H H2/\P i ys H2,⟨_,O,zqZ _,O,ay.refl _,I⟩,?_⟩;rintro i m ys H2 ⟨rfl,F,N,s,p⟩;by_cases l:i<n;refine .inr ⟨l,?_⟩;rintro x d ⟨rfl,rfl⟩;exact f i ys _ l s p _ λy J E G=>⟨dr (by lia),n - (i+1),by lia,O,l,by simp[N],s.trans E,G⟩;have X:i=n:=za5 F (za4 l)
 subst X;exact .inl ⟨zqR _,λq R=>k ys _ q s p R⟩
end L2.B
namespace L2.N
open PySem PySem.Spec L2.B
section
variable{Γ:ba}{D:Ends}{σ:St}{H:Hp}{r:List RS}{Q:VK}
theorem Bq(A b:VK)(f:∀v H1,A v H1↔b v H1)(h:ah Γ x σ H A):ah Γ x σ H b:=by
 have:=funext λx=>funext λH1=>propext (f x H1);rw[<-this];exact h
theorem Br(C:Addr)(sp:Sp)(c:Γ.ms j=(C,sp))(h:ah Γ o σ H λx H1=>∃p dx f,x=.ref p/\H1 p=some (.ins C dx f)/\f.lookup m=none/\ah Γ a σ H1 λy H2=>ah Γ b σ H2 λz d=>sp [x,y,z] d Q Γ.E):ah Γ (.aU j m o [a,b]) σ H Q:=by
 show rL (Γ.ms j).1 m (Γ.ms j).2 [] Γ.E (ah Γ o) (bg Γ [a,b]) σ H Q;rw[c];exact h
theorem fX(h:ah Γ x σ H λv H1=>vZ Γ.K v H1 λn=>Q (.int n) H1):ah Γ (.blt .len [x]) σ H Q:=h
variable{QT:Bool->Hp->Prop}
theorem nF(h:ah Γ e σ H λv H1=>ah Γ o σ H1 λx H2=>∃a C dx b,x=.ref a/\H2 a=some (.ins C dx b)/\gT Γ.K C/\gB Γ.K C f/\b.length<1000/\az Γ r D σ (upd H2 a<|.ins C dx<|cx f v b)):az Γ (.fI o f e::r) D σ H:=h
end
theorem OF{x:RE}(h:ah Γ x σ H λv H1=>∃a,v=.ref a/\(∃xs,au Γ.K H1 a xs)/\∃b:Nat->Nat->St->Hp->Prop,(∃m,b 0 m σ H1)/\∀j m σ H,b j m σ H->
  ((i6 Γ.K a).stop j H/\({D with nx:=az Γ r D}:Ends).nx σ H)\/((i6 Γ.K a).go j H/\∃N:St->Hp->Prop,(∀c H',N c H'->∃f,f<m/\b (j+1) f c H')/\∀x H',(i6 Γ.K a).hZ j H x H'->e9 i x σ H' λd H2=>az Γ body {({D with nx:=az Γ r D}:Ends) with nx:=N,ct:=N,bk:=({D with nx:=az Γ r D}:Ends).nx} d H2)):
  az Γ (.ko i .list [x] body::r) D σ H:=Bq _ _ (λ_ _=>Iff.rfl) h
theorem aed{n:Int}(h:Run l (.keep n::ps) r):∃a b r',l=a++b/\r=a++r'/\n=a.length/\Run b ps r':=by
 cases h with|keep e h=>exact⟨_,_,_,rfl,rfl,e,h⟩
theorem aee(h:Run l (.put s::ps) r):∃r',r=s.cps.toList++r'/\Run l ps r':=by
 cases h with|put h=>exact⟨_,rfl,h⟩
theorem aef(h:Run l (.cut s::ps) r):∃b,l=s.cps.toList++b/\Run b ps r:=by
 cases h with|cut h=>exact⟨_,rfl,h⟩
section
variable{Γ:ba}{D:Ends}{σ:St}{H:Hp}{r:List RS}{Q:VK}
theorem vh{i:Int}(h:Q (.int<|-i) H):ah Γ (.neg<|.c<|.int i) σ H Q:=h
theorem mq(h:ah Γ e σ H λv H1=>ah Γ o σ H1 λx H2=>ah Γ b σ H2 λy d=>zk x y v d λc=>az Γ r D σ c):az Γ (.set o b e::r) D σ H:=h
theorem OG{x:RE}(h:ah Γ x σ H λv H1=>∃a,v=.ref a/\(∃xs,au Γ.K H1 a xs)/\∃b:Nat->Nat->St->Hp->Prop,(∃m,b 0 m σ H1)/\∀j m σ H,b j m σ H->
  ((i6 Γ.K a).stop j H/\({D with nx:=az Γ r D}:Ends).nx σ H)\/((i6 Γ.K a).go j H/\∃N:St->Hp->Prop,(∀c H',N c H'->∃f,f<m/\b (j+1) f c H')/\∀x H',(i6 Γ.K a).hZ j H x H'->r9 Γ.K g.length (qm g) x σ H' λd H2=>az Γ body {({D with nx:=az Γ r D}:Ends) with nx:=N,ct:=N,bk:=({D with nx:=az Γ r D}:Ends).nx} d H2)):
  az Γ (.lE g .list [x] body::r) D σ H:=Bq _ _ (λ_ _=>Iff.rfl) h
end
theorem OH{n:Int}(h:n=c.length):Run c [.keep n] c:=by
 have:=Run.keep h Run.nil;rw[zae] at this;exact this
theorem aeg(h:bA p):MS p:=by
 cases p with
 |keep n=>trivial
 |put s=>exact h.1.2
 |cut s=>exact h.1.2
theorem qP{x y:Int}(q:Q (.bl<|decide<|y<x) H):dR K .Gt (.int x) (.int y) H Q:=⟨trivial,q⟩
section
variable{Γ:ba}{D:Ends}{σ:St}{H:Hp}{r:List RS}{Q:VK}
theorem OI{lo d:RE}(h:ah Γ a σ H λx H1=>ah Γ lo σ H1 λi H2=>∃c:Int,i=.int c/\ah Γ d σ H2 λj f=>∃b:Int,j=.int b/\uu Γ.K x (some c) (some b) f Q):ah Γ (.sl a (some lo)<|some d) σ H Q:=h
theorem OJ(h:ah Γ x σ H λv H1=>∃n:Int,[v]=[.int n]/\ -(2 ^ 62)<=n/\n<2 ^ 62/\∃b:Nat->Nat->St->Hp->Prop,(∃m,b 0 m σ H1)/\∀j m σ H,b j m σ H->
  ((gz 0 n.toNat).stop j H/\({D with nx:=az Γ r D}:Ends).nx σ H)\/((gz 0 n.toNat).go j H/\∃N:St->Hp->Prop,(∀c H',N c H'->∃f,f<m/\b (j+1) f c H')/\∀x H',(gz 0 n.toNat).hZ j H x H'->e9 i x σ H' λd H2=>az Γ body {({D with nx:=az Γ r D}:Ends) with nx:=N,ct:=N,bk:=({D with nx:=az Γ r D}:Ends).nx} d H2)):
  az Γ (.ko i .gc [x] body::r) D σ H:=Bq _ _ (λ_ _=>Iff.rfl) h
end
theorem OK{i j:Int}(h:Q (.int<|i - j) H):rW K .Sub (.int i) (.int j) H Q:=⟨trivial,h⟩
theorem ltI{x y:Int}(q:Q (.bl<|decide<|x<y) H):dR K .Lt (.int x) (.int y) H Q:=⟨trivial,q⟩
theorem F9(h:bo Γ t σ H λc H1=>if c=true then ah Γ a σ H1 Q else ah Γ b σ H1 Q):ah Γ (.lB t a b) σ H Q:=h
end L2.N
namespace L2
open PySem PySem.Spec PyProof.Rows
theorem aeh{K:Frag}{t:Addr}{w:V}{Q:St->Hp->Prop}(ht:H t=some (.tup [v,w]))(q:Q ((σ.set i<|some v).set j<|some w) H):r9 K [i,j].length (qm [i,j]) (.ref t) σ H Q:=
 ⟨t,_,O,.inl<|aJ.of ht,O,_,_,O,_,_,O,O,q⟩
end L2
namespace L2.B
open PySem PySem.Spec PyProof.Rows
section
variable{H:Hp}{Q:VK}{E:XK}
theorem aei{a b:Addr}{f:List Pt}{l m n:List Nat}(B:bM H a f l m)(Z:bM H b other l n)(A:f.length+other.length<=30000)(ht:aB f+aB other<=100000)(q:∀(t c d:Addr)(H':Hp)(ps g:List Pt)(r:List Nat),ay H H'->H c=none->H d=none->H' t=some (.tup [.ref c,.ref d])->bM H' c ps n r->bM H' d g m r->Passed f other ps g l m n->Q (.ref t) H'):xW [.ref a,.ref b] H Q E:=by
 obtain⟨xs,W,U,k⟩:=B;obtain⟨ys,J,F,h⟩:=Z;refine⟨a,b,xs,ys,f,other,l,m,n,O,W,J,U,F,k.ok,h.ok,k.ch,h.ch,A,ht,k.run,h.run,λt c d H' p w ps g s I G _ X V R N K P=>?_⟩;obtain⟨r,x,u⟩:=P.runs;exact q t c d H' ps g r s I G X ⟨p,V,N,P.ok1,P.ch1,x⟩ ⟨w,R,K,P.ok2,P.ch2,u⟩ P
end
end L2.B
namespace L2.N
open PySem PySem.Spec L2.B
theorem aej(xs:List V)(i j:Nat):d6 xs (some (i:Int)) (some (j:Int))=(xs.drop i).take (j - i):=by
 unfold d6;rw[HT.rM,HT.rM];by_cases h:i<=xs.length;by_cases b:j<=xs.length;rw[show min i xs.length=i by lia,show min j xs.length=j by lia];rw[show min i xs.length=i by lia,zaH (by rw[zaB];lia),zaH (by rw[zaB];lia)];rw[zbY (by lia),zbY (zby (zck h)),zbF,zbF]
section
variable{K:Frag}{H:Hp}{Q:VK}{Γ:ba}{σ:St}{D:Ends}
theorem F_(h:ah Γ a σ H λx H1=>∃c,x=.bl c/\if c=true then ah Γ (.and (b::r)) σ H1 Q else Q (.bl false) H1):ah Γ (.and (a::b::r)) σ H Q:=h
theorem Ga(h:ah Γ a σ H Q):ah Γ (.and [a]) σ H Q:=h
end
def gV:Option Nat->V
 |none=>.aD
 |some n=>.int n
section
variable{K:Frag}
variable{CP C:Addr}
theorem aek(h:σ[i]?=some (some<|.bl b))(q:c b H):bo Γ (.v i) σ H c:=⟨_,h,q⟩
end
theorem ael(h:ah Γ a σ H λx H1=>ah Γ c σ H1 λj d=>∃b:Int,j=.int b/\uu Γ.K x none (some b) d Q):ah Γ (.sl a none<|some c) σ H Q:=h
section
variable{K:Frag}
theorem aem(h:ah Γ e σ H λv H1=>az Γ r D (σ.set i<|some v) H1):az Γ (.rX i e::r) D σ H:=h
end
theorem OL{b:Type}{l:List b}{i:Nat}{x:b}(h:l[i]?=some x):l.take (i+1)=l.take i++[x]:=by
 rw[List.take_succ_eq_append_getElem ((zah.mp h).1),(zah.mp h).2]
section
variable{K:Frag}
end
theorem aen{I:List V->Hp->Addr->Prop}{G:TE}{w:List (Str×Nat)}{a b:Addr}{ys:List V}(r:H a=some (.lst xs))(l:H b=some (.lst ys))(hl:xs.length<=1000000)(P:Nat->List V->Hp->Prop)(F:P 0 [] H)(Z:∀i d H2 f,P i d H2->ay H2 f->P i d f)(g:∀i x y d H2,xs[i]?=some x->ys[i]?=some y->ay H H2->P i d H2->∀N:VK,(∀z f,ay H2 f->P (i+1) (d++[z]) f->N z f)->G (some x::some y::cX σ w) H2 N)(A:∀d H2 p,ay H H2->P (min xs.length ys.length) d H2->H2 p=none->I d H2 p):∃c:Nat->Nat->List V->Hp->Prop,(∃m,c 0 m [] H)/\∀i m d H2,c i m d H2->
   ((lF K a b).stop i H2/\∀p,H2 p=none->I d H2 p)\/
   ((lF K a b).go i H2/\∀x f,(lF K a b).hZ i H2 x f->lA K (some 2) x f λE=>om none (E.map some++cX σ w) f λb R=>
    if b=true then G (E.map some++cX σ w) R λy H6=>d.length<sizeLine/\∃h,h<m/\c (i+1) h (d++[y]) H6 else ∃h,h<m/\c (i+1) h d R):=by
 refine⟨λi m d H2=>m=min xs.length ys.length - i/\i<=min xs.length ys.length/\d.length=i/\ay H H2/\P i d H2,⟨_,O,zqZ _,O,ay.refl _,F⟩,?_⟩;rintro i m d H2 zq;obtain⟨rfl,hi,U,s,p⟩:=qa5 zq;by_cases aO:i<min xs.length ys.length;have u:i<xs.length:=by lia
 have t:i<ys.length:=by lia
 refine .inr ⟨⟨xs,ys,au.of<|s _ _ r,au.of<|s _ _ l,u,t⟩,?_⟩;rintro x f ⟨T,hT,rfl,W⟩;have J:=W xs ys xs[i] ys[i] (au.of<|s _ _ r) (au.of<|s _ _ l) (zay u) (zay t);subst J;have k:=sameNew (o:=.tup [xs[i],ys[i]]) hT;exact⟨T,_,O,aJ.of ar,O,g i xs[i] ys[i] d _ (zay u) (zay t) (s.trans k) (Z _ _ _ _ p k) _ λy H4 X B=>⟨dr (by lia),min xs.length ys.length - (i+1),by lia,O,aO,by simp[U],(s.trans k).trans X,B⟩⟩;have gI:i=min xs.length ys.length:=za5 hi (za4 aO)
 subst gI;exact .inl ⟨⟨xs,ys,au.of<|s _ _ r,au.of<|s _ _ l,O⟩,λq Y=>A d _ q s p Y⟩
section
variable{K:Frag}
end
section
variable{Γ:ba}{σ:St}{n:Nat}{H0:Hp}
theorem Gb{lo:RE}(h:ah Γ a σ H λx H1=>ah Γ lo σ H1 λj c=>∃b:Int,j=.int b/\uu Γ.K x (some b) none c Q):ah Γ (.sl a (some lo) none) σ H Q:=h
theorem aeo(h:bg Γ as σ H λvs H1=>Af Γ.K vs H1 Q):ah Γ (.xt Ew as) σ H Q:=h
theorem Gd(xs:List V)(i:Nat):d6 xs (some (i:Int)) none=xs.drop i:=by
 unfold d6;rw[HT.rM,HT.Jf];by_cases z:i<=xs.length;rw[Nat.min_eq_left z,zaH (by simp)];rw[Nat.min_eq_right (zby (zck z)),List.drop_eq_nil_of_le<|zqR _,List.drop_eq_nil_of_le (zby (zck z)),zbF]
end
theorem OM(h:s.length=0):s="":=by
 exact jC ((zbU (by exact h))▸O)
theorem j7:∀(ps:List Pt)(a:Str),(∀p∈ps,bA p)->chainOk a ps=true->ps.length<=2*B.aB ps+(if a="keep" then 0 else 1)
 |[],a,_,_=>zqZ _
 |p::r,a,b,k=>by
  have f:(lQ p.word a && chainOk p.word r)=true:=k;rw[zaj] at f;have c:=j7 r p.word (λq g=>b q<|.tail _ g) f.2;have t:B.aB (p::r)=B.fo p+B.aB r:=O;have h:=b p (.head _);rw[zao];cases p with
  |keep n=>
   have e:(Pt.keep n).word=("keep":Str):=O;have l:a≠"keep":=by
    intro z;rw[e,z] at f;have:=f.1
    revert this
    decide+kernel
   lia
  |put s=>
   have e:=by show("put":Str)≠"keep";decide
   have d:1<=s.length:=by
    have:=h.2;by_cases z:s.length=0;exact absurd (OM z) this;exact zb0 (za1 z)
   show r.length+1<=2* (s.length+B.aB r)+_;lia
  |cut s=>
   have e:(Pt.cut s).word≠ ("keep":Str):=by show("cut":Str)≠"keep";decide
   have d:1<=s.length:=by
    have:=h.2;by_cases z:s.length=0;exact absurd (OM z) this;exact zb0 (za1 z)
   show r.length+1<=2* (s.length+B.aB r)+_;lia
def dD(H:Hp):List V->List Nat->List Nat->Nat->Prop
 |[],l,r,t=>l=r/\t=0
 |v::vs,l,r,t=>∃a ps m t',v=.ref a/\bM H a ps l m/\dD H vs m r t'/\t=B.aB ps+t'
theorem dD.same (s:ay H H'):∀{vs:List V}{l r:List Nat}{t:Nat},dD H vs l r t->dD H' vs l r t:=by
 intro vs;induction vs with
 |nil=>exact λh=>h
 |cons v vs i=>
  rintro l r t ⟨a,ps,m,t',e,h1,h2,h3⟩;exact⟨a,ps,m,t',e,h1.same s,i h2,h3⟩
theorem dD.app:∀{xs ys:List V}{l m r:List Nat}{t t':Nat},dD H xs l m t->dD H ys m r t'->dD H (xs++ys) l r (t + t'):=by
 intro xs;induction xs with
 |nil=>rintro ys l m r t t' ⟨e,z⟩ h;rw[e,z,Nat.zero_add];exact h
 |cons v vs i=>
  rintro ys l m r t t' ⟨a,ps,m',t2,e,h1,h2,h3⟩ h;exact⟨a,ps,m',_,e,h1,i h2 h,by lia⟩
theorem ON:∀(xs:List V)(i:Nat),(dX xs)[i]?=xs[2*i]?
 |[],i=>O
 |[x],0=>O
 |[x],i+1=>by
  simp[dX]
 |x::y::r,0=>O
 |x::y::r,i+1=>by
  have:2* (i+1)=(2*i)+1+1:=O;rw[this,zbc,zbc,<-ON r i];simp[dX]
theorem Ge:∀(xs:List V),(dX xs).length=(xs.length+1) / 2
 |[]=>O
 |[x]=>by simp[dX]
 |x::y::r=>by
  have e:dX (x::y::r)=x::dX r:=O;rw[e,zao,Ge r];show _=(r.length+1+1+1) / 2;lia
inductive Gf(vs:List V)(H:Hp)(Q:VK)(E:XK):Prop|i(a:Addr)(xs:List V)(l r:List Nat)(t:Nat)(_:vs=[.ref a])(_:H a=some (.lst xs))(_:dD H xs l r t)(_:1<=xs.length)(_:xs.length<=10000)(_:t<=85000)(_:∀(c:Addr)(ps:List Pt)(H':Hp),ay H H'->bM H' c ps l r->B.aB ps<=t->(H c=none\/xs=[.ref c])->Q (.ref c) H')
def Gg(H:Hp)(xs:List V):Prop:= ∃c r,xs=V.ref c::r/\H c=none
theorem aep{H:Hp}{x y:V}(b:xs[2*i]?=some x)(h:xs[2*i+1]?=some y):xs.drop (2*i)=x::y::xs.drop (2* (i+1)):=by
 obtain⟨d,g⟩:=zah.mp b;obtain⟨c,f⟩:=zah.mp h;rw[zbl d,zbl c,g,f,show 2* (i+1)=2*i+1+1 by lia]
section
variable{K:Frag}
theorem aeq:bO (Gf) (λE=>aI K [("then",pw)] [] (E:=E)) LO LN:=by
 intro vs H Q E h;obtain⟨a0,x_,l,r,t,rfl,ha,hc,h1,h2,ht,q⟩:=h;refine tj (λm σ H2=>qX4 λ(a:Addr)(xs:List V)(U:Nat)(I:Option V)=>qA9 (m=xs.length) (σ=[some<|.ref a,I]) (ay H H2) (H2 a=some (.lst xs)) (dD H2 xs l r U) (1<=xs.length) (xs.length<=10000) (U<=t) (xs=x_\/Gg H xs)) ⟨_,a0,x_,t,none,O,O,ay.refl _,ha,hc,h1,h2,zqR _,.inl O⟩ ?_;rintro m σ H2 ⟨a,xs,U,I,rfl,rfl,s2,ir,dQ,k1,k2,k3,k4⟩;refine bf<|fX<|ag O<|.inl ⟨_,au.of ir,aC<|N.qP ⟨_,O,?_⟩⟩;by_cases z:1<xs.length;refine iT ?_ (zqT (by lia));refine⟨λX H'=>∃(R:Addr)(u:List V)(J:Nat)(I:Option V),u.length<xs.length/\X=[some<|.ref R,I]/\ay H H'/\H' R=some (.lst u)/\dD H' u l r J/\1<=u.length/\u.length<=10000/\J<=t/\(u=x_\/Gg H u),?_,?_⟩;rintro X H' zq;obtain⟨R,u,J,I,zq⟩:=qx4 zq;obtain⟨aO,e,s',m7,fS,j1,j2,j3,j4⟩:=qa9 zq;exact⟨_,aO,R,u,J,I,O,e,s',m7,fS,j1,j2,j3,j4⟩;refine aem ?_;refine⟨_,O,a,xs,O,au.of ir,(by decide),λp1 f1=>?_⟩;rw[aaO];have s3:=sameNew (o:=.lst (dX xs)) f1;have jm:upd H2 p1 (.lst<|dX xs) p1=some (.lst<|dX xs):=ar;have vi:=s3 _ _ ir;generalize upd H2 p1 (.lst<|dX xs)=H3 at s3 jm vi⊢;refine⟨_,O,a,xs,O,au.of vi,(by decide),λp2 f2=>?_⟩;rw[aaP];have s4:=sameNew (o:=.lst (dX<|xs.drop 1)) f2;have km:upd H3 p2 (.lst<|dX<|xs.drop 1) p2=some (.lst<|dX<|xs.drop 1):=ar;have Gh:=s4 _ _ jm;have OO:=s4 _ _ vi;have Gi:=s3.trans s4;have Gj:=dD.same Gi dQ;have OP:=Ge xs;have Gk:=Ge (xs.drop 1);rw[zaB] at Gk;refine⟨p1,p2,O,⟨_,au.of Gh⟩,⟨_,au.of km⟩,?_⟩;refine aen Gh km (by lia) (λi d A=>d.length=i/\(i=0\/Gg H d)/\∃(m:List Nat)(g G:Nat),dD A d l m g/\dD A (xs.drop<|2*i) m r G/\g+G<=t) ⟨O,.inl O,l,0,U,⟨O,O⟩,Gj,by lia⟩ (λi d A H6 ⟨e,k,m,g,G,F,p,c3⟩ s=>⟨e,k,m,g,G,dD.same s F,dD.same s p,c3⟩) ?_ ?_;intro i x y d A hx hy W ⟨P,k,m,g,G,F,p,c3⟩ Q' kk;rw[ON] at hx hy;have vX:xs[2*i+1]?=some y:=by
  rw[List.getElem?_drop] at hy;rw[show 2*i+1=1+2*i by lia];exact hy
 rw[aep (H:=A) hx vX] at p;obtain⟨a1,jU,m1,t7,rfl,d1,⟨a2,Gm,m2,t8,rfl,d2,c4,e8⟩,e7⟩:=p;have n1:=j7 jU "" d1.chg.ok d1.chg.ch;have n2:=j7 Gm "" d2.chg.ok d2.chg.ch;refine b_ pw O<|av<|ag O<|av<|ag O<|aH<|OA d1 d2 (by lia) (by lia) λc H6 ps f fc dc b=>kk _ _ f ?_;have jt:=b.aB;refine⟨by rw[zqA,P];rfl,.inr ?_,m2,g+B.aB ps,t8,dD.app (dD.same f F) ⟨c,ps,m2,0,O,dc,⟨O,O⟩,O⟩,dD.same f c4,by lia⟩;have vj:H c=none:=(s2.trans<|Gi.trans W).free fc;rcases k with rfl|⟨c0,r0,rfl,Z⟩
 have:d=[]:=zbU P;subst this;exact⟨c,[],O,vj⟩;exact⟨c0,r0++[.ref c],O,Z⟩;intro d A Y W ⟨P,k,m,g,G,F,p,c3⟩ f5;rw[OP,Gk] at P p;have en:min ((xs.length+1) / 2) ((xs.length - 1+1) / 2)=xs.length / 2:=by lia
 rw[en] at P p;have f:=sameNew (o:=.lst d) f5;have h5:upd A Y (.lst d) Y=some (.lst d):=ar;have ya:=(W.trans f) _ _ OO;have DY:=dD.same f F;have zV:=dD.same f p;have qQ:=(Gi.trans W).trans f;refine bw<|bT<|ag O<|Gb<|ag O<|bT<|aC<|fX<|ag O<|.inl ⟨_,au.of h5,⟨.inl ⟨by decide,by decide⟩,⟨_,O,.inl ⟨xs,au.of ya,λw fw=>?_⟩⟩⟩⟩;have ew:d6 xs (some<|2* ((d.length:Nat):Int)) none=xs.drop (2* (xs.length / 2)):=by
  rw[show 2* ((d.length:Nat):Int)=((2* (xs.length / 2):Nat):Int) by rw[P];lia,Gd]
 rw[ew];have s7:=sameNew (o:=.lst (xs.drop<|2* (xs.length / 2))) fw;refine .inl ⟨Y,w,d,_,O,O,s7 _ _ h5,ar,cz (by rw[zaB];lia),λR b'=>?_⟩;have s8:=sameNew (o:=.lst (d++xs.drop (2* (xs.length / 2)))) b';refine⟨R,_,g+G,_,?_,O,s2.trans<|(qQ.trans s7).trans s8,ar,dD.same (s7.trans s8)<|dD.app DY zV,?_,?_,c3,.inr ?_⟩;rw[zqA,zaB];lia;rw[zqA,zaB];lia;rw[zqA,zaB];lia;rw[OP,Gk,en] at k;rcases k with k|⟨c0,r0,e0,Z⟩
 exact absurd k (by lia);exact⟨c0,_,by rw[e0];rfl,Z⟩;refine iF ?_ (zqF (by lia));obtain⟨v,rfl⟩:∃v,xs=[v]:=by
  rcases xs with _|⟨v,_|_⟩
  cases k1;exact⟨v,O⟩;exact absurd (by simp) z
 obtain⟨c,ps,m,t',rfl,cU,⟨rfl,rfl⟩,e⟩:=dQ;refine dh<|bD<|ag O<|aC<|cj ir O<|q c ps H2 s2 cU (by lia) ?_;rcases k4 with k4|⟨c0,r0,e0,Z⟩
 exact .inr k4.symm;cases e0;exact .inl Z
end
noncomputable def h6(here:Int)(lo p d be lg:Addr):List (Str×V):=[("here",.int here),("lengths",.ref lo),("parents",.ref p),("edges",.ref d),("below",.ref be),("last_gone",.ref lg)]
section
variable{here:Int}{lo pa ed be lg:Addr}
theorem iW:(h6 here lo pa ed be lg).lookup ("here":Str)=some (V.int here):=o_
theorem yb:(h6 here lo pa ed be lg).lookup ("lengths":Str)=some (V.ref lo):=O
theorem pB:(h6 here lo pa ed be lg).lookup ("parents":Str)=some (V.ref pa):=O
theorem qR:(h6 here lo pa ed be lg).lookup ("edges":Str)=some (V.ref ed):=O
theorem Gn:(h6 here lo pa ed be lg).lookup ("below":Str)=some (V.ref be):=O
theorem Gp:(h6 here lo pa ed be lg).lookup ("last_gone":Str)=some (V.ref lg):=O
theorem Bs{m:Str}(g:¬m="here")(f:¬m="lengths")(d:¬m="parents")(c:¬m="edges")(b:¬m="below")(h:¬m="last_gone"):(h6 here lo pa ed be lg).lookup m=none:=
 (dY g).trans ((dY f).trans<|(dY d).trans<|(dY c).trans<|(dY b).trans<|(dY h).trans O)
noncomputable def mr:List Str:=["here","lengths","parents","edges","below","last_gone"]
theorem cZ{here:Int}{pa ed:Addr}{m:Str}(h:mr.all (λx=>decide<|¬m=x)=true:=by decide+kernel):(h6 here lo pa ed be lg).lookup m=none:=by
 have g:=λx b=>of_decide_eq_true (zbr.mp h x b);exact Bs (g _ (by unfold mr;simp)) (g _ (by unfold mr;simp)) (g _ (by unfold mr;simp)) (g _ (by unfold mr;simp)) (g _ (by unfold mr;simp))<|g _ (by unfold mr;simp)
end
structure eW(pars:List (Option Nat)):Prop where
 rt:pars[0]?=some none
 up:∀i,0<i->i<pars.length->∃j,pars[i]?=some (some j)/\j<i
structure fA(C:Addr)(H:Hp)(p dx lo pa ed be lg:Addr)(here:Nat)(bB:List Nat)(pars:List (Option Nat)):Prop where
 ob:H p=some (.ins C dx<|h6 (here:Nat) lo pa ed be lg)
 ol:H lo=some (.lst<|bB.map λn=>V.int (n:Nat))
 op:H pa=some (.lst<|pars.map gV)
 ln:bB.length=pars.length
 tr:eW pars
 hr:here<pars.length
 sz:pars.length<=100000
theorem fA.same(A:fA C H p dx lo b d be lg here bB pars)(s:ay H H'):fA C H' p dx lo b d be lg here bB pars:=⟨s _ _ A.ob,s _ _ A.ol,s _ _ A.op,A.ln,A.tr,A.hr,A.sz⟩
section
variable{K:Frag}{C CN:Addr}
inductive iy(C:Addr)(vs:List V)(H:Hp)(Q:VK)(E:XK):Prop|i(p dx lo b d be lg:Addr)(here:Nat)(bB:List Nat)(pars:List (Option Nat))(_:vs=[.ref p])(_:fA C H p dx lo b d be lg here bB pars)(_:Q (.int (pars.length:Nat)) H)
theorem aet(T:fP K C):bO (iy C) (λE=>aI K [] [] (E:=E)) LV m4:=by
 intro b H Q E h;obtain⟨p,dx,lo,c,d,be,lg,here,bB,pars,rfl,A,q⟩:=h;refine dh<|fX<|cB<|ag O ⟨p,C,dx,_,_,O,A.ob,T.cl,T.m5,pB,.inl ⟨_,au.of A.op,?_⟩⟩;rw[zaa];exact q
inductive tK(C CN:Addr)(vs:List V)(H:Hp)(Q:VK)(E:XK):Prop|i(p dx lo b d be lg:Addr)(here:Nat)(bB:List Nat)(pars:List (Option Nat))(v:V)(_:vs=[.ref p,v])(_:fA C H p dx lo b d be lg here bB pars)(_:((∃n:Nat,v=.int n/\n<pars.length/\Q .aD H)\/(OD v 0 ((pars.length:Nat) - 1:Int) H/\E (.ref CN) none H)))
theorem aeu:bO (tK C CN) (λE=>aI K [("is_between",F7)] [] [] [("many",C,iy C)] (et:=[("NoNode",CN)]) (E:=E)) LR uI:=by
 intro f H Q E h;obtain⟨p,dx,lo,c,d,be,lg,here,bB,pars,v,rfl,A,h⟩:=h;refine ZZ<|kS<|nE F7 O<|av<|ag O<|av<|aC<|av<|bT<|j6 C (iy C) O<|ag O ⟨p,dx,_,O,A.ob,cZ,p,dx,lo,c,d,be,lg,here,bB,pars,O,A,aC ⟨trivial,aH ⟨_,_,_,O,?_⟩⟩⟩;rcases h with⟨n,rfl,b,q⟩|⟨b,q⟩
 exact .inl ⟨_,O,za6 _,by lia,mi<|iF (cQ q) O⟩;exact .inr ⟨b,mi<|iT ⟨cC,q⟩ O⟩
inductive Gq(C:Addr)(vs:List V)(H:Hp)(Q:VK)(E:XK):Prop|i(p dx lo b d be lg:Addr)(here:Nat)(bB:List Nat)(pars:List (Option Nat))(n k:Nat)(_:vs=[.ref p,.int n])(_:fA C H p dx lo b d be lg here bB pars)(_:bB[n]?=some k)(_:Q (.int (k:Nat)) H)
theorem aev(T:fP K C):bO (Gq C) (λE=>aI K [] [] [] [("need_node",C,tK C CN)] (E:=E)) LW uI:=by
 intro f H Q E h;obtain⟨p,dx,lo,c,d,be,lg,here,bB,pars,n,k,rfl,A,b,q⟩:=h;have g:=(zah.mp b).1;have l:=A.ln;refine cN<|gJ C (tK C CN) O<|ag O ⟨p,dx,_,O,A.ob,cZ,ag O ⟨p,dx,lo,c,d,be,lg,here,bB,pars,_,O,A,.inl ⟨n,O,zaq g (za3 l),?_⟩⟩⟩;exact dh<|bD<|cB<|ag O ⟨p,C,dx,_,_,O,A.ob,T.cl,T.sJ,yb,ag O<|cj A.ol (bZ (by rw[zaf,b];rfl)) q⟩
end
noncomputable def ups(pars:List (Option Nat)):Nat->Nat->List Nat
 | 0,n=>[n]
 |f+1,n=>match pars[n]? with
  |some (some j)=>n::ups pars f j
  |_=>[n]
theorem aew(T:eW pars):∀(n f:Nat),n<pars.length->n<=f->ups pars f n=ups pars n n:=by
 intro n;induction n using Nat.strongRecOn with
 |ind n h=>
  intro f d g;cases n with
  |zero=>
   cases f with
   |zero=>rfl
   |succ f=>
    unfold ups;rw[T.rt]
  |succ n=>
   cases f with
   |zero=>exact absurd g ((zcp _ (zcs g)).elim)
   |succ f=>
    obtain⟨j,c,m⟩:=T.up (n+1) (zb7 _) d;have l:ups pars (f+1) (n+1)=(n+1)::ups pars f j:=by
     show(match pars[n+1]? with|some (some j)=>(n+1)::ups pars f j|_=>[n+1])=_;rw[c]
    have k:ups pars (n+1) (n+1)=(n+1)::ups pars n j:=by
     show(match pars[n+1]? with|some (some j)=>(n+1)::ups pars n j|_=>[n+1])=_;rw[c]
    rw[l,k,h j m f (za2 m d) (zb1 (zaq m g)),h j m n (za2 m d) (zb1 m)]
theorem aex:ups pars 0 0=[0]:=O
theorem pE(T:eW pars)(b:0<n)(c:n<pars.length):∃j,pars[n]?=some (some j)/\j<n/\ups pars n n=n::ups pars j j:=by
 obtain⟨j,h,f⟩:=T.up n b c;refine⟨j,h,f,?_⟩;cases n with
 |zero=>exact absurd b ((zaC _ b).elim)
 |succ n=>
  have d:ups pars (n+1) (n+1)=(n+1)::ups pars n j:=by
   show(match pars[n+1]? with|some (some j)=>(n+1)::ups pars n j|_=>[n+1])=_;rw[h]
  rw[d,aew T j n (za2 f c) (zb1 f)]
theorem Bt(T:eW pars):∀(n:Nat),n<pars.length->(ups pars n n).length<=n+1:=by
 intro n;induction n using Nat.strongRecOn with
 |ind n h=>
  intro b;by_cases z:n=0;subst z;exact zqR _;obtain⟨j,_,c,e⟩:=pE T (za1 z) b;have:=h j c (za2 c b);rw[e,zao];lia
section
variable{K:Frag}{C CN:Addr}
inductive yc(C:Addr)(vs:List V)(H:Hp)(Q:VK)(E:XK):Prop|i(p dx lo c d be lg:Addr)(here:Nat)(bB:List Nat)(pars:List (Option Nat))(n:Nat)(_:vs=[.ref p,.int n])(_:fA C H p dx lo c d be lg here bB pars)(_:n<pars.length)(_:∀b H',ay H H'->H b=none->H' b=some (.lst<|(ups pars n n).map λk=>V.int (k:Nat))->Q (.ref b) H')
theorem aey(T:fP K C):bO (yc C) (λE=>aI K [] [] (E:=E)) Mb Ma:=by
 intro Z H Q E h;obtain⟨p,dx,lo,F,U,be,lg,here,bB,pars,n,rfl,A,I,q⟩:=h;have B:=A.sz;refine bw<|cJ<|av<|ag O<|aH ⟨cC,λL l=>?_⟩;refine tj (λm σ H2=>∃(b:List Nat)(k:Nat),m=k/\σ=[some<|.ref p,some<|.int (n:Nat),some<|.ref L]/\ay H H2/\H2 L=some (.lst<|(b.map λk=>V.int (k:Nat))++[V.int (k:Nat)])/\k<pars.length/\b.length+k<=n/\ups pars n n=b++ups pars k k)
  ⟨n,[],n,O,O,(sameNew l),ar,I,by simp,O⟩ ?_
 rintro m σ H2 zq;obtain⟨b,k,zq⟩:=qx2 zq;obtain⟨rfl,rfl,g,f,N,J,x⟩:=qa7 zq;refine bf<|bD<|ag O<|vh<|.inl ⟨L,_, -1,_,O,O,au.of f,zj _ _,aC<|qO ⟨_,O,?_⟩⟩;by_cases z:m=0;subst z;refine iF ?_ (O);refine dh<|ag O<|q L H2 g l ?_;rw[x,zap];exact f;refine iT ?_ (by lia);obtain⟨j,P,X,es⟩:=pE A.tr (za1 z) N;refine⟨λd H'=>∃(b:List Nat)(k:Nat),k<m/\d=[some<|.ref p,some<|.int (n:Nat),some<|.ref L]/\ay H H'/\H' L=some (.lst<|(b.map λk=>V.int (k:Nat))++[V.int (k:Nat)])/\k<pars.length/\b.length+k<=n/\ups pars n n=b++ups pars k k,?_,?_⟩;rintro d H' ⟨t,w,u,e,r⟩;exact⟨w,u,t,w,O,e,r⟩;have G:=A.same g;refine cN<|ju<|ag O ⟨.inl ⟨O,_,au.of f⟩,bD<|cB<|ag O ⟨p,C,dx,_,_,O,G.ob,T.cl,T.m5,pB,bD<|ag O<|vh<|.inl ⟨L,_, -1,_,O,O,au.of f,zj _ _,?_⟩⟩⟩;refine cj G.op (bZ (by rw[zaf,P];rfl)) ?_;refine⟨_,f,dr (by rw[zqA,zaa];show b.length+1<=1000000;lia),?_⟩;have R:aR L H2 (upd H2 L<|.lst<|((b.map λk=>V.int (k:Nat))++[V.int (m:Nat)])++[gV<|some j]):=aR.upd;refine⟨b++[m],j,X,O,λc o e=>R c o (g _ _ e)<|a_ e l,?_,za2 X N,by rw[zqA];show b.length+1+j<=n;lia,by rw[x,es,zam];rfl⟩;rw[ar,zap];rfl
end
noncomputable def strip:List Nat->List Nat->List Nat×List Nat
 |r::a::as,s::b::bs=>if a=b then strip (a::as) (b::bs) else (r::a::as,s::b::bs)
 |x,y=>(x,y)
noncomputable def kT(pars:List (Option Nat))(b other:Nat):List Nat:=(strip (ups pars b b).reverse (ups pars other other).reverse).1.reverse++(strip (ups pars b b).reverse (ups pars other other).reverse).2.tail
abbrev iV(l:List Nat):List V:=l.map λk=>V.int (k:Nat)
theorem OQ(xs:List b)(v w:b):gE (xs++[v,w]) (-2)=some v:=by
 have l:(xs++[v,w]).length=xs.length+2:=by simp
 unfold gE gh;have h:¬(0:Int)<= -2:=by lia
 rw[if_neg h,if_pos (by lia)];have e:(-2+((xs.length:Int)+2)).toNat=xs.length:=by lia
 simp[e]
theorem qS(r:Nat)(l:List Nat):iV (r::l).reverse=iV l.reverse++[V.int (r:Nat)]:=by simp
theorem OR(r:Nat)(y:List Nat):strip [r] y=([r],y):=O
theorem OS(x:List Nat)(s:Nat):strip x [s]=(x,[s]):=by
 unfold strip;simp
theorem OT{s a b:Nat}{as bs:List Nat}(h:a≠b):strip (r::a::as) (s::b::bs)=(r::a::as,s::b::bs):=by
 unfold strip;rw[if_neg h]
theorem strip_eq{s a:Nat}{as bs:List Nat}:strip (r::a::as) (s::a::bs)=strip (a::as) (a::bs):=by
 conv=>lhs;unfold strip
 rw[if_pos O]
theorem aeB(l:List Nat):iV l.reverse=(iV l).reverse:=by simp
section
variable{K:Frag}{C CN:Addr}
inductive yd(C:Addr)(vs:List V)(H:Hp)(Q:VK)(E:XK):Prop|i(p dx lo c d be lg:Addr)(here:Nat)(bB:List Nat)(pars:List (Option Nat))(n m:Nat)(_:vs=[.ref p,.int n,.int m])(_:fA C H p dx lo c d be lg here bB pars)(_:n<pars.length)(_:m<pars.length)(_:∀b H',ay H H'->H b=none->H' b=some (.lst<|iV<|kT pars n m)->Q (.ref b) H')
theorem aeC:bO (yd C) (λE=>aI K [] [] [] [("need_node",C,tK C CN),("upward",C,yc C)] (E:=E)) EC Mc:=by
 intro vs H Q E h;obtain⟨p,dx,lo,F,ed,be,lg,here,bB,pars,n,m,rfl,A,W,Y,q⟩:=h;have sz:=A.sz;refine cN<|gJ C (tK C CN) O<|ag O ⟨p,dx,_,O,A.ob,cZ,ag O ⟨p,dx,lo,F,ed,be,lg,here,bB,pars,_,O,A,.inl ⟨n,O,W,?_⟩⟩⟩;refine cN<|gJ C (tK C CN) O<|ag O ⟨p,dx,_,O,A.ob,cZ,ag O ⟨p,dx,lo,F,ed,be,lg,here,bB,pars,_,O,A,.inl ⟨m,O,Y,?_⟩⟩⟩;refine bw<|gJ C (yc C) O<|ag O ⟨p,dx,_,O,A.ob,cZ,ag O ⟨p,dx,lo,F,ed,be,lg,here,bB,pars,n,O,A,W,λu H1 s1 fu hu=>?_⟩⟩;have A1:=A.same s1;refine bw<|gJ C (yc C) O<|ag O ⟨p,dx,_,O,A1.ob,cZ,ag O ⟨p,dx,lo,F,ed,be,lg,here,bB,pars,m,O,A1,Y,λd H2 s2 fd hd=>?_⟩⟩;have b':=s2 _ _ hu;have OU:d≠u:=λz=>by rw[z,hu] at fd;cases fd
 have jw:=s1.trans s2;have c':=s1.free fd;have lu:=Bt A.tr n W;have ld:=Bt A.tr m Y;have ne:∀k,k<pars.length->(ups pars k k).reverse≠ []:=by
  intro k hk z;have z':=List.reverse_eq_nil_iff.mp z;by_cases k0:k=0;subst k0;cases z';obtain⟨j,_,_,e⟩:=pE A.tr (za1 k0) hk;rw[e] at z';cases z'
 refine tj (λmm σ l=>∃(x y:List Nat),mm=x.length/\σ=[some<|.ref p,some<|.int (n:Nat),some<|.int (m:Nat),some<|.ref u,some<|.ref d]/\ay H l/\l u=some (.lst<|iV x.reverse)/\l d=some (.lst<|iV y.reverse)/\x≠ []/\y≠ []/\x.length<=n+1/\y.length<=m+1/\strip (ups pars n n).reverse (ups pars m m).reverse=strip x y)
  ⟨_,(ups pars n n).reverse,(ups pars m m).reverse,O,O,jw,by rw[zbx];exact b',by rw[zbx];exact hd,ne n W,ne m Y,by rw[zba];exact lu,by rw[zba];exact ld,O⟩ ?_
 rintro mm σ l ⟨x,y,rfl,rfl,s3,t,G,nx,ny,U,J,es⟩;have B:(iV x.reverse).length=x.length:=by rw[zaa,zba]
 have Z:(iV y.reverse).length=y.length:=by rw[zaa,zba]
 have f:strip x y=(x,y)->az (aI K [] [] [] [("need_node",C,tK C CN),("upward",C,yc C)] (E:=E)) (EC.drop 5) (Dn Q) [some<|.ref p,some<|.int (n:Nat),some<|.int (m:Nat),some<|.ref u,some<|.ref d] l:=by
  intro e;refine dh<|bT<|ag O<|aeo<|av<|ael<|ag O<|vh ⟨_,O,.inl ⟨_,au.of G,λw fw=>aH ⟨w,_,O,au.of ar,λv fv=>?_⟩⟩⟩;have R:=sameNew (o:=.lst (d6 (iV y.reverse) none<|some<|-1)) fw;have s5:=sameNew (o:=.lst (d6 (iV y.reverse) none<|some<|-1).reverse) fv;have ec:(d6 (iV y.reverse) none<|some<|-1).reverse=iV y.tail:=by
   cases y with
   |nil=>exact absurd O ny
   |cons b g=>
    have e1:iV (b::g).reverse=iV g.reverse++[V.int (b:Nat)]:=by
     show List.map _ (b::g).reverse=_;rw[zaQ,zap];rfl
    rw[e1];unfold d6;rw[HT.Jf];have e2:HT.bq (iV g.reverse++[V.int (b:Nat)]).length (iV g.reverse++[V.int (b:Nat)]).length (some<|-1)=(iV g.reverse).length:=by
     have hl:(iV g.reverse++[V.int (b:Nat)]).length=(iV g.reverse).length+1:=by rw[zqA];rfl
     rw[hl];unfold HT.bq;simp;lia
    rw[e2,zbq,Nat.sub_zero,List.take_left,aeB,zbx];rfl
  refine .inl ⟨u,v,_,_,O,O,(R.trans s5) _ _ t,ar,cz (by rw[zba];have:=C2 (iV y.reverse) none (some<|-1);lia),λb fb=>?_⟩;have s6:=sameNew (o:=.lst (iV x.reverse++(d6 (iV y.reverse) none<|some<|-1).reverse)) fb;refine q b _ (s3.trans<|(R.trans s5).trans s6) (s3.free<|(R.trans s5).free fb) ?_;rw[ar,ec];unfold kT;rw[es,e];unfold iV;rw[zap]
 match x,nx,U,es,f,t,B with
 |[r],_,U,es,f,t,B=>
  refine Bp<|bf<|fX<|ag O<|.inl ⟨_,au.of t,aC<|N.qP ⟨_,O,iF (iF (f<|OR r y) O)<|zqF (by rw[B];show ¬((1:Nat):Int) >1;decide)⟩⟩
 |r::a::as,_,U,es,f,t,B=>
  refine Bp<|bf<|fX<|ag O<|.inl ⟨_,au.of t,aC<|N.qP ⟨_,O,iT ?_<|zqT (by rw[B,zao,zao];lia)⟩⟩;match y,ny,J,es,f,G,Z with
  |[s],_,J,es,f,G,Z=>
   refine Bp<|bf<|fX<|ag O<|.inl ⟨_,au.of G,aC<|N.qP ⟨_,O,iF (iF (f<|OS _ s) O)<|zqF (by rw[Z];show ¬((1:Nat):Int) >1;decide)⟩⟩
  |s::b::g,_,J,es,f,G,Z=>
   refine Bp<|bf<|fX<|ag O<|.inl ⟨_,au.of G,aC<|N.qP ⟨_,O,iT ?_<|zqT (by rw[Z,zao,zao];lia)⟩⟩;have ex:iV (r::a::as).reverse=iV as.reverse++[V.int (a:Nat),V.int (r:Nat)]:=by rw[qS,qS,zam];rfl
   have ey:iV (s::b::g).reverse=iV g.reverse++[V.int (b:Nat),V.int (s:Nat)]:=by rw[qS,qS,zam];rfl
   refine aea<|bf<|bD<|ag O<|vh<|cj t (by rw[ex];exact OQ _ _ _)<|bD<|ag O<|vh<|cj G (by rw[ey];exact OQ _ _ _)<|eV ⟨_,O,?_⟩;by_cases z:a=b;subst z;refine iT ?_ (by simp);refine⟨λX H'=>∃(I P:List Nat),I.length< (r::a::as).length/\X=[some<|.ref p,some<|.int (n:Nat),some<|.int (m:Nat),some<|.ref u,some<|.ref d]/\ay H H'/\H' u=some (.lst<|iV I.reverse)/\H' d=some (.lst<|iV P.reverse)/\I≠ []/\P≠ []/\I.length<=n+1/\P.length<=m+1/\strip (ups pars n n).reverse (ups pars m m).reverse=strip I P,?_,?_⟩;rintro X H' ⟨I,P,aO,a'⟩;exact⟨_,aO,I,P,O,a'⟩;have e1:(iV (r::a::as).reverse).dropLast=iV (a::as).reverse:=by rw[qS,zci]
   have e2:(iV (s::a::g).reverse).dropLast=iV (a::g).reverse:=by rw[qS,zci]
   refine⟨_,O,.inl ⟨O,_,au.of t⟩,_,V.int (r:Nat),t,(by simp),?_⟩;rw[e1];have b1:aR u l (upd l u<|.lst<|iV (a::as).reverse):=aR.upd;have OV:upd l u (.lst<|iV (a::as).reverse) u=some (.lst<|iV (a::as).reverse):=ar;have jL:=b1 _ _ G OU;have R:=λc o e=>b1 c o (s3 _ _ e) (a_ e fu);generalize upd l u (.lst<|iV (a::as).reverse)=H4 at b1 OV jL R⊢;refine⟨_,O,.inl ⟨O,_,au.of jL⟩,_,V.int (s:Nat),jL,(by simp),?_⟩;rw[e2];have b2:aR d H4 (upd H4 d<|.lst<|iV (a::g).reverse):=aR.upd;have e':as.length+1+1<=n+1:=U;have d':g.length+1+1<=m+1:=J;exact⟨a::as,a::g,by show as.length+1<as.length+1+1;exact zbM _,O,λc o e=>b2 c o (R _ _ e)<|a_ e c',b2 _ _ OV<|Ne.symm OU,ar,(by simp),(by simp),by show as.length+1<=_;exact zcj e',by show g.length+1<=_;exact zcj d',by rw[es,strip_eq]⟩;exact iF (f<|OT z) (by simp;lia)
end
def mv(H:Hp)(es:List V)(pars:List (Option Nat))(aA:List (List Nat))(T:Nat):Prop:= ∀(i j:Nat),pars[i]?=some (some j)->∃(a:Addr)(ps:List Pt)(l b:List Nat),es[i]?=some (V.ref a)/\aA[j]?=some l/\aA[i]?=some b/\bM H a ps l b/\B.aB ps<=T
theorem mv.same(h:mv H es pars aA T)(s:ay H H'):mv H' es pars aA T:=λi j e=>by
 obtain⟨a,ps,l,b,zq⟩:=qx4 (h i j e);obtain⟨k,g,f,d,c⟩:=qa5 zq;exact⟨a,ps,l,b,k,g,f,d.same s,c⟩
section
variable{K:Frag}{C CN:Addr}
theorem yg{o:Option Nat}(q:Q (.bl<|decide<|o=some n) H):dR K .Eq (gV o) (.int (n:Nat)) H Q:=by
 cases o with
 |none=>
  first
   |exact q
   |exact⟨.none,.int (n:Nat),O,O,O,O,q⟩
 |some k=>
  refine eV ?_;by_cases z:k=n;subst z;have e:decide (some k=some k)=true:=by lia
  simpa using q;have e:decide (some k=some n)=false:=by lia
  rw[e] at q;have b:decide (((k:Nat):Int)=((n:Nat):Int))=false:=by lia
  rw[b];exact q
inductive Gr(C:Addr)(vs:List V)(H:Hp)(Q:VK)(E:XK):Prop|i(p dx lo b d be lg:Addr)(here:Nat)(bB:List Nat)(pars:List (Option Nat))(es:List V)(aA:List (List Nat))(T n m:Nat)(ln l:List Nat)(_:vs=[.ref p,.int n,.int m])(_:fA C H p dx lo b d be lg here bB pars)(_:H d=some (.lst es))(_:mv H es pars aA T)(_:T<=14000)(_:aA[n]?=some ln)(_:aA[m]?=some l)(_:m<pars.length)(_:(pars[m]?=some (some n)\/(pars[m]?≠some (some n)/\pars[n]?=some (some m))))(_:∀(c:Addr)(ps:List Pt)(H':Hp),ay H H'->bM H' c ps ln l->B.aB ps<=T->Q (.ref c) H')
theorem aeF(T:fP K C):bO (Gr C) (λE=>aI K [("back",o7)] [] (E:=E)) EB EA:=by
 intro X H Q E h;obtain⟨p,dx,lo,Z,Y,be,lg,here,bB,pars,es,aA,t,n,m,B,F,rfl,A,u,w,J,l,r,V,d,q⟩:=h;have G:=zay V;refine dh<|F9<|bf<|bD<|cB<|ag O ⟨p,C,dx,_,_,O,A.ob,T.cl,T.m5,pB,ag O<|cj A.op (bZ (by rw[zaf,G];rfl))<|ag O<|yg ⟨_,O,?_⟩⟩;by_cases z:pars[m]=some n;refine iT ?_ (zqT z);rw[z] at G;obtain⟨a,ps,N,P,k,g,f,b,x⟩:=w m n G;rw[l] at g;cases g;rw[r] at f;cases f;exact bD<|cB<|ag O ⟨p,C,dx,_,_,O,A.ob,T.cl,T.m6,qR,ag O<|cj u (bZ k)<|q a ps H (ay.refl _) b x⟩;refine iF ?_ (zqF z);have I:pars[n]?=some (some m):=by
  rcases d with d|d
  rw[G] at d;exact absurd (zal d) z;exact d.2
 obtain⟨a,ps,N,P,zq⟩:=qx4 (w n m I);obtain⟨k,g,f,b,x⟩:=qa5 zq;rw[r] at g;cases g;rw[l] at f;cases f;have cl:=j7 ps "" b.chg.ok b.chg.ch;have U:=(b.chg.bk (by lia)).2;refine b_ o7 O<|av<|bD<|cB<|ag O ⟨p,C,dx,_,_,O,A.ob,T.cl,T.m6,qR,ag O<|cj u (bZ k)<|aH<|F6 b (by lia) (by lia) λc H' s W R=>q c _ H' s R ?_⟩;lia
variable{CF:Addr}
inductive j8(C CF:Addr)(vs:List V)(H:Hp)(Q:VK)(E:XK):Prop|i(p dx lo b d be lg:Addr)(here:Nat)(bB:List Nat)(pars:List (Option Nat))(c:Addr)(ps:List Pt)(l r:List Nat)(k:Nat)(_:vs=[.ref p,.ref c])(_:fA C H p dx lo b d be lg here bB pars)(_:bM H c ps l r)(_:B.aB ps<=100000)(_:bB[here]?=some k)(_:((l.length=k/\∀H',ay H H'->Q .aD H')\/(l.length≠k/\∀H',ay H H'->E (.ref CF) none H')))
theorem aeG(T:fP K C):bO (j8 C CF) (λE=>aI K [("sizes",fQ)] [] (et:=[("BadFit",CF)]) (E:=E)) Ey qv:=by
 intro w H Q E h;obtain⟨p,dx,lo,x,I,be,lg,here,bB,pars,c,ps,l,r,k,rfl,A,⟨xs,u,m,b⟩,G,g,h⟩:=h;have N:=j7 ps "" b.ok b.ch;refine ZZ<|bf<|bD<|b_ fQ O<|av<|ag O<|aH ⟨c,xs,ps,O,u,m,b.ok,b.ch,by lia,λt H' s f=>aC<|tJ f O ?_⟩;have d:=A.same s;refine bD<|cB<|ag O ⟨p,C,dx,_,_,O,d.ob,T.cl,T.sJ,yb,cB<|ag O ⟨p,C,dx,_,_,O,d.ob,T.cl,T.gH,iW,cj d.ol (bZ (by rw[zaf,g];rfl)) ?_⟩⟩;have e:=b.run.over;rw[e];refine qO ⟨_,O,?_⟩;rcases h with⟨e,q⟩|⟨e,q⟩
 exact iF (cQ<|q _ s) (by lia);refine iT ⟨cC,q _ s⟩ ?_;have:decide (((l.length:Nat):Int)=((k:Nat):Int))=false:=by lia
 rw[this];rfl
end
end L2.N
namespace ZL
open PySem
abbrev tL(h:Heap)(z I b a:Addr)(f:Bool):Prop:=
 h.get? z=some {cls:=.type "zip",dict:=none,data:=.fields #[rawInt a,.bool f,.bool false,.ref I,.ref b],slots:= #[]}
section
variable{prog:Program}{w:World}{A:Around}{E:Value->Shared->Prop}{s:Shared}
theorem alive{a:Addr}{o:Obj}{Q:Option Obj->Shared->Prop}(c:s.heap.get? a=some o)(h:Q (some o) s):wpAny (model prog w) A (loadIfAlive a) Q E s:=by
 have b:Q (s.heap.get? a) s:=by lia
 exact λ_ _ _=>b
theorem held{a:Addr}{f:Bool}{d:Obj}{Q:Bool->Shared->Prop}(hz:tL s.heap z I l a f)(g:s.heap.get? a=some d)(c:∀b,tL b z I l a true->Heap.SameBut z s.heap b->Q false {s with heap:=b}):wpAny (model prog w) A (Builtin.SmallTypes.ownedTupleIsFree<|.ref z) Q E s:=by
 refine wpAny_bind<|wpAny_field hz O O (wpAny_bind<|alive g (wpAny_bind<|wpAny_field hz O O ?_));cases f with
 |true=>
  exact wpAny_pure<|c _ hz ⟨O,λ_ _=>O⟩
 |false=>
  refine wpAny_bind<|wpAny_setField_rec hz (by simp) λh u k=>?_;exact wpAny_pure<|c h u k
theorem aeH{a:Addr}{f:Bool}{P:Obj}{k1 k2:Nat}{xs ys:Array Value}{x y:Value}{Q:Value->Shared->Prop}(D:ZipApart z I N i1 i2 l1 l2)(hz:tL s.heap z I N a f)(X:s.heap.get? a=some P)(U:IsPair s.heap I (.ref i1) (.ref i2))(F:s.heap.IsListIter i1 l1 k1)(B:s.heap.IsListIter i2 l2 k2)(W:s.heap.IsList l1 xs)(J:s.heap.IsList l2 ys)(V:xs[k1]?=some x)(R:ys[k2]?=some y)(Z:∀k,tL k z I N a true->k.IsListIter i1 l1 (k1+1)->k.IsListIter i2 l2 (k2+1)->IsPair k s.heap.objs.size x y->k.objs.size=s.heap.objs.size+1->
   (∀c o,c≠z->c≠i1->c≠i2->s.heap.get? c=some o->k.get? c=some o)->Q (.ref s.heap.objs.size) {s with heap:=k}):
  wpAny (model prog w) A (Builtin.«zip.__next__» ⟨[.ref z],[]⟩) (λr s'=>∃v,r=.done (.ret v)/\Q v s') E s:=by
 show wpAny _ _ (field (.ref z) 2>>=_) _ _ _;refine wpAny_bind<|wpAny_field hz O O (wpAny_bind<|wpAny_field hz O O (wpAny_bind<|wpAny_seqItems U O (wpAny_bind<|held hz X λK Bu l=>wpAny_bind (wpAny_bind<|wpAny_bind<|wpAny_holding (wpAny_bind<|wpAny_nextOf_list_item (F.extBut l.extBut D.i1z) (W.extBut l.extBut D.l1z) V λG OW m=>wpAny_pure (wpAny_pure (wpAny_bind<|wpAny_bind<|wpAny_holding ?_)))))));refine wpAny_bind (wpAny_nextOf_list_item ((B.extBut l.extBut D.i2z).extBut m.extBut D.i12.symm)
  ((J.extBut l.extBut D.l2z).extBut m.extBut D.l2i1) R λh g p=>wpAny_pure (wpAny_pure (wpAny_pure ?_)))
 refine wpAny_bind<|wpAny_newTuple (hsz:=cK) ?_;have b:h.objs.size=s.heap.objs.size:=by rw[p.1,m.1,l.1]
 have d:∀c o,c≠z->c≠i1->c≠i2->s.heap.get? c=some o->h.get? c=some o:=λc o u t Y e=>p.extBut _ _ Y (m.extBut _ _ t<|l.extBut _ _ u e);refine wpAny_pure ⟨_,O,?_⟩;have q:=Z (h.push {cls:=.type "tuple",data:=.seq #[x,y]}) (Heap.get?_push_of_some _ (p.extBut _ _ D.i2z.symm (m.extBut _ _ D.i1z.symm Bu))) ((OW.extBut p.extBut D.i12).at λo e=>Heap.get?_push_of_some _ e) (g.at λo e=>Heap.get?_push_of_some _ e) (b▸Heap.get?_push_size _ O) (by rw[Heap.size_push,b]) λc o u c2 t e=>Heap.get?_push_of_some _ (d c o u c2 t e);rw[<-b] at q;exact q
theorem aeL{a:Addr}{f:Bool}{P:Obj}{k1 k2:Nat}{xs ys:Array Value}{Q:Fin->Shared->Prop}(u:A.handled=none)(D:ZipApart z N J i1 i2 l1 l2)(hz:tL s.heap z N J a f)(V:s.heap.get? a=some P)(B:IsPair s.heap N (.ref i1) (.ref i2))(I:s.heap.IsListIter i1 l1 k1)(X:s.heap.IsListIter i2 l2 k2)(K:s.heap.IsList l1 xs)(Z:s.heap.IsList l2 ys)(U:xs[k1]?=none\/ys[k2]?=none)(G:∀m e,(∀c o,c≠z->c≠i1->c≠i2->s.heap.get? c=some o->m.get? c=some o)->(∃o,m.get? e=some o/\o.cls=.type "StopIteration")->E (.ref e) {s with heap:=m}):
  wpAny (model prog w) A (Builtin.«zip.__next__» ⟨[.ref z],[]⟩) Q E s:=by
 show wpAny _ _ (field (.ref z) 2>>=_) _ _ _;refine wpAny_bind<|wpAny_field hz O O (wpAny_bind<|wpAny_field hz O O (wpAny_bind<|wpAny_seqItems B O (wpAny_bind<|held hz V λr Y d=>wpAny_bind (wpAny_bind<|wpAny_bind<|wpAny_holding ?_))));cases t:xs[k1]? with
 |none=>
  exact wpAny_bind<|wpAny_nextOf_list_end u (I.extBut d.extBut D.i1z) (K.extBut d.extBut D.l1z) t λh e g l=>G h e (λc o q p _ x=>g _ _ p<|d.extBut _ _ q x) l
 |some x=>
  have R:ys[k2]?=none:=by lia
  refine wpAny_bind<|wpAny_nextOf_list_item (I.extBut d.extBut D.i1z) (K.extBut d.extBut D.l1z) t λh W g=>wpAny_pure (wpAny_pure (wpAny_bind<|wpAny_bind<|wpAny_holding ?_));exact wpAny_bind (wpAny_nextOf_list_end u ((X.extBut d.extBut D.i2z).extBut g.extBut D.i12.symm)
   ((Z.extBut d.extBut D.l2z).extBut g.extBut D.l2i1) R λk e b l=>G k e (λc o q p F x=>b _ _ F (g.extBut _ _ p (d.extBut _ _ q x))) l)
theorem aeN:typeLookup (.type "zip") "__len__"=pure none:=O
theorem aeO:typeLookup (.type "zip") "__length_hint__"=pure none:=O
theorem aeP(b:s.TypeIs (.ref r) "zip"){Q:Bool->Shared->Prop}(h:Q true s):wpAny (model prog w) A (Builtin.List.listLengthHint<|.ref r) Q E s:=by
 exact wpAny_bind<|wpAny_specialOf b aeN (wpAny_bind<|wpAny_specialOf b aeO (wpAny_pure h))
def qT(h:Heap)(z I c i1 i2 l1 l2 S:Addr)(i:Nat):Prop:=IsPair h I (.ref i1) (.ref i2)/\h.IsListIter i1 l1 i/\h.IsListIter i2 l2 i/\
 ((IsZip h z I c .none/\∃a b,IsPair h c a b)\/∃a f d,tL h z I c a f/\h.get? a=some d/\a≠z/\a≠c/\a≠i1/\a≠i2/\a≠S)
theorem aeQ{xs ys:Array Value}{x y:Value}{Q:Option Value->Shared->Prop}(D:ZipApart z Y I i1 i2 l1 l2)(st:qT s.heap z Y I i1 i2 l1 l2 S i)(hS:S<s.heap.objs.size)(W:s.heap.IsList l1 xs)(J:s.heap.IsList l2 ys)(V:xs[i]?=some x)(R:ys[i]?=some y)(B:∀h,qT h z Y I i1 i2 l1 l2 S (i+1)->IsPair h s.heap.objs.size x y->h.objs.size=s.heap.objs.size+1->(∀c o,c≠z->c≠I->c≠i1->c≠i2->s.heap.get? c=some o->h.get? c=some o)->Q (some<|.ref s.heap.objs.size) {s with heap:=h}):
  wpAny (model prog w) A (pyNext<|.ref z) Q E s:=by
 obtain⟨m,q,p,⟨g,a,b,U⟩|⟨a,f,oa,g,X,P,n2,N,K,n5⟩⟩:=qa4 st;have l:∀{c o},s.heap.get? c=some o->s.heap.objs.size≠c:=λe=>zaD (Heap.lt_size e);refine wpAny_pyNext_zip_item D g m U q p W J V R λh G a2 u t k r d=>B h ⟨d _ _ D.TIz D.TITO D.TIi1 D.TIi2 m,u,t,.inr ⟨_,false,_,G,k,l g,l U,?_,?_,zaD hS⟩⟩ k r d;obtain⟨_,e,_⟩:=q;exact l e;obtain⟨_,e,_⟩:=p;exact l e;have Z:s.TypeIs (.ref z) "zip":=⟨_,g,O⟩;exact wpAny_bind (wpAny_attempt (wpAny_callSpecial?_slot Z F.slot_zip_next
  (wpAny_call_entry F.slot_zip_next Z F.entry_zip_next
   (aeH D g X m q p W J V R λh G u t k r d=>wpAny_pure (B h ⟨d _ _ D.TIz D.TIi1 D.TIi2 m,u,t,.inr ⟨a,true,oa,G,d _ _ P N K X,P,n2,N,K,n5⟩⟩ k r λc o c1 _ c3 c4 e=>d c o c1 c3 c4 e)) (F.args_zip_next_1 _))))
theorem aeR{xs ys:Array Value}{Q:Option Value->Shared->Prop}(g:A.handled=none)(D:ZipApart z B u i1 i2 l1 l2)(st:qT s.heap z B u i1 i2 l1 l2 S i)(t:s.heap.IsList l1 xs)(K:s.heap.IsList l2 ys)(k:xs[i]?=none\/ys[i]?=none)(m:∀d,(∀c o,c≠z->c≠u->c≠i1->c≠i2->s.heap.get? c=some o->d.get? c=some o)->Q none {s with heap:=d}):wpAny (model prog w) A (pyNext<|.ref z) Q E s:=by
 obtain⟨r,q,p,⟨h,a,b,R⟩|⟨a,f,J,h,P,n1,n2,Y,W,U⟩⟩:=qa4 st;exact wpAny_pyNext_zip_end g D h r R q p t K k m;have l:s.TypeIs (.ref z) "zip":=⟨_,h,O⟩;refine wpAny_bind (wpAny_attempt (wpAny_callSpecial?_slot l F.slot_zip_next
  (wpAny_call_entry F.slot_zip_next l F.entry_zip_next (aeL g D h P r q p t K k λd e G I=>?_) (F.args_zip_next_1 _))))
 obtain⟨o,x,N⟩:=I;exact wpAny_bind<|wpAny_isInstance ⟨o,x,N⟩ isSubtype_stop (wpAny_pure<|m _ λc o Z _ X V e=>G c o Z X V e)
theorem qT.keep{I d:Addr}(st:qT h z I d i1 i2 l1 l2 S i)(k:∀b o,b≠S->h.get? b=some o->K.get? b=some o)(n:z≠S/\I≠S/\d≠S/\i1≠S/\i2≠S):qT K z I d i1 i2 l1 l2 S i:=by
 obtain⟨p,m,l,⟨c,a,b,N⟩|⟨a,f,q,c,G,x,u,t,r,g⟩⟩:=qa4 st;exact⟨k _ _ n.2.1 p,m.at λo e=>k _ o n.2.2.2.1 e,l.at λo e=>k _ o n.2.2.2.2 e,.inl ⟨k _ _ n.1 c,a,b,k _ _ n.2.2.1 N⟩⟩;exact⟨k _ _ n.2.1 p,m.at λo e=>k _ o n.2.2.2.1 e,l.at λo e=>k _ o n.2.2.2.2 e,.inr ⟨a,f,q,k _ _ n.1 c,k _ _ g G,x,u,t,r,g⟩⟩
variable{R:Result->Shared->Prop}{xs ys:Array Value}
structure ZG(xs ys:Array Value)(lo:Nat)(h:Heap)(as:List Addr):Prop where
 rise:as.Pairwise (· < ·)
 above:∀a∈as,@LE.le Nat _ lo a
 pairs:∀(j:Nat)(a:Addr),as[j]?=some a->∃x y,xs[j]?=some x/\ys[j]?=some y/\IsPair h a x y
theorem aeS{lo:Nat}(hh:A.handled=none)(D:ZipApart z TI r i1 i2 l1 l2)(l:z≠S/\TI≠S/\r≠S/\i1≠S/\i2≠S)(hl: @LT.lt Nat _ z lo/\ @LT.lt Nat _ r lo/\ @LT.lt Nat _ i1 lo/\ @LT.lt Nat _ i2 lo/\ @LT.lt Nat _ S lo)(n1:l1≠S)(n2:l2≠S)(hn:min xs.size ys.size<=sizeLine)(I:Value){h₁:Heap}(hR:∀g t d c as,(∀b o,b≠S->b≠z->b≠r->b≠i1->b≠i2->h₁.get? b=some o->g.get? b=some o)->g.get? S=some {cls:=.type "list",dict:=none,data:=.seq d c,slots:= #[]}->as.length=min xs.size ys.size->ZG xs ys lo g as->
   d.toList=as.map Value.ref->R (.ok (.ret I)) {s with heap:=g,toks:=t}):
  ∀(k i:Nat)(h:Heap)(t c:Nat)(d:Array Value)(as:List Addr),min xs.size ys.size - i=k->i<=min xs.size ys.size->qT h z TI r i1 i2 l1 l2 S i->h.IsList l1 xs->h.IsList l2 ys->(∀b o,b≠S->b≠z->b≠r->b≠i1->b≠i2->h₁.get? b=some o->h.get? b=some o)->
   h.get? S=some {cls:=.type "list",dict:=none,data:=.seq d c,slots:= #[]}->d.toList=as.map Value.ref->as.length=i->ZG xs ys lo h as-> @LE.le Nat _ lo h.objs.size->
   codeAny (model prog w) A (.builtin "list.extend.loop" ⟨[.ref S,.ref z,I],[]⟩) R {s with heap:=h,toks:=t}:=by
 obtain⟨q1,q2,q3,q4,q5⟩:=qa5 hl;have OX:∀{a:Addr},@LE.le Nat _ lo a->a≠z/\a≠r/\a≠i1/\a≠i2/\a≠S:=λh=>⟨zaD<|zaq q1 h,zaD<|zaq q2 h,zaD<|zaq q3 h,zaD<|zaq q4 h,zaD<|zaq q5 h⟩;intro k;induction k with
 |zero=>
  intro i h t c d as hk hi fE Bw J Gu P W U G pS;have uv:i=min xs.size ys.size:=by lia
  refine codeAny_builtin PySem.F.entry_extend_loop ?_;show wpAny _ A.in1 (pyNext (.ref z) >>=_) _ _ _;have vk:xs[i]?=none\/ys[i]?=none:=by
   rcases Nat.le_total xs.size ys.size with q|q
   exact .inl (Array.getElem?_eq_none (by lia));exact .inr (Array.getElem?_eq_none (by lia))
  refine wpAny_bind<|aeR (s:={s with heap:=h,toks:=t}) (A:=A.in1) hh D fE Bw J vk λg he=>?_;refine wpAny_pure<|hR g t d c as (λb o b0 B Z X V e=>he b o B Z X V<|Gu b o b0 B Z X V e) (he S _ l.1.symm l.2.2.1.symm l.2.2.2.1.symm l.2.2.2.2.symm P) (by lia) ⟨G.rise,G.above,λj a f=>?_⟩ W;obtain⟨x,y,e1,e2,e3⟩:=G.pairs j a f;obtain⟨f1,f2,f3,f4,f5⟩:=OX (G.above a<|zak f);exact⟨x,y,e1,e2,he a _ f1 f2 f3 f4 e3⟩
 |succ k ih=>
  intro i h t c d as hk hi fE Bw J Gu P W U G pS;have b':i<xs.size:=by lia
  have a':i<ys.size:=by lia
  have K:d.size=i:=by rw[<-zbK,W,zaa,U]
  refine codeAny_builtin PySem.F.entry_extend_loop ?_;rw[Around.under_plainId PySem.F.plain_extend_loop _];show wpAny _ A.in1 (pyNext (.ref z) >>=_) _ _ _;refine wpAny_bind<|aeQ (s:={s with heap:=h,toks:=t}) (S:=S) D fE (Heap.lt_size P) Bw J (zbs b') (zbs a') λg d' ht hz p=>?_;dsimp only at ht hz p⊢;have qu:=p S _ l.1.symm l.2.2.1.symm l.2.2.2.1.symm l.2.2.2.2.symm P;have u:∀b o,b≠S->g.get? b=some o->(g.update S (Obj.mapSeq (·.push (Value.ref h.objs.size)))).get? b=some o:=λb o N e=>(Heap.get?_update_other _ _<|Ne.symm N).trans e;have OY:S<h.objs.size:=Heap.lt_size P;refine wpAny_bind ?_;refine wpAny_updateSeq qu O (wpAny_pure ⟨plainId_quiet PySem.F.plain_extend_loop _,ih (i+1) _ t _ (d.push (Value.ref h.objs.size)) (as++[h.objs.size]) (by lia) (by lia) (d'.keep u l) (Bw.at λo e=>u l1 o n1 (p l1 o D.l1z D.l1TO D.l1i1 D.l1i2 e)) (J.at λo e=>u l2 o n2 (p l2 o D.l2z D.l2TO D.l2i1 D.l2i2 e))
   (λb o b0 B Z X V e=>u b o b0 (p b o B Z X V (Gu b o b0 B Z X V e))) (Heap.get?_update_self _ qu O) (by rw[Array.toList_push,W,zap];rfl) (by rw[zqA,U];rfl) ⟨?_,?_,?_⟩ ?_⟩) (by rw[K];exact zat hi hn) (by rw[Array.size_push,K];exact za9 (zat hi hn) _)
  refine List.pairwise_append.mpr ⟨G.rise,List.pairwise_singleton _ _,λa m b N=>?_⟩;rw[zab.mp N];obtain⟨j,f⟩:=zaV.mp m;obtain⟨_,_,_,_,e⟩:=G.pairs j a f;exact Heap.lt_size e;intro a m;rcases zad.mp m with m|m
  exact G.above a m;rw[zab.mp m];exact pS;intro j b f;rcases Nat.lt_trichotomy j as.length with Y|Y|Y
  rw[zax Y] at f;obtain⟨x',y',e1,e2,e3⟩:=G.pairs j b f;obtain⟨f1,f2,f3,f4,f5⟩:=OX (G.above b<|zak f);exact⟨x',y',e1,e2,u b _ f5<|p b _ f1 f2 f3 f4 e3⟩;subst Y;have N:h.objs.size=b:=by simpa using f
  subst N;refine⟨xs[as.length],ys[as.length],?_,?_,u _ _ (zaD OY) ?_⟩;exact zbs (zb2 (za3 U) b');exact zbs (zb2 (za3 U) a');subst U;exact ht;have c':(as++[h.objs.size])[j]?=none:=zce (by rw[zqA,zaK];exact zb0 Y);rw[c'] at f;cases f;have e:=u _ _ (zaD OY) ht;exact zby<|Nat.lt_of_le_of_lt pS<|Heap.lt_size e
end
section
variable{prog:Program}{w:World}{A:Around}{E:Value->Shared->Prop}{s:Shared}{xs ys:Array Value}
theorem aeX(Y:A.handled=none)(D:ZipApart z I q i1 i2 l1 l2)(t:z≠S/\I≠S/\q≠S/\i1≠S/\i2≠S)(N:l1≠S)(K:l2≠S)(U:min xs.size ys.size<=sizeLine)(hz:IsZip s.heap z I q .none)(dm:IsPair s.heap I (.ref i1) (.ref i2))(p:∃a b,IsPair s.heap q a b)(Z:s.heap.IsListIter i1 l1 0)(X:s.heap.IsListIter i2 l2 0)(dA:s.heap.IsList l1 xs)(eK:s.heap.IsList l2 ys)(r:Value)(d:Nat)(u:s.heap.get? S=some {cls:=.type "list",data:=.seq #[] d})(hR:∀m J g c as,(∀b o,b≠S->b≠z->b≠q->b≠i1->b≠i2->s.heap.get? b=some o->m.get? b=some o)->m.get? S=some {cls:=.type "list",dict:=none,data:=.seq g c,slots:= #[]}->as.length=min xs.size ys.size->ZG xs ys s.heap.objs.size m as->
   g.toList=as.map Value.ref->R (.ok (.ret r)) {s with heap:=m,toks:=J}):
  wpAny (model prog w) A.in1 (Builtin.List.listExtendWith (.ref S) (.ref z) r)
   (λx s'=>match x with|.done f=>R (.ok f) s'|.again B=>B.quiet=true/\codeAny (model prog w) A B R s') (λe s'=>R (.error e) s') s:=by
 have V:s.TypeIs (.ref z) "zip":=⟨_,hz,O⟩;refine wpAny_bind<|wpAny_typeOf V ?_;have e1:Builtin.List.listSameRef (.ref S) (.ref z)=false:=by simp[Builtin.List.listSameRef,t.1.symm]
 have e2:(Value.type "zip"==Value.type "list")=false:=rfl;have e3:(Value.type "zip"==Value.type "tuple")=false:=by decide
 simp only[e1,e2,e3,zbo,zaO,if_false];refine wpAny_bind<|wpAny_pyIter_zip hz (wpAny_bind<|wpAny_holding<|aeP V (wpAny_bind<|wpAny_rule (wpAny_bind (wpAny_bind<|wpAny_updateSeq u O ?_))));have G:=Heap.get?_update_self (Obj.mapSeq (·.push Value.none)) u O;refine wpAny_updateSeq G O ?_;have k:∀b o,b≠S->s.heap.get? b=some o->((s.heap.update S (Obj.mapSeq (·.push Value.none))).update S (Obj.mapSeq (·.pop))).get? b=some o:=
  λb o P e=>(Heap.get?_update_other _ _<|Ne.symm P).trans ((Heap.get?_update_other _ _<|Ne.symm P).trans e)
 have l:∀{c o},s.heap.get? c=some o-> @LT.lt Nat _ c s.heap.objs.size:=λe=>Heap.lt_size e;obtain⟨a,b,p⟩:=p;refine wpAny_pure ⟨plainId_quiet F.plain_extend_loop _,aeS Y D t ⟨l hz,l p,?_,?_,l u⟩ N K U r hR _ 0 _ _ _ _ [] O (zqZ _)
  (qT.keep ⟨dm,Z,X,.inl ⟨hz,a,b,p⟩⟩ k t) (dA.at λo e=>k l1 o N e) (eK.at λo e=>k l2 o K e) (λb o b0 _ _ _ _ e=>k b o b0 e) (Heap.get?_update_self (Obj.mapSeq (·.pop)) G O) O O ⟨List.Pairwise.nil,(λ_ ha=>nomatch ha),(λj a W=>by simp at W)⟩ ?_⟩
 obtain⟨_,e,_⟩:=Z;exact l e;obtain⟨_,e,_⟩:=X;exact l e;rw[Heap.size_update,Heap.size_update];exact zqR _
theorem aeZ(F:A.handled=none)(D:ZipApart z I l i1 i2 l1 l2)(g:z≠S/\I≠S/\l≠S/\i1≠S/\i2≠S)(u:l1≠S)(r:l2≠S)(X:min xs.size ys.size<=sizeLine)(hz:IsZip s.heap z I l .none)(dm:IsPair s.heap I (.ref i1) (.ref i2))(q:∃a b,IsPair s.heap l a b)(Y:s.heap.IsListIter i1 l1 0)(W:s.heap.IsListIter i2 l2 0)(dA:s.heap.IsList l1 xs)(eK:s.heap.IsList l2 ys)(m:s.heap.get? S=some {cls:=.type "list",data:=.seq #[]})(U:∀h t d c as,(∀b o,b≠S->b≠z->b≠l->b≠i1->b≠i2->s.heap.get? b=some o->h.get? b=some o)->h.get? S=some {cls:=.type "list",dict:=none,data:=.seq d c,slots:= #[]}->as.length=min xs.size ys.size->ZG xs ys s.heap.objs.size h as->
   d.toList=as.map Value.ref->R (.ok (.ret .none)) {s with heap:=h,toks:=t}):
  wpAny (model prog w) A.in1 (Builtin.«list.__init__» ⟨[.ref S,.ref z],[]⟩)
   (λp s'=>match p with|.done f=>R (.ok f) s'|.again x=>x.quiet=true/\codeAny (model prog w) A x R s') (λe s'=>R (.error e) s') s:=by
 refine wpAny_bind (wpAny_bind<|wpAny_seqItems m O<|wpAny_pure (wpAny_bind<|wpAny_updateSeq m O ?_));have k:∀b o,b≠S->s.heap.get? b=some o->(s.heap.update S<|Obj.mapSeq<|λ_=>(#[]:Array Value)).get? b=some o:=
  λb o J e=>(Heap.get?_update_other _ _<|Ne.symm J).trans e
 refine wpAny_bind<|wpAny_letGo ?_;obtain⟨a,b,q⟩:=q;refine aeX F D g u r X (k _ _ g.1 hz) (k _ _ g.2.1 dm) ⟨a,b,k _ _ g.2.2.1 q⟩ (Y.at λo e=>k _ o g.2.2.2.1 e) (W.at λo e=>k _ o g.2.2.2.2 e) (dA.at λo e=>k l1 o u e) (eK.at λo e=>k l2 o r e) .none _ (Heap.get?_update_self (Obj.mapSeq<|λ_=>(#[]:Array Value)) m O) λh t d c as B P Z G V=>?_;rw[Heap.size_update] at G;exact U h t d c as (λb o K b1 b2 b3 b4 e=>B b o K b1 b2 b3 b4<|k b o K e) P Z G V
theorem ae0{Q:Value->Shared->Prop}(J:A.handled=none)(D:ZipApart z P q i1 i2 l1 l2)(X:min xs.size ys.size<=sizeLine)(hz:IsZip s.heap z P q .none)(I:IsPair s.heap P (.ref i1) (.ref i2))(m:∃a b,IsPair s.heap q a b)(x:s.heap.IsListIter i1 l1 0)(u:s.heap.IsListIter i2 l2 0)(N:s.heap.IsList l1 xs)(K:s.heap.IsList l2 ys)(U:∀h t d c as,(∀b o,b≠z->b≠q->b≠i1->b≠i2->s.heap.get? b=some o->h.get? b=some o)->h.get? s.heap.objs.size=some {cls:=.type "list",dict:=none,data:=.seq d c,slots:= #[]}->as.length=min xs.size ys.size->ZG xs ys (s.heap.objs.size+1) h as->
   d.toList=as.map Value.ref->Q (.ref s.heap.objs.size) {s with heap:=h,toks:=t}):
  wpAny (model prog w) A (call (.type "list") [.ref z]) Q E s:=by
 refine callType_codes (Q₁:=λk f=>k=.ref s.heap.objs.size/\f={s with heap:=s.heap.push {cls:=.type "list",data:=.seq #[]}}) PySem.F.called_list (PySem.F.typeCall_list_1 _) PySem.F.entry_list_init
  (code_list_new _ ⟨O,O⟩) λk f l=>?_
 obtain⟨rfl,rfl⟩:=l;have r:(s.heap.push {cls:=.type "list",data:=.seq #[]}).get? s.heap.objs.size=some {cls:=.type "list",data:=.seq #[]}:=Heap.get?_push_size _ O;have g:∀{c o},s.heap.get? c=some o->c≠s.heap.objs.size:=λe=>zan (Heap.lt_size e);obtain⟨a,b,m⟩:=m;have p:∀c o,s.heap.get? c=some o->(s.heap.push {cls:=.type "list",data:=.seq #[]}).get? c=some o:=λc o e=>Heap.get?_push_of_some _ e;refine⟨⟨_,r,O⟩,PySem.F.args_list_init_2 _ _,aeZ J D ⟨g hz,g I,g m,?_,?_⟩ ?_ ?_ X (p _ _ hz) (p _ _ I) ⟨a,b,p _ _ m⟩ (x.at λo e=>p _ o e) (u.at λo e=>p _ o e) (N.at λo e=>p _ o e) (K.at λo e=>p _ o e) r λh t d c as B R Z G V=>?_⟩;obtain⟨_,e,_⟩:=x;exact g e;obtain⟨_,e,_⟩:=u;exact g e;obtain⟨_,e,_⟩:=N;exact g e;obtain⟨_,e,_⟩:=K;exact g e;rw[Heap.size_push] at G;exact⟨O,U h t d c as (λb o b1 b2 Y W e=>B b o (g e) b1 b2 Y W<|p b o e) R Z G V⟩
end
end ZL
namespace L2
open PySem PySem.Spec PyProof.Rows
def Gv(K:Frag):List V->Hp->VK->Prop:=λvs H Q=>∃a b xs ys,vs=[.ref a,.ref b]/\au K H a xs/\au K H b ys/\∀(c:List Addr)(l:Addr)(H':Hp),c.length=min xs.length ys.length->ay H H'->(∀t∈c,H t=none)->H l=none->
 (∀(i:Nat)(t:Addr),c[i]?=some t->∃u v,xs[i]?=some u/\ys[i]?=some v/\H' t=some (.tup [u,v]))->H' l=some (.lst<|c.map V.ref)->Q (.ref l) H'
def OZ:Frag->TA->TE:=λK t=>ia (Gv K) t
section
variable{X:Cx}{pins:List (Addr×Obj)}{σ:St}{H:Hp}{s s1:Shared}
theorem O0(g:Inv X pins σ Y s1):∀(d:List Addr){H:Hp},Inv X pins σ H s->(∀t∈d,s1.heap.objs.size<=t/\H t=none/\∃u v a b,RelV a u/\RelV b v/\s.heap.IsTuple t #[u,v])->d.Nodup->
  ∃H',Inv X pins σ H' s/\ay H H'/\(∀t∈d,∃u v a b,RelV a u/\RelV b v/\s.heap.IsTuple t #[u,v]/\H' t=some (.tup [a,b]))/\∀c,c∉d->H' c=H c
 |[],H,I,_,_=>⟨H,I,λ_ _ e=>e,(λ_ h=>nomatch h),λ_ _=>O⟩
 |T::d,H,I,h,A=>by
  obtain⟨l,B,u,v,a,b,m,r,k⟩:=h T zau;have J:Inv X pins σ (upd H T<|.tup [a,b]) s:=by
   refine Inv.zv I B (zat g.sz l) (zaD<|zaq g.lt l) (λx c e q=>?_) (λp Z q=>?_) ⟨by show 2<=sizeLine;decide,[u,v],.cons m<|.cons r .nil,k⟩;obtain⟨W,V⟩:=g.cell x c e;have:=V.lt;rw[q] at this;exact absurd (zaq this l)<|zaC _;have:=Heap.lt_size (g.pin p Z).1;rw[q] at this;exact absurd (zaq this l)<|zaC _
  have E:=(zaN.mp A).1;obtain⟨H',U,K,F,w⟩:=O0 g d J (λt f=>by
   obtain⟨R,P,N⟩:=h t (zar _ f);exact⟨R,by rw[aF (show t≠T from λe=>E (by lia))];exact P,N⟩) (zaN.mp A).2
  refine⟨H',U,λc o e=>K _ _ (by rw[aF (λz=>by lia)];exact e),λt f=>?_,λc G=>?_⟩;rcases zac.mp f with rfl|f
  exact⟨u,v,a,b,m,r,k,by rw[w _ E,ar]⟩;exact F t f;rw[w c<|λq=>G<|zar _ q,aF (show c≠T from λe=>G (e▸zau))]
end
section
variable{CX:cE}{S:df}{Γ:ba}{X:Cx}{e1 e2:Expr}{es:List Expr}{x y:Str}{p p2 pos mY:Pos}{r1 r2:RE}{rs:List RE}
theorem ae1(hc:X.calm=true)(g1:Gl X "list")(m1:X.mg "list"=none)(g2:Gl X "zip")(m2:X.mg "zip"=none)(ha:PA X [e1,e2] t)(hs:starEach [e1,e2] X.env=(false,eval e1 X.env)::starEach [e2] X.env)(kj:(backTo mY<|starEach [e2] X.env).any (·.1)=false):
  PE X (.Call (.Name "list" p) [.Call (.Name "zip" p2) [e1,e2] [] mY] [] pos) (ia (Gv X.K) t):=by
 intro f s σ H Q I h;refine wpAny_Call_Name_kw<|nV I g1 m1 D2 ?_ (by decide) (by decide);refine PyProof.Rows.callWith_type1 ?_ O O;refine Calls.spliced_cons ?_;refine wpAny_Call_Name_kw<|nV I g2 m2 boot_zip ?_ (by decide) (by decide);refine PyProof.Rows.callWith_type1 ?_ hs kj;refine aM (ha mY f s σ H _ I h) λus d ⟨vs,H1,g,r1,l⟩=>?_;obtain⟨l1,l2,xs,ys,rfl,hx,hy,q⟩:=l;obtain⟨u,v,rfl,ru,rv⟩:=vals2 r1;cases ru;cases rv;obtain⟨lG,F,Y,z1⟩:=g.list hx;obtain⟨gg,B,p2,z2⟩:=g.list hy;have dA:=F.length;have eK:=B.length;refine call_zip_2 Y.isList p2.isList λh' a1 a2 a3 a4 a5 a6 hk=>?_;refine Calls.spliced_nil ?_;have DF: @LT.lt Nat _ l1 d.heap.objs.size:=by obtain⟨_,e,_⟩:=Y.isList;exact Heap.lt_size e
 have zO: @LT.lt Nat _ l2 d.heap.objs.size:=by obtain⟨_,e,_⟩:=p2.isList;exact Heap.lt_size e
 have D:ZipApart (d.heap.objs.size+4) (d.heap.objs.size+2) (d.heap.objs.size+3) d.heap.objs.size (d.heap.objs.size+1) l1 l2:=by
  constructor<;>(show @Ne Nat _ _;lia)
 refine ZL.ae0 (s:={d with heap:=h'}) (xs:=lG.toArray) (ys:=gg.toArray) (I.ok.hd hc) D (by simp only[zai];lia) a1 a2 ⟨_,_,a3⟩ a4 a5 (Y.isList.at λo e=>hk _ o e) (p2.isList.at λo e=>hk _ o e) λZ tk A c as kp eS mw G ie=>?_;dsimp only at kp eS G⊢;rw[a6] at G eS;have kk:∀b o,d.heap.get? b=some o->Z.get? b=some o:=λb o e=>by
  have lt: @LT.lt Nat _ b d.heap.objs.size:=Heap.lt_size e;refine kp b o ?_ ?_ ?_ ?_ (hk b o e) <;>(show @Ne Nat _ _;lia)
 have I2:Inv X f σ H1 {d with heap:=Z,toks:=tk}:=g.kept kk;have N:=λt k=>G.above t k;have yh:∀t∈as,∃u v a b,RelV a u/\RelV b v/\Z.IsTuple t #[u,v]:=λt k=>by
  obtain⟨j,hj⟩:=zaV.mp k;obtain⟨u,v,e1,e2,e3⟩:=G.pairs j t hj;have e1:lG[j]?=some u:=by simpa using e1
  have e2:gg[j]?=some v:=by simpa using e2
  have R:j<xs.length:=by have:=(zah.mp e1).1;lia
  have P:j<ys.length:=by have:=(zah.mp e2).1;lia
  obtain⟨J,l,W⟩:=F.get (i:=j) (x:=xs[j]) (by simp[R]);obtain⟨E,r,U⟩:=B.get (i:=j) (x:=ys[j]) (by simp[P]);rw[e1] at l;cases l;rw[e2] at r;cases r;exact⟨u,v,_,_,W,U,⟨_,e3,O,_,O⟩⟩
 have nd:as.Nodup:=G.rise.imp λh=>zan h;have fr:∀t∈as,H1 t=none:=λt k=>g.aG.fresh (zat (zbf _ 6)<|N t k);obtain⟨H',I3,sm,al,ot⟩:=O0 g as I2 (λt k=>⟨zat (zbf _ 6)<|N t k,fr t k,yh t k⟩) nd;have nl:d.heap.objs.size+5∉as:=λq=>absurd (N _ q) (Nat.not_le_of_gt (zbM _));have m:d.heap.objs.size<=d.heap.objs.size+5:=zbf _ 5;have fl:H1 (d.heap.objs.size+5)=none:=g.aG.fresh m;have rl:Vals (as.map V.ref) A.toList:=by
  rw[ie];clear ie G mw yh nd fr al ot nl N;induction as with
  |nil=>exact .nil
  |cons t ts ih=>exact .cons O ih
 have ml:min xs.length ys.length<=sizeLine:=by lia
 have O1:as.length=min xs.length ys.length:=by rw[mw];simp only[zai];lia
 have I4:Inv X f σ (upd H' (d.heap.objs.size+5)<|.lst<|as.map V.ref) {d with heap:=Z,toks:=tk}:=by
  refine Inv.zv I3 (by rw[ot _ nl];exact fl) (zat g.sz m) (zaD<|zaq g.lt m) (λx c e q=>?_) (λp hp q=>?_) ⟨by rw[zaa,O1];exact ml,A.toList,c,rl,by simpa using eS⟩;obtain⟨E,q'⟩:=g.cell x c e;have:=q'.lt;rw[q] at this;exact absurd (zaq this m)<|zaC _;have:=Heap.lt_size (g.pin p hp).1;rw[q] at this;exact absurd (zaq this m)<|zaC _
 show EP X f σ Q (.ref h'.objs.size) _;rw[a6];refine⟨.ref<|d.heap.objs.size+5,_,I4,O,q as (d.heap.objs.size+5) _ O1 (λb o e=>?_) fr fl (λi t hi=>?_) ar⟩;rw[aF (λz=>by rw[z,fl] at e;cases e)];exact sm _ _ e;obtain⟨u,v,e1,e2,e3⟩:=G.pairs i t hi;obtain⟨J,E,a,b,ra,rb,tT,e⟩:=al t (zak hi);have eu:J=u/\E=v:=by
  obtain⟨o,ho,_,n,w⟩:=tT;rw[e3] at ho;cases ho;injection w with w
  simp at w;exact⟨w.1.symm,w.2.symm⟩
 obtain⟨rfl,rfl⟩:=eu;have e1:lG[i]?=some J:=by simpa using e1
 have e2:gg[i]?=some E:=by simpa using e2
 have R:i<xs.length:=by have:=(zah.mp e1).1;lia
 have P:i<ys.length:=by have:=(zah.mp e2).1;lia
 obtain⟨u2,l,W⟩:=F.get (i:=i) (x:=xs[i]) (by simp[R]);obtain⟨v2,r,U⟩:=B.get (i:=i) (x:=ys[i]) (by simp[P]);rw[e1] at l;cases l;rw[e2] at r;cases r;refine⟨xs[i],ys[i],by simp[R],by simp[P],?_⟩;rw[aF (show t≠d.heap.objs.size+5 from λz=>nl (by rw[<-z];exact zak hi)),e,ra.inj W,rb.inj U]
theorem ae2(G:Good CX S Γ X)(A:PA X [e1,e2] (bg Γ [r1,r2]))(h:kB S x "list"=true:=by kernel_rfl)(c:kB S y "zip"=true:=by kernel_rfl)(d:ic [e1,e2]=true:=by kernel_rfl)(q:S.md=0:=by rfl):PE X (.Call (.Name x p) [.Call (.Name y p2) [e1,e2] [] mY] [] pos) (ah Γ<|.xt OZ [r1,r2]):=by
 simp only[kB,zaj,decide_eq_true_eq] at h c;obtain⟨⟨rfl,l⟩,k⟩:=h;obtain⟨⟨rfl,g⟩,f⟩:=c;show PE X _ (ia (Gv Γ.K)<|bg Γ [r1,r2]);rw[<-G.K];have b:=d_ d;exact ae1 (G.calm q) (G.gl l) (G.gk _ k) (G.gl g) (G.gk _ f) A (fO b.1)<|lK _ _ _ b.2
end
end L2
namespace L2.N
open PySem PySem.Spec L2.B
noncomputable def kids(pars:List (Option Nat))(i:Nat):List Nat:=(List.range pars.length).filter λj=>pars[j]?==some (some i)
def aN(M:List Addr)(H H':Hp):Prop:= ∀b o,H b=some o->b∉M->H' b=some o
theorem aN.trans(a:aN M H H1)(b:aN M H1 H2):aN M H H2:=λc o e n=>b c o (a c o e n) n
theorem aN.of(s:ay H H'):aN M H H':=λc o e _=>s c o e
theorem aN.upd{o:HO}(h:c∈M):aN M H (L2.upd H c o):=λb u e n=>by rw[aF (show b≠c from λz=>n (z▸h))];exact e
theorem br{a b:Addr}{o c:HO}(n:a≠b)(h:H a=some o):L2.upd H b c a=some o:=by rw[aF n];exact h
def j9(M:List Addr)(H:Hp):Prop:= ∀x∈M,∃o,H x=some o/\∀ys,o≠ .tup ys
theorem j9.same(h:j9 M H)(s:ay H H'):j9 M H':=λx b=>(h x b).imp λo e=>⟨s _ _ e.1,e.2⟩
theorem j9.upd(h:j9 M H):j9 M (L2.upd H c<|.lst xs):=λx b=>by
 by_cases z:x=c;subst z;exact⟨_,ar,nofun⟩;rw[aF z];exact h x b
theorem j9.no{a:Addr}(h:j9 M H)(f:H a=none):a∉M:=λq=>by
 obtain⟨o,e,_⟩:=h a q;rw[f] at e;cases e
theorem j9.bU(h:j9 M H)(b:aN M H H'):dq H H':=λc xs e=>b c _ e λq=>by
 obtain⟨o,d,n⟩:=h c q;rw[d] at e;exact n xs<|zal e
structure Bx(p lo pa ed be lg:Addr)(bs:List Addr):Prop where
 nd:(p::lo::pa::ed::be::lg::bs).Nodup
section
variable{p lo pa ed be lg:Addr}{bs:List Addr}
theorem Bx.l(A:Bx p lo pa ed be lg bs):(p≠lo/\p≠pa/\p≠ed/\p≠be/\p≠lg/\p∉bs)/\(lo≠pa/\lo≠ed/\lo≠be/\lo≠lg/\lo∉bs)/\(pa≠ed/\pa≠be/\pa≠lg/\pa∉bs)/\(ed≠be/\ed≠lg/\ed∉bs)/\(be≠lg/\be∉bs)/\lg∉bs/\bs.Nodup:=by
 have h:=A.nd;simp at h;exact⟨⟨h.1.1,h.1.2.1,h.1.2.2.1,h.1.2.2.2.1,h.1.2.2.2.2.1,h.1.2.2.2.2.2⟩,⟨h.2.1.1,h.2.1.2.1,h.2.1.2.2.1,h.2.1.2.2.2.1,h.2.1.2.2.2.2⟩,⟨h.2.2.1.1,h.2.2.1.2.1,h.2.2.1.2.2.1,h.2.2.1.2.2.2⟩,⟨h.2.2.2.1.1,h.2.2.2.1.2.1,h.2.2.2.1.2.2⟩,⟨h.2.2.2.2.1.1,h.2.2.2.2.1.2⟩,h.2.2.2.2.2.1,h.2.2.2.2.2.2⟩
end
noncomputable def qU(es:List V):List Addr:=es.filterMap λv=>match v with|.ref a=>some a|_=>none
structure fY(C:Addr)(H:Hp)(p:Addr)(M Ed:List Addr)(here:Nat)(pars:List (Option Nat))(aA:List (List Nat))(last:List (Option Nat))(T:Nat)(dx lo pa ed be lg:Addr)(bs:List Addr)(es:List V):Prop where
 ob:fA C H p dx lo pa ed be lg here (aA.map List.length) pars
 eM:M=p::lo::pa::ed::be::lg::bs
 ap:Bx p lo pa ed be lg bs
 he:H ed=some (.lst es)
 le:es.length=pars.length
 ea:qU es=Ed
 e0:es[0]?=some .aD
 ev:mv H es pars aA T
 en:∀(i:Nat)(a:Addr),es[i]?=some (V.ref a)->a∉M
 hb:H be=some (.lst<|bs.map V.ref)
 lb:bs.length=pars.length
 hk:∀(i:Nat)(b:Addr),bs[i]?=some b->H b=some (.lst<|iV<|kids pars i)
 hg:H lg=some (.lst<|last.map gV)
 nH:last.length=pars.length
def bQ(C:Addr)(H:Hp)(p:Addr)(M Ed:List Addr)(here:Nat)(pars:List (Option Nat))(aA:List (List Nat))(l:List (Option Nat))(T:Nat):Prop:= ∃dx lo b d be lg bs es,fY C H p M Ed here pars aA l T dx lo b d be lg bs es
section
variable{C:Addr}{H H':Hp}{p:Addr}{M Ed:List Addr}{here:Nat}{pars:List (Option Nat)}{aA:List (List Nat)}{last:List (Option Nat)}{T:Nat}{dx lo pa ed be lg:Addr}{bs:List Addr}{es:List V}
theorem fY.same(A:fY C H p M Ed here pars aA last T dx lo pa ed be lg bs es)(s:ay H H'):fY C H' p M Ed here pars aA last T dx lo pa ed be lg bs es:=
 ⟨A.ob.same s,A.eM,A.ap,s _ _ A.he,A.le,A.ea,A.e0,A.ev.same s,A.en,s _ _ A.hb,A.lb,λi b e=>s _ _<|A.hk i b e,s _ _ A.hg,A.nH⟩
theorem bQ.same(A:bQ C H p M Ed here pars aA last T)(s:ay H H'):bQ C H' p M Ed here pars aA last T:=by
 obtain⟨dx,lo,pa,ed,be,lg,bs,es,A⟩:=A;exact⟨dx,lo,pa,ed,be,lg,bs,es,A.same s⟩
theorem fY.live(A:fY C H p M Ed here pars aA last T dx lo pa ed be lg bs es):j9 M H:=λx h=>by
 rw[A.eM] at h;rcases zac.mp h with rfl|h
 exact⟨_,A.ob.ob,nofun⟩;rcases zac.mp h with rfl|h
 exact⟨_,A.ob.ol,nofun⟩;rcases zac.mp h with rfl|h
 exact⟨_,A.ob.op,nofun⟩;rcases zac.mp h with rfl|h
 exact⟨_,A.he,nofun⟩;rcases zac.mp h with rfl|h
 exact⟨_,A.hb,nofun⟩;rcases zac.mp h with rfl|h
 exact⟨_,A.hg,nofun⟩;obtain⟨i,b⟩:=zaV.mp h;exact⟨_,A.hk i x b,nofun⟩
theorem fY.ae3(A:fY C H p M Ed here pars aA last T dx lo pa ed be lg bs es){a:Addr}(h:a∈Ed):∃xs,H a=some (.lst xs):=by
 rw[<-A.ea] at h;obtain⟨v,f,e⟩:=zbe.mp h;obtain⟨i,c⟩:=zaV.mp f;have e:v=.ref a:=by
  cases v with
  |ref b=>exact congrArg V.ref (zal e)
  |_=>cases e
 subst e;have m:i≠0:=λz=>by rw[z,A.e0] at c;cases c
 obtain⟨j,g,_⟩:=A.ob.tr.up i (za1 m) (by rw[<-A.le];exact(zah.mp c).1);obtain⟨q,ps,l,k,d,_,_,⟨xs,x,_⟩,_⟩:=A.ev i j g;rw[c] at d;cases d;exact⟨xs,x⟩
theorem fY.keep(A:fY C H p M Ed here pars aA last T dx lo pa ed be lg bs es)(k:∀b o,b∈M\/b∈Ed->H b=some o->H' b=some o)(t:dq H H'):fY C H' p M Ed here pars aA last T dx lo pa ed be lg bs es:=by
 have c:=λb o h e=>k b o (.inl (A.eM▸h)) e;refine⟨⟨c _ _ (by simp) A.ob.ob,c _ _ (by simp) A.ob.ol,c _ _ (by simp) A.ob.op,A.ob.ln,A.ob.tr,A.ob.hr,A.ob.sz⟩,A.eM,A.ap,c _ _ (by simp) A.he,A.le,A.ea,A.e0,λi j e=>?_,A.en,c _ _ (by simp) A.hb,A.lb,λi b e=>c _ _ (by simp[zak e])<|A.hk i b e,c _ _ (by simp) A.hg,A.nH⟩;obtain⟨a,ps,l,f,zq⟩:=qx4 (A.ev i j e);obtain⟨d,r,q,m,g⟩:=qa5 zq;refine⟨a,ps,l,f,d,r,q,m.keep (λo e=>k a o (.inr ?_) e) t,g⟩;rw[<-A.ea];exact zbe.mpr ⟨_,zak d,O⟩
theorem bQ.keep(A:bQ C H p M Ed here pars aA last T)(k:∀b o,b∈M\/b∈Ed->H b=some o->H' b=some o)(t:dq H H'):bQ C H' p M Ed here pars aA last T:=by
 obtain⟨dx,lo,pa,ed,be,lg,bs,es,A⟩:=qx7 A;exact⟨dx,lo,pa,ed,be,lg,bs,es,A.keep k t⟩
theorem bQ.own(A:bQ C H p M Ed here pars aA last T){a:Addr}(f:H a=none):a∉M/\a∉Ed:=by
 obtain⟨dx,lo,pa,ed,be,lg,bs,es,A⟩:=qx7 A;refine⟨A.live.no f,λh=>?_⟩;obtain⟨xs,e⟩:=A.ae3 h;rw[f] at e;cases e
theorem fY.By(A:fY C H p M Ed here pars aA last T dx lo pa ed be lg bs es)(b:aN M H H'):mv H' es pars aA T:=λi j e=>by
 obtain⟨a,ps,l,c,zq⟩:=qx4 (A.ev i j e);obtain⟨h,k,g,f,d⟩:=qa5 zq;exact⟨a,ps,l,c,h,k,g,f.keep (λo e=>b a o e<|A.en i a h)<|A.live.bU b,d⟩
end
theorem Gw(T:eW pars):kids (pars++[some h]) i=kids pars i++(if h=i then [pars.length] else []):=by
 unfold kids;rw[zqA,zaK,List.range_succ,List.filter_append];congr 1;refine List.filter_congr λj b=>?_;rw[zax<|zbH.mp b];by_cases z:h=i;subst z;simp;simp[z]
theorem ae4(T:eW pars)(h:pars.length<=i):kids pars i=[]:=by
 refine List.filter_eq_nil_iff.mpr λj b=>?_;have b:=zbH.mp b;intro e;have e:=by simpa using e
 by_cases z:j=0;subst z;rw[T.rt] at e;cases e;obtain⟨k,c,d⟩:=T.up j (za1 z) b;rw[c] at e;cases e;exact (zaC _ (zaq (za2 d b) h)).elim
section
variable{Γ:ba}{D:Ends}{σ:St}{H:Hp}{r:List RS}{C p dx l:Addr}{fs:List (Str×V)}{f:Str}{x_:List V}
theorem Bz(h:ah Γ x σ H λv H1=>p9 Γ.K .list [v] H1 Q):ah Γ (.blt .list [x]) σ H Q:=h
theorem yj(b:σ[0]?=some (some<|.ref p))(d:H p=some (.ins C dx fs))(k:fs.lookup f=some (.ref l))(c:gT Γ.K C)(n:gB Γ.K C f)(g:H l=some (.lst x_))(h:ah Γ a σ H λy H2=>∃xs,H2 l=some (.lst xs)/\xs.length<sizeLine/\az Γ r D σ (upd H2 l<|.lst<|xs++[y])):
  az Γ (.drop (.bE .append (.fld (.v 0) f) [a])::r) D σ H:=
 cN (ju<|cB<|ag b ⟨p,C,dx,fs,_,O,d,c,n,k,.inl ⟨O,_,au.of g⟩,h⟩)
end
theorem Gx(T:eW pars){h:Nat}(c:h<pars.length):eW (pars++[some h]):=by
 refine⟨by rw[zax (zb2 (zqZ _) c)];exact T.rt,λi d b=>?_⟩;rw[zqA,zaK] at b;by_cases z:i<pars.length;rw[zax z];exact T.up i d z;have:i=pars.length:=by lia
 subst this;exact⟨h,by simp,c⟩
theorem O2{here k:Int}{p d:Addr}:cx "here" (V.int k) (h6 here lo p d be lg)=h6 k lo p d be lg:=xl
structure j_(C:Addr)(H:Hp)(p dx lo pa ed be lg:Addr)(bs:List Addr)(hv:Int)(ls ps es bv gs:List V)(ks:Nat->List V):Prop where
 h1:H p=some (.ins C dx<|h6 hv lo pa ed be lg)
 h2:H lo=some (.lst ls)
 h3:H pa=some (.lst ps)
 h4:H ed=some (.lst es)
 h5:H be=some (.lst bv)
 h6:H lg=some (.lst gs)
 h7:∀i b,bs[i]?=some b->H b=some (.lst<|ks i)
section
variable{C:Addr}{H H':Hp}{p dx lo pa ed be lg:Addr}{bs:List Addr}{hv:Int}{ls ps es bv gs xs:List V}{ks:Nat->List V}
theorem j_.same(R:j_ C H p dx lo pa ed be lg bs hv ls ps es bv gs ks)(s:ay H H'):j_ C H' p dx lo pa ed be lg bs hv ls ps es bv gs ks:=
 ⟨s _ _ R.h1,s _ _ R.h2,s _ _ R.h3,s _ _ R.h4,s _ _ R.h5,s _ _ R.h6,λi b e=>s _ _<|R.h7 i b e⟩
theorem j_.set(A:Bx p lo pa ed be lg bs)(R:j_ C H p dx lo pa ed be lg bs hv ls ps es bv gs ks):
  j_ C (L2.upd H lo<|.lst xs) p dx lo pa ed be lg bs hv xs ps es bv gs ks/\j_ C (L2.upd H pa<|.lst xs) p dx lo pa ed be lg bs hv ls xs es bv gs ks/\j_ C (L2.upd H ed<|.lst xs) p dx lo pa ed be lg bs hv ls ps xs bv gs ks/\j_ C (L2.upd H be<|.lst xs) p dx lo pa ed be lg bs hv ls ps es xs gs ks/\j_ C (L2.upd H lg<|.lst xs) p dx lo pa ed be lg bs hv ls ps es bv xs ks:=by
 obtain⟨⟨J,F,B,Z,X,W⟩,⟨E,x,w,u,P⟩,⟨t,r,q,N⟩,⟨m,g,K⟩,⟨f,I⟩,G,U⟩:=A.l;have k:∀{c:Addr},c∉bs->∀i b,bs[i]?=some b->L2.upd H c (.lst xs) b=some (.lst<|ks i):=λh i b d=>br (λz=>h (z▸zak d)) (R.h7 i b d);exact⟨⟨br J R.h1,ar,br E.symm R.h3,br x.symm R.h4,br w.symm R.h5,br u.symm R.h6,k P⟩,⟨br F R.h1,br E R.h2,ar,br t.symm R.h4,br r.symm R.h5,br q.symm R.h6,k N⟩,⟨br B R.h1,br x R.h2,br t R.h3,ar,br m.symm R.h5,br g.symm R.h6,k K⟩,⟨br Z R.h1,br w R.h2,br r R.h3,br m R.h4,ar,br f.symm R.h6,k I⟩,br X R.h1,br u R.h2,br q R.h3,br g R.h4,br f R.h5,ar,k G⟩
end
section
variable{K:Frag}{C CF:Addr}
inductive jF(C:Addr)(vs:List V)(H:Hp)(Q:VK)(E:XK):Prop|i(p:Addr)(M Ed:List Addr)(here:Nat)(pars:List (Option Nat))(aA:List (List Nat))(t:List (Option Nat))(T:Nat)(c:Addr)(ps:List Pt)(l r:List Nat)(_:vs=[.ref p,.ref c])(_:bQ C H p M Ed here pars aA t T)(_:bM H c ps l r)(_:c∉M)(_:aA[here]?=some l)(_:B.aB ps<=T)(_:T<=100000)(_:pars.length<100000)(_:∀(b a:Addr)(H':Hp),aN M H H'->H b=none->H a=none->bQ C H' p (M++[b]) (Ed++[a]) pars.length (pars++[some here]) (aA++[r]) (t++[none]) T->Q (.int (pars.length:Nat)) H')
inductive O3(C:Addr)(vs:List V)(H:Hp)(Q:VK)(E:XK):Prop|i(p:Addr)(M Ed:List Addr)(here:Nat)(pars:List (Option Nat))(aA:List (List Nat))(t:List (Option Nat))(T:Nat)(c:Addr)(ps:List Pt)(l r:List Nat)(_:vs=[.ref p,.ref c])(_:bQ C H p M Ed here pars aA t T)(_:bM H c ps l r)(_:c∉M)(_:aA[here]?=some l)(_:B.aB ps<=T)(_:T<=100000)(_:pars.length<100000)(_:∀(b a:Addr)(H':Hp),aN M H H'->H b=none->H a=none->bQ C H' p (M++[b]) (Ed++[a]) pars.length (pars++[some here]) (aA++[r]) (t++[none]) T->(∃xs,H' a=some (.lst xs)/\aQ H' xs ps)->Q (.int (pars.length:Nat)) H')
theorem ae5(X:fP K C):bO (O3 C) (λE=>aI K [("sizes",fQ)] [] [] [("need_over",C,j8 C CF),("many",C,iy C)] (E:=E)) Ah Ag:=by
 intro vs H Q E h;obtain⟨p,M,Ed,here,pars,aA,f,T,c,ps,l,r,rfl,⟨dx,lo,u,k,be,lg,d,es,A⟩,hc,kQ,hl,ht,hT,hn,q⟩:=h;have ka:(aA.map List.length)[here]?=some l.length:=by rw[zaf,hl];rfl
 refine cN<|gJ C (j8 C CF) O<|ag O ⟨p,dx,_,O,A.ob.ob,cZ,ag O ⟨p,dx,lo,u,k,be,lg,here,_,pars,c,ps,l,r,l.length,O,A.ob,hc,zat ht hT,ka,.inl ⟨O,λH1 s1=>?_⟩⟩⟩;have w:=A.same s1;have eN:=hc.same s1;refine bw<|j6 C (iy C) O<|ag O ⟨p,dx,_,O,w.ob.ob,cZ,p,dx,lo,u,k,be,lg,here,_,pars,O,w.ob,?_⟩;obtain⟨⟨a1,a2,a3,a4,a5,a6⟩,⟨b1,b2,b3,b4,b5⟩,⟨c1,c2,c3,c4⟩,⟨d1,d2,d3⟩,⟨e1,e2⟩,g1,g2⟩:=qa7 A.ap.l;have eM:=A.eM;have nI:p∈M/\lo∈M/\u∈M/\k∈M/\be∈M/\lg∈M/\∀b∈d,b∈M:=by rw[eM];simp;exact λb hb=>.inr (.inr<|.inr<|.inr<|.inr<|.inr hb)
 obtain⟨mp,ml,c',me,mb,mg,d'⟩:=qa7 nI;have R1:j_ C H1 p dx lo u k be lg d here _ _ es _ _ λi=>iV (kids pars i):=⟨w.ob.ob,w.ob.ol,w.ob.op,w.he,w.hb,w.hg,w.hk⟩;have sz:=A.ob.sz;have vo:(aA.map List.length).length=pars.length:=A.ob.ln;have dN:aA.length=pars.length:=by rw[<-vo,zaa]
 have m:∀{n:Nat},n<=100000->n<sizeLine:=λh=>dr (zat h (za0 _ _));have yk:=w.live;refine yj O R1.h1 pB X.cl X.m5 R1.h3<|cB<|ag O ⟨p,C,dx,_,_,O,R1.h1,X.cl,X.gH,iW,_,R1.h3,m (by rw[zaa];exact sz),?_⟩;have ep:pars.map gV++[V.int (here:Nat)]=(pars++[some here]).map gV:=by rw[zap];rfl
 rw[ep];have k2:aN M H1 (upd H1 u<|.lst<|(pars++[some here]).map gV):=aN.upd c';have R2:=(R1.set (xs:=(pars++[some here]).map gV) A.ap).2.1;have qW:=yk.upd (c:=u) (xs:=(pars++[some here]).map gV);have O4:=eN.keep (λo e=>k2 c o e kQ) (yk.bU k2);generalize upd H1 u (.lst<|(pars++[some here]).map gV)=H2 at k2 R2 O4 qW⊢;obtain⟨xs,g,jz,J⟩:=O4;refine yj O R2.h1 qR X.cl X.m6 R2.h4<|Bz<|ag O ⟨xs,.inl<|au.of g,λa fa=>⟨_,br (λz=>by have:=R2.h4;rw[z,fa] at this;cases this) R2.h4,m (by rw[A.le];exact sz),?_⟩⟩;have s3:=sameNew (o:=.lst xs) fa;have G:a∉M:=qW.no fa;have vp:=(qW.same s3).upd (c:=k) (xs:=es++[V.ref a]);have b':a≠k:=λz=>G (by rw[z];exact me);have k3:aN M H2 (upd (upd H2 a<|.lst xs) k<|.lst<|es++[V.ref a]):=(aN.of s3).trans (aN.upd me);have vi:upd (upd H2 a<|.lst xs) k (.lst<|es++[V.ref a]) a=some (.lst xs):=br b' ar;have R3:=((R2.same s3).set (xs:=es++[V.ref a]) A.ap).2.2.1;have O5:=k3 _ _ g kQ;have Gy:=jz.mono (qW.bU k3);generalize upd (upd H2 a<|.lst xs) k (.lst<|es++[V.ref a])=H3 at k3 vi R3 O5 Gy vp⊢;have h':=k2.trans k3;have cl:ps.length<=2*B.aB ps+1:=j7 ps "" J.ok J.ch;refine yj O R3.h1 yb X.cl X.sJ R3.h2<|bD<|b_ fQ O<|av<|ag O<|aH ⟨c,xs,ps,O,O5,Gy,J.ok,J.ch,by lia,λt H4 s4 vq=>aC<|tJ vq O ⟨_,s4 _ _ R3.h2,m (by rw[zaa];exact zat (za3 vo) sz),?_⟩⟩;have eg:(qx ps).sum=r.length:=J.run.gives;rw[eg];have el:(aA.map List.length).map (λn=>V.int (n:Nat))++[V.int (r.length:Nat)]=((aA++[r]).map List.length).map (λn=>V.int (n:Nat)):=by rw[zap,zap];rfl
 rw[el];generalize eL:((aA++[r]).map List.length).map (λn=>V.int (n:Nat))=ll;have k5:aN M H3 (upd H4 lo<|.lst ll):=(aN.of s4).trans (aN.upd ml);have tN:=k5 _ _ vi G;have Y:=((R3.same s4).set (xs:=ll) A.ap).1;have BA:=(vp.same s4).upd (c:=lo) (xs:=ll);have O6:=Gy.mono (vp.bU k5);generalize upd H4 lo (.lst ll)=H5 at k5 tN Y BA O6⊢;have Gz:=h'.trans k5;refine yj O Y.h1 Gn X.cl X.Ai Y.h5<|cJ<|aH ⟨HP,λb U=>⟨_,br (λz=>by have:=Y.h5;rw[z,U] at this;cases this) Y.h5,m (by rw[zaa,A.lb];exact sz),?_⟩⟩;have s6:=sameNew (o:=.lst []) U;have Z:b∉M:=BA.no U;have nb:b≠be:=λz=>Z (by rw[z];exact mb);have eb:d.map V.ref++[V.ref b]=(d++[b]).map V.ref:=by rw[zap];rfl
 rw[eb];have na:a≠b:=λz=>by rw[z,U] at tN;cases tN
 have k6:aN M H5 (upd (upd H5 b<|.lst []) be<|.lst<|(d++[b]).map V.ref):=(aN.of s6).trans (aN.upd mb);have O7:upd (upd H5 b<|.lst []) be (.lst<|(d++[b]).map V.ref) b=some (.lst []):=br nb ar;have ya:=k6 _ _ tN G;have R6:=((Y.same s6).set (xs:=(d++[b]).map V.ref) A.ap).2.2.2.1;have yl:=(BA.same s6).upd (c:=be) (xs:=(d++[b]).map V.ref);have O8:=O6.mono (BA.bU k6);generalize upd (upd H5 b<|.lst []) be (.lst<|(d++[b]).map V.ref)=H6 at k6 O7 ya R6 yl O8⊢;have g':=Gz.trans k6;refine yj O R6.h1 Gp X.cl X.Aj R6.h6<|aC ⟨_,R6.h6,m (by rw[zaa,A.nH];exact sz),?_⟩;have k':f.map gV++[V.aD]=(f++[none]).map gV:=by rw[zap];rfl
 rw[k'];have k7:aN M H6 (upd H6 lg<|.lst<|(f++[none]).map gV):=aN.upd mg;have O9:=k7 _ _ O7 Z;have O_:=k7 _ _ ya G;have R:=(R6.set (xs:=(f++[none]).map gV) A.ap).2.2.2.2;have GA:=yl.upd (c:=lg) (xs:=(f++[none]).map gV);have Pa:=O8.mono (yl.bU k7);generalize upd H6 lg (.lst<|(f++[none]).map gV)=H7 at k7 O9 O_ R GA Pa⊢;have f':=g'.trans k7;have GB:=A.ob.hr;have Pb:here<d.length:=by rw[A.lb];exact GB
 have W:d[here]?=some d[here]:=zay Pb;have qh:=R.h7 here _ W;have mh:d[here]∈M:=d' _ (zak W);have l':(iV<|kids pars here).length<=100000:=by
  rw[zaa];have:=zbV (λj=>pars[j]?==some (some here)) (List.range pars.length);rw[zbT] at this;exact zat this sz
 have ai:gE ((d++[b]).map V.ref) ((here:Nat):Int)=some (V.ref d[here]):=bZ (by rw[zaf,zax Pb,W];rfl);refine cN<|ju<|bD<|cB<|ag O ⟨p,C,dx,_,_,O,R.h1,X.cl,X.Ai,Gn,cB<|ag O ⟨p,C,dx,_,_,O,R.h1,X.cl,X.gH,iW,cj R.h5 ai ⟨.inl ⟨O,_,au.of qh⟩,ag O ⟨_,qh,m l',?_⟩⟩⟩⟩;have j':iV (kids pars here)++[V.int (pars.length:Nat)]=iV (kids (pars++[some here]) here):=by rw[Gw A.ob.tr,if_pos O];unfold iV;rw[zap];rfl
 rw[j'];have k8:aN M H7 (upd H7 d[here] (.lst<|iV<|kids (pars++[some here]) here)):=aN.upd mh;have F:∀{x:Addr},x∉d->x≠d[here]:=λh z=>h (by rw[z];exact zak W);have Pc:=k8 _ _ O9 Z;have GC:=k8 _ _ O_ G;have q8:∀(i:Nat)(x:Addr),d[i]?=some x->upd H7 d[here] (.lst<|iV<|kids (pars++[some here]) here) x=some (.lst<|iV<|kids (pars++[some here]) i):=λi x hi=>by
  by_cases z:i=here;subst z;rw[W] at hi;cases hi;exact ar;have iK:x≠d[here]:=λN=>z ((List.getElem?_inj (zah.mp hi).1 g2).mp (by rw[hi,W,N]));rw[aF iK,R.h7 i x hi,Gw A.ob.tr,if_neg<|λe=>z e.symm,zae]
 have I:j_ C (upd H7 d[here] (.lst<|iV<|kids (pars++[some here]) here)) p dx lo u k be lg d here ll _ _ _ _ λi=>iV (kids (pars++[some here]) i):=⟨br (F a6) R.h1,br (F b5) R.h2,br (F c4) R.h3,br (F d3) R.h4,br (F e2) R.h5,br (F g1) R.h6,q8⟩;have Pd:=GA.upd (c:=d[here]) (xs:=iV (kids (pars++[some here]) here));have Pe:=Pa.mono (GA.bU k8);generalize upd H7 d[here] (.lst<|iV<|kids (pars++[some here]) here)=H8 at k8 Pc GC I Pd Pe⊢;have e':=f'.trans k8;refine nF<|ag O<|ag O ⟨p,C,dx,_,O,I.h1,X.cl,X.gH,(by show 6<1000;decide),?_⟩;rw[O2];have k9:aN M H8 (upd H8 p<|.ins C dx<|h6 (pars.length:Nat) lo u k be lg):=aN.upd mp;have Pf:=e'.trans k9;have i':=w.By Pf;have Pg:=Pe.mono (Pd.bU k9);refine dh<|ag O<|q b a _ ((aN.of s1).trans Pf) ?_ ?_ ⟨dx,lo,u,k,be,lg,d++[b],es++[V.ref a],?_⟩ ⟨xs,br (λz=>G (by rw[z];exact mp)) GC,Pg⟩;cases hz:H b with
 |none=>rfl
 |some o=>
  have P:=Gz b o (s1 _ _ hz) Z;rw[U] at P;cases P
 cases hz:H a with
 |none=>rfl
 |some o=>
  have P:=k2 a o (s1 _ _ hz) G;rw[fa] at P;cases P
 have FP:pars.length+1<=100000:=hn;refine⟨⟨ar,(by rw[eL];exact br (Ne.symm a1) I.h2),br (Ne.symm a2) I.h3,?_,Gx A.ob.tr GB,?_,?_⟩,?_,⟨?_⟩,br (Ne.symm a3) I.h4,?_,(by unfold qU;rw[List.filterMap_append];show qU es++[a]=_;rw[A.ea]),(by rw[zax (by rw[A.le];exact zb2 (zqZ _) GB)];exact A.e0),?_,?_,br (Ne.symm a4) I.h5,?_,?_,br (Ne.symm a5) I.h6,?_⟩;rw[zaa,zqA,zqA,dN];rfl;rw[zqA];exact zbM _;rw[zqA];exact FP;rw[eM];rfl;have h:=A.ap.nd;rw[<-eM] at h;have:p::lo::u::k::be::lg::(d++[b])=M++[b]:=by rw[eM];rfl
 rw[this];exact List.nodup_append.mpr ⟨h,(by simp),λx g y hy e=>Z (by rw[<-zab.mp hy,<-e];exact g)⟩;rw[zqA,zqA,A.le];rfl;intro i j BB;by_cases z:i<pars.length;rw[zax z] at BB;obtain⟨a',kz,lj,li,zq⟩:=qx4 (i' i j BB);obtain⟨h1,h2,h3,h4,P⟩:=qa5 zq;have jl:=(zah.mp h2).1;exact⟨a',kz,lj,li,by rw[zax (by rw[A.le];exact z)];exact h1,by rw[zax jl];exact h2,by rw[zax (by rw[dN];exact z)];exact h3,h4,P⟩;have zi:i=pars.length:=by
  have:=(zah.mp BB).1;rw[zqA,zaK] at this;lia
 subst zi;have:here=j:=by simpa using BB
 subst this;exact⟨a,ps,l,r,by rw[<-A.le];simp,by rw[zax (by rw[dN];exact GB)];exact hl,by rw[<-dN];simp,⟨xs,br (λz=>G (by rw[z];exact mp)) GC,Pg,J⟩,ht⟩;intro i x g;have nx:x∉M/\x≠b:=by
  by_cases z:i<es.length;rw[zax z] at g;have h1:=A.en i x g;refine⟨h1,λN=>?_⟩;obtain⟨j,hj⟩:∃j,pars[i]?=some (some j):=by
   by_cases z0:i=0;rw[z0,A.e0] at g;cases g;obtain⟨j,q1,_⟩:=A.ob.tr.up i (za1 z0) (by rw[<-A.le];exact z);exact⟨j,q1⟩
  obtain⟨a',kz,lj,li,gX,_,_,h4,_⟩:=w.ev i j hj;rw[g] at gX;cases gX;obtain⟨ys,hy,_⟩:=h4;have:=Gz _ _ hy h1;rw[N,U] at this;cases this;have zi:i=es.length:=by
   have:=(zah.mp g).1;rw[zqA,zaK] at this;lia
  subst zi;have:a=x:=by simpa using g
  subst this;exact⟨G,na⟩
 intro h;rcases zad.mp h with h|h
 exact nx.1 h;exact nx.2 (zab.mp h);rw[zqA,zqA,A.lb];rfl;intro i x g;by_cases z:i<d.length;rw[zax z] at g;exact br (λN=>a6 (by rw[<-N];exact zak g))<|I.h7 i x g;have zi:i=d.length:=by
  have:=(zah.mp g).1;rw[zqA,zaK] at this;lia
 subst zi;have:b=x:=by simpa using g
 subst this;rw[A.lb,Gw A.ob.tr,ae4 A.ob.tr<|zqR _,if_neg (zan GB)];exact br (λN=>Z (by rw[N];exact mp)) Pc;rw[zqA,zqA,A.nH];rfl
theorem afg(h:jF C vs H Q E):O3 C vs H Q E:=by
 obtain⟨p,M,Ed,here,pars,aA,t,T,c,ps,l,r,e,A,u,d,m,f,w,g,q⟩:=h;exact⟨p,M,Ed,here,pars,aA,t,T,c,ps,l,r,e,A,u,d,m,f,w,g,λb a H' k x G I _=>q b a H' k x G I⟩
theorem afh(X:fP K C)(vs:List V)(H:Hp)(Q:VK)(E:XK)(h:jF C vs H Q E):az (aI K [("sizes",fQ)] [] [] [("need_over",C,j8 C CF),("many",C,iy C)] (E:=E)) Ah (Dn Q) (start Ag vs) H:=ae5 X vs H Q E (afg h)
end
end L2.N
namespace L2.B
open PySem PySem.Spec PyProof.Rows
noncomputable def Ph:List Str:=["self","way","steps","changes","change","node","other"]
noncomputable def Pj:List RS:=
 [.asg 2 (.xt OZ [.v 1,(.sl (.v 1) (some (.c (.int 1))) none)]),
 .asg 3 (.lst [(.call 0 [(.lst [(.tup [(.c<|.str "keep"),(.ix (.fld (.v 0) "lengths")<|.fld (.v 0) "here")])])])]),
 .asg 4 (.call 1 [(.bin .Add (.v 3)<|.comp (some 2) [("self",0)] .list [.v 2] none<|.aU 0 "edge" (.v 2) [.v 0,.v 1])]),
 .lE [5,6] .list [.v 2] [.ite (.cmp .Eq (.ix (.fld (.v 0) "parents")<|.v 5)<|.v 6) [.set (.fld (.v 0) "last_gone") (.v 6)<|.v 5] []],
 .fI (.v 0) "here" (.ix (.v 1)<|.neg<|.c<|.int 1),
 .ret (.v 4)]
def afi:List Str:=["neat","joined_all"]
def afj:List Str:=["list","zip"]
def afk:List Str:=["edge"]
end L2.B
namespace L2.N
open PySem PySem.Spec L2.B
def mx(H:Hp):List V->List (V×V)->Prop:=Paired λv p=>∃t,v=.ref t/\H t=some (.tup [p.1,p.2])
theorem mx.same (s:dq H H'):∀{xs:List V}{ps:List (V × V)},mx H xs ps->mx H' xs ps:=by
 intro _ _ h;induction h with
 |nil=>exact .nil
 |cons x _ i=>obtain⟨t,e,h⟩:=x;exact .cons ⟨t,e,s _ _ h⟩ i
theorem mx.at:∀{xs:List V}{ps:List (V × V)}{i:Nat}{v:V},mx H xs ps->xs[i]?=some v->∃p t,ps[i]?=some p/\v=.ref t/\H t=some (.tup [p.1,p.2]):=by
 intro _ _ i v h;induction h generalizing i with
 |nil=>intro e;simp at e
 |cons x _ ih=>
  intro e;cases i with
  |zero=>obtain⟨t,e',h⟩:=x;simp at e;subst e;exact⟨_,t,rfl,e',h⟩
  |succ i=>
   obtain⟨p,t,a,b⟩:=ih (by simpa using e);exact⟨p,t,by simpa using a,b⟩
theorem Pk{R:α->β->Prop}:∀{xs:List α}{ys:List β},xs.length=ys.length->(∀(i:Nat) x y,xs[i]?=some x->ys[i]?=some y->R x y)->Paired R xs ys:=by
 intro xs;induction xs with
 |nil=>
  intro ys h _;cases ys with
  |nil=>exact .nil
  |cons _ _=>cases h
 |cons x xs ih=>
  intro ys h k;cases ys with
  |nil=>cases h
  |cons y ys=>exact .cons (k 0 x y rfl rfl) (ih (Nat.succ.inj h) λi a b ha hb=>k (i + 1) a b (by simpa using ha) (by simpa using hb))
section
variable{K:Frag}
theorem afl{E:List V->Hp->Addr->Prop}{w:TE}{l:List (Str×Nat)}{a:Addr}{cs:List (V×V)}(k:H a=some (.lst xs))(A:mx H xs cs)(hl:cs.length<=1000000)(P:Nat->List V->Hp->Prop)(Z:P 0 [] H)(g:∀i c ys H2,cs[i]?=some c->ay H H2->P i ys H2->∀G:VK,(∀y f,ay H2 f->P (i+1) (ys++[y]) f->G y f)->w (some c.1::some c.2::cX σ l) H2 G)(r:∀ys H2 p,ay H H2->P cs.length ys H2->ys.length=cs.length->H2 p=none->E ys H2 p):∃d:Nat->Nat->List V->Hp->Prop,(∃m,d 0 m [] H)/\∀i m ys H2,d i m ys H2->
   ((i6 K a).stop i H2/\∀p,H2 p=none->E ys H2 p)\/
   ((i6 K a).go i H2/\∀x f,(i6 K a).hZ i H2 x f->lA K (some 2) x f λu=>om none (u.map some++cX σ l) f λb I=>
    if b=true then w (u.map some++cX σ l) I λy H6=>ys.length<sizeLine/\∃h,h<m/\d (i+1) h (ys++[y]) H6 else ∃h,h<m/\d (i+1) h ys I):=by
 have B:=Paired.length A;refine⟨λi m ys H2=>m=xs.length - i/\i<=xs.length/\ys.length=i/\ay H H2/\P i ys H2,⟨_,O,zqZ _,O,ay.refl _,Z⟩,?_⟩;rintro i m ys H2 zq;obtain⟨rfl,hi,F,s,p⟩:=qa5 zq;by_cases aO:i<xs.length;refine .inr ⟨⟨xs,xs[i],au.of<|s _ _ k,by simp⟩,?_⟩;rintro x f ⟨rfl,J⟩;obtain⟨c,t,N,rfl,U⟩:=mx.at A (J xs<|au.of<|s _ _ k);exact⟨t,_,O,aJ.of<|s _ _ U,O,g i c ys _ N s p _ λy H4 R X=>⟨dr (by lia),xs.length - (i+1),by lia,O,aO,by simp[F],s.trans R,X⟩⟩;have Y:i=xs.length:=za5 hi (za4 aO)
 subst Y;refine .inl ⟨⟨xs,au.of<|s _ _ k,zqR _⟩,λq W=>r ys _ q s ?_ (by lia) W⟩;rw[<-B];exact p
end
def iY(pars:List (Option Nat))(n m:Nat):Prop:=pars[m]?=some (some n)\/pars[n]?=some (some m)
def afm(pars:List (Option Nat))(b:List Nat):Prop:= ∀i n m,b[i]?=some n->b[i+1]?=some m->iY pars n m
noncomputable def gK(pars:List (Option Nat))(l:List (Option Nat))(p:Nat×Nat):List (Option Nat):=if pars[p.1]?=some (some p.2) then l.set p.2 (some p.1) else l
noncomputable def BC(pars:List (Option Nat))(b:List Nat)(l:List (Option Nat)):List (Option Nat):=(b.zip b.tail).foldl (gK pars) l
theorem GD:∀(ps:List (Nat×Nat))(l:List (Option Nat)),(ps.foldl (gK pars) l).length=l.length
 |[],_=>O
 |p::ps,l=>by
  rw[zbC,GD ps];unfold gK;split;rw[zaS];rfl
section
variable{K:Frag}{C:Addr}
theorem afn(n:Nat):B.aB (fV [.keep (n:Int)])=0:=by
 rw[xf [.keep (n:Int)] (by intro p h;cases zab.mp h;show(0:Int)<=_;exact za6 _)];rfl
theorem afo{b t:Addr}{l:List Nat}(h:H b=some (.lst [.ref t]))(ht:H t=some (.tup [.str "keep",.int (l.length:Int)]))(m:l.length<=100000)(q:∀(c:Addr)(H':Hp),ay H H'->H c=none->bM H' c (fV [.keep (l.length:Int)]) l l->Q (.ref c) H'):lR [.ref b] H Q E:=by
 refine⟨b,[.ref t],[.keep (l.length:Int)],O,h,.cons ⟨t,O,ht⟩ .nil,(by simp),(by show 0+0<=100000;decide),λc H' ys s g k d=>q c H' s g ⟨ys,k,?_,ad6⟩⟩;rw[xa [.keep (l.length:Int)] (by intro p f;cases zab.mp f;show(0:Int)<=_;exact za6 _)] at d;exact d
inductive tO(C:Addr)(vs:List V)(H:Hp)(Q:VK)(E:XK):Prop|i(p:Addr)(M Ed:List Addr)(here d:Nat)(pars:List (Option Nat))(aA:List (List Nat))(t:List (Option Nat))(T:Nat)(w:Addr)(rest:List Nat)(l r:List Nat)(_:vs=[.ref p,.ref w])(_:bQ C H p M Ed here pars aA t T)(_:H w=some (.lst<|iV (here::rest)))(_:w∉M)(_:afm pars (here::rest))(_:(∀n∈rest,n<pars.length))(_:rest.length<=9000)(_:T*rest.length<=85000)(_:T<=14000)(_:(here::rest)[rest.length]?=some d)(_:aA[here]?=some l)(_:aA[d]?=some r)(_:l.length<=100000)(_:∀(c:Addr)(ps:List Pt)(H':Hp),aN M H H'->H c=none->c∉M->bM H' c ps l r->B.aB ps<=T*rest.length->bQ C H' p M Ed d pars aA (BC pars (here::rest) t) T->Q (.ref c) H')
theorem afp(X:fP K C):bO (tO C) (λE=>aI K [("neat",lR),("joined_all",Gf)] [] [] [("edge",C,Gr C)] (E:=E)) Pj Ph:=by
 intro vs H Q E h;obtain⟨p,M,Ed,here,d,pars,aA,g,T,w,f,l,r,rfl,⟨dx,lo,pa,ed,be,lg,bs,es,A⟩,hw,nw,fE,uv,q',hT,GG,hd,hl,hr,ka,q⟩:=h;have sz:=A.ob.sz;have vo:(aA.map List.length).length=pars.length:=A.ob.ln;have dN:aA.length=pars.length:=by rw[<-vo,zaa]
 refine bw ?_;refine⟨_,O,_,O,⟨_,O,.inl ⟨_,au.of hw,λw2 e'=>?_⟩⟩⟩;have ec:d6 (iV (here::f)) (some (1:Int)) none=iV f:=by
  rw[show((1:Int))=((1:Nat):Int) from O,Gd];rfl
 have s1:=sameNew (o:=.lst (d6 (iV (here::f)) (some (1:Int)) none)) e';have GH:upd H w2 (.lst<|d6 (iV (here::f)) (some (1:Int)) none) w2=some (.lst<|iV f):=by rw[ar,ec]
 refine⟨w,w2,_,_,O,au.of<|s1 _ _ hw,au.of GH,λts L H2 GI s2 Pl fL m8 hL=>?_⟩;have jw:=s1.trans s2;have GI:ts.length=f.length:=by
  rw[GI,zaa,zaa,zao];lia
 have hP:mx H2 (ts.map V.ref) (((here::f).zip f).map λp=>(V.int (p.1:Nat),V.int (p.2:Nat))):=by
  refine Pk (by rw[zaa,zaa,List.length_zip,zao];lia) λi v pr hv hp=>?_;rw[zaf] at hv hp;obtain⟨t,P,rfl⟩:=zaY.mp hv;obtain⟨⟨n,m⟩,F,rfl⟩:=zaY.mp hp;obtain⟨W,h2⟩:=zbZ.mp F;obtain⟨u,v,e1,e2,e3⟩:=m8 i t P;rw[zaf,W] at e1;rw[zaf,h2] at e2;cases e1;cases e2;exact⟨t,O,e3⟩
 have GJ:((here::f).zip f).length=f.length:=by rw[List.length_zip,zao];lia
 have A2:=A.same jw;have FR:=s2 _ _ (s1 _ _ hw);clear m8 Pl s2 GH;have c':(aA.map List.length)[here]?=some l.length:=by rw[zaf,hl];rfl
 refine bw<|cJ<|av<|b_ lR O<|av<|cJ<|av<|iu<|av<|aC<|av<|bD<|cB<|ag O ⟨p,C,dx,_,_,O,A2.ob.ob,X.cl,X.sJ,yb,cB<|ag O ⟨p,C,dx,_,_,O,A2.ob.ob,X.cl,X.gH,iW,cj A2.ob.ol (bZ (by rw[zaf,c'];rfl))<|aH ⟨cK,λt ft=>aH ⟨cC,λb fb=>aH ?_⟩⟩⟩⟩;have s3:=sameNew (o:=.tup [V.str "keep",V.int (l.length:Nat)]) ft;have s4:=sameNew (o:=.lst [V.ref t]) fb;refine afo ar (s4 _ _ ar) ka λZ H5 s5 f' Pm=>aH ⟨cC,λL2 Pn=>?_⟩;have Po:=(s3.trans s4).trans s5;have k':=(jw.trans<|s3.trans s4).free f';have s6:=sameNew (o:=.lst [V.ref Z]) Pn;have U:=Po.trans s6;have tM:upd H5 L2 (.lst [V.ref Z]) L2=some (.lst [V.ref Z]):=ar;have Pp:=Pm.same s6;have A6:=A2.same U;have GK:=hP.same (dg U);have BD:=U _ _ hL;have l8:=U _ _ FR;have GN:=jw.trans U;clear s3 s4 s5 Po Pm ft fb Pn;have j':∀n,n<pars.length->∃x,aA[n]?=some x:=λn h=>⟨_,zay (by rw[dN];exact h)⟩;have ym:∀(i n:Nat),(here::f)[i]?=some n->n<pars.length:=λi n e=>by
  rcases zac.mp (zak e) with rfl|h
  exact A.ob.hr;exact uv n h
 refine bw<|b_ Gf O<|av<|bT<|ag O ?_;refine⟨_,O,L,O,⟨_,au.of BD⟩,afl BD GK (by rw[zaa,GJ];exact zat q' (za0 _ _)) (λi ys H7=>∃(n t:Nat)(x:List Nat),(here::f)[i]?=some n/\aA[n]?=some x/\dD H7 ys l x t/\t<=T*i) ⟨here,0,l,O,hl,⟨O,O⟩,zqZ _⟩ ?_ ?_⟩;intro i c ys H7 hc s7 ⟨n,t,x,R,N,cv,P⟩ Q' kk;rw[zaf] at hc;obtain⟨⟨n',m⟩,F,rfl⟩:=zaY.mp hc;obtain⟨W,h2⟩:=zbZ.mp F;rw[R] at W;have e:n=n':=zal W;subst e;have uH:(here::f)[i+1]?=some m:=by rw[zbc];exact h2
 obtain⟨y,hy⟩:=j' m (ym _ _ uH);have A7:=A6.same s7;have qX:pars[m]?=some (some n)\/(pars[m]?≠some (some n)/\pars[n]?=some (some m)):=by
  rcases fE i n m R uH with h|h
  exact .inl h;by_cases z:pars[m]?=some (some n);exact .inl z;exact .inr ⟨z,h⟩
 refine Br C (Gr C) O<|ag O ⟨p,dx,_,O,A7.ob.ob,cZ,ag O<|ag O ⟨p,dx,lo,pa,ed,be,lg,here,_,pars,es,aA,T,n,m,x,y,O,A7.ob,A7.he,A7.ev,GG,N,hy,ym _ _ uH,qX,λc ps H8 J d' tt=>kk _ _ J ⟨m,t+B.aB ps,y,uH,hy,dD.app (dD.same J cv) ⟨c,ps,y,0,O,d',⟨O,O⟩,O⟩,?_⟩⟩⟩;rw[Nat.mul_add,Nat.mul_one];exact zcq P tt;intro ys H7 b7 s7 ⟨n,t,x,R,N,cv,P⟩ ly f7;rw[zaa,GJ] at R P ly;rw[hd] at R;cases R;rw[hr] at N;cases N;have J:=sameNew (o:=.lst ys) f7;refine .inl ⟨L2,b7,_,_,O,O,J _ _<|s7 _ _ tM,ar,cz (by show 1+ys.length<=_;lia),λb9 f9=>aH ?_⟩;have s9:=sameNew (o:=.lst ([V.ref Z]++ys)) f9;have GO:=s7.trans (J.trans s9);have p':([V.ref Z]++ys).length=1+ys.length:=by rw[zqA];rfl
 refine⟨b9,[V.ref Z]++ys,l,r,0+t,O,ar,⟨Z,_,l,t,O,Pp.same GO,dD.same (J.trans s9) cv,by rw[afn]⟩,by lia,by lia,by lia,λc ps qi uB i' tt Y=>?_⟩;have yp:=GO.trans uB;have sH:=GN.trans yp;have G:=A6.same yp;have vj:H c=none:=by
  rcases Y with Y|Y
  exact(GN.trans GO).free Y;cases ys with
  |nil=>cases Y;exact k'
  |cons y r'=>cases Y
 have kQ:c∉M:=A.live.no vj;have h':=GK.same (dg yp);have Pq:=yp _ _ BD;have g':=yp _ _ l8;have nJ:H L=none:=s1.free fL;have a':L∉M:=A.live.no nJ;have lv:=G.live;have GP:lg∈M:=by rw[A.eM];simp
 have mp:p∈M:=by rw[A.eM];simp
 obtain⟨⟨a1,a2,a3,a4,a5,a6⟩,⟨b1,b2,b3,b4,b5⟩,⟨c1,c2,c3,c4⟩,⟨d1,d2,d3⟩,⟨e1,e2⟩,g1,g2⟩:=qa7 A.ap.l;have s':((here::f).zip f)=(here::f).zip (here::f).tail:=O;refine OG<|ag O ⟨L,O,⟨_,au.of Pq⟩,lh (K:=K) (a:=L) (xs:=ts.map V.ref) (λi σ I=>∃u5 u6,σ=[some<|.ref p,some<|.ref w,some<|.ref L,some<|.ref L2,some<|.ref c,u5,u6]/\aR lg qi I/\I lg=some (.lst<|((((here::f).zip f).take i).foldl (gK pars) g).map gV)) ⟨none,none,O,λ_ _ e _=>e,G.hg⟩ ?_ ?_ ?_⟩;rintro i σ I _ ⟨u5,u6,rfl,b,_⟩;exact au.of<|b _ _ Pq λz=>a' (by rw[z];exact GP);rintro i x σ I hi ⟨u5,u6,rfl,b,hg⟩;obtain⟨pr,t,yh,rfl,P⟩:=mx.at h' hi;rw[zaf] at yh;obtain⟨⟨n,m⟩,F,rfl⟩:=zaY.mp yh;obtain⟨W,h2⟩:=zbZ.mp F;have R:=ym _ _ W;have hm:=ym (i+1) m (by rw[zbc];exact h2);have o':=b _ _ P λz=>by rw[z,G.hg] at P;cases P
 refine⟨t,_,O,.inl<|aJ.of o',O,_,_,O,_,_,O,O,?_⟩;have op:=b _ _ G.ob.op c3;have oo:=b _ _ G.ob.ob a5;have GQ:pars[n]?=some pars[n]:=zay R;have b':=GD (pars:=pars) (((here::f).zip f).take i) g;have ll:=A.nH;refine ZZ<|bf<|bD<|cB<|ag O ⟨p,C,dx,_,_,O,oo,X.cl,X.m5,pB,ag O<|cj op (bZ (by rw[zaf,GQ];rfl))<|ag O<|yg ⟨_,O,?_⟩⟩;have tm:(((here::f).zip f).take<|i+1).foldl (gK pars) g=gK pars ((((here::f).zip f).take i).foldl (gK pars) g) (n,m):=by
  rw[OL F,List.foldl_append];rfl
 by_cases z:pars[n]=some m;refine iT ?_ (zqT z);refine mq<|ag O<|cB<|ag O ⟨p,C,dx,_,_,O,oo,X.cl,X.Aj,Gp,ag O ⟨lg,_,_,m,O,O,hg,?_,?_⟩⟩;rw[zaa,b',ll];unfold gh;rw[if_pos (za6 _),if_pos (by lia)];rfl;refine⟨_,_,O,b.trans aR.upd,?_⟩;rw[ar,tm];unfold gK;rw[GQ,z,if_pos O,zbd];rfl;refine iF ?_ (zqF z);refine⟨_,_,O,b,?_⟩;rw[tm];unfold gK;rw[GQ,if_neg<|λe=>z<|zal e];exact hg;rintro σ I ⟨u5,u6,rfl,b,hg⟩;rw[zaa,GI,zaH (by rw[GJ];exact zqR _)] at hg;have oo:=b _ _ G.ob.ob a5;have m':=b _ _ g' λz=>nw (by rw[z];exact GP);have bL:aN M qi I:=λx o e n=>b x o e λz=>n (by rw[z];exact GP);have l':gE (iV (here::f)) (-1)=some (V.int (d:Nat)):=by
  have e1:(here::f)=(here::f).dropLast++[d]:=by
   have e2:(here::f).getLast (by simp)=d:=by
    rw[List.getLast_eq_getElem];have:=(zah.mp hd).2;simpa using this
   rw[<-e2,List.dropLast_concat_getLast]
  rw[e1];unfold iV;rw[zap];exact zj _ _
 refine nF<|bD<|ag O<|vh<|.inl ⟨w,_, -1,_,O,O,au.of m',l',ag O ⟨p,C,dx,_,O,oo,X.cl,X.gH,(by show 6<1000;decide),?_⟩⟩;rw[O2];have bp:aN M I (upd I p<|.ins C dx<|h6 (d:Nat) lo pa ed be lg):=aN.upd mp;have bb:=bL.trans bp;have k:∀{x:Addr}{o:HO},qi x=some o->x≠lg->x≠p->upd I p (.ins C dx<|h6 (d:Nat) lo pa ed be lg) x=some o:=λe n1 n2=>br n2 (b _ _ e n1);refine dh<|ag O<|q c ps _ ((aN.of sH).trans bb) vj kQ (i'.keep (λo e=>bb c o e kQ)<|lv.bU bb) (by lia) ⟨dx,lo,pa,ed,be,lg,bs,es,?_⟩;exact⟨⟨ar,k G.ob.ol b4<|Ne.symm a1,k G.ob.op c3<|Ne.symm a2,A.ob.ln,A.ob.tr,ym _ _ hd,A.ob.sz⟩,A.eM,A.ap,k G.he d2<|Ne.symm a3,A.le,A.ea,A.e0,G.By bb,A.en,k G.hb e1<|Ne.symm a4,A.lb,λi x N=>k (G.hk i x N) (λz=>g1 (by rw[<-z];exact zak N))<|λz=>a6 (by rw[<-z];exact zak N),by rw[aF<|Ne.symm a5];exact hg,by show(((here::f).zip f).foldl (gK pars) g).length=_;rw[GD];exact A.nH⟩
end
def g7(R:Nat->Nat->Prop):List Nat->Prop
 |a::b::r=>R a b/\g7 R (b::r)
 |_=>True
theorem GR{r:List Nat}:∀(l:List Nat),g7 R (l++[m])->g7 R (m::r)->g7 R (l++m::r)
 |[],_,h=>h
 |[a],h,c=>⟨h.1,c⟩
 |a::b::l,h,c=>⟨h.1,GR (b::l) h.2 c⟩
theorem afE(b:R m k):∀(l:List Nat),g7 R (l++[m])->g7 R (l++[m]++[k]):=λl h=>by
 rw[zam];exact GR l h ⟨b,trivial⟩
theorem GS:∀(p:List Nat),g7 R (p++x)->g7 R x
 |[],h=>h
 |[a],h=>by cases x with
  |nil=>trivial
  |cons b r=>exact h.2
 |a::b::p,h=>GS (b::p) h.2
theorem BE:∀(l:List Nat),g7 R l->g7 (λa b=>R b a) l.reverse
 |[],_=>trivial
 |[a],_=>trivial
 |a::b::r,h=>by
  have c:=BE (b::r) h.2;rw[zaQ] at c⊢;rw[zaQ];exact afE (R:=λa b=>R b a) h.1 r.reverse c
theorem GU{S:Nat->Nat->Prop}(h:∀a b,R a b->S a b):∀(l:List Nat),g7 R l->g7 S l
 |[],_=>trivial
 |[a],_=>trivial
 |a::b::r,k=>⟨h _ _ k.1,GU h (b::r) k.2⟩
theorem Pr:∀(l:List Nat),g7 R l->∀i n m,l[i]?=some n->l[i+1]?=some m->R n m
 |[],_,i,n,m,h,_=>by simp at h
 |[a],_,i,n,m,_,h=>by simp at h
 |a::b::r,k,0,n,m,h,c=>by simp at h c;subst h c;exact k.1
 |a::b::r,k,i+1,n,m,h,c=>Pr (b::r) k.2 i n m (by simpa using h) (by simpa using c)
section
variable{pars:List (Option Nat)}
theorem GV(T:eW pars):∀n,n<pars.length->g7 (λa b=>pars[a]?=some (some b)) (ups pars n n)/\(∀k∈ups pars n n,k<pars.length)/\(∃r,ups pars n n=n::r)/\∃q,ups pars n n=q++[0]:=by
 intro n;induction n using Nat.strongRecOn with
 |ind n f=>
  intro c;by_cases z:n=0;subst z;exact⟨trivial,λk h=>by cases zab.mp h;exact c,⟨[],O⟩,⟨[],O⟩⟩;obtain⟨j,g,t,e⟩:=pE T (za1 z) c;obtain⟨d,l,⟨r,m⟩,⟨q,p⟩⟩:=f j t (za2 t c);rw[e];refine⟨?_,λk h=>?_,⟨_,O⟩,⟨n::q,p▸O⟩⟩;rw[m] at d⊢;exact⟨g,d⟩;rcases zac.mp h with rfl|h
  exact c;exact l k h
theorem afF:∀(x y:List Nat)(m:Nat)(xs ys:List Nat),x=m::xs->y=m::ys->∃d u f p q,strip x y=(d::u,d::f)/\x=p++d::u/\y=q++d::f:=by
 intro x;induction x with
 |nil=>intro y m xs ys h;cases h
 |cons a as k=>
  intro y m xs ys r l;cases r;subst l;match as,ys,k with
  |[],ys,_=>exact⟨a,[],ys,[],[],OR a _,O,O⟩
  |b::g,[],_=>exact⟨a,b::g,[],[],[],OS _ a,O,O⟩
  |b::g,c::cs,k=>
   by_cases z:b=c;subst z;obtain⟨d,u,f,p,q,zq⟩:=qx5 (k (b::cs) b g cs O O);obtain⟨e,w,t⟩:=qa3 zq;exact⟨d,u,f,a::p,a::q,by rw[strip_eq,e],w▸O,t▸O⟩;exact⟨a,b::g,c::cs,[],[],OT z,O,O⟩
theorem GW(T:eW pars){d:Nat}(E:n<pars.length)(G:d<pars.length):∃(u v:List Nat)(m:Nat),kT pars n d=u++m::v/\(∃p,ups pars n n=u++m::p)/\(∃p,ups pars d d=v.reverse++m::p)/\g7 (iY pars) (kT pars n d)/\(∃r,kT pars n d=n::r)/\(∃q,kT pars n d=q++[d])/\(∀k∈kT pars n d,k<pars.length)/\u.length+v.length<=n+d:=by
 obtain⟨Z,I,⟨r1,g⟩,⟨X,U⟩⟩:=GV T n E;obtain⟨F,B,⟨r2,t⟩,⟨V,J⟩⟩:=GV T d G;obtain⟨m,xs,ys,p,q,zq⟩:=qx5 (afF (ups pars n n).reverse (ups pars d d).reverse 0 X.reverse V.reverse (by rw[U,zca];rfl) (by rw[J,zca];rfl));obtain⟨es,N,K⟩:=qa3 zq;have w:kT pars n d=xs.reverse++m::ys:=by
  unfold kT;rw[es];rw[zaQ,zam];rfl
 have f:=by
  have:=congrArg List.reverse N;rw[zbx,zca,zaQ,zam] at this;exact this
 have l:=by
  have:=congrArg List.reverse K;rw[zbx,zca,zaQ,zam] at this;exact this
 have Y:g7 (iY pars) (xs.reverse++[m]):=by
  have x:=GS p (N▸BE _ Z);have:=BE _ x;rw[zaQ] at this;exact GU (λa b h=>.inr h) _ this
 have W:g7 (iY pars) (m::ys):=GU (λa b h=>.inl h) _ (GS q (K▸BE _ F));have R:=Bt T n E;have P:=Bt T d G;rw[f] at R;rw[l] at P;simp at R P;refine⟨xs.reverse,ys,m,w,⟨_,f⟩,⟨_,l⟩,w▸GR _ Y W,?_,?_,?_,by rw[zba];lia⟩;rw[f] at g;rw[w];cases x:xs.reverse with
 |nil=>rw[x] at g;cases g;exact⟨_,O⟩
 |cons a b=>rw[x] at g;cases g;exact⟨_,O⟩
 rw[l] at t;rw[w];cases A:ys.reverse with
 |nil=>
  have:=List.reverse_eq_nil_iff.mp A;subst this;cases t;exact⟨_,O⟩
 |cons a b=>
  rw[A] at t;have:ys=b.reverse++[a]:=by rw[<-zbx ys,A,zaQ]
  cases t;exact⟨xs.reverse++m::b.reverse,by rw[this,zam];rfl⟩
 intro k c;rw[w] at c;rcases zad.mp c with c|c
 exact I k (f▸zav _ c);rcases zac.mp c with rfl|c
 exact I k (f▸zaw _ zau);exact B k (l▸zav _ (List.mem_reverse.mpr c))
end
section
variable{K:Frag}{C CN:Addr}
def pI(C:Addr)(H:Hp)(p:Addr)(M Ed:List Addr)(here d:Nat)(rest:List Nat)(pars:List (Option Nat))(aA:List (List Nat))(t:List (Option Nat))(T:Nat)(l r:List Nat)(Q:VK):Prop:=
 ∀(c:Addr)(ps:List Pt)(H':Hp),aN M H H'->H c=none->c∉M->bM H' c ps l r->B.aB ps<=T*rest.length->bQ C H' p M Ed d pars aA (BC pars (here::rest) t) T->Q (.ref c) H'
inductive vw(C CN:Addr)(vs:List V)(H:Hp)(Q:VK)(E:XK):Prop|i(p:Addr)(M Ed:List Addr)(here:Nat)(pars:List (Option Nat))(aA:List (List Nat))(t:List (Option Nat))(T:Nat)(_:vs=[.ref p])(_:bQ C H p M Ed here pars aA t T)(_:T<=14000)(_:((∃(j:Nat)(l r:List Nat),pars[here]?=some (some j)/\aA[here]?=some l/\aA[j]?=some r/\l.length<=100000/\pI C H p M Ed here j [j] pars aA t T l r Q)\/(here=0/\E (.ref CN) none H)))
inductive vx(C CN:Addr)(vs:List V)(H:Hp)(Q:VK)(E:XK):Prop|i(p:Addr)(M Ed:List Addr)(here:Nat)(pars:List (Option Nat))(aA:List (List Nat))(t:List (Option Nat))(T:Nat)(_:vs=[.ref p])(_:bQ C H p M Ed here pars aA t T)(_:T<=14000)(_:((∃(j:Nat)(l r:List Nat),t[here]?=some (some j)/\pars[j]?=some (some here)/\aA[here]?=some l/\aA[j]?=some r/\l.length<=100000/\pI C H p M Ed here j [j] pars aA t T l r Q)\/(t[here]?=some none/\E (.ref CN) none H)))
inductive BF(C:Addr)(vs:List V)(H:Hp)(Q:VK)(E:XK):Prop|i(p:Addr)(M Ed:List Addr)(here d:Nat)(pars:List (Option Nat))(aA:List (List Nat))(t:List (Option Nat))(T:Nat)(rest:List Nat)(l r:List Nat)(_:vs=[.ref p,.int d])(_:bQ C H p M Ed here pars aA t T)(_:d<pars.length)(_:kT pars here d=here::rest)(_:rest.length<=9000)(_:T*rest.length<=85000)(_:T<=14000)(_:aA[here]?=some l)(_:aA[d]?=some r)(_:l.length<=100000)(_:pI C H p M Ed here d rest pars aA t T l r Q)
theorem pI.same{k:List (Option Nat)}{l r:List Nat}(g:pI C H p M Ed here d rest pars aA k T l r Q)(s:ay H H1):pI C H1 p M Ed here d rest pars aA k T l r Q:=
 λc ps H' b f n h t x=>g c ps H' ((aN.of s).trans b) (s.free f) n h t x
theorem afG(X:fP K C):bO (vw C CN) (λE=>aI K [] [] [] [("along",C,tO C)] (et:=[("NoNode",CN)]) (E:=E)) LY m4:=by
 intro B H Q E h;obtain⟨p,M,Ed,here,pars,aA,t,T,rfl,⟨dx,lo,k,R,be,lg,V,es,A⟩,N,h⟩:=h;refine ZZ<|bf<|cB<|ag O ⟨p,C,dx,_,_,O,A.ob.ob,X.cl,X.gH,iW,aC<|eV ⟨_,O,?_⟩⟩;rcases h with⟨j,l,r,b,I,x,u,q⟩|⟨rfl,q⟩
 have J:here≠0:=λz=>by rw[z,A.ob.tr.rt] at b;cases b
 refine iF (cQ ?_)<|zqF (by lia);obtain⟨F,g,Z⟩:=A.ob.tr.up here (za1 J) A.ob.hr;rw[b] at g;cases g;refine dh<|gJ C (tO C) O<|ag O ⟨p,dx,_,O,A.ob.ob,cZ,cJ<|av<|cB<|ag O ⟨p,C,dx,_,_,O,A.ob.ob,X.cl,X.gH,iW,av<|bD<|cB<|ag O ⟨p,C,dx,_,_,O,A.ob.ob,X.cl,X.m5,pB,cB<|ag O ⟨p,C,dx,_,_,O,A.ob.ob,X.cl,X.gH,iW,cj A.ob.op (bZ (by rw[zaf,b];rfl))<|aH ⟨cK,λw f=>?_⟩⟩⟩⟩⟩;have c:=sameNew (o:=.lst (iV [here,j])) f;refine⟨p,M,Ed,here,j,pars,aA,t,T,w,[j],l,r,O,⟨dx,lo,k,R,be,lg,V,es,A.same c⟩,ar,A.live.no f,λi n m P d=>?_,λn G=>by cases zab.mp G;exact Nat.lt_trans Z A.ob.hr,(by simp),by show T*1<=_;lia,N,O,I,x,u,pI.same q c⟩;cases i with
 |zero=>cases P;cases d;exact .inr b
 |succ i=>simp at d
 exact iT ⟨cC,q⟩ O
theorem afH(X:fP K C):bO (vx C CN) (λE=>aI K [] [] [] [("along",C,tO C)] (et:=[("NoNode",CN)]) (E:=E)) L9 L8:=by
 intro B H Q E h;obtain⟨p,M,Ed,here,pars,aA,t,T,rfl,⟨dx,lo,x,V,be,lg,Z,es,A⟩,P,h⟩:=h;obtain⟨o,c⟩:∃o,t[here]?=some o:=⟨_,zay (A.nH▸A.ob.hr)⟩;refine bw<|bD<|cB<|ag O ⟨p,C,dx,_,_,O,A.ob.ob,X.cl,X.Aj,Gp,cB<|ag O ⟨p,C,dx,_,_,O,A.ob.ob,X.cl,X.gH,iW,cj A.hg (bZ (by rw[zaf,c];rfl)) ?_⟩⟩;rcases h with⟨j,l,r,g,f,N,I,G,q⟩|⟨b,q⟩
 rw[c] at g;cases g;refine ZZ<|bf<|ag O<|aC ⟨O,_,O,iF (cQ (dh<|gJ C (tO C) O<|ag O ⟨p,dx,_,O,A.ob.ob,cZ,cJ<|av<|cB<|ag O ⟨p,C,dx,_,_,O,A.ob.ob,X.cl,X.gH,iW,av<|ag O<|aH ⟨cK,λw u=>?_⟩⟩⟩)) O⟩;have d:=sameNew (o:=.lst (iV [here,j])) u;refine⟨p,M,Ed,here,j,pars,aA,t,T,w,[j],l,r,O,⟨dx,lo,x,V,be,lg,Z,es,A.same d⟩,ar,A.live.no u,λi n m R k=>?_,λn b=>by cases zab.mp b;exact ((zah.mp f).1),(by simp),by show T*1<=_;lia,P,O,N,I,G,pI.same q d⟩;cases i with
 |zero=>cases R;cases k;exact .inl f
 |succ i=>simp at k
 rw[c] at b;cases b;exact ZZ<|bf<|ag O<|aC ⟨O,_,O,iT ⟨cC,q⟩ O⟩
theorem afI(X:fP K C):bO (BF C) (λE=>aI K [] [] [] [("along",C,tO C),("way",C,yd C)] (E:=E)) L_ uI:=by
 intro vs H Q E h;obtain⟨p,M,Ed,here,d,pars,aA,b,T,t,l,r,rfl,⟨dx,lo,k,P,be,lg,bs,es,A⟩,I,ew,c,U,GG,J,B,Z,q⟩:=h;refine dh<|gJ C (tO C) O<|ag O ⟨p,dx,_,O,A.ob.ob,cZ,Br C (yd C) O<|ag O ⟨p,dx,_,O,A.ob.ob,cZ,cB<|ag O ⟨p,C,dx,_,_,O,A.ob.ob,X.cl,X.gH,iW,ag O ⟨p,dx,lo,k,P,be,lg,here,_,pars,here,d,O,A.ob,A.ob.hr,I,λw H1 g fw x=>?_⟩⟩⟩⟩;obtain⟨u,v,m,e1,_,_,N,_,⟨V,f⟩,G,_⟩:=GW A.ob.tr A.ob.hr I;rw[ew] at x N f G;have R:(here::t)[t.length]?=some d:=by
  rw[f];have:V.length=t.length:=by
   have:=congrArg List.length f;simp at this;lia
  rw[<-this];simp
 exact⟨p,M,Ed,here,d,pars,aA,b,T,w,t,l,r,O,⟨dx,lo,k,P,be,lg,bs,es,A.same g⟩,x,A.live.no fw,λi n m Y W=>Pr _ N i n m Y W,λn F=>G n<|zar _ F,c,U,GG,R,J,B,Z,pI.same q g⟩
variable{CP:Addr}
abbrev z1:List (Str×V):=[("here",.int 0)]
noncomputable abbrev z2(lo:Addr):List (Str×V):=[("here",.int 0),("lengths",.ref lo)]
noncomputable abbrev z3(lo p:Addr):List (Str×V):=[("here",.int 0),("lengths",.ref lo),("parents",.ref p)]
noncomputable abbrev z4(lo p d:Addr):List (Str×V):=[("here",.int 0),("lengths",.ref lo),("parents",.ref p),("edges",.ref d)]
noncomputable abbrev z5(lo p d be:Addr):List (Str×V):=[("here",.int 0),("lengths",.ref lo),("parents",.ref p),("edges",.ref d),("below",.ref be)]
inductive GX(C CP:Addr)(vs:List V)(H:Hp)(Q:VK)(E:XK):Prop|i(p dx:Addr)(v:V)(_:vs=[.ref p,v])(_:H p=some (.ins C dx []))(_:((∃(x:List Nat)(T:Nat),v=.int (x.length:Nat)/\∀(M:List Addr)(H':Hp),aR p H H'->(∀a∈M,a≠p->H a=none)->bQ C H' p M [] 0 [none] [x] [none] T->Q .aD H')\/((qG v H\/∃i:Int,v=.int i/\i<0)/\E (.ref CP) none H)))
theorem Px{a p:Addr}(b:aR p H H')(f:H' a=none)(n:a≠p):H a=none:=by
 cases h:H a with
 |none=>rfl
 |some o=>rw[b a o h n] at f;cases f
theorem yq{a:Addr}{d fs':List (Str×V)}(b1:aR p H H1)(f:H1 a=none)(g:H1 p=some (.ins C dx d)):a≠p/\H a=none/\aR p H (upd (upd H1 a<|.lst xs) p<|.ins C dx fs')/\upd (upd H1 a<|.lst xs) p (.ins C dx fs') p=some (.ins C dx fs')/\upd (upd H1 a<|.lst xs) p (.ins C dx fs') a=some (.lst xs)/\
  ∀c o,H1 c=some o->c≠p->c≠a/\upd (upd H1 a<|.lst xs) p (.ins C dx fs') c=some o:=by
 have n:a≠p:=λz=>by lia
 refine⟨n,Px b1 f n,(b1.same<|sameNew f).trans aR.upd,ar,br n ar,λc o e b=>⟨λz=>(by lia),br b<|sameNew f _ _ e⟩⟩
theorem afJ(X:fP K C):bO (GX C CP) (λE=>aI K [("is_whole",qH)] [] (et:=[("NoPlace",CP)]) (E:=E)) LQ LP:=by
 intro vs H Q E h;obtain⟨p,dx,v,rfl,hp,h⟩:=h;rcases h with⟨x,T,rfl,q⟩|⟨J,q⟩
 refine ZZ (vg<|kS<|nE qH O<|av<|ag O<|aH ⟨_,O,.inl ⟨_,O,mi<|iF (bf<|ag O<|aC<|ltI ⟨_,O,iF (cQ ?_)<|zqF (Int.not_lt_of_ge (za6 _))⟩) O⟩⟩);refine nF<|aC<|ag O ⟨p,C,dx,_,O,hp,X.cl,X.gH,(by show 0<1000;decide),?_⟩;rw[show cx "here" (V.int 0) []=z1 from O];have b1:aR p H (upd H p<|.ins C dx z1):=aR.upd;have u:upd H p (.ins C dx z1) p=some (.ins C dx z1):=ar;generalize upd H p (.ins C dx z1)=H1 at b1 u⊢;refine nF<|cJ<|av<|ag O<|aH ⟨cC,λlo f2=>ag O ⟨p,C,dx,_,O,br (λz=>by lia) u,X.cl,X.sJ,(by show 1<1000;decide),?_⟩⟩;have e2:cx "lengths" (V.ref lo) (z1)=z2 lo:=rfl;rw[e2];obtain⟨A,r2,b2,t,l2,w2⟩:=qa6 (yq (fs':=z2 lo) b1 f2 u);clear w2;generalize upd (upd H1 lo<|.lst [V.int (x.length:Nat)]) p (.ins C dx<|z2 lo)=H2 at b2 t l2⊢;refine nF<|cJ<|av<|aC<|aH ⟨cC,λc f3=>ag O ⟨p,C,dx,_,O,br (λz=>by lia) t,X.cl,X.m5,(by show 2<1000;decide),?_⟩⟩;have e3:cx "parents" (V.ref c) (z2 lo)=z3 lo c:=rfl;rw[e3];obtain⟨N,r3,b3,m,l3,w3⟩:=qa6 (yq (fs':=z3 lo c) (xs:=[V.aD]) b2 f3 t);obtain⟨l',Py⟩:=w3 _ _ l2 A;clear w3;generalize upd (upd H2 c<|.lst [V.aD]) p (.ins C dx<|z3 lo c)=H3 at b3 m l3 Py⊢;refine nF<|cJ<|av<|aC<|aH ⟨cC,λd f4=>ag O ⟨p,C,dx,_,O,br (λz=>by rw[z,f4] at m;cases m) m,X.cl,X.m6,(by show 3<1000;decide),?_⟩⟩;have e4:cx "edges" (V.ref d) (z3 lo c)=z4 lo c d:=O;rw[e4];obtain⟨F,r4,Y,G,P,B⟩:=qa6 (yq (fs':=z4 lo c d) (xs:=[V.aD]) b3 f4 m);obtain⟨k',Z⟩:=B _ _ Py A;obtain⟨j',R⟩:=B _ _ l3 N;clear B;generalize upd (upd H3 d<|.lst [V.aD]) p (.ins C dx<|z4 lo c d)=H4 at Y G P Z R⊢;refine nF<|cJ<|av<|cJ<|aH ⟨HP,λb g=>aH ⟨cC,λbe W=>?_⟩⟩;have I:b≠p:=λz=>by lia
 have rb:=Px Y g I;have f:=sameNew (o:=.lst []) g;have Pz:=Y.same f;have r:=f _ _ G;have PB:upd H4 b (.lst []) b=some (.lst []):=ar;have ul:lo≠b:=λz=>by rw[z,g] at Z;cases Z
 have up:c≠b:=λz=>by rw[z,g] at R;cases R
 have ue:d≠b:=λz=>by rw[z,g] at P;cases P
 have PD:=f _ _ Z;have PF:=f _ _ R;have PH:=f _ _ P;generalize upd H4 b (.lst [])=H4' at Pz r PB PD PF PH W f⊢;refine(ag O ⟨p,C,dx,_,O,br (λz=>by rw[z,W] at r;cases r) r,X.cl,X.Ai,(by show 4<1000;decide),?_⟩);have e5:cx "below" (V.ref be) (z4 lo c d)=z5 lo c d be:=O;rw[e5];obtain⟨n5,r5,b5,l,l5,k⟩:=qa6 (yq (xs:=[V.ref b]) Pz W r);obtain⟨i',PJ⟩:=k _ _ PD A;obtain⟨h',PK⟩:=k _ _ PF N;obtain⟨g',PL⟩:=k _ _ PH F;obtain⟨f',PM⟩:=k _ _ PB I;clear k;generalize upd (upd H4' be<|.lst [V.ref b]) p (.ins C dx<|z5 lo c d be)=H5 at b5 l l5 PJ PK PL PM⊢;refine nF<|cJ<|av<|aC<|aH ⟨cC,λlg f6=>ag O ⟨p,C,dx,_,O,br (λz=>by rw[z,f6] at l;cases l) l,X.cl,X.Aj,(by show 5<1000;decide),?_⟩⟩;have e6:cx "last_gone" (V.ref lg) (z5 lo c d be)=h6 (0:Nat) lo c d be lg:=O;rw[e6];obtain⟨n6,r6,b6,o6,l6,w⟩:=qa6 (yq (xs:=[V.aD]) b5 f6 l);obtain⟨e',PN⟩:=w _ _ PJ A;obtain⟨d',PQ⟩:=w _ _ PK N;obtain⟨c',PR⟩:=w _ _ PL F;obtain⟨b',PU⟩:=w _ _ PM I;obtain⟨a',PV⟩:=w _ _ l5 n5;clear w;generalize upd (upd H5 lg<|.lst [V.aD]) p (.ins C dx<|h6 (0:Nat) lo c d be lg)=H6 at b6 o6 l6 PN PQ PR PU PV⊢;refine q [p,lo,c,d,be,lg,b] H6 b6 (λa ha na=>?_) ⟨dx,lo,c,d,be,lg,[b],[V.aD],⟨o6,PN,PQ,O,⟨O,λi h0 U=>?_⟩,Nat.zero_lt_one,(by show 1<=100000;decide)⟩,O,⟨?_⟩,PR,O,O,O,λi j e=>?_,λi a e=>?_,PV,O,λi a e=>?_,l6,O⟩;simp at ha;rcases ha with rfl|rfl|rfl|rfl|rfl|rfl|rfl
 exact absurd O na;exact r2;exact r3;exact r4;exact r5;exact r6;exact rb;exact absurd U (by show ¬i<1;exact zb4 (zb0 h0));simp;exact⟨⟨Ne.symm A,Ne.symm N,Ne.symm F,Ne.symm n5,Ne.symm n6,Ne.symm I⟩,⟨l',k',i',e',ul⟩,⟨j',h',d',up⟩,⟨g',c',ue⟩,⟨a',Ne.symm f'⟩,Ne.symm b'⟩;cases i with
 |zero=>cases e
 |succ i=>simp at e
 cases i with
 |zero=>cases e
 |succ i=>simp at e
 cases i with
 |zero=>cases e;exact PU
 |succ i=>simp at e
 rcases J with J|⟨i,rfl,U⟩
 exact ZZ (vg<|kS<|nE qH O<|av<|ag O<|aH ⟨_,O,.inr ⟨J,mi<|iT (iT ⟨cC,q⟩ O) O⟩⟩);exact ZZ (vg<|kS<|nE qH O<|av<|ag O<|aH ⟨_,O,.inl ⟨_,O,mi<|iF (bf<|ag O<|aC<|ltI ⟨_,O,iT ⟨cC,q⟩<|zqT U⟩) O⟩⟩)
end
end L2.N
namespace L2.B
open PySem PySem.Spec PyProof.Rows
end L2.B
namespace L2.N
open PySem PySem.Spec L2.B
section
variable{K:Frag}
theorem afX{T:Ty}{z:Int}{k:Bool->Prop}(q:k (T==.int)):cp T (.int z) H k:=q
theorem PX{T:Ty}{z:Str}{k:Bool->Prop}(q:k (T==.str)):cp T (.str z) H k:=q
variable{pars:List (Option Nat)}
theorem BI(T:eW pars):∀n,n<pars.length->∀k∈ups pars n n,k<=n:=by
 intro n;induction n using Nat.strongRecOn with
 |ind n b=>
  intro c k h;by_cases z:n=0;subst z;cases zab.mp h;exact zqR _;obtain⟨j,f,d,e⟩:=pE T (za1 z) c;rw[e] at h;rcases zac.mp h with rfl|h
  exact zqR _;have:=b j d (za2 d c) k h;exact zby (zb2 this d)
end
noncomputable def g8(pars:List (Option Nat))(p:Nat×Nat):Nat×Nat:=if pars[p.2]?=some (some p.1) then (p.1,p.2) else (p.2,p.1)
def kd(l:List (Option Nat))(p:Nat×Nat):List (Option Nat):=l.set p.1 (some p.2)
noncomputable def PY(pars:List (Option Nat))(b:List Nat)(l:List (Option Nat)):List (Option Nat):=(b.zip b.tail).foldl (λl p=>kd l<|g8 pars p) l
structure cR(pars:List (Option Nat))(here:Nat)(lat las:List (Option Nat)):Prop where
 ll:lat.length=pars.length
 ls:las.length=pars.length
 up:∀(a b:Nat),a∈ups pars here here->pars[a]?=some (some b)->lat[b]?=some (some a)
 no:∀(i:Nat),i∉ (ups pars here here).tail->lat[i]?=las[i]?
 ok:∀(i k:Nat),las[i]?=some (some k)->pars[k]?=some (some i)
section
variable{pars:List (Option Nat)}
theorem BJ(T:eW pars)(h:pars[n]?=some (some j)):ups pars n n=n::ups pars j j/\j<n:=by
 have f:n≠0:=λz=>by rw[z,T.rt] at h;cases h
 obtain⟨d,b,c,e⟩:=pE T (za1 f) ((zah.mp h).1);rw[h] at b;cases b;exact⟨e,c⟩
theorem eP(T:eW pars)(h:pars[n]?=some (some j)):j<n/\n<pars.length:=⟨(BJ T h).2,(zah.mp h).1⟩
theorem BK(T:eW pars)(h:n<pars.length):∃r,ups pars n n=n::r/\∀k∈r,k<n:=by
 by_cases z:n=0;subst z;exact⟨[],O,nofun⟩;obtain⟨j,c,d,e⟩:=pE T (za1 z) h;exact⟨_,e,λk b=>by have:=BI T j (za2 d h) k b;exact zb2 this d⟩
theorem cR.move(T:eW pars)(R:cR pars here lat las)(m:here<pars.length)(h:iY pars here n):cR pars n (kd lat<|g8 pars (here,n)) (gK pars las (here,n)):=by
 rcases h with h|h
 
 obtain⟨e,E⟩:=BJ T h;have u:g8 pars (here,n)=(here,n):=by unfold g8;rw[if_pos h]
 have t:gK pars las (here,n)=las:=by
  unfold gK;rw[if_neg];intro z;have:=(eP T z).1;exact (zaC _ (za2 this E)).elim
 rw[u,t];unfold kd;refine⟨by rw[zaS];exact R.ll,R.ls,λa b c f=>?_,λi g=>?_,R.ok⟩;rw[e] at c;rcases zac.mp c with rfl|c
 rw[h] at f;cases f;simp[R.ll,m];have A:b<here:=by
  have:=BI T here m a c;have:=(eP T f).1;lia
 rw[zaA (zaD A)];exact R.up a b c f;rw[e] at g;have w:=g;obtain⟨r,p,_⟩:=BK T m;have x:here≠i:=λz=>w (by rw[p,z];exact zau);rw[zaA x];exact R.no i λz=>w (zcg z)
 
 obtain⟨e,E⟩:=BJ T h;have u:g8 pars (here,n)=(n,here):=by
  unfold g8;rw[if_neg];intro z;have:=(eP T z).1;exact (zaC _ (za2 this E)).elim
 have t:gK pars las (here,n)=las.set n (some here):=by unfold gK;rw[if_pos h]
 rw[u,t];unfold kd;have l:n<pars.length:=za2 E m
 obtain⟨r,p,G⟩:=BK T l;refine⟨by rw[zaS];exact R.ll,by rw[zaS];exact R.ls,λa b c f=>?_,λi g=>?_,λi k d=>?_⟩;have A:b<n:=by
  have:=BI T n l a c;have:=(eP T f).1;lia
 rw[zaA (zaD A)];exact R.up a b (e▸zar _ c) f;by_cases z:n=i;subst z;simp[R.ll,R.ls,l];rw[zaA z,zaA z];refine R.no i λq=>?_;rw[e] at q;rw[p] at q g;rcases zac.mp q with q|q
 exact z q.symm;exact g q;by_cases z:n=i;subst z;rw[zaR] at d;simp[R.ls,l] at d;rw[<-d];exact h;rw[zaA z] at d;exact R.ok i k d
theorem cR.path(T:eW pars):∀(rest:List Nat)(here:Nat)(lat las:List (Option Nat)),cR pars here lat las->here<pars.length->(∀k∈rest,k<pars.length)->g7 (iY pars) (here::rest)->∃d,(here::rest)[rest.length]?=some d/\cR pars d (PY pars (here::rest) lat) (BC pars (here::rest) las)
 |[],here,lat,las,R,_,_,_=>⟨here,O,R⟩
 |n::rest,here,lat,las,R,f,b,c=>by
  obtain⟨d,g,l⟩:=cR.path T rest n _ _ (R.move T f c.1) (b n zau) (λk h=>b k<|zar _ h) c.2;refine⟨d,by simpa using g,?_⟩;exact l
theorem PZ:∀(ps:List (Nat×Nat))(l:List (Option Nat)),(ps.foldl (λl p=>kd l<|g8 pars p) l).length=l.length
 |[],_=>O
 |p::ps,l=>by rw[zbC,PZ ps];unfold kd;rw[zaS]
end
section
variable{K:Frag}{C CN:Addr}
theorem fA.m0(A:fA C H p dx lo f g be lg here bB pars){m:Str}{sp:Sp}(c:Γ.ms j=(C,sp))(d:σ[i]?=some (some<|.ref p))(h:sp [.ref p] H Q Γ.E)(b:mr.all (λx=>decide<|¬m=x)=true:=by decide+kernel):ah Γ (.aU j m (.v i) []) σ H Q:=
 j6 C sp c (ag d ⟨p,dx,_,O,A.ob,cZ b,h⟩)
theorem fA.m1(A:fA C H p dx lo f g be lg here bB pars){m:Str}{sp:Sp}(c:Γ.ms j=(C,sp))(d:σ[i]?=some (some<|.ref p))(h:ah Γ a σ H λy H2=>sp [.ref p,y] H2 Q Γ.E)(b:mr.all (λx=>decide<|¬m=x)=true:=by decide+kernel):ah Γ (.aU j m (.v i) [a]) σ H Q:=
 gJ C sp c (ag d ⟨p,dx,_,O,A.ob,cZ b,h⟩)
theorem fA.m2(A:fA C H p dx lo k l be lg here bB pars){m:Str}{sp:Sp}{b:RE}(d:Γ.ms j=(C,sp))(f:σ[i]?=some (some<|.ref p))(h:ah Γ a σ H λy H2=>ah Γ b σ H2 λz g=>sp [.ref p,y,z] g Q Γ.E)(c:mr.all (λx=>decide<|¬m=x)=true:=by decide+kernel):ah Γ (.aU j m (.v i) [a,b]) σ H Q:=
 Br C sp d (ag f ⟨p,dx,_,O,A.ob,cZ c,h⟩)
variable{pars:List (Option Nat)}
theorem afY(T:eW pars){h:Nat}(g:h<pars.length):∀k,k<pars.length->ups (pars++[some h]) k k=ups pars k k:=by
 intro k;induction k using Nat.strongRecOn with
 |ind k d=>
  intro b;by_cases z:k=0;subst z;rfl;obtain⟨j,f,m,e⟩:=pE T (za1 z) b;obtain⟨p,c,_,l⟩:=pE (Gx T g) (n:=k) (za1 z) (by rw[zqA];exact zbR b);rw[zax b,f] at c;cases c;rw[e,l,d j m (za2 m b)]
theorem cR.new(T:eW pars)(R:cR pars here lat las)(c:here<pars.length):cR (pars++[some here]) pars.length ((lat++[none]).set here<|some pars.length) (las++[none]):=by
 have q:(pars++[some here])[pars.length]?=some (some here):=by simp
 obtain⟨e,_⟩:=BJ (Gx T c) q;rw[afY T c here c] at e;have m:=R.ll;have l:=R.ls;refine⟨by rw[zaS,zqA,zqA,m];rfl,by rw[zqA,zqA,l];rfl,λa b d f=>?_,λi g=>?_,λi k h=>?_⟩;rw[e] at d;rcases zac.mp d with rfl|d
 rw[q] at f;cases f;rw[zaR];simp;lia;rw[zax ((GV T here c).2.1 a d)] at f;have A:=eP T f;have u:=BI T here c a d;rw[zaA (by lia),zax (by lia)];exact R.up a b d f;rw[e] at g;obtain⟨r,x,_⟩:=BK T c;have t:here≠i:=λz=>g (by rw[x,z];exact zau);rw[zaA t];by_cases w:i<pars.length;rw[zax (by lia),zax (by lia)];exact R.no i λz=>g (zcg z);rw[zaW (by lia),zaW (by lia),m,l];by_cases w:i<pars.length;rw[zax (by lia)] at h;have:=R.ok i k h;rw[zax (zah.mp this).1];exact this;rw[zaW (by lia)] at h;cases p:i - las.length with
 |zero=>rw[p] at h;cases h
 |succ z=>rw[p] at h;simp at h
theorem afZ{x y:RE}(h:bg Γ [x,y] σ H λvs H1=>∃a b,vs=[.ref a,.ref b]/\(∃xs,au Γ.K H1 a xs)/\(∃ys,au Γ.K H1 b ys)/\∃c:Nat->Nat->St->Hp->Prop,(∃m,c 0 m σ H1)/\∀j m σ H,c j m σ H->
  ((lF Γ.K a b).stop j H/\({D with nx:=az Γ r D}:Ends).nx σ H)\/((lF Γ.K a b).go j H/\∃N:St->Hp->Prop,(∀d H',N d H'->∃k,k<m/\c (j+1) k d H')/\∀x H',(lF Γ.K a b).hZ j H x H'->r9 Γ.K g.length (qm g) x σ H' λf H2=>az Γ body {({D with nx:=az Γ r D}:Ends) with nx:=N,ct:=N,bk:=({D with nx:=az Γ r D}:Ends).nx} f H2)):
  az Γ (.lE g .zip [x,y] body::r) D σ H:=h
theorem af0{a b:Addr}{ys:List V}{g:TG}{t:TS}(R:ys.length<=xs.length)(P:Nat->St->Hp->Prop)(G:P 0 σ H)(A:∀i σ H,P i σ H->au K H a xs/\au K H b ys)(u:∀i x y σ H T,xs[i]?=some x->ys[i]?=some y->P i σ H->H T=none->g (.ref T) σ (upd H T<|.tup [x,y]) λd H2=>t {D with nx:=P (i+1),ct:=P (i+1),bk:=D.nx} d H2)(w:∀σ H,P ys.length σ H->D.nx σ H):
  ∃c:Nat->Nat->St->Hp->Prop,(∃m,c 0 m σ H)/\∀i m σ H,c i m σ H->
   ((lF K a b).stop i H/\D.nx σ H)\/((lF K a b).go i H/\∃N:St->Hp->Prop,(∀f H',N f H'->∃k,k<m/\c (i+1) k f H')/\∀x H',(lF K a b).hZ i H x H'->g x σ H' λd H2=>t {D with nx:=N,ct:=N,bk:=D.nx} d H2):=by
 refine⟨λi m σ H=>m=ys.length - i/\i<=ys.length/\P i σ H,⟨ys.length,O,zqZ _,G⟩,?_⟩;rintro i m σ H ⟨rfl,X,p⟩;obtain⟨h,q⟩:=A i σ H p;by_cases l:i<ys.length;have I:i<xs.length:=zaq l R
 refine .inr ⟨⟨xs,ys,h,q,I,l⟩,P<|i+1,λf H' r=>⟨ys.length - (i+1),by lia,O,l,r⟩,λx H' y=>?_⟩;obtain⟨T,E,rfl,y⟩:=y;have e:=y xs ys xs[i] ys[i] h q (by simp) (by simp);subst e;exact u i xs[i] ys[i] σ H T (by simp) (by simp) p E;have e:i=ys.length:=za5 X (za4 l)
 subst e;exact .inl ⟨⟨xs,ys,h,q,by lia⟩,w σ H p⟩
end
end L2.N
namespace L2.B
open PySem PySem.Spec PyProof.Rows
noncomputable def GY:List Str:=["self","change","edges","gets","ahead","node","other","pair"]
noncomputable def GZ:List RS:=
 [.drop (.aU 0 "need_over" (.v 0) [.v 1]),
 .asg 2 (.blt .list [(.fld (.v 0) "edges")]),
 .asg 3 (.xt sG [(.fld (.v 0) "here"),.v 1]),
 .asg 4 (.lst [(.fld (.v 0) "here")]),
 .mQ (.cmp .Gt (.blt .len [.v 4]) (.c (.int 0))) [.asg 5 (.bE .pop (.v 4) []),
  .ko 6 .list [(.aU 1 "neighbours" (.v 0) [.v 5])] [.ite (.uo (.v 6) (.v 3)) [.cont] [],
   .asg 7 (.call 0 [(.bI (.v 3)<|.v 5),(.aU 2 "edge" (.v 0) [.v 5,.v 6])]),
   .dput (.v 3) (.v 6) (.ix (.v 7)<|.c<|.int 0),
   .drop (.bE .append (.v 4) [.v 6]),
   .ite (.cmp .Eq (.ix (.fld (.v 0) "parents") (.v 6)) (.v 5)) [.set (.v 2) (.v 6) (.ix (.v 7) (.c (.int 1)))] [.set (.v 2) (.v 5) (.call 1 [(.ix (.v 7) (.c (.int 1)))])]]],
 .fI (.v 0) "edges" (.v 2),
 .fI (.v 0) "lengths" (.comp none [("gets",3)] .gc [(.aU 3 "many" (.v 0) [])] none (.ix (.call 2 [(.bI (.v 1) (.v 0))]) (.c (.int 1))))]
def af1:List Str:=["passed","back","sizes"]
def af2:List Str:=["list","len","range"]
def af3:List Str:=["need_over","neighbours","edge","many"]
end L2.B
namespace L2.N
open PySem PySem.Spec L2.B
theorem af4{q:Pt}(h:p.word=q.word)(d:p.val=q.val):p=q:=by
 have a:¬("keep":Str)="put":=by decide+kernel
 have b:¬("keep":Str)="cut":=by decide+kernel
 have c:¬("put":Str)="cut":=by decide+kernel
 cases p<;>cases q<;>first
  |exact absurd h a|exact absurd h.symm a|exact absurd h b|exact absurd h.symm b|exact absurd h c|exact absurd h.symm c
  |(injection d with d;rw[d])
theorem P0:∀{xs:List V}{ps qs:List Pt},aQ H xs ps->aQ H xs qs->ps=qs:=by
 intro xs ps qs h;induction h generalizing qs with
 |nil=>intro k;cases k;rfl
 |cons x _ i=>
  intro k;cases k with
  |cons y d=>
   obtain⟨a,e,h⟩:=x;obtain⟨a',e',h'⟩:=y;rw[e] at e';cases e';rw[h] at h';injection h' with h';injection h' with h';injection h' with w h';injection w with w;injection h' with x _;rw[af4 w x,i d]
def yt(H:Hp)(Ed:List Addr)(b:Nat->List Pt->Prop):Prop:= ∀(i:Nat)(a:Addr),Ed[i]?=some a->∃xs ps,H a=some (.lst xs)/\aQ H xs ps/\b (i+1) ps
section
variable{C:Addr}{H H':Hp}{p:Addr}{M Ed:List Addr}{here:Nat}{pars:List (Option Nat)}{aA:List (List Nat)}{last:List (Option Nat)}{T:Nat}{dx lo pa ed be lg:Addr}{bs:List Addr}{es:List V}{J:Nat->List Pt->Prop}
theorem P2:∀(es:List V),(∀v∈es,∃a,v=V.ref a)->es=(qU es).map V.ref
 |[],_=>O
 |v::r,h=>by
  obtain⟨a,rfl⟩:=h v (.head _);have:=P2 r λw b=>h w (.tail _ b);show V.ref a::r=V.ref a::(qU r).map V.ref;rw[<-this]
theorem fY.G0(A:fY C H p M Ed here pars aA last T dx lo pa ed be lg bs es):es=V.aD::Ed.map V.ref:=by
 have c:=A.e0;cases es with
 |nil=>cases c
 |cons v r=>
  have:=zal c;subst this;have f:∀w∈r,∃a,w=V.ref a:=λw d=>by
   obtain⟨i,h⟩:=zaV.mp d;have l:i+1<pars.length:=by
    have:=A.le;have q:=(zah.mp h).1;rw[zao] at this;lia
   obtain⟨j,g,_⟩:=A.ob.tr.up (i+1) (zb7 _) l;obtain⟨a,ps,k,m,b,_⟩:=A.ev (i+1) j g;rw[zbc,h] at b;exact⟨a,zal b⟩
  rw[P2 r f];have:=A.ea;rw[<-this];rfl
def yu(H:Hp)(es:List V)(pars:List (Option Nat))(aA:List (List Nat))(T:Nat)(J:Nat->List Pt->Prop):Prop:= ∀(i j:Nat),pars[i]?=some (some j)->∃(a:Addr)(ps:List Pt)(l b:List Nat),es[i]?=some (V.ref a)/\aA[j]?=some l/\aA[i]?=some b/\bM H a ps l b/\B.aB ps<=T/\J i ps
theorem fY.edj(A:fY C H p M Ed here pars aA last T dx lo pa ed be lg bs es)(E:yt H Ed J):yu H es pars aA T J:=λi j e=>by
 obtain⟨a,ps,l,d,zq⟩:=qx4 (A.ev i j e);obtain⟨h,u,t,⟨xs,c,b,w⟩,r⟩:=qa5 zq;refine⟨a,ps,l,d,h,u,t,⟨xs,c,b,w⟩,r,?_⟩;have g:=h;rw[A.G0] at g;cases i with
 |zero=>cases g
 |succ i=>
  rw[zbc,zaf] at g;obtain⟨I,m,x⟩:=zaY.mp g;cases x;obtain⟨ys,G,k,q,f⟩:=E i a m;rw[c] at k;cases k;rw[P0 b q];exact f
end
section
variable{K:Frag}{C CF:Addr}
inductive G1(C:Addr)(vs:List V)(H:Hp)(Q:VK)(E:XK):Prop|i(p dx lo g d be lg:Addr)(here:Nat)(bB:List Nat)(pars:List (Option Nat))(es:List V)(aA:List (List Nat))(T n m:Nat)(ln l:List Nat)(b:Nat->List Pt->Prop)(_:vs=[.ref p,.int n,.int m])(_:fA C H p dx lo g d be lg here bB pars)(_:H d=some (.lst es))(_:yu H es pars aA T b)(_:T<=14000)(_:aA[n]?=some ln)(_:aA[m]?=some l)(_:m<pars.length)(_:(pars[m]?=some (some n)\/(pars[m]?≠some (some n)/\pars[n]?=some (some m))))(_:∀(c:Addr)(ps:List Pt)(H':Hp),ay H H'->bM H' c ps ln l->B.aB ps<=T->(pars[m]?=some (some n)/\b m ps\/pars[n]?=some (some m)/\∃f,b n f/\ps=bk f)->Q (.ref c) H')
theorem af6(T:fP K C):bO (G1 C) (λE=>aI K [("back",o7)] [] (E:=E)) EB EA:=by
 intro B H Q E h;obtain⟨p,dx,lo,F,ed,be,lg,here,bB,pars,es,aA,t,n,m,J,U,b,rfl,A,I,N,W,w,x,Z,d,q⟩:=h;have G:=zay Z;refine dh<|F9<|bf<|bD<|cB<|ag O ⟨p,C,dx,_,_,O,A.ob,T.cl,T.m5,pB,ag O<|cj A.op (bZ (by rw[zaf,G];rfl))<|ag O<|yg ⟨_,O,?_⟩⟩;by_cases z:pars[m]=some n;refine iT ?_ (zqT z);rw[z] at G;obtain⟨a,ps,R,V,r,k,g,f,P,l⟩:=N m n G;rw[w] at k;cases k;rw[x] at g;cases g;exact bD<|cB<|ag O ⟨p,C,dx,_,_,O,A.ob,T.cl,T.m6,qR,ag O<|cj I (bZ r)<|q a ps H (ay.refl _) f P<|.inl ⟨G,l⟩⟩;refine iF ?_ (zqF z);have u:pars[n]?=some (some m):=by
  rcases d with d|d
  rw[G] at d;exact absurd (zal d) z;exact d.2
 obtain⟨a,ps,R,V,zq⟩:=qx4 (N n m u);obtain⟨r,k,g,f,P,l⟩:=qa6 zq;rw[x] at k;cases k;rw[w] at g;cases g;have cl:=j7 ps "" f.chg.ok f.chg.ch;have Y:=(f.chg.bk (by lia)).2;refine b_ o7 O<|av<|bD<|cB<|ag O ⟨p,C,dx,_,_,O,A.ob,T.cl,T.m6,qR,ag O<|cj I (bZ r)<|aH<|F6 f (by lia) (by lia) λc H' s fc X=>q c _ H' s X ?_ (.inr ⟨u,ps,l,O⟩)⟩;lia
noncomputable def nK(pars:List (Option Nat))(n:Nat):List Nat:=(match pars[n]? with|some (some j)=>[j]|_=>[])++kids pars n
theorem af7:m∈kids pars n↔pars[m]?=some (some n):=by
 unfold kids;rw[List.mem_filter,zbH];constructor;intro h;simpa using h.2;intro h;exact⟨(zah.mp h).1,by lia⟩
theorem P4:m∈nK pars n↔iY pars n m:=by
 unfold nK iY;rw[zad,af7];constructor;rintro(h|h);right;split at h;rename_i j e;rw[zab.mp h];exact e;cases h;exact .inl h;rintro(h|h);exact .inr h;left;rw[h];simp
inductive G3(C:Addr)(vs:List V)(H:Hp)(Q:VK)(E:XK):Prop|i(p:Addr)(M Ed:List Addr)(here:Nat)(pars:List (Option Nat))(aA:List (List Nat))(l:List (Option Nat))(T n:Nat)(_:vs=[.ref p,.int n])(_:bQ C H p M Ed here pars aA l T)(_:n<pars.length)(_:∀b H',ay H H'->H b=none->H' b=some (.lst<|iV<|nK pars n)->Q (.ref b) H')
theorem af8(h:bo Γ c σ H λt H1=>if t=true then ah Γ a σ H1 Q else ah Γ b σ H1 Q):ah Γ (.lB c a b) σ H Q:=h
theorem af9(X:fP K C):bO (G3 C) (λE=>aI K [] [] (E:=E)) Me Md:=by
 intro R H Q E h;obtain⟨p,M,Ed,here,pars,aA,l,T,n,rfl,⟨dx,lo,B,U,be,lg,x,es,A⟩,m,q⟩:=h;have Z:=A.ob.sz;obtain⟨b,t⟩:∃b,x[n]?=some b:=⟨_,zay (A.lb▸m)⟩;have P:(x.map V.ref)[n]?=some (V.ref b):=by rw[zaf,t];rfl
 have J:(kids pars n).length<=pars.length:=by
  have:=zbV (λj=>pars[j]?==some (some n)) (List.range pars.length);rw[zbT] at this;exact this
 have c:∀(L:Addr)(d:List Nat)(H1:Hp),d.length<=1->ay H H1->H L=none->H1 L=some (.lst<|iV d)->d++kids pars n=nK pars n->az (aI K [] []) [.ret<|.bin .Add (.v 2)<|.ix (.fld (.v 0) "below")<|.v 1] (Dn Q) [some<|.ref p,some<|.int (n:Nat),some<|.ref L] H1:=by
  intro L d H1 F g f I e;have G:=A.same g;refine dh<|bT<|ag O<|bD<|cB<|ag O ⟨p,C,dx,_,_,O,G.ob.ob,X.cl,X.Ai,Gn,ag O<|cj G.hb (bZ P)<|.inl ⟨L,b,_,_,O,O,I,g _ _ (A.hk n b t),cz ?_,λw u=>?_⟩⟩;rw[zaa,zaa];lia;have N:iV d++iV (kids pars n)=iV (nK pars n):=by rw[<-e];unfold iV;rw[zap]
  rw[N];exact q w _ (g.trans<|sameNew u) (g.free u) ar
 refine bw<|af8<|bf<|ag O<|aC<|eV ⟨_,O,?_⟩;by_cases z:n=0;refine iT ?_ (zqT (by lia));refine cJ<|aH ⟨zqZ _,λL f=>c L [] _ (zqZ _) (sameNew f) f ar ?_⟩;unfold nK;rw[z,A.ob.tr.rt];refine iF ?_ (zqF (by lia));obtain⟨j,r,_⟩:=A.ob.tr.up n (za1 z) m;have k:(pars.map gV)[n]?=some (V.int (j:Nat)):=by rw[zaf,r];rfl
 refine cJ<|av<|bD<|cB<|ag O ⟨p,C,dx,_,_,O,A.ob.ob,X.cl,X.m5,pB,ag O<|cj A.ob.op (bZ k)<|aH ⟨cC,λL f=>c L [j] _ (zqR 1) (sameNew f) f ar ?_⟩⟩;unfold nK;rw[r]
def BM(pars:List (Option Nat))(b:List Nat):Prop:= ∃t∈b,∀k∈b,t<=k/\(k=t\/∃j∈b,pars[k]?=some (some j))
theorem BM.add(T:eW pars)(h:BM pars f){a b:Nat}(m:a∈f)(p:b∉f)(ad:iY pars a b):BM pars (f++[b])/\∀x∈f,iY pars b x->x=a:=by
 obtain⟨t,u,h⟩:=h;rcases ad with ad|ad
 have r:=(eP T ad).1;refine⟨⟨t,zav _ u,λk c=>?_⟩,λx l d=>?_⟩;rcases zad.mp c with c|c
 refine⟨(h k c).1,?_⟩;rcases (h k c).2 with e|⟨j,g,e⟩
 exact .inl e;exact .inr ⟨j,zav _ g,e⟩;rw[zab.mp c];have:=(h a m).1;exact⟨zby (zb2 this r),.inr ⟨a,zav _ m,ad⟩⟩;rcases d with d|d
 rcases (h x l).2 with e|⟨j,g,e⟩
 have:=(eP T d).1;have:=(h a m).1;lia;rw[d] at e;cases e;exact absurd g p;rw[ad] at d;cases d;rfl;have r:=(eP T ad).1;have q:a=t:=by
  rcases (h a m).2 with e|⟨j,g,e⟩
  exact e;rw[ad] at e;cases e;exact absurd g p
 subst q;refine⟨⟨b,zaw _<|.head _,λk c=>?_⟩,λx l d=>?_⟩;rcases zad.mp c with c|c
 have:=(h k c).1;refine⟨zby (zaq r this),.inr ?_⟩;rcases (h k c).2 with e|⟨j,g,e⟩
 exact⟨b,zaw _<|.head _,by lia⟩;exact⟨j,zav _ g,e⟩;rw[zab.mp c];exact⟨zqR _,.inl O⟩;rcases d with d|d
 rcases (h x l).2 with e|⟨j,g,e⟩
 exact e;rw[d] at e;cases e;exact absurd g p;have:=(eP T d).1;have:=(h x l).1;lia
theorem aga{b:List Nat}(T:eW pars){h:Nat}(r:h∈b)(p:∀k∈b,k<pars.length)(l:∀k∈b,∀m,iY pars k m->m∈b):∀k,k<pars.length->k∈b:=by
 have u:∀n,n∈b->0∈b:=by
  intro n;induction n using Nat.strongRecOn with
  |ind n c=>
   intro d;by_cases z:n=0;rw[<-z];exact d;obtain⟨j,f,g⟩:=T.up n (za1 z) (p n d);exact c j g<|l n d j<|.inr f
 intro k;induction k using Nat.strongRecOn with
 |ind k c=>
  intro q;by_cases z:k=0;rw[z];exact (u h r);obtain⟨j,f,g⟩:=T.up k (za1 z) q;exact l j (c j g (za2 g q)) k<|.inl f
end
noncomputable def gu(b:List Nat)(ad:Nat->Addr):List (Key×V):=b.map λk=>((Sum.inl ((k:Nat):Int):Key),V.ref<|ad k)
theorem BN{k:Nat}:∀{b:List Nat},k∈b->e_ (gu b ad) (.inl ((k:Nat):Int))=some (.ref<|ad k)
 |j::r,h=>by
  by_cases z:j=k;subst z;exact pU O;refine(uj<|λe=>z ?_).trans (BN ?_);lia;rcases zac.mp h with h|h
  exact absurd h.symm z;exact h
theorem G5{k:Nat}:∀{b:List Nat},k∉b->e_ (gu b ad) (.inl ((k:Nat):Int))=none
 |[],_=>O
 |j::r,h=>by
  refine(uj<|λe=>h ?_).trans<|G5 λz=>h (zar _ z);have:j=k:=by lia
  rw[this];exact zau
noncomputable def g_{b:Type}(f:Nat->b)(k:Nat)(a:b):Nat->b:=λj=>if j=k then a else f j
theorem yv{f:Nat->b}{k:Nat}{a:b}:g_ f k a k=a:=if_pos O
theorem qZ{k j:Nat}{a:b}(h:j≠k):g_ f k a j=f j:=if_neg h
theorem agb{ad:Nat->Addr}{k:Nat}{c:Addr}(h:k∉b):putK (gu b ad) (.inl ((k:Nat):Int)) (V.ref c)=gu (b++[k]) (g_ ad k c):=by
 rw[v5 _<|G5 h];unfold gu;rw[zap];congr 1;refine zbD λj d=>?_;rw[qZ<|λz=>h (by lia)];show[((Sum.inl ((k:Nat):Int):Key),V.ref c)]=[((Sum.inl ((k:Nat):Int):Key),V.ref<|g_ ad k c k)];rw[yv]
structure Fg(H0 H:Hp)(pars:List (Option Nat))(aA:List (List Nat))(T U:Nat)(I J':Nat->List Pt->Prop)(e2 g3 a4:Addr)(vis st:List Nat)(ad:Nat->Addr)(nt:Nat->List Nat)(es:List V):Prop where
 sm:ay H0 H
 he:H e2=some (.lst es)
 hg:H g3=some (.dK<|gu vis ad)
 hs:H a4=some (.lst<|iV st)
 fr:H0 e2=none/\H0 g3=none/\H0 a4=none
 ne:e2≠g3/\e2≠a4/\g3≠a4
 nd:vis.Nodup
 lv:∀k∈vis,k<pars.length
 ls:∀k∈st,k∈vis
 tp:BM pars vis
 gt:∀k∈vis,ad k∉ [e2,g3,a4]/\∃g l,aA[k]?=some l/\bM H (ad k) g l (nt k)/\I k g/\B.aB g<=U
 le:es.length=pars.length
 e0:es[0]?=some .aD
 ed:∀i j,pars[i]?=some (some j)->i∈vis->j∈vis->∃a q,es[i]?=some (.ref a)/\a∉ [e2,g3,a4]/\H0 a=none/\bM H a q (nt j) (nt i)/\J' i q/\B.aB q<=T
section
variable{H0 H H':Hp}{pars:List (Option Nat)}{aA:List (List Nat)}{T U:Nat}{I J':Nat->List Pt->Prop}{e2 g3 a4:Addr}{vis st:List Nat}{ad:Nat->Addr}{nt:Nat->List Nat}{es:List V}
theorem Fg.same(b:Fg H0 H pars aA T U I J' e2 g3 a4 vis st ad nt es)(s:ay H H'):Fg H0 H' pars aA T U I J' e2 g3 a4 vis st ad nt es:=by
 refine⟨b.sm.trans s,s _ _ b.he,s _ _ b.hg,s _ _ b.hs,b.fr,b.ne,b.nd,b.lv,b.ls,b.tp,λk f=>?_,b.le,b.e0,λi j e p m=>?_⟩;obtain⟨a,g,l,d,c,h⟩:=b.gt k f;exact⟨a,g,l,d,c.same s,h⟩;obtain⟨a,q,zq⟩:=qx2 (b.ed i j e p m);obtain⟨d,c,h,t,r⟩:=qa5 zq;exact⟨a,q,d,c,h,t.same s,r⟩
theorem Fg.add(b:Fg H0 H pars aA T U I J' e2 g3 a4 vis st ad nt es)(t:eW pars){other:Nat}{c d:Addr}{u:List Pt}{l r:List Nat}(k:∀y o,y∉ [e2,g3,a4]->H y=some o->H' y=some o)(tu:dq H H')(he:H' e2=some (.lst<|es.set i<|.ref d))(hg:H' g3=some (.dK<|gu (vis++[other])<|g_ ad other c))(hs:H' a4=some (.lst<|iV<|st++[other]))(J:node∈vis)(w:other∉vis)(ol:other<pars.length)(hl:aA[other]?=some l)(hc:bM H' c ps l r)(cW:c∉ [e2,g3,a4])(hI:I other ps)(tI:B.aB ps<=U)(dW:d∉ [e2,g3,a4])(d0:H0 d=none)(tq:B.aB u<=T)(cs:pars[other]?=some (some node)/\i=other/\bM H' d u (nt node) r/\J' other u\/pars[node]?=some (some other)/\i=node/\bM H' d u r (nt node)/\J' node u):
  Fg H0 H' pars aA T U I J' e2 g3 a4 (vis++[other]) (st++[other]) (g_ ad other c) (g_ nt other r) (es.set i<|.ref d):=by
 have a':iY pars node other:=by
  rcases cs with c|c
  exact .inl c.1;exact .inr c.1
 obtain⟨tp,m⟩:=b.tp.add t J w a';have F:node≠other:=λz=>w (z▸J);have kc:∀{a:Addr}{g:List Pt}{x y:List Nat},a∉ [e2,g3,a4]->bM H a g x y->bM H' a g x y:=λh q=>q.keep (λo e=>k _ o h e) tu;have il:i<es.length:=by
  rw[b.le];rcases cs with⟨_,rfl,_⟩|⟨_,rfl,_⟩
  exact ol;exact b.lv _ J
 have i0:i≠0:=by
  rcases cs with⟨e,rfl,_⟩|⟨e,rfl,_⟩
  have:=(eP t e).1;lia;have:=(eP t e).1;lia
 refine⟨λy o e=>k y o (λz=>?_)<|b.sm _ _ e,he,hg,hs,b.fr,b.ne,?_,λx f=>?_,λx f=>?_,tp,λx f=>?_,by rw[zaS];exact b.le,by rw[zaA i0];exact b.e0,λx y e f X=>?_⟩;simp at z;rcases z with rfl|rfl|rfl
 rw[b.fr.1] at e;cases e;rw[b.fr.2.1] at e;cases e;rw[b.fr.2.2] at e;cases e;exact List.nodup_append.mpr ⟨b.nd,by simp,λx f y X e=>w (by rw[<-zab.mp X,<-e];exact f)⟩;rcases zad.mp f with f|f
 exact b.lv x f;rw[zab.mp f];exact ol;rcases zad.mp f with f|f
 exact zav _ (b.ls x f);exact zaw _ f;rcases zad.mp f with f|f
 have:x≠other:=λz=>w (z▸f);rw[qZ this,qZ this];obtain⟨a,g,l',Y,Z,W⟩:=b.gt x f;exact⟨a,g,l',Y,kc a Z,W⟩;rw[zab.mp f,yv,yv];exact⟨cW,ps,l,hl,hc,hI,tI⟩;have E:x=i->y=(if i=other then node else other)->∃a q,(es.set i<|.ref d)[x]?=some (V.ref a)/\a∉ [e2,g3,a4]/\H0 a=none/\bM H' a q (g_ nt other r y) (g_ nt other r x)/\J' x q/\B.aB q<=T:=by
  intro e1 R;subst e1;refine⟨d,u,by rw[zbJ il],dW,d0,?_,?_,tq⟩;rcases cs with⟨_,rfl,h,_⟩|⟨_,rfl,h,_⟩
  rw[if_pos O] at R;subst R;rw[yv,qZ F];exact h;rw[if_neg F] at R;subst R;rw[yv,qZ F];exact h;rcases cs with⟨_,rfl,_,h⟩|⟨_,rfl,_,h⟩ <;>exact h
 rcases zad.mp f with G|G
 have P:x≠other:=λz=>w (z▸G);rcases zad.mp X with p|p
 have N:y≠other:=λz=>w (z▸p);have xi:i≠x:=λz=>by
  rcases cs with⟨_,rfl,_⟩|⟨A,rfl,_⟩
  exact P z.symm;rw[z,e] at A;cases A;exact N O
 obtain⟨a,q,Y,Z,W,h4,h5⟩:=b.ed x y e G p;exact⟨a,q,by rw[zaA xi];exact Y,Z,W,by rw[qZ P,qZ N];exact kc Z h4,h5⟩;have N:=zab.mp p;subst N;have xn:=m x G (.inl e);subst xn;rcases cs with⟨A,_⟩|⟨_,K,_⟩
 have:=(eP t A).1;have:=(eP t e).1;lia;exact E K.symm (by lia);have P:=zab.mp G;subst P;rcases zad.mp X with p|p
 have yn:=m y p (.inr e);rcases cs with⟨_,K,_⟩|⟨A,_⟩
 exact E K.symm (by lia);have:=(eP t A).1;have:=(eP t e).1;lia;rw[zab.mp p] at e;have:=(eP t e).1;exact (zaC _ this).elim
end
section
variable{K:Frag}{C CF:Addr}
theorem vy:∀(n:Nat)(l:List Nat),l.Nodup->(∀x∈l,x<n)->l.length<=n
 | 0,[],_,_=>zqR _
 | 0,x::_,_,h=>absurd (h x<|.head _) (Nat.not_lt_zero _)
 |n+1,l,d,h=>by
  by_cases z:n∈l;have e:=List.length_erase_of_mem z;have:=vy n (l.erase n) (d.erase n) λx b=>by
   have c:=(d.mem_erase_iff).mp b;have:=h x c.2;lia
  lia;have:=vy n l d λx b=>by
   have:=h x b;have:x≠n:=λe=>z (by lia);lia
  exact za7 this
def G6(pars:List (Option Nat))(I c f:Nat->List Pt->Prop):Prop:= ∀(a b:Nat)(g e ps q:List Pt)(l m n:List Nat),iY pars a b->I a g->(pars[b]?=some (some a)/\c b e\/pars[a]?=some (some b)/\∃d,c a d/\e=bk d)->mf g l m->mf e l n->Passed g e ps q l m n->I b ps/\(pars[b]?=some (some a)->f b q)/\(pars[a]?=some (some b)->f a (bk q))
noncomputable abbrev GF(K:Frag)(C CF:Addr)(E:XK):ba:=aI K [("passed",xW),("back",o7),("sizes",fQ)] [] [] [("need_over",C,j8 C CF),("neighbours",C,G3 C),("edge",C,G1 C),("many",C,iy C)] (E:=E)
noncomputable def P5:List RS:=[.ite (.uo (.v 6) (.v 3)) [.cont] [],
   .asg 7 (.call 0 [(.bI (.v 3)<|.v 5),(.aU 2 "edge" (.v 0) [.v 5,.v 6])]),
   .dput (.v 3) (.v 6) (.ix (.v 7)<|.c<|.int 0),
   .drop (.bE .append (.v 4) [.v 6]),
   .ite (.cmp .Eq (.ix (.fld (.v 0) "parents") (.v 6)) (.v 5)) [.set (.v 2) (.v 6) (.ix (.v 7) (.c (.int 1)))] [.set (.v 2) (.v 5) (.call 1 [(.ix (.v 7) (.c (.int 1)))])]]
theorem P6{b:Type}{l:List b}{i:Nat}(h:i<l.length):gh l.length ((i:Nat):Int)=some i:=by
 unfold gh;rw[if_pos (za6 _),if_pos (by lia)];rfl
theorem agd{i:RE}(h:ah Γ e σ H λv H1=>ah Γ o σ H1 λx H2=>ah Γ i σ H2 λy c=>∃a b,x=.ref a/\pV c a y v b/\az Γ r D σ b):az Γ (.dput o i e::r) D σ H:=h
theorem P7(h:ah Γ a σ H λx H1=>ah Γ b σ H1 λy H2=>∃d v,x=.ref d/\ja H2 d y (some v)/\Q v H2):ah Γ (.bI a b) σ H Q:=h
theorem P8{Q:Bool->Hp->Prop}{b:RE}(h:ah Γ a σ H λy H1=>ah Γ b σ H1 λx H2=>∃d o,x=.ref d/\ja H2 d y o/\∃k,V.bl o.isSome=.bl k/\Q k H2):bo Γ (.uo a b) σ H Q:=h
theorem age{W:Hp}{p:Addr}{a':List (Option Nat)}{l:Nat}{pa ed:Addr}{bs:List Addr}{I m J':Nat->List Pt->Prop}{R G Z:Addr}{w st:List Nat}{ad:Nat->Addr}{nt:Nat->List Nat}{c0:V}{other:Nat}{u7:Option V}(X:fP K C)(A:fY C W p M Ed here pars aA a' T dx lo pa ed be lg bs gY)(EJ:yu W gY pars aA T m)(u:Fg W H pars aA T l I J' R G Z w st ad nt es)(fE:G6 pars I m J')(vz:T+l<=14000)(hsz:pars.length<=50000)(Bo:st.length<=50000)(hn:node∈w)(qX:iY pars node other)(N:St->Hp->Prop)(P9:∀σ H,N σ H->D.nx σ H)(sM:∀σ H,N σ H->D.ct σ H)(q0:other∈w->N [some<|.ref p,some c0,some<|.ref R,some<|.ref G,some<|.ref Z,some<|.int (node:Nat),some<|.int (other:Nat),u7] H)(q:∀(t c:Addr)(r:List Nat)(iC:List V)(H':Hp),other∉w->Fg W H' pars aA T l I J' R G Z (w++[other]) (st++[other]) (g_ ad other c) (g_ nt other r) iC->(∀y o,y∉ [R,G,Z]->H y=some o->H' y=some o)->N [some<|.ref p,some c0,some<|.ref R,some<|.ref G,some<|.ref Z,some<|.int (node:Nat),some<|.int (other:Nat),some<|.ref t] H'):
  az (GF K C CF E) P5 D [some<|.ref p,some c0,some<|.ref R,some<|.ref G,some<|.ref Z,some<|.int (node:Nat),some<|.int (other:Nat),u7] H:=by
 have ol:other<pars.length:=by
  rcases qX with e|e
  exact(zah.mp e).1;have:=eP A.ob.tr e;lia
 by_cases hv:other∈w;refine ZZ (P8<|ag O<|ag O ⟨G,_,O,ja.k (k:=.inl ((other:Nat):Int)) u.hg,_,O,iT (sM _ _<|q0 hv) (by rw[BN hv];rfl)⟩);refine ZZ (P8<|ag O<|ag O ⟨G,_,O,ja.k (k:=.inl ((other:Nat):Int)) u.hg,_,O,iF (cQ ?_) (by rw[G5 hv];rfl)⟩);obtain⟨aW,g,ln,LM,hg,hI,hU⟩:=u.gt node hn;have dN:aA.length=pars.length:=by have:=A.ob.ln;rw[zaa] at this;exact this
 obtain⟨lm,P_⟩:∃lm,aA[other]?=some lm:=⟨_,zay (by lia)⟩;have A1:=A.same u.sm;have k':pars[other]?=some (some node)\/(pars[other]?≠some (some node)/\pars[node]?=some (some other)):=by
  rcases qX with e|e
  exact .inl e;refine .inr ⟨λz=>?_,e⟩;have:=(eP A.ob.tr e).1;have:=(eP A.ob.tr z).1;lia
 have m':yu H gY pars aA T m:=λi j e=>by
  obtain⟨a,ps,lj,li,zq⟩:=qx4 (EJ i j e);obtain⟨h1,h2,h3,h4,h5⟩:=qa5 zq;exact⟨a,ps,lj,li,h1,h2,h3,h4.same u.sm,h5⟩
 refine bw<|b_ xW O<|av<|P7<|ag O<|ag O ⟨G,V.ref<|ad node,O,(by rw[<-BN (ad:=ad) hn];exact ja.k (k:=.inl ((node:Nat):Int)) u.hg),av<|A1.ob.m2 O O<|ag O<|ag O ⟨p,dx,lo,pa,ed,be,lg,here,_,pars,gY,aA,T,node,other,ln,lm,m,O,A1.ob,A1.he,m',zat (zbf _ _) vz,LM,P_,ol,k',λe pe H1 s1 BP te hJ=>aH<|aei (hg.same s1) BP ?_ ?_ λt c d H2 ps qs r s2 fc fd ht hc hd P=>?_⟩⟩;have h1:g.length<=2*B.aB g+1:=j7 g "" hg.chg.ok hg.chg.ch;have h2:pe.length<=2*B.aB pe+1:=j7 pe "" BP.chg.ok BP.chg.ch;lia;lia;have mz:=s1.trans s2;have F2:=u.same mz;have vj:=s1.free fc;have Qa:=s1.free fd;have Qc:∀{y:Addr},H y=none->y∉ [R,G,Z]:=λf h=>by
  simp only[zac,zag,or_false] at h;rcases h with rfl|rfl|rfl
  rw[u.he] at f;cases f;rw[u.hg] at f;cases f;rw[u.hs] at f;cases f
 obtain⟨h',g',f'⟩:=fE node other g pe ps qs ln (nt node) lm qX hI hJ hg.chg BP.chg P;have t1:=P.adJ;have t2:=P.adK;have vl:w.length<=pars.length:=vy _ _ u.nd u.lv;obtain⟨yw,vA,vB⟩:=u.ne;have kl:(gu w ad).length=w.length:=by unfold gu;rw[zaa]
 refine agd<|bD<|ag O<|aC<|tJ ht O<|ag O<|ag O ⟨G,_,O,pV.k (k:=.inl ((other:Nat):Int)) F2.hg<|dr (by rw[kl];lia),?_⟩;rw[agb hv];have b3:aR G H2 (upd H2 G<|.dK<|gu (w++[other])<|g_ ad other c):=aR.upd;have Qd:upd H2 G (.dK<|gu (w++[other])<|g_ ad other c) G=some (.dK<|gu (w++[other])<|g_ ad other c):=ar;have ou:=b3 _ _ F2.hs (Ne.symm vB);have Qe:=b3 _ _ F2.he yw;have Qg:dq H2 (upd H2 G<|.dK<|gu (w++[other])<|g_ ad other c):=λy ys e=>b3 y _ e λz=>by rw[z,F2.hg] at e;cases e
 generalize upd H2 G (.dK<|gu (w++[other])<|g_ ad other c)=H3 at b3 Qd ou Qe Qg⊢;refine cN<|ju<|ag O ⟨.inl ⟨O,_,au.of ou⟩,ag O ⟨_,ou,dr (by unfold iV;rw[zaa];exact zat Bo (za0 _ _)),?_⟩⟩;have G7:iV st++[V.int (other:Nat)]=iV (st++[other]):=by unfold iV;rw[zap];rfl
 rw[G7];have b4:aR Z H3 (upd H3 Z<|.lst<|iV<|st++[other]):=aR.upd;have G8:upd H3 Z (.lst<|iV<|st++[other]) Z=some (.lst<|iV<|st++[other]):=ar;have vC:=b4 _ _ Qd vB;have q9:=b4 _ _ Qe vA;have Qh:=b4.bU ou;generalize upd H3 Z (.lst<|iV<|st++[other])=H4 at b4 G8 vC q9 Qh⊢;have vD:∀y o,y∉ [R,G,Z]->H2 y=some o->H4 y=some o:=λy o ne e=>b4 y o (b3 y o e λz=>ne (by rw[z];simp)) λz=>ne (by rw[z];simp);have BQ:dq H2 H4:=λy ys e=>Qh _ _ (Qg _ _ e);have vq:=BQ _ _ ht;have cW:=Qc vj;have dW:=Qc Qa;have Gj:=hc.keep (λo e=>vD c o cW e) BQ;have jL:=hd.keep (λo e=>vD d o dW e) BQ;have l':W d=none:=u.sm.free Qa;have c':H4 p=some (.ins C dx (h6 (here:Nat) lo pa ed be lg)):=vD _ _ (λz=>by
  have e:=A.ob.ob;simp only[zac,zag,or_false] at z;rcases z with rfl|rfl|rfl
  rw[u.fr.1] at e;cases e;rw[u.fr.2.1] at e;cases e;rw[u.fr.2.2] at e;cases e) ((u.sm.trans mz) _ _ A.ob.ob)
 have j':H4 pa=some (.lst (pars.map gV)):=vD _ _ (λz=>by
  have e:=A.ob.op;simp only[zac,zag,or_false] at z;rcases z with rfl|rfl|rfl
  rw[u.fr.1] at e;cases e;rw[u.fr.2.1] at e;cases e;rw[u.fr.2.2] at e;cases e) ((u.sm.trans mz) _ _ A.ob.op)
 have xv:pars[other]?=some pars[other]:=zay ol;have G4:(pars.map gV)[other]?=some (gV pars[other]):=by rw[zaf,xv];rfl
 refine ZZ<|bf<|bD<|cB<|ag O ⟨p,C,dx,_,_,O,c',X.cl,X.m5,pB,ag O<|cj j' (bZ G4)<|ag O<|yg ⟨_,O,?_⟩⟩;have b':∀(i:Nat)(F:Addr)(Y:List Pt)(J:Hp),ay H4 J->F∉ [R,G,Z]->W F=none->B.aB Y<=T->i<es.length->(pars[other]?=some (some node)/\i=other/\bM J F Y (nt node) r/\J' other Y\/pars[node]?=some (some other)/\i=node/\bM J F Y r (nt node)/\J' node Y)->
   Fg W (upd J R<|.lst<|es.set i<|.ref F) pars aA T l I J' R G Z (w++[other]) (st++[other]) (g_ ad other c) (g_ nt other r) (es.set i<|.ref F)/\∀y o,y∉ [R,G,Z]->H y=some o->upd J R (.lst<|es.set i<|.ref F) y=some o:=by
  intro i F Y J U Qi i' tq il cs;have b5:aR R J (upd J R<|.lst<|es.set i<|.ref F):=aR.upd;have tP:=b5.bU (U _ _ q9);have kk:∀y o,y∉ [R,G,Z]->H y=some o->upd J R (.lst<|es.set i<|.ref F) y=some o:=λy o ne e=>b5 y o (U _ _<|vD y o ne<|mz _ _ e) λz=>ne (by rw[z];simp);refine⟨u.add A.ob.tr kk (λy ys e=>tP _ _<|U _ _<|BQ _ _<|mz _ _ e) ar (b5 _ _ (U _ _ vC)<|Ne.symm yw) (b5 _ _ (U _ _ G8)<|Ne.symm vA) hn hv ol P_ ((Gj.same U).keep (λo e=>b5 c o e λz=>cW (by rw[z];simp)) tP) cW h' (zat t1 hU) Qi i' tq ?_,kk⟩;have dk:∀{x y:List Nat},bM J F Y x y->bM (upd J R<|.lst<|es.set i<|.ref F) F Y x y:=λh=>h.keep (λo e=>b5 F o e λz=>Qi (by rw[z];simp)) tP;rcases cs with⟨e1,my,e3,e4⟩|⟨e1,my,e3,e4⟩
  exact .inl ⟨e1,my,dk e3,e4⟩;exact .inr ⟨e1,my,dk e3,e4⟩
 by_cases z:pars[other]=some node;refine iT ?_ (zqT z);have hp:pars[other]?=some (some node):=by rw[xv,z]
 have il:other<es.length:=by rw[u.le];exact ol
 obtain⟨F5,k5⟩:=b' other d qs H4 (ay.refl _) dW l' (zat t2 te) il (.inl ⟨hp,O,jL,g' hp⟩);exact mq<|bD<|ag O<|aC<|tJ vq O<|ag O<|ag O ⟨R,_,_,other,O,O,q9,P6 il,P9 _ _<|q t c r _ _ hv F5 k5⟩;refine iF ?_ (zqF z);have hp:pars[node]?=some (some other):=by
  rcases qX with e|e
  rw[xv] at e;exact absurd (zal e) z;exact e
 have il:node<es.length:=by rw[u.le];exact u.lv _ hn
 have ql:qs.length<=2*B.aB qs+1:=j7 qs "" jL.chg.ok jL.chg.ch;have hb:=((jL.chg.bk (by lia)).2).1;refine mq<|b_ o7 O<|av<|bD<|ag O<|aC<|tJ vq O<|aH<|F6 jL (by lia) (by lia) λb J U fb e'=>?_;have BR:b∉ [R,G,Z]:=λh=>by
  simp only[zac,zag,or_false] at h;rcases h with rfl|rfl|rfl
  rw[q9] at fb;cases fb;rw[vC] at fb;cases fb;rw[G8] at fb;cases fb
 have b0:W b=none:=by
  cases hz:W b with
  |none=>rfl
  |some o=>rw[vD b o BR<|(u.sm.trans mz) _ _ hz] at fb;cases fb
 obtain⟨F5,k5⟩:=b' node b (bk qs) J U BR b0 (by lia) il (.inr ⟨hp,O,e',f' hp⟩);exact ag O<|ag O ⟨R,_,_,node,O,O,U _ _ q9,P6 il,P9 _ _<|q t c r _ _ hv F5 k5⟩
structure Fl(H0 H:Hp)(pars:List (Option Nat))(aA:List (List Nat))(T U:Nat)(I J':Nat->List Pt->Prop)(e2 g3 a4:Addr)(here:Nat)(r:List Nat)(vis st:List Nat)(ad:Nat->Addr)(nt:Nat->List Nat)(es:List V):Prop where
 f:Fg H0 H pars aA T U I J' e2 g3 a4 vis st ad nt es
 hh:here∈vis
 nh:nt here=r
 cl:∀k∈vis,k∉st->∀m,iY pars k m->m∈vis
noncomputable def agp:List RS:=[.asg 5 (.bE .pop (.v 4) []),
  .ko 6 .list [(.aU 1 "neighbours" (.v 0) [.v 5])] P5]
theorem agq(h:ah Γ o σ H λx H1=>rN Γ.K (uq m) x H1/\wm Γ.K m x [] H1 Q):ah Γ (.bE m o []) σ H Q:=h
theorem agr{H0:Hp}{p:Addr}{a':List (Option Nat)}{d:Nat}{pa ed:Addr}{bs:List Addr}{I u J':Nat->List Pt->Prop}{e2 g3 F:Addr}{r G Z:List Nat}{ad:Nat->Addr}{nt:Nat->List Nat}{c0:V}{u5 W U:Option V}(X:fP K C)(A:fY C H0 p M Ed here pars aA a' T dx lo pa ed be lg bs gY)(EJ:yu H0 gY pars aA T u)(L:Fl H0 H pars aA T d I J' e2 g3 F here r G (Z++[node]) ad nt es)(fE:G6 pars I u J')(vz:T+d<=14000)(hsz:pars.length<=40000)(Bo:Z.length<=G.length)(N:St->Hp->Prop)(hD:∀σ H,N σ H->D.nx σ H)(q:∀(R B:List Nat)(nM:Nat->Addr)(Y:Nat->List Nat)(iC:List V)(W U:Option V)(H':Hp),Fl H0 H' pars aA T d I J' e2 g3 F here r R B nM Y iC->B.length+G.length=Z.length+R.length->G.length<=R.length->N [some<|.ref p,some c0,some<|.ref e2,some<|.ref g3,some<|.ref F,some<|.int (node:Nat),W,U] H'):
  az (GF K C CF E) agp D [some<|.ref p,some c0,some<|.ref e2,some<|.ref g3,some<|.ref F,u5,W,U] H:=by
 have w:=L.f;obtain⟨yw,vA,vB⟩:=w.ne;have hl:(iV<|Z++[node])[(iV<|Z++[node]).length - 1]?=some (V.int (node:Nat)):=by unfold iV;simp
 refine bw<|agq<|ag O ⟨.inl ⟨O,_,au.of w.hs⟩,_,_,w.hs,hl,?_⟩;have c':(iV<|Z++[node]).dropLast=iV Z:=by simp
 rw[c'];have b1:aR F H (upd H F<|.lst<|iV Z):=aR.upd;have G9:=b1.bU w.hs;have Qj:upd H F (.lst<|iV Z) F=some (.lst<|iV Z):=ar;have Qk:node∈G:=w.ls node (zaw _<|.head _);have F1:Fg H0 (upd H F<|.lst<|iV Z) pars aA T d I J' e2 g3 F G Z ad nt es:=by
  refine⟨λy o e=>b1 y o (w.sm _ _ e) λz=>(by rw[z,w.fr.2.2] at e;cases e),b1 _ _ w.he vA,b1 _ _ w.hg vB,Qj,w.fr,w.ne,w.nd,w.lv,λk P=>w.ls k<|zav _ P,w.tp,λk P=>?_,w.le,w.e0,λi j e hi hj=>?_⟩;obtain⟨a,g,l,J,h2,h3⟩:=w.gt k P;exact⟨a,g,l,J,h2.keep (λo e=>b1 _ o e λz=>a (by rw[z];simp)) G9,h3⟩;obtain⟨a,q,zq⟩:=qx2 (w.ed i j e hi hj);obtain⟨J,h2,h3,h4,h5⟩:=qa5 zq;exact⟨a,q,J,h2,h3,h4.keep (λo e=>b1 _ o e λz=>h2 (by rw[z];simp)) G9,h5⟩
 have A1:=A.same F1.sm;refine OF<|A1.ob.m1 O O<|ag O ⟨p,M,Ed,here,pars,aA,a',T,node,O,⟨dx,lo,pa,ed,be,lg,bs,gY,A1⟩,w.lv _ Qk,λb H2 s2 fb hb=>?_⟩;have BR:b∉ [e2,g3,F]:=λh=>by
  simp at h;rcases h with rfl|rfl|rfl
  rw[F1.he] at fb;cases fb;rw[F1.hg] at fb;cases fb;rw[F1.hs] at fb;cases fb
 refine⟨b,O,⟨_,au.of hb⟩,lh (K:=K) (a:=b) (xs:=iV (nK pars node)) (λi σ H3=>qX7 λ(R B:List Nat)(nM:Nat->Addr)(Y:Nat->List Nat)(iC:List V)(W U:Option V)=>qA10 (σ=[some<|.ref p,some c0,some<|.ref e2,some<|.ref g3,some<|.ref F,some<|.int (node:Nat),W,U]) (Fg H0 H3 pars aA T d I J' e2 g3 F R B nM Y iC) (∀k∈G,k∈R) (∀k∈Z,k∈B) (∀k∈R,k∈G\/k∈B) (Y here=r) (∀k,k<i->∀m,(nK pars node)[k]?=some m->m∈R) (B.length+G.length=Z.length+R.length) (G.length<=R.length) (H3 b=some (.lst<|iV<|nK pars node))) ?_ ?_ ?_ ?_⟩;exact⟨G,Z,ad,nt,es,W,U,O,F1.same s2,λ_ h=>h,λ_ h=>h,λ_ h=>.inl h,L.nh,λk P=>absurd P<|Nat.not_lt_zero _,O,zqR _,hb⟩;rintro i σ H3 _ ⟨R,B,nM,Y,iC,W,U,rfl,F3,_,_,_,_,_,_,_,yx⟩;exact au.of yx;rintro i x σ H3 hi ⟨R,B,nM,Y,iC,W,U,rfl,F3,J,h2,h3,h4,h5,h6,h7,yx⟩;rw[zaf] at hi;obtain⟨m,hm,rfl⟩:=zaY.mp hi;have qX:=P4.mp (zak hm);have vl:=vy _ _ F3.nd F3.lv;refine age X A EJ F3 fE vz (zat hsz (za0 _ _)) (by lia) (J _ Qk) qX _ (λ_ _ h=>h) (λ_ _ h=>h) (λhv=>?_) λt c r' b' H4 d' F4 k4=>?_;refine⟨R,B,nM,Y,iC,_,U,O,F3,J,h2,h3,h4,λk P m' lI=>?_,h6,h7,yx⟩;by_cases z:k=i;subst z;rw[hm] at lI;cases lI;exact hv;exact h5 k (zb9 (zb1 P) z) m' lI;refine⟨R++[m],B++[m],_,_,b',_,_,O,F4,λk P=>zav _<|J k P,λk P=>zav _<|h2 k P,λk P=>?_,?_,λk P m' lI=>?_,?_,?_,k4 _ _ BR yx⟩;rcases zad.mp P with P|P
 rcases h3 k P with h|h
 exact .inl h;exact .inr (zav _ h);exact .inr (zaw _ P);rw[qZ<|λz=>d' (by rw[<-z];exact J _ L.hh)];exact h4;by_cases z:k=i;subst z;rw[hm] at lI;cases lI;exact zaw _ (.head _);exact zav _ (h5 k (zb9 (zb1 P) z) m' lI);rw[zqA,zqA,zaK];lia;rw[zqA];exact za7 h7;rintro σ H3 ⟨R,B,nM,Y,iC,W,U,rfl,F3,J,h2,h3,h4,h5,h6,h7,yx⟩;refine hD _ _<|q R B nM Y iC _ _ H3 ⟨F3,J _ L.hh,h4,λk P hn m hm=>?_⟩ h6 h7;have kv:k∈G:=by
  rcases h3 k P with h|h
  exact h;exact absurd h hn
 by_cases z:k=node;subst z;obtain⟨i,hi⟩:=zaV.mp (P4.mpr hm);exact h5 i (by unfold iV;rw[zaa];exact(zah.mp hi).1) m hi;exact J _ (L.cl k kv (λh=>by
  rcases zad.mp h with h|h
  exact hn (h2 k h);exact z (zab.mp h)) m hm)
theorem agv{here:Int}{p d x:Addr}:cx "edges" (V.ref x) (h6 here lo p d be lg)=h6 here lo p x be lg:=O
theorem agw{here:Int}{p d x:Addr}:cx "lengths" (V.ref x) (h6 here lo p d be lg)=h6 here x p d be lg:=O
theorem Ql(h:∀p,H p=none->bg Γ as σ (upd H p<|.dK []) λvs H2=>H2 p=some (.dK [])/\∃k:List (Key×V),vs=sD k/\k.length<=15/\Q (.ref p) (upd H2 p<|.dK<|jQ [] k)):ah Γ (.xt sG as) σ H Q:=h
theorem G_{x t:RE}(h:ah Γ x σ H λv H1=>∃j:Int,[v]=[.int j]/\ -(2 ^ 62)<=j/\j<2 ^ 62/\∃c:Nat->Nat->List V->Hp->Prop,(∃m,c 0 m [] H1)/\∀i m ys H2,c i m ys H2->
   ((gz 0 j.toNat).stop i H2/\∀p,H2 p=none->Q (.ref p) (upd H2 p<|.lst ys))\/
   ((gz 0 j.toNat).go i H2/\∀x f,(gz 0 j.toNat).hZ i H2 x f->lA Γ.K none x f λg=>om none (g.map some++cX σ k) f λb l=>
    if b=true then ah Γ.calm t (g.map some++cX σ k) l λy q=>ys.length<sizeLine/\∃d,d<m/\c (i+1) d (ys++[y]) q else ∃d,d<m/\c (i+1) d ys l)):ah Γ (.comp none k .gc [x] none t) σ H Q:=Bq _ _ (λ_ _=>Iff.rfl) h
inductive Ha(C:Addr)(vs:List V)(H:Hp)(Q:VK)(E:XK):Prop|i(p c:Addr)(M Ed:List Addr)(here:Nat)(pars:List (Option Nat))(aA:List (List Nat))(t:List (Option Nat))(T b:Nat)(I d u:Nat->List Pt->Prop)(ps:List Pt)(l r:List Nat)(_:vs=[.ref p,.ref c])(_:bQ C H p M Ed here pars aA t T)(_:yt H Ed d)(_:bM H c ps l r)(_:aA[here]?=some l)(_:B.aB ps<=b)(_:T+b<=14000)(_:pars.length<=40000)(_:I here ps)(_:G6 pars I d u)(_:∀(q f:List Addr)(m:List (List Nat))(H':Hp),aN M H H'->(∀y∈q,y∈M\/H y=none)->(∀y∈f,H y=none)->bQ C H' p q f here pars m t T->yt H' f u->m[here]?=some r->(∀k,k<pars.length->∃g lk h,I k g/\aA[k]?=some lk/\m[k]?=some h/\mf g lk h)->Q .aD H')
noncomputable def agx:List RS:=[.fI (.v 0) "edges" (.v 2),
 .fI (.v 0) "lengths" (.comp none [("gets",3)] .gc [(.aU 3 "many" (.v 0) [])] none (.ix (.call 2 [(.bI (.v 1) (.v 0))]) (.c (.int 1))))]
theorem agy{J:Hp}{p:Addr}{b':List (Option Nat)}{c:Nat}{N ed:Addr}{bs:List Addr}{I J':Nat->List Pt->Prop}{x g3 a4:Addr}{r c':List Nat}{ad:Nat->Addr}{P:Nat->List Nat}{c0:V}{u5 u6 u7:Option V}(X:fP K C)(A:fY C J p M Ed here pars aA b' T dx lo N ed be lg bs gY)(L:Fl J H pars aA T c I J' x g3 a4 here r c' [] ad P es)(vz:T+c<=14000)(hsz:pars.length<=40000)(q:∀(M' dy:List Addr)(mD:List (List Nat))(H':Hp),aN M J H'->(∀y∈M',y∈M\/J y=none)->(∀y∈dy,J y=none)->bQ C H' p M' dy here pars mD b' T->yt H' dy J'->mD[here]?=some r->(∀k,k<pars.length->∃g lk yy,I k g/\aA[k]?=some lk/\mD[k]?=some yy/\mf g lk yy)->Q .aD H'):
  az (GF K C CF E) agx (Dn Q) [some<|.ref p,some c0,some<|.ref x,some<|.ref g3,some<|.ref a4,u5,u6,u7] H:=by
 have d:=L.f;have G:=aga A.ob.tr L.hh d.lv λk hk m hm=>L.cl k hk (by simp) m hm;have Y:=A.same d.sm;obtain⟨⟨a1,a2,a3,Qm,a5,a6⟩,⟨b1,b2,b3,b4,b5⟩,⟨c1,c2,c3,c4⟩,⟨d1,d2,d3⟩,⟨e1,my⟩,g1,g2⟩:=qa7 A.ap.l;have yz:∀{y:Addr}{o:HO},J y=some o->y≠x/\y≠g3/\y≠a4:=λe=>⟨λz=>(by rw[z,d.fr.1] at e;cases e),λz=>(by rw[z,d.fr.2.1] at e;cases e),λz=>(by rw[z,d.fr.2.2] at e;cases e)⟩;refine nF<|ag O<|ag O ⟨p,C,dx,_,O,Y.ob.ob,X.cl,X.m6,(by show 6<1000;decide),?_⟩;rw[agv];have Z:aR p H (upd H p<|.ins C dx<|h6 (here:Nat) lo N x be lg):=aR.upd;have o5:upd H p (.ins C dx<|h6 (here:Nat) lo N x be lg) p=some (.ins C dx<|h6 (here:Nat) lo N x be lg):=ar;have tP:dq H (upd H p<|.ins C dx<|h6 (here:Nat) lo N x be lg):=λy ys e=>Z y _ e λz=>by rw[z,Y.ob.ob] at e;cases e
 generalize upd H p (.ins C dx<|h6 (here:Nat) lo N x be lg)=H5 at Z o5 tP⊢;have pW:p≠x/\p≠g3/\p≠a4:=yz A.ob.ob;have g':=Z _ _ d.hg (Ne.symm pW.2.1);have k':=Z _ _ d.he (Ne.symm pW.1);have Qn:fA C H5 p dx lo N x be lg here (aA.map List.length) pars:=⟨o5,Z _ _ Y.ob.ol<|Ne.symm a1,Z _ _ Y.ob.op<|Ne.symm a2,A.ob.ln,A.ob.tr,A.ob.hr,A.ob.sz⟩;have h':∀k,k<pars.length->∃g lk,aA[k]?=some lk/\bM H5 (ad k) g lk (P k)/\I k g/\B.aB g<=c:=λk hk=>by
  obtain⟨_,g,lk,W,h2,u,U⟩:=d.gt k (G k hk);refine⟨g,lk,W,h2.keep (λo e=>Z _ o e λz=>?_) tP,u,U⟩;obtain⟨xs,hx,_⟩:=h2;rw[z,Y.ob.ob] at hx;cases hx
 refine nF<|G_<|Qn.m0 O O ⟨p,dx,lo,N,x,be,lg,here,_,pars,O,Qn,_,O,by lia,by lia,OE (K:=K) (lo:=0) (by lia) (λi ys H2=>ys=iV ((List.range i).map λk=>(P k).length)) O ?_ ?_⟩;rintro i ys H2 hi s2 rfl Q' q';have E2:i<pars.length:=by lia
 obtain⟨g,lk,W,⟨xs,hx,pv,iX⟩,u,U⟩:=h' i E2;have e0:(0:Int)+(i:Nat)=((i:Nat):Int):=by lia
 rw[e0];have cl:g.length<=2*B.aB g+1:=j7 g "" iX.ok iX.ch;refine bD<|b_ fQ O<|av<|P7<|ag O<|ag O ⟨g3,V.ref<|ad i,O,(by rw[<-BN (ad:=ad) (G i E2)];exact ja.k (k:=.inl ((i:Nat):Int)) (s2 _ _ g')),aH ⟨ad i,xs,g,O,s2 _ _ hx,pv.mono<|dg s2,iX.ok,iX.ch,by lia,λt H3 s3 ht=>aC<|tJ ht O ?_⟩⟩;have eg:(qx g).sum=(P i).length:=iX.run.gives;rw[eg];refine q' _ _ s3 ?_;rw[List.range_succ];unfold iV;rw[zap,zap];rfl;rintro ys H6 R s6 rfl fL;have en:((pars.length:Nat):Int).toNat=pars.length:=zaG _
 rw[en];have s7:=sameNew (o:=.lst (iV<|(List.range pars.length).map λk=>(P k).length)) fL;have Bm:upd H6 R (.lst<|iV<|(List.range pars.length).map λk=>(P k).length) R=some (.lst<|iV<|(List.range pars.length).map λk=>(P k).length):=ar;have yA:=s6.trans s7;generalize upd H6 R (.lst<|iV<|(List.range pars.length).map λk=>(P k).length)=H7 at s7 Bm yA⊢;refine ag O ⟨p,C,dx,_,O,yA _ _ o5,X.cl,X.sJ,(by show 6<1000;decide),?_⟩;rw[agw];have p8:aR p H7 (upd H7 p<|.ins C dx<|h6 (here:Nat) R N x be lg):=aR.upd;have o8:upd H7 p (.ins C dx<|h6 (here:Nat) R N x be lg) p=some (.ins C dx<|h6 (here:Nat) R N x be lg):=ar;have Qo:dq H7 (upd H7 p<|.ins C dx<|h6 (here:Nat) R N x be lg):=λy ys e=>p8 y _ e λz=>by rw[z,yA _ _ o5] at e;cases e
 generalize upd H7 p (.ins C dx<|h6 (here:Nat) R N x be lg)=H8 at p8 o8 Qo⊢;have k8:∀y o,y≠p->H y=some o->H8 y=some o:=λy o ne e=>p8 y o (yA _ _<|Z y o e ne) ne;have tu:dq H H8:=λy ys e=>Qo _ _ (yA _ _<|tP _ _ e);have yB:∀y o,y≠p->J y=some o->H8 y=some o:=λy o ne e=>k8 y o ne (d.sm _ _ e);have BS:H5 R=none:=s6.free fL;have nJ:∀{y:Addr}{o:HO},H y=some o->R≠y:=λe z=>by
  by_cases w:R=p;rw[w,o5] at BS;cases BS;rw[Z _ _ (by rw[<-z] at e;exact e) w] at BS;cases BS
 have Hb:J R=none:=by
  cases hz:J R with
  |none=>rfl
  |some o=>exact absurd O (nJ<|d.sm _ _ hz)
 have dN:aA.length=pars.length:=by have:=A.ob.ln;rw[zaa] at this;exact this
 have BU:∀(i:Nat)(a:Addr),es[i]?=some (V.ref a)->∃j q,pars[i]?=some (some j)/\a∉ [x,g3,a4]/\J a=none/\bM H8 a q (P j) (P i)/\J' i q/\B.aB q<=T:=λi a e=>by
  have il:i<pars.length:=by rw[<-d.le];exact(zah.mp e).1
  have i0:i≠0:=λz=>by rw[z,d.e0] at e;cases e
  obtain⟨j,hj,aO⟩:=A.ob.tr.up i (za1 i0) il;obtain⟨a',q',zq⟩:=qx2 (d.ed i j hj (G i il) (G j (za2 aO il)));obtain⟨W,h2,u,U,h5,h6⟩:=qa6 zq;rw[e] at W;cases W;refine⟨j,q',hj,h2,u,U.keep (λo e=>k8 _ o (λz=>?_) e) tu,h5,h6⟩;rw[z,A.ob.ob] at u;cases u
 have f':∀(y:Addr),y∈qU es->∃i,es[i]?=some (V.ref y):=λy h=>by
  obtain⟨v,hv,e⟩:=zbe.mp h;obtain⟨i,hi⟩:=zaV.mp hv;have:v=.ref y:=by
   cases v with
   |ref b=>exact congrArg V.ref (zal e)
   |_=>cases e
  rw[this] at hi;exact⟨i,hi⟩
 have Hc:∀{i:Nat}{b:Addr},bs[i]?=some b->J b=some (.lst<|iV<|kids pars i):=λh=>A.hk _ _ h;have nx:∀{k:Nat}{lk:List Nat},k<pars.length->((List.range pars.length).map P)[k]?=some (P k):=λh=>by rw[zaf,List.getElem?_range h];rfl
 have d':∀{b:Addr},b∈bs->b≠p:=λh z=>a6 (by rw[<-z];exact h);have B8:fY C H8 p (p::R::N::x::be::lg::bs) (qU es) here pars ((List.range pars.length).map P) b' T dx R N x be lg bs es:=by
  refine⟨⟨o8,?_,yB _ _ (Ne.symm a2) A.ob.op,by rw[zaa,zaa,zbT],A.ob.tr,A.ob.hr,A.ob.sz⟩,O,⟨?_⟩,k8 _ _ (Ne.symm pW.1) d.he,d.le,O,d.e0,λi j e=>?_,λi a e h=>?_,yB _ _ (Ne.symm Qm) A.hb,A.lb,λi b e=>yB _ _ (d'<|zak e)<|A.hk i b e,yB _ _ (Ne.symm a5) A.hg,A.nH⟩;rw[zbb,zbb];have:=p8 _ _ Bm (nJ Y.ob.ob);unfold iV at this;rw[zbb] at this;exact this;simp only[zaN,zac,not_or];refine⟨⟨Ne.symm<|nJ Y.ob.ob,a2,pW.1,Qm,a5,a6⟩,⟨nJ Y.ob.op,nJ d.he,nJ Y.hb,nJ Y.hg,λh=>?_⟩,⟨(yz A.ob.op).1,c2,c3,c4⟩,⟨Ne.symm (yz A.hb).1,Ne.symm (yz A.hg).1,λh=>?_⟩,⟨e1,my⟩,g1,g2⟩;obtain⟨i,hi⟩:=zaV.mp h;rw[Hc hi] at Hb;cases Hb;obtain⟨i,hi⟩:=zaV.mp h;exact(yz<|Hc hi).1 O;have il:=(zah.mp e).1;have jl:=(eP A.ob.tr e).1;obtain⟨a,q',zq⟩:=qx2 (d.ed i j e (G i il) (G j (za2 jl il)));obtain⟨W,_,_,_⟩:=qa4 zq;obtain⟨j',q2,zq⟩:=qx2 (BU i a W);obtain⟨e',_,_,U,_,h6⟩:=qa6 zq;rw[e] at e';cases e';exact⟨a,q2,P j,P i,W,nx (lk:=[]) (za2 jl il),nx (lk:=[]) il,U,h6⟩;obtain⟨j,q',_,h2,u,⟨xs,U,_⟩,_⟩:=BU i a e;have He:∃o,H a=some o:=by
   obtain⟨j1,Aq,aO⟩:=A.ob.tr.up i (by
    by_cases z:i=0;rw[z,d.e0] at e;cases e;exact za1 z) (by rw[<-d.le];exact(zah.mp e).1)
   have il:=(zah.mp Aq).1;obtain⟨a',q1,k1,_,_,⟨ys,k4,_⟩,_⟩:=d.ed i j1 Aq (G i il) (G j1 (za2 aO il));rw[e] at k1;cases k1;exact⟨_,k4⟩
  obtain⟨o,He⟩:=He;simp only[zac] at h;rcases h with rfl|rfl|rfl|rfl|rfl|rfl|h
  rw[A.ob.ob] at u;cases u;exact nJ He O;rw[A.ob.op] at u;cases u;exact h2 (by simp);rw[A.hb] at u;cases u;rw[A.hg] at u;cases u;obtain⟨i',d9⟩:=zaV.mp h;rw[Hc d9] at u;cases u
 have nI:p∈M/\N∈M/\be∈M/\lg∈M/\∀b∈bs,b∈M:=by rw[A.eM];simp;exact λb hb=>.inr (.inr<|.inr<|.inr<|.inr<|.inr hb)
 refine q _ _ _ H8 (λy o e ne=>yB y o (λz=>ne (by rw[z];exact nI.1)) e) (λy h=>?_) (λy h=>?_) ⟨dx,R,N,x,be,lg,bs,es,B8⟩ (λi a e=>?_) ?_ λk hk=>?_;simp only[zac] at h;rcases h with rfl|rfl|rfl|rfl|rfl|rfl|h
 exact .inl nI.1;exact .inr Hb;exact .inl nI.2.1;exact .inr d.fr.1;exact .inl nI.2.2.1;exact .inl nI.2.2.2.1;exact .inl (nI.2.2.2.2 _ h);obtain⟨i,hi⟩:=f' _ h;obtain⟨_,_,_,_,u,_⟩:=BU i y hi;exact u;have e':es[i+1]?=some (V.ref a):=by
  rw[B8.G0,zbc,zaf,e];rfl
 obtain⟨j,q',zq⟩:=qx2 (BU (i+1) a e');obtain⟨_,_,_,⟨xs,U,h5,_⟩,h6,_⟩:=qa6 zq;exact⟨xs,q',U,h5,h6⟩;rw[nx (lk:=[]) A.ob.hr,L.nh];obtain⟨_,g,lk,W,h2,u,U⟩:=d.gt k (G k hk);exact⟨g,lk,P k,u,W,nx (lk:=[]) hk,h2.chg⟩
theorem agC(X:fP K C):bO (Ha C) (λE=>GF K C CF E) GZ GY:=by
 intro vs H Q E h;obtain⟨p,c,M,Ed,here,pars,aA,b',T,b,I,d,J',ps,l,r,rfl,⟨dx,lo,pa,ed,be,lg,bs,gY,A⟩,EP,hc,hl,ht,vz,Z,hI,fE,q⟩:=h;have ka:(aA.map List.length)[here]?=some l.length:=by rw[zaf,hl];rfl
 refine cN<|A.ob.m1 O O<|ag O ⟨p,dx,lo,pa,ed,be,lg,here,_,pars,c,ps,l,r,l.length,O,A.ob,hc,by lia,ka,.inl ⟨O,λH1 Y=>?_⟩⟩;have A1:=A.same Y;refine bw<|Bz<|cB<|ag O ⟨p,C,dx,_,_,O,A1.ob.ob,X.cl,X.m6,qR,_,.inl<|au.of A1.he,λu f2=>?_⟩;have s2:=sameNew (o:=.lst gY) f2;have A2:=A1.same s2;refine bw<|Ql λt B=>?_;have s3:=sameNew (o:=.dK []) B;have A3:=A2.same s3;refine av<|cB<|ag O ⟨p,C,dx,_,_,O,A3.ob.ob,X.cl,X.gH,iW,av<|ag O<|aH ⟨ar,[(Sum.inl ((here:Nat):Int),V.ref c)],O,(by show 1<=15;decide),?_⟩⟩;have ek:jQ [] [((Sum.inl ((here:Nat):Int):Key),V.ref c)]=gu [here] (λ_=>c):=O;rw[ek];have tQ:ay (upd H1 u<|.lst gY) (upd (upd (upd H1 u<|.lst gY) t<|.dK []) t<|.dK<|gu [here] λ_=>c):=λy o e=>by
  have ne:y≠t:=a_ e B;rw[aF ne];exact s3 _ _ e
 have hg:upd (upd (upd H1 u<|.lst gY) t<|.dK []) t (.dK<|gu [here] λ_=>c) t=some (.dK<|gu [here] λ_=>c):=ar;have he:=tQ _ _ ar;have yw:u≠t:=λz=>by rw[<-z,ar] at B;cases B
 have Qp:H t=none:=Y.free (s2.free B);have mz:=(Y.trans s2).trans tQ;generalize upd (upd (upd H1 u<|.lst gY) t<|.dK []) t (.dK<|gu [here] λ_=>c)=H3 at tQ hg he mz⊢;have A4:=A.same mz;refine bw<|cJ<|av<|cB<|ag O ⟨p,C,dx,_,_,O,A4.ob.ob,X.cl,X.gH,iW,aH ⟨cC,λw R=>?_⟩⟩;have W:=sameNew (o:=.lst [V.int (here:Nat)]) R;have hs:upd H3 w (.lst [V.int (here:Nat)]) w=some (.lst<|iV [here]):=ar;have q9:=W _ _ he;have vC:=W _ _ hg;have vA:u≠w:=λz=>by rw[<-z,he] at R;cases R
 have vB:t≠w:=λz=>by rw[<-z,hg] at R;cases R
 have Qq:H w=none:=mz.free R;have vd:=mz.trans W;generalize upd H3 w (.lst [V.int (here:Nat)])=H4 at W hs q9 vC vd⊢;have Qr:H u=none:=Y.free f2;have cW:c∉ [u,t,w]:=λh=>by
  obtain⟨xs,P,_⟩:=hc;simp only[zac,zag,or_false] at h;rcases h with rfl|rfl|rfl
  rw[Qr] at P;cases P;rw[Qp] at P;cases P;rw[Qq] at P;cases P
 have F0:Fl H H4 pars aA T b I J' u t w here r [here] [here] (λ_=>c) (λ_=>r) gY:=by
  refine⟨⟨vd,q9,vC,hs,⟨Qr,Qp,Qq⟩,⟨yw,vA,vB⟩,by simp,λk G=>?_,λk G=>G,⟨here,.head _,λk G=>?_⟩,λk G=>?_,A.le,A.e0,λi j e hi hj=>?_⟩,.head _,O,λk G hn=>absurd G hn⟩;rw[zab.mp G];exact A.ob.hr;rw[zab.mp G];exact⟨zqR _,.inl O⟩;rw[zab.mp G];exact⟨cW,ps,l,hl,hc.same vd,hI,ht⟩;rw[zab.mp hi,zab.mp hj] at e;have:=(eP A.ob.tr e).1;exact (zaC _ this).elim
 have EJ:=A.edj EP;refine tj (λm σ H5=>∃(g x:List Nat)(ad:Nat->Addr)(nt:Nat->List Nat)(es:List V)(U J F:Option V),m=2* (pars.length - g.length)+x.length/\σ=[some<|.ref p,some<|.ref c,some<|.ref u,some<|.ref t,some<|.ref w,U,J,F]/\Fl H H5 pars aA T b I J' u t w here r g x ad nt es/\x.length<=g.length) ⟨_,[here],[here],_,_,gY,none,none,none,O,O,F0,zqR _⟩ ?_;rintro m σ H5 ⟨g,x,ad,nt,es,U,J,F,rfl,rfl,L,Bo⟩;refine bf<|fX<|ag O<|.inl ⟨_,au.of L.f.hs,aC<|N.qP ⟨_,O,?_⟩⟩;have il:(iV x).length=x.length:=by unfold iV;rw[zaa]
 rw[il];rcases List.eq_nil_or_concat x with rfl|⟨gw,node,rfl⟩
 exact iF (agy X A L vz Z q) O;rw[List.concat_eq_append] at L Bo⊢;have ls:(gw++[node]).length=gw.length+1:=by rw[zqA];rfl
 refine iT ?_<|zqT (by lia);refine⟨λa' H'=>∃m',m'<2* (pars.length - g.length)+(gw++[node]).length/\∃(g x:List Nat)(ad:Nat->Addr)(nt:Nat->List Nat)(es:List V)(U J F:Option V),m'=2* (pars.length - g.length)+x.length/\a'=[some<|.ref p,some<|.ref c,some<|.ref u,some<|.ref t,some<|.ref w,U,J,F]/\Fl H H' pars aA T b I J' u t w here r g x ad nt es/\x.length<=g.length,λ_ _ h=>h,?_⟩;refine agr X A EJ L fE vz Z (by lia) _ (λ_ _ h=>h) λhV dP nM mB iC v6 v7 H' L' e1 my=>?_;have c':=vy _ _ L'.f.nd L'.f.lv;exact⟨_,(by rw[ls];lia),hV,dP,nM,mB,iC,_,v6,v7,O,O,L',by lia⟩
end
theorem mv.up(h:mv H es pars aA T)(ht:T<=m):mv H es pars aA m:=λi j e=>by
 obtain⟨a,ps,l,b,zq⟩:=qx4 (h i j e);obtain⟨k,g,f,d,c⟩:=qa5 zq;exact⟨a,ps,l,b,k,g,f,d,zat c ht⟩
theorem bQ.up(A:bQ C H p M Ed here pars aA l T)(ht:T<=b):bQ C H p M Ed here pars aA l b:=by
 obtain⟨dx,lo,c,d,be,lg,f,es,A⟩:=qx7 A;exact⟨dx,lo,c,d,be,lg,f,es,A.ob,A.eM,A.ap,A.he,A.le,A.ea,A.e0,A.ev.up ht,A.en,A.hb,A.lb,A.hk,A.hg,A.nH⟩
section
variable{K:Frag}{C CF:Addr}
inductive vE(C:Addr)(vs:List V)(H:Hp)(Q:VK)(E:XK):Prop|i(p:Addr)(M Ed:List Addr)(here:Nat)(pars:List (Option Nat))(aA:List (List Nat))(t:List (Option Nat))(T:Nat)(c:Addr)(ps:List Pt)(l r:List Nat)(_:vs=[.ref p,.ref c])(_:bQ C H p M Ed here pars aA t T)(_:bM H c ps l r)(_:c∉M)(_:aA[here]?=some l)(_:B.aB ps<=T)(_:T<=14000)(_:pars.length<100000)(_:(((here=0\/here+1≠pars.length)/\∀(b a:Addr)(H':Hp),aN M H H'->H b=none->H a=none->bQ C H' p (M++[b]) (Ed++[a]) pars.length (pars++[some here]) (aA++[r]) (t++[none]) T->Q (.int (pars.length:Nat)) H')\/
   (here≠0/\here+1=pars.length/\∀(d:List Addr)(a:Addr)(H':Hp),aN M H H'->H a=none->(∀x∈d,x∈Ed\/x=a)->bQ C H' p M d here pars (aA.set here r) t (T+B.aB ps)->Q (.int (here:Nat)) H')))
theorem uY(X:fP K C):bO (vE C) (λE=>aI K [("then",pw),("sizes",fQ)] [] [] [("need_over",C,j8 C CF),("many",C,iy C),("do",C,jF C)] (E:=E)) Ez qv:=by
 intro vs H Q E h;obtain⟨p,M,Ed,here,pars,aA,a',T,c,ps,l,r,rfl,A0,hc,kQ,hl,ht,hT,hn,b'⟩:=h;obtain⟨dx,lo,Z,m,be,lg,bs,es,A⟩:=id A0;have ka:(aA.map List.length)[here]?=some l.length:=by rw[zaf,hl];rfl
 refine cN<|gJ C (j8 C CF) O<|ag O ⟨p,dx,_,O,A.ob.ob,cZ,ag O ⟨p,dx,lo,Z,m,be,lg,here,_,pars,c,ps,l,r,l.length,O,A.ob,hc,by lia,ka,.inl ⟨O,λH1 G=>?_⟩⟩⟩
 have g:=A.same G;have eN:=hc.same G;have F:∀{H':Hp}{Q':VK},fA C H' p dx lo Z m be lg here (aA.map List.length) pars->Q' (.int (here:Nat)) H'->ah (aI K [("then",pw),("sizes",fQ)] [] [] [("need_over",C,j8 C CF),("many",C,iy C),("do",C,jF C)] (E:=E)) (.fld (.v 0) "here") [some<|.ref p,some<|.ref c] H' Q':=λB q=>cB (ag O ⟨p,C,dx,_,_,O,B.ob,X.cl,X.gH,iW,q⟩)
 have u:(here=0\/here+1≠pars.length)->az (aI K [("then",pw),("sizes",fQ)] [] [] [("need_over",C,j8 C CF),("many",C,iy C),("do",C,jF C)] (E:=E)) [.ret<|.aU 2 "do" (.v 0) [.v 1]] (Dn Q) [some<|.ref p,some<|.ref c] H1:=λz=>by
  rcases b' with⟨_,q⟩|⟨n0,n1,_⟩
  exact dh (gJ C (jF C) O<|ag O ⟨p,dx,_,O,g.ob.ob,cZ,ag O ⟨p,M,Ed,here,pars,aA,a',T,c,ps,l,r,O,A0.same G,eN,kQ,hl,ht,zat hT (za0 _ _),hn,λb a H' k fb U A'=>q b a H' ((aN.of G).trans k) (G.free fb) (G.free U) A'⟩⟩)
  exact absurd z (by lia)
 by_cases z0:here=0
 exact ZZ (x9<|bf<|F g.ob<|aC<|eV ⟨_,O,by rw[zqT (by lia)];exact iT (iT (u<|.inl z0) O) O⟩)
 refine ZZ<|x9<|bf<|F g.ob<|aC<|eV ⟨_,O,?_⟩;rw[zqF (by lia)]
 refine iF (F8<|bf<|F g.ob<|bT<|j6 C (iy C) O<|ag O ⟨p,dx,_,O,g.ob.ob,cZ,p,dx,lo,Z,m,be,lg,here,_,pars,O,g.ob,aC<|OK<|qO ⟨_,O,?_⟩⟩) O;have J:=A.ob.hr;by_cases z1:here+1=pars.length
 rw[zqT (by lia)]
 refine iF (cQ ?_) O;rcases b' with⟨z,_⟩|⟨_,_,q⟩
 exact absurd z (by lia)
 obtain⟨j,hj,jl⟩:=A.ob.tr.up here (za1 z0) J
 obtain⟨a0,Hf,lj,li,g1,g2,g3,g4,g5⟩:=g.ev here j hj;rw[hl] at g3;cases g3;have cl:ps.length<=2*B.aB ps+1:=by obtain⟨_,_,_,f⟩:=hc;exact j7 ps "" f.ok f.ch
 have d':Hf.length<=2*B.aB Hf+1:=by obtain⟨_,_,_,f⟩:=g4;exact j7 Hf "" f.ok f.ch
 have eM:=A.eM;have nI:lo∈M/\m∈M:=by rw[eM];simp
 obtain⟨ml,me⟩:=nI;have R1:j_ C H1 p dx lo Z m be lg bs here _ _ es _ _ λi=>iV (kids pars i):=⟨g.ob.ob,g.ob.ol,g.ob.op,g.he,g.hb,g.hg,g.hk⟩;have yk:=g.live;have vo:(aA.map List.length).length=pars.length:=A.ob.ln;have dN:aA.length=pars.length:=by rw[<-vo,zaa]
 refine mq<|b_ pw O<|av<|bD<|cB<|ag O ⟨p,C,dx,_,_,O,R1.h1,X.cl,X.m6,qR,F g.ob<|cj R1.h4 (bZ g1)<|av<|ag O<|aH<|OA g4 eN (by lia) (by lia) λa H2 kz P U dc d=>?_⟩
 have A2:=g.same P;have R2:=R1.same P;refine cB<|ag O ⟨p,C,dx,_,_,O,R2.h1,X.cl,X.m6,qR,F A2.ob ⟨m,_,_,here,O,O,R2.h4,?_,?_⟩⟩
 unfold gh;rw[if_pos (za6 _),if_pos (by rw[A.le];lia)];rfl
 have kb:a∉M:=yk.no U;have qW:=yk.same P;have I:aN M H2 (upd H2 m<|.lst<|es.set here<|.ref a):=aN.upd me;have R3:=(R2.set (xs:=es.set here (.ref a)) A.ap).2.2.1;have vp:=qW.upd (c:=m) (xs:=es.set here (.ref a));have Qs:=dc.keep (λo e=>I a o e kb) (qW.bU I);have jD:=(eN.same P).keep (λo e=>I c o e kQ) (qW.bU I);have c':=A2.By I;obtain⟨xs,hx,jz,iX⟩:=id jD;refine mq<|bD<|b_ fQ O<|av<|ag O<|aH ⟨c,xs,ps,O,hx,jz,iX.ok,iX.ch,by lia,λt Y s4 vq=>aC<|tJ vq O ?_⟩
 have eg:(qx ps).sum=r.length:=iX.run.gives;have W:=R3.same s4;rw[eg];refine cB<|ag O ⟨p,C,dx,_,_,O,W.h1,X.cl,X.sJ,yb,cB<|ag O ⟨p,C,dx,_,_,O,W.h1,X.cl,X.gH,iW,lo,_,_,here,O,O,W.h2,?_,?_⟩⟩
 unfold gh;rw[if_pos (za6 _),if_pos (by rw[zaa,vo];lia)];rfl
 have el:((aA.map List.length).map<|λn=>V.int (n:Nat)).set here (V.int (r.length:Nat))=((aA.set here r).map List.length).map (λn=>V.int (n:Nat)):=by rw[zbd,zbd]
 rw[el];have k5:aN M Y (upd Y lo<|.lst<|((aA.set here r).map List.length).map<|λn=>V.int (n:Nat)):=aN.upd ml;have R:=(W.set (xs:=((aA.set here r).map List.length).map (λn=>V.int (n:Nat))) A.ap).1;have N:=(aN.of s4).trans k5;have Qt:=Qs.keep (λo e=>N a o e kb) (vp.bU N);have Qu:=A2.By (I.trans N);generalize upd Y lo (.lst<|((aA.set here r).map List.length).map<|λn=>V.int (n:Nat))=H5 at k5 R N Qt Qu⊢;refine dh<|cB<|ag O ⟨p,C,dx,_,_,O,R.h1,X.cl,X.gH,iW,q (qU<|es.set here<|.ref a) a H5 ((aN.of<|G.trans P).trans<|I.trans N) (G.free U) (λx hx=>?_) ⟨dx,lo,Z,m,be,lg,bs,es.set here<|.ref a,?_⟩⟩
 obtain⟨v,hv,e⟩:=zbe.mp hx;rcases List.mem_or_eq_of_mem_set hv with hv|rfl
 exact .inl (by rw[<-A.ea];exact zbe.mpr ⟨v,hv,e⟩)
 exact .inr (zal e).symm
 have fi:here<es.length:=by rw[A.le];exact J
 refine⟨⟨R.h1,R.h2,R.h3,by rw[zaa,zaS,dN],A.ob.tr,J,A.ob.sz⟩,A.eM,A.ap,R.h4,by rw[zaS];exact A.le,O,?_,λi k e=>?_,λi b e=>?_,R.h5,A.lb,R.h7,R.h6,A.nH⟩
 rw[zaA z0];exact A.e0
 by_cases y:i=here
 subst y;rw[hj] at e;cases e;have nj:i≠j:=zaD jl
 exact⟨a,kz,lj,r,by rw[zaR,if_pos O,if_pos fi],by rw[zaA nj];exact g2,by rw[zaR,if_pos O,if_pos (by rw[dN];exact J)],Qt,by have:=d.aB;exact zat this (za9 g5 _)⟩
 obtain⟨b,qs,lk,li,e1,e2,e3,e4,e5⟩:=Qu i k e;have nk:k≠here:=λw=>by
  subst w;have il:=(zah.mp e).1;have i0:0<i:=by
   cases i with
   |zero=>rw[A.ob.tr.rt] at e;cases e
   |succ n=>exact Nat.succ_pos n
  obtain⟨j2,h2,zO⟩:=A.ob.tr.up i i0 il;rw[h2] at e;cases e;lia
 exact⟨b,qs,lk,li,by rw[zaA λw=>y w.symm];exact e1,by rw[zaA λw=>nk w.symm];exact e2,by rw[zaA λw=>y w.symm];exact e3,e4,za8 e5⟩
 by_cases y:i=here
 subst y;rw[zaR,if_pos O,if_pos fi] at e;cases e;exact kb
 rw[zaA λw=>y w.symm] at e;exact A.en i b e
 rw[zqF (by lia)]
 exact iT (u<|.inr z1) O
end
end L2.N
namespace L2.B
open PySem PySem.Spec PyProof.Rows
end L2.B
namespace L2
open PySem PySem.Spec PyProof.Rows
variable{X:Cx}
end L2
namespace L2.B
open PySem PySem.Spec PyProof.Rows
end L2.B
namespace L2
open PySem PySem.Spec PyProof.Rows PySem.W
end L2
namespace L2
open PySem PySem.Spec PyProof.Rows
section
variable{CX:cE}{S:df}{Γ:ba}{X:Cx}{a v:Expr}{p q:Pos}{ra r:RE}
theorem agE{o:Expr}{f:Str}{p:Pos}{l:Nat}{env:Env}:swapsWith v (some<|.Attribute o f p) l env=pure false:=by
 cases v<;>rfl
theorem agF(G:dE CX S Γ X)(h:PE X a (ah Γ ra))(b:PE X v (ah Γ r)):PS X (.Assign [.Attribute a f p] v q) (cg Γ<|.fI ra f r):=by
 show PS X _ (zd Γ.K (ah Γ ra) (ah Γ r) f);rw[<-G.K];exact IV h b (by exact agE)
end
end L2
namespace L2
open PySem PySem.Spec PyProof.Rows PySem.W
end L2
namespace L2.kW
open PySem PySem.Spec PyProof.Rows L2.B
def bx(i:Nat):Stmt:=(PySem.Challenge.pw_inkloom_k25_more_and_redo.main.body).getD i (.Pass ⟨0,0,0,0⟩)
def Qw:Stmt:=bx 18
abbrev c_(s:Stmt)(k:Nat):Stmt:=(fF s).getD k (.Pass ⟨0,0,0,0⟩)
abbrev da(b:List RS)(k:Nat):RS:=b.getD k (.ret<|.c .aD)
abbrev MX(N:List Str)(s:Stmt)(f g l m k c h:List Str)(b:List RS)(md:Nat):Prop:= ∀{CX:cE}{Γ:ba}{X:Cx},dE CX (uF N (fG s) f g l m k c h md) Γ X->dZ X (fF s) (az Γ b)
abbrev MY(N:List Str)(s:Stmt)(f g l m c d h:List Str)(b:List RS)(md k:Nat):Prop:= ∀{CX:cE}{Γ:ba}{X:Cx},dE CX (uF N (fG s) f g l m c d h md) Γ X->PS X (c_ s k) (cg Γ<|da b k)
theorem QQ{P:Prop}(H:P:=by intro G;have g:=G.toGood;repeat' first|exact aa g|refine aj ?_ ?_|refine ae ?_ ?_|exact ak|exact aq|exact aw|exact ax|refine aK g ?_ ?_|refine aS g ?_ ?_|refine aL G ?_|refine aP g ?_ ?_|refine aX g ?_|refine aZ ?_|refine bj ?_ ?_ ?_|refine bJ ?_|refine bK g ?_|refine bV g ?_ ?_|refine cy g ?_|refine bh ?_|refine cL g ?_ ?_|refine dn g ?_ ?_|refine eo g ?_|refine bN ?_|refine ij ?_|refine iO ?_|exact ig|refine iN g ?_ ?_|refine jf g ?_|refine jg G ?_ ?_|refine jN ?_ ?_|refine jO ?_ ?_ ?_|refine kx ?_|refine ky G ?_|refine ku ?_|refine lO g ?_|refine lM g ?_ ?_ ?_|refine lN ?_ ?_|refine mW ?_ ?_|refine mV ?_|refine oM g ?_|refine oO ?_|refine so G ?_ ?_|refine sf g ?_|refine sq [(_,_),(_,_)] G ?_ ?_|refine sk G ?_ ?_|exact lL|refine sj g ?_|refine uE ?_ ?_ ?_|exact wG|refine wI G ?_ ?_ ?_|refine D4 g ?_|exact iM g|refine D5 g ?_|refine z9 g ?_|exact KW|refine KQ g ?_ ?_|refine KO g ?_|refine ZI g ?_ ?_ ?_|refine aaC g ?_|refine sq [(_,_),(_,_),(_,_)] G ?_ ?_|refine LH g ?_ ?_ ?_|refine ae2 g ?_|refine LD ?_|refine wM ?_ ?_ ?_|exact LB|refine ZO g ?_ ?_|refine cn g ?_ ?_ λ_ g=>?_|exact si|refine z_ λ_ g=>?_|refine PW.pt ?_):P:=H
theorem agG:MX oQ Qw af af K1 af af af af K0 0:=QQ
def Qx:Stmt:=bx 19
theorem agH:MX Ls Qx Lv af af af af af af Lu 0:=QQ
def Qy:Stmt:=bx 20
theorem agI:MX Ec Qy af af K2 af af af af Ee 0:=QQ
def Qz:Stmt:=bx 21
theorem agJ:MX oQ Qz af Z0 K2 af af af af Ef 0:=QQ
def QC:Stmt:=bx 24
theorem agK:MX oQ QC Z1 af Z2 af af af af Ad 0:=QQ
def QD:Stmt:=bx 25
theorem agL:MX K3 QD af af af af af af af K4 0:=QQ
def QE:Stmt:=bx 26
theorem QF:MX Eg QE Z3 af Z4 af af Z5 af Eh 0:=QQ
def QG:Stmt:=bx 27
theorem agM:MX K5 QG af af eE af af af af K6 0:=QQ
def QH:Stmt:=bx 28
theorem QI:MX Ei QH Z6 af Z7 af af af af Ej 0:=QQ
def QJ:Stmt:=inClass (bx 29) 0
theorem agN:MX qv QJ af af LX af af af af M8 0:=QQ
def QK:Stmt:=inClass (bx 29) 1
theorem agO:MX m4 QK af af eE af af af af M9 0:=QQ
def QL:Stmt:=inClass (bx 29) 2
theorem agP:MX m4 QL Na af af af af af af M_ 0:=QQ
def QM:Stmt:=inClass (bx 29) 3
theorem agQ:MX Nb QM af af af ab7 af af af Ff 0:=QQ
def QN:Stmt:=bx 30
theorem agR:MX K7 QN af af eE af af af af K8 0:=QQ
def QO:Stmt:=bx 31
theorem agS:MX K9 QO af af af af af af af K_ 0:=QQ
def QP:Stmt:=bx 32
theorem agT:MX La QP Z8 af af af af af af Lb 0:=QQ
def QR:Stmt:=bx 33
theorem agU:MX Lc QR Z9 Z_ af af af af af Ld 0:=QQ
def QS:Stmt:=bx 35
theorem agV:MX Nl QS af af af af af wQ af Nm 0:=QQ
def QU:Stmt:=bx 36
theorem agW:MX Nn QU aca af Nj Nq af af af Np 0:=QQ
def QV:Stmt:=bx 37
theorem agX:MX Nr QV acb af af Nq Nk wQ af Nt 0:=QQ
def QW:Stmt:=bx 39
theorem agY:MX Nc QW Na af af ab8 af af af Nd 0:=QQ
def QX:Stmt:=bx 40
theorem agZ:MX Nf QX af af af af af wQ af Ng 0:=QQ
def QY:Stmt:=bx 41
theorem ag0:MX Nh QY ab9 af Nj ab_ Nk wQ af Ni 0:=QQ
def QZ:Stmt:=bx 43
theorem ag1:MX LN QZ aaD af mZ af af af af LO 0:=λG=>have g:=G.toGood;(aj (sk G (aS g (cy g<|ae (aa g) ak) aw)<|aj (ZR (ln:=["one","other"]) G (O) (O) (O) (KQ g (LH g (aa g) aw aw)<|LH g (aa g) aw aw) si<|λ_ g=>(aX g<|ae (aa g)<|ae (aa g) ak))<|aj (aL G<|aP g (aa g)<|lM g (aa g) (ij<|aP g aw<|cy g<|ae (aa g) ak) wG) aq)<|aj (aZ<|aK g (aa g) aw) aq)
def Q0:Stmt:=inClass (bx 44) 0
theorem ag2:MX LP Q0 Lv af af af af aaE af LQ 0:=QQ
def Q2:Stmt:=inClass (bx 44) 1
theorem ag3:MX uI Q2 aaF af af LS af Ex af LR 0:=QQ
def Q3:Stmt:=inClass (bx 44) 2
theorem Q4:MX qv Q3 LU af af af af wQ af Ey 0:=QQ
noncomputable def Q5:List RS:=
 [.ret<|.fld (.v 0) "here"]
def Q6:Stmt:=inClass (bx 44) 3
theorem ag4:MX m4 Q6 af af af af af af af Q5 0:=QQ
def Q7:Stmt:=inClass (bx 44) 4
theorem ag5:MX m4 Q7 af af eE af af af af LV 0:=QQ
def Q8:Stmt:=inClass (bx 44) 7
theorem ag6:MX uI Q8 af af af aaG af af af LW 0:=QQ
def Q9:Stmt:=inClass (bx 44) 8
theorem Q_:MX Ag Q9 LU af LX aaH af af af Ah 0:=QQ
def Ra:Stmt:=inClass (bx 44) 9
theorem Rb:MX qv Ra aaI af af aaJ af af af Ez 0:=QQ
def Rc:Stmt:=inClass (bx 44) 10
theorem Rf:MX EA Rc aaK af af af af af af EB 0:=QQ
def Rg:Stmt:=inClass (bx 44) 11
theorem ag7:MX Ph Rg afi af afj afk af af af Pj 0:=QQ
def Rh:Stmt:=inClass (bx 44) 12
theorem ag8:MX m4 Rh af af af LZ af Ex af LY 0:=QQ
def Ri:Stmt:=inClass (bx 44) 13
theorem ag9:MX L8 Ri af af af LZ af Ex af L9 0:=QQ
def Rj:Stmt:=inClass (bx 44) 14
theorem ag_:MX uI Rj af af af aaL af af af L_ 0:=QQ
def Rk:Stmt:=inClass (bx 44) 15
theorem aha:MX Ma Rk af af af af af af af Mb 0:=QQ
def Rl:Stmt:=inClass (bx 44) 16
theorem ahb:MX Mc Rl af af aaM aaN af af af EC 0:=QQ
def Rm:Stmt:=inClass (bx 44) 17
theorem ahc:MX Md Rm af af af af af af af Me 0:=QQ
def Rn:Stmt:=inClass (bx 44) 18
theorem Ro:MX GY Rn af1 af af2 af3 af af af GZ 0:=λG=>have g:=G.toGood;(aj (bJ<|dn g (aa g)<|ae (aa g) ak)<|aj (aL G<|cy g<|ae (bK g<|aa g) ak)<|aj (aL G<|LD<|wM (bK g<|aa g) (aa g) LB)<|aj (aL G<|bh<|ae (bK g<|aa g) ak)<|aj (sk G (aS g (cy g<|ae (aa g) ak) aw)<|aj (aL G<|sf g<|aa g)<|aj (so G (jf g<|dn g (aa g)<|ae (aa g) ak)<|aj (bj (ZO g (aa g)<|aa g) (aj KW aq) aq)<|aj (aL G<|aX g<|ae (bV g (aa g)<|aa g)<|ae (dn g (aa g)<|ae (aa g)<|ae (aa g) ak) ak)<|aj (wI G (aK g (aa g) aw) (aa g)<|aa g)<|aj (bJ<|cL g (aa g)<|ae (aa g) ak)<|aj (bj (aS g (aK g (bK g<|aa g)<|aa g)<|aa g) (aj (jO (aK g (aa g) aw) (aa g)<|aa g) aq)<|aj (jO (aX g<|ae (aK g (aa g) aw) ak) (aa g)<|aa g) aq) aq) aq)<|aj (jg G (aa g)<|aa g)<|aj (agF G (aa g)<|oN (ln:=["node"]) g (O) (sj g<|eo g<|aa g) si<|λ_ g=>(aK g (aX g<|ae (bV g (aa g)<|aa g) ak) aw)) aq)
def Rp:Stmt:=bx 46
theorem ahd:MX Le Rp af af eE af af af af Lf 0:=QQ
def Em:List Str:=["_law_found"]
def Rq:Stmt:=bx 47
theorem ahe:MX Em Rq af af K1 af af af af K0 0:=QQ
def Rr:Stmt:=bx 48
theorem ahf:MX Lg Rr af af af af af af af Lh 0:=QQ
def Rt:Stmt:=bx 49
theorem ahg:MX Li Rt aaa af aab af af af af Lj 0:=QQ
def Ru:Stmt:=bx 50
theorem ahh:MX Lk Ru af af af af af af af Ll 0:=QQ
def Rv:Stmt:=bx 51
theorem ahi:MX Lm Rv aac af aad af af af af Ln 0:=QQ
noncomputable def Ek:List Str:=["_law_parts_here","_law_rows","_law_word_here","_law_thing","_law_found","_law_put","_law_cut","_law_keep","_law_some"]
def Rx:Stmt:=bx 52
theorem ahj:MX Ek Rx af af aae af af af af Lo 0:=QQ
def Ry:Stmt:=bx 53
theorem ahk:MX Lp Ry aaf af af af af af af Lq 0:=QQ
noncomputable def El:List Str:=["_law_text_here","_law_change_here","_law_found","_law_at","_law_word_here","_law_thing"]
def Rz:Stmt:=bx 54
theorem ahl:MX El Rz af af eE af af af af Lr 0:=QQ
def lP:List Str:=["_law_e","_law_some","_law_found"]
def gL:Stmt:=bx 55
theorem ahm:MY lP gL af oR oS af af af af gm 1 0:=by
 intro b Γ X G;have g:=G.toGood;show PS X (.Assign [.Name "_law_some" _] _ _) (cg Γ<|.asg 1 _)
 with_reducible exact(aL G<|bh<|ae (bN<|ae ax<|ae (je g (aa g)<|iM g) ak)<|ae (bN<|ae ax<|ae (je g (aa g)<|iM g) ak)<|ae (bN<|ae ax<|ae (je g (aa g)<|iM g) ak) ak)
theorem ahn:MY lP gL af oR oS af af af af gm 1 1:=by
 intro b Γ X G;have g:=G.toGood;show PS X (.Assign [.Name "_law_some" _] _ _) (cg Γ<|.asg 1 _)
 with_reducible exact(aL G<|aP g (aa g)<|bh<|ae (bN<|ae ax<|ae (je g (aa g)<|iM g) ak)<|ae (bN<|ae ax<|ae (je g (aa g)<|iM g) ak)<|ae (bN<|ae ax<|ae (je g (aa g)<|iM g) ak) ak)
theorem aho:MY lP gL af oR oS af af af af gm 1 2:=by
 intro b Γ X G;have g:=G.toGood;show PS X (.Assign [.Name "_law_some" _] _ _) (cg Γ<|.asg 1 _)
 with_reducible exact(aL G<|aP g (aa g)<|bh<|ae (bN<|ae ax<|ae (je g (aa g)<|iM g) ak)<|ae (bN<|ae ax<|ae (je g (aa g)<|iM g) ak) ak)
theorem ahp:MY lP gL af oR oS af af af af gm 1 3:=by
 intro b Γ X G;have g:=G.toGood;show PS X (.Assign [.Name "_law_some" _] _ _) (cg Γ<|.asg 1 _)
 with_reducible exact(aL G<|aP g (aa g)<|bh<|ae (bN<|ae ax<|ae (je g (aa g)<|iM g) ak)<|ae (bN<|ae ax<|ae (je g (aa g)<|iM g) ak) ak)
theorem ahq:MY lP gL af oR oS af af af af gm 1 4:=by
 intro b Γ X G;have g:=G.toGood;show PS X (.Assign [.Name "_law_some" _] _ _) (cg Γ<|.asg 1 _)
 with_reducible exact(aL G<|aP g (aa g)<|bh<|ae (bN<|ae ax<|ae (je g (aa g)<|iM g) ak)<|ae (bN<|ae ax<|ae (je g (aa g)<|iM g) ak)<|ae (bN<|ae ax<|ae (je g (aa g)<|iM g) ak) ak)
theorem ahr:MY lP gL af oR oS af af af af gm 1 5:=λG=>have g:=G.toGood;(ZS G (O) (O) (O) (aa g) (z_ λ_ g=>(KO g<|aa g))<|λ_ g=>(aa g))
theorem ahs:MY lP gL af oR oS af af af af gm 1 6:=λG=>have g:=G.toGood;(bj (PW.pt<|mW (iO<|KP g<|je g (aa g)<|iM g)<|oO<|iO<|KP g<|je g (aa g)<|ZJ g (O) (by decide) (O)) (aj (bJ<|cL g (aa g)<|ae ax ak) aq) aq)
theorem aht:MY lP gL af oR oS af af af af gm 1 7:=by
 intro b Γ X G;have g:=G.toGood;show PS X (.Return (some _) _) (cg Γ<|.ret _)
 with_reducible exact(aZ<|cL g ax<|ae (aa g) ak)
theorem ahu:MX lP gL af oR oS af af af af gm 1:=by
 intro c Γ X G;have e:fF gL=[c_ gL 0,c_ gL 1,c_ gL 2,c_ gL 3,c_ gL 4,c_ gL 5,c_ gL 6,c_ gL 7]:=O;have b:gm=[da gm 0,da gm 1,da gm 2,da gm 3,da gm 4,da gm 5,da gm 6,da gm 7]:=O;rw[e,b]
 with_reducible exact aj (ahm G) (aj (ahn G)<|aj (aho G)<|aj (ahp G)<|aj (ahq G)<|aj (ahr G)<|aj (ahs G)<|aj (aht G)<|aq)
noncomputable def RA:List Str:=["_law_change_here","_law_text_here","_law_due","_law_at","_law_word_here","_law_thing"]
noncomputable def RB:List RS:=
 [.ite (.not (.iJ .list (.v 0))) [.ret (.c (.bl false))] [],
 .asg 3 (.c<|.int 0),
 .lE [4,5] .list [.v 0] [.ite (.and [(.cmp .Eq (.v 4) (.c (.str "cut"))),(.cmp .NotEq (.sl (.v 1) (some (.v 3)) (some (.bin .Add (.v 3) (.blt .len [.v 5])))) (.v 5))]) [.ret (.c (.bl false))] [],
  .ite (.cmp .Eq (.v 4)<|.c<|.str "cut") [.asg 3<|.bin .Add (.v 3)<|.blt .len [.v 5]] [],
  .ite (.cmp .Eq (.v 4) (.c (.str "keep"))) [.asg 3 (.bin .Add (.v 3) (.v 5))] []],
 .ret (.and [(.cmp .Eq (.v 3) (.blt .len [.v 1])),(.cmp .Eq (.call 0 [.v 1,.v 0]) (.v 2))])]
def ahv:List Str:=["_law_done"]
def ahw:List Str:=["isinstance","list","len"]
def RC:Stmt:=bx 56
theorem ahx:MX RA RC ahv af ahw af af af af RB 0:=QQ
def RD:List Str:=["_law_rows","_law_text_here","_law_here"]
noncomputable def RF:List RS:=
 [.asg 2 (.bI (.v 0) (.c (.str "here"))),
 .drop (.bE .append (.bI (.v 0)<|.c<|.str "above") [.v 2]),
 .drop (.bE .append (.bI (.v 0)<|.c<|.str "latest") [.c .aD]),
 .drop (.bE .append (.bI (.v 0)<|.c<|.str "texts") [.v 1]),
 .dput (.v 0) (.c<|.str "here") (.bin .Sub (.blt .len [(.bI (.v 0)<|.c<|.str "texts")])<|.c<|.int 1),
 .set (.bI (.v 0) (.c (.str "latest"))) (.v 2) (.bI (.v 0) (.c (.str "here")))]
def RH:Stmt:=bx 57
theorem ahy:MX RD RH af af eE af af af af RF 0:=QQ
noncomputable def RJ:List Str:=["_law_history","_law_rows","_law_cell","_law_here","_law_change_here","_law_text_here","_law_found"]
noncomputable def yD:List RS:=
 [.asg 3 (.bI (.v 1) (.c (.str "here"))),
 .asg 4 (.call 0 [(.bin .FloorDiv (.v 2)<|.c<|.int 3),(.ix (.bI (.v 1)<|.c<|.str "texts")<|.v 3),(.bin .Mod (.bin .FloorDiv (.v 2)<|.c<|.int 7)<|.c<|.int 9)]),
 .asg 5 (.call 1 [(.ix (.bI (.v 1)<|.c<|.str "texts")<|.v 3),.v 4]),
 .ite (.cmp .Eq (.bin .Mod (.v 2) (.c (.int 3))) (.c (.int 0))) [.drop (.call 2 [.v 1,.v 5]),
  .asg 6 (.aU 0 "do" (.v 0) [.v 4])] [.ite (.or [(.cmp .Eq (.v 3) (.c (.int 0))),(.cmp .Lt (.v 3) (.bin .Sub (.blt .len [(.bI (.v 1) (.c (.str "texts")))]) (.c (.int 1))))]) [.drop (.call 2 [.v 1,.v 5])] [.set (.bI (.v 1) (.c (.str "texts"))) (.v 3) (.v 5)],
  .asg 6 (.aU 1 "more" (.v 0) [.v 4])],
 .drop (.bE .clear (.v 4) []),
 .ret (.and [(.call 3 [.v 6]),(.cmp .Eq (.v 6) (.bI (.v 1) (.c (.str "here"))))])]
def ahz:List Str:=["_law_change","_law_done","_law_came","_law_whole"]
def ahA:List Str:=["do","more"]
def RK:Stmt:=bx 58
theorem ahB:MX RJ RK ahz af eE ahA af af af yD 0:=QQ
noncomputable def RL:List Str:=["_law_history","_law_rows","_law_here","_law_above","_law_change_here","_law_good"]
noncomputable def RM:List RS:=
 [.asg 2 (.bI (.v 1) (.c (.str "here"))),
 .ite (.cmp .Eq (.v 2)<|.c<|.int 0) [.ret<|.c<|.bl true] [],
 .asg 3 (.ix (.bI (.v 1)<|.c<|.str "above")<|.v 2),
 .asg 4 (.aU 0 "undo" (.v 0) []),
 .ite (.or [(.not<|.call 0 [.v 4,(.ix (.bI (.v 1)<|.c<|.str "texts")<|.v 2),(.ix (.bI (.v 1)<|.c<|.str "texts")<|.v 3)]),(.cmp .NotEq (.aU 1 "now" (.v 0) [])<|.v 3)]) [.ret<|.c<|.bl false] [],
 .drop (.bE .clear (.v 4) []),
 .set (.bI (.v 1)<|.c<|.str "latest") (.v 3) (.v 2),
 .asg 4 (.aU 2 "redo" (.v 0) []),
 .asg 5 (.and [(.call 0 [.v 4,(.ix (.bI (.v 1)<|.c<|.str "texts")<|.v 3),(.ix (.bI (.v 1)<|.c<|.str "texts")<|.v 2)]),(.cmp .Eq (.aU 1 "now" (.v 0) [])<|.v 2)]),
 .drop (.bE .clear (.v 4) []),
 .ret (.v 5)]
def nN:List Str:=["_law_leads"]
def ahC:List Str:=["undo","now","redo"]
def RN:Stmt:=bx 59
theorem ahD:MX RL RN nN af af ahC af af af RM 0:=QQ
noncomputable def nO:List Str:=["_law_history","_law_rows","_law_cell","_law_here","_law_goal","_law_way","_law_one","_law_other"]
noncomputable def fZ:List RS:=
 [.asg 3 (.bI (.v 1) (.c (.str "here"))),
 .ite (.and [(.cmp .Eq (.bin .Mod (.v 2) (.c (.int 3))) (.c (.int 0))),(.cmp .Gt (.v 3) (.c (.int 0)))]) [.dput (.v 1) (.c (.str "here")) (.ix (.bI (.v 1) (.c (.str "above"))) (.v 3)),
  .set (.bI (.v 1)<|.c<|.str "latest") (.bI (.v 1)<|.c<|.str "here") (.v 3),
  .ret (.call 0 [(.aU 0 "undo" (.v 0) []),(.ix (.bI (.v 1) (.c (.str "texts"))) (.v 3)),(.ix (.bI (.v 1) (.c (.str "texts"))) (.bI (.v 1) (.c (.str "here"))))])] [],
 .ite (.and [(.cmp .Eq (.bin .Mod (.v 2) (.c (.int 3))) (.c (.int 1))),(.cmp .IsNot (.ix (.bI (.v 1) (.c (.str "latest"))) (.v 3)) (.c .aD))]) [.dput (.v 1) (.c (.str "here")) (.ix (.bI (.v 1) (.c (.str "latest"))) (.v 3)),
  .ret (.call 0 [(.aU 1 "redo" (.v 0) []),(.ix (.bI (.v 1) (.c (.str "texts"))) (.v 3)),(.ix (.bI (.v 1) (.c (.str "texts"))) (.bI (.v 1) (.c (.str "here"))))])] [],
 .asg 4 (.bin .Mod (.bin .FloorDiv (.v 2)<|.c<|.int 3)<|.blt .len [(.bI (.v 1)<|.c<|.str "texts")]),
 .asg 5 (.aU 2 "way" (.v 0) [.v 3,.v 4]),
 .lE [6,7] .zip [.v 5,(.sl (.v 5) (some<|.c<|.int 1) none)] [.ite (.cmp .Eq (.ix (.bI (.v 1)<|.c<|.str "above")<|.v 7)<|.v 6) [.set (.bI (.v 1)<|.c<|.str "latest") (.v 6)<|.v 7] [.set (.bI (.v 1)<|.c<|.str "latest") (.v 7)<|.v 6]],
 .dput (.v 1) (.c<|.str "here") (.v 4),
 .ret (.call 0 [(.aU 3 "go" (.v 0) [.v 4]),(.ix (.bI (.v 1) (.c (.str "texts"))) (.v 3)),(.ix (.bI (.v 1) (.c (.str "texts"))) (.v 4))])]
def pJ:List Str:=["undo","redo","way","go"]
def gM:Stmt:=bx 60
theorem ahE:MY nO gM nN af mZ pJ af af af fZ 0 0:=by
 intro b Γ X G;have g:=G.toGood;show PS X (.Assign [.Name "_law_here" _] _ _) (cg Γ<|.asg 3 _)
 with_reducible exact(aL G<|bV g (aa g) ax)
theorem ahF:MY nO gM nN af mZ pJ af af af fZ 0 1:=QQ
theorem ahG:MY nO gM nN af mZ pJ af af af fZ 0 2:=QQ
theorem ahH:MY nO gM nN af mZ pJ af af af fZ 0 3:=by
 intro b Γ X G;have g:=G.toGood;show PS X (.Assign [.Name "_law_goal" _] _ _) (cg Γ<|.asg 4 _)
 with_reducible exact(aL G<|aP g (aP g (aa g) aw)<|cy g<|ae (bV g (aa g) ax) ak)
theorem ahI:MY nO gM nN af mZ pJ af af af fZ 0 4:=by
 intro b Γ X G;have g:=G.toGood;show PS X (.Assign [.Name "_law_way" _] _ _) (cg Γ<|.asg 5 _)
 with_reducible exact(aL G<|dn g (aa g)<|ae (aa g)<|ae (aa g) ak)
theorem ahJ:MY nO gM nN af mZ pJ af af af fZ 0 5:=QQ
theorem ahK:MY nO gM nN af mZ pJ af af af fZ 0 6:=QQ
theorem ahL:MY nO gM nN af mZ pJ af af af fZ 0 7:=by
 intro b Γ X G;have g:=G.toGood;show PS X (.Return (some _) _) (cg Γ<|.ret _)
 with_reducible exact(aZ<|aX g<|ae (dn g (aa g)<|ae (aa g) ak)<|ae (aK g (bV g (aa g) ax)<|aa g)<|ae (aK g (bV g (aa g) ax)<|aa g) ak)
theorem ahM:MX nO gM nN af mZ pJ af af af fZ 0:=by
 intro c Γ X G;have e:fF gM=[c_ gM 0,c_ gM 1,c_ gM 2,c_ gM 3,c_ gM 4,c_ gM 5,c_ gM 6,c_ gM 7]:=O;have b:fZ=[da fZ 0,da fZ 1,da fZ 2,da fZ 3,da fZ 4,da fZ 5,da fZ 6,da fZ 7]:=O;rw[e,b]
 with_reducible exact aj (ahE G) (aj (ahF G)<|aj (ahG G)<|aj (ahH G)<|aj (ahI G)<|aj (ahJ G)<|aj (ahK G)<|aj (ahL G)<|aq)
def RO:List Str:=["_law_history","_law_way","_law_change_here","_law_e"]
noncomputable def RP:List RS:=
 [.Dz 4 3 0 [.ite (.cmp .Eq (.v 1) (.c (.int 0))) [.drop (.aU 0 "do" (.v 0) [.v 2])] [.ite (.cmp .Eq (.v 1) (.c (.int 1))) [.drop (.aU 1 "more" (.v 0) [.v 2])] [.drop (.aU 2 "foreign" (.v 0) [.v 2])]]] [.ret (.wk 0 (.v 3))],
 .ret (.c (.str ""))]
def ahN:List Str:=["InkError"]
def ahO:List Str:=["do","more","foreign"]
def ahP:List Str:=["_law_word"]
def RQ:Stmt:=bx 61
theorem ahQ:MX RO RQ af ahN af ahO af af ahP RP 0:=λG=>have g:=G.toGood;(aj (ZU G (O) (O) (λG=>(λg=>(aj (bj (aS g (aa g) aw) (aj (bJ<|dn g (aa g)<|ae (aa g) ak) aq)<|aj (bj (aS g (aa g) aw) (aj (bJ<|dn g (aa g)<|ae (aa g) ak) aq)<|aj (bJ<|dn g (aa g)<|ae (aa g) ak) aq) aq) aq)) G.toGood)<|λG=>(λg=>(aj (aZ<|ZK g<|aa g) aq)) G.toGood)<|aj (aZ ax) aq)
noncomputable def mE:List Str:=["_law_history","_law_rows","_law_cell","_law_size_here","_law_keep","_law_none","_law_way","_law_far"]
noncomputable def fB:List RS:=
 [.asg 3 (.blt .len [(.ix (.bI (.v 1) (.c (.str "texts"))) (.bI (.v 1) (.c (.str "here"))))]),
 .asg 4 (.lst [(.tup [(.c<|.str "keep"),(.bin .Add (.v 3)<|.c<|.int 1)])]),
 .asg 5 (.lst [.c .aD,(.tup [(.tup [(.c<|.str "keep"),(.c<|.int 1)])]),(.lst [(.tup [(.c<|.str "keep"),(.c<|.int 0)])]),(.lst [(.tup [(.c<|.str "keep"),(.c<|.bl true)])]),(.lst [(.tup [(.c<|.str "put"),(.c<|.str "")])]),(.lst [(.tup [(.c<|.str "cut"),(.c<|.str "")])]),(.lst [(.tup [(.c<|.str "take"),(.c<|.int 1)])])]),
 .asg 5 (.bin .Add (.v 5)<|.lst [(.lst [(.lst [(.c<|.str "keep"),(.c<|.int 1)])]),(.lst [(.tup [(.c<|.str "keep"),(.c<|.int 1)]),(.tup [(.c<|.str "keep"),(.c<|.int 1)])]),(.lst [(.tup [(.c<|.str "cut"),(.c<|.str "a")]),(.tup [(.c<|.str "put"),(.c<|.str "b")])]),(.lst [(.tup [(.c<|.str "put"),(.c<|.int 1)])])]),
 .asg 5 (.bin .Add (.v 5)<|.lst [(.lst [(.tup [(.c<|.str "keep"),(.c<|.str "a")])]),(.lst [(.tup [(.c<|.str "keep")])]),(.lst [(.tup [(.c<|.str "put"),(.c<|.str "\t")])]),(.c<|.str "keep"),(.lst [.c .aD])]),
 .asg 6 (.bin .Mod (.v 2)<|.c<|.int 3),
 .ite (.cmp .NotEq (.call 0 [.v 0,.v 6,(.ix (.v 5)<|.bin .Mod (.bin .FloorDiv (.v 2)<|.c<|.int 3)<|.c<|.int 16)])<|.c<|.str "change") [.ret<|.c<|.bl false] [],
 .asg 7 (.lst [.v 4,(.bin .Add (.lst [(.tup [(.c<|.str "put"),(.c<|.str "ab")])])<|.v 4),(.lst [(.tup [(.c<|.str "cut"),(.xt Eo [(.c<|.str "a"),(.bin .Add (.v 3)<|.c<|.int 1)])])]),(.lst [(.tup [(.c<|.str "keep"),(.bin .Add (.bin .Add (.v 3)<|.c<|.int 2)<|.bin .Mod (.bin .FloorDiv (.v 2)<|.c<|.int 48)<|.c<|.int 9)])])]),
 .ret (.cmp .Eq (.call 0 [.v 0,.v 6,(.ix (.v 7) (.bin .Mod (.bin .FloorDiv (.v 2) (.c (.int 3))) (.c (.int 4))))]) (.c (.str "fit")))]
def mF:List Str:=["_law_refused"]
def f_:Stmt:=bx 62
theorem ahR:MY mE f_ mF af eE af af af af fB 0 0:=by
 intro b Γ X G;have g:=G.toGood;show PS X (.Assign [.Name "_law_size_here" _] _ _) (cg Γ<|.asg 3 _)
 with_reducible exact(aL G<|cy g<|ae (aK g (bV g (aa g) ax)<|bV g (aa g) ax) ak)
theorem ahS:MY mE f_ mF af eE af af af af fB 0 1:=by
 intro b Γ X G;have g:=G.toGood;show PS X (.Assign [.Name "_law_keep" _] _ _) (cg Γ<|.asg 4 _)
 with_reducible exact(aL G<|bh<|ae (bN<|ae ax<|ae (aP g (aa g) aw) ak) ak)
theorem ahT:MY mE f_ mF af eE af af af af fB 0 2:=by
 intro b Γ X G;show PS X (.Assign [.Name "_law_none" _] _ _) (cg Γ<|.asg 5 _)
 with_reducible exact(aL G<|bh<|ae lL<|ae (bN<|ae (bN<|ae ax<|ae aw ak) ak)<|ae (bh<|ae (bN<|ae ax<|ae aw ak) ak)<|ae (bh<|ae (bN<|ae ax<|ae ig ak) ak)<|ae (bh<|ae (bN<|ae ax<|ae ax ak) ak)<|ae (bh<|ae (bN<|ae ax<|ae ax ak) ak)<|ae (bh<|ae (bN<|ae ax<|ae aw ak) ak) ak)
theorem ahU:MY mE f_ mF af eE af af af af fB 0 3:=by
 intro b Γ X G;have g:=G.toGood;show PS X (.Assign [.Name "_law_none" _] _ _) (cg Γ<|.asg 5 _)
 with_reducible exact(aL G<|aP g (aa g)<|bh<|ae (bh<|ae (bh<|ae ax<|ae aw ak) ak)<|ae (bh<|ae (bN<|ae ax<|ae aw ak)<|ae (bN<|ae ax<|ae aw ak) ak)<|ae (bh<|ae (bN<|ae ax<|ae ax ak)<|ae (bN<|ae ax<|ae ax ak) ak)<|ae (bh<|ae (bN<|ae ax<|ae aw ak) ak) ak)
theorem ahV:MY mE f_ mF af eE af af af af fB 0 4:=by
 intro b Γ X G;have g:=G.toGood;show PS X (.Assign [.Name "_law_none" _] _ _) (cg Γ<|.asg 5 _)
 with_reducible exact(aL G<|aP g (aa g)<|bh<|ae (bh<|ae (bN<|ae ax<|ae ax ak) ak)<|ae (bh<|ae (bN<|ae ax ak) ak)<|ae (bh<|ae (bN<|ae ax<|ae ax ak) ak)<|ae ax<|ae (bh<|ae lL ak) ak)
theorem ahW:MY mE f_ mF af eE af af af af fB 0 5:=by
 intro b Γ X G;have g:=G.toGood;show PS X (.Assign [.Name "_law_way" _] _ _) (cg Γ<|.asg 6 _)
 with_reducible exact(aL G<|aP g (aa g) aw)
theorem ahX:MY mE f_ mF af eE af af af af fB 0 6:=QQ
theorem ahY:MY mE f_ mF af eE af af af af fB 0 7:=by
 intro b Γ X G;have g:=G.toGood;show PS X (.Assign [.Name "_law_far" _] _ _) (cg Γ<|.asg 7 _)
 with_reducible exact(aL G<|bh<|ae (aa g)<|ae (aP g (bh<|ae (bN<|ae ax<|ae ax ak) ak)<|aa g)<|ae (bh<|ae (bN<|ae ax<|ae (aah ax<|aP g (aa g) aw) ak) ak)<|ae (bh<|ae (bN<|ae ax<|ae (aP g (aP g (aa g) aw)<|aP g (aP g (aa g) aw) aw) ak) ak) ak)
theorem ahZ:MY mE f_ mF af eE af af af af fB 0 8:=by
 intro b Γ X G;have g:=G.toGood;show PS X (.Return (some _) _) (cg Γ<|.ret _)
 with_reducible exact(aZ<|iN g (aX g<|ae (aa g)<|ae (aa g)<|ae (aK g (aa g)<|aP g (aP g (aa g) aw) aw) ak) ax)
theorem ah0:MX mE f_ mF af eE af af af af fB 0:=by
 intro c Γ X G;have e:fF f_=[c_ f_ 0,c_ f_ 1,c_ f_ 2,c_ f_ 3,c_ f_ 4,c_ f_ 5,c_ f_ 6,c_ f_ 7,c_ f_ 8]:=O;have b:fB=[da fB 0,da fB 1,da fB 2,da fB 3,da fB 4,da fB 5,da fB 6,da fB 7,da fB 8]:=O;rw[e,b]
 with_reducible exact aj (ahR G) (aj (ahS G)<|aj (ahT G)<|aj (ahU G)<|aj (ahV G)<|aj (ahW G)<|aj (ahX G)<|aj (ahY G)<|aj (ahZ G)<|aq)
noncomputable def RT:List Str:=["_law_history","_law_rows","_law_cell","_law_many","_law_k","_law_node"]
noncomputable def RU:List RS:=
 [.asg 3 (.blt .len [(.bI (.v 1) (.c (.str "texts")))]),
 .ko 4 .gc [.v 3] [.asg 5 (.bin .Mod (.bin .Add (.v 2) (.v 4)) (.v 3)),
  .ite (.cmp .NotEq (.aU 0 "size" (.v 0) [.v 5]) (.blt .len [(.ix (.bI (.v 1) (.c (.str "texts"))) (.v 5))])) [.ret (.c (.bl false))] []],
 .ret (.c (.bl true))]
def RV:List Str:=["len","range"]
def ah1:List Str:=["size"]
def RW:Stmt:=bx 63
theorem ah2:MX RT RW af af RV ah1 af af af RU 0:=QQ
noncomputable def RX:List Str:=["_law_history","_law_rows","_law_cell","_law_many","_law_k","_law_turn"]
noncomputable def RY:List RS:=
 [.asg 3 (.blt .len [(.bI (.v 1) (.c (.str "texts")))]),
 .ko 4 .gc [(.c (.int 3))] [.asg 5 (.bin .Mod (.bin .Add (.v 2) (.bin .Mult (.v 4) (.bin .Add (.c (.int 1)) (.bin .Mod (.bin .FloorDiv (.v 2) (.c (.int 3))) (.c (.int 2)))))) (.c (.int 3))),
  .ite (.and [(.cmp .Eq (.v 5)<|.c<|.int 0),(.cmp .NotEq (.aU 0 "many" (.v 0) [])<|.v 3)]) [.ret<|.c<|.bl false] [],
  .ite (.and [(.cmp .Eq (.v 5)<|.c<|.int 1),(.not<|.call 0 [.v 0,.v 1,.v 2])]) [.ret<|.c<|.bl false] [],
  .ite (.and [(.cmp .Eq (.v 5) (.c (.int 2))),(.not (.call 1 [.v 0,.v 1]))]) [.ret (.c (.bl false))] []],
 .ret (.c (.bl true))]
def ah3:List Str:=["_law_sizes_right","_law_back_and_on"]
def RZ:Stmt:=bx 64
theorem ah4:MX RX RZ ah3 af RV LS af af af RY 0:=QQ
def R0:List Str:=["_law_history","_law_rows","_law_size_here","_law_far"]
noncomputable def BV:List RS:=
 [.asg 2 (.blt .len [(.ix (.bI (.v 1) (.c (.str "texts"))) (.bI (.v 1) (.c (.str "here"))))]),
 .asg 3 (.lst [(.tup [(.c<|.str "keep"),(.bin .Add (.v 2)<|.c<|.int 1)])]),
 .ite (.cmp .NotEq (.comp none [("_law_history",0),("_law_far",3)] .gc [(.c<|.int 3)] none<|.call 0 [.v 1,.v 0,(.blt .list [.v 2])])<|.bin .Mult (.lst [(.c<|.str "fit")])<|.c<|.int 3) [.ret<|.c<|.bl false] [],
 .drop (.aU 0 "do" (.v 0) [(.sl (.lst [(.tup [(.c<|.str "keep"),.v 2]),(.tup [(.c<|.str "put"),(.c<|.str "a")])]) (some<|.blt .int [(.cmp .Eq (.v 2)<|.c<|.int 0)]) none)]),
 .ret (.cmp .Eq (.comp none [("_law_history",0),("_law_far",3)] .gc [(.c (.int 3))] none (.call 0 [.v 1,.v 0,(.blt .list [.v 2])])) (.bin .Mult (.lst [(.c (.str ""))]) (.c (.int 3))))]
def ah5:List Str:=["len","range","list","int"]
def ah6:List Str:=["do"]
def R9:Stmt:=bx 65
theorem ah7:MX R0 R9 mF af ah5 ah6 af af af BV 0:=QQ
noncomputable def pK:List Str:=["_law_script","_law_text_here","_law_history","_law_rows","_law_cell","_law_good"]
noncomputable def gN:List RS:=
 [.asg 1 (.call 0 [(.call 1 [.v 0,(.c (.int 1))]),(.call 2 [(.call 1 [.v 0,(.c (.int 0))])])]),
 .asg 2 (.make 0 [(.blt .len [.v 1])]),
 .asg 3 (.xt sG [(.c<|.str "above"),(.lst [.c .aD]),(.c<|.str "latest"),(.lst [.c .aD]),(.c<|.str "texts"),(.lst [.v 1]),(.c<|.str "here"),(.c<|.int 0)]),
 .ko 4 .list [(.sl (.v 0) (some (.c (.int 3))) (some (.c (.int 19))))] [.asg 5 (.lB (.cmp .Eq (.bin .Mod (.v 4) (.c (.int 4))) (.c (.int 0))) (.call 3 [.v 2,.v 3,(.bin .FloorDiv (.v 4) (.c (.int 4)))]) (.call 4 [.v 2,.v 3,(.bin .FloorDiv (.v 4) (.c (.int 4)))])),
  .ite (.or [(.not (.v 5)),(.not (.call 5 [.v 2,.v 3,(.bin .FloorDiv (.v 4) (.c (.int 7)))]))]) [.ret (.c (.bl false))] []],
 .ite (.not<|.call 6 [.v 2,.v 3,(.call 1 [.v 0,(.c<|.int 2)])]) [.ret<|.c<|.bl false] [],
 .ite (.or [(.cmp .NotEq (.aU 0 "many" (.v 2) [])<|.blt .len [(.bI (.v 3)<|.c<|.str "texts")]),(.cmp .NotEq (.aU 1 "now" (.v 2) [])<|.bI (.v 3)<|.c<|.str "here"),(.not<|.call 7 [.v 2,.v 3])]) [.ret<|.c<|.bl false] [],
 .ret (.call 8 [.v 2,.v 3])]
noncomputable def q_:List Str:=["_law_text","_law_cell_at","_law_size","_law_moved","_law_put_on","_law_all_asked","_law_all_refused","_law_back_and_on","_law_fits_then"]
def rf:List Str:=["many","now"]
def rg:List Str:=["History"]
def iz:Stmt:=bx 66
theorem ah8:MY pK iz q_ af eE rf rg af af gN 0 0:=by
 intro b Γ X G;have g:=G.toGood;show PS X (.Assign [.Name "_law_text_here" _] _ _) (cg Γ<|.asg 1 _)
 with_reducible exact(aL G<|aX g<|ae (aX g<|ae (aa g)<|ae aw ak)<|ae (aX g<|ae (aX g<|ae (aa g)<|ae aw ak) ak) ak)
theorem ah9:MY pK iz q_ af eE rf rg af af gN 0 1:=by
 intro b Γ X G;have g:=G.toGood;show PS X (.Assign [.Name "_law_history" _] _ _) (cg Γ<|.asg 2 _)
 with_reducible exact(aL G<|z9 g<|ae (cy g<|ae (aa g) ak) ak)
theorem ah_:MY pK iz q_ af eE rf rg af af gN 0 2:=by
 intro b Γ X G;show PS X (.Assign [.Name "_law_rows" _] _ _) (cg Γ<|.asg 3 _)
 with_reducible exact(aL G<|LD<|wM ax (bh<|ae lL ak)<|wM ax (bh<|ae lL ak)<|wM ax (bh<|ae (aa G.toGood) ak)<|wM ax aw LB)
theorem aia:MY pK iz q_ af eE rf rg af af gN 0 3:=QQ
theorem aib:MY pK iz q_ af eE rf rg af af gN 0 4:=QQ
theorem aic:MY pK iz q_ af eE rf rg af af gN 0 5:=QQ
theorem aid:MY pK iz q_ af eE rf rg af af gN 0 6:=by
 intro b Γ X G;have g:=G.toGood;show PS X (.Return (some _) _) (cg Γ<|.ret _)
 with_reducible exact(aZ<|aX g<|ae (aa g)<|ae (aa g) ak)
theorem aie:MX pK iz q_ af eE rf rg af af gN 0:=by
 intro c Γ X G;have e:fF iz=[c_ iz 0,c_ iz 1,c_ iz 2,c_ iz 3,c_ iz 4,c_ iz 5,c_ iz 6]:=O;have b:gN=[da gN 0,da gN 1,da gN 2,da gN 3,da gN 4,da gN 5,da gN 6]:=O;rw[e,b]
 with_reducible exact aj (ah8 G) (aj (ah9 G)<|aj (ah_ G)<|aj (aia G)<|aj (aib G)<|aj (aic G)<|aj (aid G)<|aq)
end L2.kW
namespace L2.kW
open PySem PySem.Spec L2.B L2.N
noncomputable def dz(ab l t:Addr)(here:Nat):List (Key×V):=[(.inr "above",.ref ab),(.inr "latest",.ref l),(.inr "texts",.ref t),(.inr "here",.int (here:Nat))]
section
variable{ab la tx:Addr}{here:Nat}
theorem vn{a b:Str}{r:List (Key×V)}(h:¬a=b):e_ (((Sum.inr a:Key),v)::r) (.inr b)=e_ r (.inr b):=uj λz=>h (Sum.inr.inj z)
theorem BW:e_ (dz ab la tx here) (.inr "above")=some (.ref ab):=O
theorem rj:e_ (dz ab la tx here) (.inr "latest")=some (.ref la):=O
theorem fD:e_ (dz ab la tx here) (.inr "texts")=some (.ref tx):=O
theorem kY:e_ (dz ab la tx here) (.inr "here")=some (.int (here:Nat)):=O
theorem BX:putK (dz ab la tx here) (.inr "here") (V.int (k:Nat))=dz ab la tx k:=O
theorem BY:(dz ab la tx here).length<sizeLine:=dr (by show 4<=1000000;decide)
variable{Γ:ba}{D:Ends}{σ:St}{H:Hp}{r:List RS}{Q:VK}{i:Nat}{w:Addr}{f:Str}{kvs:List (Key×V)}{v:V}
theorem bX(h:σ[i]?=some (some<|.ref w))(d:H w=some (.dK kvs))(b:e_ kvs (.inr f)=some v)(q:Q v H):ah Γ (.bI (.v i)<|.c<|.str f) σ H Q:=⟨_,h,w,v,O,.inl ⟨kvs,.inr f,.inl d,O,b.symm⟩,q⟩
theorem BZ(h:ah Γ e σ H λv H1=>ah Γ (.v i) σ H1 λx H2=>∃a b,x=.ref a/\pV H2 a (.str f) v b/\az Γ r D σ b):az Γ (.dput (.v i) (.c<|.str f) e::r) D σ H:=h
theorem B0(h:σ[i]?=some (some<|.ref w))(g:H w=some (.dK kvs))(d:kvs.length<sizeLine)(c:az Γ r D σ (upd H w<|.dK<|putK kvs (.inr f) v)):ah Γ (.v i) σ H λx H2=>∃a b,x=.ref a/\pV H2 a (.str f) v b/\az Γ r D σ b:=
 ⟨_,h,w,_,O,.inl ⟨kvs,.inr f,g,O,d,O⟩,c⟩
theorem dO{txts:List Str}{d:Nat}{x:Str}(h:txts[d]?=some x):(txts.map V.str)[d]?=some (V.str x)/\(txts.map λx=>x.cps.toList)[d]?=some x.cps.toList:=by
 rw[zaf,zaf,h];exact⟨O,O⟩
theorem yE(h:i<n):gh n ((i:Nat):Int)=some i:=by
 unfold gh;rw[if_pos (za6 _),if_pos (by lia)];rfl
end
structure Rw(H:Hp)(wA ab la tx:Addr)(hr:Nat)(pars lat:List (Option Nat))(txts:List Str):Prop where
 r1:H wA=some (.dK<|dz ab la tx hr)
 r2:H ab=some (.lst<|pars.map gV)
 r3:H la=some (.lst<|lat.map gV)
 r4:H tx=some (.lst<|txts.map V.str)
 nd:[wA,ab,la,tx].Nodup
section
variable{C:Addr}{H H':Hp}{hp wA ab la tx:Addr}{M Ed:List Addr}{hr here:Nat}{pars pars' lat lat' las:List (Option Nat)}{txts txts':List Str}{n:Nat}{T:Nat}{aA:List (List Nat)}
theorem bQ.eZ(A:bQ C H hp M Ed here pars aA las T):eW pars/\here<pars.length/\aA.length=pars.length/\j9 M H:=by
 obtain⟨dx,lo,p,d,be,lg,b,es,A⟩:=qx7 A;have:=A.ob.ln;rw[zaa] at this;exact⟨A.ob.tr,A.ob.hr,this,A.live⟩
theorem Rw.keep(R:Rw H wA ab la tx hr pars lat txts)(k:∀a∈ [wA,ab,la,tx],∀o,H a=some o->H' a=some o):Rw H' wA ab la tx hr pars lat txts:=⟨k _ (by simp) _ R.r1,k _ (by simp) _ R.r2,k _ (by simp) _ R.r3,k _ (by simp) _ R.r4,R.nd⟩
theorem Rw.same(R:Rw H wA ab la tx hr pars lat txts)(s:ay H H'):Rw H' wA ab la tx hr pars lat txts:=R.keep λ_ _ _ e=>s _ _ e
theorem Rw.ne(R:Rw H wA ab la tx hr pars lat txts):(wA≠ab/\wA≠la/\wA≠tx)/\(ab≠la/\ab≠tx)/\la≠tx:=by
 have h:=R.nd;simp at h;exact⟨h.1,h.2.1,h.2.2⟩
theorem Rw.live(R:Rw H wA ab la tx hr pars lat txts):j9 [wA,ab,la,tx] H:=λx h=>by
 simp at h;rcases h with rfl|rfl|rfl|rfl
 exact⟨_,R.r1,nofun⟩;exact⟨_,R.r2,nofun⟩;exact⟨_,R.r3,nofun⟩;exact⟨_,R.r4,nofun⟩
theorem Rw.wU(R:Rw H wA ab la tx hr pars lat txts)(d:Nat):Rw (upd H wA<|.dK<|dz ab la tx d) wA ab la tx d pars lat txts:=by
 obtain⟨⟨a,b,c⟩,_⟩:=R.ne;exact⟨ar,br a.symm R.r2,br b.symm R.r3,br c.symm R.r4,R.nd⟩
theorem Rw.put2(R:Rw H wA ab la tx hr pars lat txts):Rw (upd H ab<|.lst<|pars'.map gV) wA ab la tx hr pars' lat txts:=by
 obtain⟨⟨a,_⟩,⟨b,c⟩,_⟩:=R.ne;exact⟨br a R.r1,ar,br b.symm R.r3,br c.symm R.r4,R.nd⟩
theorem Rw.put3(R:Rw H wA ab la tx hr pars lat txts):Rw (upd H la<|.lst<|lat'.map gV) wA ab la tx hr pars lat' txts:=by
 obtain⟨⟨_,a,_⟩,⟨b,_⟩,c⟩:=R.ne;exact⟨br a R.r1,br b R.r2,ar,br c.symm R.r4,R.nd⟩
theorem Rw.R_(R:Rw H wA ab la tx hr pars lat txts):Rw (upd H tx<|.lst<|txts'.map V.str) wA ab la tx hr pars lat txts':=by
 obtain⟨⟨_,_,a⟩,⟨_,b⟩,c⟩:=R.ne;exact⟨br a R.r1,br b R.r2,br c R.r3,ar,R.nd⟩
structure bz(C:Addr)(H:Hp)(hp wA ab la tx:Addr)(M Ed:List Addr)(hr here:Nat)(pars:List (Option Nat))(txts:List Str)(lat las:List (Option Nat))(n:Nat):Prop where
 hi:bQ C H hp M Ed here pars (txts.map λx=>x.cps.toList) las (320* (n+2 - pars.length))
 R:Rw H wA ab la tx hr pars lat txts
 dj:∀a∈ [wA,ab,la,tx],a∉M/\a∉Ed
 gd:∀x∈txts,good x/\x.length<=400+320*n
 sz:pars.length<=n+1
theorem bz.dN(S:bz C H hp wA ab la tx M Ed hr here pars txts lat las n):txts.length=pars.length:=by
 have:=(bQ.eZ S.hi).2.2.1;rw[zaa] at this;exact this
theorem bz.same(S:bz C H hp wA ab la tx M Ed hr here pars txts lat las n)(s:ay H H'):bz C H' hp wA ab la tx M Ed hr here pars txts lat las n:=⟨S.hi.same s,S.R.same s,S.dj,S.gd,S.sz⟩
theorem bz.at(S:bz C H hp wA ab la tx M Ed hr here pars txts lat las n){d:Nat}(h:d<pars.length):∃x,txts[d]?=some x/\good x/\x.length<=400+320*n:=by
 obtain⟨x,b⟩:∃x,txts[d]?=some x:=⟨_,zay (S.dN▸h)⟩;exact⟨x,b,S.gd x<|zak b⟩
theorem bz.up(S:bz C H hp wA ab la tx M Ed hr here pars txts lat las n){m:Nat}(h:n<=m):bz C H hp wA ab la tx M Ed hr here pars txts lat las m:=⟨S.hi.up<|Nat.mul_le_mul_left _ (by lia),S.R,S.dj,λx b=>⟨(S.gd x b).1,by have:=(S.gd x b).2;lia⟩,by have:=S.sz;exact zat this (za9 h _)⟩
theorem bz.no(S:bz C H hp wA ab la tx M Ed hr here pars txts lat las n){a:Addr}(f:H a=none):a∉M/\a∉Ed/\a∉ [wA,ab,la,tx]:=⟨(S.hi.own f).1,(S.hi.own f).2,S.R.live.no f⟩
theorem bz.B1(S:bz C H hp wA ab la tx M Ed hr here pars txts lat las n)(b:aN [wA,ab,la,tx] H H'):bQ C H' hp M Ed here pars (txts.map λx=>x.cps.toList) las (320* (n+2 - pars.length)):=by
 refine S.hi.keep (λa o h e=>b a o e λq=>?_)<|S.R.live.bU b;rcases h with h|h
 exact(S.dj a q).1 h;exact(S.dj a q).2 h
theorem bz.dz(S:bz C H hp wA ab la tx M Ed hr here pars txts lat las n)(b:aN M H H'):Rw H' wA ab la tx hr pars lat txts:=S.R.keep λa h o e=>b _ _ e (S.dj a h).1
theorem bz.Sa(S:bz C H hp wA ab la tx M Ed hr here pars txts lat las n){b d:List Addr}(c:∀a∈b,a∈M\/H a=none)(E:∀a∈d,a∈Ed\/H a=none):∀a∈ [wA,ab,la,tx],a∉b/\a∉d:=λa h=>by
 obtain⟨o,e,_⟩:=S.R.live a h;refine⟨λq=>?_,λq=>?_⟩;rcases c a q with q|q
 exact(S.dj a h).1 q;rw[q] at e;cases e;rcases E a q with q|q
 exact(S.dj a h).2 q;rw[q] at e;cases e
theorem bz.Hg(S:bz C H hp wA ab la tx M Ed hr here pars txts lat las n){d:Nat}{c:List (Option Nat)}(b:aN M H H')(A:bQ C H' hp M Ed d pars (txts.map λx=>x.cps.toList) c (320* (n+2 - pars.length))):bz C H' hp wA ab la tx M Ed hr d pars txts lat c n:=⟨A,S.dz b,S.dj,S.gd,S.sz⟩
theorem bz.now(S:bz C H hp wA ab la tx M Ed hr here pars txts lat las n)(d:Nat):bz C (upd H wA<|.dK<|kW.dz ab la tx d) hp wA ab la tx M Ed d here pars txts lat las n:=⟨S.B1<|aN.upd (by simp),S.R.wU d,S.dj,S.gd,S.sz⟩
theorem bz.putL(S:bz C H hp wA ab la tx M Ed hr here pars txts lat las n):bz C (upd H la<|.lst<|lat'.map gV) hp wA ab la tx M Ed hr here pars txts lat' las n:=⟨S.B1<|aN.upd (by simp),S.R.put3,S.dj,S.gd,S.sz⟩
theorem bz.clear(S:bz C H hp wA ab la tx M Ed hr here pars txts lat las n){c:Addr}(d:H c=some (.lst xs))(h:c∉M/\c∉Ed/\c∉ [wA,ab,la,tx]):bz C (upd H c<|.lst []) hp wA ab la tx M Ed hr here pars txts lat las n:=by
 have b:aR c H (upd H c<|.lst []):=aR.upd;exact⟨S.hi.keep (λa o q e=>b _ _ e λz=>by lia)<|b.bU d,S.R.keep λa q o e=>b _ _ e λz=>h.2.2 (z ▸ q),S.dj,S.gd,S.sz⟩
end
section
variable{K:Frag}{C CN:Addr}{H H':Hp}{Γ:ba}{σ:St}{Q:VK}
inductive yF(C:Addr)(vs:List V)(H:Hp)(Q:VK)(E:XK):Prop|i(p dx lo b d be lg:Addr)(here:Nat)(bB:List Nat)(pars:List (Option Nat))(_:vs=[.ref p])(_:fA C H p dx lo b d be lg here bB pars)(_:Q (.int (here:Nat)) H)
theorem aif(X:fP K C):bO (yF C) (λE=>aI K [] [] (E:=E)) Q5 m4:=by
 intro b H Q E h;obtain⟨p,dx,lo,c,d,be,lg,here,bB,pars,rfl,A,q⟩:=h;exact dh<|cB<|ag O ⟨p,C,dx,_,_,O,A.ob,X.cl,X.gH,iW,q⟩
inductive rm(vs:List V)(H:Hp)(Q:VK)(E:XK):Prop|i(c:Addr)(ps:List Pt)(x y:Str)(_:vs=[.ref c,.str x,.str y])(_:good x)(_:bM H c ps x.cps.toList y.cps.toList)(_:y.length<=1000000)(_:Q (.bl true) H)
theorem wd1:(("keep":Str)=="cut")=false/\(("keep":Str)=="keep")=true/\(("put":Str)=="cut")=false/\(("put":Str)=="keep")=false/\(("cut":Str)=="cut")=true/\(("cut":Str)=="keep")=false:=by decide+kernel
theorem aii:bO (rm) (λE=>aI K [("_law_done",uZ)] [] (E:=E)) RB RA:=by
 intro vs H Q E h;obtain⟨c,ps,x,y,rfl,I,U,hy,q⟩:=h;obtain⟨xs,G,X,J⟩:=id U;obtain⟨R,w2,P,Y,N,W⟩:=wd1;refine ZZ<|kS<|aeb<|ag O<|Ak G<|iF (cQ ?_) O;refine bw (aC (OG (ag O ⟨c,O,⟨_,au.of G⟩,lh (K:=K) (a:=c) (xs:=xs) (λi σ H2=>H2=H/\qX5 λ(p u:Option V)(l1 l2 l:List Nat)=>qA3 (σ=[some (.ref c),some (.str x),some (.str y),some (.int ((l1.length:Nat):Int)),p,u]) (x.cps.toList=l1++l2) (Run l2 (ps.drop i) l))
  ⟨O,none,none,[],x.cps.toList,_,O,O,J.run⟩ (λi σ H2 _ ⟨e,_⟩=>e ▸ au.of G) ?_ ?_⟩)))
 rintro i v σ H2 hi ⟨rfl,p,u,l1,l2,l,rfl,d,r⟩;obtain⟨w,A,b,rfl,hb⟩:=X.get hi;have ed:ps.drop i=w::ps.drop (i+1):=by rw[zbl ((zah.mp A).1),(zah.mp A).2]
 rw[ed] at r;have Z:=uJ (J.ok w<|zak A);refine aeh hb ?_;cases w with
 |keep n=>
  obtain⟨k,m,t,zq⟩:=qx3 (aed r);obtain⟨g,e3,e4,f⟩:=qa4 zq;refine ZZ<|qN<|bf<|ag O<|aC<|iR ⟨_,O,iF (iF (cQ ?_) O) R⟩;refine ZZ<|bf<|ag O<|aC<|iR ⟨_,O,iF (cQ ?_) R⟩;refine ZZ<|bf<|ag O<|aC<|iR ⟨_,O,iT (bw<|bT<|ag O<|ag O<|mj ?_) w2⟩;refine⟨O,some<|.str "keep",some<|.int n,l1++k,m,t,?_,by rw[d,g,zam],f⟩;rw[zqA,e4,zbg];rfl
 |put z=>
  obtain⟨t,g,f⟩:=aee r;refine ZZ<|qN<|bf<|ag O<|aC<|iR ⟨_,O,iF (iF (cQ ?_) O) P⟩;refine ZZ<|bf<|ag O<|aC<|iR ⟨_,O,iF (cQ ?_) P⟩;exact ZZ<|bf<|ag O<|aC<|iR ⟨_,O,iF (cQ ⟨O,_,_,l1,l2,t,O,d,f⟩) Y⟩
 |cut z=>
  obtain⟨m,g,f⟩:=aef r;have F:=B.len_list z;refine ZZ<|qN<|bf<|ag O<|aC<|iR ⟨_,O,iT ?_ N⟩;refine bf<|OI<|ag O<|ag O ⟨_,O,bT<|ag O<|fX<|ag O ⟨cz Z,mj ⟨_,O,cz I.1,?_⟩⟩⟩;rw[Fb (a:=l1) (c:=m) (by rw[d,g]) _ (by rw[F])];refine ag O<|xH ⟨_,O,iF (cQ ?_) (by simp)⟩;refine ZZ<|bf<|ag O<|aC<|iR ⟨_,O,iT (bw<|bT<|ag O<|fX<|ag O ⟨cz Z,mj<|cQ ?_⟩) N⟩;refine ZZ<|bf<|ag O<|aC<|iR ⟨_,O,iF (cQ ?_) W⟩;refine⟨O,some<|.str "cut",some<|.str z,l1++z.cps.toList,m,l,?_,by rw[d,g,zam],f⟩;rw[zqA,<-F,zbg];rfl
 rintro σ H2 ⟨rfl,p,u,l1,l2,l,rfl,d,r⟩;rw[(Paired.length X),zbX] at r;cases r;refine dh<|F_<|sX<|ag O<|fX<|ag O ⟨cz I.1,eV ⟨_,O,iT ?_ (by rw[B.len_list,d];simp)⟩⟩;refine Ga<|sX<|b_ uZ O<|av<|ag O<|av<|ag O<|aH<|OB I U (by exact hy)<|ag O<|iR ?_;rw[show((⟨y.cps.toList.toArray⟩:Str)==y)=true by simp];exact q
inductive Hh(vs:List V)(H:Hp)(Q:VK)(E:XK):Prop|i(w ab l t:Addr)(h:Nat)(pars lat:List (Option Nat))(txts:List Str)(y:Str)(_:vs=[.ref w,.str y])(_:Rw H w ab l t h pars lat txts)(_:lat.length=pars.length)(_:txts.length=pars.length)(_:pars.length<=1000)(_:h<pars.length)(_:∀H',aN [w,ab,l,t] H H'->Rw H' w ab l t pars.length (pars++[some h]) ((lat++[none]).set h<|some pars.length) (txts++[y])->Q .aD H')
theorem aij:bO (Hh) (λE=>aI K [] [] (E:=E)) RF RD:=by
 intro X H Q E h;obtain⟨w,b,l,x,r,pars,lat,t,y,rfl,R,F,B,Z,J,q⟩:=h;have g:∀{k:Nat},k<=1000->k<sizeLine:=λh=>dr (zat h (za0 _ _));refine bw<|bX O R.r1 kY (cN<|ju<|bX O R.r1 BW ⟨.inl ⟨O,_,au.of R.r2⟩,ag O ⟨_,R.r2,g (by rw[zaa];exact Z),?_⟩⟩);rw[show pars.map gV++[V.int (r:Nat)]=(pars++[some r]).map gV by rw[zap];rfl];have f:=R.put2 (pars':=pars++[some r]);have G:aN [w,b,l,x] H (upd H b<|.lst<|(pars++[some r]).map gV):=aN.upd (by simp);generalize upd H b (.lst<|(pars++[some r]).map gV)=H1 at f G⊢;refine cN<|ju<|bX O f.r1 rj ⟨.inl ⟨O,_,au.of f.r3⟩,aC ⟨_,f.r3,g (by rw[zaa];exact zat (za3 F) Z),?_⟩⟩;rw[show lat.map gV++[V.aD]=(lat++[none]).map gV by rw[zap];rfl];have d:=f.put3 (lat':=lat++[none]);have A:aN [w,b,l,x] H1 (upd H1 l<|.lst<|(lat++[none]).map gV):=aN.upd (by simp);generalize upd H1 l (.lst<|(lat++[none]).map gV)=H2 at d A⊢;refine cN<|ju<|bX O d.r1 fD ⟨.inl ⟨O,_,au.of d.r4⟩,ag O ⟨_,d.r4,g (by rw[zaa];exact zat (za3 B) Z),?_⟩⟩;rw[show t.map V.str++[V.str y]=(t++[y]).map V.str by simp];have c:=d.R_ (txts':=t++[y]);have u:aN [w,b,l,x] H2 (upd H2 x<|.lst<|(t++[y]).map V.str):=aN.upd (by simp);generalize upd H2 x (.lst<|(t++[y]).map V.str)=p at c u⊢;refine BZ<|bT<|fX<|bX O c.r1 fD<|.inl ⟨_,au.of c.r4,aC ⟨trivial,B0 O c.r1 BY ?_⟩⟩;have N:(((t++[y]).map V.str).length:Int) - 1=((pars.length:Nat):Int):=by rw[zaa,zqA];show((t.length+1:Nat):Int) - 1=_;lia
 show az _ _ _ _ (upd p w<|.dK<|putK (dz b l x r) (.inr "here")<|V.int<|(((t++[y]).map V.str).length:Int) - 1);rw[N];have m:=c.wU pars.length;have P:aN [w,b,l,x] p (upd p w<|.dK<|dz b l x pars.length):=aN.upd (by simp);refine mq<|bX O m.r1 kY<|bX O m.r1 rj<|ag O ⟨l,_,_,r,O,O,m.r3,yE (by rw[zaa,zqA];lia),?_⟩;have I:((lat++[none]).map gV).set r (V.int (pars.length:Nat))=((lat++[none]).set r<|some pars.length).map gV:=zbd▸rfl;rw[I];exact q _ ((((G.trans A).trans u).trans P).trans<|aN.upd (by simp)) m.put3
inductive Hi(C:Addr)(vs:List V)(H:Hp)(Q:VK)(E:XK):Prop|i(h w ab l t:Addr)(M Ed:List Addr)(r here:Nat)(pars:List (Option Nat))(txts:List Str)(lat las:List (Option Nat))(n:Nat)(c:Int)(_:vs=[.ref h,.ref w,.int c])(_:bz C H h w ab l t M Ed r here pars txts lat las n)(_:n<=100)(_:Q (.bl true) H)
theorem aik:bO (Hi C) (λE=>aI K [] [] [] [("size",C,Gq C)] (E:=E)) RU RT:=by
 intro I H Q E h;obtain⟨p,w,ab,Z,N,M,Ed,B,here,pars,t,lat,las,n,c,rfl,S,F,q⟩:=h;have W:=S.dN;have P:=S.sz;have R:=S.R;obtain⟨T,U,_,_⟩:=bQ.eZ S.hi;refine bw<|fX<|bX O R.r1 fD<|.inl ⟨_,au.of R.r4,?_⟩;rw[zaa];refine OJ<|ag O ⟨t.length,O,by lia,by lia,CJ (λi σ H2=>∃b u,σ=[some<|.ref p,some<|.ref w,some<|.int c,some<|.int (t.length:Nat),b,u]/\H2=H) ⟨none,none,O,O⟩ ?_ ?_⟩;rintro i σ H2 J ⟨b,u,rfl,rfl⟩;refine bw<|bT<|bT<|ag O<|ag O<|mj<|ag O ⟨by lia,?_⟩;obtain⟨d,G⟩:∃d:Nat,(c+(0+(i:Int))) % ((t.length:Nat):Int)=(d:Nat):=⟨_,(Int.toNat_of_nonneg<|zaL _ (by lia)).symm⟩;have m:d<pars.length:=by
  have:=zaM (c+(0+(i:Int))) (show(0:Int) < ((t.length:Nat):Int) by lia);lia
 show az _ _ _ [some<|V.ref p,some<|V.ref w,some<|V.int c,some<|V.int (t.length:Nat),some<|V.int<|0+(i:Int),some<|V.int<|(c+(0+(i:Int))) % ((t.length:Nat):Int)] _;rw[G];obtain⟨x,g,r,X⟩:=S.at m;obtain⟨dx,lo,l,k,be,lg,Y,es,A⟩:=qx7 S.hi;have f:((t.map λx=>x.cps.toList).map List.length)[d]?=some x.length:=by rw[zaf,(dO g).2];rfl
 exact ZZ<|bf<|gJ C (Gq C) O<|ag O ⟨p,dx,_,O,A.ob.ob,cZ,ag O ⟨p,dx,lo,l,k,be,lg,here,_,pars,d,x.length,O,A.ob,f,fX<|bD<|bX O R.r1 fD<|ag O<|cj R.r4 (bZ (dO g).1) ⟨cz r.1,qO ⟨_,O,iF (cQ ⟨_,_,O,O⟩) (by lia)⟩⟩⟩⟩;rintro σ H2 ⟨b,u,rfl,rfl⟩;exact dh<|aC q
end
end L2.kW
namespace L2.B
open PySem PySem.Spec PyProof.Rows
inductive Sb(vs:List V)(H:Hp)(Q:VK)(E:XK):Prop|i(c:Int)(x:Str)(m:Int)(_:vs=[.int c,.str x,.int m])(_:good x)(_:x.length<=16000)(_:0<=m)(_:m<=100)(_:∀b H' ys ps q,ay H H'->H b=none->H' b=some (.lst ys)->aQ H' ys ps->(∀p∈ps,fU p)->ps.length<=101->aB ps<=40*m.toNat->Run x.cps.toList ps q->Q (.ref b) H')
theorem ail{K:Frag}(vs:List V)(H:Hp)(Q:VK)(E:XK)(h:Sb vs H Q E):az (aI K abV [] (E:=E)) Ln {nx:=λ_ H'=>Q .aD H',rt:=Q} (start Lm vs) H:=by
 obtain⟨c,x,m,rfl,hx,xu,AH,Sd,k⟩:=h;refine⟨zqZ _,λb hb=>?_⟩;refine⟨_,O,m,O,by lia,by lia,CJ (lo:=0) (n:=m.toNat) (λi σ H2=>∃u v w z ys ps l1 l2 q,σ=[some (.int c),some (.str x),some (.int m),some (.ref b),some (.int ((l1.length:Nat):Int)),u,v,w,z]/\ay H H2/\H2 b=some (.lst ys)/\aQ H2 ys ps/\ps.length=i/\(∀p∈ps,fU p)/\
   aB ps<=40*i/\x.cps.toList=l1++l2/\Run l1 ps q)
  ⟨none,none,none,none,[],[],[],x.cps.toList,[],O,sameNew hb,ar,.nil,O,(λp W=>by cases W),zqR _,O,.nil⟩ ?_ ?_⟩
 rintro i σ H2 hi ⟨u,v,w,z,ys,ps,l1,l2,q,rfl,s2,N,cG,hl,aG,U,G,P⟩;have X:=Paired.length cG;have d':x.length=l1.length+l2.length:=by rw[len_list,G];simp
 refine⟨_,O,_,O,c,_,O,?_⟩;generalize mixed c (50+(0+(i:Int)))=f;refine⟨S7,λt1 jX=>?_⟩;have j0:0<=f / 4 % 6:=zaL _ (by decide);have j1:f / 4 % 6<6:=zaM _ (by decide);obtain⟨F,e5,b',i'⟩:=abU (f / 4 % 6) j0 j1;refine⟨_,O,⟨by decide,by decide⟩,(by show(0:Int) <6;decide),.inl ⟨_,_,_,_,O,O,au.of ar,e5,?_⟩⟩;have s3:ay H (upd H2 t1<|.lst [.int 1,.int 2,.int 0,.int 3,.int 5,.int 40]):=s2.trans (sameNew jX);have R:upd H2 t1 (.lst [.int 1,.int 2,.int 0,.int 3,.int 5,.int 40]) b=some (.lst ys):=by rw[aF<|a_ N jX];exact N
 have uN:=cG.mono (dg<|sameNew (o:=.lst [.int 1,.int 2,.int 0,.int 3,.int 5,.int 40]) jX);generalize upd H2 t1 (.lst [.int 1,.int 2,.int 0,.int 3,.int 5,.int 40])=H3 at s3 R uN;refine⟨_,O,_,O,cz (zat xu (za0 _ _)),_,O,trivial,?_⟩;obtain⟨l,Se⟩:∃l,l=(if (x.length:Int) - (l1.length:Int) <F then (x.length:Int) - (l1.length:Int) else F):=⟨_,O⟩;have c':0<=l/\l<=40/\l<= (l2.length:Int):=by
  rw[Se];split<;>lia
 show az _ _ _ [some<|V.int c,some<|V.str x,some<|V.int m,some<|V.ref b,some<|V.int ((l1.length:Nat):Int),some<|V.int<|0+(i:Int),some<|V.int f,some<|V.int F,some<|V.int (if (x.length:Int) - (l1.length:Int) <F then (x.length:Int) - (l1.length:Int) else F)] H3;rw[<-Se];obtain⟨g,lb,e2,Hj⟩:∃g lb,l2=g++lb/\l=(g.length:Int):=⟨l2.take l.toNat,l2.drop l.toNat,(zbW _ _).symm,by rw[zaF];lia⟩;have J:∀(p:Pt)(I:Hp),ay H I->I b=some (.lst ys)->aQ I ys ps->∀t,I t=none->
   upd I t (.tup [.str p.word,p.val]) b=some (.lst ys)/\ys.length<sizeLine/\
    ay H (upd (upd I t<|.tup [.str p.word,p.val]) b<|.lst<|ys++[.ref t])/\aQ (upd (upd I t<|.tup [.str p.word,p.val]) b<|.lst<|ys++[.ref t]) (ys++[.ref t]) (ps++[p]):=by
  intro p I s4 Hk h' t U;have B2:b≠t:=a_ Hk U;refine⟨(by rw[aF B2];exact Hk),dr (by lia),qw s4 hb<|sameBut (sameNew U) aR.upd,?_⟩;refine aQ.snoc (h'.mono<|(sameBut (sameNew U) aR.upd).bU Hk) ⟨t,O,?_⟩;rw[aF B2.symm,ar]
 have Sf:∀p,fU p->∀q∈ps++[p],fU q:=by
  intro p W q hq;rcases zad.mp hq with z|z
  exact aG q z;rw[zab.mp z];exact W
 have a':∀c∈g,SG.cps.contains c=true:=λc hc=>hx.2 c (by rw[G,e2];simp[hc]);refine⟨_,O,(by show(0:Int) <4;decide),_,O,?_⟩;refine gG (λh=>?_)<|λh=>?_;have h3:f % 4=3:=by
  have:=of_decide_eq_true (show decide (V.int (f % 4)=V.int 3)=true from by rw[<-zaI (decide _)];exact h);injection this
 refine⟨_,O,.inl ⟨O,_,au.of R⟩,_,O,_,O,f,F,O,b',by lia,λy A gy ly B=>⟨cK,λt Y=>?_⟩⟩;obtain⟨a1,a2,a3,a4⟩:=qa4 (J (.put y) A (s3.trans B) (B _ _ R) (uN.mono<|dg B) t Y);refine⟨ys,a1,a2,?_⟩;refine⟨_,O,(by show(0:Int) <4;decide),trivial,_,O,iF ?_<|zqF (by lia)⟩;have r:=P.app (Run.put (s:=y) Run.nil);rw[zae,zae] at r;refine⟨_,_,_,_,ys++[V.ref t],ps++[Pt.put y],l1,l2,_,O,a3,ar,a4,by simp[hl],Sf _ ⟨gy,by lia⟩,?_,G,r⟩;rw[Fc];show aB ps+(y.length+0)<=_;lia;have h3:f % 4≠3:=λz=>h (by show(false ^^ decide (V.int (f % 4)=V.int 3))=true;rw[z];rfl);have h4:f % 4<3:=by have:=zaM f (show(0:Int) <4 by decide);lia
 have Z:∀(p:Pt)(A:Hp)(fJ:List V)(q':List Nat),ay H A->A b=some (.lst fJ)->aQ A fJ (ps++[p])->fU p->fo p<=40->Run (l1++g) (ps++[p]) q'->
   ∃u v w z ys ps lV l2 q,[some<|V.int c,some<|V.str x,some<|V.int m,some<|V.ref b,some<|V.int<|(l1.length:Int)+l,some<|V.int<|0+(i:Int),some<|V.int f,some<|V.int F,some<|V.int l]=
    [some<|.int c,some<|.str x,some<|.int m,some<|.ref b,some<|.int ((lV.length:Nat):Int),u,v,w,z]/\ay H A/\A b=some (.lst ys)/\aQ A ys ps/\ps.length=i+1/\(∀p∈ps,fU p)/\
    aB ps<=40* (i+1)/\x.cps.toList=lV++l2/\Run lV ps q:=by
  intro p A fJ q' B h5 f' rp tp r;refine⟨some<|.int<|0+(i:Int),some<|.int f,some<|.int F,some<|.int l,fJ,ps++[p],l1++g,lb,q',?_,B,h5,f',by simp[hl],Sf p rp,?_,by rw[G,e2];simp,r⟩;rw[zqA,Hj,zbg];rw[Fc];have:aB [p]=fo p:=by simp[aB]
  lia
 refine⟨_,O,(by show(0:Int) <4;decide),_,O,?_⟩;refine gG (λh5=>?_)<|λh5=>?_;refine⟨_,O,.inl ⟨O,_,au.of R⟩,_,O,_,O,_,O,_,O,_,O,_,O,cz (zat xu (za0 _ _)),?_⟩;rw[Fb (by rw[G,e2]) l Hj];refine⟨cK,λt Y=>?_⟩;obtain⟨a1,a2,a3,a4⟩:=J (.cut ⟨g.toArray⟩) H3 s3 R uN t Y;refine⟨ys,a1,a2,?_⟩;refine⟨_,O,(by show(0:Int) <4;decide),trivial,_,O,iT ?_<|zqT h4⟩;refine⟨_,O,_,O,?_⟩;have r:=P.app (Run.cut (s:=⟨g.toArray⟩) Run.nil);rw[zae] at r;have ll:(⟨g.toArray⟩:Str).length=g.length:=by rw[len_list]
 exact Z (.cut ⟨g.toArray⟩) _ _ _ a3 ar a4 ⟨⟨by rw[ll];lia,a'⟩,by rw[ll];lia⟩ (by show(⟨g.toArray⟩:Str).length<=40;rw[ll];lia) r;refine⟨_,O,.inl ⟨O,_,au.of R⟩,_,O,cK,λt Y=>?_⟩;obtain⟨a1,a2,a3,a4⟩:=J (.keep l) H3 s3 R uN t Y;refine⟨ys,a1,a2,?_⟩;refine⟨_,O,(by show(0:Int) <4;decide),trivial,_,O,iT ?_<|zqT h4⟩;refine⟨_,O,_,O,?_⟩;have r:=P.app (Run.keep (a:=g) Hj Run.nil);rw[zae] at r;exact Z (.keep l) _ _ _ a3 ar a4 c'.1 (by show 0<=40;decide) r;rintro σ H2 ⟨u,v,w,z,ys,ps,l1,l2,q,rfl,s2,N,cG,hl,aG,U,G,P⟩;have X:=Paired.length cG;have d':x.length=l1.length+l2.length:=by rw[len_list,G];simp
 refine⟨_,O,_,O,cz (zat xu (za0 _ _)),_,O,trivial,cK,λt Y=>⟨cC,λd hd=>?_⟩⟩;have B2:b≠t:=a_ N Y;have uU:upd H2 t (.tup [.str "keep",.int<|(x.length:Int) - (l1.length:Int)]) b=some (.lst ys):=by rw[aF B2];exact N
 have wD:b≠d:=a_ uU hd;have Sh:t≠d:=λz=>by rw[<-z,ar] at hd;cases hd
 have s4:ay H2 (upd (upd H2 t<|.tup [.str "keep",.int<|(x.length:Int) - (l1.length:Int)]) d<|.lst [.ref t]):=(sameNew Y).trans (sameNew hd);refine .inl ⟨b,d,ys,[.ref t],O,O,(by rw[aF wD];exact uU),ar,cz (by simp;lia),λe he=>?_⟩;have B:=s4.trans (sameNew (o:=.lst (ys++[.ref t])) he);have g':H2 e=none:=s4.free he;have r:=P.app (Run.keep (a:=l2) (n:=(x.length:Int) - (l1.length:Int)) (by lia) Run.nil);rw[zae,<-G] at r;have e':t≠e:=λz=>by rw[<-z,aF Sh,ar] at he;cases he
 refine k e _ (ys++[.ref t]) (ps++[.keep<|(x.length:Int) - (l1.length:Int)]) _ (s2.trans B) (s2.free g') ar (aQ.snoc (cG.mono<|dg B) ⟨t,O,?_⟩) ?_ (by simp;lia) ?_ r;rw[aF e',aF Sh,ar];rfl;intro p W;rcases zad.mp W with z|z
 exact aG p z;rw[zab.mp z];show(0:Int)<=_;lia;rw[Fc];show aB ps+(0+0)<=40*m.toNat;exact U
abbrev aiu:List (Str×Sp):=[("_law_neat",Mz),("_law_parts",Sb)]
inductive Hl(vs:List V)(H:Hp)(Q:VK)(E:XK):Prop|i(c:Int)(x:Str)(m:Int)(_:vs=[.int c,.str x,.int m])(_:good x)(_:x.length<=16000)(_:0<=m)(_:m<=100)(_:∀b H' ys ps q,ay H H'->H b=none->H' b=some (.lst ys)->aQ H' ys ps->(∀p∈ps,bA p)->chainOk "" ps=true->ps.length<=305->aB ps<=40*m.toNat->Run x.cps.toList ps q->Q (.ref b) H')
theorem aiv{K:Frag}(vs:List V)(H:Hp)(Q:VK)(E:XK)(h:Hl vs H Q E):az (aI K aiu [] (E:=E)) Lq {nx:=λ_ H'=>Q .aD H',rt:=Q} (start Lp vs) H:=by
 obtain⟨c,x,m,rfl,w,u,F,B,k⟩:=h;refine⟨_,O,_,O,_,O,c,x,m,O,w,u,F,B,λb H1 ys ps q f U N G r J A p=>⟨b,ys,ps,O,N,G,zat J (za0 _ _),by lia,λd H2 g l X I t=>?_⟩⟩;obtain⟨R,P,_⟩:=Ay ps r (by lia);have Z:=xb ps;rw[xa ps r] at Z;exact k d H2 g (fV ps) q (f.trans l) (f.free X) I t P R (by lia) (by rw[xf ps r];exact A)<|Az p
end L2.B
namespace L2.kW
open PySem PySem.Spec L2.B L2.N
section
variable{K:Frag}{C CF:Addr}
inductive Hn(C:Addr)(vs:List V)(H:Hp)(Q:VK)(E:XK):Prop|i(h w ab l t:Addr)(M Ed:List Addr)(here:Nat)(pars:List (Option Nat))(txts:List Str)(lat las:List (Option Nat))(n:Nat)(c:Int)(_:vs=[.ref h,.ref w,.int c])(_:bz C H h w ab l t M Ed here here pars txts lat las n)(_:cR pars here lat las)(_:n<16)(_:∀(d f:List Addr)(g:Nat)(pars':List (Option Nat))(txts':List Str)(lat' b:List (Option Nat))(H':Hp),aN (M++[w,ab,l,t]) H H'->(∀a∈d,a∈M\/H a=none)->bz C H' h w ab l t d f g g pars' txts' lat' b (n+1)->cR pars' g lat' b->Q (.bl true) H')
noncomputable abbrev tU(K:Frag)(C:Addr)(E:XK):ba:=aI K [("_law_change",Hl),("_law_done",uZ),("_law_came",Hh),("_law_whole",EE)] [] [] [("do",C,jF C),("more",C,vE C)] (E:=E)
theorem Si{h w ab b t:Addr}{txts:List Str}{c:Addr}{l:Int}{g u:Option V}(S:bz C H h w ab b t M Ed here here pars txts lat las n)(d:H c=some (.lst xs))(k:c∉M/\c∉Ed/\c∉ [w,ab,b,t])(q:bz C (upd H c<|.lst []) h w ab b t M Ed here here pars txts lat las n->Q (.bl true) (upd H c<|.lst [])):az (tU K C E) (yD.drop 4) (Dn Q) [some<|.ref h,some<|.ref w,some<|.int l,g,some<|.ref c,u,some<|.int (here:Nat)] H:=by
 refine cN<|agq<|ag O ⟨.inl ⟨O,_,au.of d⟩,_,d,?_⟩;have f:=S.clear d k;refine dh<|F_<|b_ EE O<|av<|ag O<|aH ⟨_,O,_,O,iT (Ga<|sX<|ag O<|bX O f.R.r1 kY<|eV ?_) O⟩;rw[zqT O];exact (q f)
theorem aiw:bO (Hn C) (λE=>tU K C E) yD RJ:=by
 intro vs H Q E h;obtain⟨hp,wA,ab,la,tx,M,Ed,here,pars,txts,lat,las,n,c,rfl,S,RG,hn,q⟩:=h;obtain⟨T,hh,_,lv⟩:=bQ.eZ S.hi;have dN:=S.dN;have sz:=S.sz;obtain⟨x,hx,gx,lx⟩:=S.at hh;have m9:(c / 7 % 9).toNat<=8:=by lia
 refine bw<|bX rfl S.R.r1 kY ?_;refine bw<|b_ Hl rfl<|av<|bT<|ag rfl<|aC ⟨⟨by decide,by decide⟩,av<|bD<|bX rfl S.R.r1 fD<|ag rfl<|cj S.R.r4 (bZ (dO hx).1)<|av<|bT<|bT<|ag rfl<|aC ⟨⟨by decide,by decide⟩,aC ⟨(by show(0:Int) <9;decide),aH ⟨_,x,_,rfl,gx,by lia,by lia,by lia,λd H1 ys ps r s1 fd hd pv ok chn _ tt run=>?_⟩⟩⟩⟩;have S1:=S.same s1;have cU:bM H1 d ps x.cps.toList r:=⟨ys,hd,pv,ok,chn,run⟩;obtain⟨n1,n2,n3⟩:=S.no fd;have rl:=run.len;have lxl:=B.len_list x;have er:(⟨r.toArray⟩:Str).cps.toList=r:=by simp
 have gr:good (⟨r.toArray⟩:Str)/\(⟨r.toArray⟩:Str).length<=400+320* (n+1):=by
  have l1:(⟨r.toArray⟩:Str).length=r.length:=by simp[Str.length]
  refine⟨⟨by rw[l1];lia,by rw[er];exact run.good gx.2 λp hp=>aeg (ok p hp)⟩,by rw[l1];lia⟩
 refine bw<|b_ uZ rfl<|av<|bD<|bX rfl S1.R.r1 fD<|ag rfl<|cj S1.R.r4 (bZ (dO hx).1)<|av<|ag rfl<|aH<|OB gx cU (by lia) ?_;have nb:∀{H':Hp},aN [wA,ab,la,tx] H1 H'->bM H' d ps x.cps.toList r:=λb=>cU.keep (λo e=>b _ _ e n3) (S1.R.live.bU b);obtain⟨dx,lo,pa,ed,be,lg,bs,es,A⟩:=qx7 (id S.hi);have no:∀{y:Str},¬y="here"-> ¬y="lengths"-> ¬y="parents"-> ¬y="edges"-> ¬y="below"-> ¬y="last_gone"->(h6 (here:Nat) lo pa ed be lg).lookup y=none:=λa b c d e f=>Bs a b c d e f;have Hq:∀{H':Hp},aN [wA,ab,la,tx] H1 H'->H' hp=some (.ins C dx<|h6 (here:Nat) lo pa ed be lg):=λb=>b _ _ (s1 _ _ A.ob.ob) λz=>(S.dj _ z).1 (by rw[A.eM];simp);have new:∀{H2 H3:Hp}{b a:Addr},aN [wA,ab,la,tx] H1 H2->Rw H2 wA ab la tx pars.length (pars++[some here]) ((lat++[none]).set here<|some pars.length) (txts++[⟨r.toArray⟩])->aN M H2 H3->H2 b=none->H2 a=none->bQ C H3 hp (M++[b]) (Ed++[a]) pars.length (pars++[some here]) ((txts.map λx=>x.cps.toList)++[r]) (las++[none]) (320* (n+2 - pars.length))->az (tU K C E) (yD.drop 4) (Dn Q) [some<|.ref hp,some<|.ref wA,some<|.int c,some<|.int (here:Nat),some<|.ref d,some<|.str ⟨r.toArray⟩,some<|.int (pars.length:Nat)] H3:=by
  intro H2 H3 b a b2 R2 b3 fb fa A3;have f1:∀{z:Addr},H2 z=none->H z=none:=λ{z} f=>by
   cases hz:H z with
   |none=>rfl
   |some o=>
    by_cases m:z∈ [wA,ab,la,tx];obtain⟨o',e',_⟩:=R2.live z m;rw[f] at e';cases e';rw[b2 _ _ (s1 _ _ hz) m] at f;cases f
  obtain⟨ds,hd2,_⟩:=nb b2;have hM:∀z∈M++[b],z∈M\/H z=none:=λz hz=>(zad.mp hz).imp id λh=>by rw[zab.mp h];exact f1 fb
  have hE:∀z∈Ed++[a],z∈Ed\/H z=none:=λz hz=>(zad.mp hz).imp id λh=>by rw[zab.mp h];exact f1 fa
  have S3:bz C H3 hp wA ab la tx (M++[b]) (Ed++[a]) pars.length pars.length (pars++[some here]) (txts++[⟨r.toArray⟩]) ((lat++[none]).set here<|some pars.length) (las++[none]) (n+1):=by
   refine⟨by rw[zap];show bQ _ _ _ _ _ _ _ (_++[(⟨r.toArray⟩:Str).cps.toList]) _ _;rw[er];exact A3.up (Nat.mul_le_mul_left _ (by rw[zqA];show _<=n+1+2 - (pars.length+1);lia)),R2.keep λz hz o e=>b3 _ _ e (S.dj z hz).1,S.Sa hM hE,λy hy=>?_,by rw[zqA];show pars.length+1<=_;exact za9 sz _⟩;rcases zad.mp hy with hy|hy
   exact⟨(S.gd y hy).1,by have:=(S.gd y hy).2;lia⟩;rw[zab.mp hy];exact gr
  have ne:∀{z:Addr},H2 z=none->d≠z:=λf y=>by rw[<-y,hd2] at f;cases f
  refine Si S3 (b3 _ _ hd2 n1) ⟨λz=>?_,λz=>?_,n3⟩ λS4=>q _ _ _ _ _ _ _ _ (λy o e m=>?_) hM S4 (RG.new T hh);rcases zad.mp z with z|z
  exact n1 z;exact ne fb (zab.mp z);rcases zad.mp z with z|z
  exact n2 z;exact ne fa (zab.mp z);rw[zad,not_or] at m;rw[aF λz=>by rw[z,fd] at e;cases e];exact b3 _ _ (b2 _ _ (s1 _ _ e) m.2) m.1
 have Hr:∀{D:Ends}{r2:List RS},(∀H2,aN [wA,ab,la,tx] H1 H2->Rw H2 wA ab la tx pars.length (pars++[some here]) ((lat++[none]).set here<|some pars.length) (txts++[⟨r.toArray⟩])->az (tU K C E) r2 D [some<|.ref hp,some<|.ref wA,some<|.int c,some<|.int (here:Nat),some<|.ref d,some<|.str ⟨r.toArray⟩,none] H2)->az (tU K C E) (.drop (.call 2 [.v 1,.v 5])::r2) D [some<|.ref hp,some<|.ref wA,some<|.int c,some<|.int (here:Nat),some<|.ref d,some<|.str ⟨r.toArray⟩,none] H1:=λk=>cN (b_ Hh rfl<|av<|ag rfl<|av<|ag rfl<|aH ⟨wA,ab,la,tx,here,pars,lat,txts,_,rfl,S1.R,RG.ll,dN,by lia,hh,k⟩);have Sj:∀{H2:Hp},aN [wA,ab,la,tx] H1 H2->bQ C H2 hp M Ed here pars (txts.map λx=>x.cps.toList) las (320* (n+2 - pars.length)):=λb=>S1.B1 b;have more:∀{H2:Hp},aN [wA,ab,la,tx] H1 H2->(here=0\/here+1≠pars.length)->Rw H2 wA ab la tx pars.length (pars++[some here]) ((lat++[none]).set here<|some pars.length) (txts++[⟨r.toArray⟩])->az (tU K C E) [.asg 6<|.aU 1 "more" (.v 0) [.v 4]] {(Dn Q) with nx:=az (tU K C E) (yD.drop 4) (Dn Q)} [some<|.ref hp,some<|.ref wA,some<|.int c,some<|.int (here:Nat),some<|.ref d,some<|.str ⟨r.toArray⟩,none] H2:=λb2 z R2=>bw (gJ C (vE C) rfl<|ag rfl ⟨hp,dx,_,rfl,Hq b2,cZ,ag rfl ⟨hp,M,Ed,here,pars,_,las,320* (n+2 - pars.length),d,ps,_,r,rfl,Sj b2,nb b2,n1,(dO hx).2,by lia,by lia,by lia,.inl ⟨z,λb a H3 b3 fb fa A3=>new b2 R2 b3 fb fa A3⟩⟩⟩);by_cases c3:c % 3=0;refine ZZ (bf<|bT<|ag rfl<|aC ⟨(by show(0:Int) <3;decide),aC<|eV ⟨_,rfl,iT ?_<|zqT c3⟩⟩);refine Hr λH2 b2 R2=>?_;exact bw<|gJ C (jF C) rfl<|ag rfl ⟨hp,dx,_,rfl,Hq b2,cZ,ag rfl ⟨hp,M,Ed,here,pars,_,las,320* (n+2 - pars.length),d,ps,_,r,rfl,Sj b2,nb b2,n1,(dO hx).2,by lia,by lia,by lia,λb a H3 b3 fb fa A3=>new b2 R2 b3 fb fa A3⟩⟩;refine ZZ (bf<|bT<|ag rfl<|aC ⟨(by show(0:Int) <3;decide),aC<|eV ⟨_,rfl,iF ?_<|zqF c3⟩⟩);by_cases z0:here=0;refine ZZ (x9<|bf<|ag rfl<|aC<|eV ⟨_,rfl,?_⟩);rw[zqT (by lia)];exact iT (iT (Hr λH2 b2 R2=>more b2 (.inl z0) R2) rfl) rfl;refine ZZ (x9<|bf<|ag rfl<|aC<|eV ⟨_,rfl,?_⟩);rw[zqF (by lia)];refine iF (F8<|bf<|ag rfl<|bT<|fX<|bX rfl S1.R.r1 fD<|.inl ⟨_,au.of S1.R.r4,aC<|OK<|N.ltI ⟨_,rfl,?_⟩⟩) rfl;rw[zaa];by_cases z1:here+1=pars.length;rw[zqF (by lia)];refine iF ?_ rfl;refine mq<|ag rfl<|bX rfl S1.R.r1 fD<|ag rfl ⟨tx,_,_,here,rfl,rfl,S1.R.r4,yE (by rw[zaa];lia),?_⟩;have e2:(txts.map V.str).set here (V.str ⟨r.toArray⟩)=(txts.set here ⟨r.toArray⟩).map V.str:=by rw[zbd]
 rw[e2];have R2:=S1.R.R_ (txts':=txts.set here ⟨r.toArray⟩);have b2:aN [wA,ab,la,tx] H1 (upd H1 tx<|.lst<|(txts.set here ⟨r.toArray⟩).map V.str):=aN.upd (by simp);generalize upd H1 tx (.lst<|(txts.set here ⟨r.toArray⟩).map V.str)=H2 at R2 b2⊢;refine cQ<|bw<|gJ C (vE C) rfl<|ag rfl ⟨hp,dx,_,rfl,Hq b2,cZ,ag rfl ⟨hp,M,Ed,here,pars,_,las,320* (n+2 - pars.length),d,ps,_,r,rfl,S1.B1 b2,nb b2,n1,(dO hx).2,by lia,by lia,by lia,.inr ⟨z0,z1,λdy a H3 b3 fa hE A3=>?_⟩⟩⟩;have f1:∀{z:Addr},H2 z=none->H z=none:=λ{z} f=>by
  cases hz:H z with
  |none=>rfl
  |some o=>
   by_cases m:z∈ [wA,ab,la,tx];obtain⟨o',e',_⟩:=R2.live z m;rw[f] at e';cases e';rw[b2 _ _ (s1 _ _ hz) m] at f;cases f
 obtain⟨ds,hd2,_⟩:=nb b2;have S3:bz C H3 hp wA ab la tx M dy here here pars (txts.set here ⟨r.toArray⟩) lat las (n+1):=by
  refine⟨?_,R2.keep λz hz o e=>b3 _ _ e (S.dj z hz).1,S.Sa (λz hz=>.inl hz) λz hz=>(hE z hz).imp id λh=>by rw[h];exact f1 fa,λy hy=>?_,za7 sz⟩;rw[zbd];show bQ _ _ _ _ _ _ _ (List.set _ here (⟨r.toArray⟩:Str).cps.toList) _ _;rw[er];exact A3.up (by lia);rcases List.mem_or_eq_of_mem_set hy with hy|rfl
  exact⟨(S.gd y hy).1,by have:=(S.gd y hy).2;lia⟩;exact gr
 refine Si S3 (b3 _ _ hd2 n1) ⟨n1,λz=>?_,n3⟩ λS4=>q _ _ _ _ _ _ _ _ (λy o e m=>?_) (λz hz=>.inl hz) S4 RG;rcases hE d z with z|z
 exact n2 z;rw[<-z,hd2] at fa;cases fa;rw[zad,not_or] at m;rw[aF λz=>by rw[z,fd] at e;cases e];exact b3 _ _ (b2 _ _ (s1 _ _ e) m.2) m.1;rw[zqT (by lia)];exact iT (Hr λH2 b2 R2=>cQ (more b2 (.inr z1) R2)) rfl
variable{CN:Addr}{H:Hp}{Q:VK}{E:XK}{hp wA ab la tx:Addr}{M Ed:List Addr}{hr here j d:Nat}{pars:List (Option Nat)}{txts:List Str}{lat las:List (Option Nat)}{n:Nat}{x y:Str}{rest:List Nat}
abbrev Hs(C:Addr)(H:Hp)(Q:VK)(hp wA ab la tx:Addr)(M Ed:List Addr)(hr d:Nat)(pars:List (Option Nat))(txts:List Str)(lat c:List (Option Nat))(n:Nat)(x y:Str):Prop:= ∀(w:Addr) (ps:List Pt) (H':Hp),aN M H H'->H w=none->bz C H' hp wA ab la tx M Ed hr d pars txts lat c n->bM H' w ps x.cps.toList y.cps.toList->Q (.ref w) H'
theorem Sk(S:bz C H hp wA ab la tx M Ed hr here pars txts lat las n)(p:n<=16)(h:txts[here]?=some x)(g:pars[here]?=some (some j))(c:txts[j]?=some y)(q:Hs C H Q hp wA ab la tx M Ed hr j pars txts lat (gK pars las (here,j)) n x y):vw C CN [.ref hp] H Q E:=by
 have r:=(S.gd x<|zak h).2;have m:=B.len_list x;exact⟨hp,M,Ed,here,pars,_,las,_,O,S.hi,by lia,.inl ⟨j,_,_,g,(dO h).2,(dO c).2,by lia,λw ps H' b k l f t A=>q w ps H' b k (S.Hg b A) f⟩⟩
theorem Sl(S:bz C H hp wA ab la tx M Ed hr here pars txts lat las n)(r:n<=16)(h:txts[here]?=some x)(l:las[here]?=some (some j))(g:pars[j]?=some (some here))(c:txts[j]?=some y)(q:Hs C H Q hp wA ab la tx M Ed hr j pars txts lat (gK pars las (here,j)) n x y):vx C CN [.ref hp] H Q E:=by
 have u:=(S.gd x<|zak h).2;have p:=B.len_list x;exact⟨hp,M,Ed,here,pars,_,las,_,O,S.hi,by lia,.inl ⟨j,_,_,l,g,(dO h).2,(dO c).2,by lia,λw ps H' b k m f t A=>q w ps H' b k (S.Hg b A) f⟩⟩
theorem few:∀p,p<18->(18 - p)* (2* (p - 1))<=144:=by decide
theorem aiz(S:bz C H hp wA ab la tx M Ed hr here pars txts lat las n)(hn:n<=16)(hx:txts[here]?=some x)(hd:d<pars.length)(ew:kT pars here d=here::rest)(hy:txts[d]?=some y)(q:Hs C H Q hp wA ab la tx M Ed hr d pars txts lat (BC pars (here::rest) las) n x y):BF C [.ref hp,.int (d:Nat)] H Q E:=by
 have gx:=(S.gd x<|zak hx).2;have lx:=B.len_list x;have sz:=S.sz;obtain⟨T,hh,_,_⟩:=bQ.eZ S.hi;have lr:rest.length<=2* (pars.length - 1):=by
  obtain⟨u,v,m,e1,_,_,_,_,_,_,hle⟩:=GW T hh hd;rw[ew] at e1;have:=congrArg List.length e1;simp at this;lia
 have k1:=zat (Nat.mul_le_mul (show n+2 - pars.length<=18 - pars.length by lia) lr) (few _ (by lia));have k2:320* (n+2 - pars.length)*rest.length<=85000:=by lia
 exact⟨hp,M,Ed,here,d,pars,_,las,_,rest,_,_,rfl,S.hi,hd,ew,by lia,k2,by lia,(dO hx).2,(dO hy).2,by lia,λw ps H' b fw nw hw ht A=>q w ps H' b fw (S.Hg b A) hw⟩
theorem Sm(T:eW pars)(R:cR pars here lat las)(c:here<pars.length)(h:pars[here]?=some (some j)):cR pars j (lat.set j<|some here) (gK pars las (here,j)):=by
 have b:=R.move T c (.inr h);have e:kd lat (g8 pars (here,j))=lat.set j (some here):=by
  unfold kd g8;rw[if_neg (λz=>by have:=(eP T z).1;have:=(eP T h).1;lia)]
 rw[e] at b;exact b
theorem Sn(T:eW pars)(R:cR pars here lat las)(f:here<pars.length)(k:lat[here]?=some (some j)):las[here]?=some (some j)/\pars[j]?=some (some here)/\cR pars j lat (gK pars las (here,j)):=by
 obtain⟨l,r,h⟩:=BK T f;have c:las[here]?=some (some j):=by
  rw[<-R.no here (r▸λz=>absurd (h here z) (zaC _))];exact k
 have b:=R.ok here j c;refine⟨c,b,?_⟩;have g:=R.move T f (.inl b);have m:=R.ll;have e:kd lat (g8 pars (here,j))=lat:=by
  unfold kd g8;rw[if_pos b];refine List.ext_getElem? λi=>?_;by_cases z:here=i;rw[zaR];lia;rw[zaA z]
 rw[e] at g;exact g
noncomputable abbrev B3(K:Frag)(C CN:Addr)(E:XK):ba:=aI K [("_law_leads",rm)] [] [] [("undo",C,vw C CN),("redo",C,vx C CN),("way",C,yd C),("go",C,BF C)] (E:=E)
theorem aiB{a b:Nat}(S:bz C H hp wA ab la tx M Ed hr here pars txts lat las n)(r:lat.length=pars.length)(w:a<pars.length)(p:b<pars.length)(g:σ[1]?=some (some<|.ref wA))(f:σ[6]?=some (some<|.int (a:Nat)))(h:σ[7]?=some (some<|.int (b:Nat)))(k:∀H',aR la H H'->bz C H' hp wA ab la tx M Ed hr here pars txts (kd lat<|g8 pars (a,b)) las n->D.nx σ H'):
  az (B3 K C CN E) [.ite (.cmp .Eq (.ix (.bI (.v 1)<|.c<|.str "above")<|.v 7)<|.v 6) [.set (.bI (.v 1)<|.c<|.str "latest") (.v 6)<|.v 7] [.set (.bI (.v 1)<|.c<|.str "latest") (.v 7)<|.v 6]] D σ H:=by
 have t:=zay p;have m:∀(i:Nat),i<pars.length->gh (lat.map gV).length ((i:Nat):Int)=some i:=λi u=>yE (by rw[zaa,r];exact u);refine ZZ<|bf<|bD<|bX g S.R.r1 BW<|ag h<|cj S.R.r2 (bZ (by rw[zaf,t];rfl))<|ag f<|yg ⟨_,O,?_⟩;have e:∀i v:Nat,(lat.map gV).set i (V.int (v:Nat))=(lat.set i<|some v).map gV:=λi v=>by rw[zbd];rfl
 by_cases z:pars[b]=some a;refine iT (mq<|ag h<|bX g S.R.r1 rj<|ag f ⟨la,_,_,a,O,O,S.R.r3,m a w,?_⟩) (zqT z);have l:g8 pars (a,b)=(a,b):=by unfold g8;rw[if_pos (by rw[t,z])]
 rw[e];rw[l] at k;exact k _ aR.upd S.putL;refine iF ?_ (zqF z);refine mq<|ag f<|bX g S.R.r1 rj<|ag h ⟨la,_,_,b,O,O,S.R.r3,m b p,?_⟩;have l:g8 pars (a,b)=(b,a):=by
  unfold g8;rw[if_neg];rw[t];exact λq=>z<|zal q
 rw[e];rw[l] at k;exact k _ aR.upd S.putL
inductive Hu(C:Addr)(vs:List V)(H:Hp)(Q:VK)(E:XK):Prop|i(hp wA ab la tx:Addr)(M Ed:List Addr)(here:Nat)(pars:List (Option Nat))(txts:List Str)(lat las:List (Option Nat))(n:Nat)(c:Int)(_:vs=[.ref hp,.ref wA,.int c])(_:bz C H hp wA ab la tx M Ed here here pars txts lat las n)(_:cR pars here lat las)(_:n<=16)(_:∀(d:Nat)(lat' b:List (Option Nat))(H':Hp),aN (M++[wA,ab,la,tx]) H H'->bz C H' hp wA ab la tx M Ed d d pars txts lat' b n->cR pars d lat' b->Q (.bl true) H')
theorem aiC:bO (Hu C) (λE=>B3 K C CN E) fZ nO:=by
 intro vs H Q E h;obtain⟨hp,wA,ab,la,tx,M,Ed,here,pars,txts,lat,las,n,c,rfl,S,RG,hn,q⟩:=h;obtain⟨T,hh,_,_⟩:=bQ.eZ S.hi;have dN:=S.dN;have sz:=S.sz;have ll:=RG.ll;obtain⟨x,hx,gx,lx⟩:=S.at hh;obtain⟨o,ho⟩:∃o,lat[here]?=some o:=⟨_,zay (by lia)⟩;have up:∀{H1 H2:Hp},aN [wA,ab,la,tx] H H1->aN M H1 H2->aN (M++[wA,ab,la,tx]) H H2:=λb1 b2 z o e m=>by
  rw[zad,not_or] at m;exact b2 _ _ (b1 _ _ e m.2) m.1
 have So:az (B3 K C CN E) (fZ.drop 3) (Dn Q) [some<|.ref hp,some<|.ref wA,some<|.int c,some<|.int (here:Nat),none,none,none,none] H:=by
  have t0:(0:Int) < ((txts.length:Nat):Int):=by lia
  obtain⟨d,ed⟩:=zcb (zaL (c / 3) (show((txts.length:Nat):Int)≠0 by lia));have hd:d<pars.length:=by have:=zaM (c / 3) t0;lia
  refine bw<|bT<|bT<|ag rfl<|aC ⟨⟨by decide,by decide⟩,fX<|bX rfl S.R.r1 fD<|.inl ⟨_,au.of S.R.r4,?_⟩⟩;rw[zaa];refine⟨t0,?_⟩;show az _ _ _ [some<|V.ref hp,some<|V.ref wA,some<|V.int c,some<|V.int (here:Nat),some<|V.int<|c / 3 % ((txts.length:Nat):Int),none,none,none] _;rw[ed];obtain⟨y,hy,gy,ly⟩:=S.at hd;obtain⟨_,_,_,_,_,_,hc,⟨r1,e1⟩,⟨q1,f1⟩,xB,_⟩:=GW T hh hd;obtain⟨dx,lo,pa,qY,be,lg,bs,es,A⟩:=id S.hi;refine bw<|Br C (yd C) rfl<|ag rfl ⟨hp,dx,_,rfl,A.ob.ob,cZ,ag rfl<|ag rfl ⟨hp,dx,lo,pa,qY,be,lg,here,_,pars,here,d,rfl,A.ob,hh,hd,λw1 H1 s1 f1w h1=>?_⟩⟩;have S1:=S.same s1;have n1:=(S.no f1w).2.2;refine afZ<|av<|ag rfl<|av<|Gb<|ag rfl<|aC ⟨_,rfl,.inl ⟨_,au.of h1,λw2 f2=>aH ?_⟩⟩;have e5:d6 (iV<|kT pars here d) (some (1:Int)) none=iV r1:=by
   rw[show((1:Int))=((1:Nat):Int) from rfl,Gd,e1];rfl
  rw[e5];have s2:=sameNew (o:=.lst (iV r1)) f2;have h2:upd H1 w2 (.lst<|iV r1) w2=some (.lst<|iV r1):=ar;have n2:=(S1.no f2).2.2;have S2:=S1.same s2;have B4:=s2 _ _ h1;rw[e1] at B4;generalize upd H1 w2 (.lst<|iV r1)=H2 at s2 h2 S2 B4⊢;have ila:la∈ [wA,ab,la,tx]:=by simp
  refine⟨w1,w2,rfl,⟨_,au.of B4⟩,⟨_,au.of h2⟩,af0 (K:=K) (a:=w1) (b:=w2) (xs:=iV (here::r1)) (ys:=iV r1) (by rw[zaa,zaa,zao];exact zbh _)
   (λi σ H3=>∃u6 u7,σ=[some (.ref hp),some (.ref wA),some (.int c),some (.int (here:Nat)),some (.int (d:Nat)),some (.ref w1),u6,u7]/\bz C H3 hp wA ab la tx M Ed here here pars txts ((((here::r1).zip r1).take i).foldl (λla p=>kd la (g8 pars p)) lat) las n/\aN [wA,ab,la,tx] H2 H3) ⟨none,none,rfl,S2,λ_ _ e _=>e⟩ ?_ ?_ ?_⟩
  rintro i σ H3 ⟨u6,u7,rfl,S3,b3⟩;exact⟨au.of<|b3 _ _ B4 n1,au.of<|b3 _ _ h2 n2⟩;rintro i v w σ H3 t hv hw ⟨u6,u7,rfl,S3,b3⟩ ft;rw[zaf] at hv hw;obtain⟨a,ha,rfl⟩:=zaY.mp hv;obtain⟨b,hb,rfl⟩:=zaY.mp hw;have s4:=sameNew (o:=.tup [V.int (a:Nat),V.int (b:Nat)]) ft;refine⟨t,_,rfl,.inl<|aJ.of ar,rfl,_,_,rfl,_,_,rfl,rfl,?_⟩;have mw:a<pars.length:=xB a (by rw[e1];exact zak ha);have oP:b<pars.length:=xB b (by rw[e1];exact zar _ (zak hb));have hz:((here::r1).zip r1)[i]?=some (a,b):=zbZ.mpr ⟨ha,hb⟩;refine aiB (S3.same s4) (by rw[PZ];exact ll) mw oP rfl rfl rfl λH5 b5 S5=>⟨_,_,rfl,?_,λz o e ne=>b5 z o (s4 _ _<|b3 z o e ne) λy=>ne (by rw[y];exact ila)⟩;rw[OL hz,List.foldl_append];exact S5;rintro σ H3 ⟨u6,u7,rfl,S3,b3⟩;have lz:((here::r1).zip r1).length=r1.length:=by rw[List.length_zip,zao];lia
  rw[zaa,zaH (za3 lz)] at S3;have ef:((here::r1).zip r1).foldl (λla p=>kd la<|g8 pars p) lat=PY pars (here::r1) lat:=rfl;rw[ef] at S3;rw[e1] at hc xB;obtain⟨d1,g1,R1⟩:=cR.path T r1 here lat las RG hh (λk h=>xB k<|zar _ h) hc;have Hv:d1=d:=by
   have e:(here::r1)[r1.length]?=some d:=by
    rw[e1] at f1;rw[f1];have:q1.length=r1.length:=by
     have:=congrArg List.length f1;simp only[zao,zqA,zaX] at this;lia
    rw[<-this];simp
   rw[e] at g1;exact(zal g1).symm
  subst Hv;refine BZ<|ag rfl<|B0 rfl S3.R.r1 BY ?_;rw[BX];have S4:=S3.now d1;have b4:aN [wA,ab,la,tx] H3 (upd H3 wA<|.dK<|dz ab la tx d1):=aN.upd (by simp);generalize upd H3 wA (.dK<|dz ab la tx d1)=H4 at S4 b4⊢;obtain⟨B5,Sq,Sr,Ss,Su,Sv,bs4,G7,A4⟩:=qx7 (id S4.hi);refine dh<|b_ rm rfl<|av<|gJ C (BF C) rfl<|ag rfl ⟨hp,B5,_,rfl,A4.ob.ob,cZ,ag rfl<|aiz S4 hn hx hd e1 hy λw ps H5 b5 fw S5 hw=>?_⟩;refine av<|bD<|bX rfl S5.R.r1 fD<|ag rfl<|cj S5.R.r4 (bZ (dO hx).1)<|av<|bD<|bX rfl S5.R.r1 fD<|ag rfl<|cj S5.R.r4 (bZ (dO hy).1)<|aH ⟨w,ps,x,y,rfl,gx,hw,by lia,q d1 _ _ _ (up (λz o e m=>b4 _ _ (b3 _ _ (s2 _ _<|s1 _ _ e) m) m) b5) S5 R1⟩
 refine bw<|bX rfl S.R.r1 kY ?_;have second:az (B3 K C CN E) (fZ.drop 2) (Dn Q) [some<|.ref hp,some<|.ref wA,some<|.int c,some<|.int (here:Nat),none,none,none,none] H:=by
  refine ZZ<|qN<|bf<|bT<|ag rfl<|aC ⟨(by show(0:Int) <3;decide),aC<|eV ⟨_,rfl,gG (λ_=>?_)<|λ_=>iF (cQ So) rfl⟩⟩;refine bf<|bD<|bX rfl S.R.r1 rj<|ag rfl<|cj S.R.r3 (bZ (v:=gV o) (by rw[zaf,ho];rfl))<|aC ⟨rfl,_,rfl,?_⟩;cases o with
  |none=>exact iF (cQ So) rfl
  |some j=>
   obtain⟨vF,hj,R3⟩:=Sn T RG hh ho;have wY:=eP T hj;obtain⟨y,hy,gy,ly⟩:=S.at (d:=j) (by lia);refine iT ?_ rfl;refine BZ<|bD<|bX rfl S.R.r1 rj<|ag rfl<|cj S.R.r3 (bZ (v:=gV (some j)) (by rw[zaf,ho];rfl))<|B0 rfl S.R.r1 BY ?_;rw[show(gV<|some j)=V.int (j:Nat) from rfl,BX];have S2:=S.now j;have b2:aN [wA,ab,la,tx] H (upd H wA<|.dK<|dz ab la tx j):=aN.upd (by simp);generalize upd H wA (.dK<|dz ab la tx j)=H2 at S2 b2⊢;obtain⟨dx,lo,pa,qY,be,lg,bs,es,A⟩:=qx7 (id S2.hi);refine dh<|b_ rm rfl<|av<|j6 C (vx C CN) rfl<|ag rfl ⟨hp,dx,_,rfl,A.ob.ob,cZ,Sl S2 hn hx vF hj hy λw ps H3 b3 fw S3 hw=>?_⟩;refine av<|bD<|bX rfl S3.R.r1 fD<|ag rfl<|cj S3.R.r4 (bZ (dO hx).1)<|av<|bD<|bX rfl S3.R.r1 fD<|bX rfl S3.R.r1 kY<|cj S3.R.r4 (bZ (dO hy).1)<|aH ⟨w,ps,x,y,rfl,gx,hw,by lia,q j _ _ _ (up b2 b3) S3 R3⟩
 refine ZZ<|qN<|bf<|bT<|ag rfl<|aC ⟨(by show(0:Int) <3;decide),aC<|eV ⟨_,rfl,gG (λ_=>?_)<|λ_=>iF (cQ second) rfl⟩⟩;by_cases z0:here=0;exact bf (ag rfl<|aC<|N.qP ⟨_,rfl,by rw[zqF (by lia)];exact iF (cQ second) rfl⟩);refine bf (ag rfl<|aC<|N.qP ⟨_,rfl,?_⟩);rw[zqT (by lia)];refine iT ?_ rfl;obtain⟨j,hj,aO⟩:=T.up here (za1 z0) hh;obtain⟨y,hy,gy,ly⟩:=S.at (d:=j) (za2 aO hh);refine BZ<|bD<|bX rfl S.R.r1 BW<|ag rfl<|cj S.R.r2 (bZ (v:=gV (some j)) (by rw[zaf,hj];rfl))<|B0 rfl S.R.r1 BY ?_;rw[show(gV<|some j)=V.int (j:Nat) from rfl,BX];have S1:=S.now j;have b1:aN [wA,ab,la,tx] H (upd H wA<|.dK<|dz ab la tx j):=aN.upd (by simp);generalize upd H wA (.dK<|dz ab la tx j)=H1 at S1 b1⊢;refine mq<|ag rfl<|bX rfl S1.R.r1 rj<|bX rfl S1.R.r1 kY ⟨la,_,_,j,rfl,rfl,S1.R.r3,yE (by rw[zaa];lia),?_⟩;have e2:(lat.map gV).set j (V.int (here:Nat))=(lat.set j<|some here).map gV:=by rw[zbd];rfl
 rw[e2];have S2:=S1.putL (lat':=lat.set j (some here));have b2:aN [wA,ab,la,tx] H1 (upd H1 la<|.lst<|(lat.set j<|some here).map gV):=aN.upd (by simp);generalize upd H1 la (.lst<|(lat.set j<|some here).map gV)=H2 at S2 b2⊢;obtain⟨dx,lo,pa,qY,be,lg,bs,es,A⟩:=qx7 (id S2.hi);refine dh<|b_ rm rfl<|av<|j6 C (vw C CN) rfl<|ag rfl ⟨hp,dx,_,rfl,A.ob.ob,cZ,Sk S2 hn hx hj hy λw ps H3 b3 fw S3 hw=>?_⟩;refine av<|bD<|bX rfl S3.R.r1 fD<|ag rfl<|cj S3.R.r4 (bZ (dO hx).1)<|av<|bD<|bX rfl S3.R.r1 fD<|bX rfl S3.R.r1 kY<|cj S3.R.r4 (bZ (dO hy).1)<|aH ⟨w,ps,x,y,rfl,gx,hw,by lia,q j _ _ _ (up (b1.trans b2) b3) S3<|Sm T RG hh hj⟩
end
section
variable{K:Frag}{C CN:Addr}
noncomputable abbrev GBk(K:Frag)(C CN:Addr)(E:XK):ba:=aI K [("_law_leads",rm)] [] [] [("undo",C,vw C CN),("now",C,yF C),("redo",C,vx C CN)] (E:=E)
inductive yH(C:Addr)(vs:List V)(H:Hp)(Q:VK)(E:XK):Prop|i(h w ab l t:Addr)(M Ed:List Addr)(here:Nat)(pars:List (Option Nat))(txts:List Str)(lat las:List (Option Nat))(n:Nat)(_:vs=[.ref h,.ref w])(_:bz C H h w ab l t M Ed here here pars txts lat las n)(_:cR pars here lat las)(_:n<=16)(_:∀(lat' c:List (Option Nat))(H':Hp),aN (M++[w,ab,l,t]) H H'->bz C H' h w ab l t M Ed here here pars txts lat' c n->cR pars here lat' c->Q (.bl true) H')
theorem aiH:bO (yH C) (λE=>GBk K C CN E) RM RL:=by
 intro vs H Q E h;obtain⟨hp,wA,ab,la,tx,M,Ed,here,pars,txts,lat,las,n,rfl,S,RG,hn,q⟩:=h;obtain⟨T,hh,_,_⟩:=bQ.eZ S.hi;have ll:=RG.ll;obtain⟨x,hx,gx,lx⟩:=S.at hh;refine bw<|bX rfl S.R.r1 kY ?_;by_cases z0:here=0;subst z0;exact ZZ<|bf<|ag rfl<|aC<|eV ⟨_,rfl,iT (dh<|aC<|q _ _ _ (λ_ _ e _=>e) S RG) rfl⟩;refine ZZ<|bf<|ag rfl<|aC<|eV ⟨_,rfl,?_⟩;rw[zqF (by lia)];refine iF (cQ ?_) rfl;obtain⟨j,hj,aO⟩:=T.up here (za1 z0) hh;have Sw:j<pars.length:=za2 aO hh
 obtain⟨y,hy,gy,ly⟩:=S.at Sw;refine bw<|bD<|bX rfl S.R.r1 BW<|ag rfl<|cj S.R.r2 (bZ (v:=gV (some j)) (by rw[zaf,hj];rfl)) ?_;obtain⟨dx,lo,pa,qY,be,lg,bs,es,A⟩:=id S.hi;refine bw<|j6 C (vw C CN) rfl<|ag rfl ⟨hp,dx,_,rfl,A.ob.ob,cZ,Sk S hn hx hj hy λw ps H1 b1 fw S1 hw=>?_⟩;obtain⟨Bc,lo1,pa1,Hv,be1,lg1,bs1,es1,A1⟩:=id S1.hi;refine ZZ<|x9<|kS<|nE rm rfl<|av<|ag rfl<|av<|bD<|bX rfl S1.R.r1 fD<|ag rfl<|cj S1.R.r4 (bZ (dO hx).1)<|av<|bD<|bX rfl S1.R.r1 fD<|ag rfl<|cj S1.R.r4 (bZ (dO hy).1)<|aH ⟨w,ps,x,y,rfl,gx,hw,by lia,mi<|iF ?_ rfl⟩;refine F8<|bf<|j6 C (yF C) rfl<|ag rfl ⟨hp,Bc,_,rfl,A1.ob.ob,cZ,hp,Bc,lo1,pa1,Hv,be1,lg1,j,_,pars,rfl,A1.ob,ag rfl<|qO ⟨_,rfl,iF (cQ ?_) (by simp)⟩⟩;obtain⟨ws,xp,_⟩:=hw;refine cN<|agq<|ag rfl ⟨.inl ⟨rfl,_,au.of xp⟩,_,xp,?_⟩;have S2:=S1.clear xp (S.no fw);have f2:aN (M++[wA,ab,la,tx]) H (upd H1 w<|.lst []):=λz o e m=>by
  rw[zad,not_or] at m;rw[aF λy=>by rw[y,fw] at e;cases e];exact b1 _ _ e m.1
 generalize upd H1 w (.lst [])=H2 at S2 f2⊢;refine mq<|ag rfl<|bX rfl S2.R.r1 rj<|ag rfl ⟨la,_,_,j,rfl,rfl,S2.R.r3,yE (by rw[zaa];lia),?_⟩;have e2:(lat.map gV).set j (V.int (here:Nat))=(lat.set j<|some here).map gV:=by rw[zbd];rfl
 rw[e2];have S3:=S2.putL (lat':=lat.set j (some here));have f3:aN (M++[wA,ab,la,tx]) H2 (upd H2 la<|.lst<|(lat.set j<|some here).map gV):=aN.upd (by simp);have Hw:=Sm T RG hh hj;obtain⟨vF,hj2,RG4⟩:=Sn T Hw Sw (j:=here) (by rw[zaR,if_pos rfl,if_pos (by lia)]);obtain⟨dx3,lo3,pa3,ed3,be3,lg3,bs3,es3,A3⟩:=id S3.hi;refine bw<|j6 C (vx C CN) rfl<|ag rfl ⟨hp,dx3,_,rfl,A3.ob.ob,cZ,Sl S3 hn hy vF hj2 hx λv qs H4 b4 fv S4 hv=>?_⟩;obtain⟨B5,Sq,Sr,Ss,Su,Sv,bs4,G7,A4⟩:=id S4.hi;refine bw<|F_<|b_ rm rfl<|av<|ag rfl<|av<|bD<|bX rfl S4.R.r1 fD<|ag rfl<|cj S4.R.r4 (bZ (dO hy).1)<|av<|bD<|bX rfl S4.R.r1 fD<|ag rfl<|cj S4.R.r4 (bZ (dO hx).1)<|aH ⟨v,qs,y,x,rfl,gy,hv,by lia,_,rfl,iT ?_ rfl⟩;refine Ga<|sX<|j6 C (yF C) rfl<|ag rfl ⟨hp,B5,_,rfl,A4.ob.ob,cZ,hp,B5,Sq,Sr,Ss,Su,Sv,here,_,pars,rfl,A4.ob,ag rfl<|eV ?_⟩;rw[zqT rfl];obtain⟨us,rO,_⟩:=hv;refine cN<|agq<|ag rfl ⟨.inl ⟨rfl,_,au.of rO⟩,_,rO,?_⟩;refine dh<|ag rfl<|q _ _ _ (λz o e m=>?_) (S4.clear rO<|S3.no fv) RG4;have e3:=f3 _ _ (f2 _ _ e m) m;rw[aF λy=>by rw[y,fv] at e3;cases e3];exact b4 _ _ e3 λy=>m (zav _ y)
noncomputable abbrev yI(K:Frag)(C:Addr)(E:XK):ba:=aI K [("_law_sizes_right",Hi C),("_law_back_and_on",yH C)] [] [] [("many",C,iy C)] (E:=E)
inductive Hx(C:Addr)(vs:List V)(H:Hp)(Q:VK)(E:XK):Prop|i(h w ab l t:Addr)(M Ed:List Addr)(here:Nat)(pars:List (Option Nat))(txts:List Str)(lat las:List (Option Nat))(n:Nat)(c:Int)(_:vs=[.ref h,.ref w,.int c])(_:bz C H h w ab l t M Ed here here pars txts lat las n)(_:cR pars here lat las)(_:n<=16)(_:∀(lat' b:List (Option Nat))(H':Hp),aN (M++[w,ab,l,t]) H H'->bz C H' h w ab l t M Ed here here pars txts lat' b n->cR pars here lat' b->Q (.bl true) H')
theorem aiO:bO (Hx C) (λE=>yI K C E) RY RX:=by
 intro vs H Q E h;obtain⟨p,w,u,m,x,M,Ed,here,pars,d,lat,las,n,c,rfl,S,RG,J,q⟩:=h;refine bw<|fX<|bX O S.R.r1 fD<|.inl ⟨_,au.of S.R.r4,?_⟩;rw[zaa];refine OJ<|aC ⟨3,O,by lia,by lia,CJ (λi σ H2=>∃(I G:Option V)(l f:List (Option Nat)),σ=[some<|.ref p,some<|.ref w,some<|.int c,some<|.int (d.length:Nat),I,G]/\aN (M++[w,u,m,x]) H H2/\bz C H2 p w u m x M Ed here here pars d l f n/\cR pars here l f) ⟨none,none,lat,las,O,λ_ _ e _=>e,S,RG⟩ ?_ ?_⟩;rintro i σ H2 hi ⟨I,G,l,f,rfl,Z,N,B⟩;have m2:=zaL (c / 3) (show(2:Int)≠0 by lia);have Y:uc (0+(i:Int)) (1+c / 3 % 2):=by
  constructor<;>lia
 refine bw<|bT<|bT<|ag O<|bT<|ag O<|bT<|aC<|bT<|bT<|ag O<|aC ⟨⟨by lia,by lia⟩,aC ⟨(by lia),mj ⟨Y,mj<|aC ⟨(by lia),?_⟩⟩⟩⟩;show az (yI K C E) _ _ [some<|V.ref p,some<|.ref w,some<|.int c,some<|.int (d.length:Nat),some<|.int<|0+(i:Int),some<|.int<|(c+(0+(i:Int))* (1+c / 3 % 2)) % 3] H2;generalize (c+(0+(i:Int))* (1+c / 3 % 2)) % 3=t;obtain⟨dx,lo,F,U,be,lg,bs,es,A⟩:=qx7 (id N.hi);have P:∀{X:Hp}{l f:List (Option Nat)},aN (M++[w,u,m,x]) H X->bz C X p w u m x M Ed here here pars d l f n->cR pars here l f->(∃(I G:Option V)(l f:List (Option Nat)),[some<|V.ref p,some<|.ref w,some<|.int c,some<|.int (d.length:Nat),some<|.int<|0+(i:Int),some<|.int t]=[some<|.ref p,some<|.ref w,some<|.int c,some<|.int (d.length:Nat),I,G]/\aN (M++[w,u,m,x]) H X/\bz C X p w u m x M Ed here here pars d l f n/\cR pars here l f):=λa b c=>⟨_,_,_,_,O,a,b,c⟩;have a':∀{D:Ends}{r:List RS},az (yI K C E) r D [some<|V.ref p,some<|.ref w,some<|.int c,some<|.int (d.length:Nat),some<|.int<|0+(i:Int),some<|.int t] H2->az (yI K C E) (.ite (.and [(.cmp .Eq (.v 5)<|.c<|.int 0),(.cmp .NotEq (.aU 0 "many" (.v 0) [])<|.v 3)]) [.ret<|.c<|.bl false] []::r) D [some<|V.ref p,some<|.ref w,some<|.int c,some<|.int (d.length:Nat),some<|.int<|0+(i:Int),some<|.int t] H2:=λk=>by
  refine ZZ<|qN<|bf<|ag O<|aC<|eV ⟨_,O,gG (λ_=>bf<|j6 C (iy C) O<|ag O ⟨p,dx,_,O,A.ob.ob,cZ,p,dx,lo,F,U,be,lg,here,_,pars,O,A.ob,ag O<|qO ⟨_,O,iF (cQ k) (by rw[S.dN];simp)⟩⟩)<|λ_=>iF (cQ k) O⟩
 refine a' ?_;have g:az (yI K C E) [.ite (.and [(.cmp .Eq (.v 5)<|.c<|.int 2),(.not<|.call 1 [.v 0,.v 1])]) [.ret<|.c<|.bl false] []] {(Dn Q) with nx:=λσ H2=>∃(I G:Option V)(l f:List (Option Nat)),σ=[some<|.ref p,some<|.ref w,some<|.int c,some<|.int (d.length:Nat),I,G]/\aN (M++[w,u,m,x]) H H2/\bz C H2 p w u m x M Ed here here pars d l f n/\cR pars here l f} [some<|V.ref p,some<|.ref w,some<|.int c,some<|.int (d.length:Nat),some<|.int<|0+(i:Int),some<|.int t] H2:=by
  refine ZZ<|qN<|bf<|ag O<|aC<|eV ⟨_,O,gG (λ_=>kS<|nE (yH C) O<|av<|ag O<|av<|ag O<|aH ⟨p,w,u,m,x,M,Ed,here,pars,d,l,f,n,O,N,B,J,λc' b' X b3 S3 Hw=>mi<|iF (P (Z.trans b3) S3 Hw) O⟩)<|λ_=>iF (P Z N B) O⟩
 refine ZZ<|qN<|bf<|ag O<|aC<|eV ⟨_,O,gG (λ_=>kS<|nE (Hi C) O<|av<|ag O<|av<|ag O<|av<|ag O<|aH ⟨p,w,u,m,x,M,Ed,here,here,pars,d,l,f,n,c,O,N,zat J (za0 _ _),mi<|iF (cQ g) O⟩)<|λ_=>iF (cQ g) O⟩;rintro σ H2 ⟨I,G,l,f,rfl,Z,N,B⟩;exact dh<|aC<|q _ _ _ Z N B
end
end L2.kW
namespace L2.N
open PySem PySem.Spec L2.B
def nP(P:V->Hp->Prop)(Γ:ba)(σ:St)(e:RE):Prop:= ∀(H:Hp)(Q:VK),(∀v H',ay H H'->P v H'->Q v H')->ah Γ e σ H Q
section
variable{Γ:ba}{σ:St}{P:V->Hp->Prop}
theorem Hy(st:∀ v H H',P v H->ay H H'->P v H'):∀(es:List RE),(∀ e ∈ es,nP P Γ σ e)->∀(H:Hp)(Q:List V->Hp->Prop),(∀ vs H',ay H H'->vs.length=es.length->(∀ v ∈ vs,P v H')->Q vs H')->bg Γ es σ H Q:=by
 intro es;induction es with
 |nil=>exact λ_ H Q q=>aH (q [] H (ay.refl _) rfl (λv hv=>by cases hv))
 |cons e es ih=>
  exact λh H Q q=>av (h e (.head _) H _ λv H1 s1 o=>ih (λe' Fo=>h e' (.tail _ Fo)) H1 _ λvs H2 s2 ln os=>q (v :: vs) H2 (s1.trans s2) (by rw[List.length_cons,ln,List.length_cons]) (λw hw=>by
   rcases List.mem_cons.mp hw with rfl |hw
   exact st _ _ _ o s2;exact os w hw))
theorem Sx(h:∀H,P v H):nP P Γ σ (.c v):=λH Q q=>aC (q v H (ay.refl _)<|h H)
theorem aiP(h:∀a H,H a=some (.lst [v])->P (.ref a) H):nP P Γ σ (.lst [.c v]):=λH Q q=>cJ (av<|aC<|aH ⟨cC,λa b=>q _ _ (sameNew b)<|h _ _ ar⟩)
theorem Sy(st:∀v H H',P v H->ay H H'->P v H'){k:Nat}{es:List RE}{r:List RS}{l:Addr}(d:σ[k]?=some (some<|.ref l))(G:∀e∈es,nP P Γ σ e)(I:H l=some (.lst xs))(E:∀v∈xs,P v H)(R:xs.length+es.length<=1000)(q:∀g u H',ay H H'->H' g=some (.lst u)->(∀v∈u,P v H')->u.length=xs.length+es.length->az Γ r D (σ.set k<|some<|.ref g) H'):
  az Γ (.asg k (.bin .Add (.v k)<|.lst es)::r) D σ H:=by
 refine bw<|bT<|ag d<|cJ<|Hy st es G H _ λb H1 c x w=>⟨cz (by lia),λm N=>?_⟩;have f:=sameNew (o:=.lst b) N;refine .inl ⟨l,m,xs,b,O,O,f _ _<|c _ _ I,ar,cz (by lia),λp K=>?_⟩;have t:=f.trans (sameNew (o:=.lst (xs++b)) K);refine q p (xs++b) _ (c.trans t) ar (λv A=>?_) (by rw[zqA,x]);rcases zad.mp A with h|h
 exact st _ _ _ (E v h) (c.trans t);exact st _ _ _ (w v h) t
theorem Hz{a x:Addr}(b:H a=some (.lst [.ref x]))(h:qI (.ref x) H):jr (.ref a) H:=.inr ⟨a,_,O,b,[],.ref x,[],[],O,.nil,nofun,O,.inl h⟩
theorem rn(h:∀b H,H b=some (.tup [w,t])->qI (.ref b) H):nP jr Γ σ (.lst [.tup [.c w,.c t]]):=λH Q q=>by
 refine cJ<|av<|iu<|av<|aC<|av<|aC<|aH ⟨cK,λb f=>aH ⟨cC,λa g=>?_⟩⟩;have d:=sameNew (o:=.lst [V.ref b]) g;exact q _ _ ((sameNew f).trans d)<|Hz ar<|h b _<|d _ _ ar
theorem aiQ:nP jr Γ σ (.lst [.lst [.c w,.c t]]):=λH Q q=>by
 refine cJ<|av<|cJ<|av<|aC<|av<|aC<|aH ⟨cK,λb h=>aH ⟨cC,λa f=>?_⟩⟩;have d:=sameNew (o:=.lst [V.ref b]) f;exact q _ _ ((sameNew h).trans d)<|Hz ar<|.inl<|Ak (d _ _ ar) O
theorem Sz(p p':Pt)(e1:w=.str p.word)(e2:t=p.val)(e3:w'=.str p'.word)(e4:t'=p'.val)(o:bA p)(o':bA p')(h:lQ p'.word p.word=false)(hc:chainOk "" [p]=true):nP jr Γ σ (.lst [.tup [.c w,.c t],.tup [.c w',.c t']]):=λH Q q=>by
 refine cJ<|av<|iu<|av<|aC<|av<|aC<|aH ⟨cK,λb hb=>av<|iu<|av<|aC<|av<|aC<|aH ⟨cK,λb' pY=>aH ⟨cK,λa ha=>?_⟩⟩⟩;have s1:=sameNew (o:=.tup [w,t]) hb;have s2:=sameNew (o:=.tup [w',t']) pY;have s3:=sameNew (o:=.lst [V.ref b,V.ref b']) ha;subst e1 e2 e3 e4;exact q _ _ ((s1.trans s2).trans s3)<|.inr ⟨a,_,rfl,ar,[.ref b],.ref b',[],[p],rfl,.cons ⟨b,rfl,(s3 _ _ (s2 _ _<|ar))⟩ .nil,λz hz=>by rw[zab.mp hz];exact o,hc,.inr ⟨p',⟨b',rfl,(s3 _ _ (ar))⟩,o',h⟩⟩
theorem l_(c:H b=some (.tup [w,t]))(h:jo .str w H\/(∃s,w=.str s/\s≠"keep"/\s≠"cut"/\s≠"put")\/(w=.str "keep"/\(qG t H\/∃n,t=.int n/\n<1))\/((w=.str "cut"\/w=.str "put")/\(uT t H\/t=.str ""))):qI (.ref b) H:=
 .inr ⟨b,_,O,c,(by simp),.inr ⟨w,t,O,h⟩⟩
end
theorem HA(d:x.length<=1000000)(b:(x.cps.toList.all λc=>SG.cps.contains c)=true):good x:=⟨d,λc h=>zbr.mp b c h⟩
theorem B7:good "a"/\("a":Str)≠"":=⟨HA (by decide+kernel) (by decide+kernel),by decide+kernel⟩
theorem aiR:good "b"/\("b":Str)≠"":=⟨HA (by decide+kernel) (by decide+kernel),by decide+kernel⟩
section
variable{Γ:ba}{σ:St}
theorem aiS:nP jr Γ σ (.lst [.tup [.c w]]):=λH Q q=>by
 refine cJ<|av<|iu<|av<|aC<|aH ⟨cC,λb h=>aH ⟨cC,λa f=>?_⟩⟩;have d:=sameNew (o:=.lst [V.ref b]) f;exact q _ _ ((sameNew h).trans d)<|Hz ar<|.inr ⟨b,_,O,d _ _ ar,(by simp),.inl (by simp)⟩
end
end L2.N
namespace L2.kW
open PySem PySem.Spec L2.B L2.N
section
variable{K:Frag}{C CN CC CF:Addr}{H H':Hp}{Γ:ba}{σ:St}{Q:VK}{E:XK}{D:Ends}
def yJ(CC:Addr):Sp:=λvs H Q E=>∃(p:Addr)(x:V),vs=[.ref p,x]/\jr x H/\∀H',ay H H'->E (.ref CC) none H'
theorem aiT:bO (yJ CC) (λE=>aI K [("sizes",Fj CC)] [] (et:=[("BadFit",CF)]) (E:=E)) Ey qv:=by
 intro c H Q E h;obtain⟨p,x,rfl,b,q⟩:=h;exact ZZ<|bf<|bD<|b_ (Fj CC) O<|av<|ag O<|aH ⟨x,O,b,q⟩
def SA(H:Hp)(k:Nat)(x:V)(a b:Hp->Prop):Prop:=(jr x H/\∀H',ay H H'->a H')\/∃(c:Addr)(ps:List Pt)(l r:List Nat),x=.ref c/\bM H c ps l r/\B.aB ps<=100000/\l.length≠k/\∀H',ay H H'->b H'
def rq(C CC CF:Addr):Sp:=λvs H Q E=>∃(p dx lo pa ed be lg:Addr)(here:Nat)(bB:List Nat)(pars:List (Option Nat))(x:V)(k:Nat),vs=[.ref p,x]/\fA C H p dx lo pa ed be lg here bB pars/\bB[here]?=some k/\SA H k x (E (.ref CC) none) (E (.ref CF) none)
theorem HB(m:Γ.ms 0=(C,j5 (j8 C CF)<|yJ CC))(h:rq C CC CF [.ref p,x] H Q Γ.E):az Γ (.drop (.aU 0 "need_over" (.v 0) [.v 1])::r) D (some (.ref p)::some x::σ) H:=by
 obtain⟨I,dx,lo,b,w,be,lg,here,bB,pars,G,k,zq⟩:=qx12 h;obtain⟨e,A,g,h⟩:=qa4 zq;cases e;refine cN<|gJ C _ m<|ag O ⟨p,dx,_,O,A.ob,cZ (O),ag O ?_⟩;rcases h with⟨f,q⟩|⟨c,ps,l,r,rfl,u,t,d,q⟩
 exact .inr ⟨p,x,O,f,q⟩;exact .inl ⟨p,dx,lo,b,w,be,lg,here,bB,pars,c,ps,l,r,k,O,A,u,t,g,.inr ⟨d,q⟩⟩
theorem aiU:bO (rq C CC CF) (λE=>aI K [("sizes",fQ)] [] [] [("need_over",C,j5 (j8 C CF)<|yJ CC),("many",C,iy C)] (E:=E)) Ah Ag:=by
 intro c H Q E h;obtain⟨p,dx,lo,b,d,be,lg,here,bB,pars,x,k,rfl,h⟩:=h;exact HB (Q:=Q) O ⟨p,dx,lo,b,d,be,lg,here,bB,pars,x,k,O,h⟩
theorem aiV:bO (rq C CC CF) (λE=>aI K [("then",pw),("sizes",fQ)] [] [] [("need_over",C,j5 (j8 C CF)<|yJ CC),("many",C,iy C),("do",C,jF C)] (E:=E)) Ez qv:=by
 intro c H Q E h;obtain⟨p,dx,lo,b,d,be,lg,here,bB,pars,x,k,rfl,h⟩:=h;exact HB (Q:=Q) O ⟨p,dx,lo,b,d,be,lg,here,bB,pars,x,k,O,h⟩
theorem aiW:bO (rq C CC CF) (λE=>aI K [("passed",xW),("back",o7),("sizes",fQ)] [] [] [("need_over",C,j5 (j8 C CF)<|yJ CC),("neighbours",C,G3 C),("edge",C,G1 C),("many",C,iy C)] (E:=E)) GZ GY:=by
 intro c H Q E h;obtain⟨p,dx,lo,b,d,be,lg,here,bB,pars,x,k,rfl,h⟩:=h;exact HB (Q:=Q) O ⟨p,dx,lo,b,d,be,lg,here,bB,pars,x,k,O,h⟩
noncomputable abbrev mRf(C CC CF:Addr):List (Str×Addr×Sp):=[("do",C,j5 (jF C)<|rq C CC CF),("more",C,j5 (vE C)<|rq C CC CF),("foreign",C,j5 (Ha C)<|rq C CC CF)]
inductive pL(C:Addr)(vs:List V)(H:Hp)(Q:VK)(E:XK):Prop|i(p dx lo pa ed be lg:Addr)(here:Nat)(bB:List Nat)(pars:List (Option Nat))(w k:Nat)(x:V)(_:vs=[.ref p,.int (w:Nat),x])(_:fA C H p dx lo pa ed be lg here bB pars)(_:bB[here]?=some k)(_:w<3)(_:((w=0/\∀E,jF C [.ref p,x] H (λ_ H'=>Q (.str "") H') E)\/(w=1/\∀E,vE C [.ref p,x] H (λ_ H'=>Q (.str "") H') E)\/(w=2/\∀E,Ha C [.ref p,x] H (λ_ H'=>Q (.str "") H') E)\/SA H k x (Q<|.str "change") (Q<|.str "fit")))
theorem SD(w:Γ.hs 0=xq Γ.K cs A)(l:qJ Γ.K cs A c j)(m:j<13)(x:exmOne Γ.K (.ref c) (.ref A)=some true)(q:∀H',ay H H'->D.rt (.str<|kJ.getD j "") H'):
  zI Γ.K A 3 4 (λb=>az {Γ with E:=E0,hv:=some b} [.ret<|.wk 0<|.v 3]) D (.ref c) none H:=by
 refine⟨x,λb d g f G p r=>?_⟩;have h:ExcAt (upd H b<|.bY d oB) b c:=⟨d,g,ar,r⟩;refine dh ⟨_,(by rw[zbJ (by lia)]),⟨b,c,O,h⟩,?_⟩;rw[w];exact⟨b,c,j,O,h,l,m,λH2 k=>q _<|(sameNew G).trans k⟩
theorem vG{i:Int}{t e r:List RS}(h:σ[k]?=some (some<|.int w))(b:decide (w=i)=false)(q:az Γ e {D with nx:=az Γ r D} σ H):az Γ (.ite (.cmp .Eq (.v k)<|.c<|.int i) t e::r) D σ H:=ZZ (bf<|ag h<|aC<|eV ⟨_,O,iF q b⟩)
theorem B9{i:Int}{t e r:List RS}(h:σ[k]?=some (some<|.int w))(b:decide (w=i)=true)(q:az Γ t {D with nx:=az Γ r D} σ H):az Γ (.ite (.cmp .Eq (.v k)<|.c<|.int i) t e::r) D σ H:=ZZ (bf<|ag h<|aC<|eV ⟨_,O,iT q b⟩)
theorem aiY(V:qJ K cs b CC 1)(I:exmOne K (.ref CC) (.ref b)=some true)(R:qJ K cs b CF 2)(G:exmOne K (.ref CF) (.ref b)=some true):bO (pL C) (λE=>aI K [] [("InkError",.ref b)] [] (mRf C CC CF) (ht:=[("_law_word",xq K cs b)]) (E:=E)) RP RO:=by
 intro Y H Q E h;obtain⟨p,dx,lo,N,J,be,lg,here,bB,pars,w,k,x,rfl,A,B,Z,h⟩:=h;refine⟨b,O,?_⟩;rcases h with⟨rfl,h⟩|⟨rfl,h⟩|⟨rfl,h⟩|h
 exact B9 O (O) (cN<|A.m1 O O<|ag O<|.inl<|h _);exact vG O (O) (B9 O (O)<|cN<|A.m1 O O<|ag O<|.inl<|h _);exact vG O (O) (vG O (rfl)<|cN<|A.m1 O O<|ag O<|.inl<|h _);have d:∀{Γ:ba}{D:Ends}{W:VK},Γ.hs 0=xq Γ.K cs b->Γ.K=K->D.rt=Q->rq C CC CF [.ref p,x] H W (zI Γ.K b 3 4 (λU=>az {Γ with E:=E0,hv:=some U} [.ret<|.wk 0<|.v 3]) D):=λu f t=>by
  refine⟨p,dx,lo,N,J,be,lg,here,bB,pars,x,k,O,A,B,?_⟩;rcases h with⟨X,q⟩|⟨c,ps,l,r,e,F,ht,P,q⟩
  exact .inl ⟨X,λH1 m=>SD u (f▸V) (zb8 (za0 _ _)) (f▸I) λH2 g=>t▸q _ (m.trans g)⟩;exact .inr ⟨c,ps,l,r,e,F,ht,P,λH1 m=>SD u (f▸R) (zb8 (za0 _ _)) (f▸G) λH2 g=>t▸q _ (m.trans g)⟩
 match w,Z with
 | 0,_=>exact B9 O (rfl) (cN<|A.m1 O O<|ag O<|.inr<|d O O O)
 | 1,_=>exact vG O (rfl) (B9 O (rfl)<|cN<|A.m1 O O<|ag O<|.inr<|d O O O)
 | 2,_=>exact vG O (rfl) (vG O (rfl)<|cN<|A.m1 O O<|ag O<|.inr<|d O O O)
end
section
variable{K:Frag}{C:Addr}{H H':Hp}{Γ:ba}{σ:St}{Q:VK}{a t u:Addr}{l:List Nat}{k:Nat}
theorem SE(c:H a=some (.lst [.ref t]))(ht:H t=some (.tup [.str "keep",.int (l.length:Nat)]))(h:1<=l.length):bM H a [.keep (l.length:Nat)] l l:=⟨_,c,.cons ⟨t,O,ht⟩ .nil,λp b=>by rw[zab.mp b];show(1:Int)<=_;lia,O,OH O⟩
theorem aiZ(h:1<=n)(d:n<=1000000):(jP "a" (n:Nat)).cps.toList=List.replicate n 97/\bA (.cut<|jP "a" (n:Nat)):=by
 have e:(jP "a" (n:Nat)).cps.toList=List.replicate n 97:=by
  show(List.replicate ((n:Nat):Int).toNat [97]).flatten=_;rw[zaG,List.flatten_replicate_singleton]
 refine⟨e,⟨?_,λc b=>?_⟩,λz=>?_⟩;rw[B.len_list,e,zaJ];exact d;rw[e] at b;rw[List.eq_of_mem_replicate b];exact B7.1.2 97 (by decide);rw[z] at e;have:=congrArg List.length e;rw[zaJ] at this;exact absurd (show(0:Nat)=n from this) (zan (zcs h))
def Fr(k:Nat)(v:V)(H:Hp):Prop:= ∃(c:Addr)(ps:List Pt)(l r:List Nat),v=.ref c/\bM H c ps l r/\B.aB ps<=100000/\l.length≠k
theorem Fr.same(h:Fr k v H)(s:ay H H'):Fr k v H':=by
 obtain⟨c,ps,l,r,e,h,r⟩:=h;exact⟨c,ps,l,_,e,h.same s,r⟩
theorem HC(ha:H a=some (.lst [.ref t]))(ht:H t=some (.tup [.str "keep",.int (n:Nat)]))(h:k<n):Fr k (.ref a) H:=⟨a,_,List.replicate n 0,_,rfl,SE ha (zaJ▸ht) (by rw[zaJ];lia),zqZ _,by rw[zaJ];exact zaD h⟩
noncomputable abbrev HD(K:Frag)(C:Addr)(E:XK):ba:=aI K [("_law_refused",pL C)] [] (E:=E)
inductive HE(C:Addr)(vs:List V)(H:Hp)(Q:VK)(E:XK):Prop|i(h w ab b x:Addr)(M Ed:List Addr)(here:Nat)(pars:List (Option Nat))(txts:List Str)(lat las:List (Option Nat))(n:Nat)(c:Int)(_:vs=[.ref h,.ref w,.int c])(_:bz C H h w ab b x M Ed here here pars txts lat las n)(_:n<=16)(_:∀H',ay H H'->Q (.bl true) H')
theorem ai0:nP jr Γ σ (.tup [.tup [.c w,.c v]]):=λH Q q=>by
 exact iu<|av<|iu<|av<|aC<|av<|aC<|aH ⟨cK,λb h=>aH ⟨cC,λa d=>q _ _ ((sameNew h).trans<|sameNew d)<|.inl<|EL ar O⟩⟩
theorem ai1:nP jr Γ σ (.lst [.c .aD]):=aiP λa H h=>.inr ⟨a,_,O,h,[],.aD,[],[],O,.nil,nofun,O,.inl<|.inl O⟩
theorem SF(h:σ[i]?=some (some<|.int w))(b:0<m)(q:∀j:Nat,(j:Int) <m->Q (.int (j:Nat)) H):ah Γ (.bin .Mod (.bin .FloorDiv (.v i)<|.c<|.int 3)<|.c<|.int m) σ H Q:=by
 have:=zaL (w / 3) (show m≠0 by lia);have d:=zaM (w / 3) b;obtain⟨j,e⟩:=zcb this;refine bT<|bT<|ag h<|aC ⟨⟨by lia,by lia⟩,aC ⟨b,?_⟩⟩;show Q (.int<|w / 3 % m) H;rw[e];exact q j (by lia)
theorem ai2(h:ah Γ e1 σ H λx H1=>ah Γ e2 σ H1 λy H2=>En x y H2 Q):ah Γ (.xt Eo [e1,e2]) σ H Q:=h
theorem ai3:bO (HE C) (λE=>HD K C E) fB mE:=by
 intro vs H Q E h;obtain⟨F,wA,ab,la,tx,M,Ed,here,pars,U,lat,las,n,c,rfl,S,hn,q⟩:=h;obtain⟨T,hh,_,_⟩:=bQ.eZ S.hi;obtain⟨x,hx,gx,lx⟩:=S.at hh;obtain⟨dx,lo,pa,ed,be,lg,bs,es,A⟩:=qx7 (id S.hi);have Z:((U.map λx=>x.cps.toList).map List.length)[here]?=some x.length:=by rw[zaf,(dO hx).2,B.len_list x];rfl
 refine bw<|fX<|bD<|bX O S.R.r1 fD<|bX O S.R.r1 kY<|cj S.R.r4 (bZ (dO hx).1) ⟨cz gx.1,?_⟩;have A:=A.ob;generalize x.length=k at Z lx⊢;clear S hx gx T;refine bw<|cJ<|av<|iu<|av<|aC<|av<|bT<|ag O<|aC<|mj<|aH ⟨cK,λt ft=>aH ⟨cC,λb fb=>?_⟩⟩;have s1:=(sameNew (o:=.tup [.str "keep",.int ((k:Nat)+1:Int)]) ft).trans (sameNew (o:=.lst [.ref t]) fb);have f:upd (upd H t<|.tup [.str "keep",.int ((k:Nat)+1:Int)]) b (.lst [.ref t]) b=some (.lst [.ref t]):=ar;have I:upd (upd H t<|.tup [.str "keep",.int ((k:Nat)+1:Int)]) b (.lst [.ref t]) t=some (.tup [.str "keep",.int ((k+1:Nat):Int)]):=sameNew fb _ _ ar;generalize upd (upd H t<|.tup [.str "keep",.int ((k:Nat)+1:Int)]) b (.lst [.ref t])=H1 at s1 f I⊢;have st:∀v (H H':Hp),jr v H->ay H H'->jr v H':=λv H H' h s=>h.same s;refine bw<|cJ<|Hy st _ (λe G=>?_) H1 _ λvs H2 s2 l2 o2=>⟨cz (by rw[l2];decide),λL fL=>?_⟩;simp only[zac,zag,or_false] at G;rcases G with rfl|rfl|rfl|rfl|rfl|rfl|rfl
 exact Sx λH=>.inl O;exact ai0;exact rn λb H f=>l_ f (.inr<|.inr<|.inl ⟨O,.inr ⟨_,O,by decide⟩⟩);exact rn λb H f=>l_ f (.inr<|.inr<|.inl ⟨O,.inl<|.inl ⟨_,O⟩⟩);exact rn λb H f=>l_ f (.inr<|.inr<|.inr ⟨.inr O,.inr O⟩);exact rn λb H f=>l_ f (.inr<|.inr<|.inr ⟨.inl O,.inr O⟩);exact rn λb H f=>l_ f (.inr<|.inl ⟨_,O,by decide+kernel,by decide+kernel,by decide+kernel⟩);have s3:=sameNew (o:=.lst vs) fL;refine Sy st O (λe G=>?_) ar (λv X=>(o2 v X).same s3) (by rw[l2];decide) λL4 c' H4 s4 h4 o4 l4=>?_;simp only[zac,zag,or_false] at G;rcases G with rfl|rfl|rfl|rfl
 exact aiQ;exact Sz (.keep 1) (.keep 1) O O O O (by show(1:Int)<=1;decide) (by show(1:Int)<=1;decide) (by decide+kernel) (by decide+kernel);exact Sz (.cut "a") (.put "b") O O O O B7 aiR (by decide+kernel) (by decide+kernel);exact rn λb H f=>l_ f (.inr<|.inr<|.inr ⟨.inr O,.inl<|.inr<|afX O⟩);refine Sy st O (λe G=>?_) h4 o4 (by rw[l4,l2];decide) λL5 sZ H5 s5 h5 o5 l5=>?_;simp only[zac,zag,or_false] at G;rcases G with rfl|rfl|rfl|rfl|rfl
 exact rn λb H f=>l_ f (.inr<|.inr<|.inl ⟨O,.inl<|.inr<|PX O⟩);exact aiS;exact rn λb H f=>l_ f (.inr<|.inr<|.inr ⟨.inr O,.inl<|.inl ⟨_,O,by decide+kernel,by decide+kernel⟩⟩);exact Sx λH=>.inl (PX O);exact ai1;have d':sZ.length=16:=by rw[l5,l4,l2];rfl
 have Y:=((s2.trans s3).trans s4).trans s5;replace f:=Y _ _ f;replace I:=Y _ _ I;have tG:=s1.trans Y;replace A:=A.same tG;replace q:∀H',ay H5 H'->Q (.bl true) H':=λH' s=>q _ (tG.trans s);obtain⟨w,ew⟩:=zcb (zaL c (show(3:Int)≠0 by decide));have hw:=zaM c (show(0:Int) <3 by decide);refine bw<|bT<|ag O<|aC ⟨(by show(0:Int) <3;decide),?_⟩;show az (HD K C E) (fB.drop 6) (Dn Q) [some<|.ref F,some<|.ref wA,some<|.int c,some<|.int (k:Nat),some<|.ref b,some<|.ref L5,some<|.int<|c % 3,none] _;rw[ew];clear s1 s2 s3 s4 s5 Y tG h4 o4 o2 l4 l5 l2 fL;refine ZZ<|bf<|b_ (pL C) O<|av<|ag O<|av<|ag O<|av<|bD<|ag O<|SF O (by decide) λj hj=>?_;obtain⟨y,J⟩:∃y,sZ[j]?=some y:=⟨_,zay (by lia)⟩;refine cj h5 (bZ J)<|aH ⟨F,dx,lo,pa,ed,be,lg,here,_,pars,w,k,y,O,A,Z,by lia,.inr<|.inr<|.inr<|.inl ⟨o5 y<|zak J,λH6 W=>?_⟩⟩;refine aC<|cnS (show ∃b,_ from⟨_,O,iF (cQ ?_) O⟩);clear h5 o5 J hj;replace f:=W _ _ f;replace I:=W _ _ I;replace A:=A.same W;replace q:∀H',ay H6 H'->Q (.bl true) H':=λH' s=>q _ (W.trans s);refine bw<|cJ<|av<|ag O<|av<|bT<|cJ<|av<|iu<|av<|aC<|av<|aC<|aH ⟨cK,λu fu=>aH ⟨cC,λd fd=>ag O ?_⟩⟩;have s7:=(sameNew (o:=.tup [.str "put",.str "ab"]) fu).trans (sameNew (o:=.lst [.ref u]) fd);have hu:=sameNew (o:=.lst [.ref u]) fd _ _ (ar (a:=u));refine .inl ⟨d,b,_,_,O,O,ar,s7 _ _ f,cK,λe fe=>?_⟩;have s8:=sameNew (o:=.lst ([.ref u]++[.ref t])) fe;have f2:Fr k (.ref e) (upd (upd (upd H6 u (.tup [.str "put",.str "ab"])) d (.lst [.ref u])) e (.lst ([.ref u]++[.ref t]))):=⟨e,[.put "ab",.keep ((k+1:Nat):Int)],List.replicate (k+1) 0,_,O,⟨_,ar,.cons ⟨u,O,s8 _ _ hu⟩ (.cons ⟨t,O,s8 _ _ (s7 _ _ I)⟩ .nil),λp F=>by
  simp only[zac,zag,or_false] at F;rcases F with rfl|rfl
  exact⟨HA (by decide+kernel) (by decide+kernel),by decide+kernel⟩;show(1:Int)<= ((k+1:Nat):Int);lia,O,.put (OH (by rw[zaJ]))⟩,(by show 2<=100000;decide),by rw[zaJ];exact zaD (zbM _)⟩
 have SH:=s7.trans s8;generalize upd (upd (upd H6 u<|.tup [.str "put",.str "ab"]) d<|.lst [.ref u]) e (.lst<|[.ref u]++[.ref t])=H8 at SH f2⊢;have e1:((k:Nat):Int)+1=((k+1:Nat):Int):=by lia
 refine av<|cJ<|av<|iu<|av<|aC<|av<|ai2<|aC<|bT<|ag O<|aC<|mj ⟨_,_,O,O,by lia,by lia,by decide+kernel,aH ⟨cK,λv fv=>aH ⟨cC,λg fg=>?_⟩⟩⟩;rw[e1] at fg⊢;obtain⟨ea,oa⟩:=aiZ (n:=k+1) (za0 _ _) (by lia);have sg:=sameNew (o:=.lst [.ref v]) fg;have s9:=(sameNew (o:=.tup [.str "cut",.str<|jP "a" ((k+1:Nat):Int)]) fv).trans sg;have f3:Fr k (.ref g) (upd (upd H8 v (.tup [.str "cut",.str (jP "a" ((k+1:Nat):Int))])) g (.lst [.ref v])):=⟨g,[.cut (jP "a" ((k+1:Nat):Int))],List.replicate (k+1) 97++[],[],O,⟨_,ar,.cons ⟨v,O,sg _ _ ar⟩ .nil,λp F=>by rw[zab.mp F];exact oa,O,ea ▸ Run.cut .nil⟩,(by
   show(jP "a" ((k+1:Nat):Int)).length+0<=100000;rw[B.len_list,ea,zaJ];lia),by rw[zae,zaJ];exact zaD (zbM _)⟩
 generalize upd (upd H8 v<|.tup [.str "cut",.str<|jP "a" ((k+1:Nat):Int)]) g (.lst [.ref v])=H9 at s9 f3⊢;obtain⟨m,em⟩:=zcb (zaL (c / 48) (show(9:Int)≠0 by decide));refine av<|cJ<|av<|iu<|av<|aC<|av<|bT<|bT<|ag O<|aC<|mj<|bT<|bT<|ag O<|aC ⟨⟨by decide,by decide⟩,aC ⟨(by show(0:Int) <9;decide),mj<|aH ⟨cK,λP a'=>aH ⟨cC,λN SI=>aH ⟨S6,λL7 HF=>?_⟩⟩⟩⟩⟩;have e2:((k:Nat):Int)+2+c / 48 % 9=((k+2+m:Nat):Int):=by lia
 rw[e2] at SI HF⊢;have SJ:=sameNew (o:=.lst [.ref P]) SI;have uB:=(sameNew (o:=.tup [.str "keep",.int ((k+2+m:Nat):Int)]) a').trans SJ;have f4:=HC (k:=k) (ar (H:=upd H9 P (.tup [.str "keep",.int ((k+2+m:Nat):Int)])) (a:=N) (o:=.lst [.ref P])) (SJ _ _ ar) (by lia);generalize upd (upd H9 P<|.tup [.str "keep",.int ((k+2+m:Nat):Int)]) N (.lst [.ref P])=qi at uB f4 HF⊢;have SK:=sameNew (o:=.lst [.ref b,.ref e,.ref g,.ref N]) HF;have SM:=uB.trans SK;have SN:=s9.trans SM;have HG:=SH.trans SN;have b':∀v∈ [V.ref b,.ref e,.ref g,.ref N],Fr k v (upd qi L7<|.lst [.ref b,.ref e,.ref g,.ref N]):=λv X=>by
  simp only[zac,zag,or_false] at X;rcases X with rfl|rfl|rfl|rfl
  exact(HC f I (zbM _)).same HG;exact f2.same SN;exact f3.same SM;exact f4.same SK
 refine dh<|sX<|b_ (pL C) O<|av<|ag O<|av<|ag O<|av<|bD<|ag O<|SF O (by decide) λj hj=>?_;obtain⟨y,J⟩:∃y,[V.ref b,.ref e,.ref g,.ref N][j]?=some y:=⟨_,zay (by show j<4;lia)⟩;obtain⟨d,ps,l,r,zq⟩:=qx4 (b' y (zak J));obtain⟨e,h1,h2,h3⟩:=qa4 zq;refine cj ar (bZ J)<|aH ⟨F,dx,lo,pa,ed,be,lg,here,_,pars,w,k,y,O,A.same HG,Z,by lia,.inr<|.inr<|.inr<|.inr ⟨d,ps,l,r,e,h1,h2,h3,λe' jw=>?_⟩⟩;exact aC<|iR (by rw[show(("fit":Str)=="fit")=true by decide+kernel];exact q _ (HG.trans jw))
end
section
variable{K:Frag}{C:Addr}{H H':Hp}{Γ:ba}{σ:St}{Q:VK}{a b:Addr}{k:Nat}{s:Str}
theorem ai5{w:List V->Hp->Addr->Prop}{u:TE}{h:List (Str×Nat)}{lo:Int}(B:n<=1000000)(P:Nat->List V->Hp->Prop)(I:P 0 [] H)(f:∀i ys H2,i<n->P i ys H2->∀A:VK,(∀y d,P (i+1) (ys++[y]) d->A y d)->u (some (.int<|lo+i)::cX σ h) H2 A)(l:∀ys H2 p,P n ys H2->H2 p=none->w ys H2 p):∃c:Nat->Nat->List V->Hp->Prop,(∃m,c 0 m [] H)/\∀i m ys H2,c i m ys H2->
   ((gz lo n).stop i H2/\∀p,H2 p=none->w ys H2 p)\/
   ((gz lo n).go i H2/\∀x d,(gz lo n).hZ i H2 x d->lA K none x d λt=>om none (t.map some++cX σ h) d λb E=>
    if b=true then u (t.map some++cX σ h) E λy Z=>ys.length<sizeLine/\∃g,g<m/\c (i+1) g (ys++[y]) Z else ∃g,g<m/\c (i+1) g ys E):=by
 refine⟨λi m ys H2=>m=n - i/\i<=n/\ys.length=i/\P i ys H2,⟨_,O,zqZ _,O,I⟩,?_⟩;rintro i m ys H2 ⟨rfl,F,N,p⟩;by_cases r:i<n;refine .inr ⟨r,?_⟩;rintro x d ⟨rfl,rfl⟩;exact f i ys _ r p _ λy J G=>⟨dr (by lia),n - (i+1),by lia,O,r,by simp[N],G⟩;have X:i=n:=za5 F (za4 r)
 subst X;exact .inl ⟨zqR _,λq R=>l ys _ q p R⟩
def l3(s:Str):List V:=[.str s,.str s,.str s]
theorem Ca(h:H a=some (.lst<|l3 s)):Is H (.list [.str s,.str s,.str s]) (.ref a):=⟨a,_,O,h,_,_,O,O,_,_,O,O,_,_,O,O,O⟩
theorem SO(q:∀c H',ay H H'->H' c=some (.lst<|l3 s)->Q (.ref c) H'):ah Γ (.bin .Mult (.lst [(.c<|.str s)])<|.c<|.int 3) σ H Q:=by
 refine bT<|cJ<|av<|aC<|aH ⟨cC,λl f=>aC ⟨l,_,_,O,O,ar,by lia,by lia,yL,λc d=>?_⟩⟩;exact q c _ ((sameNew f).trans<|sameNew d) ar
def Ft(C:Addr)(H:Hp)(h f t:Addr)(k T m:Nat):Prop:= ∃(M Ed:List Addr)(here:Nat)(pars:List (Option Nat))(aA:List (List Nat))(c:List (Option Nat))(l:List Nat),bQ C H h M Ed here pars aA c T/\here≠0/\here+1=pars.length/\pars.length<=m/\aA[here]?=some l/\l.length=k+1/\f∉M/\H f=some (.lst [.ref t])/\H t=some (.tup [.str "keep",.int ((k+1:Nat):Int)])
theorem ai6(A:bQ C H r M Ed here pars aA l T):yt H Ed λ_ _=>True:=λi a e=>by
 obtain⟨dx,lo,p,t,be,lg,u,es,A⟩:=A;have c:es[i+1]?=some (V.ref a):=by rw[A.G0,zbc,zaf,e];rfl
 obtain⟨j,d,_⟩:=A.ob.tr.up (i+1) (zb7 _) (by rw[<-A.le];exact(zah.mp c).1);obtain⟨w,ps,m,q,h,_,_,⟨xs,f,g,_⟩,_⟩:=A.ev (i+1) j d;rw[c] at h;cases h;exact⟨xs,ps,f,g,trivial⟩
theorem ai7(f:Ft C H G fa t k T m)(hT:T<=10000)(hm:m<=1000)(hi:i<3)(q:∀H',Ft C H' G fa t k T (m+1)->Q (.str "") H'){E:XK}:ah (aI K [("_law_refused",pL C)] [] [] [("do",C,jF C)] (E:=E)).calm (.call 0 [.v 1,.v 0,(.blt .list [.v 2])]) [some<|.int (i:Nat),some<|.ref G,some<|.ref fa] H Q:=by
 obtain⟨M,Ed,here,pars,aA,u,l,A,U,J,h2,V,h4,h5,R,P⟩:=f;refine b_ (pL C) O<|av<|ag O<|av<|ag O<|av<|Bz<|ag O ⟨_,.inl<|au.of R,λg fg=>aH ?_⟩;have N:=sameNew (o:=.lst [.ref t]) fg;have hg:upd H g (.lst [.ref t]) g=some (.lst [.ref t]):=ar;have ng:=(A.own fg).1;generalize upd H g (.lst [.ref t])=H1 at N hg⊢;replace A:=A.same N;replace R:=N _ _ R;replace P:=N _ _ P;have dN:=(bQ.eZ A).2.2.1;have B:=SE hg (h4▸P) (by lia);obtain⟨dx,lo,pa,ed,be,lg,bs,es,h⟩:=id A;have r:∀{H':Hp}{Y W:List Addr}{X:Nat}{p:List (Option Nat)}{Z:List (List Nat)}{a':List (Option Nat)},aN M H1 H'->(∀y∈Y,y∈M\/H1 y=none)->bQ C H' G Y W X p Z a' T->X≠0->X+1=p.length->p.length<=m+1->Z[X]?=some l->Q (.str "") H':=λw F I a b c d=>q _ ⟨_,_,_,_,_,_,l,I,a,b,c,d,h4,(λz=>(F _ z).elim h5 λz=>by lia),w _ _ R h5,((bQ.eZ A).2.2.2).bU w _ _ P⟩;refine⟨G,dx,lo,pa,ed,be,lg,here,_,pars,i,l.length,.ref g,O,h.ob,by rw[zaf,V];rfl,hi,?_⟩;match i,hi with
 | 0,_=>exact .inl ⟨O,λ_=>⟨G,M,Ed,here,pars,aA,u,T,g,_,l,l,O,A,B,ng,V,zqZ _,zat hT (za0 _ _),by lia,λb a H' w fb _ I=>r w (λy x=>by
   rcases zad.mp x with x|x
   exact .inl x;rw[zab.mp x];exact .inr fb) I (by lia) (by simp) (zqA▸Nat.succ_le_succ h2) (by rw[zaW (za3 dN),dN,zbm];rfl)⟩⟩
 | 1,_=>exact .inr (.inl ⟨O,λ_=>⟨G,M,Ed,here,pars,aA,u,T,g,_,l,l,O,A,B,ng,V,zqZ _,zat hT (za0 _ _),by lia,.inr ⟨U,J,λW a H' w _ _ I=>r w (λy x=>.inl x) I U J (za7 h2) (by rw[zaR,if_pos O,if_pos (by lia)])⟩⟩⟩)
 | 2,_=>exact .inr (.inr<|.inl ⟨O,λ_=>⟨G,g,M,Ed,here,pars,aA,u,T,0,λ_ _=>True,λ_ _=>True,λ_ _=>True,_,l,l,O,A,ai6 A,B,V,zqZ _,zat hT (za0 _ _),by lia,trivial,λ_ _ _ _ _ _ _ _ _ _ _ _ _ _ _=>⟨trivial,λ_=>trivial,λ_=>trivial⟩,λY W Z H' w F _ I _ fi _=>r w F I U J (za7 h2) fi⟩⟩)
inductive HH(C:Addr)(vs:List V)(H:Hp)(Q:VK)(E:XK):Prop|i(hp wA ab la tx:Addr)(M Ed:List Addr)(here:Nat)(pars:List (Option Nat))(txts:List Str)(lat las:List (Option Nat))(n:Nat)(_:vs=[.ref hp,.ref wA])(_:bz C H hp wA ab la tx M Ed here here pars txts lat las n)(_:n<=16)(_:∀H',Q (.bl true) H')
theorem ai9:bO (HH C) (λE=>aI K [("_law_refused",pL C)] [] [] [("do",C,jF C)] (E:=E)) BV R0:=by
 intro vs H Q E h;obtain⟨m,wA,ab,la,tx,M,Ed,here,pars,V,lat,las,n,rfl,S,hn,q⟩:=h;obtain⟨T,hh,dN,lv⟩:=bQ.eZ S.hi;have sz:=S.sz;obtain⟨x,hx,gx,lx⟩:=S.at hh;have A:=S.hi;have vH:((V.map λx=>x.cps.toList).map List.length)[here]?=some x.length:=by rw[zaf,(dO hx).2,B.len_list x];rfl
 have a':=(dO hx).2;have J:=B.len_list x;refine bw<|fX<|bD<|bX O S.R.r1 fD<|bX O S.R.r1 kY<|cj S.R.r4 (bZ (dO hx).1) ⟨cz gx.1,?_⟩;generalize x.length=k at vH lx J⊢;clear S hx gx T;refine bw<|cJ<|av<|iu<|av<|aC<|av<|bT<|ag O<|aC<|mj<|aH ⟨cK,λt ft=>aH ⟨cC,λU HI=>?_⟩⟩;have s1:=(sameNew ft).trans (sameNew (o:=.lst [.ref t]) HI);have X:upd (upd H t<|.tup [.str "keep",.int ((k:Nat)+1:Int)]) U (.lst [.ref t]) U=some (.lst [.ref t]):=ar;have ht:upd (upd H t<|.tup [.str "keep",.int ((k:Nat)+1:Int)]) U (.lst [.ref t]) t=some (.tup [.str "keep",.int ((k+1:Nat):Int)]):=sameNew HI _ _ ar;have nf:=lv.no ((sameNew ft).free HI);replace A:=A.same s1;refine ZZ<|bf<|G_<|aC ⟨3,O,by decide,by decide,OE (K:=K) (lo:=0) (n:=3) (by decide) (λi ys H2=>ys=List.replicate i (.str "fit")) O ?_ ?_⟩;rintro i ys H2 hi P rfl Q' q';have e0:(0:Int)+(i:Nat)=((i:Nat):Int):=by lia
 rw[e0];obtain⟨dx,lo,pa,ed,be,lg,bs,es,B⟩:=qx7 (A.same P);refine b_ (pL C) O<|av<|ag O<|av<|ag O<|av<|Bz<|ag O ⟨_,.inl<|au.of<|P _ _ X,λg Y=>aH ?_⟩;have N:=sameNew (o:=.lst [.ref t]) Y;obtain⟨c,ps,l,r,e,f1,f2,f3⟩:=HC (k:=k) (ar (a:=g)) ((P.trans N) _ _ ht) (zbM _);exact⟨m,dx,lo,pa,ed,be,lg,here,_,pars,i,k,_,O,(B.same N).ob,vH,hi,.inr<|.inr<|.inr<|.inr ⟨c,ps,l,r,e,f1,f2,f3,λZ I=>q' _ _ (N.trans I) List.replicate_succ'.symm⟩⟩;rintro ys H2 p P rfl fp;have N:=sameNew (o:=.lst (List.replicate 3<|.str "fit")) fp;have u:SeqAt.shaped (.list [.str "fit",.str "fit",.str "fit"])=true:=by decide+kernel
 refine SO λc Z I h4=>⟨_,_,Ca<|I _ _ ar,Ca h4,u,u,?_⟩;refine⟨_,O,iF (cQ ?_) O⟩;have Cb:=(P.trans N).trans I;replace X:=Cb _ _ X;replace ht:=Cb _ _ ht;replace A:=A.same Cb;clear P N I fp h4 Cb s1;obtain⟨dx,lo,pa,ed,be,lg,bs,es,G⟩:=qx7 (id A);refine cN<|G.ob.m1 O O<|Gb<|cJ<|av<|iu<|av<|aC<|av<|ag O<|aH ⟨cK,λf f1=>av<|iu<|av<|aC<|av<|aC<|aH ⟨cK,λd f2=>aH ⟨cK,λHJ f3=>?_⟩⟩⟩;have g2:=sameNew (o:=.tup [.str "put",.str "a"]) f2;have g3:=sameNew (o:=.lst [.ref f,.ref d]) f3;have s5:=((sameNew (o:=.tup [.str "keep",.int (k:Nat)]) f1).trans g2).trans g3;have k1:=g3 _ _ (g2 _ _<|ar (H:=Z) (a:=f) (o:=.tup [.str "keep",.int (k:Nat)]));have k2:=g3 _ _ (ar (a:=d) (o:=.tup [.str "put",.str "a"]));have k3:upd (upd (upd Z f<|.tup [.str "keep",.int (k:Nat)]) d<|.tup [.str "put",.str "a"]) HJ (.lst [.ref f,.ref d]) HJ=some (.lst [.ref f,.ref d]):=ar;generalize upd (upd (upd Z f<|.tup [.str "keep",.int (k:Nat)]) d<|.tup [.str "put",.str "a"]) HJ (.lst [.ref f,.ref d])=H5 at s5 k1 k2 k3⊢;have W:∀{H':Hp}{D:List Addr->Prop},Ft C H' m U t k (320* (n+2 - pars.length)) 20->az (aI K [("_law_refused",pL C)] [] [] [("do",C,jF C)] (E:=E)) (BV.drop 4) (Dn Q) [some<|.ref m,some<|.ref wA,some<|.int (k:Nat),some<|.ref U] H':=λ{H'}{D} F=>by
  refine dh<|sX<|G_<|aC ⟨3,O,by decide,by decide,ai5 (K:=K) (lo:=0) (n:=3) (by decide) (λi ys H2=>ys=List.replicate i (.str "")/\Ft C H2 m U t k (320* (n+2 - pars.length)) (20+i)) ⟨O,F⟩ ?_ ?_⟩;rintro i ys H2 hi ⟨rfl,F2⟩ Q' q';have e0:(0:Int)+(i:Nat)=((i:Nat):Int):=by lia
  rw[e0];exact ai7 F2 (by lia) (by lia) hi λH3 F3=>q' _ _ ⟨List.replicate_succ'.symm,F3⟩;rintro ys H2 p ⟨rfl,_⟩ fp;have u:SeqAt.shaped (.list [.str "",.str "",.str ""])=true:=by decide+kernel
  refine SO λc Z I h4=>⟨_,_,Ca<|I _ _ ar,Ca h4,u,u,?_⟩;exact q _
 refine Fm<|av<|sX<|ag O<|aC<|eV<|aH ⟨_,O,.inl ⟨_,au.of k3,λg Y=>?_⟩⟩;have ch:∃ps r,bM (upd H5 g<|.lst<|d6 [.ref f,.ref d] (some (if decide (((k:Nat):Int)=0)=true then 1 else 0)) none) g ps x.cps.toList r/\r.length=k+1/\B.aB ps<=1:=by
  have w:=sameNew (o:=.lst (d6 [.ref f,.ref d] (some (if decide (((k:Nat):Int)=0)=true then 1 else 0)) none)) Y;by_cases z:k=0;subst z;have e:x.cps.toList=[]:=zbU J.symm;rw[e];exact⟨[.put "a"],_,⟨_,ar,.cons ⟨d,O,w _ _ k2⟩ .nil,λp m=>by rw[zab.mp m];exact B7,O,.put .nil⟩,O,zqR 1⟩;have e:(if decide (((k:Nat):Int)=0)=true then (1:Int) else 0)=0:=by rw[zqF (by lia)];rfl
  rw[e] at w⊢;have r1:Run (x.cps.toList++[]) [.keep (k:Nat),.put "a"] (x.cps.toList++(("a":Str).cps.toList++[])):=.keep (by lia) (.put .nil);rw[zae] at r1;refine⟨[.keep (k:Nat),.put "a"],_,⟨_,ar,.cons ⟨f,O,w _ _ k1⟩<|.cons ⟨d,O,w _ _ k2⟩ .nil,λp m=>?_,O,r1⟩,?_,zqR 1⟩;simp only[zac,zag,or_false] at m;rcases m with rfl|rfl
  show(1:Int)<= (k:Nat);lia;exact B7;rw[zqA,<-J];rfl
 have w:=sameNew (o:=.lst (d6 [.ref f,.ref d] (some (if decide (((k:Nat):Int)=0)=true then 1 else 0)) none)) Y;obtain⟨ps,r,hc,lr,tp⟩:=ch;have A5:=A.same s5;have ng:=(A5.own Y).1;have A6:=A5.same w;have HK:=s5.trans w;have yl:=(bQ.eZ A6).2.2.2;refine⟨m,M,Ed,here,pars,_,las,_,g,ps,_,r,O,A6,hc,ng,a',by lia,by lia,by lia,λb a H' bt fb _ A'=>?_⟩;refine W (D:=λ_=>True) ⟨_,_,_,_,_,_,r,A',by lia,by rw[zqA];rfl,by rw[zqA];show pars.length+1<=20;lia,by rw[zaW (za3 dN),dN,zbm];rfl,lr,λz=>?_,bt _ _ (HK _ _ X) nf,yl.bU bt _ _<|HK _ _ ht⟩;rcases zad.mp z with z|z
 exact nf z;rw[<-zab.mp z,HK _ _ X] at fb;cases fb
end
theorem aja:cR [none] 0 [none] [none]:=⟨O,O,λa b _ h=>by
 cases a with
 |zero=>cases h
 |succ a=>simp at h,λ_ _=>O,λi k h=>by
 cases i with
 |zero=>cases h
 |succ i=>simp at h⟩
section
variable{K:Frag}{C CP:Addr}{E:XK}{Q:VK}{H H0:Hp}{a hp wA ab la tx:Addr}{M Ed:List Addr}{here:Nat}{pars:List (Option Nat)}{txts:List Str}{lat las:List (Option Nat)}{n:Nat}{ns:List Int}
noncomputable abbrev GL(K:Frag)(C CP:Addr)(E:XK):ba:=aI K [("_law_text",Ao),("_law_cell_at",EH K),("_law_size",E_),("_law_moved",Hu C),("_law_put_on",Hn C),("_law_all_asked",Hx C),("_law_all_refused",HE C),("_law_back_and_on",yH C),("_law_fits_then",HH C)] [] [] [("many",C,iy C),("now",C,yF C)] [("History",C,GX C CP)] (E:=E)
theorem HL(d:au K H0 a (ns.map V.int))(i:Int)(b:ay H0 H)(f:σ[0]?=some (some<|.ref a))(h:0<=i)(q:Q (.int<|cell ns i.toNat) H):ah (GL K C CP E) (.call 1 [.v 0,(.c<|.int i)]) σ H Q:=
 b_ (EH K) O (av<|ag f<|av<|aC<|aH ⟨a,ns,i,O,b.seq d,h,q⟩)
noncomputable def HM:List RS:=[.asg 5 (.lB (.cmp .Eq (.bin .Mod (.v 4) (.c (.int 4))) (.c (.int 0))) (.call 3 [.v 2,.v 3,(.bin .FloorDiv (.v 4) (.c (.int 4)))]) (.call 4 [.v 2,.v 3,(.bin .FloorDiv (.v 4) (.c (.int 4)))])),
  .ite (.or [(.not (.v 5)),(.not (.call 5 [.v 2,.v 3,(.bin .FloorDiv (.v 4) (.c (.int 7)))]))]) [.ret (.c (.bl false))] []]
theorem ajb{w u A:Option V}(S:bz C H hp wA ab la tx M Ed here here pars txts lat las n)(R:cR pars here lat las)(x:n<16)(k:∀(l p:List Addr)(g:Nat)(pars':List (Option Nat))(txts':List Str)(lat' f:List (Option Nat))(H':Hp),aN (M++[wA,ab,la,tx]) H H'->(∀y∈l,y∈M\/H y=none)->bz C H' hp wA ab la tx l p g g pars' txts' lat' f (n+1)->cR pars' g lat' f->D.nx [w,u,some<|.ref hp,some<|.ref wA,some<|.int c,some<|.bl true] H'):
  az (GL K C CP E) HM D [w,u,some<|.ref hp,some<|.ref wA,some<|.int c,A] H:=by
 have r:∀{l p:List Addr}{g:Nat}{pars':List (Option Nat)}{txts':List Str}{lat' f:List (Option Nat)}{H':Hp},aN (M++[wA,ab,la,tx]) H H'->(∀y∈l,y∈M\/H y=none)->bz C H' hp wA ab la tx l p g g pars' txts' lat' f (n+1)->cR pars' g lat' f->az (GL K C CP E) (HM.drop 1) D [w,u,some<|.ref hp,some<|.ref wA,some<|.int c,some<|.bl true] H':=λ{l p g pars' txts' lat' f H'} b m q t=>by
  refine ZZ<|vg<|kS<|aek O<|iF (kS<|nE (Hx C) O<|av<|ag O<|av<|ag O<|av<|bT<|ag O<|aC ⟨⟨by lia,by lia⟩,aH ⟨hp,wA,ab,la,tx,l,p,g,pars',txts',lat',f,n+1,_,O,q,t,x,λN I H2 G P X=>mi<|iF (cQ ?_) O⟩⟩) O;refine k _ _ _ _ _ _ _ _ (λy o e h=>G _ _ (b _ _ e h) λz=>?_) m P X;rcases zad.mp z with z|z
  rcases m y z with z|z
  exact h (zav _ z);rw[z] at e;cases e;exact h (zaw _ z)
 refine bw<|F9<|bf<|bT<|ag O<|aC ⟨(by lia),aC<|eV ⟨_,O,?_⟩⟩;by_cases z:c % 4=0;exact iT (b_ (Hu C) O<|av<|ag O<|av<|ag O<|av<|bT<|ag O<|aC ⟨⟨by lia,by lia⟩,aH ⟨hp,wA,ab,la,tx,M,Ed,here,pars,txts,lat,las,n,_,O,S,R,zby x,λd lat' f H' b q t=>r b (λy h=>.inl h) (q.up<|zbh n) t⟩⟩) (zqT z);exact iF (b_ (Hn C) O<|av<|ag O<|av<|ag O<|av<|bT<|ag O<|aC ⟨⟨by lia,by lia⟩,aH ⟨hp,wA,ab,la,tx,M,Ed,here,pars,txts,lat,las,n,_,O,S,R,x,λl p g pars' txts' lat' f H' b m q t=>r b m q t⟩⟩) (zqF z)
theorem ajc(k:au K H0 a (ns.map V.int))(g:ay H0 H)(S:bz C H hp wA ab la tx M Ed here here pars txts lat las n)(R:cR pars here lat las)(h:n<=16)(q:∀H',Q (.bl true) H'):
  az (GL K C CP E) (gN.drop 4) (Dn Q) [some<|.ref a,some x,some<|.ref hp,some<|.ref wA,c,u] H:=by
 refine ZZ<|kS<|nE (HE C) O<|av<|ag O<|av<|ag O<|av<|HL k 2 g O (za6 _)<|aH ⟨hp,wA,ab,la,tx,M,Ed,here,pars,txts,lat,las,n,_,O,S,h,λH1 f=>mi<|iF (cQ ?_) O⟩;have b:=S.same f;obtain⟨dx,lo,p,d,be,lg,t,es,A⟩:=qx7 (id b.hi);refine ZZ<|vg<|bf<|A.ob.m0 O O ⟨hp,dx,lo,p,d,be,lg,here,_,pars,O,A.ob,fX<|bX O b.R.r1 fD<|.inl ⟨_,au.of b.R.r4,?_⟩⟩;rw[zaa,b.dN];refine qO ⟨_,O,iF (vg<|bf<|A.ob.m0 O O ⟨hp,dx,lo,p,d,be,lg,here,_,pars,O,A.ob,bX O b.R.r1 kY<|qO ⟨_,O,iF ?_ (by lia)⟩⟩) (by lia)⟩;exact kS<|nE (yH C) O<|av<|ag O<|av<|ag O<|aH ⟨hp,wA,ab,la,tx,M,Ed,here,pars,txts,lat,las,n,O,b,R,h,λl m H2 w r G=>mi<|iF (cQ (dh<|b_ (HH C) O<|av<|ag O<|av<|ag O<|aH ⟨hp,wA,ab,la,tx,M,Ed,here,pars,txts,l,m,n,O,r,h,q⟩)) O⟩
inductive Cc(K:Frag)(vs:List V)(H:Hp)(Q:VK)(E:XK):Prop|i(a:Addr)(ns:List Int)(_:vs=[.ref a])(_:au K H a (ns.map V.int))(_:∀H',Q (.bl true) H')
theorem ajd(ha:au K H0 a (ns.map V.int))(s0:ay H0 H)(hM:∀y∈M++[wA,ab,la,tx],H0 y=none)(S:bz C H hp wA ab la tx M Ed here here pars txts lat las 0)(R:cR pars here lat las)(q:∀H',Q (.bl true) H'):
  az (GL K C CP E) (gN.drop 3) (Dn Q) [some<|.ref a,some x0,some<|.ref hp,some<|.ref wA,none,none] H:=by
 refine OF<|OI<|ag rfl<|aC ⟨3,rfl,aC ⟨19,rfl,.inl ⟨_,s0.seq ha,λm fm=>?_⟩⟩⟩;have nm:m∉M++[wA,ab,la,tx]:=λz=>by
  rcases zad.mp z with z|z
  exact(S.no fm).1 z;exact(S.no fm).2.2 z
 have ec:=aej (ns.map V.int) 3 19;rw[show((3:Nat):Int)=3 from rfl,show((19:Nat):Int)=19 from rfl] at ec;rw[ec];have s1:=sameNew (o:=.lst (((ns.map V.int).drop 3).take<|19 - 3)) fm;have hm:upd H m (.lst<|((ns.map V.int).drop 3).take<|19 - 3) m=some (.lst<|((ns.map V.int).drop 3).take<|19 - 3):=ar;have S1:=S.same s1;have SQ:=s0.trans s1;generalize upd H m (.lst<|((ns.map V.int).drop 3).take<|19 - 3)=H1 at s1 hm S1 SQ⊢;have l16:(((ns.map V.int).drop 3).take<|19 - 3).length<=16:=by rw[zaF];lia
 have SR:∀v∈ ((ns.map V.int).drop 3).take (19 - 3),∃i:Int,v=.int i:=by
  intro v hv;obtain⟨i,_,e⟩:=zbt.mp (zbG<|zch hv);exact⟨i,e.symm⟩
 generalize ((ns.map V.int).drop 3).take (19 - 3)=cs at hm l16 SR⊢;refine⟨m,rfl,⟨_,au.of hm⟩,lh (λi σ H2=>qX9 λ(M Ed:List Addr)(here:Nat)(pars:List (Option Nat))(txts:List Str)(lat las:List (Option Nat))(u4 u5:Option V)=>qA7 (σ=[some (.ref a),some x0,some (.ref hp),some (.ref wA),u4,u5]) (bz C H2 hp wA ab la tx M Ed here here pars txts lat las i) (cR pars here lat las) (ay H0 H2) (∀y∈M++[wA,ab,la,tx],H0 y=none) (H2 m=some (.lst cs)) (m∉M++[wA,ab,la,tx]))
  ⟨M,Ed,here,pars,txts,lat,las,none,none,rfl,S1,R,SQ,hM,hm,nm⟩ (by rintro i σ H8 _ ⟨_,_,_,_,_,_,_,_,_,_,_,_,_,_,h,_⟩;exact au.of h) ?_ ?_⟩
 rintro i y σ H2 hy ⟨M,Ed,here,pars,txts,lat,las,u4,u5,rfl,S,R,s2,hM,hm,nm⟩;obtain⟨c,rfl⟩:=SR y (zak hy);have hi:=(zah.mp hy).1;refine ajb S R (zaq hi l16) λM' dy gb pars' txts' lat' cb H' b' m' S' R'=>?_;refine⟨M',dy,gb,pars',txts',lat',cb,_,_,rfl,S',R',λy o e=>b' y o (s2 _ _ e) λh=>?_,λy h=>?_,b' _ _ hm nm,λh=>?_⟩;rw[hM y h] at e;cases e;rcases zad.mp h with h|h
 rcases m' y h with h|h
 exact hM y (zav _ h);exact s2.free h;exact hM y (zaw _ h);rcases zad.mp h with h|h
 rcases m' m h with h|h
 exact nm (zav _ h);rw[hm] at h;cases h;exact nm (zaw _ h);rintro σ H2 ⟨M,Ed,here,pars,txts,lat,las,u4,u5,rfl,S,R,s2,hM,hm,nm⟩;exact ajc ha s2 S R l16 q
theorem ajf:jQ [] (dz ab la tx 0)=dz ab la tx 0:=O
theorem vI{o:HO}(h:H a=some o)(f:H b=none):b≠a:=by lia
theorem ajg:bO (Cc K) (λE=>GL K C CP E) gN pK:=by
 intro vs H Q E h;obtain⟨a,ns,rfl,k,q⟩:=h;refine bw<|b_ Ao O<|av<|HL k 1 (ay.refl _) O (by decide)<|av<|b_ E_ O<|av<|HL k 0 (ay.refl _) O (by decide)<|aH ⟨_,O,λm m0 m1=>aH ⟨_,_,O,m0,by lia,λx H1 U lx g=>?_⟩⟩;refine bw<|AZ C (GX C CP) O<|fX<|ag O ⟨cz U.1,λhp dx u Y ne=>⟨hp,dx,_,O,ar,.inl ⟨x.cps.toList,320,rfl,λM H2 b2 fM A=>⟨O,?_⟩⟩⟩⟩;have X:ay H1 H2:=λy o e=>b2 y o (by rw[aF<|a_ e u,aF<|a_ e Y];exact e) (a_ e u);have f2:∀y∈M,H1 y=none:=λy h=>by
  by_cases z:y=hp;rw[z];exact u;have:=fM y h z;rw[aF z] at this;by_cases G:y=dx;rw[G];exact Y;rw[aF G] at this;exact this
 refine bw<|Ql λwA p=>?_;have r:=sameNew (o:=.dK []) p;refine av<|aC<|av<|cJ<|av<|aC<|aH ⟨cC,λab w=>?_⟩;have b:=sameNew (o:=.lst [V.aD]) w;refine av<|aC<|av<|cJ<|av<|aC<|aH ⟨cC,λla c=>?_⟩;have l:=sameNew (o:=.lst [V.aD]) c;refine av<|aC<|av<|cJ<|av<|ag O<|aH ⟨cC,λtx f=>?_⟩;have t:=sameNew (o:=.lst [V.str x]) f;have J:=b.trans (l.trans t);refine av<|aC<|av<|aC<|aH ⟨J _ _ ar,dz ab la tx 0,O,(by show 4<=15;decide),?_⟩;have R:=r.trans J;have N:=(l.trans t) _ _ (ar);have I:=t _ _ (ar);have Bf:=ar (a:=tx) (o:=.lst [V.str x]) (H:=upd (upd (upd H2 wA<|.dK []) ab<|.lst [V.aD]) la (.lst [V.aD]));have F:=vI ar w;have B:la≠wA:=vI (b _ _ ar) c;have n5:la≠ab:=vI ar c;have Z:tx≠wA:=vI ((b.trans l) _ _ ar) f;have n6:tx≠ab:=vI (l _ _ ar) f;have n8:tx≠la:=vI ar f;generalize upd (upd (upd (upd H2 wA<|.dK []) ab<|.lst [V.aD]) la<|.lst [V.aD]) tx (.lst [V.str x])=H6 at R N I Bf⊢;have d:aR wA H6 (upd H6 wA<|.dK<|dz ab la tx 0):=aR.upd;have P:=qw R p d;have h7:upd H6 wA (.dK<|dz ab la tx 0) wA=some (.dK<|dz ab la tx 0):=ar;have W:∀y∈ [wA,ab,la,tx],H2 y=none:=λy h=>by
  simp at h;rcases h with rfl|rfl|rfl|rfl
  exact p;exact (r.free w);exact ((r.trans b).free c);exact ((r.trans<|b.trans l).free f)
 refine ajd (M:=M) (txts:=[x]) (lat:=[none]) k (g.trans<|X.trans P) (λy h=>?_) ⟨A.same P,⟨h7,d _ _ N F,d _ _ I B,d _ _ Bf Z,?_⟩,λy h=>⟨((bQ.eZ A).2.2.2).no<|W y h,(λz=>by cases z)⟩,λy hy=>?_,zqR 1⟩ aja q;rcases zad.mp h with h|h
 exact g.free (f2 y h);exact g.free (X.free<|W y h);simp;exact⟨⟨F.symm,B.symm,Z.symm⟩,⟨n5.symm,n6.symm⟩,n8.symm⟩;rw[zab.mp hy];exact⟨U,by lia⟩
end
end L2.kW
namespace L2
open PySem PySem.Spec PyProof.Rows
open PySem.W (Frag nsIn findIn isFn keepIn codeIn fnOf mg_of mg_none_of)
def iZ(st:Stmt):List Str:=(jI st).args.map (·.arg)
structure Top(P:Program)(w:World)(K:Frag)(mg:Str->Option Value)(base:Heap):Prop where
 X:K.In base
 G:base.Ns mainGlobals mg
def cf(K:Frag)(x:Str)(st:Stmt):Prop:= ∃f d,nsIn K mainGlobals x=some (some<|.ref f)/\pT K x x st f d
def eY(K:Frag)(C:Addr)(x q:Str)(st:Stmt):Prop:= ∃f fd,findIn K (.ref C) x=some (some<|.ref f)/\isFn K (.ref f)=true/\pT K x q st f fd
structure Cd(K:Frag)(x:Str)(C:Addr):Prop where
 g:nsIn K mainGlobals x=some (some<|.ref C)
 m:makesIn K C=true
 k:keepIn K (.ref C)=true
structure gO(K:Frag)(p:Str×V):Prop where
 ex:∃u,nsIn K mainGlobals p.1=some (some u)/\RelV p.2 u
structure vJ(K:Frag)(p:Str×Addr):Prop where
 g:nsIn K mainGlobals p.1=some (some<|.ref p.2)
 x:PySem.W.excIn K p.2 [.type "ValueError",.type "Exception",.type "BaseException",.type "object"] "ValueError.__new__"=true
section
variable{P:Program}{w:World}{K:Frag}{mg:Str->Option Value}{base:Heap}{x q:Str}{st:Stmt}{f C:Addr}{fd:FuncData}{k:Nat}{sp:Sp}
theorem dfk{od an:Option Addr}{iE:Array (Option Value)}{kV doc pm bH ct:Value}(a:nsIn K mainGlobals x=some (some<|.ref f))(l:K.lookup f=some ⟨oc,od,.func<|fnOf x x (jI st) (fF st) (fG st) .none kV doc pm an bH ct,iE⟩)(c:codeIn K bH x=true)(k:keepIn K (.ref f)=true):cf K x st:=⟨f,_,a,Jy l c k⟩
theorem dmk{V d p b t:Value}(a:findIn K (.ref C) x=some (some<|.ref f))(i:isFn K (.ref f)=true)(l:K.lookup f=some ⟨h,od,.func<|fnOf x q (jI st) (fF st) (fG st) .none V d p g b t,E⟩)(c:codeIn K b q=true)(k:keepIn K (.ref f)=true):eY K C x q st:=⟨f,_,a,i,Jy l c k⟩
theorem ajj(h:nsIn K mainGlobals x=some (some<|.str y t)):gO K (x,.str y):=⟨_,h,⟨_,O⟩⟩
theorem ajk{y:Addr}(h:nsIn K mainGlobals x=some (some<|.ref y)):gO K (x,.ref y):=⟨_,h,O⟩
theorem ajl(h:findIn K (.ref C) y=some none):gB K C y:=h
theorem Top.gv(Z:Top P w K mg base)(h:gO K p):wK mg p:=by
 obtain⟨u,a,b⟩:=h.ex;exact⟨u,mg_of Z.X Z.G a,b⟩
theorem Top.no(Z:Top P w K mg base)(h:nsIn K mainGlobals x=some none):mg x=none:=mg_none_of Z.X Z.G h
theorem Top.exc(Z:Top P w K mg base)(h:vJ K p):Ac mg base p:=ad9 Z.X Z.G h.g h.x
structure i4(P:Program)(w:World)(K:Frag)(mg:Str->Option Value)(base:Heap)(k:Nat)(st:Stmt)(sp:Sp):Prop where
 ok:∀{x q:Str}{f:Addr}{fd:FuncData},pT K x q st f fd->de P w K mg base (gj P w) k f fd (iZ st) sp
theorem i4.or{a b:Sp}(A:i4 P w K mg base k st a)(C:i4 P w K mg base k st b):i4 P w K mg base k st (B.j5 a b):=⟨λc=>(A.ok c).or<|C.ok c⟩
theorem SS{N P:List Str}{h:Scope}(a:h.kind=.function:=by kernel_rfl)(b:h.isCoroutine=false:=by kernel_rfl)(c:h.isGenerator=false:=by kernel_rfl)(d:N.Nodup:=by decide+kernel)(e:N.take P.length=P:=by kernel_rfl)(f:∀x∈P,h.names.lookup x=some .local\/h.names.lookup x=some .cell:=by decide+kernel)(g:∀y∈h.names,y.2≠ .free:=by decide+kernel):pQ N P h:=⟨a,b,c,d,e,f,g⟩
theorem dL{G A:List Str}{t:List (Str×Sp)}{g:List (Str×V)}{u:List (Addr×List (Key×V))}{m c:List (Str×Addr×Sp)}{et:List (Str×Addr)}{ht:List (Str×Sp)}{body:List RS}(Z:Top P w K mg base)(R:∀vs H Q E,sp vs H Q E->az (aI K t g u m c et ht E) body {nx:=λ_ H'=>Q .aD H',rt:=Q} (start G vs) H)(F:∀{CX:cE}{Γ:ba}{X:Cx},dE CX (uF N (fG st) (t.map (·.1)) (g.map (·.1)) A (m.map (·.1)) (c.map (·.1)) (et.map (·.1)) (ht.map (·.1))) Γ X->dZ X (fF st) (az Γ body))(k:Nat)(l:∀vs H Q E,sp vs H Q E->vs.length=(iZ st).length:=by intro _ _ _ _ h;first|(cases h;subst_eqs;show List.length (_::_)=_;kernel_rfl)|repeat (first|(obtain⟨rfl,_⟩:=h;kernel_rfl)|(obtain⟨_,h⟩:=h)))(D7:∀p∈t,iP P w K mg base k p.1 p.2:=by repeat (first|exact nB|refine nC (iP.mono (by assumption) (by first|decide|lia)) ?_))(I:∀p∈g,wK mg p:=by repeat (first|exact nB|refine nC (Top.gv (by assumption) (by assumption)) ?_))(B:∀y∈A,mg y=none:=by repeat (first|exact nB|refine nC (Top.no (by assumption) (by assumption)) ?_))(D8:∀q∈u,Ab P w K q:=by repeat (first|exact nB|refine nC (by assumption) ?_))(Y:∀p∈m,iQ P w K mg base k p:=by repeat (first|exact nB|refine nC (iQ.mono (by assumption) (by first|decide|lia)) ?_))(W:∀p∈c,sx P w K mg base k p:=by repeat (first|exact nB|refine nC (sx.mono (by assumption) (by first|decide|lia)) ?_))(d:∀p∈et,Ac mg base p:=by repeat (first|exact nB|refine nC (Top.exc (by assumption) (by assumption)) ?_))(U:∀p∈ht,qq P w K mg base k p.1 p.2:=by repeat (first|exact nB|refine nC (qq.mono (by assumption) (by first|decide|lia)) ?_))(S:pQ N (iZ st) (fG st):=by exact SS)(J:G.length=N.length:=by kernel_rfl):i4 P w K mg base (k+1) st sp:=
 ⟨λb=>ZW b S t g A m c et ht body F D7 I B u D8 Y W d U l λvs H Q E h=>by
  have r:=R vs H Q E h;unfold start at r⊢;rw[J] at r;exact r⟩
def Bd(x q:Str)(st:Stmt):Prop:= ∀(kV doc pm:Value)(an:Option Addr)(bH ct:Value)(us:List Value),us.length=(iZ st).length->bindArgs (fnOf x q (jI st) (fF st) (fG st) .none kV doc pm an bH ct) ⟨us,[]⟩=pure ((iZ st).zip us)
theorem ajm(m:(iZ st).length=1)(h:∀(V d p:Value)(g:Option Addr)(b c l:Value),bindArgs (fnOf x q (jI st) (fF st) (fG st) .none V d p g b c) ⟨[l],[]⟩=pure ((iZ st).zip [l])):Bd x q st:=λV d p g b c u r=>by
 rcases u with _|⟨l,_|⟨_,_⟩⟩ <;>first|exact h V d p g b c _|exact absurd (r.trans m) (by simp)
theorem ajn(r:(iZ st).length=2)(h:∀(V d p:Value)(g:Option Addr)(b c m l:Value),bindArgs (fnOf x q (jI st) (fF st) (fG st) .none V d p g b c) ⟨[m,l],[]⟩=pure ((iZ st).zip [m,l])):Bd x q st:=λV d p g b c u t=>by
 rcases u with _|⟨m,_|⟨l,_|⟨_,_⟩⟩⟩ <;>first|exact h V d p g b c _ _|exact absurd (t.trans r) (by simp)
theorem ajo(t:(iZ st).length=3)(h:∀(V d p:Value)(g:Option Addr)(b c r m l:Value),bindArgs (fnOf x q (jI st) (fF st) (fG st) .none V d p g b c) ⟨[r,m,l],[]⟩=pure ((iZ st).zip [r,m,l])):Bd x q st:=λV d p g b c u A=>by
 rcases u with _|⟨r,_|⟨m,_|⟨l,_|⟨_,_⟩⟩⟩⟩ <;>first|exact h V d p g b c _ _ _|exact absurd (A.trans t) (by simp)
theorem ajp(A:(iZ st).length=4)(h:∀(V d p:Value)(g:Option Addr)(b c t r m l:Value),bindArgs (fnOf x q (jI st) (fF st) (fG st) .none V d p g b c) ⟨[t,r,m,l],[]⟩=pure ((iZ st).zip [t,r,m,l])):Bd x q st:=λV d p g b c u E=>by
 rcases u with _|⟨t,_|⟨r,_|⟨m,_|⟨l,_|⟨_,_⟩⟩⟩⟩⟩ <;>first|exact h V d p g b c _ _ _ _|exact absurd (E.trans A) (by simp)
theorem Ce(h:Bd x q st:=by first|exact ajm (by kernel_rfl) λ_ _ _ _ _ _ _=>O|exact ajn (by kernel_rfl) λ_ _ _ _ _ _ _ _=>O|exact ajo (by kernel_rfl) λ_ _ _ _ _ _ _ _ _=>O|exact ajp (by kernel_rfl) λ_ _ _ _ _ _ _ _ _ _=>O|exact alJ (by kernel_rfl) λ_ _ _ _ _ _ _ _ _ _ _=>O|exact alK (by kernel_rfl) λ_ _ _ _ _ _ _ _ _ _ _ _=>O|exact alL (by kernel_rfl) λ_ _ _ _ _ _ _ _ _ _ _ _ _=>O|exact alM (by kernel_rfl) λ_ _ _ _ _ _=>O):Bd x q st:=h
theorem dT(Z:Top P w K mg base)(D:cf K x st)(R:i4 P w K mg base k st sp)(hb:Bd x x st:=by exact Ce):iP P w K mg base k x sp:=by
 obtain⟨f,fd,a,F⟩:=D;exact⟨f,fd,_,R.ok F,mg_of Z.X Z.G a,F.kp,F.binds hb⟩
theorem dM(D:eY K C x q st)(c:gT K C)(R:i4 P w K mg base k st sp)(h:Bd x q st:=by exact Ce):iQ P w K mg base k (x,C,sp):=by
 obtain⟨f,fd,a,i,F⟩:=D;exact⟨c,f,fd,_,⟨a,i,F.kp⟩,R.ok F,F.binds h⟩
theorem dI(Z:Top P w K mg base)(D:eY K C "__init__" q st)(M:Cd K c C)(R:i4 P w K mg base k st sp)(h:Bd "__init__" q st:=by exact Ce):sx P w K mg base (k+1) (c,C,sp):=by
 obtain⟨f,fd,a,i,b⟩:=D;exact⟨k,f,fd,_,zqR _,⟨M.m,a,i,M.k⟩,R.ok b,mg_of Z.X Z.G M.g,b.binds h⟩
theorem dH{d c:List Str}{g:List (Str×V)}(Z:Top P w K mg base)(D:cf K x st)(A:∀vs H Q,sp vs H Q E0->az (aI K [] g) body {nx:=λ_ H'=>Q .aD H',rt:=Q} (start d vs) H)(u:∀{CX:cE}{Γ:ba}{X:Cx},dE CX (uF N (fG st) [] (g.map (·.1)) c (md:=1)) Γ X->dZ X (fF st) (az Γ body))(k:Nat)(l:∀vs H Q E,sp vs H Q E->vs.length=(iZ st).length:=by intro _ _ _ _ h;first|(cases h;subst_eqs;show List.length (_::_)=_;kernel_rfl)|repeat (first|(obtain⟨rfl,_⟩:=h;kernel_rfl)|(obtain⟨_,h⟩:=h)))(m:∀p∈g,wK mg p:=by repeat (first|exact nB|refine nC (Top.gv (by assumption) (by assumption)) ?_))(t:∀y∈c,mg y=none:=by repeat (first|exact nB|refine nC (Top.no (by assumption) (by assumption)) ?_))(S:pQ N (iZ st) (fG st):=by exact SS)(I:Bd x x st:=by exact Ce)(R:d.length=N.length:=by kernel_rfl):qq P w K mg base (k+1) x sp:=by
 obtain⟨f,fd,a,b⟩:=D;exact ZX b S (mg_of Z.X Z.G a) (b.binds I) g c body u m t l λvs H Q h=>by
  have r:=A vs H Q h;unfold start at r⊢;rw[R] at r;exact r
theorem iP.l{a b:Sp}(T:iP P w K mg base k x (B.j5 a b)):iP P w K mg base k x a:=T.weak λ_ _ _ _ h=>.inl h
theorem iP.r{a b:Sp}(T:iP P w K mg base k x (B.j5 a b)):iP P w K mg base k x b:=T.weak λ_ _ _ _ h=>.inr h
theorem iQ.l{a b:Sp}(T:iQ P w K mg base k (x,C,B.j5 a b)):iQ P w K mg base k (x,C,a):=T.weak λ_ _ _ _ h=>.inl h
theorem iQ.r{a b:Sp}(T:iQ P w K mg base k (x,C,B.j5 a b)):iQ P w K mg base k (x,C,b):=T.weak λ_ _ _ _ h=>.inr h
theorem ajq(X:K.In h)(G:h.Ns mainGlobals mg)(u:mg x=some (.ref m))(D:cf K x st)(R:∀base,Top P w K mg base->i4 P w K mg base k st sp)(A:iZ st=[y]:=by kernel_rfl)(E:∀(V d p:Value)(l:Option Addr)(g c t:Value),bindArgs (fnOf x x (jI st) (fF st) (fG st) .none V d p l g c) ⟨[t],[]⟩=pure [(y,t)]:=by exact λ_ _ _ _ _ _ _=>O):
  ∃fd:FuncData,(∀(s:Shared)(v:Value),BindsTo s fd ⟨[v],[]⟩ [(y,v)])/\∀base:Heap,K.In base->base.Ns mainGlobals mg->de P w K mg base v3 k m fd [y] (λvs H Q _=>sp vs H Q E0):=by
 obtain⟨f,fd,e,b⟩:=D;cases u.symm.trans (mg_of X G e);obtain⟨B,Z,V,d,p,l,g,c,U,zq⟩:=qx9 ((b).ex);obtain⟨rfl,F,J⟩:=qa3 zq;refine⟨_,λs v=>.of_eq<|E V d p l g c v,λbase I N=>?_⟩;have r:=(R base ⟨I,N⟩).ok b;rw[A] at r;exact de.top r
noncomputable def SU(K:Frag)(cs:List Addr)(A D:Addr)(j:Nat):Bool:=(cs.zipIdx.all λc=>kitOne K (.ref D) (.ref c.1)==some (decide<|c.2=j)) && kitOne K (.ref D) (.ref A)==some true && kitOne K (.ref D) (.type "ValueError")==some true
structure yK(K:Frag)(cs:List Addr)(cA D:Addr)(j:Nat):Prop where
 c:um K D
 b:SU K cs cA D j=true
 x:exmOne K (.ref D) (.ref cA)=some true
theorem yK.SV{D:Addr}(h:yK K cs A D j):B.qJ K cs A D j:=by
 have b:=h.b;simp only[SU,zaj,beq_iff_eq,zbr] at b;refine⟨h.c,λi c e=>b.1.1 (c,i) ?_,b.1.2,b.2⟩;rw[List.mem_zipIdx_iff_getElem?];exact e
end
end L2
namespace L2.kW
open PySem PySem.Spec PyProof.Rows L2.B
theorem all_mk{w:World}{K:Frag}{h:Heap}{mg:Str->Option Value}{fa tV gP Cf Cg tW mG vK Ci Cj tX Ck Cm Cn Co Cp Cq HN:Addr}(X:K.In h)(G:h.Ns mainGlobals mg)(ph:mg "law"=some (.ref fa)){ajr:Nat}{ajs ajt aju ajv ajw ajx:Tok}(alN:gO K ("InkError",.ref Cf))(alO:gO K ("BadText",.ref Cg))(alP:gO K ("BadChange",.ref tW))(alQ:gO K ("BadFit",.ref mG))(alR:gO K ("NoPlace",.ref vK))(alS:gO K ("BadSide",.ref Ci))(alT:gO K ("NoMark",.ref Cj))(alU:gO K ("NoNode",.ref tX))(alV:gO K ("NoCursor",.ref Ck))(alW:gO K ("BadDeed",.ref Cm))(alX:gO K ("BadLetter",.ref Cn))(alY:gO K ("NoLetter",.ref Co))(alZ:gO K ("NoHand",.ref Cp))(al0:gO K ("NoNote",.ref Cq))(ajy:Cd K "Walk" tV)(ajz:Cd K "History" gP)(pM:qF K tV)(di:fP K gP)(al1:vJ K ("BadChange",tW))(al2:vJ K ("BadFit",mG))(al4:vJ K ("NoPlace",vK))(al5:vJ K ("NoNode",tX))(SW:yK K [Cg,tW,mG,vK,Ci,Cj,tX,Ck,Cm,Cn,Co,Cp,Cq] Cf tW 1)(SX:yK K [Cg,tW,mG,vK,Ci,Cj,tX,Ck,Cm,Cn,Co,Cp,Cq] Cf mG 2)(a0:cf K "is_whole" Qw)(a1:cf K "is_between" Qx)(a2:cf K "is_word" Qy)(a3:cf K "is_text" Qz)(a4:cf K "is_part" QC)(a5:cf K "may_follow" QD)(a6:cf K "need_change" QE)(a7:cf K "part_size" QG)(a8:cf K "sizes" QH)(a9:eY K tV "__init__" "Walk.__init__" QJ)(a10:eY K tV "word" "Walk.word" QK)(a11:eY K tV "left" "Walk.left" QL)(a12:eY K tV "take" "Walk.take" QM)(a13:cf K "add_keep" QN)(a14:cf K "add_texts" QO)(a15:cf K "neat" QP)(a16:cf K "back" QR)(a17:cf K "cut_behind" QS)(a18:cf K "parts_behind" QU)(a19:cf K "then" QV)(a20:cf K "put_first" QW)(a21:cf K "share" QX)(a22:cf K "passed" QY)(a23:cf K "joined_all" QZ)(a24:eY K gP "__init__" "History.__init__" Q0)(a25:eY K gP "need_node" "History.need_node" Q2)(a26:eY K gP "need_over" "History.need_over" Q3)(a27:eY K gP "now" "History.now" Q6)(a28:eY K gP "many" "History.many" Q7)(a29:eY K gP "size" "History.size" Q8)(a30:eY K gP "do" "History.do" Q9)(a31:eY K gP "more" "History.more" Ra)(a32:eY K gP "edge" "History.edge" Rc)(a33:eY K gP "along" "History.along" Rg)(a34:eY K gP "undo" "History.undo" Rh)(a35:eY K gP "redo" "History.redo" Ri)(a36:eY K gP "go" "History.go" Rj)(a37:eY K gP "upward" "History.upward" Rk)(a38:eY K gP "way" "History.way" Rl)(a39:eY K gP "neighbours" "History.neighbours" Rm)(a40:eY K gP "foreign" "History.foreign" Rn)(a41:cf K "_law_cell_at" Rp)(a42:cf K "_law_whole" Rq)(a43:cf K "_law_mixed" Rr)(a44:cf K "_law_text" Rt)(a45:cf K "_law_size" Ru)(a46:cf K "_law_parts" Rv)(a47:cf K "_law_neat" Rx)(a48:cf K "_law_change" Ry)(a49:cf K "_law_done" Rz)(a50:cf K "_law_word" gL)(a51:cf K "_law_leads" RC)(a52:cf K "_law_came" RH)(a53:cf K "_law_put_on" RK)(a54:cf K "_law_back_and_on" RN)(a55:cf K "_law_moved" gM)(a56:cf K "_law_refused" RQ)(a57:cf K "_law_all_refused" f_)(a58:cf K "_law_sizes_right" RW)(a59:cf K "_law_all_asked" RZ)(a60:cf K "_law_fits_then" R9)(a61:cf K "law" iz)(al6:gO K ("SIGNS",.str SG))(al7:gO K ("WAYS_BACK",.ref HN))(akp:K.lookup HN=some ⟨.type "dict",none,.dict #[⟨PyData.keyHash w.params "keep",.str "keep" ajs,.str "keep" ajt⟩,⟨PyData.keyHash w.params "cut",.str "cut" aju,.str "put" ajv⟩,⟨PyData.keyHash w.params "put",.str "put" ajw,.str "cut" ajx⟩] ajr,#[]⟩)(al8:nsIn K mainGlobals "ValueError"=some none)(al9:nsIn K mainGlobals "bool"=some none)(al_:nsIn K mainGlobals "int"=some none)(ama:nsIn K mainGlobals "isinstance"=some none)(amb:nsIn K mainGlobals "len"=some none)(amc:nsIn K mainGlobals "list"=some none)(amd:nsIn K mainGlobals "min"=some none)(ame:nsIn K mainGlobals "range"=some none)(amf:nsIn K mainGlobals "reversed"=some none)(amg:nsIn K mainGlobals "str"=some none)(amh:nsIn K mainGlobals "sum"=some none)(ami:nsIn K mainGlobals "tuple"=some none)(amj:nsIn K mainGlobals "zip"=some none)
  :∃fd:FuncData,(∀(s:Shared)(v:Value),BindsTo s fd ⟨[v],[]⟩ [("_law_script",v)])/\∀base:Heap,K.In base->base.Ns mainGlobals mg->de P w K mg base v3 11 fa fd ["_law_script"] (λvs H Q _=>(Cc K) vs H Q E0):=by
 have amk:Ab P w K (HN,WB):=ad8 akp (.cons ⟨_,rfl⟩<|.cons ⟨_,rfl⟩<|.cons ⟨_,rfl⟩ .nil) (by decide);have akq:=SW.SV;have akr:=SW.x;have aks:=SX.SV;have akt:=SX.x;refine ajq X G ph a61 λbase Z=>?_;have T0:=dT Z a0 (dL Z ach @agG 0);have T1:=dT Z a1 (dL Z ad_ @agH 1);have T2:=dT Z a2 (dL Z acj @agI 0);have T3:=dT Z a3 (dL Z aci @agJ 0);have T4:=dT Z a4 (dL Z ack @agK 1);have aml:=T4.weak (a:=EM) λ_ _ _ _ h=>acm h;have T5:=dT Z a5 (dL Z aaQ @agL 0);have T6:=dT Z a6 (i4.or (dL Z (aa1 (et:=[("BadChange",tW)])) @QF 2)<|dL Z aco @QF 2);have amm:=T6.l;have amn:=T6.r;have T7:=dT Z a7 (dL Z aaR @agM 0);have T8:=dT Z a8 (i4.or (dL Z aa2 @QI 3)<|dL Z acq @QI 3);have amo:=T8.l;have amq:=T8.r;have T9:=dI Z a9 ajy (dL Z (acJ pM) @agN 0);have T10:=dM a10 pM.cl (dL Z (acK pM) @agO 0);have T11:=dM a11 pM.cl (dL Z (acL pM) @agP 1);have ams:=T11.weak (a:=nq tV) λ_ _ _ _ h=>acM h;have T12:=dM a12 pM.cl (dL Z (acN pM) @agQ 2);have T13:=dT Z a13 (dL Z aa7 @agR 0);have T14:=dT Z a14 (dL Z aa5 @agS 0);have T15:=dT Z a15 (dL Z aa9 @agT 1);have T16:=dT Z a16 (dL Z abT @agU 3);have T17:=dT Z a17 (dL Z (acU (et:=[("BadFit",mG)])) @agV 0);have T18:=dT Z a18 (dL Z acW @agW 3);have T19:=dT Z a19 (dL Z (ade (et:=[("BadFit",mG)]) pM) @agX 4);have T20:=dT Z a20 (dL Z adt @agY 3);have T21:=dT Z a21 (dL Z (adw (et:=[("BadFit",mG)])) @agZ 0);have T22:=dT Z a22 (dL Z (adM (et:=[("BadFit",mG)]) pM) @ag0 4);have T23:=dT Z a23 (dL Z N.aeq @ag1 5);have T24:=dI Z a24 ajz (dL Z (N.afJ di) @ag2 1);have T28:=dM a28 di.cl (dL Z (N.aet di) @ag5 0);have T25:=dM a25 di.cl (dL Z N.aeu @ag3 2);have T26:=dM a26 di.cl (i4.or (dL Z (N.aeG di) @Q4 4)<|dL Z aiT @Q4 4);have amI:=T26.l;have T27:=dM a27 di.cl (dL Z (aif di) @ag4 0);have T29:=dM a29 di.cl (dL Z (N.aev di) @ag6 3);have T30:=dM a30 di.cl (i4.or (dL Z (N.afh di) @Q_ 5)<|dL Z aiU @Q_ 5);have amL:=T30.l;have T31:=dM a31 di.cl (i4.or (dL Z (N.uY di) @Rb 6)<|dL Z aiV @Rb 6);have amM:=T31.l;have SY:=dM a32 di.cl (i4.or (dL Z (N.aeF di) @Rf 4)<|dL Z (N.af6 di) @Rf 4);have amN:=SY.l;have amO:=SY.r;have T33:=dM a33 di.cl (dL Z (N.afp di) @ag7 6);have T34:=dM a34 di.cl (dL Z (N.afG di) @ag8 7);have T35:=dM a35 di.cl (dL Z (N.afH di) @ag9 7);have T37:=dM a37 di.cl (dL Z (N.aey di) @aha 0);have T38:=dM a38 di.cl (dL Z N.aeC @ahb 3);have T36:=dM a36 di.cl (dL Z (N.afI di) @ag_ 7);have T39:=dM a39 di.cl (dL Z (N.af9 di) @ahc 0);have T40:=dM a40 di.cl (i4.or (dL Z (N.agC (CF:=mG) di) @Ro 5)<|dL Z aiW @Ro 5);have T41:=dT Z a41 (dL Z aaS @ahd 0);have T42:=dT Z a42 (dL Z ad7 @ahe 0);have T43:=dT Z a43 (dL Z aaT @ahf 0);have T44:=dT Z a44 (dL Z abg @ahg 1);have T45:=dT Z a45 (dL Z abR @ahh 0);have T46:=dT Z a46 (dL Z ail @ahi 2);have T47:=dT Z a47 (dL Z abo @ahj 0);have T48:=dT Z a48 (dL Z aiv @ahk 3);have T49:=dT Z a49 (dL Z acF @ahl 0);have T50:=dH (sp:=xq K [Cg,tW,mG,vK,Ci,Cj,tX,Ck,Cm,Cn,Co,Cp,Cq] Cf) Z a50 acE @ahu 0;have T51:=dT Z a51 (dL Z aii @ahx 1);have T52:=dT Z a52 (dL Z aij @ahy 0);have T53:=dT Z a53 (dL Z aiw @ahB 7);have T54:=dT Z a54 (dL Z (aiH (CN:=tX)) @ahD 8);have T55:=dT Z a55 (dL Z (aiC (CN:=tX)) @ahM 8);have T56:=dT Z a56 (dL Z (aiY akq akr aks akt) @ahQ 7);have T57:=dT Z a57 (dL Z ai3 @ah0 8);have T58:=dT Z a58 (dL Z aik @ah2 4);have T59:=dT Z a59 (dL Z aiO @ah4 9);have T60:=dT Z a60 (dL Z ai9 @ah7 8);exact dL Z (ajg (CP:=vK)) @aie 10
theorem walk{l:PySem.W.OpenLaw}{q:Program}{g:List Str}{X:(Str->Option Value)->Heap->Prop}{P:World->Heap->Prop}{d:DefRec}{K:Params->Frag}(x:l.most=some 63)(r:d.params.defaults=[])(A:∀(w:World)(h:Heap),P w h->(K w.params).In h)(b:∀(w:World)(m:Str->Option Value)(p:Addr)(h:Heap),(K w.params).In h->h.Ns mainGlobals m->m d.name=some (.ref p)->
   ∃k:FuncData,(∀(s:Shared)(u:Value),BindsTo s k ⟨[u],[]⟩ [("_law_script",u)])/\∀c:Heap,(K w.params).In c->c.Ns mainGlobals m->de l.prog w (K w.params) m c v3 11 p k ["_law_script"] ((λK=>(λvs H Q _=>(Cc K) vs H Q E0)) (K w.params))):
  PySem.W.WalkO q g X P l.row.toRowW d [] (λf vs=>PySem.call f vs):=
 L2.Wb x (by decide) r ⟨O,by decide,by decide,O⟩ A b (λ_ _ a t G _ E=>⟨a,t,O,E,λ_=>O⟩) λ_ _ _ _ _ z=>z
end L2.kW
end Internal
namespace PySem.W.Fast
def tw15492898719494485686:=()
def tw7664250558188936326:=()
def tw9212337137219762009:=()
def tw9618479020229216959:=()
def tw18224731317841683127:=()
def tw17642955834292210564:=()
def tw14940886957593682970:=()
def tw14807091504109634693:=()
def tw13364054869480433307:=()
def tw8351309994012770129:=()
def tw9193151995411899318:=()
def tw14568845292495884205:=()
def tw5851943769173788652:=()
def tw16028222586435428410:=()
def tw14806971075012643886:=()
def tw9032999936825022591:=()
def tw6173358067783997276:=()
def tw17034423524888634787:=()
def tw658796835607492679:=()
def tw3390746031721955989:=()
def tw13935724029517991435:=()
def tw8964525980639786737:=()
def tw8363326687749988096:=()
def tw14093606415070750926:=()
def tw15660079388761702340:=()
def tw10335672814775686250:=()
def tw8257874060185012580:=()
def tw2890112589938349135:=()
def tw5651670835038314525:=()
def tw7113173466290939624:=()
def tw15039421547974241144:=()
def tw4666404034309317430:=()
def tw1140325104424081320:=()
def tw9337298765231637271:=()
def tw6036203924402103969:=()
def tw8792970668169093898:=()
def tw2034432200426431480:=()
def tw1074599232835425800:=()
def tw18024526444425893925:=()
def tw2679008221354659496:=()
def tw16127413565208901440:=()
def tw12035329646202505155:=()
def tw10272876679596001953:=()
def tw2890971715024006925:=()
def tw5327497803618237536:=()
def tw11555393810841599748:=()
def tw8253695553860253645:=()
def tw11604518638916491307:=()
def tw11188412876755107969:=()
def tw16541437089611029077:=()
def tw11666257226525604330:=()
def tw1892119658511408513:=()
def tw12922048858065769172:=()
def tw13806449421946727604:=()
def tw12969397243778337088:=()
def tw18339956476242405247:=()
def tw16520573631526873413:=()
def tw9400786153419829694:=()
def tw16041438058019660596:=()
def tw16335967801483383970:=()
def tw8960974671156487738:=()
def tw3648952325879696428:=()
def tw10230479888111147966:=()
def tw7398999930281926396:=()
def tw18170310809368044834:=()
def tw2023868335404828807:=()
def tw13304567125645469628:=()
def tw6212584084695595292:=()
def tw12346003522714762217:=()
def tw15602238617907178330:=()
def tw9047100486820308229:=()
def tw8635257249695632053:=()
def tw6298373028868709005:=()
def tw12875520416803017041:=()
def tw7013182754531710610:=()
def tw10491030299050879136:=()
def tw12124896179298892841:=()
def tw14814093544166498157:=()
def tw829829769947000507:=()
def tw2560171066567702310:=()
def tw6759012760138676494:=()
def tw13956947575515937399:=()
def tw12832612617861232033:=()
def tw11906709188588477368:=()
def tw18012300192240973435:=()
def tw13371796215334940158:=()
def tw11643153341152775217:=()
def tw9521819626874242531:=()
def tw12766925313525938815:=()
def tw12871870466216225069:=()
def tw3647913160881888585:=()
def tw7163753971105185287:=()
def tw11027775656780475233:=()
def tw13609968905546239166:=()
def tw741713907635457100:=()
def tw11015086039895515510:=()
def tw6129087772146744608:=()
def tw6136644828260856925:=()
def tw112637349815816276:=()
def tw13550440262275290504:=()
def tw10168083609365189421:=()
def tw15268144565026137190:=()
def tw15390376074246255408:=()
def tw7189072722615976247:=()
def tw11378671006404632221:=()
def tw8325875928126598437:=()
def tw18119422324814917993:=()
def tw12222526720631420248:=()
def tw12024169579144172228:=()
def tw331965970018221235:=()
def tw15429337310744945450:=()
def tw14052066810778940489:=()
def tw14478640284266083642:=()
def tw5196906311636540446:=()
def tw304751476904728017:=()
def tw2462544950873334921:=()
def tw16465893261674578205:=()
def tw5164120818069916791:=()
def tw8498068918872672979:=()
def tw16252526280794961452:=()
def tw13179772204509177238:=()
def tw16470310473752174056:=()
def tw14055014680270588568:=()
def tw13635767797394989610:=()
def tw7056799506401198669:=()
def tw14879111817100977505:=()
def tw17149874525038037382:=()
def tw10393281778168742548:=()
def tw16443052456752554920:=()
def tw6798512960912497842:=()
def tw6589284816745540492:=()
def tw6627057293334130657:=()
def tw12560955241352577431:=()
def tw14117516020338663922:=()
def tw5585275530531054724:=()
def tw12558024705700912215:=()
def tw7398510587951041718:=()
def tw14384739675993584190:=()
def tw14635411644077954149:=()
def tw3327552165971443606:=()
def tw7370253452330295968:=()
def tw1422604392675575739:=()
def tw7277228639713012760:=()
def tw10777326950008647349:=()
def tw5752245024170673752:=()
def tw1224274937834557262:=()
def tw2174392198321417420:=()
def tw5113298934210770744:=()
def tw11038062878877719612:=()
def tw11676244816797727030:=()
def tw2998499157942110395:=()
def tw10491018575489907298:=()
def tw11374951736315560812:=()
def tw6277875874813292884:=()
def tw4095070079921397393:=()
def tw5959918065167899203:=()
def tw4045469806741297073:=()
def tw3668703123045821849:=()
def tw11131768240803647392:=()
def tw9365592794702089267:=()
def tw7158389073170894947:=()
def tw14471270080574299399:=()
def tw9042742465777681441:=()
def tw18164715721951898069:=()
def tw11299543771222387498:=()
def tw7426115661141784218:=()
def tw9272405173335626664:=()
def tw17118692965376297736:=()
def tw13014134880347109030:=()
def tw5831159171311683747:=()
def tw3560487454658934290:=()
def tw12332043456947200362:=()
def tw6004945733683380558:=()
def tw4012235002030092202:=()
def tw5496565844848879306:=()
def tw6926718067463403343:=()
def tw17741050060177824385:=()
def tw9368626922210165485:=()
def tw5653859317645036478:=()
def tw15039309621342060431:=()
def tw7043553117413588028:=()
def tw437932263253790244:=()
def tw705062851360744643:=()
def tw2271766587403573802:=()
def tw12269756701810151383:=()
def tw9404795119896066651:=()
def tw3010014826974580723:=()
def tw956251412247092632:=()
def tw5247791401091162364:=()
def tw6462375058788384480:=()
def tw4099531793438895692:=()
def tw6650997424862155184:=()
def tw14107015099449060537:=()
def tw8682788484143105300:=()
def tw9783041002163870483:=()
def tw13466580452230705168:=()
def tw17517250358899631257:=()
def tw5413195584602801877:=()
def tw8129079994231348363:=()
def tw13918510979775081359:=()
def tw7070294941412726234:=()
def tw6518230635209470389:=()
def tw4518035949409498265:=()
def tw13935083087799090461:=()
def tw5889084091746713828:=()
def tw5813789656651337615:=()
def tw7453532266560002399:=()
def tw8203173249704276116:=()
def tw10804158689443835421:=()
def tw14619305006262326935:=()
def tw13776001208418057425:=()
def tw11545579010565581420:=()
def tw15948413008534022953:=()
def tw8144192674231318883:=()
def tw8693393454466034555:=()
def tw18218122085796133898:=()
def tw7746555542208276506:=()
def tw10765342109110725925:=()
def tw10487532668409090931:=()
def tw18371432817432549892:=()
def tw1844743476399723738:=()
def tw4730746427752155086:=()
def tw7067622607630278900:=()
def tw4193575635343485386:=()
def tw15088928948831558699:=()
def tw12700687193670652514:=()
def tw11262471528841161338:=()
def tw1974984808658078987:=()
def tw13011335789903413863:=()
def tw14110524007963985980:=()
def tw14225797525118263660:=()
def tw11492827314268430412:=()
def tw3002331376966437364:=()
def tw17298072654231059422:=()
def tw4500596654770755906:=()
def tw979964157948000371:=()
def tw17019648669133045031:=()
end PySem.W.Fast
open Internal PySem PySem.W PyProof.Rows
set_option maxRecDepth 100000 in
set_option maxHeartbeats 0 in
theorem PySem.Challenge.cw_inkloom_k25_more_and_redo_holds : PySem.Challenge.rw_inkloom_k25_more_and_redo.Holds := by
 w_on;o_law;k_head;(case hw=>w_witness2)
 k_fill
 refine L2.kW.walk (l:=PySem.Challenge.rw_inkloom_k25_more_and_redo) rfl rfl (λw h Y=>PySem.W.kIn_of Y) ?F
 case F=>
  intro w mg fa h KX G oj
  refine' L2.kW.all_mk KX G oj ..
  all_goals try first | refine' L2.dfk .. | refine' L2.ajk .. | refine' L2.Cd.mk .. | refine' L2.dmk .. | refine' L2.anh .. | refine' L2.ajj .. | refine' L2.vJ.mk .. | refine' L2.yK.mk (L2.um.mk ..) .. | refine' L2.B.qF.mk (L2.gT.mk ..) .. | refine' L2.B.fP.mk (L2.gT.mk ..) ..
  all_goals try refine' L2.ajl ..
  all_goals try first | k_is | k_exc | kernel_rfl
