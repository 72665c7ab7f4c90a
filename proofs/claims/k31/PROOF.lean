import PyProof.Rows.All
import Wide.All
import OpenK.AllK
import Wide.FinOn
import Lean
import PyProof.EqAt
import PyProof.EqKinds
import PyProof.TupleCall
import PyProof.Rows.EqDataRows
import PyProof.DictList
import PyProof.FactsAll.dict_1
import PyProof.FactsAll.subtypes_4
import KE.KTryMore
import PyProof.WalksEnum
import PyProof.EnumMake
import PyProof.ListStr
import PyProof.TupleOfStr
import PyProof.Dict
import PyProof.ToksMono
import PyProof.StrCalls6
import PyProof.StrWalks
import PyProof.ConsumeWalk
import PyProof.CallStr
import PyProof.MeetsStr
import KE.KIntText
import PyProof.StrCalls2
import PyProof.StrOps2
import KE.KSortTup
import PyProof.WalksMore
import PyProof.TupleIter
import PyProof.SliceList
import PyProof.ListRange
import KE.KRevIter
import PyProof.StrLawsIn
import PyProof.Rows.StrCut
import PyProof.ZipIter
import PyProof.ListNew
import PySem.Challenge.RW_inkloom_k31_texts_entered
set_option genSizeOf false
set_option Elab.async false
set_option linter.all false
set_option maxRecDepth 100000
set_option compiler.extract_closed false
noncomputable section
theorem dR:1≤PySem.sizeLine:=by decide
theorem cO:2≤PySem.sizeLine:=by decide
theorem eM:3≤PySem.sizeLine:=by decide
theorem F1:4≤PySem.sizeLine:=by decide
theorem RO:5≤PySem.sizeLine:=by decide
theorem F2:6≤PySem.sizeLine:=by decide
theorem RP:8≤PySem.sizeLine:=by decide
open PySem.W (Frag InstAt callWith_K callWith_K0 cellsFrom_some codeRec_of emptyDict exmOne handedIn hasDictIn hideAll hideAll_get instObj kia_one kitOne kitx_dict kitx_list lookIn makesIn methodObj nsIn of_hideAll plainGet plainGet_of plainOver takerIn)
theorem zqT[Decidable p](h:p):decide p=true:=by lia
theorem zqF[Decidable p](h: ¬p):decide p=false:=by lia
theorem zqA{α:Type}{a b:List α}:(a++b).length=a.length+b.length:=by simp
theorem zqR(n:Nat):n≤n:=Nat.le_refl n
theorem zqZ(n:Nat):0≤n:=Nat.zero_le n
def zaa:=@List.mem_cons
def zab:=@Bool.and_eq_true
def zac:=@List.not_mem_nil
def zad:=@List.mem_singleton
def zae:=@List.mem_append
def zaf:=@Nat.ne_of_lt
def zag:=@List.size_toArray
def zah:=@List.length_map
def zai:=@List.append_nil
def zaj:=@List.mem_of_getElem?
def zak:=@List.getElem?_eq_some_iff
def zal:=@Nat.lt_of_lt_of_le
def zam:=@List.mem_cons_of_mem
def zan:=@Bool.false_ne_true
def zao:=@List.length_drop
def zap:=@Option.some.inj
def zaq:=@List.length_take
def zar:=@Int.toNat_natCast
def zas:=@List.map_append
def zat:=@List.mem_cons_self
def zau:=@List.length_cons
def zav:=@List.take_of_length_le
def zaw:=@Nat.le_trans
def zax:=@Int.emod_nonneg
def zay:=@Nat.lt_irrefl
def zaz:=@List.getElem?_map
def zaA:=@Int.emod_lt_of_pos
def zaB:=@List.mem_append_right
def zaC:=@List.getElem?_eq_getElem
def zaD:=@List.append_assoc
def zaE:=@Int.le_refl
def zaF:=@List.mem_map
def zaG:=@List.mem_append_left
def zaH:=@Bool.eq_iff_iff
def zaI:=@Bool.false_xor
def zaJ:=@Nat.zero_add
def zaK:=@Bool.not_eq_true'
def zaL:=@List.take_append_drop
def zaM:=@List.map_cons
def zaN:=@Bool.true_xor
def zaO:=@List.all_eq_true
def zaP:=@List.length_eq_zero_iff
def zaQ:=@List.getElem_mem
def zaR:=@Bool.false_eq_true
def zaS:=@Nat.lt_succ_of_lt
def zaT:=@Nat.min_eq_left
def zaU:=@List.mem_range
def zaV:=@List.lookup_cons
def zaW:=@List.drop_zero
def zaX:=@Nat.le_succ
def zaY:=@List.map_nil
def zaZ:=@List.all_cons
def zba:=@List.length_singleton
def zbb:=@Nat.le_add_right
def zbc:=@Array.eq_empty_of_size_eq_zero
def zbd:=@List.drop_left
def zbe:=@List.getElem?_zip_eq_some
def zbf:=@Array.length_toList
def zbg:=@Nat.ne_of_gt
def zbh:=@Nat.lt_succ_self
def zbi:=@List.nodup_cons
def zbj:=@List.getElem?_append_right
def zbk:=@List.replicate_succ
def zbl:=@List.nil_append
def zbm:=@List.getElem_of_mem
def zbn:=@List.take_length
def zbo:=@List.drop_eq_getElem_cons
def zbp:=@List.take_add_one
def zbq:=@List.sum_cons
def zbr:=@Int.natCast_add
def zbs:=@List.cons_append
def zbt:=@List.pairwise_cons
def zbu:=@List.of_mem_zip
def zbv:=@Option.isSome_iff_exists
def zbw:=@List.getElem?_append_left
def zbx:=@Bool.or_false
def zby:=@List.flatten_cons
def zbz:=@List.length_dropLast
def zbA:=@Option.map_some
def zbB:=@Nat.pos_of_ne_zero
def zbC:=@List.find?_cons
def zbD:=@List.any_eq_true
def zbE:=@Nat.not_lt_zero
def zbF:=@List.pairwise_iff_getElem
def zbG:=@List.take_left
def zbH:=@Bool.or_eq_false_iff
def zbI:=@List.dropLast_concat
def zbJ:=@List.filterMap_cons
def zbK:=@List.getElem?_set_self
def zbL:=@List.mem_filterMap
def zbM:=@Option.ne_none_iff_exists'
def zbN:=@List.take_succ_cons
def zbO:=@List.length_filter_le
def zbP:=@List.getLast?_append
def zbQ:=@List.filter_cons_of_neg
def zbR:=@List.getElem?_drop
def zbS:=@Int.eq_ofNat_of_zero_le
def zbT:=@List.eq_nil_of_length_eq_zero
def zbU:=@List.dropLast_subset
def zbV:=@List.mem_of_getLast?
def zbW:=@List.eq_nil_or_concat
def zbX:=@List.concat_eq_append
def zbY:=@List.replicate_succ'
def zbZ:=@List.pairwise_singleton
def zca:=@List.pairwise_append
def zcb:=@List.mem_of_mem_take
inductive qX2{a' b':Type}(p:a'->b'->Prop):Prop|i(a:a')(b:b')(_:p a b)
theorem qx2{a' b':Type}{p:a'->b'->Prop}:(∃a b,p a b)->qX2 p|⟨a1,b1,h⟩=>⟨a1,b1,h⟩
inductive qX3{a' b' c':Type}(p:a'->b'->c'->Prop):Prop|i(a:a')(b:b')(c:c')(_:p a b c)
theorem qx3{a' b' c':Type}{p:a'->b'->c'->Prop}:(∃a b c,p a b c)->qX3 p|⟨a1,b1,c1,h⟩=>⟨a1,b1,c1,h⟩
inductive qX4{a' b' c' d':Type}(p:a'->b'->c'->d'->Prop):Prop|i(a:a')(b:b')(c:c')(d:d')(_:p a b c d)
theorem qx4{a' b' c' d':Type}{p:a'->b'->c'->d'->Prop}:(∃a b c d,p a b c d)->qX4 p|⟨a1,b1,c1,d1,h⟩=>⟨a1,b1,c1,d1,h⟩
inductive qX5{a' b' c' d' e':Type}(p:a'->b'->c'->d'->e'->Prop):Prop|i(a:a')(b:b')(c:c')(d:d')(e:e')(_:p a b c d e)
theorem qx5{a' b' c' d' e':Type}{p:a'->b'->c'->d'->e'->Prop}:(∃a b c d e,p a b c d e)->qX5 p|⟨a1,b1,c1,d1,e1,h⟩=>⟨a1,b1,c1,d1,e1,h⟩
inductive qX6{a' b' c' d' e' f':Type}(p:a'->b'->c'->d'->e'->f'->Prop):Prop|i(a:a')(b:b')(c:c')(d:d')(e:e')(f:f')(_:p a b c d e f)
theorem qx6{a' b' c' d' e' f':Type}{p:a'->b'->c'->d'->e'->f'->Prop}:(∃a b c d e f,p a b c d e f)->qX6 p|⟨a1,b1,c1,d1,e1,f1,h⟩=>⟨a1,b1,c1,d1,e1,f1,h⟩
inductive qX9{a' b' c' d' e' f' g' h' i':Type}(p:a'->b'->c'->d'->e'->f'->g'->h'->i'->Prop):Prop|i(a:a')(b:b')(c:c')(d:d')(e:e')(f:f')(g:g')(h:h')(i:i')(_:p a b c d e f g h i)
theorem qx9{a' b' c' d' e' f' g' h' i':Type}{p:a'->b'->c'->d'->e'->f'->g'->h'->i'->Prop}:(∃a b c d e f g h i,p a b c d e f g h i)->qX9 p|⟨a1,b1,c1,d1,e1,f1,g1,h1,i1,h⟩=>⟨a1,b1,c1,d1,e1,f1,g1,h1,i1,h⟩
inductive qX10{a' b' c' d' e' f' g' h' i' j':Type}(p:a'->b'->c'->d'->e'->f'->g'->h'->i'->j'->Prop):Prop|i(a:a')(b:b')(c:c')(d:d')(e:e')(f:f')(g:g')(h:h')(i:i')(j:j')(_:p a b c d e f g h i j)
theorem qx10{a' b' c' d' e' f' g' h' i' j':Type}{p:a'->b'->c'->d'->e'->f'->g'->h'->i'->j'->Prop}:(∃a b c d e f g h i j,p a b c d e f g h i j)->qX10 p|⟨a1,b1,c1,d1,e1,f1,g1,h1,i1,j1,h⟩=>⟨a1,b1,c1,d1,e1,f1,g1,h1,i1,j1,h⟩
inductive qA3(a b c:Prop):Prop|i(_:a)(_:b)(_:c)
theorem qa3{a b c:Prop}:a/\b/\c->qA3 a b c|⟨a1,b1,c1⟩=>⟨a1,b1,c1⟩
inductive qA4(a b c d:Prop):Prop|i(_:a)(_:b)(_:c)(_:d)
theorem qa4{a b c d:Prop}:a/\b/\c/\d->qA4 a b c d|⟨a1,b1,c1,d1⟩=>⟨a1,b1,c1,d1⟩
inductive qA5(a b c d e:Prop):Prop|i(_:a)(_:b)(_:c)(_:d)(_:e)
theorem qa5{a b c d e:Prop}:a/\b/\c/\d/\e->qA5 a b c d e|⟨a1,b1,c1,d1,e1⟩=>⟨a1,b1,c1,d1,e1⟩
inductive qA6(a b c d e f:Prop):Prop|i(_:a)(_:b)(_:c)(_:d)(_:e)(_:f)
theorem qa6{a b c d e f:Prop}:a/\b/\c/\d/\e/\f->qA6 a b c d e f|⟨a1,b1,c1,d1,e1,f1⟩=>⟨a1,b1,c1,d1,e1,f1⟩
inductive qA7(a b c d e f g:Prop):Prop|i(_:a)(_:b)(_:c)(_:d)(_:e)(_:f)(_:g)
theorem qa7{a b c d e f g:Prop}:a/\b/\c/\d/\e/\f/\g->qA7 a b c d e f g|⟨a1,b1,c1,d1,e1,f1,g1⟩=>⟨a1,b1,c1,d1,e1,f1,g1⟩
inductive qA8(a b c d e f g h:Prop):Prop|i(_:a)(_:b)(_:c)(_:d)(_:e)(_:f)(_:g)(_:h)
theorem qa8{a b c d e f g h:Prop}:a/\b/\c/\d/\e/\f/\g/\h->qA8 a b c d e f g h|⟨a1,b1,c1,d1,e1,f1,g1,h1⟩=>⟨a1,b1,c1,d1,e1,f1,g1,h1⟩
inductive qA9(a b c d e f g h i:Prop):Prop|i(_:a)(_:b)(_:c)(_:d)(_:e)(_:f)(_:g)(_:h)(_:i)
theorem qa9{a b c d e f g h i:Prop}:a/\b/\c/\d/\e/\f/\g/\h/\i->qA9 a b c d e f g h i|⟨a1,b1,c1,d1,e1,f1,g1,h1,i1⟩=>⟨a1,b1,c1,d1,e1,f1,g1,h1,i1⟩
inductive qA11(a b c d e f g h i j k:Prop):Prop|i(_:a)(_:b)(_:c)(_:d)(_:e)(_:f)(_:g)(_:h)(_:i)(_:j)(_:k)
theorem qa11{a b c d e f g h i j k:Prop}:a/\b/\c/\d/\e/\f/\g/\h/\i/\j/\k->qA11 a b c d e f g h i j k|⟨a1,b1,c1,d1,e1,f1,g1,h1,i1,j1,k1⟩=>⟨a1,b1,c1,d1,e1,f1,g1,h1,i1,j1,k1⟩
inductive qA12(a b c d e f g h i j k l:Prop):Prop|i(_:a)(_:b)(_:c)(_:d)(_:e)(_:f)(_:g)(_:h)(_:i)(_:j)(_:k)(_:l)
theorem qa12{a b c d e f g h i j k l:Prop}:a/\b/\c/\d/\e/\f/\g/\h/\i/\j/\k/\l->qA12 a b c d e f g h i j k l|⟨a1,b1,c1,d1,e1,f1,g1,h1,i1,j1,k1,l1⟩=>⟨a1,b1,c1,d1,e1,f1,g1,h1,i1,j1,k1,l1⟩
inductive qA16(a b c d e f g h i j k l m n o p:Prop):Prop|i(_:a)(_:b)(_:c)(_:d)(_:e)(_:f)(_:g)(_:h)(_:i)(_:j)(_:k)(_:l)(_:m)(_:n)(_:o)(_:p)
theorem qa16{a b c d e f g h i j k l m n o p:Prop}:a/\b/\c/\d/\e/\f/\g/\h/\i/\j/\k/\l/\m/\n/\o/\p->qA16 a b c d e f g h i j k l m n o p|⟨a1,b1,c1,d1,e1,f1,g1,h1,i1,j1,k1,l1,m1,n1,o1,p1⟩=>⟨a1,b1,c1,d1,e1,f1,g1,h1,i1,j1,k1,l1,m1,n1,o1,p1⟩
inductive qX1{a':Type}(p:a'->Prop):Prop|i(a:a')(_:p a)
inductive qX7{a' b' c' d' e' f' g':Type}(p:a'->b'->c'->d'->e'->f'->g'->Prop):Prop|i(a:a')(b:b')(c:c')(d:d')(e:e')(f:f')(g:g')(_:p a b c d e f g)
inductive qX8{a' b' c' d' e' f' g' h':Type}(p:a'->b'->c'->d'->e'->f'->g'->h'->Prop):Prop|i(a:a')(b:b')(c:c')(d:d')(e:e')(f:f')(g:g')(h:h')(_:p a b c d e f g h)
namespace L2
open PySem PySem.Spec PyProof.Rows
abbrev Key:=Sum Int Str
def rN:Key->Value->Bool
 |.inl k,v=>Value.isInt k v
 |.inr x,v=>Value.isStrOf x v
def RQ(w:World):Key->Int
 |.inl k=>hashInt k
 |.inr x=>hashStr w x
theorem mv:∀{k:Key}{v:Value},rN k v=true->(∃i t,k=Sum.inl i/\v=Value.int i t)\/(∃x t,k=Sum.inr x/\v=Value.str x t)
 |.inl i,v,h=>by
  obtain⟨t,e⟩:=Value.isInt_shape h;exact .inl ⟨i,t,rfl,e⟩
 |.inr x,v,h=>by
  obtain⟨t,e⟩:=Value.isStrOf_shape h;exact .inr ⟨x,t,rfl,e⟩
theorem RT(i:Int)(t:Tok):rN (.inl i) (.int i t)=true:=by simp[rN,Value.isInt]
theorem RU(x:Str)(t:Tok):rN (.inr x) (.str x t)=true:=by simp[rN,Value.isStrOf]
theorem RV(a b:Int):decide ((Sum.inl a:Key)=Sum.inl b)=(a==b):=by lia
theorem RW(a b:Str):decide ((Sum.inr a:Key)=Sum.inr b)=decide (a=b):=by lia
theorem RX(a:Int)(b:Str):decide ((Sum.inl a:Key)=Sum.inr b)=false:=rfl
theorem RY(a:Str)(b:Int):decide ((Sum.inr a:Key)=Sum.inl b)=false:=rfl
def kY(prog:Program)(w:World):PySem.KeyKind prog w Key where
 is:=rN
 hash:=RQ w
 inj:=λv a b ha hb=>by
  rcases mv ha with⟨i,t,rfl,rfl⟩|⟨x,t,rfl,rfl⟩
  ·rcases mv hb with⟨j,u,rfl,e⟩|⟨y,u,rfl,e⟩
   ·injection e with e1 _;rw[e1]
   ·exact nomatch e
  ·rcases mv hb with⟨j,u,rfl,e⟩|⟨y,u,rfl,e⟩
   ·exact nomatch e
   ·injection e with e1 _;rw[e1]
 byValue:=λk v h=>by
  rcases mv h with⟨i,t,rfl,rfl⟩|⟨x,t,rfl,rfl⟩ <;>rfl
 pyHash:=λhv h=>by
  rcases mv hv with⟨i,t,rfl,rfl⟩|⟨x,t,rfl,rfl⟩
  ·exact wpAny_pyHash_int h
  ·exact wpAny_pyHash_str h
 eqBool:=λhu hv h=>by
  rcases mv hu with⟨i,t,rfl,rfl⟩|⟨x,t,rfl,rfl⟩
  ·rcases mv hv with⟨j,u,rfl,rfl⟩|⟨y,u,rfl,rfl⟩
   ·rw[RV] at h;exact wpAny_eqBool_int h
   ·rw[RX] at h;exact SeqAt.EqAt.int_str i t y u _ _ _ _ h
  ·rcases mv hv with⟨j,u,rfl,rfl⟩|⟨y,u,rfl,rfl⟩
   ·rw[RY] at h;exact SeqAt.EqAt.str_int x t j u _ _ _ _ h
   ·rw[RW] at h;exact wpAny_eqBool_str h
 «strs»:=λk x t v h=>by
  rcases mv h with⟨i,u,rfl,e⟩|⟨y,u,rfl,e⟩
  ·exact nomatch e
  ·injection e with e1 _
   subst e1;cases v<;>rfl
theorem RZ(prog:Program)(w:World)(i:Int)(t:Tok):(kY prog w).is (.inl i) (.int i t)=true:=RT i t
theorem R0(prog:Program)(w:World)(x:Str)(t:Tok):(kY prog w).is (.inr x) (.str x t)=true:=RU x t
inductive V where
 |aB|bl (b:Bool)|int (i:Int)|str (x:Str)|gr (b:Array UInt8)|jt (b:UInt64)|ref (a:Addr)|ty (n:String)
 deriving DecidableEq
def RelV:V->Value->Prop
 |.aB,u=>u=Value.none
 |.bl b,u=>u=Value.bool b
 |.int i,u=>∃t,u=Value.int i t
 |.str x,u=>∃t,u=Value.str x t
 |.gr b,u=>∃t,u=Value.bytes b t
 |.jt b,u=>∃t,u=Value.float b t
 |.ref a,u=>u=Value.ref a
 |.ty n,u=>u=Value.type n
abbrev Vals:List V->List Value->Prop:=Paired RelV
theorem Vals.length{us:List Value}(r:Vals xs us):xs.length=us.length:=Paired.length r
theorem Vals.get:∀{xs:List V}{us:List Value}{i:Nat}{x:V},Vals xs us->xs[i]?=some x->∃u,us[i]?=some u/\RelV x u
 |_,_,_,_,.nil,e=>by simp at e
 |_,_,0,_,.cons r _,e=>by simp at e;subst e;exact⟨_,rfl,r⟩
 |_,_,i+1,x,.cons _ t,e=>by
  obtain⟨u,h1,h2⟩:=Vals.get t (by simpa using e)
  exact⟨u,by simpa using h1,h2⟩
theorem Vals.set{u:Value}(r:RelV x u):∀{xs:List V}{us:List Value} (i:Nat),Vals xs us->Vals (xs.set i x) (us.set i u)
 |_,_,_,.nil=>.nil
 |_,_,0,.cons _ t=>.cons r t
 |_,_,i+1,.cons q t=>.cons q (Vals.set r i t)
theorem Vals.append:∀{xs ys:List V}{us ws:List Value},Vals xs us->Vals ys ws->Vals (xs++ys) (us++ws):=by
 intro _ _ _ _ p s;induction p with|nil=>exact s|cons r _ ih=>exact .cons r ih
theorem Vals.take:∀{xs:List V}{us:List Value} (n:Nat),Vals xs us->Vals (xs.take n) (us.take n)
 |_,_,0,_=>.nil
 |_,_,_+1,.nil=>.nil
 |_,_,n+1,.cons r t=>.cons r (Vals.take n t)
theorem Vals.drop:∀{xs:List V}{us:List Value} (n:Nat),Vals xs us->Vals (xs.drop n) (us.drop n)
 |_,_,0,r=>r
 |_,_,_+1,.nil=>.nil
 |_,_,n+1,.cons _ t=>Vals.drop n t
def kZ:Option V->Option Value->Prop
 |some v,some u=>RelV v u
 |none,none=>True
 |_,_=>False
def KV{κ:Type}:List (κ×V)->List (κ×Value)->Prop:=Paired fun(p:κ×V) (q:κ×Value)=>p.1=q.1/\RelV p.2 q.2
def kV:Key->V
 |.inl i=>.int i
 |.inr x=>.str x
inductive HO where
 |lst (xs:List V)
 |tup (xs:List V)
 |dK (aS:List (Key×V))|dT (aS:List (List Key×V))
 |set (S:Int->Bool) (n:Nat)
 |ins (C dx:Addr) (fs:List (Str×V))
 |own (x:Addr)
 |xd (fs:List (Str×V))
 |met (f x:Addr)
 |gZ (lo hi:Int)
 |bO (o:Obj) (u:HO)
 |k7 (ps:Array Value)
 |ext (φ:Heap->Prop)
abbrev Hp:=Addr->Option HO
def upd(H:Hp)(a:Addr)(o:HO):Hp:=λb=>if b=a then some o else H b
theorem aw{a:Addr}{o:HO}:upd H a o a=some o:=by unfold upd;rw[if_pos rfl]
theorem aI{a b:Addr}{o:HO}(h:b≠a):upd H a o b=H b:=by unfold upd;rw[if_neg h]
theorem xh{H:Hp}{a b:Addr}{o u:HO}(h:H a=some o)(h':H b=some u)(d:o≠u):a≠b:=by lia
theorem bf{H:Hp}{a b:Addr}{o:HO}(h:H a=some o)(h':H b=none):a≠b:=by lia
section
variable (P:Program) (w:World)
def da(H:Hp)(h:Heap)(a:Addr):HO->Prop
 |.lst xs=>xs.length<=sizeLine/\∃(its:List Value) (n:Nat),Vals xs its/\h.get? a=some {cls:=.type "list",data:=.seq its.toArray n}
 |.tup xs=>xs.length<=sizeLine/\∃its:List Value,Vals xs its/\IsTup h a its.toArray
 |.dK aS=>aS.length<=sizeLine/\(a==sysModules)=false/\∃vs,KV aS vs/\h.DictOf (kY P w) a vs
 |.dT aS=>aS.length<=sizeLine/\(a==sysModules)=false/\∃xs:List (List Key×Addr×Value),
   Paired (fun(p:List Key×V) (q:List Key×Addr×Value)=>p.1=q.1/\H q.2.1=some (.tup<|p.1.map kV)/\RelV p.2 q.2.2) aS xs/\
   ∃o es ep,h.get? a=some o/\o.ExactDict/\o.data=.dict es ep/\es.toList=xs.map (entryOfKey<|tupleKind<|kY P w)/\(xs.map (·.1)).Nodup
 |.set S n=>h.SetOf (intKind P w) a S n
 |.ins C dx fs=>H dx=some (.own a)/\fs.length<=1000/\dx≠a/\h.get? a=some (instObj C dx)/\
   ∃mA,h.Ns1 dx mA/\(∀f,kZ (fs.lookup f)<|mA f)/\PySem.Within mA (fs.map (·.1))
 |.own _=>∃o,h.get? a=some o
 |.xd fs=>∃mA,h.Ns1 a mA/\∀f,kZ (fs.lookup f) (mA f)
 |.gZ lo hi=>∃t u v,h.get? a=some {cls:=.type "range",data:=.fields #[.int lo t,.int hi u,.int 1 v]}
 |.bO o u=>h.get? a=some o/\da H h a u
 |.k7 ps=>h.get? a=some {cls:=.none,data:=.fields ps}
 |.met f x=>h.get? a=some (methodObj (.ref f)<|.ref x)
 |.ext φ=>φ h/\(∃o,h.get? a=some o)/\∀h1 h2:Heap,φ h1->(∀o,h1.get? a=some o->h2.get? a=some o)->φ h2
def cw(H:Hp)(h:Heap):Prop:= ∀a o,H a=some o->da P w H h a o
end
section
variable {P:Program}{w:World}{H H':Hp}{h h':Heap}{a:Addr}{o:HO}
theorem da.lt(x:da P w H h a o):a<h.objs.size:=by
 cases o with
 |lst xs=>obtain⟨_,_,_,_,e⟩:=x;exact Heap.lt_size e
 |tup xs=>obtain⟨_,_,_,p⟩:=x;exact p.lt
 |dK aS=>obtain⟨_,_,_,_,o,_,_,e,_⟩:=x;exact Heap.lt_size e
 |dT aS=>obtain⟨_,_,_,_,o,_,_,e,_⟩:=x;exact Heap.lt_size e
 |set S n=>obtain⟨o,_,_,_,e,_⟩:=x;exact Heap.lt_size e
 |ins C dx fs=>obtain⟨_,_,_,e,_⟩:=x;exact Heap.lt_size e
 |own y=>obtain⟨_,e⟩:=x;exact Heap.lt_size e
 |xd fs=>obtain⟨_,⟨_,_,_,e,_⟩,_⟩:=x;exact Heap.lt_size e
 |gZ lo hi=>obtain⟨_,_,_,e⟩:=x;exact Heap.lt_size e
 |bO ob u=>obtain⟨e,_⟩:=x;exact Heap.lt_size e
 |k7 ps=>exact Heap.lt_size (show h.get? a=some _ from x)
 |met f y=>exact Heap.lt_size (show h.get? a=some _ from x)
 |ext φ=>obtain⟨_,⟨_,e⟩,_⟩:=x;exact Heap.lt_size e
theorem Paired.fZ{F G:α->β->Prop}:∀{l₁:List α}{l₂:List β},Paired F l₁ l₂->(∀a b,F a b->G a b)->Paired G l₁ l₂:=by
 intro _ _ p f;induction p with|nil=>exact .nil|cons r _ ih=>exact .cons (f _ _ r) ih
theorem da.ju(x:da P w H h a o)(k:∀b u,(b=a\/H b=some (.own a))->h.get? b=some u->h'.get? b=some u)
  (ho:∀b,H b=some (.own a)->H' b=some (.own a)) (ht:∀b xs,H b=some (.tup xs)->H' b=some (.tup xs)):da P w H' h' a o:=by
 induction o with
 |lst xs=>obtain⟨z,its,n,r,e⟩:=x;exact⟨z,its,n,r,k _ _ (.inl rfl) e⟩
 |tup xs=>obtain⟨z,its,r,ob,e,c⟩:=x;exact⟨z,its,r,ob,k _ _ (.inl rfl) e,c⟩
 |dK aS=>obtain⟨z,y,vs,r,ob,es,ep,e,c⟩:=x;exact⟨z,y,vs,r,ob,es,ep,k _ _ (.inl rfl) e,c⟩
 |dT aS=>
  obtain⟨z,y,xs,r,ob,es,ep,e,c⟩:=x;exact⟨z,y,xs,Paired.fZ r λp q z=>⟨z.1,ht _ _ z.2.1,z.2.2⟩,ob,es,ep,k _ _ (.inl rfl) e,c⟩
 |set S n=>obtain⟨ob,es,ep,t,e,c⟩:=qx4 x;exact⟨ob,es,ep,t,k _ _ (.inl rfl) e,c⟩
 |ins C dx fs=>
  obtain⟨d,z,ne,e,mA,⟨od,es,ep,e2,c⟩,r⟩:=x;exact⟨ho _ d,z,ne,k _ _ (.inl rfl) e,mA,⟨od,es,ep,k _ _ (.inr d) e2,c⟩,r⟩
 |own y=>obtain⟨ob,e⟩:=x;exact⟨ob,k _ _ (.inl rfl) e⟩
 |xd fs=>obtain⟨mA,⟨od,es,ep,e,c⟩,r⟩:=x;exact⟨mA,⟨od,es,ep,k _ _ (.inl rfl) e,c⟩,r⟩
 |gZ lo hi=>obtain⟨t,u,v,e⟩:=x;exact⟨t,u,v,k _ _ (.inl rfl) e⟩
 |bO ob u ih=>obtain⟨e,q⟩:=x;exact⟨k _ _ (.inl rfl) e,ih q⟩
 |k7 ps=>
  have e:=x;exact k a _ (.inl rfl) e
 |met f y=>
  have e:=x;exact k a _ (.inl rfl) e
 |ext φ=>obtain⟨p,⟨o,e⟩,st⟩:=x;exact⟨st _ _ p λo q=>k _ _ (.inl rfl) q,⟨o,k _ _ (.inl rfl) e⟩,st⟩
theorem cw.lt(x:cw P w H h)(e:H a=some o):a<h.objs.size:=(x a o e).lt
theorem cw.fresh(x:cw P w H h)(e:h.objs.size<=a):H a=none:=by
 cases q:H a with
 |none=>rfl
 |some u=>exact absurd (zal (x.lt q) e) (zay _)
theorem cw.kept(x:cw P w H h)(k:∀b u,h.get? b=some u->h'.get? b=some u):cw P w H h':=λa o e=>
 (x a o e).ju (λb u _ q=>k b u q) (λ_ q=>q) λ_ _ q=>q
theorem cw.laid(x:cw P w H h)(k:∀b u,h.get? b=some u->h'.get? b=some u)(hp:h.objs.size<=a)(new:da P w (upd H a o) h' a o):cw P w (upd H a o) h':=λb u e=>by
 have hn:=x.fresh hp;by_cases hb:b=a
 ·subst hb;rw[aw] at e;cases e;exact new
 ·rw[aI hb] at e;exact(x b u e).ju (λc v _ q=>k c v q) (λc q=>by rw[aI<|bf q hn];exact q) λc xs q=>by rw[aI<|bf q hn];exact q
end
def Rd(H:Hp)(a:Addr)(u:HO):Prop:=H a=some u\/∃o,H a=some (.bO o u)
theorem Rd.ok{w:World}{H:Hp}{h:Heap}{a:Addr}{u:HO}(r:Rd H a u)(x:cw P w H h):da P w H h a u:=by
 rcases r with r|⟨o,r⟩
 ·exact x a u r
 ·obtain⟨_,q⟩:=x a _ r;exact q
def xj:Option HO->Prop
 |some (.lst _)=>True
 |some (.dK _)=>True
 |some (.dT _)=>True
 |some (.set _ _)=>True
 |some (.ins _ _ _)=>True
 |some (.ext _)=>True
 |_=>False
section
variable {P:Program}{w:World}{H:Hp}{h h':Heap}{x e:Addr}{o':HO}
theorem cw.write(ok:cw P w H h)(mu:xj (H x))(he:e=x\/H e=some (.own x))(k:∀b u,b≠e->h.get? b=some u->h'.get? b=some u)(rO:∃u,h'.get? e=some u)
  (new:da P w (upd H x o') h' x o'):cw P w (upd H x o') h':=λb u q=>by
 have F3:∀c y,H c=some (.own y)->c≠x:=λc y r z=>by subst z;rw[r] at mu;exact mu
 have R1:∀c xs,H c=some (.tup xs)->c≠x:=λc xs r z=>by subst z;rw[r] at mu;exact mu
 by_cases hb:b=x
 ·subst hb;rw[aw] at q;cases q;exact new
 ·rw[aI hb] at q;by_cases g4:b=e
  ·have q':H b=some (.own x):=by
    rcases he with z|z
    ·exact absurd (g4.trans z) hb
    ·rw[g4];exact z
   rw[q] at q';cases q';obtain⟨v,hv⟩:=rO;exact⟨v,by lia⟩
  ·refine(ok b u q).ju (λc v hc r=>k c v ?_ r) (λc r=>by rw[aI<|F3 c b r];exact r) λc xs r=>by rw[aI<|R1 c xs r];exact r
   rcases hc with rfl|hc
   ·exact g4
   ·rintro rfl;rcases he with z|z
    ·exact F3 c b hc z
    ·rw[hc] at z;cases z;exact hb rfl
end
structure Un (fs ex:List Addr) (H H':Hp) (h h':Heap):Prop where
 keep:∀b o,h.get? b=some o->H b=none->b∉fs->b∉ex->h'.get? b=some o
 slot:∀b o,h.get? b=some o->H b=none->b∈fs->b∉ex->∃sl,h'.get? b=some {o with slots:=sl}
 free:∀b o,h.get? b=some o->H b=none->b∉ex->H' b=none
 there:∀b o,h.get? b=some o->b∉ex->∃o',h'.get? b=some o'
 cz:∀b xs,H b=some (.tup xs)->H' b=some (.tup xs)
 f_:∀b o u,H b=some (.bO o u)->H' b=some (.bO o u)
 gI:∀b ps,H b=some (.k7 ps)->∃more,H' b=some (.k7<|ps++more)
section
variable {fs R3 ex ex':List Addr}{H H1 H2:Hp}{h h1 h2 h':Heap}{a x e:Addr}{o:HO}
theorem Un.any(u:Un fs ex H H1 h h1){b:Addr}{ob:Obj}(q:h.get? b=some ob)(n:H b=none)(hx:b∉ex):∃sl,h1.get? b=some {ob with slots:=sl}:=by
 by_cases hb:b∈fs
 ·exact u.slot b ob q n hb hx
 ·exact⟨ob.slots,u.keep b ob q n hb hx⟩
theorem Un.kept(k:∀b u,h.get? b=some u->h'.get? b=some u):Un fs ex H H h h':=
 ⟨λb ob q _ _ _=>k b ob q,λb ob q _ _ _=>⟨ob.slots,k b ob q⟩,λ_ _ _ n _=>n,λb ob q _=>⟨ob,k b ob q⟩,λ_ _ q=>q,λ_ _ _ q=>q,λ_ ps q=>⟨#[],by rw[q];simp⟩⟩
theorem Un.refl:Un fs ex H H h h:=Un.kept λ_ _ q=>q
theorem Un.laid(k:∀b u,h.get? b=some u->h'.get? b=some u)(hp:h.objs.size<=a)(hn:H a=none):Un fs ex H (upd H a o) h h' where
 keep:=λb u q _ _ _=>k b u q
 slot:=λb u q _ _ _=>⟨u.slots,k b u q⟩
 free:=λb u q n _=>by rw[aI<|zaf<|zal (Heap.lt_size q) hp];exact n
 there:=λb u q _=>⟨u,k b u q⟩
 cz:=λb xs q=>by rw[aI<|bf q hn];exact q
 f_:=λb u xs q=>by rw[aI<|bf q hn];exact q
 gI:=λb ps q=>⟨#[],by rw[aI<|bf q hn,q];simp⟩
theorem Un.write(mu:xj (H x))(he:e=x\/H e=some (.own x))(k:∀b u,b≠e->h.get? b=some u->h'.get? b=some u)(rO:∃u,h'.get? e=some u):Un fs ex H (upd H x o) h h':=by
 have hx:∀b,H b=none->b≠x:=λb n z=>by subst z;rw[n] at mu;exact mu
 have hb:∀b,H b=none->b≠e:=λb n z=>by
  subst z;rcases he with r|r
  ·exact hx b n r
  ·rw[n] at r;cases r
 have hm:∀b u,H b=some u-> ¬xj (some u)->b≠x:=λb u q nm z=>by lia
 refine⟨λb u q n _ _=>k b u (hb b n) q,λb u q n _ _=>⟨u.slots,k b u (hb b n) q⟩,λb u q n _=>by rw[aI (hx b n)];exact n,λb u q _=>?_,
  λb xs q=>by rw[aI (hm b _ q λz=>z)];exact q,λb u xs q=>by rw[aI (hm b _ q λz=>z)];exact q,λb ps q=>⟨#[],by rw[aI (hm b _ q λz=>z),q];simp⟩⟩
 by_cases g4:b=e
 ·subst g4;exact rO
 ·exact⟨u,k b u g4 q⟩
end
def k8(h:Heap)(H:Hp):List Addr:=(List.range h.objs.size).filter λa=>(H a).isSome
def mw(h:Heap)(H:Hp):Heap:=hideAll h (k8 h H)
theorem R4(h:Heap)(H:Hp):(mw h H).objs.size=h.objs.size:=PySem.W.hideAll_size _ _
theorem R5{H:Hp}{b:Addr}{o:Obj}(e:h.get? b=some o)(n:H b=none):(mw h H).get? b=some o:=
 hideAll_get _ e λhm=>by
  have q:=(List.mem_filter.mp hm).2;rw[n] at q;simp at q
theorem R6{b:Addr}{o:Obj}(e:(mw h H).get? b=some o):h.get? b=some o/\H b=none:=by
 have e':=of_hideAll (k8 h H) e;refine⟨e',?_⟩;cases q:H b with
 |none=>rfl
 |some x=>
  have hm:b∈k8 h H:=List.mem_filter.mpr ⟨zaU.mpr<|Heap.lt_size e',by simp[q]⟩
  have z:(mw h H).get? b=none:=PySem.W.hideAll_none (k8 h H) hm;rw[z] at e;cases e
structure Mod (K:Frag) (mg:Str->Option Value) (base:Heap):Prop where
 pJ:K.In base
 glob:base.Ns mainGlobals mg
 blt:∃mb,base.Ns builtinsNs mb/\∀x:Str,x≠"__name__"->mb x=bootBuiltins x
 nolimit:base.NoLimit
structure Cx where
 prog:Program
 w:World
 K:Frag
 mg:Str->Option Value
 base:Heap
 A:Around
 N:List Str
 s₀:Shared
 H₀:Hp
 env:Env
 outer:List Env
 stack:List Env
 ex:List Addr
 fn:Str->Bool
 calm:Bool
 pn:List (Addr×Obj)
 xe:Value->Shared->Prop
def bL(l:List Env):List Addr:=l.filterMap (·.frame)
abbrev Cx.fs(X:Cx):List Addr:=bL X.outer
def xk(sc:Scope)(x:Str):Prop:=sc.names.lookup x=some .local\/sc.names.lookup x=some .cell\/sc.names.lookup x=some .free
def Loc(sc:Scope)(x:Str):Prop:=sc.names.lookup x=some .local\/sc.names.lookup x=some .cell
def Look(env:Env)(h:Heap)(m:Str->Option Value)(x:Str)(u:Value):Prop:=
 (env.kindOf x=some .local/\m x=some u)\/((env.kindOf x=some .cell\/env.kindOf x=some .free)/\∃c,env.cells.lookup x=some c/\h.IsCell c (some u))
structure Cx.Ok (X:Cx):Prop where
 mod:Mod X.K X.mg X.base
 kind:X.env.scope.kind=.function
 glob:X.env.globals=mainGlobals
 blt:X.env.builtins=builtinsNs
 above:X.s₀.heap.objs.size<=X.env.locals
 inj:∀x y c,X.env.cells.lookup x=some c->X.env.cells.lookup y=some c->x=y
 has:∀x,(X.env.kindOf x=some .cell\/X.env.kindOf x=some .free)->∃c,X.env.cells.lookup x=some c
 xn:∀x c,X.fn x=true->X.env.cells.lookup x=some c->X.s₀.heap.objs.size<=c
 hd:X.calm=true->X.A.handled=none
 frames:X.A.frames=some X.stack
 jv:X.stack=X.outer\/(X.stack=X.env::X.outer/\X.env.frame=some X.env.locals)
 R7:∀b∈X.ex,b≠X.env.locals/\∀x c,X.env.cells.lookup x=some c->c≠b
 bs:∀b o,X.base.get? b=some o->X.s₀.heap.get? b=some o/\X.H₀ b=none
 nQ:X.base.objs.size<=X.s₀.heap.objs.size
 xo:∀b o,X.base.get? b=some o->b∉X.ex
 xp:∀b∈X.ex,b∉X.fs
 jw:X.s₀.heap.FunFrames X.base X.outer
 pK:∀b∈X.fs,X.H₀ b=none
structure Inv (X:Cx) (pins:List (Addr×Obj)) (σ:List (Option V)) (H:Hp) (s:Shared):Prop where
 ok:X.Ok
 os:s.os=X.s₀.os
 bare:AllBare s.gens
 base:Un X.fs X.ex X.H₀ H X.s₀.heap s.heap
 loc:∃m,s.heap.Ns X.env.locals m/\∀(i:Nat) (x:Str) (v:V),X.N[i]?=some x->σ[i]?=some (some v)->xk X.env.scope x->∃u,RelV v u/\Look X.env s.heap m x u
 cell:∀x c,X.env.cells.lookup x=some c->∃v,s.heap.IsCell c v
 free:H X.env.locals=none
 g5:∀x c,X.env.cells.lookup x=some c->H c=none
 pin:∀p∈X.pn++pins,s.heap.get? p.1=some p.2/\H p.1=none/\p.1≠X.env.locals/\p.1∉X.fs/\∀v,p.2.data≠ .cell v
 aK:cw X.prog X.w H s.heap
 len:σ.length=X.N.length
section
variable {X:Cx}{pins:List (Addr×Obj)}{σ:List (Option V)}{H H':Hp}{s:Shared}{h':Heap}
theorem Cx.Ok.R8(ok:X.Ok){b:Addr}{o:Obj}(e:X.base.get? b=some o):b∉X.fs:=λhb=>by
 have:=(ok.jw.mem hb).1;rw[e] at this;cases this
theorem Inv.bs(I:Inv X pins σ H s):∀b o,X.base.get? b=some o->s.heap.get? b=some o/\H b=none:=λb o e=>
 ⟨I.base.keep b o (I.ok.bs b o e).1 (I.ok.bs b o e).2 (I.ok.R8 e)<|I.ok.xo b o e,I.base.free b o (I.ok.bs b o e).1 (I.ok.bs b o e).2<|I.ok.xo b o e⟩
theorem Inv.bk(I:Inv X pins σ H s):∀b o,X.base.get? b=some o->s.heap.get? b=some o:=λb o e=>(I.bs b o e).1
theorem Inv.mod(I:Inv X pins σ H s):Mod X.K X.mg X.base:=I.ok.mod
theorem Inv.cT(I:Inv X pins σ H s):X.K.In s.heap:=I.ok.mod.pJ.keeps I.bk
theorem Inv.lt(I:Inv X pins σ H s):X.env.locals<s.heap.objs.size:=let ⟨_,hn,_⟩:=I.loc;hn.lt
theorem Inv.sz(I:Inv X pins σ H s):X.s₀.heap.objs.size<=s.heap.objs.size:=zaw I.ok.above (Nat.le_of_lt I.lt)
theorem Inv.F4(I:Inv X pins σ H s){a:Addr}(h:s.heap.objs.size<=a):a∉X.fs:=λhb=>by
 obtain⟨_,o,ho,_⟩:=I.ok.jw.mem hb;exact absurd (zal (Heap.lt_size ho)<|zaw I.sz h)<|zay _
theorem Inv.pL(I:Inv X pins σ H s):∀x c,X.env.cells.lookup x=some c->c≠X.env.locals:=λx c e z=>by
 obtain⟨v,o,ho,hd⟩:=I.cell x c e;obtain⟨m,⟨o',es,ep,eN,nR,_⟩,_⟩:=I.loc;rw[z,eN] at ho;cases ho;rw[nR] at hd;cases hd
theorem Inv.jw(I:Inv X pins σ H s):s.heap.FunFrames X.base X.outer:=by
 have all:∀(l:List Env),(∀b∈bL l,b∈X.fs)->X.s₀.heap.FunFrames X.base l->s.heap.FunFrames X.base l:=by
  intro l
  induction l with
  |nil=>intro _ _;trivial
  |cons env r ih=>
   intro hs hl;obtain⟨hk,⟨L,o,hf,hn,ho,hd⟩,hr⟩:=hl;have hL:=hs L (by unfold bL;rw[zbJ,hf];exact zat)
   obtain⟨sl,e⟩:=I.base.slot L o ho (I.ok.pK L hL) hL λz=>I.ok.xp L z hL;exact⟨hk,⟨L,_,hf,hn,e,hd⟩,ih (λb hb=>hs b (by unfold bL;rw[zbJ,hf];exact zam _ hb)) hr⟩
 exact all X.outer (λ_ hb=>hb) I.ok.jw
theorem Inv.stack(I:Inv X pins σ H s):s.heap.FunFrames X.base X.stack:=by
 rcases I.ok.jv with e|⟨e,hf⟩
 ·rw[e];exact I.jw
 ·rw[e];obtain⟨m,hn,_⟩:=I.loc;refine .cons (by rw[I.ok.kind];decide) hf hn ?_ I.jw
  exact Heap.get?_none_of_le<|zaw I.ok.nQ I.ok.above
theorem Inv.xq(I:Inv X pins σ H s):∀b∈bL X.stack,b∈X.env.locals::X.fs:=λb hb=>by
 rcases I.ok.jv with e|⟨e,hf⟩
 ·rw[e] at hb;exact zam _ hb
 ·rw[e] at hb;unfold bL at hb;rw[zbJ,hf] at hb;exact hb
theorem Inv.xr(I:Inv X pins σ H s):∀b∈bL X.stack,H b=none:=λb hb=>by
 rcases zaa.mp (I.xq b hb) with e|hb
 ·rw[e];exact I.free
 ·obtain⟨_,o,ho,_⟩:=I.ok.jw.mem hb;exact I.base.free b o ho (I.ok.pK b hb) λz=>I.ok.xp b z hb
theorem Inv.step{d':Drawn}{ch:List Addr}(I:Inv X pins σ H s)
  (dS:∀b∈ch,(b∈X.ex\/X.s₀.heap.objs.size<=b)/\b≠X.env.locals/\(∀x c,X.env.cells.lookup x=some c->c≠b)/\∀p∈X.pn++pins,p.1≠b)
  (keep:∀b o,b≠X.env.locals->b∉X.fs->b∉ch->s.heap.get? b=some o->H b=none->h'.get? b=some o)
  (slot:∀b o,b≠X.env.locals->b∈X.fs->b∉ch->s.heap.get? b=some o->H b=none->∃sl,h'.get? b=some {o with slots:=sl}) (free:∀b o,b∉ch->s.heap.get? b=some o->H b=none->H' b=none)
  (there:∀b o,b∉ch->s.heap.get? b=some o->∃o',h'.get? b=some o')
  (cz:∀b xs,H b=some (.tup xs)->H' b=some (.tup xs)) (f_:∀b o u,H b=some (.bO o u)->H' b=some (.bO o u)) (gI:∀b ps,H b=some (.k7 ps)->∃more,H' b=some (.k7<|ps++more))
  (ns:∀m,s.heap.Ns X.env.locals m->h'.Ns X.env.locals m) (aK:cw X.prog X.w H' h') (hg:AllBare g'):
  Inv X pins σ H' {s with heap:=h',gens:=g',drawn:=d',toks:=t'}:=by
 have F5:∀b o,X.s₀.heap.get? b=some o->b≠X.env.locals:=λb o e=>zaf (zal (Heap.lt_size e) I.ok.above);have xu:∀b o,X.s₀.heap.get? b=some o->b∉X.ex->b∉ch:=λb o e hx hb=>by
  rcases (dS b hb).1 with z|z
  ·exact hx z
  ·exact absurd (zal (Heap.lt_size e) z) (zay _)
 have cellK:∀x c,X.env.cells.lookup x=some c->∀v,s.heap.IsCell c v->h'.IsCell c v:=λx c e v ⟨o,ho,hd⟩=>by
  have ur:=λz=>(dS c z).2.2.1 x c e rfl;by_cases hc:c∈X.fs
  ·obtain⟨sl,q⟩:=slot c o (I.pL x c e) hc ur ho (I.g5 x c e);exact⟨_,q,hd⟩
  ·exact⟨o,keep c o (I.pL x c e) hc ur ho<|I.g5 x c e,hd⟩
 refine⟨I.ok,I.os,hg,⟨λb o e n hb hx=>?_,λb o e n hb hx=>?_,λb o e n hx=>?_,λb o e hx=>?_,λb xs e=>cz b xs<|I.base.cz b xs e,λb o xs e=>f_ b o xs<|I.base.f_ b o xs e,λb ps e=>?_⟩,?_,λx c e=>?_,?_,λx c e=>?_,λp hp=>?_,aK,I.len⟩
 ·exact keep b o (F5 b o e) hb (xu b o e hx) (I.base.keep b o e n hb hx) (I.base.free b o e n hx)
 ·obtain⟨sl,e1⟩:=I.base.slot b o e n hb hx;obtain⟨AK,e2⟩:=slot b _ (F5 b o e) hb (xu b o e hx) e1 (I.base.free b o e n hx);exact⟨AK,e2⟩
 ·obtain⟨o',e1⟩:=I.base.there b o e hx;exact free b o' (xu b o e hx) e1<|I.base.free b o e n hx
 ·obtain⟨o',e1⟩:=I.base.there b o e hx;exact there b o' (xu b o e hx) e1
 ·obtain⟨m1,e1⟩:=I.base.gI b ps e;obtain⟨m2,e2⟩:=gI b _ e1;exact⟨m1++m2,by rw[e2,Array.append_assoc]⟩
 ·obtain⟨m,hn,hl⟩:=I.loc;refine⟨m,ns m hn,λi x v e1 e2 e3=>?_⟩;obtain⟨u,r,l⟩:=hl i x v e1 e2 e3;refine⟨u,r,?_⟩;rcases l with l|⟨k,c,e,z⟩
  ·exact .inl l
  ·exact .inr ⟨k,c,e,cellK x c e _ z⟩
 ·obtain⟨v,z⟩:=I.cell x c e;exact⟨v,cellK x c e v z⟩
 ·obtain⟨m,⟨o,_,_,ho,_⟩,_⟩:=I.loc;exact free _ o (λz=>(dS _ z).2.1 rfl) ho I.free
 ·obtain⟨v,o,ho,hd⟩:=I.cell x c e;exact free c o (λz=>(dS c z).2.2.1 x c e rfl) ho<|I.g5 x c e
 ·obtain⟨e,n,ne,nf,d⟩:=I.pin p hp;have ur:=λz=>(dS p.1 z).2.2.2 p hp rfl;exact⟨keep p.1 p.2 ne nf ur e n,free p.1 p.2 ur e n,ne,nf,d⟩
theorem Inv.un(I:Inv X pins σ H s)(u:Un X.fs [] H H' s.heap h')(aK:cw X.prog X.w H' h'):Inv X pins σ H' {s with heap:=h',toks:=t'}:=by
 obtain⟨m,⟨o,es,ep,ho,r⟩,_⟩:=id I.loc;obtain⟨sl,hL⟩:=u.any ho I.free (by simp)
 exact I.step (ch:=[]) (λ_ z=>nomatch z) (λb o _ hb _ e n=>u.keep b o e n hb (by lia)) (λb o _ hb _ e n=>u.slot b o e n hb (by lia)) (λb o _ e n=>u.free b o e n (by lia)) (λb o _ e=>u.there b o e (by lia)) u.cz u.f_ u.gI (λm' hm=>by
  obtain⟨o',AL,AM,eN,r'⟩:=hm;rw[ho] at eN;cases eN;exact⟨_,AL,AM,hL,r'⟩) aK I.bare
theorem Inv.call{d':Drawn}{ch:List Addr}(I:Inv X pins σ H s)(u:Un (bL X.stack) ch H H' s.heap h')(aK:cw X.prog X.w H' h')(hg:AllBare g')
  (dS:∀b∈ch,(b∈X.ex\/X.s₀.heap.objs.size<=b)/\b≠X.env.locals/\(∀x c,X.env.cells.lookup x=some c->c≠b)/\∀p∈X.pn++pins,p.1≠b):
  Inv X pins σ H' {s with heap:=h',gens:=g',drawn:=d',toks:=t'}:=by
 obtain⟨m,⟨o,es,ep,ho,r⟩,_⟩:=id I.loc;obtain⟨sl,hL⟩:=u.any ho I.free λz=>(dS _ z).2.1 rfl;exact I.step dS (λb o hL hb hc e n=>u.keep b o e n (λz=>(zaa.mp (I.xq b z)).elim hL hb) hc) (λb o _ _ hc e n=>u.any e n hc) (λb o hc e n=>u.free b o e n hc) (λb o hc e=>u.there b o e hc) u.cz u.f_ u.gI (λm' hm=>by
  obtain⟨o',AL,AM,eN,r'⟩:=hm;rw[ho] at eN;cases eN;exact⟨_,AL,AM,hL,r'⟩) aK hg
theorem Inv.turned{it:Addr}(I:Inv X pins σ H s)(k:∀b o,b≠it->s.heap.get? b=some o->h'.get? b=some o)(hn:H it=none)(hL:it≠X.env.locals)
  (h1:it∈X.ex\/X.s₀.heap.objs.size<=it) (h2:∀x c,X.env.cells.lookup x=some c->c≠it) (h3:∀p∈X.pn++pins,p.1≠it):Inv X pins σ H {s with heap:=h',toks:=t'}:=by
 have F6:∀b u,H b=some u->b≠it:=λb u e z=>by lia
 refine I.step (ch:=[it]) (λb hb=>?_) (λb o _ _ hc e _=>k b o (λz=>hc (by simp[z])) e) (λb o _ _ hc e _=>⟨o.slots,k b o (λz=>hc (by simp[z])) e⟩) (λ_ _ _ _ n=>n)
  (λb o hc e=>⟨o,k b o (λz=>hc (by simp[z])) e⟩) (λ_ _ e=>e) (λ_ _ _ e=>e) (λb ps e=>⟨#[],by rw[e];simp⟩) (λm hm=>?_) (λb u e=>?_) I.bare
 ·have e:=by simpa using hb
  subst e;exact⟨h1,hL,h2,h3⟩
 ·obtain⟨o,es,ep,ho,r⟩:=hm;exact⟨o,es,ep,k _ o (Ne.symm hL) ho,r⟩
 ·refine(I.aK b u e).ju (λc v hc q=>k c v ?_ q) (λ_ q=>q) λ_ _ q=>q;rcases hc with z|z
  ·rw[z];exact F6 b u e
  ·exact F6 c _ z
theorem Inv.tok(I:Inv X pins σ H s)(t:Nat):Inv X pins σ H {s with toks:=t}:=I.un Un.refl I.aK
theorem Inv.kept(I:Inv X pins σ H s)(k:∀b u,s.heap.get? b=some u->h'.get? b=some u):Inv X pins σ H {s with heap:=h',toks:=t'}:=I.un (Un.kept k) (I.aK.kept k)
theorem Inv.laid{a:Addr}{o:HO}{t':Nat}(I:Inv X pins σ H s)(k:∀b u,s.heap.get? b=some u->h'.get? b=some u)(hp:s.heap.objs.size<=a)(new:da X.prog X.w (upd H a o) h' a o):
  Inv X pins σ (upd H a o) {s with heap:=h',toks:=t'}:=I.un (Un.laid k hp<|I.aK.fresh hp) (I.aK.laid k hp new)
theorem Inv.write{t':Nat}(I:Inv X pins σ H s)(mu:xj (H x))(he:e=x\/H e=some (.own x))(k:∀b u,b≠e->s.heap.get? b=some u->h'.get? b=some u)(rO:∃u,h'.get? e=some u)
  (new:da X.prog X.w (upd H x o) h' x o):Inv X pins σ (upd H x o) {s with heap:=h',toks:=t'}:=I.un (Un.write mu he k rO) (I.aK.write mu he k rO new)
theorem Inv.rP(I:Inv X pins σ H s)(h:∀p∈pins',s.heap.get? p.1=some p.2/\H p.1=none/\p.1≠X.env.locals/\p.1∉X.fs/\∀v,p.2.data≠ .cell v):Inv X pins' σ H s:=
 ⟨I.ok,I.os,I.bare,I.base,I.loc,I.cell,I.free,I.g5,λp hp=>(zae.mp hp).elim (λz=>I.pin p<|zaG _ z)<|h p,I.aK,I.len⟩
theorem F7{N:List Str}(hN:N.Nodup){i j:Nat}{x:Str}(a:N[i]?=some x)(b:N[j]?=some x):i=j:=by
 obtain⟨h1,e1⟩:=zak.mp a;obtain⟨h2,e2⟩:=zak.mp b;exact(List.getElem_inj hN).mp<|e1.trans e2.symm
theorem F8{E:Value->Shared->Prop}{i:Nat}{x:Str}{v:V}{u:Value}{Q:Unit->Shared->Prop}(I:Inv X pins σ H s)(hN:X.N.Nodup)(hi:X.N[i]?=some x)(hx:Loc X.env.scope x)(r:RelV v u)
  (h:∀s',Inv X pins (σ.set i<|some v) H s'->(∃a,Heap.SameBut a s.heap s'.heap/\(a=X.env.locals\/X.env.cells.lookup x=some a))->Q () s') (hf:X.fn x=true\/X.env.scope.names.lookup x=some .local:=by first|exact .inl rfl|exact .inr rfl|assumption):wpAny M A (storeName X.env x u) Q E s:=by
 obtain⟨m,hn,hl⟩:=id I.loc;have R9:(X.env.scope.kind==.class ||(X.env.scope.kind==.module && X.env.locals !=X.env.globals))=false:=I.ok.kind▸rfl
 have F9:i<σ.length:=by rw[I.len];exact(zak.mp hi).1
 have pL:=I.pL;have tracked:∀{a:Addr}{h':Heap},(∃o,s.heap.get? a=some o/\H a=none)->Heap.SameBut a s.heap h'->cw X.prog X.w H h':=λ{a h'} ha hs b ob e=>by
  obtain⟨_,_,F_⟩:=ha;refine(I.aK b ob e).ju (λc w' hc q=>(hs.2 c ?_).trans q) (λ_ q=>q) λ_ _ q=>q;rintro rfl;rcases hc with rfl|hc
  ·rw[F_] at e;cases e
  ·rw[F_] at hc;cases hc
 rcases hx with hk|hk
 ·refine wpAny_storeName_local hk hn (λh' AN hs=>?_) R9;obtain⟨oL,_,_,xv,_⟩:=id hn;refine h _ ⟨I.ok,I.os,I.bare,⟨λb o e n hb hx=>?_,λb o e n hb hx=>?_,I.base.free,λb o e hx=>?_,I.base.cz,I.base.f_,I.base.gI⟩,⟨_,AN,λj y v' e1 e2 e3=>?_⟩,λy c e=>?_,I.free,I.g5,λp hp=>?_,tracked ⟨oL,xv,I.free⟩ hs,by simpa using I.len⟩ ⟨_,hs,.inl rfl⟩
  ·exact(hs.2 b<|zaf<|zal (Heap.lt_size e) I.ok.above).trans (I.base.keep b o e n hb hx)
  ·obtain⟨sl,e1⟩:=I.base.slot b o e n hb hx;exact⟨sl,(hs.2 b<|zaf<|zal (Heap.lt_size e) I.ok.above).trans e1⟩
  ·obtain⟨o',e1⟩:=I.base.there b o e hx;exact⟨o',(hs.2 b<|zaf<|zal (Heap.lt_size e) I.ok.above).trans e1⟩
  ·by_cases hj:j=i
   ·subst hj;rw[hi] at e1;cases e1;rw[zbK F9] at e2;cases e2;exact⟨u,r,.inl ⟨hk,by lia⟩⟩
   ·rw[List.getElem?_set_ne<|Ne.symm hj] at e2;obtain⟨u',r',q⟩:=hl j y v' e1 e2 e3;refine⟨u',r',?_⟩;rcases q with⟨k,e⟩|⟨k,c,e,z⟩
    ·refine .inl ⟨k,?_⟩;have:y≠x:=λe=>hj (F7 hN e1<|e ▸ hi)
     simp[this,e]
    ·exact .inr ⟨k,c,e,z.sameBut hs<|pL y c e⟩
  ·obtain⟨w',z⟩:=I.cell y c e;exact⟨w',z.sameBut hs<|pL y c e⟩
  ·obtain⟨e,n,ne,nf,d⟩:=I.pin p hp;exact⟨(hs.2 p.1 ne).trans e,n,ne,nf,d⟩
 ·have AO:X.fn x=true:=by
   rcases hf with z|z
   ·exact z
   ·rw[z] at hk;cases hk
  obtain⟨c,hc⟩:=I.ok.has x (.inl hk);obtain⟨w',z⟩:=I.cell x c hc;refine wpAny_storeName_cell I.ok.kind hk hc z<|λh' cC hs=>?_;obtain⟨oc,Ga,R_⟩:=id z;refine h {s with heap:=h'} ⟨I.ok,I.os,I.bare,⟨λb o e n hb hx=>?_,λb o e n hb hx=>?_,I.base.free,λb o e hx=>?_,I.base.cz,I.base.f_,I.base.gI⟩,⟨m,hn.sameBut hs<|Ne.symm<|pL x c hc,λj y v' e1 e2 e3=>?_⟩,λy c' e=>?_,I.free,I.g5,λp hp=>?_,tracked ⟨oc,Ga,I.g5 x c hc⟩ hs,by simpa using I.len⟩ ⟨c,hs,.inr hc⟩
  ·exact(hs.2 b<|zaf<|zal (Heap.lt_size e)<|I.ok.xn x c AO hc).trans (I.base.keep b o e n hb hx)
  ·obtain⟨sl,e1⟩:=I.base.slot b o e n hb hx;exact⟨sl,(hs.2 b<|zaf<|zal (Heap.lt_size e)<|I.ok.xn x c AO hc).trans e1⟩
  ·obtain⟨o',e1⟩:=I.base.there b o e hx;exact⟨o',(hs.2 b<|zaf<|zal (Heap.lt_size e)<|I.ok.xn x c AO hc).trans e1⟩
  ·by_cases hj:j=i
   ·subst hj;rw[hi] at e1;cases e1;rw[zbK F9] at e2;cases e2;exact⟨u,r,.inr ⟨.inl hk,c,hc,cC⟩⟩
   ·rw[List.getElem?_set_ne<|Ne.symm hj] at e2;obtain⟨u',r',q⟩:=hl j y v' e1 e2 e3;refine⟨u',r',?_⟩;rcases q with q|⟨k,c',e,z'⟩
    ·exact .inl q
    ·refine .inr ⟨k,c',e,z'.sameBut hs ?_⟩;rintro rfl;exact hj<|F7 hN e1<|I.ok.inj _ _ _ e hc ▸ hi
  ·by_cases Gb:c'=c
   ·subst Gb;exact⟨_,cC⟩
   ·obtain⟨w2,z2⟩:=I.cell y c' e;exact⟨w2,z2.sameBut hs Gb⟩
  ·obtain⟨e,n,ne,nf,d⟩:=I.pin p hp;refine⟨(hs.2 p.1 ?_).trans e,n,ne,nf,d⟩;intro q;exact d w' (by lia)
theorem AQ{E:Value->Shared->Prop}{i:Nat}{x:Str}{v:V}{u:Value}{Q:Unit->Shared->Prop}(I:Inv X pins σ H s)(hN:X.N.Nodup)(hi:X.N[i]?=some x)(hx:Loc X.env.scope x)(r:RelV v u)
  (h:∀s',Inv X pins (σ.set i<|some v) H s'->Q () s') (hf:X.fn x=true\/X.env.scope.names.lookup x=some .local:=by first|exact .inl rfl|exact .inr rfl|assumption):wpAny M A (storeName X.env x u) Q E s:=
 F8 I hN hi hx r (λs' I' _=>h s' I') hf
theorem Inv.AR{ch:List Addr}(I:Inv X pins σ H s)(ho:s'.os=s.os)(u:Un (bL X.stack) ch H H' s.heap s'.heap)(aK:cw X.prog X.w H' s'.heap)(hg:AllBare s'.gens)
  (dS:∀b∈ch,(b∈X.ex\/X.s₀.heap.objs.size<=b)/\b≠X.env.locals/\(∀x c,X.env.cells.lookup x=some c->c≠b)/\∀p∈X.pn++pins,p.1≠b):Inv X pins σ H' s':=by
 obtain⟨h',g',d',t',o'⟩:=s';subst ho;exact I.call u aK hg dS
end
abbrev XK:=Value->Option Addr->Hp->Prop
abbrev St:=List (Option V)
abbrev VK:=V->Hp->Prop
abbrev TE:=St->Hp->VK->Prop
abbrev TT:=St->Hp->(Bool->Hp->Prop)->Prop
abbrev TA:=St->Hp->(List V->Hp->Prop)->Prop
structure Ends where
 nx:St->Hp->Prop
 rt:VK
 bk:St->Hp->Prop:=λ_ _=>False
 ct:St->Hp->Prop:=λ_ _=>False
abbrev TS:=Ends->St->Hp->Prop
inductive EP(X:Cx)(pins:List (Addr×Obj))(σ:St)(Q:VK)(u:Value)(s':Shared):Prop|i(v H')(_:Inv X pins σ H' s')(_:RelV v u)(_:Q v H')
inductive TP(X:Cx)(pins:List (Addr×Obj))(σ:St)(Q:Bool->Hp->Prop)(b:Bool)(s':Shared):Prop|i(H')(_:Inv X pins σ H' s')(_:Q b H')
inductive AP(X:Cx)(pins:List (Addr×Obj))(σ:St)(Q:List V->Hp->Prop)(us:List Value)(s':Shared):Prop|i(vs H')(_:Inv X pins σ H' s')(_:Vals vs us)(_:Q vs H')
def SP(X:Cx)(pins:List (Addr×Obj))(D:Ends)(f:Flow)(s':Shared):Prop:=
 match f with
 |.next=>∃σ' H',Inv X pins σ' H' s'/\D.nx σ' H'
 |.brk=>∃σ' H',Inv X pins σ' H' s'/\D.bk σ' H'
 |.cont=>∃σ' H',Inv X pins σ' H' s'/\D.ct σ' H'
 |.ret u=>∃v σ' H',Inv X pins σ' H' s'/\RelV v u/\D.rt v H'
def PE(X:Cx)(e:Expr)(t:TE):Prop:=
 ∀(pins:List (Addr×Obj)) (s:Shared) (σ:St) (H:Hp) (Q:VK),Inv X pins σ H s->t σ H Q->wpAny (model X.prog X.w) X.A (eval e X.env) (EP X pins σ Q) X.xe s
def PT(X:Cx)(e:Expr)(t:TT):Prop:=
 ∀(pins:List (Addr×Obj)) (s:Shared) (σ:St) (H:Hp) (Q:Bool->Hp->Prop),Inv X pins σ H s->t σ H Q->wpAny (model X.prog X.w) X.A (isTrue e X.env<|eval e X.env) (TP X pins σ Q) X.xe s
def PW(X:Cx)(e:Expr)(t:TT):Prop:=
 ∀(whole:Sem Value) (pins:List (Addr×Obj)) (s:Shared) (σ:St) (H:Hp) (Q:Bool->Hp->Prop),Inv X pins σ H s->t σ H Q->wpAny (model X.prog X.w) X.A (isTrue e X.env whole) (TP X pins σ Q) X.xe s
theorem PW.pt{X:Cx}{e:Expr}{t:TT}(h:PW X e t):PT X e t:=h _
def PA(X:Cx)(es:List Expr)(t:TA):Prop:=
 ∀(pos:Pos) (pins:List (Addr×Obj)) (s:Shared) (σ:St) (H:Hp) (Q:List V->Hp->Prop),Inv X pins σ H s->t σ H Q->wpAny (model X.prog X.w) X.A (spliced<|backTo pos<|starEach es X.env) (AP X pins σ Q) X.xe s
def PS(X:Cx)(st:Stmt)(t:TS):Prop:=
 ∀(pins:List (Addr×Obj)) (s:Shared) (σ:St) (H:Hp) (D:Ends),Inv X pins σ H s->t D σ H->wpAny (model X.prog X.w) X.A (exec st X.env) (SP X pins D) X.xe s
def dD(X:Cx)(st:List Stmt)(t:TS):Prop:=
 ∀(pins:List (Addr×Obj)) (s:Shared) (σ:St) (H:Hp) (D:Ends),Inv X pins σ H s->t D σ H->wpAny (model X.prog X.w) X.A (execs st X.env) (SP X pins D) X.xe s
theorem aV{t:Sem α}{Q Q':α->Shared->Prop}{M:Model}{A:Around}{E:Value->Shared->Prop}{s:Shared}(h:wpAny M A t Q E s)(hQ:∀a s,Q a s->Q' a s):wpAny M A t Q' E s:=wpAny_mono h hQ λ_ _ x=>x
section
variable {X:Cx}
def AS(i:Nat):TE:=λσ H Q=>∃v,σ[i]?=some (some v)/\Q v H
def tC(v:V):TE:=λ_ H Q=>Q v H
theorem Sa{pos:Pos}(hN:X.N[i]?=some x)(hv:xk X.env.scope x)(hd:(x==("__debug__":Str))=false:=by decide)(gJ:(x==("__classdict__":Str))=false:=by decide):PE X (.Name x pos) (AS i):=by
 intro pins s σ H Q I h;obtain⟨v,e,h⟩:=h;obtain⟨m,hn,hl⟩:=I.loc;obtain⟨u,r,l⟩:=hl i x v hN e hv;have fin:EP X pins σ Q u s:=⟨v,H,I,r,h⟩;rcases l with⟨hk,hm⟩|⟨hk,c,hc,Gd⟩
 ·exact wpAny_Name (wpAny_loadName_local I.ok.kind hk hn hm fin) hd
 ·rcases hk with hk|hk
  ·exact wpAny_Name (wpAny_loadName_cell I.ok.kind hk hc Gd fin) hd
  ·exact wpAny_Name (wpAny_loadName_free I.ok.kind hk hc Gd fin gJ) hd
theorem Sb:PE X (.Constant (.int i) j pos) (tC<|.int i):=λ_ _ _ H _ I h=>wpAny_Constant_int ⟨.int i,H,I.tok _,⟨_,rfl⟩,h⟩
theorem Sd:PE X (.Constant (.bool b) j pos) (tC<|.bl b):=λ_ _ _ H _ I h=>Constant_bool ⟨.bl b,H,I,rfl,h⟩
theorem Se:PE X (.Constant .none j pos) (tC .aB):=λ_ _ _ H _ I h=>Constant_none ⟨.aB,H,I,rfl,h⟩
theorem Sf:PE X (.Constant (.str x) j pos) (tC<|.str x):=λ_ _ _ H _ I h=>Calls.Constant_str ⟨.str x,H,I.tok _,⟨_,rfl⟩,h⟩
def Gl(X:Cx)(x:Str):Prop:=X.env.kindOf x=some .globalImplicit
theorem rQ{pins:List (Addr×Obj)}{s:Shared}{σ:St}{H:Hp}{x:Str}{u:Value}{pos:Pos}{Q:Value->Shared->Prop}(I:Inv X pins σ H s)(hg:Gl X x)(hm:X.mg x=some u)(h:Q u s)
  (hd:(x==("__debug__":Str))=false:=by decide):wpAny (model X.prog X.w) X.A (eval (.Name x pos) X.env) Q E s:=
 Calls.Name_function_global I.ok.kind hg (Calls.loadGlobal_global (I.ok.glob▸I.mod.glob.keeps I.bk) hm h) hd
theorem rR{E:Value->Shared->Prop}{pins:List (Addr×Obj)}{s:Shared}{σ:St}{H:Hp}{x:Str}{u:Value}{pos:Pos}{Q:Value->Shared->Prop}(I:Inv X pins σ H s)(hg:Gl X x)(hm:X.mg x=none)(hv:bootBuiltins x=some u)(h:Q u s)
  (hn:x≠"__name__":=by decide) (hd:(x==("__debug__":Str))=false:=by decide):wpAny (model X.prog X.w) X.A (eval (.Name x pos) X.env) Q E s:=by
 obtain⟨mb,h1,h2⟩:=I.mod.blt;exact Calls.Name_function_global I.ok.kind hg (Calls.loadGlobal_builtin (I.ok.glob▸I.mod.glob.keeps I.bk) hm (I.ok.blt▸h1.keeps I.bk) ((h2 x hn).trans hv) h) hd
theorem Ge{v:V}{u:Value}{pos:Pos}(hg:Gl X x)(hm:X.mg x=some u)(r:RelV v u)(hd:(x==("__debug__":Str))=false:=by decide):PE X (.Name x pos) (tC v):=
 λ_ _ _ H _ I h=>rQ I hg hm ⟨v,H,I,r,h⟩ hd
theorem Gf{v:V}{u:Value}{pos:Pos}(hg:Gl X x)(hm:X.mg x=none)(hv:bootBuiltins x=some u)(r:RelV v u)(hn:x≠"__name__":=by decide)(hd:(x==("__debug__":Str))=false:=by decide):PE X (.Name x pos) (tC v):=
 λ_ _ _ H _ I h=>rR I hg hm hv ⟨v,H,I,r,h⟩ hn hd
variable {a b:Expr}{ta tb:TE}{pos:Pos}
def tB(t:TE):TT:=λσ H Q=>t σ H λx H1=>∃c,x=.bl c/\Q c H1
variable {tA xx:TT}{rest:List Expr}
def Gg(t u:TT):TT:=λσ H Q=>t σ H λc H1=>if c=true then u σ H1 Q else Q false H1
def Gh(t u:TT):TT:=λσ H Q=>t σ H λc H1=>if c=true then Q true H1 else u σ H1 Q
def Gi(t:TT):TT:=λσ H Q=>t σ H λc H1=>Q (!c) H1
theorem pw_and1(ha:PT X a tA):PW X (.BoolOp .And [a] pos) tA:=by
 intro wh pins s σ H Q I h;refine isTrue_and<|aV (ha pins s σ H Q I h) λc s1 e=>?_;cases c with
 |true=>exact isTrue_and_nil e
 |false=>exact e
theorem pw_or1(ha:PT X a tA):PW X (.BoolOp .Or [a] pos) tA:=by
 intro wh pins s σ H Q I h;refine isTrue_or<|aV (ha pins s σ H Q I h) λc s1 e=>?_;cases c with
 |false=>exact isTrue_or_nil e
 |true=>exact e
theorem pw_and(ha:PT X a tA)(hb:PW X (.BoolOp .And (b::rest) pos) xx):PW X (.BoolOp .And (a::b::rest) pos) (Gg tA xx):=by
 intro wh pins s σ H Q I h;refine isTrue_and<|aV (ha pins s σ H _ I h) λc s1 ⟨H1,I1,q1⟩=>?_;cases c with
 |true=>exact hb wh pins s1 σ H1 Q I1 q1
 |false=>exact⟨H1,I1,q1⟩
theorem pw_or(ha:PT X a tA)(hb:PW X (.BoolOp .Or (b::rest) pos) xx):PW X (.BoolOp .Or (a::b::rest) pos) (Gh tA xx):=by
 intro wh pins s σ H Q I h;refine isTrue_or<|aV (ha pins s σ H _ I h) λc s1 ⟨H1,I1,q1⟩=>?_;cases c with
 |true=>exact⟨H1,I1,q1⟩
 |false=>exact hb wh pins s1 σ H1 Q I1 q1
theorem Sg(ha:PT X a tA):PT X (.UnaryOp .Not a pos) (Gi tA):=by
 intro pins s σ H Q I h;exact isTrue_not (aV (ha pins s σ H (λc H1=>Q (!c) H1) I h) λ_ _⟨a,b,c⟩=>⟨a,b,c⟩)
def Gj(ta tb:TE):TE:=λσ H Q=>ta σ H λx H1=>∃c,x=.bl c/\if c=true then tb σ H1 Q else Q (.bl false) H1
def Gk(ta tb:TE):TE:=λσ H Q=>ta σ H λx H1=>∃c,x=.bl c/\if c=true then Q (.bl true) H1 else tb σ H1 Q
theorem Gm{t:TE}(h:PE X a t):PE X (.BoolOp op [a] pos) t:=λpins s σ H Q I hw=>BoolOp_one (h pins s σ H Q I hw)
theorem Sh(ha:PE X a ta)(hb:PE X (.BoolOp .And (b::rest) pos) tb):PE X (.BoolOp .And (a::b::rest) pos) (Gj ta tb):=by
 intro pins s σ H Q I h;refine BoolOp_and<|aV (ha pins s σ H _ I h) λv s1 ⟨x,H1,I1,r1,q1⟩=>?_;obtain⟨c,rfl,q1⟩:=q1;cases r1;refine wpAny_truthy_bool ?_;cases c with
 |true=>exact hb pins s1 σ H1 Q I1 q1
 |false=>exact⟨.bl false,H1,I1,rfl,q1⟩
theorem Si(ha:PE X a ta)(hb:PE X (.BoolOp .Or (b::rest) pos) tb):PE X (.BoolOp .Or (a::b::rest) pos) (Gk ta tb):=by
 intro pins s σ H Q I h;refine BoolOp_or<|aV (ha pins s σ H _ I h) λv s1 ⟨x,H1,I1,r1,q1⟩=>?_;obtain⟨c,rfl,q1⟩:=q1;cases r1;refine wpAny_truthy_bool ?_;cases c with
 |false=>exact hb pins s1 σ H1 Q I1 q1
 |true=>exact⟨.bl true,H1,I1,rfl,q1⟩
def Gn(t:TT)(ta tb:TE):TE:=λσ H Q=>t σ H λc H1=>if c=true then ta σ H1 Q else tb σ H1 Q
theorem Sj(hc:PT X c tA)(ha:PE X a ta)(hb:PE X b tb):PE X (.IfExp c a b pos) (Gn tA ta tb):=by
 intro pins s σ H Q I h;refine wpAny_IfExp<|aV (hc pins s σ H _ I h) λd s1 ⟨H1,I1,q1⟩=>?_;cases d with
 |true=>exact ha pins s1 σ H1 Q I1 q1
 |false=>exact hb pins s1 σ H1 Q I1 q1
end
def ar(K:Frag)(H:Hp)(a:Addr)(xs:List V):Prop:=
 Rd H a (.lst xs)\/
  ∃(o:Obj) (its:Array Value) (n:Nat),K.lookup a=some o/\o.cls=.type "list"/\o.dict=none/\o.data=.seq its n/\its.size<=sizeLine/\Vals xs its.toList
def aM(K:Frag)(H:Hp)(a:Addr)(xs:List V):Prop:=
 Rd H a (.tup xs)\/
  ∃(o:Obj) (its:Array Value) (n:Nat),K.lookup a=some o/\o.cls=.type "tuple"/\o.data=.seq its n/\its.size<=sizeLine/\Vals xs its.toList
def Sk:Value->Option V
 |.none=>some .aB
 |.bool b=>some (.bl b)
 |.int i _=>some (.int i)
 |.str x _=>some (.str x)
 |.bytes b _=>some (.gr b)
 |.float b _=>some (.jt b)
 |.ref a=>some (.ref a)
 |.type n=>some (.ty n)
 |_=>none
theorem RelV.abs{u:Value}(r:RelV x u):Sk u=some x:=by
 cases x with
 |aB=>cases r;rfl
 |bl _=>cases r;rfl
 |int _=>obtain⟨t,rfl⟩:=r;rfl
 |str _=>obtain⟨t,rfl⟩:=r;rfl
 |gr _=>obtain⟨t,rfl⟩:=r;rfl
 |jt _=>obtain⟨t,rfl⟩:=r;rfl
 |ref _=>cases r;rfl
 |ty _=>cases r;rfl
theorem RelV.inj{u:Value}(r:RelV x u)(q:RelV y u):x=y:=zap (r.abs.symm.trans q.abs)
theorem Vals.inj:∀{xs ys:List V}{us:List Value},Vals xs us->Vals ys us->xs=ys:=by
 intro _ ys _ p q;induction p generalizing ys with
 |nil=>cases q;rfl
 |cons r t ih=>cases q with|cons r' t'=>rw[r.inj r',ih t']
section
variable {X:Cx}{pins:List (Addr×Obj)}{σ:St}{H:Hp}{s:Shared}{a:Addr}{xs ys:List V}
theorem ar.of{K:Frag}(h:H a=some (.lst xs)):ar K H a xs:=.inl (.inl h)
theorem aM.of{K:Frag}(h:H a=some (.tup xs)):aM K H a xs:=.inl (.inl h)
theorem Inv.list(I:Inv X pins σ H s)(h:ar X.K H a xs):∃its:List Value,Vals xs its/\PlainL s.heap a its.toArray/\xs.length<=sizeLine:=by
 rcases h with h|⟨o,its,n,hk,hc,hd,hs,hz,r⟩
 ·obtain⟨z,its,n,r,e⟩:=h.ok I.aK;exact⟨its,r,⟨_,n,e,rfl,rfl,rfl⟩,z⟩
 ·refine⟨its.toList,r,⟨o,n,I.cT a o hk,hc,hd,by simpa using hs⟩,?_⟩
  have e:=r.length
  simp at e
  omega
theorem Inv.tuple(I:Inv X pins σ H s)(h:aM X.K H a xs):∃its:List Value,Vals xs its/\IsTup s.heap a its.toArray/\xs.length<=sizeLine:=by
 rcases h with h|⟨o,its,n,hk,hc,hs,hz,r⟩
 ·obtain⟨z,its,r,p⟩:=h.ok I.aK;exact⟨its,r,p,z⟩
 ·refine⟨its.toList,r,⟨o,I.cT a o hk,hc,n,by simpa using hs⟩,?_⟩
  have e:=r.length
  simp at e
  omega
theorem Inv.uu(I:Inv X pins σ H s)(h:ar X.K H a xs)(h':ar X.K H a ys):xs=ys:=by
 obtain⟨its,r,⟨o,n,e,_,_,d⟩,_⟩:=I.list h;obtain⟨its',r',⟨o',n',e',_,_,d'⟩,_⟩:=I.list h';rw[e] at e';cases e'
 have:its=its':=by lia
 subst this;exact r.inj r'
end
section
variable {X:Cx}{st:Stmt}{rest:List Stmt}{t u:TS}{e:Expr}{te:TE}{pos:Pos}
def AU:TS:=λD σ H=>D.nx σ H
def Gp(t u:TS):TS:=λD σ H=>t {D with nx:=u D} σ H
theorem Gq:dD X [] AU:=λ_ _ σ H _ I h=>wpAny_execs_nil ⟨σ,H,I,h⟩
theorem Sl(h1:PS X st t)(h2:dD X rest u):dD X (st::rest) (Gp t u):=by
 intro pins s σ H D I h;refine wpAny_execs_cons<|aV (h1 pins s σ H {D with nx:=u D} I h) λf s1 q=>?_
 cases f with
 |next=>
  obtain⟨σ',H',I',q⟩:=q;exact h2 pins s1 σ' H' D I' q
 |ret v=>exact q
 |brk=>exact q
 |cont=>exact q
def Sm:TS:=λD σ H=>D.bk σ H
def Gs:TS:=λD σ H=>D.ct σ H
theorem Sn:PS X (.Continue pos) Gs:=λ_ _ σ H _ I h=>wpAny_Continue ⟨σ,H,I,h⟩
theorem Inv.quiet{σ:St}{H:Hp}{s:Shared}(I:Inv X pins σ H s):interactive X.env=false:=by simp[interactive,I.ok.kind]
def Gu(te:TE):TS:=λD σ H=>te σ H λ_ H1=>D.nx σ H1
theorem So(he:PE X e te)(hs:swapsWith e none pos.line X.env=pure false:=by rfl):PS X (.Expr e pos) (Gu te):=by
 intro pins s σ H D I h;exact wpAny_Expr_any (aV (he pins s σ H _ I h) λv s1 ⟨x,H1,I1,r1,q1⟩=>⟨σ,H1,I1,q1⟩) I.quiet hs
def Gv(te:TE):TS:=λD σ H=>te σ H D.rt
theorem Sq(he:PE X e te):PS X (.Return (some e) pos) (Gv te):=by
 intro pins s σ H D I h;exact wpAny_Return_some<|aV (he pins s σ H _ I h) λv s1 ⟨x,H1,I1,r1,q1⟩=>⟨x,σ,H1,I1,r1,q1⟩
def Ss:TS:=λD _ H=>D.rt .aB H
def Gw(c:TT)(t u:TS):TS:=λD σ H=>c σ H λb H1=>if b=true then t D σ H1 else u D σ H1
theorem Su{a b:List Stmt}{tc:TT}(hc:PT X c tc)(ha:dD X a t)(hb:dD X b u):PS X (.If c a b pos) (Gw tc t u):=by
 intro pins s σ H D I h;refine wpAny_If<|aV (hc pins s σ H _ I h) λd s1 ⟨H1,I1,q1⟩=>?_;cases d with
 |true=>exact ha pins s1 σ H1 D I1 q1
 |false=>exact hb pins s1 σ H1 D I1 q1
def Sv:TS:=λ_ _ _=>False
end
abbrev TG:=V->St->Hp->(St->Hp->Prop)->Prop
abbrev j5:=List V->St->Hp->(St->Hp->Prop)->Prop
def PG(X:Cx)(target:Expr)(t:TG):Prop:=
 ∀(pins:List (Addr×Obj)) (s:Shared) (σ:St) (H:Hp) (v:V) (u:Value) (Q:St->Hp->Prop),Inv X pins σ H s->RelV v u->t v σ H Q->
  wpAny (model X.prog X.w) X.A (assign target X.env u) (λ_ s'=>∃σ' H',Inv X pins σ' H' s'/\Q σ' H') X.xe s
def pM(X:Cx)(ts:List Expr)(t:j5):Prop:=
 ∀(pins:List (Addr×Obj)) (s:Shared) (σ:St) (H:Hp) (vs:List V) (us:List Value) (Q:St->Hp->Prop),Inv X pins σ H s->Vals vs us->t vs σ H Q->
  wpAny (model X.prog X.w) X.A (assignInOrder ((assignEach ts X.env).map (·.2)) us) (λ_ s'=>∃σ' H',Inv X pins σ' H' s'/\Q σ' H') X.xe s
abbrev AV:=V->V->V->Hp->(Hp->Prop)->Prop
def Gx(X:Cx)(t:AV):Prop:=
 ∀(pins:List (Addr×Obj)) (s:Shared) (σ:St) (H:Hp) (o i v:V) (ov iv u:Value) (Q:Hp->Prop),Inv X pins σ H s->RelV o ov->RelV i iv->RelV v u->t o i v H Q->
  wpAny (model X.prog X.w) X.A (setItem ov iv u) (λ_ s'=>∃H',Inv X pins σ H' s'/\Q H') X.xe s
section
variable {X:Cx}{pos:Pos}
def eS(i:Nat):TG:=λv σ H Q=>Q (σ.set i<|some v) H
theorem rS(hN:X.N.Nodup)(hi:X.N[i]?=some x)(hx:Loc X.env.scope x)(hf:X.fn x=true\/X.env.scope.names.lookup x=some .local:=by first|exact .inl rfl|exact .inr rfl|assumption):PG X (.Name x pos) (eS i):=by
 intro pins s σ H v u Q I r h;exact wpAny_assign_Name<|AQ I hN hi hx r (λs' I'=>⟨_,H,I',h⟩) hf
def xy:j5:=λvs σ H Q=>vs=[]/\Q σ H
def rT(t:TG)(u:j5):j5:=λvs σ H Q=>∃v r,vs=v::r/\t v σ H λσ' H'=>u r σ' H' Q
theorem AW:pM X [] xy:=by
 intro pins s σ H vs us Q I r h;obtain⟨e,h⟩:=h;subst e;cases r;exact assignInOrder_nil ⟨σ,H,I,h⟩
theorem uv{t:TG}{u:j5}(h1:PG X e t)(h2:pM X es u)
  (hs:(assignEach (e::es) X.env).map (·.2)=assign e X.env::(assignEach es X.env).map (·.2):=by rfl):pM X (e::es) (rT t u):=by
 intro pins s σ H vs us Q I r h;obtain⟨v,vr,e1,h⟩:=h;subst e1;cases r with
 |cons r rr=>
  rw[hs];exact assignInOrder_cons<|aV (h1 pins s σ H _ _ _ I r h) λ_ s1 ⟨σ1,H1,I1,q1⟩=>h2 pins s1 σ1 H1 _ _ Q I1 rr q1
def xB(K:Frag)(n:Nat)(t:j5):TG:=λv σ H Q=>∃a xs,v=.ref a/\aM K H a xs/\xs.length=n/\t xs σ H Q
theorem Gy{k:Nat}{t:j5}{n:Nat}(hc:X.calm=true)(h:pM X es t)
  (hn:(assignEach es X.env).length=n:=by rfl) (k9:(assignEach es X.env).findIdx? (·.1)=none:=by rfl):PG X (.Tuple es k pos) (xB X.K n t):=by
 intro pins s σ H v u Q I r hw;obtain⟨a,xs,e1,hq,hl,hw⟩:=hw;subst e1;cases r;obtain⟨its,rv,ht,hz⟩:=I.tuple hq;refine assign_Tuple_tuple (I.ok.hd hc) ht (by simp[hn,<-hl,rv.length]) k9 λh' hx=>?_
 exact h pins _ σ H xs _ Q (I.kept λb o e=>hx b o (zaf<|Heap.lt_size e) e) (by lia) hw
def Gz(to ti:TE)(t:AV):TG:=λv σ H Q=>to σ H λo H1=>ti σ H1 λi H2=>t o i v H2 λH3=>Q σ H3
theorem Sw{to ti:TE}{t:AV}(ho:PE X o to)(hi:PE X i ti)(hs:Gx X t)
  (ha:∀v,assign (.Subscript o i pos) X.env v=(do
   let ov <-holding [v] (eval o X.env)
   let iv <-holding [v,ov] (eval i X.env)
   standAt pos
   holding [v,ov,iv] (setItem ov iv v)
   release [v,ov,iv] []):=by intro _;rfl):PG X (.Subscript o i pos) (Gz to ti t):=by
 intro pins s σ H v u Q I r h;exact wpAny_bind<|wpAny_holding<|aV (ho pins s σ H _ I h) λov s1 ⟨x,H1,I1,r1,q1⟩=>wpAny_bind<|wpAny_holding<|aV (hi pins s1 σ H1 _ I1 q1) λiv s2 ⟨y,H2,I2,r2,q2⟩=>wpAny_bind<|wpAny_standAt<|wpAny_bind<|wpAny_holding<|aV (hs pins s2 σ H2 x y v ov iv u _ I2 r1 r2 r q2) λ_ s3 ⟨H3,I3,q3⟩=>wpAny_release ⟨σ,H3,I3,q3⟩
def k_(te:TE)(g:TG):TS:=λD σ H=>te σ H λx H1=>g x σ H1 D.nx
theorem GA{e:Expr}{te:TE}{g:TG}(he:PE X e te)(hg:PG X tg g)(hs:swapsWithSole [tg] e pos.line X.env=pure false:=by rfl)(hw:swappedStores [tg] e X.env=pure none:=by rfl)
  (h1:(assignEach [tg] X.env).map (·.2)=[assign tg X.env]:=by rfl):PS X (.Assign [tg] e pos) (k_ te g):=by
 intro pins s σ H D I h;refine wpAny_Assign_stores (aV (he pins s σ H _ I h) λv s1 ⟨x,H1,I1,r1,q1⟩=>?_) hs hw;rw[h1];exact aV (hg pins s1 σ H1 x v _ I1 r1 q1) λ_ s2 q=>q
theorem Sx{e:Expr}{te:TE}{pos':Pos}(hN:X.N.Nodup)(hi:X.N[i]?=some x)(hx:Loc X.env.scope x)(he:PE X e te)(hs:swapsWith e (some<|.Name x pos') pos.line X.env=pure false:=by rfl)(hf:X.fn x=true\/X.env.scope.names.lookup x=some .local:=by first|exact .inl rfl|exact .inr rfl|assumption):
  PS X (.Assign [.Name x pos'] e pos) (k_ te<|eS i):=by
 intro pins s σ H D I h;exact wpAny_Assign_Name (aV (he pins s σ H _ I h) λv s1 ⟨y,H1,I1,r1,q1⟩=>AQ I1 hN hi hx r1 (λs2 I2=>⟨_,H1,I2,q1⟩) hf) hs
def GB(c:TT)(tb:TS):TS:=λD σ H=>∃W:Nat->St->Hp->Prop,(∃m,W m σ H)/\∀m σ H,W m σ H->
 c σ H λb H1=>if b=true then ∃N:St->Hp->Prop,(∀σ' H',N σ' H'->∃m',m'<m/\W m' σ' H')/\tb {D with nx:=N,ct:=N,bk:=D.nx} σ H1 else D.nx σ H1
theorem Sy{tc:TT}{tb:TS}(hp:PassesOwn (model X.prog X.w) X.A X.env X.xe)(hc:PT X c tc)(hb:dD X body tb):PS X (.While c body [] pos) (GB tc tb):=by
 intro pins s σ H D I h;obtain⟨W,⟨m0,w0⟩,turn⟩:=h;refine wpAny_While<|codeAny_whileLoop (λn s'=>∃σ' H',Inv X pins σ' H' s'/\W n σ' H') ?_ m0 ⟨σ,H,I,w0⟩;rintro n s1 ⟨σ1,H1,I1,w1⟩;refine wpAny_passesOwn hp<|aV (hc pins s1 σ1 H1 _ I1<|turn n σ1 H1 w1) λb s2 ⟨H2,I2,q2⟩=>?_;cases b with
 |true=>
  obtain⟨N,hN,q2⟩:=q2;refine wpAny_passesOwn hp<|aV (hb pins s2 σ1 H2 _ I2 q2) λf s3 q3=>?_;cases f with
  |next=>
   obtain⟨σ3,H3,I3,n3⟩:=q3;obtain⟨m',hm,w3⟩:=hN σ3 H3 n3;exact⟨m',hm,σ3,H3,I3,w3⟩
  |cont=>
   obtain⟨σ3,H3,I3,n3⟩:=q3;obtain⟨m',hm,w3⟩:=hN σ3 H3 n3;exact⟨m',hm,σ3,H3,I3,w3⟩
  |brk=>exact q3
  |ret v=>exact q3
 |false=>
  exact wpAny_execs_nil ⟨σ1,H2,I2,q2⟩
end
structure It where
 go:Nat->Hp->Prop
 gK:Nat->Hp->V->Hp->Prop
 stop:Nat->Hp->Prop
def jx(X:Cx)(pins:List (Addr×Obj))(H:Hp)(b:Addr):Prop:=
 H b=none/\b≠X.env.locals/\b∉X.fs/\(b∈X.ex\/X.s₀.heap.objs.size<=b)/\(∀x c,X.env.cells.lookup x=some c->c≠b)/\∀p∈X.pn++pins,p.1≠b
theorem Inv.uw{σ:St}{H H':Hp}{s:Shared}{b:Addr}(I:Inv X pins σ H s)(hb:s.heap.objs.size<=b)(hn:H' b=none):jx X pins H' b:=by
 refine⟨hn,zbg<|zal I.lt hb,I.F4 hb,.inr<|zaw I.sz hb,λx c e z=>?_,λp hp z=>?_⟩
 ·obtain⟨v,q⟩:=I.cell x c e;exact absurd (zal q.lt (by lia))<|zay _
 ·exact absurd (zal (Heap.lt_size (I.pin p hp).1) (by lia)) (zay _)
structure Turn (P:Program) (w:World) (K:Frag) (tg:Expr) (J:It) (fp:List Addr) (it:Addr) (tn:Nat->Heap->Prop):Prop where
 mem:it∈fp
 obj:∀i h,tn i h->∀b∈fp,∃o,h.get? b=some o/\∀v,o.data≠ .cell v
 keep:∀i h h',tn i h->(∀b∈fp,∀o,h.get? b=some o->h'.get? b=some o)->tn i h'
 item:∀(X:Cx),X.prog=P->X.w=w->X.K=K->X.calm=true->∀(i:Nat) (pins:List (Addr×Obj)) (s:Shared) (σ:St) (H:Hp) (E:Value->Shared->Prop),Inv X pins σ H s->(∀b∈fp,jx X pins H b)->tn i s.heap->J.go i H->
  wpAny (model P w) X.A (pyNext (.ref it)) (λr s1=>∃u,r=some u/\
   wpAny (model P w) X.A (letOwnedTupleGo tg (.ref it) u) (λ_ s2=>∃x H',Inv X pins σ H' s2/\RelV x u/\J.gK i H x H'/\tn (i+1) s2.heap/\∀b∈fp,H' b=none) E s1) E s
 done:∀(X:Cx),X.prog=P->X.w=w->X.K=K->X.calm=true->∀(i:Nat) (pins:List (Addr×Obj)) (s:Shared) (σ:St) (H:Hp) (E:Value->Shared->Prop),Inv X pins σ H s->(∀b∈fp,jx X pins H b)->tn i s.heap->J.stop i H->
  wpAny (model P w) X.A (pyNext<|.ref it) (λr s1=>r=none/\Inv X pins σ H s1) E s
 self:∀(A:Around) (i:Nat) (s:Shared) (Q:Value->Shared->Prop) (E:Value->Shared->Prop),tn i s.heap->Q (.ref it) s->wpAny (model P w) A (pyIter<|.ref it) Q E s
abbrev TI:=St->Hp->(It->Hp->Prop)->Prop
def GC(X:Cx)(pins:List (Addr×Obj))(σ:St)(tg:Expr)(R:It->Hp->Prop)(pN:Value)(s2:Shared):Prop:=
 ∃(it:Addr) (fp:List Addr) (tn:Nat->Heap->Prop) (J:It) (H':Hp),pN=.ref it/\Inv X pins σ H' s2/\Turn X.prog X.w X.K tg J fp it tn/\tn 0 s2.heap/\(∀b∈fp,jx X pins H' b)/\R J H'
def PI(X:Cx)(tg iter:Expr)(wi:TI):Prop:=
 ∀(pins:List (Addr×Obj)) (s:Shared) (σ:St) (H:Hp) (R:It->Hp->Prop),Inv X pins σ H s->wi σ H R->
  wpAny (model X.prog X.w) X.A (eval iter X.env) (λv s1=>wpAny (model X.prog X.w) X.A (pyIter v) (GC X pins σ tg R) X.xe s1) X.xe s
theorem AX{E:Value->Shared->Prop}{s:Shared}{tg:Expr}{it:Addr}{u:Value}{o:Obj}{n:String}{vs:Array Value}{Q:Unit->Shared->Prop}(ho:s.heap.get? it=some o)(hc:o.cls=.type n)(hd:o.data=.fields vs)
    (hn:["enumerate","zip","dict_itemiterator","dict_reverseitemiterator","odict_iterator","itertools.zip_longest","itertools.pairwise"].contains n=false) (hQ:Q () s):wpAny M A (letOwnedTupleGo tg (.ref it) u) Q E s:=by
  cases tg<;>first
    |exact wpAny_pure hQ
    | (cases u<;>first
        |exact wpAny_pure hQ
        | (refine wpAny_bind (wpAny_load ho ?_)
           rw[hc,hd];show wpAny M A (if (["enumerate","zip","dict_itemiterator","dict_reverseitemiterator","odict_iterator","itertools.zip_longest","itertools.pairwise"].contains n && vs[0]?==some (rawInt _))=true then _ else _) Q E s
           rw[if_neg (by lia)]
           exact wpAny_pure hQ))
def gb(K:Frag)(a:Addr):It:=
 ⟨λi H=>∃xs x,ar K H a xs/\xs[i]?=some x,λi H x H'=>H'=H/\∀xs,ar K H a xs->xs[i]?=some x,λi H=>∃xs,ar K H a xs/\xs.length<=i⟩
def Sz(K:Frag)(a:Addr):It:=
 ⟨λi H=>∃xs x,aM K H a xs/\xs[i]?=some x,λi H x H'=>H'=H/\∀xs,aM K H a xs->xs[i]?=some x,λi H=>∃xs,aM K H a xs/\xs.length<=i⟩
def lj(lo:Int)(n:Nat):It:=⟨λi _=>i<n,λi H x H'=>H'=H/\x=.int (lo+i),λi _=>n<=i⟩
theorem xC{K:Frag}{tg:Expr}(a it:Addr):Turn P w K tg (gb K a) [it] it (λi h=>h.IsListIter it a i) where
 mem:=by simp
 obj:=λi h st b hb=>by
  have e:=by simpa using hb
  subst e;obtain⟨o,e,c,d⟩:=st;exact⟨o,e,λv z=>by lia⟩
 keep:=λi h h' st k=>st.at λo e=>k it (by simp) o e
 item:=by
  intro X hP hw hK hc i pins s σ H E I hf st hg;subst hP hw hK;obtain⟨xs,x,hq,hx⟩:=hg;obtain⟨its,rv,p,hz⟩:=I.list hq;obtain⟨u,hu,ru⟩:=rv.get hx;obtain⟨f0,f1,f2,f3,f4,f5⟩:=qa6 (hf it (by simp))
  refine wpAny_pyNext_list_item st p.isList (by simpa using hu) λh' gf sb=>?_
  obtain⟨o,e,c,d⟩:=id gf;exact⟨u,rfl,AX e c d (rfl) ⟨x,H,(I.turned (λb o hb e=>(sb.2 b hb).trans e) f0 f1 f3 f4 f5),ru,⟨rfl,λys hy=>by rw[I.uu hy hq];exact hx⟩,gf,λb hb=>(hf b hb).1⟩⟩
 done:=by
  intro X hP hw hK hc i pins s σ H E I hf st hg;subst hP hw hK;obtain⟨xs,hq,hx⟩:=hg;obtain⟨its,rv,p,hz⟩:=I.list hq;obtain⟨f0,f1,f2,f3,f4,f5⟩:=qa6 (hf it (by simp))
  have hl:=rv.length;exact wpAny_pyNext_list_end (I.ok.hd hc) st p.isList (by simp;omega) λh' eb=>⟨rfl,I.turned (λb o hb e=>eb b o hb e) f0 f1 f3 f4 f5⟩
 self:=λ_ _ _ _ _ st h=>wpAny_pyIter_listiter st h
theorem SA{K:Frag}{tg:Expr}(it:Addr)(lo:Int)(n:Nat):Turn P w K tg (lj lo n) [it] it (λi h=>IsRangeIter h it (lo+(i:Nat)*1) ((n:Int) - (i:Nat)) 1) where
 mem:=by simp
 obj:=λi h st b hb=>by
  have e:=by simpa using hb
  subst e;exact⟨_,st,λv z=>by
   cases z⟩
 keep:=λi h h' st k=>k it (by simp) _ st
 item:=by
  intro X hP hw hK hc i pins s σ H E I hf st hg;obtain⟨f0,f1,f2,f3,f4,f5⟩:=qa6 (hf it (by simp))
  refine (Walks.range (I.ok.hd hc) it lo 1 n).item i s _ _ hg st λv h' tk hv gf kk=>?_;obtain⟨t,rfl⟩:=hv;have I1:Inv X pins σ H {s with heap:=h',toks:=tk}:=I.turned (λb o hb e=>kk b o (by simpa using hb) e) f0 f1 f3 f4 f5
  refine⟨_,rfl,AX gf rfl rfl (rfl) ⟨.int<|lo+i,H,I1,⟨t,?_⟩,⟨rfl,rfl⟩,gf,λb hb=>(hf b hb).1⟩⟩
  rw[Int.mul_one]
 done:=by
  intro X hP hw hK hc i pins s σ H E I hf st hg;obtain⟨f0,f1,f2,f3,f4,f5⟩:=hf it (by simp)
  exact wpAny_pyNext_range_end (I.ok.hd hc) st (by have:n<=i:=hg;omega) λh' eb=>⟨rfl,I.turned (λb o hb e=>eb b o hb e) f0 f1 f3 f4 f5⟩
 self:=λ_ _ _ _ _ st h=>wpAny_pyIter_rangeiter st h
section
variable {X:Cx}{tg:Expr}
def ux(K:Frag)(tl:TE):TI:=λσ H R=>tl σ H λx H1=>∃a,x=.ref a/\(∃xs,ar K H1 a xs)/\R (gb K a) H1
def SD(K:Frag)(tl:TE):TI:=λσ H R=>tl σ H λx H1=>∃a,x=.ref a/\(∃xs,aM K H1 a xs)/\R (Sz K a) H1
theorem SE(hl:PE X l tl):PI X tg l (ux X.K tl):=by
 intro pins s σ H R I h;refine aV (hl pins s σ H _ I h) λv s1 ⟨x,H1,I1,r1,q1⟩=>?_;obtain⟨a,e,⟨xs,hq⟩,q⟩:=q1;subst e;cases r1;obtain⟨its,rv,p,hz⟩:=I1.list hq;refine wpAny_pyIter_list p.isList (⟨s1.heap.objs.size,[s1.heap.objs.size],_,_,H1,rfl,I1.kept λb o e=>Heap.get?_push_of_some _ e,xC a _,⟨_,Heap.get?_push_size _ rfl,rfl,rfl⟩,λb hb=>?_,q⟩);have e:=by simpa using hb
 subst e;exact I1.uw (zqR _)<|I1.aK.fresh<|zqR _
theorem SF{σ:St}{H:Hp}{s:Shared}{R:It->Hp->Prop}{E:Value->Shared->Prop}{lo hi:Int}{t u v:Tok}{tk:Nat}(I:Inv X pins σ H s)(h1: -(2 ^ 62)<=lo)(h2:lo<2 ^ 62)(h3: -(2 ^ 62)<=hi)(h4:hi<2 ^ 62)
  (q:R (lj lo (hi - lo).toNat) H):wpAny (model X.prog X.w) X.A (pyIter<|.ref s.heap.objs.size) (GC X pins σ tg R) E {s with heap:=s.heap.push {cls:=.type "range",data:=.fields #[.int lo t,.int hi u,.int 1 v]},toks:=tk}:=by
 refine wpAny_pyIter_range (IsRange.new ..) (small_one h1 h2 h3 h4) ?_;have I1:Inv X pins σ H {s with heap:=s.heap.push {cls:=.type "range",data:=.fields #[.int lo t,.int hi u,.int 1 v]},toks:=tk}:=I.kept λb o e=>Heap.get?_push_of_some _ e
 refine⟨(s.heap.push {cls:=.type "range",data:=.fields #[.int lo t,.int hi u,.int 1 v]}).objs.size,[(s.heap.push {cls:=.type "range",data:=.fields #[.int lo t,.int hi u,.int 1 v]}).objs.size],_,_,H,rfl,
  I1.kept λb o e=>Heap.get?_push_of_some _ e,SA _ lo (hi - lo).toNat,?_,λb hb=>?_,q⟩
 ·have e1:lo+((0:Nat):Int)*1=lo:=by lia
  have e2:(((hi - lo).toNat:Nat):Int) - ((0:Nat):Int)=Builtin.Range.rangeSize lo hi 1:=by rw[rangeSize_one];split<;>omega
  rw[e1,e2];exact Heap.get?_push_size _ rfl
 ·have e:b=(s.heap.push {cls:=.type "range",data:=.fields #[.int lo t,.int hi u,.int 1 v]}).objs.size:=by simpa using hb
  subst e;exact I1.uw (zqR _)<|I1.aK.fresh<|zqR _
def GD(ta:TA):TI:=λσ H R=>ta σ H λvs H1=>∃j:Int,vs=[.int j]/\ -(2 ^ 62)<=j/\j<2 ^ 62/\R (lj 0 j.toNat) H1
def SH(ta:TA):TI:=λσ H R=>ta σ H λvs H1=>∃i j:Int,vs=[.int i,.int j]/\(-(2 ^ 62)<=i/\i<2 ^ 62/\ -(2 ^ 62)<=j/\j<2 ^ 62)/\R (lj i (j - i).toNat) H1
theorem SI{p pos:Pos}(hg:Gl X "range")(hm:X.mg "range"=none)(ha:PA X [a] ta)(hs:starEach [a] X.env=[(false,eval a X.env)]:=by rfl):PI X tg (.Call (.Name "range" p) [a] [] pos) (GD ta):=by
 intro pins s σ H R I h;refine Call_<|rR I hg hm boot_range<|PyProof.Rows.callWith_type1 (aV (ha pos pins s σ H _ I h) λus s1 ⟨vs,H1,I1,r1,q1⟩=>?_) hs rfl;obtain⟨j,e,q1,q2,q⟩:=q1;subst e;cases r1 with
 |cons r rr=>
  cases rr;obtain⟨t,rfl⟩:=r;exact call_range_1<|SF I1 (by lia) (by lia) q1 q2 (by lia)
def xF(wi:TI)(g:TG)(tb:TS):TS:=λD σ H=>wi σ H λJ H1=>∃W:Nat->Nat->St->Hp->Prop,(∃m,W 0 m σ H1)/\∀i m σ H,W i m σ H->
 (J.stop i H/\D.nx σ H)\/(J.go i H/\∃N:St->Hp->Prop,(∀σ' H',N σ' H'->∃m',m'<m/\W (i+1) m' σ' H')/\∀x H',J.gK i H x H'->g x σ H' λσ2 H2=>tb {D with nx:=N,ct:=N,bk:=D.nx} σ2 H2)
def rV(fp:List Addr)(h:Heap):List (Addr×Obj):=fp.filterMap λb=>(h.get? b).map λo=>(b,o)
theorem xG{h:Heap}{b:Addr}{o:Obj}(hb:b∈fp)(e:h.get? b=some o):(b,o)∈rV fp h:=zbL.mpr ⟨b,hb,e▸rfl⟩
theorem SJ{h:Heap}{p:Addr×Obj}(hp:p∈rV fp h):p.1∈fp/\h.get? p.1=some p.2:=by
 obtain⟨b,hb,e⟩:=zbL.mp hp;cases q:h.get? b with
 |none=>rw[q] at e;cases e
 |some o=>
  rw[q] at e;have e':=zap e;subst e';exact⟨hb,q⟩
theorem Inv.pinned{σ:St}{H:Hp}{s:Shared}{fp:List Addr}(I:Inv X pins σ H s)(hf:∀b∈fp,jx X pins H b)(ho:∀b∈fp,∃o,s.heap.get? b=some o/\∀v,o.data≠ .cell v):Inv X (pins++rV fp s.heap) σ H s:=
 I.rP λp hp=>(zae.mp hp).elim (λz=>I.pin p<|zaB _ z) λz=>by
  obtain⟨hb,e⟩:=SJ z;obtain⟨f0,f1,f2,_⟩:=qa4 (hf p.1 hb);obtain⟨o,e',d⟩:=ho p.1 hb;rw[e] at e';cases e';exact⟨e,f0,f1,f2,d⟩
theorem Inv.AY{σ:St}{H:Hp}{s:Shared}(I:Inv X (pins++pl) σ H s):Inv X pins σ H s:=I.rP λp hp=>I.pin p (zaB _<|zaG _ hp)
theorem GF{wi:TI}{g:TG}{tb:TS}{pos:Pos}(hp:PassesOwn (model X.prog X.w) X.A X.env X.xe)(hc:X.calm=true)(hi:PI X tg iter wi)(hg:PG X tg g)(hb:dD X body tb)
  (hs:∀x,foldedSetIterable iter X.env x=pure x:=by intro _;rfl):PS X (.For tg iter body [] pos) (xF wi g tb):=by
 intro pins s σ H D I h;refine wpAny_For (aV (hi pins s σ H _ I h) λv s1 h1=>aV h1 λpN s2 h2=>?_) hs;obtain⟨it,fp,tn,J,H2,e,I2,T,uz,f2,W,⟨m0,w0⟩,turn⟩:=h2;subst e;have pO:∀{H':Hp},(∀b∈fp,H' b=none)->∀b∈fp,jx X pins H' b:=λhn b hb=>⟨hn b hb,(f2 b hb).2⟩;refine codeAny_forLoop_any (λn s'=>∃i σ' H',Inv X pins σ' H' s'/\tn i s'.heap/\(∀b∈fp,H' b=none)/\W i n σ' H') ?_ m0 ⟨0,σ,H2,I2,uz,λb hb=>(f2 b hb).1,w0⟩;rintro n s3 zq;obtain⟨i,σ3,H3,zq⟩:=qx3 zq;obtain⟨I3,GG,GH,w3⟩:=qa4 zq;rcases turn i n σ3 H3 w3 with⟨stop,qn⟩|⟨go,N,hN,step⟩
 ·refine wpAny_passesOwn hp (aV (T.done X rfl rfl rfl hc i pins s3 σ3 H3 X.xe I3 (pO GH) GG stop) λr s4 ⟨hr,I4⟩=>?_);subst hr;exact wpAny_execs_nil ⟨σ3,H3,I4,qn⟩
 ·refine wpAny_passesOwn hp (aV (T.item X rfl rfl rfl hc i pins s3 σ3 H3 X.xe I3 (pO GH) GG go) λr s4 ⟨u,hr,h4⟩=>?_);subst hr;refine wpAny_passesOwn hp<|aV h4 λ_ s5 ⟨x,H5,I5,r5,y5,pP,AZ⟩=>wpAny_passesOwn hp<|aV (hg _ s5 σ3 H5 x u _ (I5.pinned (pO AZ) (T.obj _ _ pP)) r5<|step x H5 y5) λ_ s6 ⟨σ6,H6,I6,q6⟩=>wpAny_passesOwn hp<|aV (hb _ s6 σ6 H6 _ I6 q6) λf s7 q7=>?_;have again:∀{σ7:St}{H7:Hp},Inv X (pins++rV fp s5.heap) σ7 H7 s7->N σ7 H7->∃m,m<n/\∃i σ' H',Inv X pins σ' H' s7/\tn i s7.heap/\(∀b∈fp,H' b=none)/\W i m σ' H':=λ{σ7 H7} I7 n7=>by
   obtain⟨m',hm,w7⟩:=hN σ7 H7 n7;refine⟨m',hm,i+1,σ7,H7,I7.AY,T.keep _ _ _ pP λb hb o e=>(I7.pin (b,o)<|zaB _<|zaB _<|xG hb e).1,λb hb=>?_,w7⟩;obtain⟨o,e,d⟩:=T.obj _ _ pP b hb;exact(I7.pin (b,o)<|zaB _<|zaB _<|xG hb e).2.1
  cases f with
  |next=>obtain⟨σ7,H7,I7,n7⟩:=q7;exact again I7 n7
  |cont=>obtain⟨σ7,H7,I7,n7⟩:=q7;exact again I7 n7
  |brk=>obtain⟨σ7,H7,I7,q7⟩:=q7;exact⟨σ7,H7,I7.AY,q7⟩
  |ret v=>obtain⟨x7,σ7,H7,zq⟩:=qx3 q7;obtain⟨I7,r7,q7⟩:=qa3 zq;exact⟨x7,σ7,H7,I7.AY,r7,q7⟩
end
theorem iR{K:Frag}{a:Addr}{xs:List V}{g:TG}{tb:TS}{D:Ends}{σ:St}{H:Hp}(Pv:Nat->St->Hp->Prop)(h0:Pv 0 σ H)(hl:∀i σ H,i<=xs.length->Pv i σ H->ar K H a xs)
  (hs:∀i x σ H,xs[i]?=some x->Pv i σ H->g x σ H λσ2 H2=>tb {D with nx:=Pv (i+1),ct:=Pv (i+1),bk:=D.nx} σ2 H2) (hd:∀σ H,Pv xs.length σ H->D.nx σ H):
  ∃W:Nat->Nat->St->Hp->Prop,(∃m,W 0 m σ H)/\∀i m σ H,W i m σ H->
   ((gb K a).stop i H/\D.nx σ H)\/((gb K a).go i H/\∃N:St->Hp->Prop,(∀σ' H',N σ' H'->∃m',m'<m/\W (i+1) m' σ' H')/\∀x H',(gb K a).gK i H x H'->g x σ H' λσ2 H2=>tb {D with nx:=N,ct:=N,bk:=D.nx} σ2 H2):=by
 refine⟨λi m σ H=>m=xs.length - i/\i<=xs.length/\Pv i σ H,⟨xs.length,rfl,zqZ _,h0⟩,?_⟩
 rintro i m σ H ⟨rfl,hi,p⟩;have q:=hl i σ H hi p;by_cases aU:i<xs.length
 ·refine .inr ⟨⟨xs,xs[i],q,by simp⟩,Pv<|i+1,λσ' H' p'=>⟨xs.length - (i+1),by lia,rfl,aU,p'⟩,λx H' y=>?_⟩
  obtain⟨e,y⟩:=y;subst e;exact hs i x σ _ (y xs q) p
 ·have e:i=xs.length:=by lia
  subst e;exact .inl ⟨⟨xs,q,zqR _⟩,hd σ H p⟩
theorem A0{lo:Int}{n:Nat}{g:TG}{tb:TS}{D:Ends}{σ:St}{H:Hp}(Pv:Nat->St->Hp->Prop)(h0:Pv 0 σ H)
  (hs:∀i σ H,i<n->Pv i σ H->g (.int<|lo+i) σ H λσ2 H2=>tb {D with nx:=Pv (i+1),ct:=Pv (i+1),bk:=D.nx} σ2 H2) (hd:∀σ H,Pv n σ H->D.nx σ H):
  ∃W:Nat->Nat->St->Hp->Prop,(∃m,W 0 m σ H)/\∀i m σ H,W i m σ H->
   ((lj lo n).stop i H/\D.nx σ H)\/((lj lo n).go i H/\∃N:St->Hp->Prop,(∀σ' H',N σ' H'->∃m',m'<m/\W (i+1) m' σ' H')/\∀x H',(lj lo n).gK i H x H'->g x σ H' λσ2 H2=>tb {D with nx:=N,ct:=N,bk:=D.nx} σ2 H2):=by
 refine⟨λi m σ H=>m=n - i/\i<=n/\Pv i σ H,⟨n,rfl,zqZ _,h0⟩,?_⟩
 rintro i m σ H ⟨rfl,hi,p⟩;by_cases aU:i<n
 ·refine .inr ⟨aU,Pv<|i+1,λσ' H' p'=>⟨n - (i+1),by lia,rfl,aU,p'⟩,λx H' y=>?_⟩
  obtain⟨e,y⟩:=y;subst e y;exact hs i σ _ aU p
 ·have e:i=n:=by lia
  subst e;exact .inl ⟨zqR _,hd σ H p⟩
abbrev R2:=V->V->Hp->VK->Prop
def bG(X:Cx)(f:Value->Value->Sem Value)(r:R2):Prop:=
 ∀(pins:List (Addr×Obj)) (s:Shared) (σ:St) (H:Hp) (x y:V) (v u:Value) (Q:VK),Inv X pins σ H s->RelV x v->RelV y u->r x y H Q->
  wpAny (model X.prog X.w) X.A (f v u) (EP X pins σ Q) X.xe s
def xH(X:Cx)(f:Value->Sem Value)(r:V->Hp->VK->Prop):Prop:=
 ∀(pins:List (Addr×Obj)) (s:Shared) (σ:St) (H:Hp) (x:V) (v:Value) (Q:VK),Inv X pins σ H s->RelV x v->r x H Q->
  wpAny (model X.prog X.w) X.A (f v) (EP X pins σ Q) X.xe s
def cj(X:Cx)(f:Value)(r:List V->Hp->VK->Prop):Prop:=
 ∀(pins:List (Addr×Obj)) (s:Shared) (σ:St) (H:Hp) (xs:List V) (us:List Value) (Q:VK),Inv X pins σ H s->Vals xs us->r xs H Q->
  wpAny (model X.prog X.w) X.A (call f us) (EP X pins σ Q) X.xe s
def SK(X:Cx)(r:V->Hp->(Bool->Hp->Prop)->Prop):Prop:=
 ∀(pins:List (Addr×Obj)) (s:Shared) (σ:St) (H:Hp) (x:V) (v:Value) (Q:Bool->Hp->Prop),Inv X pins σ H s->RelV x v->r x H Q->
  wpAny (model X.prog X.w) X.A (truthy v) (TP X pins σ Q) X.xe s
def fI(r:R2)(ta tb:TE):TE:=λσ H Q=>ta σ H λx H1=>tb σ H1 λy H2=>r x y H2 Q
def GJ(r:V->Hp->VK->Prop)(ta:TE):TE:=λσ H Q=>ta σ H λx H1=>r x H1 Q
def rI(C:Int->Int->Prop)(g:Int->Int->V):R2:=λx y H Q=>∃i j,x=.int i/\y=.int j/\C i j/\Q (g i j) H
def my(g:Int->Int->V):R2:=λx y H Q=>∃i j,x=.int i/\y=.int j/\Q (g i j) H
def rU(g:Int->V):V->Hp->VK->Prop:=λx H Q=>∃i,x=.int i/\Q (g i) H
section
variable {X:Cx}{a b c:Expr}{ta tb tc:TE}{pos:Pos}
theorem A6(ha:PE X a ta)(hb:PE X b tb){pins:List (Addr×Obj)}{s:Shared}{σ:St}{H:Hp}{R:V->V->Hp->Prop}(I:Inv X pins σ H s)
  (h:ta σ H λx H1=>tb σ H1 λy H2=>R x y H2) {Q:Value->Shared->Prop}{f:Value->Value->Sem Value}
  (hf:∀v u s2 x y H2,Inv X pins σ H2 s2->RelV x v->RelV y u->R x y H2->wpAny (model X.prog X.w) X.A (f v u) Q X.xe s2):
  wpAny (model X.prog X.w) X.A (eval a X.env) (λv s₁=>wpAny (model X.prog X.w) X.A (eval b X.env) (λu s₂=>wpAny (model X.prog X.w) X.A (f v u) Q X.xe s₂) X.xe s₁) X.xe s:=by
 exact aV (ha pins s σ H _ I h) λv s1 ⟨x,H1,I1,r1,q1⟩=>aV (hb pins s1 σ H1 _ I1 q1) λu s2 ⟨y,H2,I2,r2,q2⟩=>hf v u s2 x y H2 I2 r1 r2 q2
theorem SM{r:R2}(ho:bG X (binaryOp op) r)(ha:PE X a ta)(hb:PE X b tb):PE X (.BinOp a op b pos) (fI r ta tb):=by
 intro pins s σ H Q I h;exact wpAny_BinOp<|A6 ha hb I h λv u s2 x y H2 I2 rx ry q=>ho pins s2 σ H2 x y v u Q I2 rx ry q
theorem SN{r:V->Hp->VK->Prop}(ho:xH X (unaryOp op) r)(ha:PE X a ta):PE X (.UnaryOp op a pos) (GJ r ta):=by
 intro pins s σ H Q I h;exact UnaryOp_<|aV (ha pins s σ H _ I h) λv s1 ⟨x,H1,I1,r1,q1⟩=>ho pins s1 σ H1 x v Q I1 r1 q1
theorem xI{C:Int->Int->Prop}{g:Int->Int->Int}
  (rule:∀(i j:Int) (t u:Tok) (s:Shared) (Q:Value->Shared->Prop) (E:Value->Shared->Prop),C i j->Q (.int (g i j) s.toks) {s with toks:=s.toks+1}->wpAny (model X.prog X.w) X.A (f (.int i t)<|.int j u) Q E s):
  bG X f (rI C λi j=>.int (g i j)):=by
 intro pins s σ H x y v u Q I rx ry h;obtain⟨i,j,rfl,rfl,hc,q⟩:=h;obtain⟨t,rfl⟩:=rx;obtain⟨t',rfl⟩:=ry;exact rule i j t t' s _ _ hc ⟨.int<|g i j,H,I.tok _,⟨_,rfl⟩,q⟩
theorem GK{g:Int->Int->Int}
  (rule:∀(i j:Int) (t u:Tok) (s:Shared) (Q:Value->Shared->Prop) (E:Value->Shared->Prop),Q (.int (g i j) s.toks) {s with toks:=s.toks+1}->wpAny (model X.prog X.w) X.A (f (.int i t)<|.int j u) Q E s):
  bG X f (my λi j=>.int (g i j)):=by
 intro pins s σ H x y v u Q I rx ry h;obtain⟨i,j,rfl,rfl,q⟩:=h;obtain⟨t,rfl⟩:=rx;obtain⟨t',rfl⟩:=ry;exact rule i j t t' s _ _ ⟨.int<|g i j,H,I.tok _,⟨_,rfl⟩,q⟩
theorem xJ{g:Int->Int->Bool}
  (rule:∀(i j:Int) (t u:Tok) (s:Shared) (Q:Value->Shared->Prop) (E:Value->Shared->Prop),Q (.bool<|g i j) s->wpAny (model X.prog X.w) X.A (f (.int i t)<|.int j u) Q E s):
  bG X f (my λi j=>.bl (g i j)):=by
 intro pins s σ H x y v u Q I rx ry h;obtain⟨i,j,rfl,rfl,q⟩:=h;obtain⟨t,rfl⟩:=rx;obtain⟨t',rfl⟩:=ry;exact rule i j t t' s _ _ ⟨.bl<|g i j,H,I,rfl,q⟩
def A7(i j:Int):Prop:=0<j/\j<1073741824
def GN(i j:Int):Prop:=0<=j/\j<=1000000/\i.natAbs<2 ^ 64
def xM(i j:Int):Prop:=(-(2 ^ 64) <i/\i<2 ^ 64)\/(-(2 ^ 64) <j/\j<2 ^ 64)
theorem xM.ok(h:xM i j):IntMulOk i j:=by
 rcases h with⟨h1,h2⟩|⟨h1,h2⟩
 ·exact .of_left (intBits_le_64 h1 h2)
 ·exact .of_right (intBits_le_64 h1 h2)
theorem SO:bG X (binaryOp .Add) (my λi j=>.int (i+j)):=GK λ_ _ _ _ _ _ _ q=>add_int q
theorem SQ:bG X (binaryOp .Sub) (my λi j=>.int (i - j)):=GK λ_ _ _ _ _ _ _ q=>sub_int q
theorem SR:bG X (binaryOp .Mult) (rI xM λi j=>.int (i*j)):=xI λ_ _ _ _ _ _ _ hc q=>mul_int q hc.ok
theorem SS:bG X (binaryOp .FloorDiv) (rI A7 λi j=>.int (i / j)):=xI λi j _ _ _ _ _ hc q=>by
 have h1:=hc.1;have h2:=hc.2;exact floordiv_int (by lia) (by rw[Int.fdiv_eq_ediv_of_nonneg i (by omega)];exact q)<|.inl<|PyProof.noPylong_small (by omega)
theorem SU:bG X (binaryOp .Mod) (rI (λ_ j=>0<j) λi j=>.int (i % j)):=xI λi j _ _ _ _ _ hc q=>by
 exact mod_int' (by lia) (by rw[Int.fmod_eq_emod_of_nonneg i (by lia)];exact q)
theorem SV:bG X (binaryOp .Pow) (rI GN λi j=>.int (i ^ j.toNat)):=xI λ_ _ _ _ _ _ _ hc q=>pow_int_small hc.1 hc.2.1 hc.2.2 q
theorem SW{g:Int->Int}
  (rule:∀(i:Int) (t:Tok) (s:Shared) (Q:Value->Shared->Prop) (E:Value->Shared->Prop),Q (.int (g i) s.toks) {s with toks:=s.toks+1}->wpAny (model X.prog X.w) X.A (f<|.int i t) Q E s):
  xH X f (rU λi=>.int (g i)):=by
 intro pins s σ H x v Q I rx h;obtain⟨i,rfl,q⟩:=h;obtain⟨t,rfl⟩:=rx;exact rule i t s _ _ ⟨.int<|g i,H,I.tok _,⟨_,rfl⟩,q⟩
theorem SX:xH X (unaryOp .USub) (rU λi=>.int (-i)):=SW λ_ _ _ _ _ q=>neg_int q
end
def lq:V->V->Bool
 |.aB,.aB=>true|.aB,.int _=>true|.int _,.aB=>true|.aB,.bl _=>true|.bl _,.aB=>true|.aB,.str _=>true|.str _,.aB=>true
 |.int _,.int _=>true|.bl _,.bl _=>true|.str _,.str _=>true|.gr _,.gr _=>true
 |.int _,.str _=>true|.str _,.int _=>true|.bl _,.str _=>true|.str _,.bl _=>true
 |_,_=>false
def SY:R2:=λx y H Q=>lq x y=true/\Q (.bl<|decide<|x=y) H
def S5:R2:=λx y H Q=>lq x y=true/\Q (.bl<|!decide (x=y)) H
theorem GO:decide (V.int i=V.int j)=(i==j):=by lia
theorem GP:decide (V.bl i=V.bl j)=(i==j):=by lia
theorem g6:decide (V.str i=V.str j)=(i==j):=by lia
theorem GQ:decide (V.gr i=V.gr j)=(i.toList==j.toList):=by
 rw[zaH];cases i;cases j
 simp
section
variable {X:Cx}{a b c:Expr}{ta tb tc:TE}{pos:Pos}
theorem ck{σ:St}{H:Hp}{s:Shared}{Q:VK}{k k':Bool}(I:Inv X pins σ H s)(q:Q (.bl k) H)(e:k=k'):EP X pins σ Q (.bool k') s:=by
 subst e;exact⟨.bl k,H,I,rfl,q⟩
theorem S6:bG X (compareOp .Eq) SY:=by
 intro pins s σ H x y v u Q I rx ry h;obtain⟨hs,q⟩:=h;cases x with
 |aB=>
  cases rx;cases y with
  |aB=>cases ry;exact PySem.EqNone.eq_none_none (ck I q (rfl))
  |bl j=>cases ry;exact PySem.EqNone.eq_none_bool (ck I q (rfl))
  |int j=>obtain⟨t',rfl⟩:=ry;exact PySem.EqNone.eq_none_int (ck I q (rfl))
  |str j=>obtain⟨t',rfl⟩:=ry;exact PySem.EqNone.eq_none_str (ck I q (rfl))
  |_=>exact absurd (show false=true from hs) zan
 |bl i=>
  cases rx;cases y with
  |aB=>cases ry;exact PySem.EqNone.eq_bool_none (ck I q (rfl))
  |bl j=>cases ry;exact eq_bool (ck I q GP)
  |str j=>obtain⟨t',rfl⟩:=ry;exact PySem.EqMixed.eq_bool_str (ck I q (rfl))
  |_=>exact absurd (show false=true from hs) zan
 |int i=>
  obtain⟨t,rfl⟩:=rx;cases y with
  |aB=>cases ry;exact PySem.EqNone.eq_int_none (ck I q (rfl))
  |int j=>obtain⟨t',rfl⟩:=ry;exact eq_int (ck I q GO)
  |str j=>obtain⟨t',rfl⟩:=ry;exact PySem.EqMixed.eq_int_str (ck I q (rfl))
  |_=>exact absurd (show false=true from hs) zan
 |str i=>
  obtain⟨t,rfl⟩:=rx;cases y with
  |aB=>cases ry;exact PySem.EqNone.eq_str_none (ck I q (rfl))
  |bl j=>cases ry;exact PySem.EqMixed.eq_str_bool (ck I q (rfl))
  |int j=>obtain⟨t',rfl⟩:=ry;exact PySem.EqMixed.eq_str_int (ck I q (rfl))
  |str j=>obtain⟨t',rfl⟩:=ry;exact eq_str (ck I q g6)
  |_=>exact absurd (show false=true from hs) zan
 |gr i=>
  obtain⟨t,rfl⟩:=rx;cases y with
  |gr j=>obtain⟨t',rfl⟩:=ry;exact PySem.W.eq_bytes (ck I q GQ)
  |_=>exact absurd (show false=true from hs) zan
 |_=>cases y<;>exact absurd (show false=true from hs) zan
theorem S7:bG X (compareOp .NotEq) S5:=by
 intro pins s σ H x y v u Q I rx ry h;obtain⟨hs,q⟩:=h;cases x with
 |aB=>
  cases rx;cases y with
  |aB=>cases ry;exact PySem.EqNone.ne_none_none (ck I q (rfl))
  |bl j=>cases ry;exact PySem.EqNone.ne_none_bool (ck I q (rfl))
  |int j=>obtain⟨t',rfl⟩:=ry;exact PySem.EqNone.ne_none_int (ck I q (rfl))
  |str j=>obtain⟨t',rfl⟩:=ry;exact PySem.EqNone.ne_none_str (ck I q (rfl))
  |_=>exact absurd (show false=true from hs) zan
 |bl i=>
  cases rx;cases y with
  |aB=>cases ry;exact PySem.EqNone.ne_bool_none (ck I q (rfl))
  |bl j=>cases ry;exact ne_bool (ck I q<|congrArg not GP)
  |str j=>obtain⟨t',rfl⟩:=ry;exact PySem.EqMixed.ne_bool_str (ck I q (rfl))
  |_=>exact absurd (show false=true from hs) zan
 |int i=>
  obtain⟨t,rfl⟩:=rx;cases y with
  |aB=>cases ry;exact PySem.EqNone.ne_int_none (ck I q (rfl))
  |int j=>obtain⟨t',rfl⟩:=ry;exact ne_int (ck I q<|congrArg not GO)
  |str j=>obtain⟨t',rfl⟩:=ry;exact PySem.EqMixed.ne_int_str (ck I q (rfl))
  |_=>exact absurd (show false=true from hs) zan
 |str i=>
  obtain⟨t,rfl⟩:=rx;cases y with
  |aB=>cases ry;exact PySem.EqNone.ne_str_none (ck I q (rfl))
  |bl j=>cases ry;exact PySem.EqMixed.ne_str_bool (ck I q (rfl))
  |int j=>obtain⟨t',rfl⟩:=ry;exact PySem.EqMixed.ne_str_int (ck I q (rfl))
  |str j=>obtain⟨t',rfl⟩:=ry;exact ne_str (ck I q<|congrArg not g6)
  |_=>exact absurd (show false=true from hs) zan
 |gr i=>
  obtain⟨t,rfl⟩:=rx;cases y with
  |gr j=>obtain⟨t',rfl⟩:=ry;exact PySem.W.ne_bytes (ck I q<|congrArg not GQ)
  |_=>exact absurd (show false=true from hs) zan
 |_=>cases y<;>exact absurd (show false=true from hs) zan
theorem S8:bG X (compareOp .Lt) (my λi j=>.bl (decide<|i<j)):=xJ λ_ _ _ _ _ _ _ q=>lt_int q
theorem S9:bG X (compareOp .LtE) (my λi j=>.bl (decide<|i<=j)):=xJ λ_ _ _ _ _ _ _ q=>le_int q
theorem S_:bG X (compareOp .Gt) (my λi j=>.bl (decide<|j<i)):=xJ λ_ _ _ _ _ _ _ q=>gt_int q
theorem Ta:bG X (compareOp .GtE) (my λi j=>.bl (decide<|j<=i)):=xJ λ_ _ _ _ _ _ _ q=>ge_int q
theorem Tb:bG X (compareOp .In) (λx y H Q=>∃i j,x=.str i/\y=.str j/\Q (.bl<|!(Builtin.Str.occurrences j i 0 j.length 1).isEmpty) H):=by
 intro pins s σ H x y v u Q I rx ry h;obtain⟨i,j,rfl,rfl,q⟩:=h;obtain⟨t,rfl⟩:=rx;obtain⟨t',rfl⟩:=ry;exact in_str<|ck I q rfl
theorem Tc:bG X (compareOp .Is) (λx y H Q=>y=.aB/\Q (.bl<|decide<|x=.aB) H):=by
 intro pins s σ H x y v u Q I rx ry h;obtain⟨rfl,q⟩:=h;cases ry;refine is_none_gen<|ck I q ?_;cases x<;>first
  | (cases rx;rfl)
  | (obtain⟨t,rfl⟩:=rx;rfl)
theorem Td:bG X (compareOp .IsNot) (λx y H Q=>y=.aB/\Q (.bl<|!decide (x=.aB)) H):=by
 intro pins s σ H x y v u Q I rx ry h;obtain⟨rfl,q⟩:=h;cases ry;refine isnot_none_gen<|ck I q ?_;cases x<;>first
  | (cases rx;rfl)
  | (obtain⟨t,rfl⟩:=rx;rfl)
theorem Te:bG X (compareOp .NotIn) (λx y H Q=>∃i j,x=.str i/\y=.str j/\Q (.bl<|!(!(Builtin.Str.occurrences j i 0 j.length 1).isEmpty)) H):=by
 intro pins s σ H x y v u Q I rx ry h;obtain⟨i,j,rfl,rfl,q⟩:=h;obtain⟨t,rfl⟩:=rx;obtain⟨t',rfl⟩:=ry;exact notIn_str<|ck I q rfl
theorem bG.or{r r':R2}(h:bG X f r)(h':bG X f r'):bG X f (λx y H Q=>r x y H Q\/r' x y H Q):=by
 intro pins s σ H x y v u Q I rx ry q;rcases q with q|q
 ·exact h pins s σ H x y v u Q I rx ry q
 ·exact h' pins s σ H x y v u Q I rx ry q
theorem Tf{r:R2}(ho:bG X (compareOp op) r)(ha:PE X a ta)(hb:PE X b tb)(hm:behindInMarks op b=false):PE X (.Compare a [op] [b] pos) (fI r ta tb):=by
 intro pins s σ H Q I h;exact wpAny_Compare1 (A6 ha hb I h λv u s2 x y H2 I2 rx ry q=>ho pins s2 σ H2 x y v u Q I2 rx ry q) hm
def nS(t:TE):TT:=λσ H Q=>t σ H λx H'=>∃k,x=.bl k/\Q k H'
theorem Tg(ho:bG X (compareOp op) r)(ha:PE X a ta)(hb:PE X b tb)(hm:behindInMarks op b=false):PT X (.Compare a [op] [b] pos) (nS<|fI r ta tb):=by
 intro pins s σ H Q I h;refine wpAny_isTrue_Compare1 (aV (ha pins s σ H _ I h) λv s1 ⟨x,H1,I1,r1,q1⟩=>aV (hb pins s1 σ H1 _ I1 q1) λu s2 ⟨y,H2,I2,r2,q2⟩=>
  aV (ho pins s2 σ H2 x y v u _ I2 r1 r2 q2) λc s3 ⟨z,H3,I3,r3,k,e,q3⟩=>?_) hm
 subst e;cases r3;exact wpAny_truthy_bool ⟨H3,I3,q3⟩
def rW(r r':R2)(ta tb tc:TE):TE:=λσ H Q=>ta σ H λx H1=>tb σ H1 λy H2=>r x y H2 λz H3=>∃k,z=.bl k/\
 (if k=true then tc σ H3 λw' H4=>r' y w' H4 Q else Q (.bl false) H3)
theorem Th{r r':R2}(ho:bG X (compareOp op) r)(eN:bG X (compareOp cJ) r')(ha:PE X a ta)(hb:PE X b tb)(hc:PE X c tc)
  (hm:lastMarks [op,cJ] [b,c]=false:=by with_unfolding_all rfl):PE X (.Compare a [op,cJ] [b,c] pos) (rW r r' ta tb tc):=by
 intro pins s σ H Q I h;refine Compare_chain (aV (ha pins s σ H _ I h) λv s1 ⟨x,H1,I1,r1,q1⟩=>chain_link (aV (hb pins s1 σ H1 _ I1 q1) λu s2 ⟨y,H2,I2,r2,q2⟩=>
  aV (ho pins s2 σ H2 x y v u _ I2 r1 r2 q2) λd s3 ⟨z,H3,I3,r3,k,e,q3⟩=>?_)) hm
 subst e;cases r3;refine wpAny_truthy_bool ?_;cases k with
 |false=>exact ite_ff ⟨.bl false,H3,I3,rfl,q3⟩
 |true=>exact ite_tt (chain_last<|aV (hc pins s3 σ H3 _ I3 q3) λw' s4 ⟨z',H4,I4,r4,q4⟩=>eN pins s4 σ H4 y z' u w' Q I4 r2 r4 q4)
theorem Ti{r r':R2}(ho:bG X (compareOp op) r)(eN:bG X (compareOp cJ) r')(ha:PE X a ta)(hb:PE X b tb)(hc:PE X c tc)
  (hm:lastMarks [op,cJ] [b,c]=false:=by with_unfolding_all rfl):PT X (.Compare a [op,cJ] [b,c] pos) (nS<|rW r r' ta tb tc):=by
 intro pins s σ H Q I h;refine isTrue_chain (aV (ha pins s σ H _ I h) λv s1 ⟨x,H1,I1,r1,q1⟩=>test_link (aV (hb pins s1 σ H1 _ I1 q1) λu s2 ⟨y,H2,I2,r2,q2⟩=>
  aV (ho pins s2 σ H2 x y v u _ I2 r1 r2 q2) λd s3 ⟨z,H3,I3,r3,k,e,q3⟩=>?_)) hm
 subst e;cases r3;refine wpAny_truthy_bool ?_;cases k with
 |false=>
  obtain⟨k',e',q'⟩:=q3;cases e';exact ite_ff ⟨H3,I3,q'⟩
 |true=>
  refine ite_tt<|test_last<|aV (hc pins s3 σ H3 _ I3 q3) λw' s4 ⟨z',H4,I4,r4,q4⟩=>aV (eN pins s4 σ H4 y z' u w' _ I4 r2 r4 q4) λd' s5 ⟨z2,H5,I5,r5,k2,e2,q5⟩=>?_;subst e2;cases r5;exact wpAny_truthy_bool ⟨H5,I5,q5⟩
def GR(K:Frag)(x:V)(H:Hp)(k:Bool):Prop:=
 match x with
 |.aB=>k=false
 |.bl b=>k=b
 |.int i=>k=(i !=0)
 |.str y=>y.length<=sizeLine/\k=((y.length:Int) !=0)
 |.gr y=>y.size<=sizeLine/\k=((y.size:Int) !=0)
 |.ref p=>(∃xs,ar K H p xs/\k= !xs.isEmpty)\/(∃xs,aM K H p xs/\k= !xs.isEmpty)\/∃aS,H p=some (.dK aS)/\k= !aS.isEmpty
 |_=>False
theorem Tj{aS:List (κ×V)}{vs:List (κ×Value)}(r:KV aS vs):(!vs.isEmpty)= !aS.isEmpty:=by
 cases r<;>rfl
theorem GS{its:List Value}(r:Vals xs its):(!its.toArray.isEmpty)= !xs.isEmpty:=by
 cases r<;>simp
theorem pQ:(sizeLine:Nat) <2 ^ 63:=by decide
theorem GU:SK X (λx H Q=>∃k,GR X.K x H k/\Q k H):=by
 intro pins s σ H x v Q I rx h;obtain⟨k,e,q⟩:=h;have hl:=pQ;have hs:=sizeLine_eq;cases x with
 |aB=>
  cases rx;have e':k=false:=e;subst e';exact truthy_none ⟨H,I,q⟩
 |bl b=>
  cases rx;have e':k=b:=e;subst e';exact wpAny_truthy_bool ⟨H,I,q⟩
 |int i=>
  obtain⟨t,rfl⟩:=rx;have e':k=(i !=0):=e;subst e';exact PySem.P.truthy_int ⟨H,I,q⟩
 |str y=>
  obtain⟨t,rfl⟩:=rx;obtain⟨hy,e'⟩:y.length<=sizeLine/\k=((y.length:Int) !=0):=e;subst e';exact PySem.P.truthy_str (by omega) ⟨H,I.tok _,q⟩
 |gr y=>
  obtain⟨t,rfl⟩:=rx;obtain⟨hy,e'⟩:y.size<=sizeLine/\k=((y.size:Int) !=0):=e;subst e';exact PySem.W.truthy_bytes (by omega) ⟨H,I.tok _,q⟩
 |ref p=>
  cases rx;have e':=e;rcases e' with⟨xs,hx,e'⟩|⟨xs,hx,e'⟩|⟨aS,hx,e'⟩
  ·subst e';obtain⟨its,r,pl,hz⟩:=I.list hx;have hlen:=r.length;exact wpAny_truthy_list pl.isList (by simp only[zag];omega) ⟨H,I.tok _,by rw[GS r];exact q⟩
  ·subst e';obtain⟨its,r,pl,hz⟩:=I.tuple hx;have hlen:=r.length;exact truthy_tuple pl (by simp only[zag];omega) ⟨H,I.tok _,by rw[GS r];exact q⟩
  ·subst e';obtain⟨hz,hS,vs,r,m⟩:aS.length<=sizeLine/\(p==sysModules)=false/\∃vs,KV aS vs/\s.heap.DictOf (kY X.prog X.w) p vs:=I.aK p _ hx;have hlen:=Paired.length r;exact wpAny_truthy_dict hS m (by omega) ⟨H,I.tok _,by rw[Tj r];exact q⟩
 |_=>exact(show False from e).elim
theorem Tn:bG X (binaryOp .Add) (λx y H Q=>∃i j,x=.str i/\y=.str j/\i.length+j.length<=sizeLine/\Q (.str<|i++j) H):=by
 intro pins s σ H x y v u Q I rx ry h;obtain⟨i,j,rfl,rfl,hz,q⟩:=h;obtain⟨t,rfl⟩:=rx;obtain⟨t',rfl⟩:=ry;exact add_str (λt' tk=>⟨.str<|i++j,H,I.tok _,⟨_,rfl⟩,q⟩) hz
theorem vals1{us:List Value}(r:Vals [x] us):∃u,us=[u]/\RelV x u:=by
 cases r with
 |cons r1 r2=>cases r2;exact⟨_,rfl,r1⟩
theorem vals2{us:List Value}(r:Vals [x,y] us):∃u w',us=[u,w']/\RelV x u/\RelV y w':=by
 cases r with
 |cons r1 r2=>
  cases r2 with
  |cons r3 r4=>cases r4;exact⟨_,_,rfl,r1,r3⟩
theorem To(hc:X.calm=true):cj X (.builtin "max") (λxs H Q=>∃i j,xs=[.int i,.int j]/\Q (.int (if j>i then j else i)) H):=by
 intro pins s σ H xs us Q I r h;obtain⟨i,j,rfl,q⟩:=h;obtain⟨u,w',rfl,⟨t,rfl⟩,⟨t',rfl⟩⟩:=vals2 r;refine max_two_ints (I.ok.hd hc) λh' tk k=>⟨_,H,I.kept k,?_,q⟩;by_cases hj:j>i
 ·rw[if_pos hj,if_pos hj];exact⟨_,rfl⟩
 ·rw[if_neg hj,if_neg hj];exact⟨_,rfl⟩
theorem Tp(hc:X.calm=true):cj X (.builtin "min") (λxs H Q=>∃i j,xs=[.int i,.int j]/\Q (.int (if j<i then j else i)) H):=by
 intro pins s σ H xs us Q I r h;obtain⟨i,j,rfl,q⟩:=h;obtain⟨u,w',rfl,⟨t,rfl⟩,⟨t',rfl⟩⟩:=vals2 r;refine min_two_ints (I.ok.hd hc) λh' tk k=>⟨_,H,I.kept k,?_,q⟩;by_cases hj:j<i
 ·rw[if_pos hj,if_pos hj];exact⟨_,rfl⟩
 ·rw[if_neg hj,if_neg hj];exact⟨_,rfl⟩
theorem Tq:cj X (.type "int") (λxs H Q=>(∃i,xs=[.int i]/\Q (.int i) H)\/∃k,xs=[.bl k]/\Q (.int (if k then 1 else 0)) H):=by
 intro pins s σ H xs us Q I r h;rcases h with⟨i,rfl,q⟩|⟨k,rfl,q⟩
 ·obtain⟨u,rfl,t,rfl⟩:=vals1 r;exact call_int_int ⟨.int i,H,I,⟨_,rfl⟩,q⟩
 ·obtain⟨u,rfl,r1⟩:=vals1 r;cases r1;exact call_int_bool ⟨.int (if k then 1 else 0),H,I.tok _,⟨_,rfl⟩,q⟩
def GV(K:Frag)(x:V)(H:Hp)(n:Nat):Prop:=
 match x with
 |.str y=>y.length<=sizeLine/\n=y.length
 |.gr y=>y.size<=sizeLine/\n=y.size
 |.ref p=>(∃xs,ar K H p xs/\n=xs.length)\/∃xs,aM K H p xs/\n=xs.length
 |_=>False
theorem Tt:cj X (.builtin "len") (λxs H Q=>∃x n,xs=[x]/\GV X.K x H n/\Q (.int n) H):=by
 intro pins s σ H xs us Q I r h;obtain⟨x,n,rfl,e,q⟩:=h;obtain⟨u,rfl,rx⟩:=vals1 r;have hs:=sizeLine_eq;cases x with
 |str y=>
  obtain⟨t,rfl⟩:=rx;obtain⟨hy,e'⟩:y.length<=sizeLine/\n=y.length:=e;subst e';exact len_str (by lia) ⟨.int _,H,I.tok _,⟨_,rfl⟩,q⟩
 |gr y=>
  obtain⟨t,rfl⟩:=rx;obtain⟨hy,e'⟩:y.size<=sizeLine/\n=y.size:=e;subst e';exact PySem.W.len_bytes (by lia) ⟨.int _,H,I.tok _,⟨_,rfl⟩,q⟩
 |ref p=>
  cases rx;have e':=e;rcases e' with⟨xs,hx,e'⟩|⟨xs,hx,e'⟩
  ·subst e';obtain⟨its,r',pl,hz⟩:=I.list hx;have hlen:=r'.length;exact Calls.call_len_list pl.isList (by simp;omega) ⟨.int xs.length,H,I.tok _,⟨_,by simp only[zag];rw[hlen]⟩,q⟩
  ·subst e';obtain⟨its,r',pl,hz⟩:=I.tuple hx;have hlen:=r'.length;exact len_tuple pl (by simp;omega) ⟨.int xs.length,H,I.tok _,⟨_,by simp only[zag];rw[hlen]⟩,q⟩
 |_=>exact(show False from e).elim
end
structure pR (h:Heap) (x dx C:Addr) (mA:Str->Option Value):Prop where
 obj:h.get? x=some (instObj C dx)
 ns:h.Ns1 dx mA
 ne:dx≠x
theorem Tu{h:Heap}{dx:Addr}{mA:Str->Option Value}(n:h.Ns1 dx mA):∃od,h.get? dx=some od/\∀name,lookIn name od=some (mA name):=by
 obtain⟨o,es,ep,ho,hd,hk,_,hm⟩:=n;refine⟨o,ho,λname=>?_⟩;have e:=hm name;unfold nsFind findBy at e;rw[<-Array.find?_toList] at e;unfold lookIn;rw[hd]
 dsimp only
 split
 ·rename_i y q
  rw[q] at e;exact congrArg some e
 ·rename_i q
  rw[q] at e;have a:es.toList.any (·.refKey)=false:=by
   rw[List.any_eq_false];intro y hy;obtain⟨z,t,Tv⟩:=hk y (Array.mem_toList_iff.mp hy)
   simp[DictEntry.refKey,Tv]
  have a':¬es.toList.any (·.refKey)=true:=by lia
  rw[if_neg a'];exact congrArg some e
theorem pR.look{x dx C:Addr}{mA:Str->Option Value}(I:pR h x dx C mA):∃od,InstAt h x (instObj C dx) C (some od)/\∀name,lookIn name od=some (mA name):=
 let ⟨od,ho,hl⟩:=Tu I.ns
 ⟨od,⟨I.obj,rfl,rfl,ho⟩,hl⟩
section
variable {prog:Program}{w:World}{A:Around}{E:Value->Shared->Prop}{s:Shared}{K:Frag}{x dx C f:Addr}{mA:Str->Option Value}{name:Str}{v:Value}
theorem get_map{Q:Value->Shared->Prop}(X:K.In s.heap)(I:pR s.heap x dx C mA)(hg:plainGet K C name=true)(hh:hasDictIn K C=true)
  (ha:PySem.W.findIn K (.ref C) name=some none) (hv:mA name=some v) (Tw:handedIn v=true) (h:Q v {s with toks:=s.toks+1}):
  wpAny (model prog w) A (getAttr (.ref x) name expr) Q E s:=by
 obtain⟨od,J,hl⟩:=I.look;exact PySem.W.get_value X J (plainGet_of hg).1 (PySem.W.findObj_own hh ha rfl (by rw[hl,hv])) Tw h
theorem Tx{Q:Value×List Value->Shared->Prop}(X:K.In s.heap)(I:pR s.heap x dx C mA)(hg:plainGet K C name=true)
  (hf:PySem.W.findIn K (.ref C) name=some (some<|.ref f)) (ht:PySem.W.isFn K (.ref f)=true) (hv:mA name=none) (h:Q (.ref f,[.ref x]) s):
  wpAny (model prog w) A (getMethod (.ref x) name pl) Q E s:=by
 obtain⟨od,J,hl⟩:=I.look;exact PySem.W.method_fn X J (plainGet_of hg).1 (plainGet_of hg).2 hf (beq_iff_eq.mp ht) (by show(lookIn name od).map (·.isSome)=some false;rw[hl,hv];rfl) h
theorem Tz(X:K.In s.heap)(I:pR s.heap x dx C mA)
  (hs:PySem.W.findIn K (.ref C) "__setattr__"=some (some<|.builtin "object.__setattr__")) (hp:plainOver K C=true) (ht:takerIn K C name=some none) (hh:hasDictIn K C=true)
  (hw:PySem.Within mA ns) (iS:ns.length<=sizeLine)
  (h:∀h',pR h' x dx C (λy=>if y=name then some v else mA y)->Heap.SameBut dx s.heap h'->Q () {s with heap:=h',toks:=s.toks+2}):
  wpAny (model prog w) A (setAttr (.ref x) name v) Q E s:=by
 obtain⟨od,J,hl⟩:=I.look;refine PySem.W.set_plain X J hs<|PySem.W.osa_open X J hp ht λb=>?_
 obtain⟨cd,hc,nR⟩:=PySem.W.any_some hh;refine wpAny_bind<|wpAny_pure<|wpAny_bind<|wpAny_bind<|wpAny_loadPart I.obj<|wpAny_bind<|PySem.W.Looks.here (PySem.W.looks_clsIn X hc) ?_
 rw[nR];refine wpAny_pure<|wpAny_bind<|wpAny_pure<|wpAny_bind (wpAny_nsSet1 I.ns λh' nU GW=>?_)
 obtain⟨oD,esD,epD,zq⟩:=qx3 (nU.count (PySem.Within.cons name v hw));obtain⟨TC,A_,mz⟩:=qa3 zq;refine wpAny_bind<|wpAny_lookBehind TC (A_▸pastItsLine_dict (zaw mz (by rw[zau];omega))) ?_
 exact wpAny_pure<|h _ ⟨(GW.2 _<|Ne.symm I.ne).trans I.obj,nU,I.ne⟩ GW
theorem TF{vs:List Value}{kw:List (Str×Value)}(X:K.In s.heap)(hm:makesIn K C=true)
  (hi:PySem.W.findIn K (.ref C) "__init__"=some (some<|.ref f)) (hf:PySem.W.typeIn K (.ref f)=some (.type "function"))
  (h:codeAny (model prog w) (A.under (.builtin "type.__call__" ⟨.ref C::vs,kw⟩)) (.call (.ref f) ⟨.ref (s.heap.objs.size+1)::vs,kw⟩) (PySem.W.InitBack (s.heap.objs.size+1) R)
   {s with heap:=(s.heap.push emptyDict).push (instObj C s.heap.objs.size)}):
  codeAny (model prog w) A (.call (.ref C) ⟨vs,kw⟩) R s:=by
 obtain⟨hh,g,d,t,os⟩:=s;exact PySem.W.make_core (PySem.W.makes_of X hm) (PySem.W.looks_findIn X hi) (λself=>PySem.W.bind_fn X self hf) (.inl rfl) h
end
def cE(f:Str)(v:V):List (Str×V)->List (Str×V)
 |[]=>[(f,v)]
 |(g,x)::r=>if g=f then (g,v)::r else (g,x)::cE f v r
theorem GX(f g:Str)(v:V):∀fs:List (Str×V),(cE f v fs).lookup g=if g=f then some v else fs.lookup g
 |[]=>by
  show List.lookup g [(f,v)]=_;by_cases h:g=f
  ·have hb:=beq_iff_eq.mpr h
   simp only[List.lookup,hb,if_pos h]
  ·have hb:=beq_eq_false_iff_ne.mpr h
   simp only[List.lookup,hb,if_neg h]
 |(k,x)::r=>by
  rw[show cE f v ((k,x)::r)=(if k=f then (k,v)::r else (k,x)::cE f v r) from rfl]
  by_cases hk:k=f
  ·rw[if_pos hk];by_cases h:g=k
   ·have hb:=beq_iff_eq.mpr h
    simp only[List.lookup,hb,if_pos<|h.trans hk]
   ·have hb:=beq_eq_false_iff_ne.mpr h
    simp only[List.lookup,hb,if_neg (λe:g=f=>h (e.trans hk.symm))]
  ·rw[if_neg hk];by_cases h:g=k
   ·have hb:=beq_iff_eq.mpr h
    simp only[List.lookup,hb,if_neg (λe:g=f=>hk (h.symm.trans e))]
   ·have hb:=beq_eq_false_iff_ne.mpr h
    simp only[List.lookup,hb]
    exact (GX f g v r)
theorem Ba(f:Str)(v:V):∀fs:List (Str×V),f∈ (cE f v fs).map (·.1)/\∀g,g∈fs.map (·.1)->g∈ (cE f v fs).map (·.1)
 |[]=>⟨by simp[cE],λg h=>by simp at h⟩
 |(k,x)::r=>by
  obtain⟨i1,i2⟩:=Ba f v r;rw[show cE f v ((k,x)::r)=(if k=f then (k,v)::r else (k,x)::cE f v r) from rfl]
  by_cases hk:k=f
  ·subst hk;exact⟨by simp,λg h=>by simpa using h⟩
  ·rw[if_neg hk];refine⟨?_,λg h=>?_⟩
   ·exact zam _ i1
   ·rcases zaa.mp h with e|e
    ·exact zaa.mpr (.inl e)
    ·exact zam _ (i2 g e)
theorem GY(f:Str)(v:V):∀fs:List (Str×V),(cE f v fs).length<=fs.length+1
 |[]=>by simp[cE]
 |(k,x)::r=>by
  have ih:=GY f v r;rw[show cE f v ((k,x)::r)=(if k=f then (k,v)::r else (k,x)::cE f v r) from rfl]
  by_cases hk:k=f
  ·rw[if_pos hk,zau,zau];omega
  ·rw[if_neg hk,zau,zau];omega
theorem kZ.some_of{o:Option Value}(r:kZ (some v) o):∃u,o=some u/\RelV v u:=by
 cases o with
 |none=>exact(show False from r).elim
 |some u=>exact⟨u,rfl,r⟩
theorem kZ.none_of(r:kZ none o):o=none:=by
 cases o with
 |none=>rfl
 |some u=>exact(show False from r).elim
theorem TH(r:RelV v u):handedIn u=true:=by
 cases v with
 |aB=>cases (show u=Value.none from r);rfl
 |bl b=>cases (show u=Value.bool b from r);rfl
 |int i=>obtain⟨t,e⟩:=(show ∃t,u=Value.int i t from r);cases e;rfl
 |str x=>obtain⟨t,e⟩:=(show ∃t,u=Value.str x t from r);cases e;rfl
 |gr b=>obtain⟨t,e⟩:=(show ∃t,u=Value.bytes b t from r);cases e;rfl
 |jt b=>obtain⟨t,e⟩:=(show ∃t,u=Value.float b t from r);cases e;rfl
 |ref a=>cases (show u=Value.ref a from r);rfl
 |ty n=>cases (show u=Value.type n from r);rfl
section
variable {P:Program}{w:World}{H H':Hp}{h h':Heap}{a C dx:Addr}{fs R3:List (Str×V)}
theorem xO(aK:cw P w H h)(e:H a=some (.ins C dx fs)):∃mA,pR h a dx C mA/\(∀f,kZ (fs.lookup f)<|mA f)/\PySem.Within mA (fs.map (·.1))/\fs.length<=1000/\H dx=some (.own a):=by
 obtain⟨d,z,ne,ob,mA,n,r,q⟩:=(show da P w H h a (.ins C dx fs) from aK a _ e)
 exact⟨mA,⟨ob,n,ne⟩,r,q,z,d⟩
end
structure gu (K:Frag) (C:Addr):Prop where
 pg:plainGet K C Str.empty=true
 hd:hasDictIn K C=true
 po:plainOver K C=true
 sa:PySem.W.findIn K (.ref C) "__setattr__"=some (some<|.builtin "object.__setattr__")
theorem gu.get{K:Frag}{C:Addr}(c:gu K C)(f:Str):plainGet K C f=true:=c.pg
def g7(K:Frag)(C:Addr)(f:Str):Prop:=PySem.W.findIn K (.ref C) f=some none
theorem g7.TJ{K:Frag}{C:Addr}{f:Str}(n:g7 K C f):takerIn K C f=some none:=by
 unfold takerIn;rw[show PySem.W.findIn K (.ref C) f=some none from n]
 rfl
structure Meth (K:Frag) (C:Addr) (m:Str) (f:Addr):Prop where
 at_:PySem.W.findIn K (.ref C) m=some (some<|.ref f)
 fn:PySem.W.isFn K (.ref f)=true
 kp:PySem.W.keepIn K (.ref f)=true
section
variable {X:Cx}{pins:List (Addr×Obj)}{σ:St}{H:Hp}{s:Shared}{a C dx:Addr}{fs:List (Str×V)}{f:Str}{v:V}{A:Around}{E:Value->Shared->Prop}
theorem TK{Q:Value->Shared->Prop}(I:Inv X pins σ H s)(e:H a=some (.ins C dx fs))(c:gu X.K C)(n:g7 X.K C f)(l:fs.lookup f=some v)
  (h:∀u s',Inv X pins σ H s'->RelV v u->Q u s'):wpAny (model X.prog X.w) A (getAttr (.ref a) f b) Q E s:=by
 obtain⟨mA,O,r,_,_,_⟩:=xO I.aK e;obtain⟨u,hu,ru⟩:=kZ.some_of (l▸r f)
 exact get_map I.cT O (c.get f) c.hd n hu (TH ru)<|h u _ (I.tok _) ru
theorem GZ{pl:Sem Bool}{Q:Value×List Value->Shared->Prop}(I:Inv X pins σ H s)(e:H a=some (.ins C dx fs))(c:gu X.K C)(k:Meth X.K C m g)(l:fs.lookup m=none)
  (h:Q (.ref g,[.ref a]) s):wpAny (model X.prog X.w) A (getMethod (.ref a) m pl) Q E s:=by
 obtain⟨mA,O,r,_,_,_⟩:=xO I.aK e
 exact Tx I.cT O (c.get m) k.at_ k.fn (kZ.none_of (l▸r m)) h
theorem TL{Q:Unit->Shared->Prop}(I:Inv X pins σ H s)(e:H a=some (.ins C dx fs))(c:gu X.K C)(n:g7 X.K C f)(hl:fs.length<1000)(ry:RelV y u)
  (h:∀s',Inv X pins σ (upd H a<|.ins C dx<|cE f y fs) s'->Q () s'):wpAny (model X.prog X.w) A (setAttr (.ref a) f u) Q E s:=by
 obtain⟨mA,O,r,wi,_,ho⟩:=xO I.aK e;have hz:(fs.map (·.1)).length<=sizeLine:=by rw[zah,sizeLine_eq];omega
 refine Tz I.cT O c.sa c.po n.TJ c.hd wi hz λh' O' sb=>h _ ?_;have hd:∃o,h'.get? dx=some o:=let ⟨o,_,_,e',_⟩:=O'.ns;⟨o,e'⟩;refine I.write (e▸True.intro) (.inr ho) (λb q hb z=>(sb.2 b hb).trans z) hd (⟨by rw[aI O.ne];exact ho,?_,O.ne,O'.obj,_,O'.ns,λg=>?_,λg hg=>?_⟩)
 ·have:=GY f y fs;omega
 ·show kZ ((cE f y fs).lookup g) (if g=f then some u else mA g)
  rw[GX];by_cases q:g=f
  ·rw[if_pos q,if_pos q];exact ry
  ·rw[if_neg q,if_neg q];exact r g
 ·by_cases q:g=f
  ·rw[q];exact(Ba f y fs).1
  ·refine(Ba f y fs).2 g (wi g λz=>hg ?_);show(if g=f then some u else mA g)=none
   rw[if_neg q];exact z
theorem Inv.made(I:Inv X pins σ H s):Inv X pins σ (upd (upd H s.heap.objs.size<|.own<|s.heap.objs.size+1) (s.heap.objs.size+1)<|.ins C s.heap.objs.size [])
  {s with heap:=(s.heap.push emptyDict).push (instObj C s.heap.objs.size)}:=by
 have e1:(s.heap.push emptyDict).get? s.heap.objs.size=some emptyDict:=Heap.get?_push_size s.heap rfl;have e2:=by
  have:=Heap.get?_push_size (s.heap.push emptyDict) (o:=instObj C s.heap.objs.size) rfl
  rwa [Heap.size_push] at this
 have e3:(s.heap.push emptyDict).Ns s.heap.objs.size (λ_=>none):=⟨emptyDict,#[],_,e1,rfl,(λe he=>absurd he (by simp)),λ_=>rfl⟩
 refine (I.laid (o:=.own (s.heap.objs.size+1)) (t':=s.toks) (λb u q=>Heap.get?_push_of_some _ q) (zqR _) ⟨_,e1⟩).laid (λb u q=>Heap.get?_push_of_some _ q) (Nat.le_of_eq<|Heap.size_push _ _) ?_;have ne:s.heap.objs.size≠s.heap.objs.size+1:=zaf (zbh _);refine⟨by rw[aI ne,aw],zqZ _,ne,e2,λ_=>none,(Heap.Ns1.of_empty e3).at λo q=>Heap.get?_push_of_some _ q,λ_=>True.intro,λy hy=>absurd rfl hy⟩
theorem TM{env:Env}{e:Expr}{f:Str}{pos:Pos}{s:Shared}{Q:Value->Shared->Prop}(hb:attributeBase e f env (eval e env)=eval e env)
  (h:wpAny (model prog w) A (eval e env) (λo s₁=>wpAny (model prog w) A (getAttr o f true) Q E s₁) E s):wpAny (model prog w) A (eval (.Attribute e f pos) env) Q E s:=
 Attribute_any_ h (by rw[arm_eval_Attribute,hb])
end
def xQ(K:Frag)(ta:TE)(f:Str):TE:=λσ H Q=>ta σ H λx H1=>∃a C dx fs v,x=.ref a/\H1 a=some (.ins C dx fs)/\gu K C/\g7 K C f/\fs.lookup f=some v/\Q v H1
def Bb(K:Frag)(ta tv:TE)(f:Str):TS:=λD σ H=>tv σ H λy H1=>ta σ H1 λx H2=>∃a C dx fs,x=.ref a/\H2 a=some (.ins C dx fs)/\gu K C/\g7 K C f/\fs.length<1000/\
 D.nx σ (upd H2 a<|.ins C dx<|cE f y fs)
section
variable {X:Cx}{o e value:Expr}{f:Str}{pos pos' xR:Pos}{ta tv:TE}
theorem TN(he:PE X e ta)(hb:attributeBase e f X.env (eval e X.env)=eval e X.env):PE X (.Attribute e f pos) (xQ X.K ta f):=by
 intro pins s σ H Q I h;refine TM hb<|aV (he pins s σ H _ I h) λu s1 ⟨x,H1,I1,rx,a,C,dx,fs,v,ex,ea,c,n,l,q⟩=>?_;subst ex;obtain rfl:u=Value.ref a:=rx;exact TK I1 ea c n l λu' s2 I2 ru=>⟨v,H1,I2,ru,q⟩
theorem TQ(ha:PE X o ta)(hv:PE X value tv)(hs:swapsWith value (some<|.Attribute o f pos') pos.line X.env=pure false):PS X (.Assign [.Attribute o f pos'] value pos) (Bb X.K ta tv f):=by
 intro pins s σ H D I h;refine plainObj_wpAny_Assign_Attribute (aV (hv pins s σ H _ I h) λu s1 ⟨y,H1,I1,ry,q⟩=>aV (ha pins s1 σ H1 _ I1 q) λov s2 ⟨x,H2,I2,rx,a,C,dx,fs,ex,ea,c,n,l,q2⟩=>?_) hs;subst ex;obtain rfl:ov=Value.ref a:=rx;exact TL I2 ea c n l ry λs3 I3=>⟨σ,_,I3,q2⟩
end
section
variable {X:Cx}{pins:List (Addr×Obj)}{σ:St}{H:Hp}{s:Shared}{A:Around}{E:Value->Shared->Prop}{Q:Value->Shared->Prop}{c:Value}{b:Bool}
inductive jy (K:Frag) (H:Hp):V->Value->Prop where
 |aB:jy K H .aB (.type "NoneType")
 |bl (x:Bool):jy K H (.bl x) (.type "bool")
 |int (i:Int):jy K H (.int i) (.type "int")
 |str (x:Str):jy K H (.str x) (.type "str")
 |jt (x:UInt64):jy K H (.jt x) (.type "float")
 |lst {a:Addr}{xs:List V} (e:H a=some (.lst xs)):jy K H (.ref a) (.type "list")
 |bO {a:Addr}{o:Obj}{xs:List V} (e:H a=some (.bO o<|.lst xs)):jy K H (.ref a) (.type "list")
 |tup {a:Addr}{xs:List V} (e:H a=some (.tup xs)):jy K H (.ref a) (.type "tuple")
 |dK {a:Addr}{aS:List (Key×V)} (e:H a=some (.dK aS)):jy K H (.ref a) (.type "dict")
 |dT {a:Addr}{aS:List (List Key×V)} (e:H a=some (.dT aS)):jy K H (.ref a) (.type "dict")
 |ins {a C dx:Addr}{fs:List (Str×V)} (e:H a=some (.ins C dx fs)) (cl:gu K C) (ha:PySem.W.findIn K (.ref C) "__class__"=some (some<|.builtin "object.__class__"))
   (hn:PySem.W.specialIn K (.builtin "object.__class__") "__get__"=some (some<|.builtin "getset_descriptor.__get__")) (nV:PySem.W.takesIn K (.builtin "object.__class__")=some true)
   (hm:PySem.W.mroIn K C (.type "object")=some true):jy K H (.ref a) (.ref C)
theorem mB(I:Inv X pins σ H s)(rx:RelV x u)(ty:jy X.K H x t)(e:kitOne X.K t c=some b)(h:∀tk,Q (.bool b) {s with toks:=tk}):
  wpAny (model X.prog X.w) A (call (.builtin "isinstance") [u,c]) Q E s:=by
 cases ty with
 |aB=>cases (show u=Value.none from rx);exact kia_one PySem.W.kitx_none I.cT True.intro e (λz=>nomatch z) h
 |bl y=>cases (show u=Value.bool y from rx);exact kia_one PySem.W.kitx_bool I.cT True.intro e (λz=>nomatch z) h
 |int i=>obtain⟨t,q⟩:=(show ∃t,u=Value.int i t from rx);cases q;exact kia_one PySem.W.kitx_int I.cT True.intro e (λz=>nomatch z) h
 |str y=>obtain⟨t,q⟩:=(show ∃t,u=Value.str y t from rx);cases q;exact kia_one PySem.W.kitx_str I.cT True.intro e (λz=>nomatch z) h
 |jt y=>obtain⟨t,q⟩:=(show ∃t,u=Value.float y t from rx);cases q;exact kia_one PySem.W.kitx_float I.cT True.intro e (λz=>nomatch z) h
 | @lst a xs ea=>
  cases (show u=Value.ref a from rx)
  obtain⟨_,_,n,_,h1⟩:=(show da X.prog X.w H s.heap a (.lst xs) from I.aK a _ ea)
  exact kia_one kitx_list I.cT ⟨_,h1,rfl⟩ e (λz=>nomatch z) h
 | @bO a ob xs ea=>
  cases (show u=Value.ref a from rx)
  obtain⟨_,_,_,n,_,h1⟩:=(show da X.prog X.w H s.heap a (.bO ob<|.lst xs) from I.aK a _ ea)
  exact kia_one kitx_list I.cT ⟨_,h1,rfl⟩ e (λz=>nomatch z) h
 | @tup a xs ea=>
  cases (show u=Value.ref a from rx)
  obtain⟨_,_,_,p⟩:=(show da X.prog X.w H s.heap a (.tup xs) from I.aK a _ ea)
  obtain⟨o,h1,h2,_⟩:=p;exact kia_one PySem.W.kitx_tuple I.cT ⟨o,h1,h2⟩ e (λz=>nomatch z) h
 | @dK a aS ea=>
  cases (show u=Value.ref a from rx)
  obtain⟨_,_,vs,_,p⟩:=(show da X.prog X.w H s.heap a (.dK aS) from I.aK a _ ea)
  obtain⟨o,es,ep,h1,h2,_⟩:=p;exact kia_one kitx_dict I.cT ⟨o,h1,h2.1⟩ e (λz=>nomatch z) h
 | @dT a aS ea=>
  cases (show u=Value.ref a from rx)
  obtain⟨_,_,xs,_,o,es,ep,h1,h2,_⟩:=(show da X.prog X.w H s.heap a (.dT aS) from I.aK a _ ea)
  exact kia_one kitx_dict I.cT ⟨o,h1,h2.1⟩ e (λz=>nomatch z) h
 | @ins a C dx fs ea cl ha hn nV hm=>
  cases (show u=Value.ref a from rx)
  obtain⟨mA,O,_⟩:=xO I.aK ea;obtain⟨od,J,_⟩:=O.look;exact kia_one (PySem.W.kitx_own (cl.get _) cl.hd ha hn nV hm) I.cT J e (λz=>nomatch z) h
end
structure dm (k:Nat) (A:Around):Prop where
 hd:A.handled=none
 dp:A.depth+3*k+5<recursionLimit
 un:A.units+16*k+200<cLine
 gd:A.guards=some []:=by rfl
theorem dm.mono{k:Nat}{A:Around}(r:dm k A)(h:j<=k):dm j A:=⟨r.hd,by have:=r.dp;omega,by have:=r.un;omega,r.gd⟩
theorem dm.deeper{A:Around}(r:dm (k+1) A)(env:Env):dm k (A.deeper env):=
 ⟨r.hd,by have:=r.dp;show A.depth+1+3*k+5<_;omega,by have:=r.un;show A.units+3+16*k+200<_;omega,r.gd⟩
theorem TU{A:Around}{C:Addr}{us:List Value}{kw:List (Str×Value)}:(A.under<|.builtin "type.__call__" ⟨.ref C::us,kw⟩).depth=A.depth+1:=rfl
theorem TV{A:Around}{C:Addr}{us:List Value}{kw:List (Str×Value)}:(A.under<|.builtin "type.__call__" ⟨.ref C::us,kw⟩).units=A.units+1:=rfl
theorem dm.make{A:Around}(r:dm (k+1) A)(C:Addr)(us:List Value)(kw:List (Str×Value)):dm k (A.under<|.builtin "type.__call__" ⟨.ref C::us,kw⟩):=
 ⟨r.hd,by have:=r.dp;rw[TU];omega,by have:=r.un;rw[TV];omega,by first|exact r.gd|simp⟩
theorem dm.depth{A:Around}(r:dm k A):A.depth<recursionLimit:=by have:=r.dp;omega
theorem dm.units{A:Around}(r:dm k A):A.units+64<cLine:=by have:=r.un;omega
def gL:TA:=λ_ H Q=>Q [] H
def dq(ta:TE)(tr:TA):TA:=λσ H Q=>ta σ H λx H1=>tr σ H1 λxs H2=>Q (x::xs) H2
section
variable {X:Cx}{e:Expr}{es:List Expr}{te:TE}{t:TA}{pos:Pos}
theorem pS:PA X [] gL:=λ_ _ _ _ H Q I h=>Calls.spliced_nil ⟨[],H,I,.nil,h⟩
theorem lA(ha:PE X e te)(hr:PA X es t)(hs:starEach (e::es) X.env=(false,eval e X.env)::starEach es X.env:=by rfl):PA X (e::es) (dq te t):=by
 intro pos pins s σ H Q I h;rw[hs];exact Calls.spliced_cons<|aV (ha pins s σ H _ I h) λu s1 ⟨x,H1,I1,r1,q1⟩=>aV (hr pos pins s1 σ H1 _ I1 q1) λus s2 ⟨xs,H2,I2,r2,q2⟩=>⟨x::xs,H2,I2,.cons r1 r2,q2⟩
def G0(t:TA):TE:=λσ H Q=>t σ H λxs H1=>xs.length<=sizeLine/\∀p,H1 p=none->Q (.ref p) (upd H1 p<|.tup xs)
def G3(t:TA):TE:=λσ H Q=>t σ H λxs H1=>xs.length<=sizeLine/\∀p,H1 p=none->Q (.ref p) (upd H1 p<|.lst xs)
theorem TX(h:PA X es t):PE X (.Tuple es x1 pos) (G0 t):=by
 intro pins s σ H Q I hq;refine wpAny_Tuple_spliced<|aV (h pos pins s σ H _ I hq) λus s1 ⟨xs,H1,I1,r,z,q⟩=>⟨r.length▸z,⟨.ref s1.heap.objs.size,upd H1 s1.heap.objs.size<|.tup xs,I1.laid (λb u e=>Heap.get?_push_of_some _ e) (zqR _) ?_,rfl,q _ (I1.aK.fresh (zqR _))⟩⟩;exact⟨z,us,r,⟨_,Heap.get?_push_size _ rfl,rfl,_,rfl⟩⟩
theorem TY(h:PA X es t):PE X (.List es pos) (G3 t):=by
 intro pins s σ H Q I hq;refine wpAny_List_spliced<|aV (h pos pins s σ H _ I hq) λus s1 ⟨xs,H1,I1,r,z,q⟩=>⟨r.length▸z,⟨.ref s1.heap.objs.size,upd H1 s1.heap.objs.size<|.lst xs,I1.laid (λb u e=>Heap.get?_push_of_some _ e) (zqR _) ?_,rfl,q _ (I1.aK.fresh (zqR _))⟩⟩;exact⟨z,us,0,r,Heap.get?_push_size _ rfl⟩
end
abbrev Sp:=List V->Hp->VK->XK->Prop
abbrev cb:=List Env->Hp->Shared->XK->Value->Shared->Prop
structure mD (P:Program) (w:World) (K:Frag) (mg:Str->Option Value) (base:Heap) (A:Around) (outer:List Env) (s:Shared) (H:Hp):Prop where
 frames:A.frames=some outer
 mod:Mod K mg base
 bs:∀b o,base.get? b=some o->s.heap.get? b=some o/\H b=none
 nQ:base.objs.size<=s.heap.objs.size
 jw:s.heap.FunFrames base outer
 pK:∀b∈bL outer,H b=none
 aK:cw P w H s.heap
 bare:AllBare s.gens
def CE(outer:List Env)(P:Program)(w:World)(H:Hp)(s:Shared)(Q:VK)(u:Value)(s':Shared):Prop:=
 ∃v H',s'.os=s.os/\AllBare s'.gens/\Un (bL outer) [] H H' s.heap s'.heap/\cw P w H' s'.heap/\RelV v u/\Q v H'
def CR(CX:cb)(outer:List Env)(P:Program)(w:World)(H:Hp)(s:Shared)(Q:VK)(E:XK)(r:Result)(s':Shared):Prop:=
 match r with
 |.ok (.ret u)=>CE outer P w H s Q u s'
 |.ok _=>False
 |.error e=>CX outer H s E e s'
structure cK (P:Program) (w:World) (K:Frag) (mg:Str->Option Value) (base:Heap) (CX:cb) (k:Nat) (f:Addr) (fd:FuncData) (ps:List Str) (sp:Sp):Prop where
 len:∀vs H Q E,sp vs H Q E->vs.length=ps.length
 run:∀(A:Around) (outer:List Env) (s:Shared) (H:Hp) (args:Args) (us:List Value) (vs:List V) (Q:VK) (E:XK),dm k A->mD P w K mg base A outer s H->BindsTo s fd args (ps.zip us)->Vals vs us->sp vs H Q E->
  codeAny (model P w) A (.call (.ref f) args) (CR CX outer P w H s Q E) s
theorem cK.mono{w:World}{K:Frag}{mg:Str->Option Value}{base:Heap}{CX:cb}{j k:Nat}{f:Addr}{fd:FuncData}{ps:List Str}{sp:Sp}(F:cK P w K mg base CX j f fd ps sp)(h:j<=k):
  cK P w K mg base CX k f fd ps sp:=⟨F.len,λA outer s H args us vs Q E hr=>F.run A outer s H args us vs Q E<|hr.mono h⟩
theorem mD.make{K:Frag}{mg:Str->Option Value}{base:Heap}{A:Around}{outer:List Env}{s:Shared}{H:Hp}(e:mD P w K mg base A outer s H)(C:Addr)(us:List Value)(kw:List (Str×Value)):
  mD P w K mg base (A.under<|.builtin "type.__call__" ⟨.ref C::us,kw⟩) outer s H:=⟨by first|exact e.frames| (simpa[Around.under,Code.envs,Code.isFrame,pushEnvs] using e.frames),e.mod,e.bs,e.nQ,e.jw,e.pK,e.aK,e.bare⟩
section
variable {X:Cx}{pins:List (Addr×Obj)}{σ:St}{H:Hp}{s s':Shared}
theorem Inv.Bc(I:Inv X pins σ H s):mD X.prog X.w X.K X.mg X.base X.A X.stack s H:=
 ⟨I.ok.frames,I.ok.mod,I.bs,zaw I.ok.nQ I.sz,I.stack,I.xr,I.aK,I.bare⟩
theorem Inv.after{u:Value}(I:Inv X pins σ H s)(h:CE X.stack X.prog X.w H s Q u s'):EP X pins σ Q u s':=by
 obtain⟨v,H',os,bare,un,aK,r,q⟩:=h;obtain⟨hh,g,d,t,TZ⟩:=s';obtain rfl:TZ=s.os:=os;exact⟨v,H',I.call un aK bare<|λb z=>absurd z (by simp),r,q⟩
end
def Be(sp:Sp)(fJ:List V)(E:XK)(t:TA):TE:=λσ H Q=>t σ H λvs H1=>sp (vs++fJ) H1 Q E
def pT(C:Addr)(m:Str)(sp:Sp)(fJ:List V)(E:XK)(ta:TE)(t:TA):TE:=λσ H Q=>ta σ H λx H1=>∃a dx fs,x=.ref a/\H1 a=some (.ins C dx fs)/\fs.lookup m=none/\
 t σ H1 λvs H2=>sp (x::(vs++fJ)) H2 Q E
def uB(C:Addr)(sp:Sp)(fJ:List V)(E:XK)(t:TA):TE:=λσ H Q=>t σ H λvs H1=>∀x dx,H1 x=none->H1 dx=none->dx≠x->
 sp (.ref x::(vs++fJ)) (upd (upd H1 dx<|.own x) x<|.ins C dx []) (λv H2=>v=.aB/\Q (.ref x) H2) E
def Binds(K:Frag)(fd:FuncData)(ps:List Str)(ds:List Value):Prop:=
 ∀(s:Shared) (us:List Value),K.In s.heap->(us++ds).length=ps.length->BindsTo s fd ⟨us,[]⟩ (ps.zip<|us++ds)
theorem Binds.all{K:Frag}{fd:FuncData}{ps:List Str}(h:∀us:List Value,us.length=ps.length->bindArgs fd ⟨us,[]⟩=pure (ps.zip us)):Binds K fd ps []:=λs us _ hl=>by
 rw[zai] at hl⊢;exact .of_eq<|h us hl
def Passes(CX:cb)(X:Cx)(E:XK):Prop:= ∀(pins:List (Addr×Obj)) (σ:St) (H:Hp) (s:Shared) (e:Value) (s':Shared),Inv X pins σ H s->CX X.stack H s E e s'->X.xe e s'
section
variable {X:Cx}{CX:cb}{k:Nat}{f C:Addr}{fd:FuncData}{ps:List Str}{sp:Sp}{fJ:List V}{ds:List Value}{E:XK}{x m:Str}{p pos apos:Pos}{e o:Expr}{es:List Expr}{ta:TE}{t:TA}
theorem Bf{σ:St}{H:Hp}{s:Shared}{Q:VK}{us:List Value}{vs:List V}(F:cK X.prog X.w X.K X.mg X.base CX k f fd ps sp)(hr:dm k X.A)(hb:Binds X.K fd ps ds)(hd:Vals fJ ds)(hx:Passes CX X E)
  (I:Inv X pins σ H s) (r:Vals vs us) (h:sp (vs++fJ) H Q E):wpAny (model X.prog X.w) X.A (call (.ref f) us) (EP X pins σ Q) X.xe s:=by
 have r2:=r.append hd
 refine wpAny_call<|codeAny_mono (F.run X.A X.stack s H ⟨us,[]⟩ (us++ds) (vs++fJ) Q E hr I.Bc (hb s us I.cT (r2.length▸F.len _ _ _ _ h)) r2 h) λr s' hq=>?_;cases r with
 |error e=>exact hx pins σ H s e s' I hq
 |ok fl=>
  cases fl with
  |ret u=>exact I.after hq
  |next=>exact False.elim hq
  |brk=>exact False.elim hq
  |cont=>exact False.elim hq
theorem T_(F:cK X.prog X.w X.K X.mg X.base CX k f fd ps sp)(hr:dm k X.A)(hg:Gl X x)(hm:X.mg x=some (.ref f))(hk:PySem.W.keepIn X.K (.ref f)=true)(hb:Binds X.K fd ps ds)(hd:Vals fJ ds)(hx:Passes CX X E)
  (ha:PA X (e::es) t) (j6:(x==("__debug__":Str))=false:=by decide) (he:starEach (e::es) X.env=(false,eval e X.env)::starEach es X.env:=by rfl) (j7:(backTo pos<|starEach es X.env).any (·.1)=false:=by rfl):
  PE X (.Call (.Name x p) (e::es) [] pos) (Be sp fJ E t):=by
 intro pins s σ H Q I h;exact wpAny_Call_Name_kw<|rQ I hg hm (callWith_K I.ok.mod.pJ hk (aV (ha pos pins s σ H _ I h) λus s1 ⟨vs,H1,I1,r,q⟩=>⟨I1.cT,Bf F hr hb hd hx I1 r q⟩) he j7) j6
structure Mk (K:Frag) (C f:Addr):Prop where
 makes:makesIn K C=true
 init:PySem.W.findIn K (.ref C) "__init__"=some (some<|.ref f)
 fn:PySem.W.isFn K (.ref f)=true
 kp:PySem.W.keepIn K (.ref C)=true
theorem G6{σ:St}{H:Hp}{s:Shared}{Q:VK}{us:List Value}{vs:List V}(M:Mk X.K C f)(F:cK X.prog X.w X.K X.mg X.base CX k f fd ps sp)(hr:dm (k+1) X.A)(hb:Binds X.K fd ps ds)(hd:Vals fJ ds)
  (hx:Passes CX X E) (I:Inv X pins σ H s) (r:Vals vs us)
  (h:∀x dx,H x=none->H dx=none->dx≠x->sp (.ref x::(vs++fJ)) (upd (upd H dx<|.own x) x<|.ins C dx []) (λv H2=>v=.aB/\Q (.ref x) H2) E):
  wpAny (model X.prog X.w) X.A (call (.ref C) us) (EP X pins σ Q) X.xe s:=by
 have hq:=h (s.heap.objs.size+1) s.heap.objs.size (I.aK.fresh<|zaX _) (I.aK.fresh<|zqR _) (zaf<|zbh _);have I2:=Inv.made (C:=C) I;have r2:Vals (V.ref (s.heap.objs.size+1)::(vs++fJ)) (Value.ref (s.heap.objs.size+1)::(us++ds)):=.cons rfl (r.append hd);have hl:=by
  have e:=r2.length;rw[F.len _ _ _ _ hq] at e;exact e.symm
 refine wpAny_call (TF I.cT M.makes M.init (beq_iff_eq.mp M.fn) (codeAny_mono (F.run _ X.stack _ _ ⟨Value.ref (s.heap.objs.size+1)::us,[]⟩ (Value.ref (s.heap.objs.size+1)::(us++ds)) _ _ E (hr.make C us [])
  (I2.Bc.make C us []) (hb _ (Value.ref (s.heap.objs.size+1)::us) I2.cT hl) r2 hq) λr s' uC=>?_))
 cases r with
 |error e=>exact hx pins σ _ _ e s' I2 uC
 |ok fl=>
  cases fl with
  |ret u=>
   obtain⟨v,H',I3,rv,ev,q3⟩:=I2.after uC;subst ev;exact⟨rv,⟨V.ref<|s.heap.objs.size+1,H',I3,rfl,q3⟩⟩
  |next=>exact False.elim uC
  |brk=>exact False.elim uC
  |cont=>exact False.elim uC
theorem Ua(M:Mk X.K C f)(F:cK X.prog X.w X.K X.mg X.base CX k f fd ps sp)(hr:dm (k+1) X.A)(hg:Gl X x)(hm:X.mg x=some (.ref C))(hb:Binds X.K fd ps ds)(hd:Vals fJ ds)(hx:Passes CX X E)
  (ha:PA X (e::es) t) (j6:(x==("__debug__":Str))=false:=by decide) (he:starEach (e::es) X.env=(false,eval e X.env)::starEach es X.env:=by rfl) (j7:(backTo pos<|starEach es X.env).any (·.1)=false:=by rfl):
  PE X (.Call (.Name x p) (e::es) [] pos) (uB C sp fJ E t):=by
 intro pins s σ H Q I h;exact wpAny_Call_Name_kw<|rQ I hg hm (callWith_K I.ok.mod.pJ M.kp (aV (ha pos pins s σ H _ I h) λus s1 ⟨vs,H1,I1,r,q⟩=>⟨I1.cT,G6 M F hr hb hd hx I1 r q⟩) he j7) j6
theorem Ub(M:Mk X.K C f)(F:cK X.prog X.w X.K X.mg X.base CX k f fd ps sp)(hr:dm (k+1) X.A)(hg:Gl X x)(hm:X.mg x=some (.ref C))(hb:Binds X.K fd ps ds)(hd:Vals fJ ds)(hx:Passes CX X E)
  (j6:(x==("__debug__":Str))=false:=by decide):PE X (.Call (.Name x p) [] [] pos) (uB C sp fJ E gL):=by
 intro pins s σ H Q I h;exact wpAny_Call_Name_kw<|rQ I hg hm (callWith_K0 I.cT M.kp<|G6 M F hr hb hd hx I .nil h) j6
end
structure lB (N P:List Str) (sc:Scope):Prop where
 kind:sc.kind=.function
 co:sc.isCoroutine=false
 gen:sc.isGenerator=false
 nd:N.Nodup
 pre:N.take P.length=P
 par:∀x∈P,sc.names.lookup x=some .local\/sc.names.lookup x=some .cell
 Uc:∀y∈sc.names,y.2≠ .free
theorem G7{kindOf:Str->Option NameKind}{x:Str}:∀{binds:List (Str×Value)}{m:Str->Option Value},(∀v,(x,v)∉binds)->bindL kindOf binds m x=m x
 |[],_,_=>rfl
 |(n,v)::r,m,h=>by
  unfold bindL;rw[G7 λw hw=>h w (zam _ hw)]
  split
  ·have:x≠n:=by rintro rfl;exact h v zat
   simp[this]
  ·rfl
theorem G8{kindOf:Str->Option NameKind}{x:Str}:∀{binds:List (Str×Value)}{m:Str->Option Value},(∀v,(x,v)∉binds)->bindC kindOf binds m x=m x
 |[],_,_=>rfl
 |(n,v)::r,m,h=>by
  unfold bindC;rw[G8 λw hw=>h w (zam _ hw)]
  split
  ·rfl
  ·have:x≠n:=by rintro rfl;exact h v zat
   simp[this]
theorem G9{kindOf:Str->Option NameKind}{x:Str}{v:Value}:∀{P:List Str}{vs:List Value}{i:Nat}{m:Str->Option Value},P.Nodup->P[i]?=some x->vs[i]?=some v->kindOf x=some .local->
  bindL kindOf (P.zip vs) m x=some v
 |[],_,_,_,_,h,_,_=>by simp at h
 |_::_,[],_,_,_,_,h,_=>by simp at h
 |p::P,w::vs,0,m,nd,h1,h2,hk=>by
  simp at h1 h2;subst h1;subst h2
  show bindL kindOf ((p,w)::P.zip vs) m p=_;unfold bindL;rw[G7 λv hv=>(zbi.mp nd).1 (zbu hv).1,if_pos hk]
  simp
 |p::P,w::vs,i+1,m,nd,h1,h2,hk=>by
  unfold bindL;exact G9 (zbi.mp nd).2 (by simpa using h1) (by simpa using h2) hk
theorem G_{kindOf:Str->Option NameKind}{x:Str}{v:Value}:∀{P:List Str}{vs:List Value}{i:Nat}{m:Str->Option Value},P.Nodup->P[i]?=some x->vs[i]?=some v->kindOf x≠some .local->
  bindC kindOf (P.zip vs) m x=some v
 |[],_,_,_,_,h,_,_=>by simp at h
 |_::_,[],_,_,_,_,h,_=>by simp at h
 |p::P,w::vs,0,m,nd,h1,h2,hk=>by
  simp at h1 h2;subst h1;subst h2
  show bindC kindOf ((p,w)::P.zip vs) m p=_;unfold bindC;rw[G8 λv hv=>(zbi.mp nd).1 (zbu hv).1,if_neg hk]
  simp
 |p::P,w::vs,i+1,m,nd,h1,h2,hk=>by
  unfold bindC;exact G_ (zbi.mp nd).2 (by simpa using h1) (by simpa using h2) hk
def start(N:List Str)(vs:List V):St:=vs.map some++List.replicate (N.length - vs.length) none
def mE(CX:cb)(P:Program)(w:World)(K:Frag)(mg:Str->Option Value)(base:Heap)(N:List Str)(qual:Str)(scope:Scope)(f:Addr)(cd:Value)(A:Around)(outer:List Env)(s:Shared)(H:Hp)(E:XK):Cx where
 prog:=P
 w:=w
 K:=K
 mg:=mg
 base:=base
 A:=A.deeper (envOfC qual scope s.heap.objs.size f cd)
 N:=N
 s₀:=s
 H₀:=H
 env:=envOfC qual scope s.heap.objs.size f cd
 outer:=outer
 stack:=envOfC qual scope s.heap.objs.size f cd::outer
 ex:=[]
 calm:=true
 fn:=λ_=>true
 pn:=[]
 xe:=λe s'=>wpAny (model P w) (A.deeper<|envOfC qual scope s.heap.objs.size f cd) (leaving (envOfC qual scope s.heap.objs.size f cd) e) (λ_ g8=>CX outer H s E e g8) (λe' g8=>CX outer H s E e' g8) s'
theorem Ha{sc:Scope}{n:Nat}{x:Str}(h:sc.names.lookup x=some .cell):∃c,(cellsFrom n sc.names []).lookup x=some c:=by
 exact zbv.mp (cellsFrom_some sc.names n [] (.inl h))
theorem Hb{P:Program}{w:World}{K:Frag}{mg:Str->Option Value}{base:Heap}{N ps:List Str}{qual:Str}{scope:Scope}{f:Addr}{cd:Value}{A:Around}{outer:List Env}{s s1:Shared}{H:Hp}{E:XK}{us:List Value}{vs:List V}
  (S:lB N ps scope) (hd:A.handled=none) (e0:mD P w K mg base A outer s H) (hl:vs.length=ps.length) (r:Vals vs us)
  (x:InCallC s s.heap.objs.size (bindL (envOfC qual scope s.heap.objs.size f cd).kindOf (ps.zip us) λ_=>none) (cellsFrom (s.heap.objs.size+1) scope.names []) (bindC (envOfC qual scope s.heap.objs.size f cd).kindOf (ps.zip us) λ_=>none) s1):
  Inv (mE CX P w K mg base N qual scope f cd A outer s H E) [] (start N vs) H s1:=by
 have j7:=by have:=congrArg List.length S.pre;rw[zaq] at this;omega
 obtain⟨h1,tk,rfl,hk⟩:=x.done;have uD:∀b:Addr,b∉ (mE CX P w K mg base N qual scope f cd A outer s H E).ex:=λb z=>absurd (show b∈ ([]:List Addr) from z) (by simp)
 refine⟨⟨e0.mod,S.kind,rfl,rfl,zqR _,λy z c h1 h2=>?_,λy hy=>?_,λy c _ h=>?_,λ_=>hd,Around.frames_deeper e0.frames,.inr ⟨rfl,rfl⟩,λb z=>absurd z (uD b),e0.bs,e0.nQ,λb _ _=>uD b,λb z=>absurd z (uD b),e0.jw,e0.pK⟩,
  rfl,e0.bare,Un.kept hk,⟨_,x.toInCall.ns,λi y v h1 h2 h3=>?_⟩,λy c h=>⟨_,x.cell y c h⟩,e0.aK.fresh (zqR _),λy c h=>?_,λp hp=>absurd (show p∈ ([]:List (Addr×Obj)) from hp) (by simp),e0.aK.kept hk,?_⟩
 ·exact name_of_addr x.apart (PySem.mem_of_lookup h1) (PySem.mem_of_lookup h2)
 ·rcases hy with hy|hy
  ·exact Ha hy
  ·exact absurd rfl (S.Uc _<|PySem.mem_of_lookup hy)
 ·exact Nat.le_of_lt (x.above y c<|PySem.mem_of_lookup h)
 ·have hi:i<vs.length:=by
   unfold start at h2;by_cases hi:i<vs.length
   ·exact hi
   ·rw[zbj (by simpa using hi)] at h2
    rw[List.getElem?_replicate] at h2
    split at h2<;>cases h2
  have ha:vs[i]?=some v:=by
   unfold start at h2;rw[zbw (by simpa using hi),zaz] at h2
   cases e:vs[i]? with
   |none=>rw[e] at h2;cases h2
   |some a=>rw[e] at h2;cases h2;rfl
  obtain⟨u,hu,rv⟩:=r.get ha;have hp:ps[i]?=some y:=by
   rw[<-S.pre,List.getElem?_take_of_lt (by lia)];exact h1
  have Hc:=S.pre▸S.nd.sublist (List.take_sublist _ _)
  refine⟨u,rv,?_⟩;rcases S.par y (zaj hp) with k|k
  ·exact .inl ⟨k,G9 Hc hp hu k⟩
  ·obtain⟨c,e⟩:=Ha k;refine .inr ⟨.inl k,c,e,?_⟩;have q:=x.cell y c e;rw[G_ Hc hp hu (by show scope.names.lookup y≠_;rw[k];decide)] at q
   exact q
 ·exact e0.aK.fresh (Nat.le_of_lt<|x.above y c<|PySem.mem_of_lookup h)
 ·unfold start;show _=N.length;rw[zqA,zah,List.length_replicate];omega
theorem He{w:World}{K:Frag}{mg:Str->Option Value}{base:Heap}{k:Nat}{f:Addr}{name qual:Str}{params:Arguments}{body:List Stmt}{scope:Scope}{dV kV doc pm bx ct oc:Value}{an od:Option Addr}
  {gw:Array (Option Value)}{N ps:List Str}{sp:Sp} (lk:K.lookup f=some ⟨oc,od,.func<|PySem.W.fnOf name qual params body scope dV kV doc pm an bx ct,gw⟩) (gJ:PySem.W.codeIn K bx qual=true) (S:lB N ps scope)
  (len:∀vs H Q E,sp vs H Q E->vs.length=ps.length)
  (Bg:∀(A:Around) (outer:List Env) (s:Shared) (H:Hp) (vs:List V) (Q:VK) (E:XK),dm k (A.deeper (envOfC qual scope s.heap.objs.size f bx))->sp vs H Q E->
   ∃t,dD (mE CX P w K mg base N qual scope f bx A outer s H E) body t/\t {nx:=λ_ H'=>Q .aB H',rt:=Q} (start N vs) H):
  cK P w K mg base CX (k+1) f (PySem.W.fnOf name qual params body scope dV kV doc pm an bx ct) ps sp:=by
 refine⟨len,λA outer s H args us vs Q E hr e0 hb r iU=>?_⟩;have KX:=e0.mod.pJ.keeps λb o e=>(e0.bs b o e).1;have Bh:∀y∈ps.zip us,scope.names.lookup y.1=some .local\/(scope.names.lookup y.1=some .cell/\((cellsFrom (s.heap.objs.size+1) scope.names []).lookup y.1).isSome=true):=λ⟨n,v⟩ hy=>by
  rcases S.par n (zbu hy).1 with q|q
  ·exact .inl q
  ·exact .inr ⟨q,cellsFrom_some _ _ _<|.inl q⟩
 refine codeAny_call_function hr.depth (KX _ _ lk) rfl S.co S.gen rfl (codeRec_of KX gJ)<|hb _ _ _ _ (wpAny_newFunctionEnv_cells S.kind Bh λenv he s1 x=>?_);subst he;refine⟨(e0.mod.nolimit.keeps λb o e=>(e0.bs b o e).1).keeps x.toInCall.keep,codeAny_func ?_⟩;obtain⟨t,ht,hq⟩:=Bg A outer s H vs Q E (hr.deeper _) iU;have I:Inv (mE CX P w K mg base N qual scope f bx A outer s H E) [] (start N vs) H s1:=Hb S hr.hd e0 (len _ _ _ _ iU) r x;refine wpAny_mono (ht [] s1 (start N vs) H _ I hq) (λfl s' hs=>?_) λe s' hs=>hs;have fin:∀{σ':St}{H':Hp}{v:V}{u:Value},Inv (mE CX P w K mg base N qual scope f bx A outer s H E) [] σ' H' s'->RelV v u->Q v H'->CE outer P w H s Q u s':=
  λ{σ' H' v u} J rv q=>⟨v,H',J.os,J.bare,J.base,J.aK,rv,q⟩
 cases fl with
 |ret u=>
  obtain⟨v,σ',H',J,rv,q⟩:=hs;exact fin J rv q
 |next=>
  obtain⟨σ',H',J,q⟩:=hs;exact fin (v:=V.aB) J rfl q
 |brk=>
  obtain⟨_,_,_,q⟩:=hs;exact False.elim q
 |cont=>
  obtain⟨_,_,_,q⟩:=hs;exact False.elim q
section
variable {X:Cx}{x:Str}{p pos:Pos}{e:Expr}{es:List Expr}{t:TA}{id T:String}{r:List V->Hp->VK->Prop}
def eT(r:List V->Hp->VK->Prop)(t:TA):TE:=λσ H Q=>t σ H λvs H1=>r vs H1 Q
theorem nW(hc:cj X (.builtin id) r)(hg:Gl X x)(hm:X.mg x=none)(hv:bootBuiltins x=some (.builtin id))(ha:PA X (e::es) t)(hn:x≠"__name__":=by decide)(j6:(x==("__debug__":Str))=false:=by decide)
  (he:starEach (e::es) X.env=(false,eval e X.env)::starEach es X.env:=by rfl) (j7:(backTo pos<|starEach es X.env).any (·.1)=false:=by rfl):PE X (.Call (.Name x p) (e::es) [] pos) (eT r t):=by
 intro pins s σ H Q I h;exact wpAny_Call_Name_kw<|rR I hg hm hv (PyProof.Rows.callWith_builtin1 (aV (ha pos pins s σ H _ I h) λus s1 ⟨vs,H1,I1,r1,q1⟩=>hc pins s1 σ H1 vs us Q I1 r1 q1) he j7) hn j6
theorem Ud(hc:cj X (.type T) r)(hg:Gl X x)(hm:X.mg x=none)(hv:bootBuiltins x=some (.type T))(ha:PA X (e::es) t)(hn:x≠"__name__":=by decide)(j6:(x==("__debug__":Str))=false:=by decide)
  (he:starEach (e::es) X.env=(false,eval e X.env)::starEach es X.env:=by rfl) (j7:(backTo pos<|starEach es X.env).any (·.1)=false:=by rfl):PE X (.Call (.Name x p) (e::es) [] pos) (eT r t):=by
 intro pins s σ H Q I h;exact wpAny_Call_Name_kw<|rR I hg hm hv (PyProof.Rows.callWith_type1 (aV (ha pos pins s σ H _ I h) λus s1 ⟨vs,H1,I1,r1,q1⟩=>hc pins s1 σ H1 vs us Q I1 r1 q1) he j7) hn j6
end
end L2
namespace HT
open PySem PyProof.Rows
section
variable {prog:Program}{w:World}{A:Around}{E:Value->Shared->Prop}{s:Shared}
theorem Ue{Q:Value->Shared->Prop}(ht:IsTup s.heap t vs.toArray)(hb:IsTup s.heap b ws.toArray)(hv:vs≠ [])
  (h1:ws=[]->Q (.ref t) s) (h2:ws≠ []->Q (.ref s.heap.objs.size) {s with heap:=s.heap.push {cls:=.type "tuple",data:=.seq (vs++ws).toArray}})
  (iS:vs.length+ws.length<=sizeLine):wpAny (model prog w) A (binaryOp .Add (.ref t)<|.ref b) Q E s:=by
 obtain⟨⟨cls,dd,data,sl⟩,ho,hc,n,hd⟩:=id ht;obtain⟨⟨ajP,Hf,data2,uE⟩,iV,nX,n2,hd2⟩:=id hb
 subst hc hd nX hd2;have e:vs.toArray++ws.toArray=(vs++ws).toArray:=by simp
 by_cases hw:ws=[]
 ·exact concat_meets ⟨_,ho,rfl⟩ ⟨_,iV,rfl⟩ noFill_tuple_add seq_tuple_add PySem.F.slot_tuple_add PySem.F.entry_tuple_add (PySem.F.args_tuple_add_2 _ _)
   (tuple_addW1 t b vs.toArray ws.toArray n n2 dd Hf sl uE (by simpa using hv) (by simp[hw])) ⟨ho,iV,h1 hw⟩
 ·refine concat_meets ⟨_,ho,rfl⟩ ⟨_,iV,rfl⟩ noFill_tuple_add seq_tuple_add PySem.F.slot_tuple_add PySem.F.entry_tuple_add (PySem.F.args_tuple_add_2 _ _)
   (tuple_addW2 t b vs.toArray ws.toArray n n2 dd Hf sl uE (by simpa using hv) (by simpa using hw) (by exact iS)) ⟨ho,iV,?_⟩
  rw[e];exact h2 hw
def br(n d:Nat):Option Int->Nat
 |none=>d
 |some v=>if v<0 then (v+(n:Int)).toNat else min v.toNat n
theorem Bi(n d:Nat):br n d none=d:=rfl
theorem pU(n d k:Nat):br n d (some (k:Int))=min k n:=rfl
theorem Bj(n d:Nat)(hd:d<=n)(o:Option Int):br n d o<=n:=by
 cases o with
 |none=>exact hd
 |some v=>
  show(if v<0 then (v+(n:Int)).toNat else min v.toNat n)<=n
  by_cases hv:v<0
  ·rw[if_pos hv];omega
  ·rw[if_neg hv];exact Nat.min_le_right _ _
theorem Hg(v:Int)(n d:Nat):(if v<0 then max (v+(n:Int)) 0 else min v (n:Int))=((br n d (some v):Nat):Int):=by
 show(if v<0 then max (v+(n:Int)) 0 else min v (n:Int))=(((if v<0 then (v+(n:Int)).toNat else min v.toNat n):Nat):Int)
 by_cases hv:v<0
 ·simp only[if_pos hv];omega
 ·simp only[if_neg hv];omega
theorem Ug(lo hi:Option Int)(n:Nat):Builtin.Slice.sliceAdjust lo hi 1 (n:Int)=(((br n 0 lo:Nat):Int),((br n n hi:Nat):Int)):=by
 refine Prod.ext ?_ ?_
 ·cases lo with
  |none=>rfl
  |some v=>exact Hg v n 0
 ·cases hi with
  |none=>rfl
  |some v=>exact Hg v n n
theorem Uh(i j:Nat):Builtin.Slice.slicePlaces (i:Int) (j:Int) 1=j - i:=by
 unfold Builtin.Slice.slicePlaces
 split<;>omega
theorem Hh{o:Option Int}{Q:Option Int->Shared->Prop}(p:IsPart v o)(h:Q o s):wpAny (model prog w) A (Builtin.Slice.slicePartIndex v) Q E s:=by
 cases p with
 |none=>exact slicePart_none h
 |int i t=>exact slicePart_int h
theorem Ui{lo hi:Option Int}{n:Nat}{Q:Int×Int×Nat->Shared->Prop}(hs:s.heap.IsSliceOf sl vl vu .none)(pl:IsPart vl lo)(pu:IsPart vu hi)
  (h:Q (((br n 0 lo:Nat):Int),1,br n n hi - br n 0 lo) s):wpAny (model prog w) A (Builtin.Slice.sliceApplied (.ref sl)<|pure (n:Int)) Q E s:=by
 obtain⟨os,uF,cU,nY⟩:=id hs;refine wpAny_bind<|wpAny_bind<|wpAny_field uF nY rfl<|wpAny_bind<|wpAny_field uF nY rfl<|wpAny_bind<|wpAny_field uF nY rfl<|wpAny_pure (wpAny_bind<|slicePart_none (wpAny_bind<|Hh pl<|wpAny_bind<|Hh pu<|wpAny_bind<|wpAny_pure ?_));show wpAny _ _ (match Builtin.Slice.sliceAdjust lo hi 1 (n:Int) with|(lo,hi)=>pure (lo,(1:Int),Builtin.Slice.slicePlaces lo hi 1)) _ _ s
 rw[Ug lo hi n];show wpAny _ _ (pure (((br n 0 lo:Nat):Int),(1:Int),Builtin.Slice.slicePlaces ((br n 0 lo:Nat):Int) ((br n n hi:Nat):Int) 1)) _ _ s;rw[Uh];exact wpAny_pure h
theorem Uj(xs:Array Value)(i k:Nat):((List.range k).filterMap fun(m:Nat)=>xs[((i:Int)+(m:Int)*1).toNat]?).toArray=((xs.toList.drop i).take k).toArray:=by
 have e:(fun(m:Nat)=>xs[((i:Int)+(m:Int)*1).toNat]?)=λm=>xs[i+m]?:=by
  funext m
  have:((i:Int)+(m:Int)*1).toNat=i+m:=by lia
  rw[this]
 rw[e];have:=pick_run xs i k;rw[List.filterMap_map] at this;have e2:((λx=>xs[x]?)∘λx=>i+x)=λm=>xs[i+m]?:=rfl;rw[e2] at this;rw[this]
theorem Uk{items:Array Value}{vl vu:Value}{lo hi:Option Int}{Q:Value->Shared->Prop}(ht:IsTup s.heap t items)(hs:s.heap.IsSliceOf sl vl vu .none)(pl:IsPart vl lo)(pu:IsPart vu hi)
  (hw:¬(br items.size 0 lo=0/\br items.size items.size hi=items.size))
  (h:Q (.ref s.heap.objs.size) {s with heap:=s.heap.push {cls:=.type "tuple",data:=.seq ((items.toList.drop<|br items.size 0 lo).take<|br items.size items.size hi - br items.size 0 lo).toArray}})
  (iS:items.size<=sizeLine):wpAny (model prog w) A (getItem (.ref t)<|.ref sl) Q E s:=by
 have xS:=by
  show((items.toList.drop<|br items.size 0 lo).take<|br items.size items.size hi - br items.size 0 lo).toArray.size<=sizeLine;rw[zag,zaq,zao,zbf];omega
 obtain⟨os,uF,cU,nY⟩:=id hs;have Ul:s.TypeIs (.ref sl) "slice":=⟨os,uF,cU⟩;unfold getItem
 try with_reducible refine wpAny_holding ?_
 refine wpAny_bind<|wpAny_sequenceKey ht.typeIs (rfl) ?_
 refine wpAny_bind (wpAny_callSpecial?_slot ht.typeIs PyProof.Rows.slot_tuple_getitem
  (wpAny_call_entry PyProof.Rows.slot_tuple_getitem ht.typeIs entry_tuple_getitem ?_ (args_tuple_getitem _ _)))
 show wpAny _ _ (Builtin.Tuple.tupleItemsOf (.ref t) >>=_) _ _ s;refine wpAny_bind<|tupleItemsOf_ ht (wpAny_bind<|wpAny_typeOf Ul (wpAny_bind<|Ui hs pl pu ?_));have Bk:¬((((br items.size 0 lo:Nat):Int)==0 && (1:Int)==1 && (br items.size items.size hi - br items.size 0 lo)==items.size)=true):=by
  intro q;exact hw ⟨by lia,by lia⟩
 show wpAny _ _ (if (((br items.size 0 lo:Nat):Int)==0 && (1:Int)==1 && (br items.size items.size hi - br items.size 0 lo)==items.size)=true then _ else _) _ _ s
 rw[if_neg Bk,Uj]
 first
  |exact wpAny_bind (wpAny_newObj_type (wpAny_pure ⟨_,rfl,wpAny_pure h⟩) xS)
  |exact wpAny_bind (wpAny_newObj_type (wpAny_bind<|wpAny_pure<|wpAny_pure ⟨_,rfl,wpAny_pure h⟩) xS)
  |exact wpAny_bind (wpAny_bind<|wpAny_newObj_type (wpAny_pure<|wpAny_pure ⟨_,rfl,wpAny_pure h⟩) xS)
  |exact wpAny_bind (wpAny_bind<|wpAny_newObj_type (wpAny_pure ⟨_,rfl,wpAny_pure h⟩) xS)
end
end HT
namespace L2
open PySem PySem.Spec PyProof.Rows
abbrev TO:=St->Hp->(Option Int->Hp->Prop)->Prop
def PO(X:Cx)(e:Option Expr)(t:TO):Prop:=
 ∀(pins:List (Addr×Obj)) (s:Shared) (σ:St) (H:Hp) (Q:Option Int->Hp->Prop),Inv X pins σ H s->t σ H Q->
  wpAny (model X.prog X.w) X.A (evalPart e X.env) (λu s'=>∃o H',Inv X pins σ H' s'/\IsPart u o/\Q o H') X.xe s
def Hi:TO:=λ_ H Q=>Q none H
def xU(t:TE):TO:=λσ H Q=>t σ H λx H1=>∃i,x=.int i/\Q (some i) H1
theorem intsAre_of:∀{us:List Value},Vals (ns.map V.int) us->IntsAre us ns:=by
 induction ns with
 |nil=>intro us r;cases r;exact .nil
 |cons n ns ih=>
  intro us r;cases r with
  |cons r1 r2=>
   obtain⟨t,e⟩:=r1;subst e;exact .cons n t<|ih r2
section
variable {X:Cx}{e:Expr}{te:TE}{lo hi:Option Expr}{tl th:TO}{pos p2:Pos}
theorem Um:PO X none Hi:=by
 intro pins s σ H Q I h;exact wpAny_pure ⟨none,H,I,.none,h⟩
theorem Uo(h:PE X e te):PO X (some e) (xU te):=by
 intro pins s σ H Q I hw;refine aV (h pins s σ H _ I hw) λu s1 ⟨x,H1,I1,r1,q1⟩=>?_;obtain⟨i,rfl,q⟩:=q1;obtain⟨t,rfl⟩:=r1;exact⟨some i,H1,I1,.int i t,q⟩
def xV(X:Cx)(r:V->Option Int->Option Int->Hp->VK->Prop):Prop:=
 ∀(pins:List (Addr×Obj)) (s:Shared) (σ:St) (H:Hp) (x:V) (v vl vu:Value) (lo hi:Option Int) (sl:Addr) (Q:VK),Inv X pins σ H s->RelV x v->s.heap.IsSliceOf sl vl vu .none->IsPart vl lo->IsPart vu hi->r x lo hi H Q->
  ∃T id,typeLookup (.type T) "__getitem__"=pure (some<|.builtin id)/\s.TypeIs v T/\wpAny (model X.prog X.w) X.A (getItem v<|.ref sl) (EP X pins σ Q) X.xe s
def Bl(r:V->Option Int->Option Int->Hp->VK->Prop)(te:TE)(tl th:TO):TE:=λσ H Q=>te σ H λx H1=>tl σ H1 λl H2=>th σ H2 λu H3=>r x l u H3 Q
theorem Uq(hr:xV X r)(he:PE X e te)(hl:PO X lo tl)(hu:PO X hi th):PE X (.Subscript e (.Slice lo hi none p2) pos) (Bl r te tl th):=by
 intro pins s σ H Q I h;refine Subscript_<|aV (he pins s σ H _ I h) λv s1 ⟨x,H1,I1,r1,q1⟩=>wpAny_Slice<|aV (hl pins s1 σ H1 _ I1 q1) λvl s2 ⟨l,H2,I2,pl,q2⟩=>aV (hu pins s2 σ H2 _ I2 q2) λvu s3 ⟨u,H3,I3,pu,q3⟩=>wpAny_pure ?_;have I4:Inv X pins σ H3 {s3 with heap:=s3.heap.push {cls:=.type "slice",data:=.fields #[vl,vu,.none]}}:=I3.kept λb ob q=>Heap.get?_push_of_some _ q
 obtain⟨T,id,hT,ht,hg⟩:=hr pins {s3 with heap:=s3.heap.push {cls:=.type "slice",data:=.fields #[vl,vu,.none]}} σ H3 x v vl vu l u s3.heap.objs.size Q I4 r1 (Heap.IsSliceOf.new ..) pl pu q3
 exact tail_any ht hT hg (rfl)
def fK(xs:List V)(lo hi:Option Int):List V:=(xs.drop<|HT.br xs.length 0 lo).take (HT.br xs.length xs.length hi - HT.br xs.length 0 lo)
theorem Hj(xs:List V)(lo hi:Option Int):(fK xs lo hi).length<=xs.length:=by
 unfold fK;rw[zaq,zao];omega
def Ur(K:Frag):V->Option Int->Option Int->Hp->VK->Prop:=λx lo hi H Q=>∃a xs,x=.ref a/\aM K H a xs/\
 ¬(HT.br xs.length 0 lo=0/\HT.br xs.length xs.length hi=xs.length)/\∀p,H p=none->Q (.ref p) (upd H p<|.tup<|fK xs lo hi)
theorem Us:xV X (Ur X.K):=by
 intro pins s σ H x v vl vu lo hi sl Q I rx hs pl pu h;obtain⟨a,xs,rfl,hx,hw,q⟩:=h;cases rx;obtain⟨its,r,ht,hz⟩:=I.tuple hx;have hlen:=zag▸r.length.symm
 refine⟨"tuple",_,PyProof.Rows.slot_tuple_getitem.lookup,ht.typeIs,HT.Uk ht hs pl pu (by lia) ?_ (by lia)⟩
 rw[hlen];refine⟨.ref s.heap.objs.size,_,I.laid (λb ob q=>Heap.get?_push_of_some _ q) (zqR _) ?_,rfl,q _<|I.aK.fresh<|zqR _⟩;exact⟨zaw (Hj xs lo hi) hz,_,(r.drop<|HT.br xs.length 0 lo).take<|HT.br xs.length xs.length hi - HT.br xs.length 0 lo,IsTup.new _ _⟩
def Hk(K:Frag):R2:=λx y H Q=>∃a b xs ys,x=.ref a/\y=.ref b/\aM K H a xs/\aM K H b ys/\xs≠ []/\xs.length+ys.length<=sizeLine/\
 (ys=[]->Q (.ref a) H)/\(ys≠ []->∀p,H p=none->Q (.ref p) (upd H p<|.tup<|xs++ys))
theorem Vals.Bm{us:List Value}(r:Vals xs us):us=[]↔xs=[]:=by
 cases r with
 |nil=>simp
 |cons _ _=>simp
theorem Ut:bG X (binaryOp .Add) (Hk X.K):=by
 intro pins s σ H x y v u Q I rx ry h;obtain⟨a,b,xs,ys,zq⟩:=qx4 h;obtain⟨rfl,rfl,ha,hb,hx,hz,q1,q2⟩:=qa8 zq;cases rx;cases ry;obtain⟨its,r1,p1,_⟩:=I.tuple ha;obtain⟨gM,r2,p2,_⟩:=I.tuple hb;refine HT.Ue p1 p2 (λz=>hx<|r1.Bm.mp z) (λz=>⟨.ref a,H,I,rfl,q1<|r2.Bm.mp z⟩) (λz=>?_) (by rw[<-r1.length,<-r2.length];exact hz)
 refine⟨.ref s.heap.objs.size,_,I.laid (λb ob q=>Heap.get?_push_of_some _ q) (zqR _) ?_,rfl,q2 (λw=>z<|r2.Bm.mpr w) _<|I.aK.fresh<|zqR _⟩;exact⟨zqA▸hz,_,r1.append r2,IsTup.new _ _⟩
end
def gN(n:Nat)(i:Int):Option Nat:=if 0<=i then (if i<n then some i.toNat else none) else if -(n:Int)<=i then some (i+n).toNat else none
def dE{α:Type}(xs:List α)(i:Int):Option α:=(gN xs.length i).bind λj=>xs[j]?
theorem Hl{j:Nat}(h:gN n i=some j):seqIndex? i n=some j/\j<n/\ -(n:Int)<=i/\i<n:=by
 unfold gN at h;by_cases h0:0<=i
 ·rw[if_pos h0] at h;by_cases h1:i<n
  ·rw[if_pos h1] at h;exact⟨by rw[seqIndex_of h0 h1,(zap h)],by lia,by lia,h1⟩
  ·rw[if_neg h1] at h;cases h
 ·rw[if_neg h0] at h;by_cases h1: -(n:Int)<=i
  ·rw[if_pos h1] at h;exact⟨by rw[seqIndex_neg (by lia) h1,(zap h)],by lia,h1,by lia⟩
  ·rw[if_neg h1] at h;cases h
theorem Bn{i:Int}{v:α}(h:dE xs i=some v):∃j,seqIndex? i xs.length=some j/\xs[j]?=some v/\j<xs.length/\ -(xs.length:Int)<=i/\i<xs.length:=by
 unfold dE at h;cases e:gN xs.length i with
 |none=>rw[e] at h;cases h
 |some j=>
  rw[e] at h;obtain⟨h1,h2,h3,h4⟩:=Hl e;exact⟨j,h1,h,h2,h3,h4⟩
theorem jz{xs:List α}{j:Nat}{v:α}(h:xs[j]?=some v):dE xs (j:Int)=some v:=by
 have hj:=(zak.mp h).1;have e:gN xs.length (j:Int)=some j:=by
  unfold gN;rw[if_pos (by lia),if_pos (by lia)];simp
 unfold dE;rw[e];exact h
theorem Hn(xs:List α)(v:α):dE (xs++[v]) (-1)=some v:=by
 have hl:(xs++[v]).length=xs.length+1:=by simp
 have e:gN (xs++[v]).length (-1)=some xs.length:=by
  unfold gN;rw[if_neg (by lia),if_pos (by lia)]
  congr 1
  omega
 unfold dE;rw[e]
 simp
def Ho(b:Expr):Prop:= ∀o i,subscripted b false o i=operate [o,i] (getItem o i)
def lE(X:Cx)(r:R2):Prop:=
 ∀(value slice:Expr) (pins:List (Addr×Obj)) (s:Shared) (σ:St) (H:Hp) (x y:V) (v u:Value) (Q:VK),Inv X pins σ H s->RelV x v->RelV y u->r x y H Q->
  subscripted slice false v u=operate [v,u] (getItem v u)->wpAny (model X.prog X.w) X.A (subscriptTail value slice v u) (EP X pins σ Q) X.xe s
def rX(X:Cx)(id:String)(r:V->List V->Hp->VK->Prop):Prop:=
 ∀(pins:List (Addr×Obj)) (s:Shared) (σ:St) (H:Hp) (x:V) (xs:List V) (v:Value) (us:List Value) (Q:VK),Inv X pins σ H s->RelV x v->Vals xs us->r x xs H Q->
  wpAny (model X.prog X.w) X.A (call (.builtin id) (v::us)) (EP X pins σ Q) X.xe s
section
variable {X:Cx}{a b:Expr}{ta tb:TE}{pos:Pos}
theorem lE.or(h:lE X r)(h':lE X r'):lE X (λx y H Q=>r x y H Q\/r' x y H Q):=by
 intro value slice pins s σ H x y v u Q I rx ry q hs;rcases q with q|q
 ·exact h value slice pins s σ H x y v u Q I rx ry q hs
 ·exact h' value slice pins s σ H x y v u Q I rx ry q hs
theorem Uu(hr:lE X r)(ha:PE X a ta)(hb:PE X b tb)(hs:Ho b):PE X (.Subscript a b pos) (fI r ta tb):=by
 intro pins s σ H Q I h;exact Subscript_<|A6 ha hb I h λv u s2 x y H2 I2 rx ry q=>hr a b pins s2 σ H2 x y v u Q I2 rx ry q (hs _ _)
def Hq(K:Frag):R2:=λx y H Q=>∃p xs i v,x=.ref p/\y=.int i/\ar K H p xs/\dE xs i=some v/\Q v H
def Hr(K:Frag):R2:=λx y H Q=>∃p xs i v,x=.ref p/\y=.int i/\aM K H p xs/\dE xs i=some v/\Q v H
def Hs:R2:=λx y H Q=>∃z i c,x=.str z/\y=.int i/\z.length<=sizeLine/\dE z.cps.toList i=some c/\Q (.str ⟨#[c]⟩) H
theorem Uv:lE X (Hq X.K):=by
 intro value slice pins s σ H x y v u Q I rx ry h hs;obtain⟨p,xs,i,z,rfl,rfl,hq,he,q⟩:=h;cases rx;obtain⟨t,rfl⟩:=ry;obtain⟨its,r,pl,hz⟩:=I.list hq;obtain⟨j,h1,h2,h3,h4,h5⟩:=Bn he;obtain⟨w,ew,pV⟩:=r.get h2;have hl:=r.length;have hn:=pQ;have fin:EP X pins σ Q w s:=⟨z,H,I,pV,q⟩;by_cases h0:0<=i
 ·have hj:=by
   rw[seqIndex_of h0 h5] at h1;exact zap h1
  exact item_listR pl.isList h0 (by lia) (by rw[hj];simpa using ew) fin hs
 ·have hj:(i+(its.toArray.size:Int)).toNat=j:=by
   rw[seqIndex_neg (by lia) h4] at h1
   rw[zag,<-hl];exact zap h1
  exact subscriptTail_builtinR pl.isList.typeIs slot_list_getitem.lookup
   (wpAny_getItem_list_neg pl.isList (by lia) (by rw[zag] <;>omega) (by lia) (by rw[hj];simpa using ew) ⟨rfl,fin⟩) hs
theorem Uw:lE X (Hr X.K):=by
 intro value slice pins s σ H x y v u Q I rx ry h hs;obtain⟨p,xs,i,z,rfl,rfl,hq,he,q⟩:=h;cases rx;obtain⟨t,rfl⟩:=ry;obtain⟨its,r,pl,hz⟩:=I.tuple hq;obtain⟨j,h1,h2,h3,h4,h5⟩:=Bn he;obtain⟨w,ew,pV⟩:=r.get h2;have hn:=pQ;have fin:EP X pins σ Q w s:=⟨z,H,I,pV,q⟩;exact subscriptTail_builtinR pl.typeIs slot_tuple_getitem.lookup
  (getItem_tuple pl (by lia) (by lia) (by rw[zag,<-r.length];exact h1) (by simpa using ew) ⟨rfl,fin⟩) hs
theorem Ux:lE X Hs:=by
 intro value slice pins s σ H x y v u Q I rx ry h hs;obtain⟨z,i,c,rfl,rfl,hz,he,q⟩:=h;obtain⟨t,rfl⟩:=rx;obtain⟨t',rfl⟩:=ry;obtain⟨j,h1,h2,h3,h4,h5⟩:=Bn he;have hl:z.cps.toList.length=z.length:=rfl
 rw[hl] at h1 h4 h5;have hn:=pQ;exact tail_any (typeIs_str s z t) slot_str_getitem.lookup (getItem_str (by
  have e1:decide (i< -(2 ^ 63:Int))=false:=zqF (by lia)
  have e2:decide (i≥2 ^ 63)=false:=zqF (by lia)
  rw[e1,e2,zbx]) (by rw[h1];simpa using h2) ⟨.str ⟨#[c]⟩,H,I.tok _,⟨_,rfl⟩,q⟩) hs
theorem Uy(its:List Value)(n j:Nat)(u:Value):Obj.mapSeq (·.setIfInBounds j u) {cls:=.type "list",data:=.seq its.toArray n}={cls:=.type "list",data:=.seq (its.set j u).toArray n}:=by
 simp[Obj.mapSeq]
theorem Inv.lst{σ:St}{H:Hp}{s:Shared}{p:Addr}{xs:List V}(I:Inv X pins σ H s)(h:H p=some (.lst xs)):
  ∃(its:List Value) (n:Nat),Vals xs its/\s.heap.get? p=some {cls:=.type "list",data:=.seq its.toArray n}/\xs.length<=sizeLine:=by
 obtain⟨z,its,n,r,e⟩:=I.aK p _ h;exact⟨its,n,r,e,z⟩
theorem Inv.Uz{σ:St}{H:Hp}{s:Shared}{p:Addr}{xs ys:List V}{its its':List Value}{n n':Nat}{f:Obj->Obj}(I:Inv X pins σ H s)(h:H p=some (.lst xs))
  (ho:s.heap.get? p=some {cls:=.type "list",data:=.seq its.toArray n}) (hf:f {cls:=.type "list",data:=.seq its.toArray n}={cls:=.type "list",data:=.seq its'.toArray n'}) (r:Vals ys its') (hz:ys.length<=sizeLine) (t:Nat):
  Inv X pins σ (upd H p<|.lst ys) {s with heap:=s.heap.update p f,toks:=t}:=by
 have e:(s.heap.update p f).get? p=some {cls:=.type "list",data:=.seq its'.toArray n'}:=by
  rw[Heap.get?_update_self f ho (by rw[hf] <;>rfl),hf]
 refine I.write (by rw[h];trivial) (.inl rfl) (λb u hb q=>(Heap.get?_update_other _ _<|Ne.symm hb).trans q) ⟨_,e⟩ ?_
 exact⟨hz,its',n',r,e⟩
def xW:V->V->V->Hp->(Hp->Prop)->Prop:=λo i v H Q=>∃p xs k j,o=.ref p/\i=.int k/\H p=some (.lst xs)/\gN xs.length k=some j/\Q (upd H p<|.lst<|xs.set j v)
theorem set_list:Gx X xW:=by
 intro pins s σ H o i v ov iv u Q I ro ri rv h;obtain⟨p,xs,k,j,rfl,rfl,hp,hj,q⟩:=h;cases ro;obtain⟨t,rfl⟩:=ri;obtain⟨its,n,r,ho,hz⟩:=I.lst hp;obtain⟨h1,h2,h3,h4⟩:=Hl hj;have hl:=r.length;have hn:=pQ;have I':=
  I.Uz hp ho (Uy its n j u) (r.set rv j) (by rw[List.length_set];exact hz) s.toks
 by_cases h0:0<=k
 ·have hk:=by
   rw[seqIndex_of h0 h4] at h1;exact zap h1
  exact PySem.W.ki_setAt ho h0 (by lia) (by rw[zag,<-hl];exact h4) (by rw[hk];exact⟨_,I',q⟩)
 ·have hk:(k+(its.toArray.size:Int)).toNat=j:=by
   rw[seqIndex_neg (by lia) h3] at h1
   rw[zag,<-hl];exact zap h1
  exact PySem.W.ki_setBack ho (by lia) (by rw[zag,<-hl];exact h3) (by lia) (by rw[hk];exact⟨_,I',q⟩)
theorem Bo(lo hi:Option Int)(n:Nat):(sliceBounds lo hi none n).1=((HT.br n 0 lo:Nat):Int)/\(sliceBounds lo hi none n).2.1=((HT.br n n hi:Nat):Int)/\(sliceBounds lo hi none n).2.2=1:=by
 refine⟨?_,?_,rfl⟩
 ·cases lo with
  |none=>simp[sliceBounds,HT.br]
  |some i=>
   simp only[sliceBounds,HT.br,Option.getD_none,show(1:Int) >0 by lia,if_true]
   by_cases h:i<0
   ·simp only[h,if_true] <;>omega
   ·simp only[h,if_false] <;>omega
 ·cases hi with
  |none=>simp[sliceBounds,HT.br]
  |some i=>
   simp only[sliceBounds,HT.br,Option.getD_none,show(1:Int) >0 by lia,if_true]
   by_cases h:i<0
   ·simp only[h,if_true] <;>omega
   ·simp only[h,if_false] <;>omega
theorem UA(its:List Value)(lo hi:Option Int):slicePick its.toArray lo hi none=((its.drop<|HT.br its.length 0 lo).take<|HT.br its.length its.length hi - HT.br its.length 0 lo).toArray:=by
 obtain⟨h1,h2,h3⟩:=Bo lo hi its.toArray.size;unfold slicePick;rw[h1,h2,h3]
 simp only[sliceRange_one,pick_run,zag] <;>rfl
def UB(K:Frag):V->Option Int->Option Int->Hp->VK->Prop:=λx lo hi H Q=>∃a xs,x=.ref a/\ar K H a xs/\∀p,H p=none->Q (.ref p) (upd H p<|.lst<|fK xs lo hi)
theorem UC:xV X (UB X.K):=by
 intro pins s σ H x v vl vu lo hi sl Q I rx hs pl pu h;obtain⟨a,xs,rfl,hx,q⟩:=h;cases rx;obtain⟨its,r,ht,hz⟩:=I.list hx;have hlen:=r.length;refine⟨"list",_,slot_list_getitem.lookup,ht.isList.typeIs,wpAny_getItem_list_slice ht.isList hs pl pu .none (by lia) ?_ (by rw[zag] <;>omega)⟩
 rw[UA,<-hlen];refine⟨.ref s.heap.objs.size,_,I.laid (λb ob q=>Heap.get?_push_of_some _ q) (zqR _) ?_,rfl,q _<|I.aK.fresh<|zqR _⟩;exact⟨zaw (Hj xs lo hi) hz,_,0,(r.drop<|HT.br xs.length 0 lo).take<|HT.br xs.length xs.length hi - HT.br xs.length 0 lo,Heap.get?_push_size _ rfl⟩
def iD:V->Bool
 |.aB=>true
 |.bl _=>true
 |.int _=>true
 |.str _=>true
 |_=>false
def g_:V->V->Bool
 |.aB,.aB=>true
 |.bl a,.bl b=>a==b
 |.bl a,.int b=>(if a then 1 else 0)==b
 |.int a,.bl b=>a==(if b then 1 else 0)
 |.int a,.int b=>a==b
 |.str a,.str b=>a==b
 |_,_=>false
theorem UD{y x:V}{u v:Value}(ry:RelV y u)(rx:RelV x v)(fy:iD y=true)(fx:iD x=true):SeqAt.EqAt A s u v (g_ y x):=by
 cases y with
 |aB=>
  cases ry;cases x with
  |aB=>cases rx;exact SeqAt.EqAt.same _
  |bl b=>cases rx;exact SeqAt.EqAt.none_bool b
  |int b=>obtain⟨t,rfl⟩:=rx;exact SeqAt.EqAt.none_int b t
  |str b=>obtain⟨t,rfl⟩:=rx;exact SeqAt.EqAt.none_str b t
  |_=>exact absurd (show false=true from fx) zan
 |bl a=>
  cases ry;cases x with
  |aB=>cases rx;exact SeqAt.EqAt.bool_none a
  |bl b=>cases rx;exact SeqAt.EqAt.bool_bool a b
  |int b=>obtain⟨t,rfl⟩:=rx;exact SeqAt.EqAt.bool_int a b t
  |str b=>obtain⟨t,rfl⟩:=rx;exact SeqAt.EqAt.bool_str a b t
  |_=>exact absurd (show false=true from fx) zan
 |int a=>
  obtain⟨t',rfl⟩:=ry;cases x with
  |aB=>cases rx;exact SeqAt.EqAt.int_none a t'
  |bl b=>cases rx;exact SeqAt.EqAt.int_bool a t' b
  |int b=>obtain⟨t,rfl⟩:=rx;exact SeqAt.EqAt.int_int a t' b t
  |str b=>obtain⟨t,rfl⟩:=rx;exact SeqAt.EqAt.int_str a t' b t
  |_=>exact absurd (show false=true from fx) zan
 |str a=>
  obtain⟨t',rfl⟩:=ry;cases x with
  |aB=>cases rx;exact SeqAt.EqAt.str_none a t'
  |bl b=>cases rx;exact SeqAt.EqAt.str_bool a t' b
  |int b=>obtain⟨t,rfl⟩:=rx;exact SeqAt.EqAt.str_int a t' b t
  |str b=>obtain⟨t,rfl⟩:=rx;exact SeqAt.EqAt.str_str a t' b t
  |_=>exact absurd (show false=true from fx) zan
 |_=>exact absurd (show false=true from fy) zan
def fM(x:V)(u:Value):Bool:=match u with
 |.none=>g_ .aB x
 |.bool b=>g_ (.bl b) x
 |.int i _=>g_ (.int i) x
 |.str z _=>g_ (.str z) x
 |_=>false
theorem Bp{y:V}{u:Value}(r:RelV y u)(f:iD y=true):fM x u=g_ y x:=by
 cases y with
 |aB=>cases r;rfl
 |bl b=>cases r;rfl
 |int i=>obtain⟨t,rfl⟩:=r;rfl
 |str z=>obtain⟨t,rfl⟩:=r;rfl
 |_=>exact absurd (show false=true from f) zan
theorem uG:∀{xs:List V}{us:List Value},Vals xs us->xs.all iD=true->us.any (fM x)=xs.any λy=>g_ y x:=by
 intro _ _ p f;induction p with
 |nil=>rfl
 |cons r t ih=>rw[zaZ,zab] at f;rw[List.any_cons,List.any_cons,Bp r f.1,ih f.2]
theorem rY{x:V}{v:Value}(rx:RelV x v)(fx:iD x=true):∀{xs:List V}{us:List Value},Vals xs us->xs.all iD=true->∀u∈us,SeqAt.EqAt A s u v (fM x u):=by
 intro _ _ p f;induction p with
 |nil=>nofun
 |cons r t ih=>
  intro u' hu;rw[zaZ,zab] at f;rcases zaa.mp hu with rfl|hu
  ·rw[Bp r f.1];exact UD r rx f.1 fx
  ·exact ih f.2 u' hu
def hJ(x:V)(xs:List V):Bool:=xs.any λy=>g_ y x
def Bq(K:Frag)(neg:Bool):R2:=λx y H Q=>∃p xs,y=.ref p/\(ar K H p xs\/aM K H p xs)/\iD x=true/\xs.all iD=true/\Q (.bl (if neg then !hJ x xs else hJ x xs)) H
theorem UE:bG X (compareOp .In) (Bq X.K false):=by
 intro pins s σ H x y v u Q I rx ry h;obtain⟨p,xs,rfl,hq,fx,fs,q⟩:=h;cases ry;rcases hq with hq|hq
 ·obtain⟨its,r,pl,hz⟩:=I.list hq;refine SeqAt.in_listAt (fM x) pl.isList (λw hw=>rY rx fx r fs w (by simpa using hw)) ⟨.bl _,H,I,rfl,?_⟩
  rw[show its.toArray.any (fM x)=its.any (fM x) by simp,uG r fs]
  exact q
 ·obtain⟨its,r,pl,hz⟩:=I.tuple hq;refine SeqAt.in_tupleAt (fM x) pl (λw hw=>rY rx fx r fs w (by simpa using hw)) ⟨.bl _,H,I,rfl,?_⟩
  rw[show its.toArray.any (fM x)=its.any (fM x) by simp,uG r fs]
  exact q
theorem UG:bG X (compareOp .NotIn) (Bq X.K true):=by
 intro pins s σ H x y v u Q I rx ry h;obtain⟨p,xs,rfl,hq,fx,fs,q⟩:=h;cases ry;rcases hq with hq|hq
 ·obtain⟨its,r,pl,hz⟩:=I.list hq;refine SeqAt.notIn_listAt (fM x) pl.isList (λw hw=>rY rx fx r fs w (by simpa using hw)) ⟨.bl _,H,I,rfl,?_⟩
  rw[show its.toArray.any (fM x)=its.any (fM x) by simp,uG r fs]
  exact q
 ·obtain⟨its,r,pl,hz⟩:=I.tuple hq;refine SeqAt.notIn_tupleAt (fM x) pl (λw hw=>rY rx fx r fs w (by simpa using hw)) ⟨.bl _,H,I,rfl,?_⟩
  rw[show its.toArray.any (fM x)=its.any (fM x) by simp,uG r fs]
  exact q
theorem cj.or{r r':List V->Hp->VK->Prop}(h:cj X f r)(h':cj X f r'):cj X f (λxs H Q=>r xs H Q\/r' xs H Q):=by
 intro pins s σ H xs us Q I rs q;rcases q with q|q
 ·exact h pins s σ H xs us Q I rs q
 ·exact h' pins s σ H xs us Q I rs q
theorem UH:cj X (.type "list") (λxs H Q=>∃p ys,xs=[.ref p]/\(ar X.K H p ys\/aM X.K H p ys)/\∀l,H l=none->Q (.ref l) (upd H l<|.lst ys)):=by
 intro pins s σ H xs us Q I r h;obtain⟨p,ys,rfl,hq,q⟩:=h;obtain⟨u,rfl,rx⟩:=vals1 r;cases rx;have fin:∀(its:List Value),Vals ys its->ys.length<=sizeLine->∀(h':Heap) (c':Nat),(∀b o',s.heap.get? b=some o'->h'.get? b=some o')->
   h'.get? s.heap.objs.size=some {cls:=.type "list",dict:=none,data:=.seq its.toArray c',slots:= #[]}->EP X pins σ Q (.ref s.heap.objs.size) {s with heap:=h'}:=λits r' hz h' c' kp e=>
  ⟨.ref s.heap.objs.size,_,I.laid kp (zqR _) (show da X.prog X.w _ h' _ (.lst ys) from⟨hz,its,c',r',e⟩),rfl,q _<|I.aK.fresh<|zqR _⟩
 rcases hq with hq|hq
 ·obtain⟨its,r',pl,hz⟩:=I.list hq;have hlen:=r'.length;obtain⟨o,ho,hc,n,hd⟩:=pl.isList;exact call_list_seq p (.inl rfl) ho hc hd (λh' c' kp e=>fin its r' hz h' c' kp e) (by simp <;>omega)
 ·obtain⟨its,r',pl,hz⟩:=I.tuple hq;have hlen:=r'.length;obtain⟨o,ho,hc,n,hd⟩:=pl;exact call_list_seq p (.inr rfl) ho hc hd (λh' c' kp e=>fin its r' hz h' c' kp e) (by simp <;>omega)
theorem UI:cj X (.type "tuple") (λxs H Q=>∃p ys,xs=[.ref p]/\((ar X.K H p ys/\∀l,H l=none->Q (.ref l) (upd H l<|.tup ys))\/(aM X.K H p ys/\Q (.ref p) H))):=by
 intro pins s σ H xs us Q I r h;obtain⟨p,ys,rfl,h⟩:=h;obtain⟨u,rfl,rx⟩:=vals1 r;cases rx;rcases h with⟨hq,q⟩|⟨hq,q⟩
 ·obtain⟨its,r',pl,hz⟩:=I.list hq;have hlen:=r'.length;refine call_tuple_list pl.isList (λh' kp=>?_) (by simp <;>omega)
  have I1:=I.kept (t':=s.toks) kp
  have I2:=
   I1.laid (t':=s.toks) (λb o e=>Heap.get?_push_of_some _ e) (zqR _) (show da X.prog X.w _ _ _ (.tup ys) from⟨hz,its,r',IsTup.new _ _⟩)
  exact⟨.ref h'.objs.size,_,I2,rfl,q _<|I1.aK.fresh<|zqR _⟩
 ·obtain⟨its,r',pl,hz⟩:=I.tuple hq;exact call_tuple_same pl ⟨.ref p,H,I,rfl,q⟩
def rZ(K:Frag)(T:String)(x:V)(H:Hp):Prop:=match x with
 |.str _=>T="str"
 |.int _=>T="int"
 |.ref p=>(T="list"/\∃xs,ar K H p xs)\/(T="tuple"/\∃o,K.lookup p=some o/\o.cls=.type "tuple"/\o.dict=none)\/
   (T="dict"/\((∃aS,H p=some (.dK aS))\/∃aS,H p=some (.dT aS)))\/(T="set"/\∃S n,H p=some (.set S n))
 |_=>False
theorem Ht{σ:St}{H:Hp}{s:Shared}{T:String}{x:V}{v:Value}(I:Inv X pins σ H s)(r:RelV x v)(ty:rZ X.K T x H):
  s.TypeIs v T/\∀a,v=.ref a->∃ob,s.heap.get? a=some ob/\ob.dict=none:=by
 cases x with
 |str z=>
  obtain⟨t,rfl⟩:=r;cases (show T="str" from ty)
  exact⟨typeIs_str s z t,λ_ e=>nomatch e⟩
 |int i=>
  obtain⟨t,rfl⟩:=r;cases (show T="int" from ty)
  exact⟨typeIs_int s i t,λ_ e=>nomatch e⟩
 |ref p=>
  cases r;rcases ty with⟨rfl,xs,hq⟩|⟨rfl,o,hk,hc,hd⟩|⟨rfl,hk⟩|⟨rfl,S,n,hk⟩
  ·obtain⟨its,_,pl,_⟩:=I.list hq;refine⟨pl.isList.typeIs,λa e=>?_⟩;cases e;obtain⟨o,n,e,c,hd,_⟩:=pl;exact⟨o,e,hd⟩
  ·refine⟨⟨o,I.cT p o hk,hc⟩,λa e=>?_⟩;cases e;exact⟨o,I.cT _ o hk,hd⟩
  ·have z:∃o,s.heap.get? p=some o/\o.ExactDict:=by
    rcases hk with⟨aS,hk⟩|⟨aS,hk⟩
    ·obtain⟨_,_,_,_,o,_,_,e,ex,_⟩:=I.aK p _ hk;exact⟨o,e,ex⟩
    ·obtain⟨_,_,_,_,o,_,_,e,ex,_⟩:=I.aK p _ hk;exact⟨o,e,ex⟩
   obtain⟨o,e,ex⟩:=z;refine⟨⟨o,e,ex.1⟩,λa e2=>?_⟩;cases e2;exact⟨o,e,ex.2.1⟩
  ·obtain⟨o,_,_,_,zq⟩:=qx4 (I.aK p _ hk);obtain⟨e,ex,_⟩:=qa3 zq;refine⟨⟨o,e,ex.1⟩,λa e2=>?_⟩;cases e2;exact⟨o,e,ex.2.1⟩
 |_=>exact False.elim ty
def UJ(K:Frag)(T:String)(r:V->List V->Hp->VK->Prop)(to:TE):TE:=λσ H Q=>to σ H λx H1=>rZ K T x H1/\r x [] H1 Q
def UK(K:Frag)(T:String)(r:V->List V->Hp->VK->Prop)(to:TE)(t:TA):TE:=λσ H Q=>to σ H λx H1=>rZ K T x H1/\t σ H1 λxs H2=>r x xs H2 Q
variable {o e:Expr}{es:List Expr}{to:TE}{t:TA}{name:Str}{apos d0:Pos}{T id:String}{r:V->List V->Hp->VK->Prop}
theorem UL(pa:PlainAttrs T)(slot:Slot T name id)(Br:typeOf (.builtin id)=pure (.type "method_descriptor"))(hm:rX X id r)(ho:PE X o to)
  (Bs:attributeBase o name X.env (eval o X.env)=eval o X.env:=by rfl) (Bt:(apos.endLine==d0.line)=true:=by rfl):PE X (.Call (.Attribute o name apos) [] [] d0) (UJ X.K T r to):=by
 intro pins s σ H Q I h;refine wpAny_Call_method0_late Bs Bt<|aV (ho pins s σ H _ I h) λv s1 ⟨x,H1,I1,r1,ty,q1⟩=>?_;obtain⟨h1,h2⟩:=Ht I1 r1 ty;exact⟨T,id,pa,slot,Br,h1,h2,Calls.callWith_builtin rfl<|PySem.evalArgs_none<|hm pins s1 σ H1 x [] v [] Q I1 r1 .nil q1⟩
theorem UM(pa:PlainAttrs T)(slot:Slot T name id)(Br:typeOf (.builtin id)=pure (.type "method_descriptor"))(hm:rX X id r)(ho:PE X o to)(ha:PA X (e::es) t)
  (Bs:attributeBase o name X.env (eval o X.env)=eval o X.env:=by rfl)
  (UN:((backTo d0 (starEach (e::es) X.env)).all (λx=> !x.1) && (backToKw d0 (keywordEach [] X.env)).all (λx=>x.1.isSome)
   && decide ((e::es).length+([]:List Keyword).length+(if ([]:List Keyword).isEmpty then 0 else 1) <30))=true:=by rfl)
  (Bt:(apos.endLine==d0.line)=true:=by rfl) (hs:starEach (e::es) X.env=(false,eval e X.env)::starEach es X.env:=by rfl) (UO:(backTo d0<|starEach es X.env).any (·.1)=false:=by rfl):
  PE X (.Call (.Attribute o name apos) (e::es) [] d0) (UK X.K T r to t):=by
 intro pins s σ H Q I h;refine wpAny_Call_method_late Bs UN Bt rfl<|aV (ho pins s σ H _ I h) λv s1 ⟨x,H1,I1,r1,ty,q1⟩=>?_;obtain⟨h1,h2⟩:=Ht I1 r1 ty;refine⟨T,id,pa,slot,Br,h1,h2,?_⟩;have hA:=ha d0 pins s1 σ H1 _ I1 q1;rw[hs] at hA⊢;refine Calls.callWith_builtin (by show(false ||(backTo d0<|starEach es X.env).any (·.1))=false;rw[UO] <;>rfl)<|Calls.evalArgs_plain ?_
 exact aV hA λus s2 ⟨vs,H2,I2,r2,q2⟩=>hm pins s2 σ H2 x vs v us Q I2 r1 r2 q2
end
theorem Vals.one:∀{x:V}{us:List Value},Vals [x] us->∃u,us=[u]/\RelV x u:=by
 intro _ _ h;cases h with|cons r t=>cases t;exact⟨_,rfl,r⟩
theorem Vals.zero:∀{us:List Value},Vals [] us->us=[]
 |_,.nil=>rfl
theorem Vals.dropLast{us:List Value}(h:Vals xs us):Vals xs.dropLast us.dropLast:=by
 induction h with
 |nil=>exact .nil
 |cons r t ih=>
  cases t with
  |nil=>exact .nil
  |cons q t'=>exact .cons r ih
theorem Vals.rep{us:List Value}(h:Vals xs us):∀k:Nat,Vals (List.replicate k xs).flatten (List.replicate k us).flatten
 | 0=>.nil
 |k+1=>by
  exact Vals.append h<|Vals.rep h k
theorem UP{α:Type}(l:List α):l.eraseIdx (l.length - 1)=l.dropLast:=by
 induction l with
 |nil=>rfl
 |cons a r ih=>
  cases r with
  |nil=>rfl
  |cons b r=>
   have e:(a::b::r).length - 1=((b::r).length - 1)+1:=by
    have h1:(a::b::r).length=r.length+2:=rfl;have h2:(b::r).length=r.length+1:=rfl;omega
   rw[e,List.eraseIdx_cons_succ,ih]
   all_goals rfl
theorem foldl_rep(its:List Value):∀(k:Nat) (acc:List Value),
  List.foldl (λx1 x2=>x1++x2) acc.toArray (List.replicate k its.toArray)=(acc++(List.replicate k its).flatten).toArray
 | 0,acc=>by simp
 |k+1,acc=>by
  have e:acc.toArray++its.toArray=(acc++its).toArray:=by simp
  have e2:(acc++its)++(List.replicate k its).flatten=acc++(List.replicate (k+1) its).flatten:=by
   rw[zbk,zby,zaD]
  rw[<-e2,<-foldl_rep its k (acc++its),<-e,zbk,List.foldl_cons]
section
variable {X:Cx}{pins:List (Addr×Obj)}{σ:St}{H:Hp}{s:Shared}{l b:Addr}{xs ys zs:List V}
theorem Inv.xY{its its':List Value}{n:Nat}{f:Array Value->Array Value}{t':Nat}(I:Inv X pins σ H s)(hH:H l=some (.lst xs))
  (e:s.heap.get? l=some {cls:=.type "list",data:=.seq its.toArray n}) (hf:f its.toArray=its'.toArray) (hv:Vals ys its') (hz:ys.length<=sizeLine):
  Inv X pins σ (upd H l<|.lst ys) {s with heap:=s.heap.update l (Obj.mapSeq f),toks:=t'}:=by
 have q:=PySem.IsL.update e f;rw[hf] at q;refine I.write (hH▸trivial) (.inl rfl) (λb' u hb hu=>(Heap.get?_update_other s.heap (Obj.mapSeq f)<|Ne.symm hb).trans hu) ⟨_,q⟩ ?_
 exact⟨hz,its',_,hv,q⟩
theorem Inv.Hu(I:Inv X pins σ H s)(hv:Vals ys its)(hz:ys.length<=sizeLine):
  Inv X pins σ (upd H s.heap.objs.size<|.lst ys) {s with heap:=s.heap.push {cls:=.type "list",data:=.seq its.toArray},toks:=t'}:=
 I.laid (λ_ _ q=>Heap.get?_push_of_some _ q) (zqR _) ⟨hz,its,0,hv,Heap.get?_push_size _ rfl⟩
theorem Inv.fresh(I:Inv X pins σ H s):H s.heap.objs.size=none:=I.aK.fresh (zqR _)
theorem Inv.nZ(I:Inv X pins σ H s)(hH:H l=some (.lst xs)):xs.length<=sizeLine/\∃(its:List Value) (n:Nat),Vals xs its/\xs.length=its.length/\s.heap.get? l=some {cls:=.type "list",data:=.seq its.toArray n}:=by
 obtain⟨z,its,n,r,e⟩:=I.aK l _ hH;exact⟨z,its,n,r,r.length,e⟩
theorem Hv(h:n<=sizeLine):Builtin.List.listTooLong n=false:=by
 exact zqF (by lia)
end
section
variable {X:Cx}
def UQ:V->List V->Hp->VK->Prop:=λx vs H Q=>∃l xs y,x=.ref l/\vs=[y]/\H l=some (.lst xs)/\xs.length<sizeLine/\Q .aB (upd H l<|.lst<|xs++[y])
theorem UR:rX X "list.append" UQ:=by
 intro pins s σ H x vs v us Q I rx rv h;obtain⟨l,xs,y,rfl,rfl,hH,hz,q⟩:=h;cases rx;obtain⟨u,rfl,ru⟩:=rv.one;obtain⟨z,its,n,r,hl,e⟩:=I.nZ hH;refine call_meets F.slot_list_append ⟨_,e,rfl⟩ F.entry_list_append (F.args_list_append_2 _ _) (PySem.list_append l its.toArray n u (by rw[zag];omega)) ⟨e,?_⟩
 refine⟨.aB,_,I.xY hH e (by simp) (r.append<|.cons ru .nil) ?_,rfl,q⟩
 rw[zqA,zba];omega
def US:V->List V->Hp->VK->Prop:=λx vs H Q=>∃l b xs zs,x=.ref l/\vs=[.ref b]/\H l=some (.lst xs)/\H b=some (.lst zs)/\xs.length+zs.length<=sizeLine/\Q .aB (upd H l<|.lst<|xs++zs)
theorem UT:rX X "list.extend" US:=by
 intro pins s σ H x vs v us Q I rx rv h;obtain⟨l,b,xs,zs,zq⟩:=qx4 h;obtain⟨rfl,rfl,hH,hB,hz,q⟩:=qa6 zq;cases rx;obtain⟨u,rfl,ru⟩:=rv.one;cases ru;obtain⟨z,its,n,r,hl,e⟩:=I.nZ hH;obtain⟨z2,gM,n2,r2,r6,e2⟩:=I.nZ hB;have iS:its.toArray.size+gM.toArray.size<=sizeLine:=by rw[zag,zag];omega
 have Bu:¬(!its.toArray.isEmpty && Builtin.List.listTooLong (its.toArray.size+gM.toArray.size))=true:=by
  rw[Hv iS,Bool.and_false];exact zan
 refine call_meets F.slot_list_extend ⟨_,e,rfl⟩ F.entry_list_extend (F.args_list_extend_2 _ _)
  (AutoSeq1.list_extend_list_list_0 l its.toArray n b gM.toArray n2 Bu (by lia) (by lia)) ⟨e,e2,?_⟩
 refine⟨.aB,_,I.xY hH e (by simp) (r.append r2) ?_,rfl,q⟩
 rw[zqA];omega
def UU:V->List V->Hp->VK->Prop:=λx vs H Q=>∃l xs y,x=.ref l/\vs=[]/\H l=some (.lst xs)/\xs[xs.length - 1]?=some y/\Q y (upd H l<|.lst xs.dropLast)
theorem UW:rX X "list.pop" UU:=by
 intro pins s σ H x vs v us Q I rx rv h;obtain⟨l,xs,y,rfl,rfl,hH,hy,q⟩:=h;cases rx;have Bv:=rv.zero;subst Bv;obtain⟨z,its,n,r,hl,e⟩:=I.nZ hH;obtain⟨u,hu,ru⟩:=r.get hy;have Bw:=by
  show its.toArray[its.length - 1]?=some u;rw[<-Array.getElem?_toList,<-hl];exact hu
 refine call_meets F.slot_list_pop ⟨_,e,rfl⟩ F.entry_list_pop (F.args_list_pop_1 _) (MeetsSeq.list_pop_last l its.toArray n u Bw (by rw[zag];omega)) ⟨e,?_⟩
 refine⟨y,_,I.xY hH e ?_ r.dropLast ?_,ru,q⟩
 ·rw[zag,List.eraseIdxIfInBounds_toArray,UP]
 ·rw[zbz];omega
def UX:V->List V->Hp->VK->Prop:=λx vs H Q=>∃l xs,x=.ref l/\vs=[]/\H l=some (.lst xs)/\Q .aB (upd H l<|.lst [])
theorem UY:rX X "list.clear" UX:=by
 intro pins s σ H x vs v us Q I rx rv h;obtain⟨l,xs,rfl,rfl,hH,q⟩:=h;cases rx;have Bv:=rv.zero;subst Bv;obtain⟨z,its,n,r,hl,e⟩:=I.nZ hH;refine call_meets F.slot_list_clear ⟨_,e,rfl⟩ F.entry_list_clear (F.args_list_clear_1 _) (AutoSeq1.list_clear_list_0 l its.toArray n (by rw[zag];omega)) ⟨e,?_⟩
 exact⟨.aB,_,I.xY hH e rfl .nil<|zqZ _,rfl,q⟩
def Hw:R2:=λx y H Q=>∃l b xs zs,x=.ref l/\y=.ref b/\H l=some (.lst xs)/\H b=some (.lst zs)/\xs.length+zs.length<=sizeLine/\∀p,H p=none->Q (.ref p) (upd H p<|.lst<|xs++zs)
theorem UZ:bG X (binaryOp .Add) Hw:=by
 intro pins s σ H x y v u Q I rx ry h;obtain⟨l,b,xs,zs,zq⟩:=qx4 h;obtain⟨rfl,rfl,hH,hB,hz,q⟩:=qa6 zq;cases rx;cases ry;obtain⟨z,its,n,r,hl,e⟩:=I.nZ hH;obtain⟨z2,gM,n2,r2,r6,e2⟩:=I.nZ hB;refine PySem.P.add_list e e2 ?_ (by rw[zag,zag];omega)
 have ea:its.toArray++gM.toArray=(its++gM).toArray:=by simp
 rw[ea];exact⟨.ref _,_,I.Hu (r.append r2) (by rw[zqA];omega),rfl,q _ I.fresh⟩
def Hx:R2:=λx y H Q=>∃l k xs,x=.ref l/\y=.int k/\H l=some (.lst xs)/\ -(2 ^ 63)<=k/\k<2 ^ 63/\xs.length*k.toNat<=sizeLine/\
 ∀p,H p=none->Q (.ref p) (upd H p<|.lst (List.replicate k.toNat xs).flatten)
theorem len_rep{α:Type}(xs:List α)(k:Nat):(List.replicate k xs).flatten.length=k*xs.length:=by simp
theorem U0:bG X (binaryOp .Mult) Hx:=by
 intro pins s σ H x y v u Q I rx ry h;obtain⟨l,k,xs,zq⟩:=qx3 h;obtain⟨rfl,rfl,hH,h1,h2,hz,q⟩:=qa7 zq;cases rx;obtain⟨t,rfl⟩:=ry;obtain⟨z,its,n,r,hl,e⟩:=I.nZ hH;have hlen:its.toArray.size*k.toNat<=sizeLine:=by rw[zag,<-hl];exact hz
 have U1:¬its.toArray.size*k.toNat>(2 ^ 63 - 1) / 8:=by
  have:(sizeLine:Nat)<= (2 ^ 63 - 1) / 8:=by decide
  omega
 have U3:¬(!Builtin.List.listFitsIndex k)=true:=by
  rw[fitsIndex_both h1 h2];exact zan
 have Bu:¬Builtin.List.listTooLong (its.toArray.size*k.toNat)=true:=by
  rw[Hv hlen];exact zan
 have U4:List.foldl (λx1 x2=>x1++x2) #[] (List.replicate (if its.toArray.isEmpty=true then 0 else k.toNat) its.toArray)=(List.replicate k.toNat its).flatten.toArray:=by
  have f0:=λm=>by
   have:=foldl_rep its m [];rw[zbl] at this;exact this
  rw[f0];cases its with
  |nil=>simp
  |cons a r'=>rw[if_neg (by simp)]
 refine wpAny_binaryOp_repeat_ref (rfl) ⟨_,e,rfl⟩ (λs'=>typeIs_int s' k t) noFill_list_mul F.fills_int_mul F.slot_int_rmul repeat_list F.slot_int_index.lookup
  (call_meets F.slot_int_rmul (typeIs_int s k t) F.entry_int_rmul (F.args_int_rmul_2 _ _) (int___rmul___int_list k t l its.toArray n)
   ⟨e,rfl,⟨_,e,rfl⟩,call_meets F.slot_list_mul ⟨_,e,rfl⟩ F.entry_list_mul (F.args_list_mul_2 _ _) (AutoListH.list___mul___list_int_3 l its.toArray n k t U3 U1 Bu) ⟨e,?_⟩⟩)
 rw[U4];exact⟨.ref _,_,I.Hu (r.rep k.toNat) (by rw[len_rep,Nat.mul_comm];exact hz),rfl,q _ I.fresh⟩
end
end L2
namespace Hy
open PySem PySem.W PySem.Calls PyProof.Rows
theorem U5{h:Heap}:∀(ns:List Int) (vs:List Value),WellAll P h vs (ns.map WData.int)->IntsAre vs ns:=by
 intro ns
 induction ns with
 |nil=>
  intro vs w;cases w;exact .nil
 |cons n ns ih=>
  intro vs w;cases w with
  |cons a b=>
   cases a;exact .cons _ _<|ih _ b
theorem U6{l:OpenLaw}{n:Nat}(hn:l.most=some n){P:Params}{h:Heap}{args:List WData}{vals:List Value}
  (mF:l.row.toRowW.claim.pre args=true) (Bx:WellAll P h vals args):
  ∃a vs ns,vals=[Value.ref a]/\args=[WData.list<|ns.map WData.int]/\h.get? a=some {cls:=.type "list",data:=.seq vs.toArray}/\IntsAre vs ns/\ns.length<=n:=by
 obtain⟨d,r,rfl,h1,h2⟩:=hasAllW_cons ((pre_splitW mF).1);obtain rfl:=hasAllW_nil h2;obtain⟨xs,rfl,h3⟩:=hasW_list h1;obtain⟨ns,rfl⟩:=items_int h3;have hlen:ns.length<=n:=by
  have h4:=by
   have h4:=(holds_andW ((pre_splitW mF).2)).1;rw[hn] at h4;exact h4
  have h5:=condW_of h4 (w_not<|w_lt w_lit<|w_len_list<|w_arg rfl);refine Nat.le_of_not_lt λq=>?_
  first
   | (rw[zqT q'] at h5;exact absurd h5 (rfl))
   | (simp at h5;omega)
 cases Bx with
 |cons w1 w2=>
  cases w2;cases w1 with
  |list ho uH=>exact⟨_,_,ns,rfl,rfl,ho,U5 ns _ uH,hlen⟩
theorem U8(l:OpenLaw)(args:List WData):l.row.toRowW.claim.post args (.bool true) args=true:=
 postW_of
  (show WShape.has [] (.bool true) .bool=true by first|rfl|decide|simp)
  (show(WTm.eq .res<|.lit<|.bool true).value [] {args:=args,res:=some (.bool true),after:=args}=some (.bool<|true==true) from w_eq_bool (w_res rfl) w_lit) rfl
theorem U9{l:OpenLaw}{n:Nat}{q:Program}{loose:List Str}{XP:(Str->Option Value)->Heap->Prop}{YP:World->Heap->Prop}{d:DefRec}
  (hn:l.most=some n) (uI:d.params.defaults=[])
  (call:∀(w:World) (s₀ s₁:Shared) (mg mb:Str->Option Value) (fa:Addr) (o:Obj) (pm cd doc:Value) (a:Addr) (vs:List Value) (ns:List Int),
   Ground q loose [] XP w s₀ mg mb s₁.heap->YP w s₁.heap->
   s₁.heap.get? fa=some o->o.data=.func (docDef d.name d.params d.body d.scope pm cd doc)->s₁.heap.CodeRec cd d.name->mg d.name=some (.ref fa)->
   s₁.heap.get? a=some {cls:=.type "list",data:=.seq vs.toArray}->IntsAre vs ns->ns.length<=n->s₁.gens= #[]->
   codeAny (model l.prog w) callerA (.call (.ref fa) ⟨[.ref a],[]⟩) (λr s'=>r=.ok (.ret (.bool true))/\OldK s₁.heap s'.heap/\s'.os=s₁.os/\AllBare s'.gens) s₁):
  WalkO q loose XP YP l.row.toRowW d [] (λf vs=>PySem.call f vs):=by
 intro w s₀ s₁ mg mb G Y fa o pm cd doc dV kV ho hd gJ hD j8 hg args vals as mF ajQ hrd Bx xZ;obtain rfl:dV=.none:=Dflts.none hD uI;obtain rfl:kV=.none:=Dflts.noKw hD;obtain⟨a,vs,ns,rfl,rfl,By,hints,hlen⟩:=U6 hn mF Bx;refine enter_call<|codeAny_mono (call w s₀ s₁ mg mb fa o pm cd doc a vs ns G Y ho (fd_plain hd) gJ j8 By hints hlen hg) λr s' hq=>?_;obtain⟨rfl,h2,h3,h4⟩:=hq;exact⟨.inl ⟨.bool true,.bool true,[],rfl,λ_=>rfl,.bool true,U8 l _,λ_=>⟨List.Pairwise.nil,λ_ hm=>(nomatch hm)⟩⟩,h2,h3,h4⟩
section
variable {prog:Program}{w:World}{A:Around}{E:Value->Shared->Prop}{s:Shared}{K:Frag}
end
end Hy
namespace L2
open PySem PySem.Spec PyProof.Rows
theorem Hz:∀{vs:List Value}{ns:List Int},IntsAre vs ns->Vals (ns.map V.int) vs
 |_,_,.nil=>.nil
 |_,_,.cons n t h=>.cons ⟨t,rfl⟩ (Hz h)
def Bz(H:Hp):Prop:= ∀b,H b=none\/∃o xs,H b=some (.bO o<|.lst xs)
theorem U_{K:Frag}{mg mb:Str->Option Value}{CX:cb}{k:Nat}{fa a:Addr}{fd:FuncData}{x:Str}{sp:Sp}{s₁:Shared}{vs:List Value}{ns:List Int}
  (KX:K.In s₁.heap) (x9:s₁.heap.Ns mainGlobals mg) (hb:s₁.heap.Ns builtinsNs mb) (Va:∀x:Str,x≠"__name__"->mb x=bootBuiltins x) (Vb:s₁.heap.NoLimit) (hg:s₁.gens= #[])
  (ha:s₁.heap.get? a=some {cls:=.type "list",data:=.seq vs.toArray}) (hi:IntsAre vs ns) (hl:ns.length<=sizeLine) (hr:dm k callerA)
  (F:∀base:Heap,K.In base->base.Ns mainGlobals mg->cK P w K mg base CX k fa fd [x] sp) (Vc:∀(s:Shared) (u:Value),BindsTo s fd ⟨[u],[]⟩ [(x,u)])
  (iU:∀H:Hp,Bz H->ar K H a (ns.map V.int)->sp [.ref a] H (λv _=>v=.bl true) λ_ _ _=>False)
  (BA:∀H e s',CX [] H s₁ (λ_ _ _=>False) e s'->False):
  codeAny (model P w) callerA (.call (.ref fa) ⟨[.ref a],[]⟩) (λr s'=>r=.ok (.ret<|.bool true)/\OldK s₁.heap s'.heap/\s'.os=s₁.os/\AllBare s'.gens) s₁:=by
 have rv:=Hz hi;have core:∀H:Hp,Bz H->ar K H a (ns.map V.int)->cw P w H s₁.heap->(∀b,H b≠none->b=a)->(H a≠none->K.lookup a=none)->
   codeAny (model P w) callerA (.call (.ref fa) ⟨[.ref a],[]⟩) (λr s'=>r=.ok (.ret<|.bool true)/\OldK s₁.heap s'.heap/\s'.os=s₁.os/\AllBare s'.gens) s₁:=by
  intro H hO hS aK hA hK;have pW:∀{b:Addr}{o:Obj},s₁.heap.get? b=some o->H b=none->(mw s₁.heap H).get? b=some o:=λe n=>R5 e n;have uD:∀{b:Addr}{o:Obj}{es:Array DictEntry}{ep:Nat},s₁.heap.get? b=some o->o.data=.dict es ep->H b=none:=λ{b o es ep} e d=>by
   cases q:H b with
   |none=>rfl
   |some u=>
    have e':=hA b (by lia)
    subst e';rw[ha] at e;cases e;cases d
  have x_:∀{b:Addr}{m:Str->Option Value},s₁.heap.Ns b m->(mw s₁.heap H).Ns b m:=λ{b m} ⟨o,es,ep,e,d,r⟩=>⟨o,es,ep,pW e<|uD e d,d,r⟩;have HI:=λb o e=>pW (KX b o e) (by
   cases q:H b with
   |none=>rfl
   |some u=>
    have e':=hA b (by lia)
    subst e';rw[hK (by lia)] at e;cases e)
  have hM:Mod K mg (mw s₁.heap H):=⟨HI,x_ x9,⟨mb,x_ hb,Va⟩,let ⟨mc,h1,h2⟩:=Vb;⟨mc,x_ h1,h2⟩⟩;have e0:mD P w K mg (mw s₁.heap H) callerA [] s₁ H:=⟨rfl,hM,λb o e=>R6 e,Nat.le_of_eq<|R4 _ _,trivial,λb hb=>absurd (show b∈ ([]:List Addr) from hb) (by simp),aK,.of_eq hg⟩
  refine codeAny_mono ((F _ HI<|x_ x9).run callerA [] s₁ H ⟨[.ref a],[]⟩ [.ref a] [.ref a] _ _ hr e0 (Vc s₁<|.ref a) (.cons rfl .nil)<|iU H hO hS) λr s' h=>?_;cases r with
  |error e=>exact(BA H e s' h).elim
  |ok fl=>
   cases fl with
   |next=>exact False.elim h
   |brk=>exact False.elim h
   |cont=>exact False.elim h
   |ret u=>
    obtain⟨v,H',os,bare,un,Vd,r',q⟩:=h;subst q;obtain rfl:u=Value.bool true:=r';refine⟨rfl,OldK.of_keep λb o e=>?_,os,bare⟩;cases q:H b with
    |none=>exact un.keep b o e q (by intro z;exact absurd (show b∈ ([]:List Addr) from z) (by simp)) (by simp)
    |some u=>
     rcases hO b with z|⟨ob,xs,z⟩
     ·rw[q] at z;cases z
     ·obtain⟨e1,_⟩:=aK b _ z;obtain⟨e2,_⟩:=Vd b _ (un.f_ b ob _ z);rw[e] at e1;cases e1;exact e2
 cases hk:K.lookup a with
 |some o=>
  have e:=KX a o hk;rw[ha] at e;cases e;refine core (λ_=>none) (λ_=>.inl rfl) (.inr ⟨_,vs.toArray,_,hk,rfl,rfl,rfl,by rw[zag,hi.length];exact hl,by lia⟩) (λb u z=>by lia) (λb z=>absurd rfl z) λz=>absurd rfl z
 |none=>
  refine core (λb=>if b=a then some (.bO {cls:=.type "list",data:=.seq vs.toArray}<|.lst<|ns.map V.int) else none) (λb=>?_) (.inl<|.inr ⟨{cls:=.type "list",data:=.seq vs.toArray},if_pos rfl⟩) (λb u z=>?_) (λb z=>?_) λ_=>hk
  ·by_cases hb:b=a
   ·exact .inr ⟨_,_,if_pos hb⟩
   ·exact .inl (if_neg hb)
  ·by_cases hb:b=a
   ·cases ((if_pos hb).symm.trans z);subst hb;exact⟨ha,by rw[zah];exact hl,vs,_,rv,ha⟩
   ·cases ((if_neg hb).symm.trans z)
  ·by_cases hb:b=a
   ·exact hb
   ·exact absurd (if_neg hb) z
theorem Ve{l:PySem.W.OpenLaw}{n k:Nat}{q:Program}{loose:List Str}{XP:(Str->Option Value)->Heap->Prop}{YP:World->Heap->Prop}{d:DefRec}{K:Params->Frag}{CX:World->cb}{sp:World->Sp}{x:Str}
  (hn:l.most=some n) (nU:n<=sizeLine) (uI:d.params.defaults=[]) (hr:dm k callerA)
  (hY:∀(w:World) (h:Heap),YP w h->(K w.params).In h)
  (F:∀(w:World) (mg:Str->Option Value) (fa:Addr) (h:Heap),(K w.params).In h->h.Ns mainGlobals mg->mg d.name=some (.ref fa)->
   ∃fd:FuncData,(∀(s:Shared) (u:Value),BindsTo s fd ⟨[u],[]⟩ [(x,u)])/\
    ∀base:Heap,(K w.params).In base->base.Ns mainGlobals mg->cK l.prog w (K w.params) mg base (CX w) k fa fd [x] (sp w))
  (iU:∀(w:World) (H:Hp) (a:Addr) (ns:List Int),ns.length<=n->Bz H->ar (K w.params) H a (ns.map V.int)->sp w [.ref a] H (λv _=>v=.bl true) λ_ _ _=>False)
  (BA:∀(w:World) (H:Hp) (s:Shared) (e:Value) (s':Shared),CX w [] H s (λ_ _ _=>False) e s'->False):
  PySem.W.WalkO q loose XP YP l.row.toRowW d [] (λf vs=>PySem.call f vs):=by
 refine Hy.U9 hn uI λw s₀ s₁ mg mb fa o pm cd doc a vs ns G Y ho hd gJ j8 By hints hlen hg=>?_;have KX:=hY w _ Y;obtain⟨fd,hb,hF⟩:=F w mg fa _ KX G.T.g j8;exact U_ KX G.T.g G.T.b G.T.builtins G.T.nolimit hg By hints (zaw hlen nU) hr hF hb (λH hO hS=>iU w H a ns hlen hO hS) λH e s'=>BA w H s₁ e s'
end L2
namespace L2
open PySem PySem.Spec PyProof.Rows
def inClass(s:Stmt)(j:Nat):Stmt:=match s with
 |.ClassDef _ _ _ body _ _ _ _ _ _ _=>body.getD j (.Pass ⟨0,0,0,0⟩)
 |_=>.Pass ⟨0,0,0,0⟩
def iE(s:Stmt):Arguments:=match s with
 |.FunctionDef _ a _ _ _ _ _ _ _ _=>a
 |_=> {posonlyargs:=[],args:=[],vararg:=none,kwonlyargs:=[],kw_defaults:=[],kwarg:=none,defaults:=[]}
def dU(s:Stmt):List Stmt:=match s with
 |.FunctionDef _ _ b _ _ _ _ _ _ _=>b
 |_=>[]
def dW(s:Stmt):Scope:=match s with
 |.FunctionDef _ _ _ _ _ _ sc _ _ _=>sc
 |_=> {kind:=.function,names:=[],isGenerator:=false,isCoroutine:=false}
abbrev uK:cb:=λ_ _ _ _ _ _=>False
abbrev E0:XK:=λ_ _ _=>False
structure mG (K:Frag) (x qual:Str) (st:Stmt) (f:Addr) (fd:FuncData):Prop where
 ex:∃(oc:Value) (od:Option Addr) (kV doc pm:Value) (an:Option Addr) (bx ct:Value) (gw:Array (Option Value)),
  fd=PySem.W.fnOf x qual (iE st) (dU st) (dW st) .none kV doc pm an bx ct/\K.lookup f=some ⟨oc,od,.func fd,gw⟩/\PySem.W.codeIn K bx qual=true
 kp:PySem.W.keepIn K (.ref f)=true
section
variable {P:Program}{w:World}{K:Frag}{mg:Str->Option Value}{base:Heap}
theorem mG.binds{st:Stmt}{f:Addr}{fd:FuncData}{ps:List Str}(F:mG K x qual st f fd)
  (h:∀(kV doc pm:Value) (an:Option Addr) (bx ct:Value) (us:List Value),us.length=ps.length->bindArgs (PySem.W.fnOf x qual (iE st) (dU st) (dW st) .none kV doc pm an bx ct) ⟨us,[]⟩=pure (ps.zip us)):Binds K fd ps []:=by
 obtain⟨oc,od,kV,doc,pm,an,bx,ct,gw,zq⟩:=qx9 F.ex;obtain⟨rfl,lk,gJ⟩:=qa3 zq;exact .all<|h kV doc pm an bx ct
theorem HJ{st:Stmt}{f:Addr}{oc:Value}{od an:Option Addr}{gw:Array (Option Value)}{kV doc pm bx ct:Value}(l:K.lookup f=some ⟨oc,od,.func<|PySem.W.fnOf x qual (iE st) (dU st) (dW st) .none kV doc pm an bx ct,gw⟩)
  (c:PySem.W.codeIn K bx qual=true) (k:PySem.W.keepIn K (.ref f)=true):mG K x qual st f (PySem.W.fnOf x qual (iE st) (dU st) (dW st) .none kV doc pm an bx ct):=⟨⟨oc,od,kV,doc,pm,an,bx,ct,gw,rfl,l,c⟩,k⟩
end
theorem j9{B:Prop}(h:B):if false=true then A else B:=by lia
theorem gA{B:Prop}(h:A):if true=true then A else B:=by lia
theorem cZ{B:Prop}[Decidable c](h1:c->A)(h2:¬c->B):if c then A else B:=by lia
def av(H H':Hp):Prop:= ∀b o,H b=some o->H' b=some o
theorem av.refl(H:Hp):av H H:=λ_ _ h=>h
theorem av.trans(a:av H H1)(b:av H1 H2):av H H2:=λc o h=>b c o (a c o h)
theorem av.free(e:av H H'){l:Addr}(h:H' l=Option.none):H l=Option.none:=by
 cases q:H l with
 |none=>rfl
 |some o=>
  rw[e l o q] at h;cases h
theorem av.seq{K:Frag}{H H':Hp}{a:Addr}{xs:List V}(e:av H H')(h:ar K H a xs):ar K H' a xs:=by
 rcases h with(h|⟨o,h⟩)|h
 ·exact .inl (.inl<|e _ _ h)
 ·exact .inl (.inr ⟨o,e _ _ h⟩)
 ·exact .inr h
section
variable {κ:Type} [DecidableEq κ]
def HK(aS:List (κ×V))(k:κ):Option V:=(aS.find? λkv=>decide (kv.1=k)).map (·.2)
def putK(aS:List (κ×V))(k:κ)(v:V):List (κ×V):=
 if (aS.any λkv=>decide (kv.1=k))=true then aS.map (λkv=>if kv.1=k then (kv.1,v) else kv) else aS++[(k,v)]
end
def ya(H:Hp)(a:Addr)(y:V)(r:Option V):Prop:=
 (∃aS k,Rd H a (.dK aS)/\y=kV k/\r=HK aS k)\/∃aS k b,Rd H a (.dT aS)/\y=.ref b/\H b=some (.tup<|k.map kV)/\r=HK aS k
def Vf(H:Hp)(a:Addr)(y v:V)(H':Hp):Prop:=
 (∃aS k,H a=some (.dK aS)/\y=kV k/\aS.length<sizeLine/\H'=upd H a (.dK<|putK aS k v))\/
 ∃aS k b,H a=some (.dT aS)/\y=.ref b/\H b=some (.tup<|k.map kV)/\aS.length<sizeLine/\H'=upd H a (.dT<|putK aS k v)
def Vg(td ty:TE):TE:=λσ H Q=>td σ H λx H1=>ty σ H1 λy H2=>∃a v,x=.ref a/\ya H2 a y (some v)/\Q v H2
def HL(ty td:TE):TE:=λσ H Q=>ty σ H λy H1=>td σ H1 λx H2=>∃a o,x=.ref a/\ya H2 a y o/\Q (.bl o.isSome) H2
def HM(ty td:TE):TE:=λσ H Q=>ty σ H λy H1=>td σ H1 λx H2=>∃a o,x=.ref a/\ya H2 a y o/\Q (.bl<|!o.isSome) H2
def Vh(td ty tv:TE):TS:=λD σ H=>tv σ H λv H1=>td σ H1 λx H2=>ty σ H2 λy H3=>∃a H4,x=.ref a/\Vf H3 a y v H4/\D.nx σ H4
def Vi:TE:=λ_ H Q=>∀p,H p=none->Q (.ref p) (upd H p<|.dT [])
def Vj(H:Hp)(a:Addr):Prop:=(∃aS,Rd H a<|.dK aS)\/∃aS,Rd H a (.dT aS)
def Vk(td ty tx:TE):TE:=λσ H Q=>td σ H λx H1=>∃a,x=.ref a/\Vj H1 a/\ty σ H1 λy H2=>tx σ H2 λz H3=>∃o,ya H3 a y o/\Q (o.getD z) H3
end L2
set_option maxHeartbeats 4000000
namespace L2
open PySem PySem.Spec PyProof.Rows
section
variable {X:Cx}{pins:List (Addr×Obj)}{σ:St}{H:Hp}{s:Shared}{a:Addr}{o:HO}
theorem Inv.BB(I:Inv X pins σ H s)(hn:H a=none)(h0:X.s₀.heap.objs.size<=a)(hL:a≠X.env.locals)(hC:∀x c,X.env.cells.lookup x=some c->c≠a)
  (hp:∀p∈X.pn++pins,p.1≠a) (new:da X.prog X.w (upd H a o) s.heap a o):Inv X pins σ (upd H a o) s:=by
 have Vl:∀b u,X.s₀.heap.get? b=some u->b≠a:=λb u e=>zaf (zal (Heap.lt_size e) h0);have uL:∀b u,H b=some u->b≠a:=λb u e=>bf e hn;refine⟨I.ok,I.os,I.bare,⟨I.base.keep,I.base.slot,λb u e n hx=>?_,I.base.there,λb xs e=>?_,λb u xs e=>?_,λb ps e=>?_⟩,I.loc,I.cell,?_,λx c e=>?_,λp q=>?_,λb u e=>?_,I.len⟩
 ·rw[aI<|Vl b u e];exact I.base.free b u e n hx
 ·have z:=I.base.cz b xs e;rw[aI<|uL b _ z];exact z
 ·have z:=I.base.f_ b u xs e;rw[aI<|uL b _ z];exact z
 ·obtain⟨m,z⟩:=I.base.gI b ps e;exact⟨m,by rw[aI<|uL b _ z];exact z⟩
 ·rw[aI<|Ne.symm hL];exact I.free
 ·rw[aI<|hC x c e];exact I.g5 x c e
 ·obtain⟨z1,z2,z3⟩:=I.pin p q;exact⟨z1,by rw[aI<|hp p q];exact z2,z3⟩
 ·by_cases hb:b=a
  ·subst hb;rw[aw] at e;cases e;exact new
  ·rw[aI hb] at e;exact(I.aK b u e).ju (λ_ _ _ q=>q) (λc q=>by rw[aI<|uL c _ q];exact q) λc xs q=>by rw[aI<|uL c _ q];exact q
end
def d4(cells:List (Str×Addr)):List (Str×NameKind)->List (Str×Addr)->List (Str×Addr)
 |[],acc=>acc
 |(n,k)::r,acc=>d4 cells r (if k=.free then (n,(cells.lookup n).getD 0)::acc else acc)
theorem HN(env:Env):∀(names:List (Str×NameKind)) (acc:List (Str×Addr)),(∀y∈names,y.2=.free->∃c,env.cells.lookup y.1=some c)->
  (forIn names acc (fun(x:Str×NameKind) (cs:List (Str×Addr))=>match x with
   |(name,kind)=>if (kind==NameKind.free)=true then do let a <-cellOf env name;pure (ForInStep.yield ((name,a)::cs)) else pure (ForInStep.yield cs)):Sem (List (Str×Addr)))=pure (d4 env.cells names acc)
 |[],acc,_=>rfl
 |(n,k)::r,acc,h=>by
  have hr:=λBC=>HN env r BC λy hy=>h y (zam _ hy);by_cases hk:k=.free
  ·subst hk;obtain⟨c,e⟩:=h (n,.free) zat rfl;have e':cellOf env n=pure c:=by unfold cellOf;rw[e]
   have ec:d4 env.cells ((n,.free)::r) acc=d4 env.cells r ((n,c)::acc):=by simp[d4,e]
   rw[ec,<-hr]
   simp[e']
  ·have hb:=by simpa using hk
   have ec:d4 env.cells ((n,k)::r) acc=d4 env.cells r acc:=by simp[d4,hk]
   rw[ec,<-hr]
   simp[hb]
theorem Vm{env:Env}(h:∀y∈scope.names,y.2=.free->∃c,env.cells.lookup y.1=some c):closureFor scope env=pure (d4 env.cells scope.names []):=by
 have:=HN env scope.names [] h
 simp only[closureFor]
 rw[<-this]
 simp
theorem HP:∀(names:List (Str×NameKind)) (acc:List (Str×Addr)) (x:Str) (c:Addr),(d4 cells names acc).lookup x=some c->(acc.lookup x=some c)\/((x,.free)∈names/\(cells.lookup x).getD 0=c)
 |[],acc,x,c,h=>.inl h
 |(n,k)::r,acc,x,c,h=>by
  rcases HP r _ x c h with z|⟨z1,z2⟩
  ·by_cases hk:k=.free
   ·subst hk
    simp at z
    rw[zaV] at z;by_cases hx:x==n
    ·simp only[hx] at z
     have Vn:=eq_of_beq hx;subst Vn;exact .inr ⟨zat,zap z⟩
    ·have eU:(x==n)=false:=by lia
     simp only[eU] at z
     exact .inl z
   ·simp only[if_neg hk] at z
    exact .inl z
  ·exact .inr ⟨zam _ z1,z2⟩
theorem BD:∀(names:List (Str×NameKind)) (acc:List (Str×Addr)) (x:Str),((x,NameKind.free)∈names\/∃c,acc.lookup x=some c)->∃c,(d4 cells names acc).lookup x=some c
 |[],acc,x,h=>by
  rcases h with h|h
  ·cases h
  ·exact h
 |(n,k)::r,acc,x,h=>by
  refine BD r _ x ?_;rcases h with h|⟨c,h⟩
  ·rcases zaa.mp h with e|h
   ·cases e;refine .inr ?_
    simp
   ·exact .inl h
  ·refine .inr ?_;by_cases hk:k=.free
   ·simp only[if_pos hk,zaV]
    cases hx:x==n
    ·exact⟨c,h⟩
    ·exact⟨_,rfl⟩
   ·simp only[if_neg hk];exact⟨c,h⟩
theorem HQ{env:Env}:∀(names:List (Str×NameKind)) (x:Str),
  (names.map fun(n,k)=>if (k==NameKind.free && env.scope.kind==.function && env.kindOf n==some .cell) then (n,NameKind.cell) else (n,k)).lookup x=
   (names.lookup x).map λk=>if (k==NameKind.free && env.scope.kind==.function && env.kindOf x==some .cell) then NameKind.cell else k
 |[],_=>rfl
 |(n,k)::r,x=>by
  have ih:=HQ (env:=env) r x;show List.lookup x ((if (k==NameKind.free && env.scope.kind==.function && env.kindOf n==some .cell)=true then (n,NameKind.cell) else (n,k))::_)=_
  cases hx:x==n with
  |true=>
   have e:=eq_of_beq hx;subst e;by_cases hc:(k==NameKind.free && env.scope.kind==.function && env.kindOf x==some .cell)=true
   ·rw[if_pos hc];simp only[zaV,beq_self_eq_true,zbA];rw[if_pos hc]
   ·rw[if_neg hc];simp only[zaV,beq_self_eq_true,zbA];rw[if_neg hc]
  |false=>
   by_cases hc:(k==NameKind.free && env.scope.kind==.function && env.kindOf n==some .cell)=true
   ·rw[if_pos hc];simp only[zaV,hx];exact ih
   ·rw[if_neg hc];simp only[zaV,hx];exact ih
section
variable {prog:Program}{w:World}{A:Around}{R:Result->Shared->Prop}{s:Shared}
theorem Vo{target iter:Expr}{ifs:List Expr}{scope:Scope}{pos:Pos}{it acc:Value}{env:Env}(I:Nat->Shared->Prop)
  (turn:∀n s,I n s->wpAny (model prog w) A (pyNext it) (λr s₁=>match r with
   |none=>R (.ok .next) s₁
   |some v=>wpAny (model prog w) A (letOwnedTupleGo target it v) (λ_ HR=>wpAny (model prog w) A (assign target env v) (λ_ s₂=>
     wpAny (model prog w) A (forIn ifs true λc r=>if r=true then do let ok <-isTrue c env (eval c env);pure (ForInStep.yield ok) else pure (ForInStep.yield r)) (λok s₃=>
      if ok=true then wpAny (model prog w) A (eval elt env) (λx s₄=>
       wpAny (model prog w) A (call (.builtin "list.append") [acc,x]) (λ_ s₅=>∃m,m<n/\I m s₅) (λ_ _=>False) s₄) (λ_ _=>False) s₃
      else ∃m,m<n/\I m s₃) (λ_ _=>False) s₂) (λ_ _=>False) HR) (λ_ _=>False) s₁) (λ_ _=>False) s)
  (n:Nat) (h:I n s):codeAny (model prog w) A (.compLoop (.ListComp elt [⟨target,iter,ifs,0⟩] scope pos) 0 it acc env) R s:=by
 refine codeAny_loop rfl I (λn s hI=>wpAny_noted (wpAny_bind<|wpAny_standAt<|wpAny_bind<|wpAny_mono (turn n s hI) (λr s₁ h₁=>?_) λ_ _ h'=>h'.elim)) n h;cases r with
 |none=>exact wpAny_pure h₁
 |some v=>
  refine wpAny_bind<|wpAny_mono h₁ (λ_ HR Vp=>wpAny_bind<|wpAny_mono Vp (λ_ s₂ h₂=>wpAny_bind<|wpAny_mono h₂ (λok s₃ h₃=>?_) λ_ _ h'=>h'.elim) λ_ _ h'=>h'.elim) λ_ _ h'=>h'.elim;cases ok with
  |false=>exact wpAny_pure ⟨rfl,h₃⟩
  |true=>
   exact wpAny_bind<|wpAny_bind<|wpAny_mono h₃ (λx s₄ h₄=>wpAny_bind<|wpAny_mono h₄ (λ_ s₅ h₅=>wpAny_pure<|wpAny_pure ⟨rfl,h₅⟩) λ_ _ h'=>h'.elim) λ_ _ h'=>h'.elim
end
def hU(X:Cx)(scope:Scope)(N:List Str)(ex:List Addr)(C:Addr)(s:Shared)(H:Hp):Cx where
 prog:=X.prog
 w:=X.w
 K:=X.K
 mg:=X.mg
 base:=X.base
 A:=X.A
 N:=N
 s₀:=s
 H₀:=H
 env:=compEnvC scope (d4 X.env.cells scope.names []) C X.env
 outer:=X.stack
 stack:=X.stack
 ex:=ex
 fn:=λ_=>false
 calm:=X.calm
 pn:=[]
 xe:=λ_ _=>False
structure lF (X:Cx) (scope:Scope) (ln:List Str) (fv:List (Str×Nat)):Prop where
 kind:scope.kind=.function
 HS:∀y∈scope.names,y.2≠ .cell
 locals:∀y∈scope.names,y.2=.local->scope.names.lookup y.1=some .local
 free:∀y∈scope.names,y.2=.free->(X.env.kindOf y.1=some .cell\/X.env.kindOf y.1=some .free)
 Vq:∀p∈fv,X.N[p.2]?=some p.1/\scope.names.lookup p.1=some .free
def cW(σ:St)(fv:List (Str×Nat)):St:=fv.map λp=>(σ[p.2]?).join
def lG(K:Frag):Option Nat->V->Hp->(List V->Prop)->Prop
 |none,x,_,Q=>Q [x]
 |some n,x,H,Q=>if n=102 then ∃a xs,x=.ref a/\ar K H a xs/\xs.length=2/\Q xs else ∃a xs,x=.ref a/\aM K H a xs/\xs.length=n/\Q xs
theorem Vr{K:Frag}{n:Nat}{x:V}{H:Hp}{P Q:List V->Prop}(h:lG K (some n) x H P)(k:∀xs,P xs->Q xs):lG K (some n) x H Q:=by
 by_cases e:n=102
 ·have h:if n=102 then ∃a xs,x=.ref a/\ar K H a xs/\xs.length=2/\P xs else ∃a xs,x=.ref a/\aM K H a xs/\xs.length=n/\P xs:=h
  show if n=102 then ∃a xs,x=.ref a/\ar K H a xs/\xs.length=2/\Q xs else ∃a xs,x=.ref a/\aM K H a xs/\xs.length=n/\Q xs
  rw[if_pos e] at h⊢;obtain⟨a,xs,e1,e2,e3,q⟩:=h;exact⟨a,xs,e1,e2,e3,k _ q⟩
 ·have h:if n=102 then ∃a xs,x=.ref a/\ar K H a xs/\xs.length=2/\P xs else ∃a xs,x=.ref a/\aM K H a xs/\xs.length=n/\P xs:=h
  show if n=102 then ∃a xs,x=.ref a/\ar K H a xs/\xs.length=2/\Q xs else ∃a xs,x=.ref a/\aM K H a xs/\xs.length=n/\Q xs
  rw[if_neg e] at h⊢;obtain⟨a,xs,e1,e2,e3,q⟩:=h;exact⟨a,xs,e1,e2,e3,k _ q⟩
def n6:Option TT->TT
 |none=>λ_ H k=>k true H
 |some t=>t
def r9(K:Frag)(wi:TI)(tk:Option Nat)(fv:List (Str×Nat))(tc:Option TT)(te:TE):TE:=λσ H Q=>
 wi σ H λJ H1=>∃W:Nat->Nat->List V->Hp->Prop,(∃m,W 0 m [] H1)/\∀i m ys H2,W i m ys H2->
  (J.stop i H2/\∀p,H2 p=none->Q (.ref p) (upd H2 p<|.lst ys))\/
  (J.go i H2/\∀x H3,J.gK i H2 x H3->lG K tk x H3 λxs=>
   n6 tc (xs.map some++cW σ fv) H3 λb H5=>
    if b=true then te (xs.map some++cW σ fv) H5 λy H6=>ys.length<sizeLine/\∃m',m'<m/\W (i+1) m' (ys++[y]) H6
    else ∃m',m'<m/\W (i+1) m' ys H5)
section
variable {X:Cx}{pins:List (Addr×Obj)}{σ:St}{H:Hp}{s₂ s₃:Shared}{scope:Scope}{ln:List Str}{fv:List (Str×Nat)}{fp:List Addr}{h₁:Heap}{D C:Addr}{m:Str->Option Value}{t:Nat}
theorem lF.cells(S:lF X scope ln fv)(I:Inv X pins σ H s₂){x:Str}{c:Addr}(h:(d4 X.env.cells scope.names []).lookup x=some c):X.env.cells.lookup x=some c/\(x,NameKind.free)∈scope.names:=by
 rcases HP _ _ _ _ h with z|⟨z1,z2⟩
 ·cases z
 ·obtain⟨c',e⟩:=I.ok.has x (S.free _ z1 rfl);rw[e] at z2;subst z2;exact⟨e,z1⟩
theorem lF.HU(S:lF X scope ln fv)(I:Inv X pins σ H s₂):closureFor scope X.env=pure (d4 X.env.cells scope.names []):=
 Vm λy hy hk=>I.ok.has y.1 (S.free y hy hk)
theorem Vs(S:lF X scope ln fv)(I:Inv X pins σ H s₂)(f2:∀b∈fp,jx X pins H b)(mH:∀b∈fp,∃o,s₂.heap.get? b=some o)
  (os:s₃.os=s₂.os) (gens:s₃.gens=s₂.gens) (k3:∀b o,s₂.heap.get? b=some o->s₃.heap.get? b=some o) (hD:D=s₂.heap.objs.size) (h3:s₃.heap.objs.size=s₂.heap.objs.size+1) (hC:C=s₃.heap.objs.size)
  (k4:∀b o,s₃.heap.get? b=some o->h₁.get? b=some o) (x9:h₁.Ns C m):
  Inv (hU X scope (ln++fv.map (·.1)) (D::fp) C s₃ H) [] (ln.map (λ_=>none)++cW σ fv) H {s₃ with heap:=h₁,toks:=t}:=by
 have cl:∀{x c},(d4 X.env.cells scope.names []).lookup x=some c->X.env.cells.lookup x=some c:=λh=>(S.cells I h).1;have Vt:∀{x c},(d4 X.env.cells scope.names []).lookup x=some c->c<s₂.heap.objs.size:=λh=>by
  obtain⟨v,q⟩:=I.cell _ _ (cl h);exact q.lt
 have Vu:∀b∈fp,b<s₂.heap.objs.size:=λb hb=>by obtain⟨o,e⟩:=mH b hb;exact Heap.lt_size e
 have Vv:∀b∈D::fp,b<=s₂.heap.objs.size:=λb hb=>by
  rcases zaa.mp hb with e|hb
  ·rw[e,hD];exact zqR _
  ·exact Nat.le_of_lt (Vu b hb)
 have HV:∀x,(relabel scope X.env).names.lookup x=(scope.names.lookup x).map λk=>if (k==NameKind.free && X.env.scope.kind==.function && X.env.kindOf x==some .cell) then NameKind.cell else k:=λx=>HQ scope.names x
 have Vw:∀x,scope.names.lookup x=some .free->((relabel scope X.env).names.lookup x=some .cell\/(relabel scope X.env).names.lookup x=some .free):=λx e=>by
  rw[HV,e]
  simp only[zbA]
  split
  ·exact .inl rfl
  ·exact .inr rfl
 have Vx:∀x,((relabel scope X.env).names.lookup x=some .cell\/(relabel scope X.env).names.lookup x=some .free)->(x,NameKind.free)∈scope.names:=λx e=>by
  rw[HV] at e;cases q:scope.names.lookup x with
  |none=>rw[q] at e;rcases e with e|e<;>cases e
  |some k=>
   rw[q] at e;have hm:=PySem.mem_of_lookup q
   simp only[zbA] at e
   by_cases hk:k=.free
   ·rw[hk] at hm;exact hm
   ·have hb:(k==NameKind.free)=false:=by lia
    simp only[hb,Bool.false_and,zaR,if_false] at e
    rcases e with e|e
    ·exact absurd (zap e) (S.HS _ hm)
    ·exact absurd (zap e) hk
 refine⟨⟨I.ok.mod,S.kind,I.ok.glob,I.ok.blt,Nat.le_of_eq hC.symm,λx y c h1 h2=>I.ok.inj x y c (cl h1) (cl h2),λx hx=>BD _ _ x (.inl (Vx x hx)),λx c h _=>(by cases h),I.ok.hd,I.ok.frames,.inl rfl,λb hb=>⟨?_,λx c e=>?_⟩,λb o e=>⟨k3 b o (I.bs b o e).1,(I.bs b o e).2⟩,?_,λb o e hb=>?_,λb hb hf=>?_,?_,I.xr⟩,
  rfl,?_,Un.kept λb u e=>k4 b u e,⟨m,x9,λi x v e1 e2 e3=>?_⟩,λx c e=>?_,I.aK.fresh ?_,λx c e=>I.g5 x c (cl e),λp hp=>absurd (show p∈ ([]:List (Addr×Obj)) from hp) (by simp),I.aK.kept λb u e=>k4 b u (k3 b u e),?_⟩
 ·have:=Vv b hb;rw[hC,h3];exact zaf (Nat.lt_succ_of_le this)
 ·rcases zaa.mp hb with z|z
  ·rw[z,hD];exact zaf (Vt e)
  ·exact(f2 b z).2.2.2.2.1 x c (cl e)
 ·show X.base.objs.size<=s₃.heap.objs.size;have:=zaw I.ok.nQ I.sz;lia
 ·have e2:=(I.bs b o e).1;rcases zaa.mp hb with z|z
  ·have:=Heap.lt_size e2;rw[z,hD] at this;exact zay _ this
  ·rcases (f2 b z).2.2.2.1 with q|q
   ·exact I.ok.xo b o e q
   ·exact absurd (zal (Heap.lt_size (I.ok.bs b o e).1) q) (zay _)
 ·have HW:=hf;rcases zaa.mp hb with z|z
  ·rcases zaa.mp (I.xq b HW) with q|q
   ·have:=I.lt;rw[<-q,z,hD] at this;exact zay _ this
   ·exact I.F4 (by lia) q
  ·rcases zaa.mp (I.xq b HW) with q|q
   ·exact(f2 b z).2.1 q
   ·exact(f2 b z).2.2.1 q
 ·exact PySem.Heap.FunFrames.of_keeps (λb o e _=>⟨o,k3 b o e,rfl⟩) I.stack
 ·rw[gens];exact I.bare
 ·have hi:ln.length<=i:=by
   by_cases hi:i<ln.length
   ·exfalso
    rw[zbw (by simpa using hi),zaz] at e2
    cases q:ln[i]? with
    |none=>rw[q] at e2;cases e2
    |some y=>rw[q] at e2;cases e2
   ·lia
  have pX:(ln++fv.map (·.1))[i]?=some x:=e1;rw[zbj hi,zaz] at pX;rw[zbj (by simpa using hi),zah] at e2
  unfold cW at e2;rw[zaz] at e2;cases q:fv[i - ln.length]? with
  |none=>rw[q] at pX;cases pX
  |some p=>
   rw[q] at pX e2;have ex:p.1=x:=zap pX;have ev:(σ[p.2]?).join=some v:=zap e2;obtain⟨g1,g2⟩:=S.Vq p (zaj q);rw[ex] at g1 g2;have Vy:σ[p.2]?=some (some v):=by
    cases z:σ[p.2]? with
    |none=>rw[z] at ev;cases ev
    |some o=>rw[z] at ev;rw[show o=some v from ev]
   have hk:=S.free _ (PySem.mem_of_lookup g2) rfl;obtain⟨m2,nU,hl⟩:=I.loc;obtain⟨u,r,l⟩:=hl p.2 x v g1 Vy (by rcases hk with k|k;exact .inr (.inl k);exact .inr (.inr k))
   refine⟨u,r,.inr ?_⟩;rcases l with⟨k,_⟩|⟨_,c,ec,z⟩
   ·rcases hk with k'|k'<;>(rw[k] at k';cases k')
   ·refine⟨Vw x g2,c,?_,?_⟩
    ·obtain⟨c',e'⟩:=BD scope.names [] x (.inl<|PySem.mem_of_lookup g2);have:=cl e';rw[ec] at this;cases this;exact e'
    ·obtain⟨o,ho,hd⟩:=z;exact⟨o,k4 c o<|k3 c o ho,hd⟩
 ·obtain⟨v,o,ho,hd⟩:=I.cell x c (cl e);exact⟨v,o,k4 c o<|k3 c o ho,hd⟩
 ·rw[hC,h3];exact zaX _
 ·show(ln.map (λ_=>none)++cW σ fv).length=(ln++fv.map (·.1)).length
  simp[cW]
end
structure BE (Φ:Cx->Prop) (P:Program) (w:World) (K:Frag) (tg:Expr) (J:It) (fp:List Addr) (it:Addr) (tn:Nat->Heap->Prop):Prop where
 mem:it∈fp
 obj:∀i h,tn i h->∀b∈fp,∃o,h.get? b=some o/\∀v,o.data≠ .cell v
 keep:∀i h h',tn i h->(∀b∈fp,∀o,h.get? b=some o->h'.get? b=some o)->tn i h'
 item:∀(X:Cx),X.prog=P->X.w=w->X.K=K->Φ X->∀(i:Nat) (pins:List (Addr×Obj)) (s:Shared) (σ:St) (H:Hp) (E:Value->Shared->Prop),Inv X pins σ H s->(∀b∈fp,jx X pins H b)->tn i s.heap->J.go i H->
  wpAny (model P w) X.A (pyNext (.ref it)) (λr s1=>∃u,r=some u/\
   wpAny (model P w) X.A (letOwnedTupleGo tg (.ref it) u) (λ_ s2=>∃x H',Inv X pins σ H' s2/\RelV x u/\J.gK i H x H'/\tn (i+1) s2.heap/\∀b∈fp,H' b=none) E s1) E s
 done:∀(X:Cx),X.prog=P->X.w=w->X.K=K->Φ X->∀(i:Nat) (pins:List (Addr×Obj)) (s:Shared) (σ:St) (H:Hp) (E:Value->Shared->Prop),Inv X pins σ H s->(∀b∈fp,jx X pins H b)->tn i s.heap->J.stop i H->
  wpAny (model P w) X.A (pyNext<|.ref it) (λr s1=>r=none/\Inv X pins σ H s1) E s
 self:∀(A:Around) (i:Nat) (s:Shared) (Q:Value->Shared->Prop) (E:Value->Shared->Prop),tn i s.heap->Q (.ref it) s->wpAny (model P w) A (pyIter<|.ref it) Q E s
def yb(Φ:Cx->Prop)(X:Cx)(tg iter:Expr)(wi:TI):Prop:=
 ∀(pins:List (Addr×Obj)) (s:Shared) (σ:St) (H:Hp) (R:It->Hp->Prop),Inv X pins σ H s->wi σ H R->
  wpAny (model X.prog X.w) X.A (eval iter X.env) (λv s1=>wpAny (model X.prog X.w) X.A (pyIter v) (λpN s2=>
   ∃(it:Addr) (fp:List Addr) (tn:Nat->Heap->Prop) (J:It) (H':Hp),pN=.ref it/\Inv X pins σ H' s2/\BE Φ X.prog X.w X.K tg J fp it tn/\tn 0 s2.heap/\(∀b∈fp,jx X pins H' b)/\R J H') X.xe s1) X.xe s
abbrev Calm(X:Cx):Prop:=X.calm=true
theorem PI.p{tg iter:Expr}{wi:TI}(h:PI X tg iter wi):yb Calm X tg iter wi:=λpins s σ H R I q=>
 aV (h pins s σ H R I q) λv s1 h1=>aV h1 λpN s2 ⟨it,fp,tn,J,H',e,I',T,st,f,r⟩=>⟨it,fp,tn,J,H',e,I',⟨T.mem,T.obj,T.keep,T.item,T.done,T.self⟩,st,f,r⟩
section
variable {X:Cx}{pins:List (Addr×Obj)}{σ:St}{H:Hp}{s₂:Shared}{scope:Scope}{ln:List Str}{fv:List (Str×Nat)}{elt tg iter:Expr}{ifs:List Expr}{pos:Pos}
 {J:It}{fp:List Addr}{it:Addr}{tn:Nat->Heap->Prop}{tk:Option Nat}{tc:Option TT}{te:TE}{Qv:VK}{RR:Value->Addr->Result->Shared->Prop}{E:Value->Shared->Prop}
def yc(Ψ:Hp->Prop)(X:Cx)(scope:Scope)(ln:List Str)(fv:List (Str×Nat))(tg:Expr)(tk:Option Nat):Prop:=
 ∀(ex:List Addr) (C:Addr) (s:Shared) (H:Hp),Ψ H->∃g,PG (hU X scope (ln++fv.map (·.1)) ex C s H) tg g/\
  ∀(x:V) (pre φ:St) (H':Hp) (Q:St->Hp->Prop),pre.length=ln.length->lG X.K tk x H' (λxs=>xs.length=ln.length->Q (xs.map some++φ) H')->g x (pre++φ) H' Q
def ye(X:Cx)(scope:Scope)(ln:List Str)(fv:List (Str×Nat))(tg:Expr)(tk:Option Nat):Prop:=
 ∀(ex:List Addr) (C:Addr) (s:Shared) (H:Hp),∃g,PG (hU X scope (ln++fv.map (·.1)) ex C s H) tg g/\
  ∀(x:V) (pre φ:St) (H':Hp) (Q:St->Hp->Prop),pre.length=ln.length->lG X.K tk x H' (λxs=>xs.length=ln.length->Q (xs.map some++φ) H')->g x (pre++φ) H' Q
def yf(X:Cx)(scope:Scope)(N:List Str)(ifs:List Expr)(tc:Option TT):Prop:=
 match tc with
 |none=>ifs=[]
 |some t=>∃c,ifs=[c]/\∀(ex:List Addr) (C:Addr) (s:Shared) (H:Hp),PT (hU X scope N ex C s H) c t
theorem HX(S:lF X scope ln fv)(hc:∀Xc:Cx,Xc.A=X.A->Xc.calm=X.calm->Xc.H₀=H->Φ Xc)(hΨ:Ψ H)(hg:yc Ψ X scope ln fv tg tk)(ht:yf X scope (ln++fv.map (·.1)) ifs tc)
  (he:∀(ex:List Addr) (C:Addr) (s:Shared) (H:Hp),PE (hU X scope (ln++fv.map (·.1)) ex C s H) elt te)
  (I:Inv X pins σ H s₂) (T:BE Φ X.prog X.w X.K tg J fp it tn) (st:tn 0 s₂.heap) (f2:∀b∈fp,jx X pins H b)
  (h:∃W:Nat->Nat->List V->Hp->Prop,(∃m,W 0 m [] H)/\∀i m ys H2,W i m ys H2->
   (J.stop i H2/\∀p,H2 p=none->Qv (.ref p) (upd H2 p<|.lst ys))\/
   (J.go i H2/\∀x H3,J.gK i H2 x H3->lG X.K tk x H3 λxs=>
    n6 tc (xs.map some++cW σ fv) H3 λb H5=>
     if b=true then te (xs.map some++cW σ fv) H5 λy H6=>ys.length<sizeLine/\∃m',m'<m/\W (i+1) m' (ys++[y]) H6
     else ∃m',m'<m/\W (i+1) m' ys H5))
  (Vz:∀D C H' s' m,Inv X pins σ H' s'->s'.heap.Ns C m->H' C=none->C≠X.env.locals->X.s₀.heap.objs.size<=C->(∀x c,X.env.cells.lookup x=some c->c≠C)->(∀p∈X.pn++pins,p.1≠C)->Qv (.ref D) H'->RR (.ref D) C (.ok .next) s'):
  wpAny (model X.prog X.w) X.A (newList []) (λacc s₃=>wpAny (model X.prog X.w) X.A (newFunctionEnv scope X.env.globals (d4 X.env.cells scope.names []) [] X.env.qual none .none (some X.env)) (λHY s₄=>
   codeAny (model X.prog X.w) X.A (.compStart (.ListComp elt [⟨tg,iter,ifs,0⟩] scope pos) 0 (.ref it) acc {HY with scope:=relabel scope X.env}) (RR acc HY.locals) s₄) E s₃) E s₂:=by
 obtain⟨W,⟨m0,w0⟩,turn⟩:=h;refine wpAny_newObj_type<|wpAny_newFunctionEnv S.HS (by intro y hy;simp at hy) (λh₁ yg yh=>?_) S.kind
 dsimp only at yg yh⊢
 generalize yi:({s₂ with heap:=s₂.heap.push {cls:=.type "list",dict:=none,data:=.seq ([]:List Value).toArray}}:Shared)=s₃
 have j_:s₂.heap.push {cls:=.type "list",dict:=none,data:=.seq ([]:List Value).toArray}=s₃.heap:=by rw[<-yi]
 rw[j_] at yg yh⊢;have HZ:s₃.os=s₂.os:=by rw[<-yi]
 have VA:s₃.gens=s₂.gens:=by rw[<-yi]
 have pY:s₃.heap.objs.size=s₂.heap.objs.size+1:=by rw[<-j_,Heap.size_push]
 have k3:∀b o,s₂.heap.get? b=some o->s₃.heap.get? b=some o:=λb o e=>by rw[<-j_];exact Heap.get?_push_of_some _ e
 have k4:∀b o,s₃.heap.get? b=some o->h₁.get? b=some o:=λb o e=>yh.extBut b o (zaf<|Heap.lt_size e) (Heap.get?_push_of_some _ e);have gD:s₃.heap.get? s₂.heap.objs.size=some {cls:=.type "list",dict:=none,data:=.seq ([]:List Value).toArray}:=by rw[<-j_];exact Heap.get?_push_size _ rfl
 generalize eD:s₂.heap.objs.size=D at gD;generalize eC:s₃.heap.objs.size=C at yg yh⊢;have yj:D≠C:=by rw[<-eD,<-eC,pY];exact zaf (zbh _)
 have mH:∀b∈fp,∃o,s₂.heap.get? b=some o:=λb hb=>by obtain⟨o,e,_⟩:=T.obj 0 _ st b hb;exact⟨o,e⟩
 have H_:∀b∈fp,b≠D:=λb hb=>by obtain⟨o,e⟩:=mH b hb;rw[<-eD];exact zaf (Heap.lt_size e)
 have VB:∀b∈fp,b≠C:=λb hb=>by
  obtain⟨o,e⟩:=mH b hb;have:=Heap.lt_size e;rw[<-eC,pY];exact zaf (zaS this)
 generalize eX:hU X scope (ln++fv.map (·.1)) (D::fp) C s₃ H=Xc;have I4:∀t,Inv Xc [] (ln.map (λ_=>none)++cW σ fv) H {s₃ with heap:=h₁,toks:=t}:=λt=>by
  rw[<-eX];exact Vs S I f2 mH HZ VA k3 eD.symm pY eC.symm k4 yg
 have xL:Xc.env.locals=C:=by rw[<-eX];rfl
 have yk:Xc.ex=D::fp:=by rw[<-eX];rfl
 have VC:Xc.fs=bL X.stack:=by rw[<-eX];rfl
 have xP:Xc.prog=X.prog:=by rw[<-eX];rfl
 have xw:Xc.w=X.w:=by rw[<-eX];rfl
 have xK:Xc.K=X.K:=by rw[<-eX];rfl
 have xA:Xc.A=X.A:=by rw[<-eX];rfl
 have xc:Φ Xc:=hc Xc xA (by rw[<-eX];rfl) (by rw[<-eX];rfl)
 have Ia:Xc.pn=[]:=by rw[<-eX];rfl
 have BF:Xc.xe=λ_ _=>False:=by rw[<-eX];rfl
 have Ib:Xc.env.cells=d4 X.env.cells scope.names []:=by rw[<-eX];rfl
 have BG:Xc.env=compEnvC scope (d4 X.env.cells scope.names []) C X.env:=by rw[<-eX];rfl
 have cD:∀x c,Xc.env.cells.lookup x=some c->c≠D:=λx c e=>by
  rw[Ib] at e;obtain⟨v,q⟩:=I.cell x c (S.cells I e).1;rw[<-eD];exact zaf q.lt
 have cF:∀x c,Xc.env.cells.lookup x=some c->∀b∈fp,c≠b:=λx c e b hb=>by
  rw[Ib] at e;exact(f2 b hb).2.2.2.2.1 x c (S.cells I e).1
 have sF:∀b∈D::fp,b∉Xc.fs:=λb hb hf=>by
  have:=(I4 0).ok.xp b (by rw[yk];exact hb)
  exact this hf
 have pO:∀{H':Hp}{oD:Obj},(∀b∈fp,H' b=none)->∀b∈fp,jx Xc [(D,oD)] H' b:=λhn b hb=>
  ⟨hn b hb,by rw[xL];exact VB b hb,sF b (zam _ hb),.inl (by rw[yk];exact zam _ hb),λx c e=>cF x c e b hb,λp hp=>by
   rw[Ia] at hp;rcases zad.mp (show p∈ [(D,_)] from hp) with rfl
   exact(H_ b hb).symm⟩
 have loop:∀s₄:Shared,s₄={s₃ with heap:=h₁,toks:=s₃.toks+([]:List (Str×Value)).length}->
   codeAny (model X.prog X.w) X.A (.compLoop (.ListComp elt [⟨tg,iter,ifs,0⟩] scope pos) 0 (.ref it) (.ref D)<|compEnvC scope (d4 X.env.cells scope.names []) C X.env) (RR (.ref D) C) s₄:=by
  rintro s₄ rfl;refine Vo (λn s'=>qX6 λi pre ys its nn H'=>qA7 (Inv Xc [(D,{cls:=.type "list",data:=.seq (List.toArray its) nn})] (pre++cW σ fv) H' s') (pre.length=ln.length) (tn i s'.heap) (∀b∈fp,H' b=none) (Vals ys its) (ys.length<=sizeLine) (W i n ys H')) ?_ m0
   ⟨0,ln.map<|λ_=>none,[],[],0,H,(I4 _).rP<|λp hp=>?_,by simp,T.keep 0 _ _ st<|λb _ o e=>k4 b o<|k3 b o e,λb hb=>(f2 b hb).1,.nil,zqZ _,w0⟩
  rotate_left
  ·have r_:=zad.mp hp;subst r_;refine⟨k4 _ _ gD,I.aK.fresh<|Nat.le_of_eq eD,by rw[xL];exact yj,sF D zat,λv z=>by cases z⟩
  rintro n s' ⟨i,pre,ys,its,nn,H',I',mF,gf,Ic,hv,hz,w'⟩;have ajS:=I'.pin (D,_) (zaB _ zat);rcases turn i n ys H' w' with⟨stop,qn⟩|⟨go,step⟩
  ·have td:=T.done Xc xP xw xK xc i _ s' _ H' (λ_ _=>False) I' (pO Ic) gf stop;rw[xA] at td;refine aV td λr s1 ⟨hr,I1⟩=>?_;subst hr;have BH:=I1.pin (D,_) (zaB _ zat);have b1:=I1.base;rw[VC,yk] at b1;have Ie:Xc.s₀=s₃:=by rw[<-eX];rfl
   have VD:Xc.H₀=H:=by rw[<-eX];rfl
   rw[Ie,VD] at b1;have nD:∀b o,s₂.heap.get? b=some o->b∉fp->b∉D::fp:=λb o e hb hm=>by
    rcases zaa.mp hm with z|z
    ·have:=Heap.lt_size e;rw[z,eD] at this;exact zay _ this
    ·exact hb z
   have un:Un (bL X.stack) fp H H' s₂.heap s1.heap:=⟨λb o e nb hb hx=>b1.keep b o (k3 b o e) nb hb (nD b o e hx),λb o e nb hb hx=>b1.slot b o (k3 b o e) nb hb (nD b o e hx),λb o e nb hx=>b1.free b o (k3 b o e) nb (nD b o e hx),
    λb o e hx=>b1.there b o (k3 b o e) (nD b o e hx),b1.cz,b1.f_,b1.gI⟩
   have VE:s1.os=s₂.os:=by rw[I1.os,Ie,HZ]
   have Ig:=I1.aK;rw[xP,xw] at Ig;have J1:Inv X pins σ H' s1:=I.AR VE un Ig I1.bare λb hb=>⟨(f2 b hb).2.2.2.1,(f2 b hb).2.1,(f2 b hb).2.2.2.2.1,(f2 b hb).2.2.2.2.2⟩;have VF:∀x c,X.env.cells.lookup x=some c->c≠D:=λx c e=>by
    obtain⟨v,q⟩:=I.cell x c e;rw[<-eD];exact zaf q.lt
   have VG:∀x c,X.env.cells.lookup x=some c->c≠C:=λx c e=>by
    obtain⟨v,q⟩:=I.cell x c e;rw[<-eC,pY];exact zaf (zaS q.lt)
   have pD:∀p∈X.pn++pins,p.1≠D:=λp hp=>by rw[<-eD];exact zaf (Heap.lt_size (I.pin p hp).1)
   have pC:∀p∈X.pn++pins,p.1≠C:=λp hp=>by
    rw[<-eC,pY];exact zaf (zaS<|Heap.lt_size (I.pin p hp).1)
   have lD:D≠X.env.locals:=by rw[<-eD];exact zbg I.lt
   have lC:C≠X.env.locals:=by
    rw[<-eC,pY];exact zbg (zaS I.lt)
   have J2:Inv X pins σ (upd H' D<|.lst ys) s1:=Inv.BB J1 BH.2.1 (by rw[<-eD];exact I.sz) lD VF pD ⟨hz,its,nn,hv,BH.1⟩
   obtain⟨mC,Ih,_⟩:=I1.loc;rw[xL] at Ih;have fC:H' C=none:=by have:=I1.free;rw[xL] at this;exact this
   exact Vz D C _ s1 mC J2 Ih (by rw[aI<|Ne.symm yj];exact fC) lC (by rw[<-eC,pY];exact Nat.le_succ_of_le I.sz) VG pC<|qn D BH.2.1
  ·have ti:=T.item Xc xP xw xK xc i _ s' _ H' (λ_ _=>False) I' (pO Ic) gf go;rw[xA] at ti;refine aV ti λr s4 ⟨u,hr,h4⟩=>?_;subst hr;refine aV h4 λ_ s5 ⟨x,H5,I5,r5,y5,pP,AZ⟩=>?_;have uA:=I5.pinned (pO AZ) (T.obj _ _ pP);obtain⟨g,pg,gq⟩:=hg (D::fp) C s₃ H hΨ;rw[eX] at pg;have rd:=step x H5 y5;have Ii:=pg _ s5 _ H5 x u (λσ6 H6=>qX1 λ(xs:List V)=>qA4 (σ6=xs.map some++cW σ fv) (xs.length=ln.length) (H6=H5) (n6 tc (xs.map some++cW σ fv) H5 λb H5=>
     if b=true then te (xs.map some++cW σ fv) H5 λy H6=>ys.length<sizeLine/\∃m',m'<n/\W (i+1) m' (ys++[y]) H6
     else ∃m',m'<n/\W (i+1) m' ys H5)) uA r5 (gq x pre (cW σ fv) H5 _ mF (by
      cases tk with
      |none=>exact λhl=>⟨_,rfl,hl,rfl,rd⟩
      |some k=>exact Vr rd λxs rd hl=>⟨xs,rfl,hl,rfl,rd⟩))
   rw[xA,xP,xw,BF,BG] at Ii;refine aV Ii λ_ s6 ⟨σ6,H6,I6,xs,e6,n_,eH,Ij⟩=>?_;subst e6 eH;have Ik:∀{H7:Hp}{σ7:St}{s7:Shared},Inv Xc ([(D,{cls:=.type "list",data:=.seq (List.toArray its) nn})]++rV fp s5.heap) σ7 H7 s7->tn (i+1) s7.heap/\(∀b∈fp,H7 b=none)/\s7.heap.get? D=some {cls:=.type "list",data:=.seq (List.toArray its) nn}/\H7 D=none:=λ{H7 σ7 s7} I7=>by
    refine⟨T.keep _ _ _ pP λb hb o e=>(I7.pin (b,o)<|zaB _<|zaB _<|xG hb e).1,λb hb=>?_,?_,?_⟩
    ·obtain⟨o,e,d⟩:=T.obj _ _ pP b hb;exact(I7.pin (b,o)<|zaB _<|zaB _<|xG hb e).2.1
    ·exact(I7.pin (D,_)<|zaB _<|zaG _ zat).1
    ·exact(I7.pin (D,_)<|zaB _<|zaG _ zat).2.1
   have tests:wpAny (model X.prog X.w) X.A (forIn ifs true λc r=>if r=true then do let ok <-isTrue c (compEnvC scope (d4 X.env.cells scope.names []) C X.env) (eval c<|compEnvC scope (d4 X.env.cells scope.names []) C X.env);pure (ForInStep.yield ok) else pure (ForInStep.yield r))
     (λok s7=>∃H7,Inv Xc ([(D,{cls:=.type "list",data:=.seq (List.toArray its) nn})]++rV fp s5.heap) (xs.map some++cW σ fv) H7 s7/\
      if ok=true then te (xs.map some++cW σ fv) H7 λy H6=>ys.length<sizeLine/\∃m',m'<n/\W (i+1) m' (ys++[y]) H6
      else ∃m',m'<n/\W (i+1) m' ys H7) (λ_ _=>False) s6:=by
    cases tc with
    |none=>
     have BI:ifs=[]:=ht;subst BI;exact wpAny_tests_nil ⟨_,I6,Ij⟩
    |some t=>
     obtain⟨c,BI,pt⟩:=(show ∃c,ifs=[c]/\∀(ex:List Addr) (C:Addr) (s:Shared) (H:Hp),PT (hU X scope (ln++fv.map (·.1)) ex C s H) c t from ht)
     subst BI;have Il:=pt (D::fp) C s₃ H;rw[eX] at Il;have q:=Il _ s6 _ _ _ I6 Ij;rw[xA,xP,xw,BF,BG] at q;exact wpAny_tests_one<|aV q λb s7 ⟨H7,I7,q7⟩=>⟨H7,I7,q7⟩
   refine aV tests λok s7 ⟨H7,I7,q7⟩=>?_;cases ok with
   |false=>
    simp only[zaR,if_false] at q7⊢
    obtain⟨m',hm,w7⟩:=q7;obtain⟨t7,f7,d7,n7⟩:=Ik I7;refine⟨m',hm,i+1,xs.map some,ys,its,nn,H7,I7.rP<|λp hp=>?_,by simpa using n_,t7,f7,hv,hz,w7⟩
    exact I7.pin p<|zaB _<|zaG _ hp
   |true=>
    simp only[if_true] at q7⊢
    have q:=he (D::fp) C s₃ H;rw[eX] at q;have q:=q _ s7 _ H7 _ I7 q7;rw[xA,xP,xw,BF,BG] at q;refine aV q λuy s8 ⟨y,H8,I8,r8,aU,m',hm,w8⟩=>?_;obtain⟨t8,f8,d8,n8⟩:=qa4 (Ik I8);have hl:=hv.length;refine call_meets F.slot_list_append ⟨_,d8,rfl⟩ F.entry_list_append (F.args_list_append_2 _ _) (PySem.list_append D its.toArray nn uy (by rw[zag];lia)) ⟨d8,?_⟩
    have I9:=λt=>
     (I8.rP (pins':=[])<|λp hp=>absurd hp (by simp)).turned (it:=D) (t':=t) (λb o hb e=>(Heap.get?_update_other s8.heap (Obj.mapSeq (·.push uy))<|Ne.symm hb).trans e) n8 (by rw[xL];exact yj) (.inl (by rw[yk];exact zat)) cD
      (λp hp=>by rw[Ia] at hp;exact absurd hp (by simp))
    have g9:=PySem.IsL.update d8 (·.push uy);obtain⟨n9,VH⟩:∃n9,(s8.heap.update D (Obj.mapSeq (·.push uy))).get? D=some {cls:=.type "list",data:=.seq (its++[uy]).toArray n9}:=
     ⟨_,by rw[show(its++[uy]).toArray=its.toArray.push uy by simp];exact g9⟩
    refine⟨m',hm,i+1,xs.map some,ys++[y],its++[uy],n9,H8,(I9 _).rP<|λp hp=>?_,by simpa using n_,?_,f8,hv.append<|.cons r8 .nil,?_,w8⟩
    ·have r_:=zad.mp hp;subst r_;exact⟨VH,n8,by rw[xL];exact yj,sF D zat,λv z=>by cases z⟩
    ·exact T.keep _ _ _ t8 λb hb o e=>(Heap.get?_update_other s8.heap (Obj.mapSeq (·.push uy))<|Ne.symm<|H_ b hb).trans e
    ·rw[zqA,zba];lia
 have VI:tn 0 h₁:=T.keep 0 _ _ st λb _ o e=>k4 b o (k3 b o e);have e4:({s₂ with heap:=h₁,toks:=s₂.toks+([]:List (Str×Value)).length}:Shared)={s₃ with heap:=h₁,toks:=s₃.toks+([]:List (Str×Value)).length}:=by rw[<-yi]
 exact codeAny_compStart_list (loop _ e4)<|T.self X.A 0 _ _ _ VI<|loop _ e4
end
section
variable {X:Cx}{scope:Scope}{ln:List Str}{fv:List (Str×Nat)}{elt tg iter:Expr}{ifs:List Expr}{pos:Pos}{wi:TI}{tk:Option Nat}{tc:Option TT}{te:TE}
theorem VJ{Ψ:Hp->Prop}(S:lF X scope ln fv)(hc:∀H,Ψ H->∀Xc:Cx,Xc.A=X.A->Xc.calm=X.calm->Xc.H₀=H->Φ Xc)(hΨ:∀pins σ H s,Inv X pins σ H s->Ψ H)(hi:yb Φ X tg iter wi)(hg:yc Ψ X scope ln fv tg tk)(ht:yf X scope (ln++fv.map (·.1)) ifs tc)
  (he:∀(ex:List Addr) (C:Addr) (s:Shared) (H:Hp),PE (hU X scope (ln++fv.map (·.1)) ex C s H) elt te) (hs:∀x,foldedSetIterable iter X.env x=pure x:=by intro _;rfl):
  PE X (.ListComp elt [⟨tg,iter,ifs,0⟩] scope pos) (r9 X.K wi tk fv tc te):=by
 intro pins s σ H Q I h;refine wpAny_comprehension_free rfl hs (S.HU I) S.kind S.locals<|aV (hi pins s σ H _ I h) λv s1 h1=>aV h1 λpN s2 h2=>?_;obtain⟨it,fp,tn,J,H2,zq⟩:=qx5 h2;obtain⟨e,I2,T,uz,f2,hW⟩:=qa6 zq;subst e;refine HX S (hc H2<|hΨ _ _ _ _ I2) (hΨ _ _ _ _ I2) hg ht he I2 T uz f2 hW ?_;intro D C H' s' m I' ns hn hL h0 yl hp q;exact⟨m,ns,λh' sb=>⟨.ref D,H',I'.turned (λb o hb e=>sb.extBut b o hb e) hn hL (.inr h0) yl hp,rfl,q⟩⟩
theorem VL{Ψ:Hp->Prop}{i:Nat}{y:Str}{py Im:Pos}(hN:X.N.Nodup)(cL:X.N[i]?=some y)(hy:Loc X.env.scope y)(VM:swapsWith (.ListComp elt [⟨tg,iter,ifs,0⟩] scope pos) (some<|.Name y py) Im.line X.env=pure true)
  (S:lF X scope ln fv) (hc:∀H,Ψ H->∀Xc:Cx,Xc.A=X.A->Xc.calm=X.calm->Xc.H₀=H->Φ Xc) (hΨ:∀pins σ H s,Inv X pins σ H s->Ψ H) (hi:yb Φ X tg iter wi) (hg:yc Ψ X scope ln fv tg tk) (ht:yf X scope (ln++fv.map (·.1)) ifs tc)
  (he:∀(ex:List Addr) (C:Addr) (s:Shared) (H:Hp),PE (hU X scope (ln++fv.map (·.1)) ex C s H) elt te) (hs:∀x,foldedSetIterable iter X.env x=pure x:=by intro _;rfl)
  (hf:X.fn y=true\/X.env.scope.names.lookup y=some .local:=by first|exact .inl rfl|exact .inr rfl|assumption):
  PS X (.Assign [.Name y py] (.ListComp elt [⟨tg,iter,ifs,0⟩] scope pos) Im) (k_ (r9 X.K wi tk fv tc te)<|eS i):=by
 intro pins s σ H D I h;rw[exec_Assign_Name_used _ _ _ _ VM];refine wpAny_bind<|wpAny_standAt<|wpAny_bind ?_
 refine wpAny_bind (wpAny_mono (wpAny_comprehension_free rfl hs (S.HU I) S.kind S.locals
  (aV (hi pins s σ H _ I h) λv s1 h1=>aV h1 λpN s2 h2=>?_)) (λ_ s' hq=>wpAny_pure (wpAny_pure hq)) λ_ _ e=>e)
 obtain⟨it,fp,tn,J,H2,zq⟩:=qx5 h2;obtain⟨e,I2,T,uz,f2,hW⟩:=qa6 zq;subst e;refine HX (Qv:=λx H1=>eS i x σ H1 D.nx) S (hc H2<|hΨ _ _ _ _ I2) (hΨ _ _ _ _ I2) hg ht he I2 T uz f2 hW ?_;intro Da C H' s' m I' ns hn hL h0 yl hp q;refine wpAny_assign_Name<|F8 I' hN cL hy (v:=.ref Da) rfl (λs4 I4 ⟨a,sb,ha⟩=>?_) hf;have VN:C≠a:=by
  rcases ha with z|z
  ·rw[z];exact hL
  ·exact Ne.symm (yl _ _ z)
 exact⟨m,ns.sameBut sb VN,λh' VO=>⟨_,H',I4.turned (λb o hb e=>VO.extBut b o hb e) hn hL (.inr h0) yl hp,q⟩⟩
theorem VP(S:lF X scope ln fv)(hc:X.calm=true)(hi:PI X tg iter wi)(hg:ye X scope ln fv tg tk)(ht:yf X scope (ln++fv.map (·.1)) ifs tc)
  (he:∀(ex:List Addr) (C:Addr) (s:Shared) (H:Hp),PE (hU X scope (ln++fv.map (·.1)) ex C s H) elt te) (hs:∀x,foldedSetIterable iter X.env x=pure x:=by intro _;rfl):
  PE X (.ListComp elt [⟨tg,iter,ifs,0⟩] scope pos) (r9 X.K wi tk fv tc te):=
 VJ S (λ_ _ Xc _ e _=>e.trans hc) (λ_ _ _ _ _=>trivial) hi.p (λex C s H _=>hg ex C s H) ht he hs
end
section
variable {X:Cx}{scope:Scope}{fv:List (Str×Nat)}
theorem VQ(hl:scope.names.lookup x=some .local)(pZ:(x::fv.map (·.1)).Nodup):ye X scope [x] fv (.Name x px) none:=by
 intro ex C s H;have VR:Loc (hU X scope ([x]++fv.map (·.1)) ex C s H).env.scope x:=.inl (lookup_relabel_local hl);refine⟨eS 0,rS pZ rfl VR<|.inr<|lookup_relabel_local hl,λv pre φ H' Q hp h=>?_⟩;obtain⟨a,rfl⟩:∃a,pre=[a]:=by
  match pre,hp with
  |[a],_=>exact⟨a,rfl⟩
 exact h rfl
theorem VS{k:Nat}(hc:X.calm=true)(hx:scope.names.lookup x=some .local)(hy:scope.names.lookup y=some .local)(pZ:(x::y::fv.map (·.1)).Nodup):ye X scope [x,y] fv (.Tuple [.Name x px,.Name y py] k pos) (some 2):=by
 intro ex C s H;generalize eX:hU X scope ([x,y]++fv.map (·.1)) ex C s H=Xc;have xN:Xc.N=x::y::fv.map (·.1):=eX▸rfl
 have xc:Xc.calm=true:=eX▸hc
 have lx:Xc.env.scope.names.lookup x=some .local:=eX▸lookup_relabel_local hx
 have ly:Xc.env.scope.names.lookup y=some .local:=eX▸lookup_relabel_local hy
 have p1:PG Xc (.Name x px) (eS 0):=rS (by lia) (xN▸rfl) (.inl lx) (.inr lx)
 have p2:PG Xc (.Name y py) (eS 1):=rS (by lia) (xN▸rfl) (.inl ly) (.inr ly)
 have xK:Xc.K=X.K:=eX▸rfl
 refine⟨xB Xc.K 2<|rT (eS 0)<|rT (eS 1) xy,Gy xc<|uv p1<|uv p2 AW,λv pre φ H' Q hp h=>?_⟩;obtain⟨a,b,rfl⟩:∃a b,pre=[a,b]:=by
  match pre,hp with
  |[a,b],_=>exact⟨a,b,rfl⟩
 obtain⟨a',xs,rfl,e2,e3,q⟩:=h;obtain⟨v1,v2,rfl⟩:∃v1 v2,xs=[v1,v2]:=by
  match xs,e3 with
  |[v1,v2],_=>exact⟨v1,v2,rfl⟩
 exact⟨a',_,rfl,by lia,rfl,v1,_,rfl,v2,_,rfl,rfl,q rfl⟩
theorem bG.imp{r r':R2}(h:bG X f r)(i:∀x y H Q,r' x y H Q->r x y H Q):bG X f r':=λpins s σ H x y v u Q I rx ry q=>h pins s σ H x y v u Q I rx ry (i _ _ _ _ q)
theorem cj.imp{r r':List V->Hp->VK->Prop}(h:cj X f r)(i:∀xs H Q,r' xs H Q->r xs H Q):cj X f r':=λpins s σ H xs us Q I rv q=>h pins s σ H xs us Q I rv (i _ _ _ q)
def Io(K:Frag):R2:=λx y H Q=>match x,y with
 |.int i,.int j=>Q (.int<|i+j) H
 |.str i,.str j=>i.length+j.length<=sizeLine/\Q (.str<|i++j) H
 |.ref l,.ref b=>Hw (.ref l) (.ref b) H Q\/Hk K (.ref l) (.ref b) H Q
 |_,_=>False
theorem VT:bG X (binaryOp .Add) (Io X.K):=by
 refine bG.imp ((SO.or Tn).or<|UZ.or Ut) λx y H Q h=>?_;cases x<;>cases y<;>first
  |exact False.elim h
  |exact .inl (.inl ⟨_,_,rfl,rfl,h⟩)
  |exact .inl (.inr ⟨_,_,rfl,rfl,h⟩)
  |exact .inr h
def lI(C:Int->Int->Prop)(g:Int->Int->V):R2:=λx y H Q=>match x,y with
 |.int i,.int j=>C i j/\Q (g i j) H
 |_,_=>False
theorem BJ{g:Int->Int->V}(x y:V)(H:Hp)(Q:VK)(h:lI C g x y H Q):rI C g x y H Q:=by
 cases x<;>cases y<;>first
  |exact False.elim h
  |exact⟨_,_,rfl,rfl,h⟩
theorem uM(x y:V)(H:Hp)(Q:VK)(h:lI (λ_ _=>True) g x y H Q):my g x y H Q:=by
 cases x<;>cases y<;>first
  |exact False.elim h
  |exact⟨_,_,rfl,rfl,h.2⟩
def Ip:R2:=λx y H Q=>match x,y with
 |.int i,.int j=>xM i j/\Q (.int<|i*j) H
 |.ref l,.int k=>Hx (.ref l) (.int k) H Q
 |_,_=>False
theorem VU:bG X (binaryOp .Mult) Ip:=by
 refine bG.imp (SR.or U0) λx y H Q h=>?_;cases x<;>cases y<;>first
  |exact False.elim h
  |exact .inl ⟨_,_,rfl,rfl,h⟩
  |exact .inr h
def lJ(K:Frag):Operator->R2
 |.Add=>Io K
 |.Sub=>lI (λ_ _=>True) λi j=>.int (i - j)
 |.Mult=>Ip
 |.FloorDiv=>lI A7 λi j=>.int (i / j)
 |.Mod=>lI (λ_ j=>0<j) λi j=>.int (i % j)
 |.Pow=>lI GN λi j=>.int (i ^ j.toNat)
 |_=>λ_ _ _ _=>False
theorem VV(op:Operator):bG X (binaryOp op) (lJ X.K op):=by
 cases op<;>first
  |exact VT
  |exact bG.imp SQ uM
  |exact VU
  |exact bG.imp SS BJ
  |exact bG.imp SU BJ
  |exact bG.imp SV BJ
  |exact λ_ _ _ _ _ _ _ _ _ _ _ _ h=>False.elim h
mutual
def Is(H:Hp):PyData->V->Prop
 |.none,v=>v=.aB
 |.bool b,v=>v=.bl b
 |.int i,v=>v=.int i
 |.str x,v=>v=.str x
 |.list xs,v=>∃a vs,v=.ref a/\H a=some (.lst vs)/\IsL H xs vs
 |.tuple xs,v=>∃a vs,v=.ref a/\H a=some (.tup vs)/\IsL H xs vs
 |.dict _,_=>False
def IsL(H:Hp):List PyData->List V->Prop
 |[],vs=>vs=[]
 |d::ds,vs=>∃v r,vs=v::r/\Is H d v/\IsL H ds r
end
mutual
theorem Is.reads{pins:List (Addr×Obj)}{σ:St}{H:Hp}{s:Shared}(I:Inv X pins σ H s):∀(d:PyData) (v:V) (u:Value),Is H d v->RelV v u->∃as,Reads s.heap u d as
 |.none,v,u,h,r=>by rw[show v=.aB from h] at r;rw[show u=.none from r];exact⟨_,.none⟩
 |.bool b,v,u,h,r=>by rw[show v=.bl b from h] at r;rw[show u=.bool b from r];exact⟨_,.bool b⟩
 |.int i,v,u,h,r=>by rw[show v=.int i from h] at r;obtain⟨t,e⟩:=r;rw[e];exact⟨_,.int i t⟩
 |.str x,v,u,h,r=>by rw[show v=.str x from h] at r;obtain⟨t,e⟩:=r;rw[e];exact⟨_,.str x t⟩
 |.list xs,v,u,h,r=>by
  obtain⟨a,vs,e,hH,hl⟩:=(show ∃a vs,v=.ref a/\H a=some (.lst vs)/\IsL H xs vs by simpa only[Is] using h)
  rw[e] at r;rw[show u=.ref a from r]
  obtain⟨_,its,n,hv,hg⟩:=I.aK a _ hH;obtain⟨as,q⟩:=IsL.reads I xs vs its hl hv;exact⟨_,.list hg rfl rfl (by simpa using q)⟩
 |.tuple xs,v,u,h,r=>by
  obtain⟨a,vs,e,hH,hl⟩:=(show ∃a vs,v=.ref a/\H a=some (.tup vs)/\IsL H xs vs by simpa only[Is] using h)
  rw[e] at r;rw[show u=.ref a from r]
  obtain⟨_,its,hv,o,hg,hc,n,hd⟩:=I.aK a _ hH;obtain⟨as,q⟩:=IsL.reads I xs vs its hl hv;exact⟨_,.tuple hg hc hd (by simpa using q)⟩
 |.dict _,v,u,h,r=>by simp only[Is] at h
theorem IsL.reads{pins:List (Addr×Obj)}{σ:St}{H:Hp}{s:Shared}(I:Inv X pins σ H s):∀(ds:List PyData) (vs:List V) (us:List Value),IsL H ds vs->Vals vs us->∃as,ReadsAll s.heap us ds as
 |[],vs,us,h,r=>by
  rw[show vs=[] from h] at r
  cases r;exact⟨_,.nil⟩
 |d::ds,vs,us,h,r=>by
  obtain⟨v,q,e,h1,h2⟩:=(show ∃v r,vs=v::r/\Is H d v/\IsL H ds r by simpa only[IsL] using h)
  rw[e] at r;cases r with
  |cons r1 r2=>
   obtain⟨as,q1⟩:=Is.reads I d v _ h1 r1;obtain⟨bs,q2⟩:=IsL.reads I ds q _ h2 r2;exact⟨_,.cons q1 q2⟩
end
def VW:V->Bool
 |.jt _=>false
 |.gr _=>false
 |_=>true
def VX:R2:=λx y H Q=>∃a b xs,x=.ref a/\y=.ref b/\H a=some (.lst xs)/\H b=some (.lst xs)/\xs.all VW=true/\Q (.bl true) H
def mI(neg:Bool):R2:=λx y H Q=>match lq x y with
 |true=>Q (.bl<|neg ^^ decide (x=y)) H
 |false=>∃d e,Is H d x/\Is H e y/\SeqAt.shaped d=true/\SeqAt.shaped e=true/\Q (.bl<|neg ^^ PyData.eqv d e) H
def VY:R2:=λx y H Q=>mI false x y H Q\/VX x y H Q
theorem VZ(hu:X.A.units+64<cLine):bG X (compareOp .Eq) (mI false):=by
 intro pins s σ H x y v u Q I rx ry h;unfold mI at h;by_cases hs:lq x y=true
 ·rw[hs] at h
  simp at h
  exact S6 pins s σ H x y v u Q I rx ry ⟨hs,h⟩
 ·rw[show lq x y=false by lia] at h
  obtain⟨d,e,h1,h2,h3,h4,q⟩:=h;rw[zaI] at q;obtain⟨as,r1⟩:=Is.reads I d x v h1 rx;obtain⟨bs,r2⟩:=Is.reads I e y u h2 ry;exact eq_dataH r1 r2 h3 h4 hu ⟨.bl _,H,I,rfl,q⟩
theorem V0(hu:X.A.units+64<cLine):bG X (compareOp .NotEq) (mI true):=by
 intro pins s σ H x y v u Q I rx ry h;unfold mI at h;by_cases hs:lq x y=true
 ·rw[hs] at h
  simp at h
  exact S7 pins s σ H x y v u Q I rx ry ⟨hs,h⟩
 ·rw[show lq x y=false by lia] at h
  obtain⟨d,e,h1,h2,h3,h4,q⟩:=h;rw[zaN] at q;obtain⟨as,r1⟩:=Is.reads I d x v h1 rx;obtain⟨bs,r2⟩:=Is.reads I e y u h2 ry;exact ne_dataH r1 r2 h3 h4 hu ⟨.bl _,H,I,rfl,q⟩
def ajT(K:Frag)(H:Hp)(a:Addr):Prop:=(∃xs,ar K H a xs)\/(∃xs,aM K H a xs)\/∃aS,H a=some (.dK aS)
def ym(K:Frag)(neg:Bool):R2:=λx y H Q=>match y with
 |.str j=>∃i,x=.str i/\Q (.bl (if neg then !(!(Builtin.Str.occurrences j i 0 j.length 1).isEmpty) else !(Builtin.Str.occurrences j i 0 j.length 1).isEmpty)) H
 |.ref p=>match x with
  |.ref _=>False
  |x=>Bq K neg x (.ref p) H Q
 |_=>False
theorem V1(hu:X.A.units+64<cLine):bG X (compareOp .In) (ym X.K false):=by
 intro pins s σ H x y v u Q I rx ry h;cases y with
 |str j=>
  obtain⟨i,e,q⟩:=h;exact Tb pins s σ H x _ v u Q I rx ry ⟨i,j,e,rfl,q⟩
 |ref p=>
  cases x with
  |ref a=>exact False.elim h
  |_=>exact UE pins s σ H _ _ v u Q I rx ry h
 |_=>exact False.elim h
theorem V2(hu:X.A.units+64<cLine):bG X (compareOp .NotIn) (ym X.K true):=by
 intro pins s σ H x y v u Q I rx ry h;cases y with
 |str j=>
  obtain⟨i,e,q⟩:=h;exact Te pins s σ H x _ v u Q I rx ry ⟨i,j,e,rfl,q⟩
 |ref p=>
  cases x with
  |ref a=>exact False.elim h
  |_=>exact UG pins s σ H _ _ v u Q I rx ry h
 |_=>exact False.elim h
theorem V4{A:Around}{E:Value->Shared->Prop}{s:Shared}{Q:Value->Shared->Prop}{v:Value}{d:Bool}(hv:∀id,v≠ .builtin id)(h:Q (.bool<|v==.bool d) s):wpAny M A (compareOp .Is v<|.bool d) Q E s:=by
 cases v<;>first|exact wpAny_pure h|exact absurd rfl (hv _)
theorem V5{A:Around}{E:Value->Shared->Prop}{s:Shared}{Q:Value->Shared->Prop}{v:Value}{d:Bool}(hv:∀id,v≠ .builtin id)(h:Q (.bool<|!(v==.bool d)) s):wpAny M A (compareOp .IsNot v<|.bool d) Q E s:=by
 cases v<;>first|exact wpAny_pure h|exact absurd rfl (hv _)
def Iq:R2:=λx y H Q=>match y with
 |.bl b=>Q (.bl<|decide<|x=.bl b) H
 |_=>y=.aB/\Q (.bl<|decide<|x=.aB) H
def Ir:R2:=λx y H Q=>match y with
 |.bl b=>Q (.bl<|!decide (x=.bl b)) H
 |_=>y=.aB/\Q (.bl<|!decide (x=.aB)) H
theorem V6:bG X (compareOp .Is) Iq:=by
 intro pins s σ H x y v u Q I rx ry h;cases y with
 |bl b=>
  cases ry;have nb:∀id,v≠ .builtin id:=λid z=>by
   subst z;cases x<;>first
    | (obtain⟨t,e⟩:=rx;cases e)
    | (cases rx)
  refine V4 nb<|ck I (show Q (.bl<|decide<|x=.bl b) H from h) ?_
  cases x<;>first
   | (cases rx;rfl)
   | (obtain⟨t,rfl⟩:=rx;rfl)
   | (cases rx;rename_i a;cases a<;>cases b<;>rfl)
 |_=>exact Tc pins s σ H x _ v u Q I rx ry h
theorem V7:bG X (compareOp .IsNot) Ir:=by
 intro pins s σ H x y v u Q I rx ry h;cases y with
 |bl b=>
  cases ry;have nb:∀id,v≠ .builtin id:=λid z=>by
   subst z;cases x<;>first
    | (obtain⟨t,e⟩:=rx;cases e)
    | (cases rx)
  refine V5 nb<|ck I (show Q (.bl<|!decide (x=.bl b)) H from h) ?_
  cases x<;>first
   | (cases rx;rfl)
   | (obtain⟨t,rfl⟩:=rx;rfl)
   | (cases rx;rename_i a;cases a<;>cases b<;>rfl)
 |_=>exact Td pins s σ H x _ v u Q I rx ry h
def bX(K:Frag):CmpOp->R2
 |.Eq=>mI false
 |.NotEq=>mI true
 |.Lt=>lI (λ_ _=>True) λi j=>.bl (decide<|i<j)
 |.LtE=>lI (λ_ _=>True) λi j=>.bl (decide<|i<=j)
 |.Gt=>lI (λ_ _=>True) λi j=>.bl (decide<|j<i)
 |.GtE=>lI (λ_ _=>True) λi j=>.bl (decide<|j<=i)
 |.In=>ym K false
 |.NotIn=>ym K true
 |.Is=>Iq
 |.IsNot=>Ir
theorem se(hu:X.A.units+64<cLine)(op:CmpOp):bG X (compareOp op) (bX X.K op):=by
 cases op with
 |Eq=>exact VZ hu
 |NotEq=>exact V0 hu
 |Lt=>exact bG.imp S8 uM
 |LtE=>exact bG.imp S9 uM
 |Gt=>exact bG.imp S_ uM
 |GtE=>exact bG.imp Ta uM
 |In=>exact V1 hu
 |NotIn=>exact V2 hu
 |Is=>exact V6
 |IsNot=>exact V7
inductive Ty where|int|str|bool|list|tuple|dict
 deriving DecidableEq
def Ty.nm:Ty->String
 |.int=> "int" |.str=> "str" |.bool=> "bool" |.list=> "list" |.tuple=> "tuple" |.dict=> "dict"
def bT(T:Ty)(x:V)(H:Hp)(Q:Bool->Prop):Prop:=match x with
 |.aB=>Q false
 |.bl _=>Q (T==.bool ||T==.int)
 |.int _=>Q (T==.int)
 |.str _=>Q (T==.str)
 |.ref a=>match H a with
  |some (.lst _)=>Q (T==.list)
  |some (.bO _<|.lst _)=>Q (T==.list)
  |some (.tup _)=>Q (T==.tuple)
  |some (.dK _)=>Q (T==.dict)
  |some (.dT _)=>Q (T==.dict)
  |_=>False
 |_=>False
theorem og(K:Frag)(S T:Ty):kitOne K (.type S.nm) (.type T.nm)=some (S==T ||(S==.bool && T==.int)):=by
 cases S<;>cases T<;>rfl
theorem V8(K:Frag)(T:Ty):kitOne K (.type "NoneType") (.type T.nm)=some false:=by
 cases T<;>rfl
theorem V9(hc:X.calm=true):cj X (.builtin "sum") (λxs H Q=>∃(p:Addr) (ns:List Int),xs=[.ref p]/\ar X.K H p (ns.map V.int)/\Q (.int ns.sum) H):=by
 intro pins s σ H xs us Q I r h;obtain⟨p,ns,rfl,hq,q⟩:=h;obtain⟨u,rfl,ru⟩:=vals1 r;cases ru;obtain⟨its,rv,pl,hz⟩:=I.list hq;have hi:=intsAre_of rv;obtain⟨xs,hx⟩:=hi.allInts.items;refine sum_intListG (I.ok.hd hc) (hx ▸ pl.isList) λh' tk t' hk=>?_;have e1:ns=xs.toList.map (·.1):=by
  rw[<-nums_intItems,<-hx];exact(show numsOf its.toArray.toList=ns from hi.numsOf).symm
 have e2:preSum (numAt xs) xs.size=ns.sum:=by
  rw[preSum_eq,zav (by simp),e1]
 rw[e2];exact⟨.int ns.sum,H,I.kept hk,⟨t',rfl⟩,q⟩
theorem Iu:∀{ts:List Str}{us:List Value},Vals (ts.map V.str) us->∃l:List (Str×Tok),us=strValues l/\l.map (·.1)=ts
 |[],_,.nil=>⟨[],rfl,rfl⟩
 |x::ts,_,.cons ⟨t,e⟩ r=>by
  obtain⟨l,e1,e2⟩:=Iu r;subst e e1;exact⟨(x,t)::l,rfl,by simp[e2]⟩
def rJoin(K:Frag):V->List V->Hp->VK->Prop:=λx vs H Q=>∃(sep:Str) (p:Addr) (ts:List Str),x=.str sep/\vs=[.ref p]/\ar K H p (ts.map V.str)/\JoinOk sep ts=true/\Q (.str<|Txt.join sep ts) H
theorem V_:rX X "str.join" (rJoin X.K):=by
 intro pins s σ H x vs v us Q I rx rv h;obtain⟨sep,p,ts,rfl,rfl,hq,hj,q⟩:=h;obtain⟨t,rfl⟩:=rx;obtain⟨u,rfl,ru⟩:=vals1 rv;cases ru;obtain⟨its,rv,pl,hz⟩:=I.list hq;obtain⟨l,rfl,e2⟩:=Iu rv;exact SC.join pl.isList e2 hj λt' k=>⟨.str _,H,I.tok k,⟨t',rfl⟩,q⟩
def Wa:V->List V->Hp->VK->Prop:=λx vs H Q=>∃z y,x=.str z/\vs=[.str y]/\z.length<=sizeLine/\Q (.str<|Txt.lstripChars z y) H
theorem Wb:rX X "str.lstrip" Wa:=by
 intro pins s σ H x vs v us Q I rx rv h;obtain⟨z,y,rfl,rfl,hz,q⟩:=h;obtain⟨t,rfl⟩:=rx;obtain⟨u,rfl,⟨t2,rfl⟩⟩:=vals1 rv;exact call_gives F.slot_str_lstrip (typeIs_str _ _ _) F.entry_str_lstrip (F.args_str_lstrip_2 _ _) (gives_str_lstrip_chars z y t t2)<|post_val_or_made (λ_=>fits_stripped _ _ _ hz) λt' k=>⟨.str _,H,I.tok k,⟨t',rfl⟩,q⟩
def mJ{α:Type}(xs:List α)(lo hi:Option Int):List α:=(xs.drop<|HT.br xs.length 0 lo).take (HT.br xs.length xs.length hi - HT.br xs.length 0 lo)
def mK(z:Str)(lo hi:Option Int):Str:=⟨(mJ z.cps.toList lo hi).toArray⟩
theorem Wc(z:Str)(lo hi:Option Int):((Builtin.Str.strSliceIndices lo hi 1 z.length).filterMap (z.cps[·]?))=mJ z.cps.toList lo hi:=by
 obtain⟨h1,h2,h3⟩:=Bo lo hi z.length;have e0:Builtin.Str.strSliceIndices lo hi 1 z.length=sliceRange (sliceBounds lo hi none z.length).1 (sliceBounds lo hi none z.length).2.1 (sliceBounds lo hi none z.length).2.2:=rfl;have hz:z.cps.toList.length=z.length:=rfl
 rw[e0,h1,h2,h3,sliceRange_one,pick_run];unfold mJ;rw[hz]
def yn(K:Frag)(neg:Bool):R2:=λx y H Q=>∃p xs d es,y=.ref p/\ar K H p xs/\Is H d x/\IsL H es xs/\SeqAt.shaped d=true/\d.depth<=60/\(∀e∈es,SeqAt.shaped e=true)/\Q (.bl<|neg ^^ es.any λe=>PyData.eqv e d) H
open Classical in
end
def mL:HO:=.ext λ_=>True
structure yo (ob:Obj) (cls:Value) (vs:Array Value):Prop where
 cls:ob.cls=cls
 data:ob.data=.fields vs
 Wd:vs[2]?=some .none
 dict:ob.dict=none
def ExcAt(H:Hp)(ea D:Addr):Prop:= ∃ob vs,H ea=some (.bO ob mL)/\yo ob (.ref D) vs
structure sf (K:Frag) (D:Addr):Prop where
 uN:PySem.W.findIn K (.ref D) "__getattribute__"=some (some<|.builtin "BaseException.__getattribute__")
 uO:PySem.W.findIn K (.ref D) "__getattr__"=some none
 hk:(PySem.W.clsIn K D).isSome=true
 ha:PySem.W.findIn K (.ref D) "__class__"=some (some<|.builtin "object.__class__")
 hn:PySem.W.specialIn K (.builtin "object.__class__") "__get__"=some (some<|.builtin "getset_descriptor.__get__")
 nV:PySem.W.takesIn K (.builtin "object.__class__")=some true
 hm:PySem.W.mroIn K D (.type "object")=some true
 hb:PySem.W.mroIn K D (.type "BaseException")=some true
def cV:V->Value
 |.ref a=>.ref a
 |.ty n=>.type n
 |_=>.none
def lK(K:Frag):List V->Hp->VK->Prop
 |[.ref ea,c],H,Q=>∃D b,ExcAt H ea D/\sf K D/\((∃C,c=.ref C)\/∃n,c=.ty n)/\kitOne K (.ref D) (cV c)=some b/\Q (.bl b) H
 |_,_,_=>False
def Iv(sp:Sp)(hv:Option Addr)(t:TA):TE:=λσ H Q=>t σ H λvs H1=>(∃ea D,hv=some ea/\ExcAt H1 ea D)/\sp vs H1 Q E0
def BK(C:Addr)(E:XK)(t:TA):TS:=λ_ σ H=>t σ H λvs H1=>vs.length<=sizeLine/\E (.ref C) none H1
def BL(K:Frag)(C:Addr)(i n:Nat)(th:Addr->TS)(D:Ends):XK:=λcls _ H'=>exmOne K cls (.ref C)=some true/\
 ∀(ea:Addr) (ob:Obj) (vs:Array Value) (σ':St),H' ea=none->σ'.length=n->yo ob cls vs->th ea {nx:=λ_ _=>False,rt:=D.rt} (σ'.set i<|some<|.ref ea) (upd H' ea<|.bO ob mL)
def yp(K:Frag)(C:Addr)(i n:Nat)(tb:XK->TS)(th:Addr->TS):TS:=λD σ H=>tb (BL K C i n th D) {nx:=D.nx,rt:=D.rt} σ H
def We(K:Frag)(C:Addr)(i:Nat)(th:Addr->TS)(D:Ends)(σ:St):XK:=λcls _ H'=>exmOne K cls (.ref C)=some true/\
 ∀(ea:Addr) (ob:Obj) (vs:Array Value),H' ea=none->yo ob cls vs->th ea {nx:=λ_ _=>False,rt:=D.rt} (σ.set i<|some<|.ref ea) (upd H' ea<|.bO ob mL)
def Wf(K:Frag)(C:Addr)(i k:Nat)(sp:Sp)(ta:TA)(th:Addr->TS):TS:=λD σ H=>ta σ H λvs H1=>sp vs H1 (λv H2=>D.nx (σ.set k<|some v) H2) (We K C i th D σ)
inductive mM where|len|min|max|sum|int|list|tuple|abs
 deriving DecidableEq
inductive iW where|append|pop|extend|join|lstrip|starts|reverse|clear|index|find|count|Iw|BM
 deriving DecidableEq
inductive IK where|list|tup|gZ|Wg|zip|yq|txt|Wh|Wi
 deriving DecidableEq
inductive RE where
 |v (i:Nat)|c (x:V)|g (j:Nat)
 |bin (op:Operator) (a b:RE)|neg (a:RE)
 |cmp (op:CmpOp) (a b:RE)|lL (op cJ:CmpOp) (a b d:RE)|Iy (op cJ Iz:CmpOp) (a b d f:RE)
 |and (as:List RE)|or (as:List RE)|not (a:RE)|oh (t a b:RE)
 |call (j:Nat) (as:List RE)|blt (b:mM) (as:List RE)|dr (T:Ty) (a:RE)
 |bq (m:iW) (o:RE) (as:List RE)
 |ix (a b:RE)|sl (a:RE) (lo hi:Option RE)
 |tup (as:List RE)|lst (as:List RE)
 |comp (tk:Option Nat) (fv:List (Str×Nat)) (k:IK) (its:List RE) (cond:Option RE) (elt:RE)
 |dt (a c:RE)|yr (j:Nat) (a:RE)|yt|same (a b:RE)
 |Wj|Wk (a b:RE)|IA (a b:RE)|IB (a b:RE)|Wl (o a b:RE)|inD (a b:RE)|IC (a b:RE)
 |xt (T:Frag->TA->TE) (as:List RE)|xm (T:Frag->TE->TA->TE) (o:RE) (as:List RE)
 |fld (o:RE) (f:Str)|du (j:Nat) (m:Str) (o:RE) (as:List RE)|make (j:Nat) (as:List RE)
structure bo where
 K:Frag
 fs:Nat->Sp
 gv:Nat->V
 E:XK
 sd:Addr->List (Key×V)->Prop
 ms:Nat->Addr×Sp
 kt:Nat->Addr×Sp
 ex:Nat->Addr
 hs:Nat->Sp
 hv:Option Addr
abbrev bo.calm(Γ:bo):bo:={Γ with E:=E0}
inductive RS where
 |asg (i:Nat) (e:RE)|yu (i:Nat) (e:RE)|set (o ix e:RE)
 |drop (e:RE)|ret (e:RE)|Wm
 |ite (c:RE) (t e:List RS)
 |jA (i:Nat) (k:IK) (its:List RE) (body:List RS)
 |hX (is:List Nat) (k:IK) (its:List RE) (body:List RS)
 |si (c:RE) (body:List RS)
 |pass|brk|cont|never
 |Wn (o lo hi e:RE)|lM (o:RE) (f:Str) (e:RE)
 |oi (is:List Nat) (e:RE)|dput (o i e:RE)|iG (j:Nat) (as:List RE)|BN (n i j:Nat) (body su:List RS)|Wo (k i j f:Nat) (as:List RE) (su:List RS)
 |xs (T:bo->TS)
def jB(K:Frag)(x:V)(H:Hp)(Q:Bool->Prop):Prop:=match x with
 |.aB=>Q false
 |.bl b=>Q b
 |.int i=>Q (i !=0)
 |.str y=>y.length<=sizeLine/\Q ((y.length:Int) !=0)
 |.ref p=>(∃xs,ar K H p xs/\Q (!xs.isEmpty))\/(∃xs,aM K H p xs/\Q (!xs.isEmpty))\/∃aS,H p=some (.dK aS)/\Q (!aS.isEmpty)
 |_=>False
theorem ID{K:Frag}{x:V}{H:Hp}{Q:Bool->Prop}(h:jB K x H Q):∃k,GR K x H k/\Q k:=by
 cases x with
 |aB=>exact⟨_,rfl,h⟩
 |bl b=>exact⟨_,rfl,h⟩
 |int i=>exact⟨_,rfl,h⟩
 |str y=>exact⟨_,⟨h.1,rfl⟩,h.2⟩
 |ref p=>
  rcases h with⟨xs,h1,h2⟩|⟨xs,h1,h2⟩|⟨xs,h1,h2⟩
  ·exact⟨_,.inl ⟨xs,h1,rfl⟩,h2⟩
  ·exact⟨_,.inr<|.inl ⟨xs,h1,rfl⟩,h2⟩
  ·exact⟨_,.inr<|.inr ⟨xs,h1,rfl⟩,h2⟩
 |_=>exact False.elim h
def gg(K:Frag)(t:TE):TT:=λσ H Q=>t σ H λx H1=>jB K x H1 λb=>Q b H1
def BO(K:Frag)(t:TE):TE:=λσ H Q=>t σ H λx H1=>jB K x H1 λb=>Q (.bl<|!b) H1
def IE:V->Hp->VK->Prop:=λx H Q=>match x with|.int i=>Q (.int<|-i) H|_=>False
def uJ(K:Frag)(x:V)(H:Hp)(Q:Nat->Prop):Prop:=match x with
 |.str y=>y.length<=sizeLine/\Q y.length
 |.ref p=>(∃xs,ar K H p xs/\Q xs.length)\/∃xs,aM K H p xs/\Q xs.length
 |_=>False
def signs(x:Str):List V:=x.cps.toList.map λc=>V.str ⟨#[c]⟩
def IF:TE:=λ_ H Q=>∀p,H p=none->Q (.ref p) (upd H p<|.dK [])
def oj(K:Frag):mM->List V->Hp->VK->Prop
 |.len,[x],H,Q=>uJ K x H λn=>Q (.int n) H
 |.min,[.int i,.int j],H,Q=>Q (.int (if j<i then j else i)) H
 |.max,[.int i,.int j],H,Q=>Q (.int (if j>i then j else i)) H
 |.min,[.ref p],H,Q=>∃ns:List Int,ar K H p (ns.map V.int)/\ns≠ []/\∀m:Int,m∈ns->(∀n∈ns,m<=n)->Q (.int m) H
 |.max,[.ref p],H,Q=>∃ns:List Int,ar K H p (ns.map V.int)/\ns≠ []/\∀m:Int,m∈ns->(∀n∈ns,n<=m)->Q (.int m) H
 |.sum,[.ref p],H,Q=>∃ns:List Int,ar K H p (ns.map V.int)/\Q (.int ns.sum) H
 |.int,[.int i],H,Q=>Q (.int i) H
 |.int,[.bl k],H,Q=>Q (.int (if k then 1 else 0)) H
 |.list,[.ref p],H,Q=>∃ys,(ar K H p ys\/aM K H p ys)/\∀l,H l=none->Q (.ref l) (upd H l<|.lst ys)
 |.list,[.str x],H,Q=>x.length<=sizeLine/\∀l,H l=none->Q (.ref l) (upd H l<|.lst<|signs x)
 |.tuple,[.str x],H,Q=>x.length<=sizeLine/\∀l,H l=none->Q (.ref l) (upd H l<|.tup<|signs x)
 |.tuple,[.ref p],H,Q=>∃ys,(ar K H p ys/\∀l,H l=none->Q (.ref l) (upd H l<|.tup ys))\/(aM K H p ys/\Q (.ref p) H)
 |_,_,_,_=>False
def om(T:Ty):List V->Hp->VK->Prop
 |[x,.ty n],H,Q=>n=T.nm/\bT T x H λb=>Q (.bl b) H
 |_,_,_=>False
def p9(K:Frag):iW->V->List V->Hp->VK->Prop
 |.append,.ref l,[y],H,Q=>∃xs,H l=some (.lst xs)/\xs.length<sizeLine/\Q .aB (upd H l<|.lst<|xs++[y])
 |.pop,.ref l,[],H,Q=>∃xs y,H l=some (.lst xs)/\xs[xs.length - 1]?=some y/\Q y (upd H l<|.lst xs.dropLast)
 |.extend,.ref l,[.ref b],H,Q=>∃xs zs,H l=some (.lst xs)/\H b=some (.lst zs)/\xs.length+zs.length<=sizeLine/\Q .aB (upd H l<|.lst<|xs++zs)
 |.join,.str sep,[.ref p],H,Q=>∃ts:List Str,ar K H p (ts.map V.str)/\JoinOk sep ts=true/\Q (.str<|Txt.join sep ts) H
 |.lstrip,.str z,[.str y],H,Q=>z.length<=sizeLine/\Q (.str<|Txt.lstripChars z y) H
 |.find,.str z,[.str y],H,Q=>Q (.int (match Builtin.Str.occurrences z y 0 z.length 1 with|i::_=>(i:Int)|[]=> -1)) H
 |.find,.str z,[.str y,.int i],H,Q=>Q (.int (match Builtin.Str.occurrences z y (fromIndex z.length i) z.length 1 with|k::_=>(k:Int)|[]=> -1)) H
 |.count,.str z,[.str y],H,Q=>Q (.int (Builtin.Str.occurrences z y 0 z.length<|z.length+1).length) H
 |.clear,.ref l,[],H,Q=>∃xs,H l=some (.lst xs)/\Q .aB (upd H l<|.lst [])
 |.BM,.ref l,[y],H,Q=>∃xs,ar K H l xs/\iD y=true/\xs.all iD=true/\hJ y xs=true/\Q (.int (xs.findIdx (λz=>g_ z y):Nat)) H
 |_,_,_,_,_=>False
def yv:iW->String
 |.join|.lstrip|.starts|.find|.count=> "str"
 |_=> "list"
def sj(K:Frag)(m:iW)(to:TE)(t:TA):TE:=λσ H Q=>to σ H λx H1=>rZ K (yv m) x H1/\t σ H1 λxs H2=>p9 K m x xs H2 Q
def sk(K:Frag):V->Option Int->Option Int->Hp->VK->Prop:=λx lo hi H Q=>match x with
 |.str z=>z.length<=sizeLine/\Q (.str<|mK z lo hi) H
 |.ref a=>(∃xs,ar K H a xs/\∀p,H p=none->Q (.ref p) (upd H p<|.lst<|fK xs lo hi))\/
  (∃xs,aM K H a xs/\ ¬(HT.br xs.length 0 lo=0/\HT.br xs.length xs.length hi=xs.length)/\∀p,H p=none->Q (.ref p) (upd H p<|.tup<|fK xs lo hi))
 |_=>False
def p_(aS:List (Key×V))(k:Key):Option V:=(aS.find? λkv=>decide (kv.1=k)).map (·.2)
def IG(sd:Addr->List (Key×V)->Prop):R2:=λx y H Q=>∃p aS k v,x=.ref p/\y=kV k/\sd p aS/\p_ aS k=some v/\Q v H
def oo(K:Frag)(sd:Addr->List (Key×V)->Prop):R2:=λx y H Q=>Hq K x y H Q\/Hr K x y H Q\/Hs x y H Q\/IG sd x y H Q
def Wq(r r' r2:R2)(ta tb tc td:TE):TT:=λσ H Q=>ta σ H λx H1=>tb σ H1 λy H2=>r x y H2 λz H3=>∃k,z=.bl k/\
 (if k=true then tc σ H3 λw H4=>r' y w H4 λz2 H5=>∃k2,z2=.bl k2/\(if k2=true then td σ H5 λu H6=>r2 w u H6 λz3 H7=>∃k3,z3=.bl k3/\Q k3 H7 else Q false H5) else Q false H3)
def ka(K:Frag)(a b:Addr):It:=
  ⟨λi H=>∃xs ys,ar K H a xs/\ar K H b ys/\i<xs.length/\i<ys.length,
   λi H x H'=>∃T,H T=none/\x=.ref T/\∀xs ys u v,ar K H a xs->ar K H b ys->xs[i]?=some u->ys[i]?=some v->H'=upd H T (.tup [u,v]),
   λi H=>∃xs ys,ar K H a xs/\ar K H b ys/\i=min xs.length ys.length⟩
def uP(K:Frag)(a:Addr):It:=
  ⟨λi H=>∃xs,ar K H a xs/\i<xs.length,
   λi H x H'=>∃T,H T=none/\x=.ref T/\∀xs u,ar K H a xs->xs[i]?=some u->H'=upd H T (.tup [.int (i:Nat),u]),
   λi H=>∃xs,ar K H a xs/\i=xs.length⟩
def BP(K:Frag)(ta:TA):TI:=λσ H R=>ta σ H λvs H1=>∃a,vs=[.ref a]/\(∃xs,ar K H1 a xs)/\R (uP K a) H1
def BQ(K:Frag)(ta:TA):TI:=λσ H R=>ta σ H λvs H1=>∃a b,vs=[.ref a,.ref b]/\(∃xs,ar K H1 a xs)/\(∃ys,ar K H1 b ys)/\R (ka K a b) H1
def Wr(K:Frag)(a b:Addr):It:=
  ⟨λi H=>∃xs ys,aM K H a xs/\aM K H b ys/\i<xs.length/\i<ys.length,
   λi H x H'=>∃T,H T=none/\x=.ref T/\∀xs ys u v,aM K H a xs->aM K H b ys->xs[i]?=some u->ys[i]?=some v->H'=upd H T (.tup [u,v]),
   λi H=>∃xs ys,aM K H a xs/\aM K H b ys/\i=min xs.length ys.length⟩
def Ws(K:Frag)(ta:TA):TI:=λσ H R=>ta σ H λvs H1=>∃a b,vs=[.ref a,.ref b]/\(∃xs,aM K H1 a xs)/\(∃ys,aM K H1 b ys)/\R (Wr K a b) H1
def Wt(z:Str):It:=⟨λi _=>i<z.length,λi H x H'=>H'=H/\∃c,z.cps[i]?=some c/\x=.str ⟨#[c]⟩,λi _=>i=z.length⟩
def Wu(ta:TE):TI:=λσ H R=>ta σ H λx H1=>∃z,x=.str z/\R (Wt z) H1
def Wv(lo c:Int)(n:Nat):It:=⟨λi _=>i<n,λi H x H'=>H'=H/\x=.int (lo+i*c),λi _=>n<=i⟩
def Ww(ta:TA):TI:=λσ H R=>ta σ H λvs H1=>∃(i j c:Int) (n:Nat),vs=[.int i,.int j,.int c]/\c≠0/\Builtin.Range.small i j c=true/\Builtin.divisionGoesByPylong (j - i) c=false/\Builtin.Range.rangeSize i j c=n/\R (Wv i c n) H1
mutual
def ak(Γ:bo):RE->TE
 |.v i=>AS i
 |.c x=>tC x
 |.g j=>tC (Γ.gv j)
 |.bin op a b=>fI (lJ Γ.K op) (ak Γ a) (ak Γ b)
 |.neg a=>GJ IE (ak Γ a)
 |.cmp op a b=>fI (bX Γ.K op) (ak Γ a) (ak Γ b)
 |.lL op cJ a b d=>rW (bX Γ.K op) (bX Γ.K cJ) (ak Γ a) (ak Γ b) (ak Γ d)
 |.Iy _ _ _ _ _ _ _=>λ_ _ _=>False
 |.and as=>IH Γ as
 |.or as=>II Γ as
 |.not a=>BO Γ.K (ak Γ a)
 |.oh t a b=>Gn (bD Γ t) (ak Γ a) (ak Γ b)
 |.call j as=>Be (Γ.fs j) [] Γ.E (aW Γ as)
 |.blt b as=>eT (oj Γ.K b) (aW Γ as)
 |.dr T a=>eT (om T) (dq (ak Γ a)<|dq (tC<|.ty T.nm) gL)
 |.bq m o as=>sj Γ.K m (ak Γ o) (aW Γ as)
 |.ix a b=>fI (oo Γ.K Γ.sd) (ak Γ a) (ak Γ b)
 |.sl a lo hi=>Bl (sk Γ.K) (ak Γ a) (ot Γ lo) (ot Γ hi)
 |.tup as=>G0 (aW Γ as)
 |.lst as=>G3 (aW Γ as)
 |.comp tk fv k its cond elt=>r9 Γ.K (jC Γ k its) tk fv (yw Γ.calm cond) (ak Γ.calm elt)
 |.dt a c=>eT (lK Γ.K) (dq (ak Γ a)<|dq (ak Γ c) gL)
 |.yt=>IF
 |.same a b=>fI VY (ak Γ a) (ak Γ b)
 |.inD a b=>fI (yn Γ.K false) (ak Γ a) (ak Γ b)
 |.IC a b=>fI (yn Γ.K true) (ak Γ a) (ak Γ b)
 |.Wj=>Vi
 |.Wk a b=>Vg (ak Γ a) (ak Γ b)
 |.IA a b=>HL (ak Γ a) (ak Γ b)
 |.IB a b=>HM (ak Γ a) (ak Γ b)
 |.Wl o a b=>Vk (ak Γ o) (ak Γ a) (ak Γ b)
 |.xt T as=>T Γ.K (aW Γ as)
 |.xm T o as=>T Γ.K (ak Γ o) (aW Γ as)
 |.yr j a=>Iv (Γ.hs j) Γ.hv (dq (ak Γ a) gL)
 |.fld o f=>xQ Γ.K (ak Γ o) f
 |.du j m o as=>pT (Γ.ms j).1 m (Γ.ms j).2 [] Γ.E (ak Γ o) (aW Γ as)
 |.make j as=>uB (Γ.kt j).1 (Γ.kt j).2 [] Γ.E (aW Γ as)
def bD(Γ:bo):RE->TT
 |.not a=>Gi (bD Γ a)
 |.inD a b=>nS (fI (yn Γ.K false) (ak Γ a)<|ak Γ b)
 |.IC a b=>nS (fI (yn Γ.K true) (ak Γ a)<|ak Γ b)
 |.IA a b=>tB (HL (ak Γ a)<|ak Γ b)
 |.IB a b=>tB (HM (ak Γ a)<|ak Γ b)
 |.and as=>IJ Γ as
 |.or as=>IL Γ as
 |.cmp op a b=>nS (fI (bX Γ.K op) (ak Γ a)<|ak Γ b)
 |.lL op cJ a b d=>nS (rW (bX Γ.K op) (bX Γ.K cJ) (ak Γ a) (ak Γ b)<|ak Γ d)
 |.Iy op cJ Iz a b d f=>Wq (bX Γ.K op) (bX Γ.K cJ) (bX Γ.K Iz) (ak Γ a) (ak Γ b) (ak Γ d) (ak Γ f)
 |.v i=>gg Γ.K (AS i)
 |.call j as=>gg Γ.K (Be (Γ.fs j) [] Γ.E<|aW Γ as)
 |.dr T a=>gg Γ.K (eT (om T)<|dq (ak Γ a)<|dq (tC<|.ty T.nm) gL)
 |.dt a c=>gg Γ.K (eT (lK Γ.K)<|dq (ak Γ a)<|dq (ak Γ c) gL)
 |.bq m o as=>gg Γ.K (sj Γ.K m (ak Γ o)<|aW Γ as)
 |.ix a b=>gg Γ.K (fI (oo Γ.K Γ.sd) (ak Γ a)<|ak Γ b)
 |.bin op a b=>gg Γ.K (fI (lJ Γ.K op) (ak Γ a)<|ak Γ b)
 |.fld o f=>gg Γ.K (xQ Γ.K (ak Γ o) f)
 |.xt T as=>gg Γ.K (T Γ.K<|aW Γ as)
 |.xm T o as=>gg Γ.K (T Γ.K (ak Γ o)<|aW Γ as)
 |.du j m o as=>gg Γ.K (pT (Γ.ms j).1 m (Γ.ms j).2 [] Γ.E (ak Γ o)<|aW Γ as)
 |_=>λ_ _ _=>False
def aW(Γ:bo):List RE->TA
 |[]=>gL
 |a::r=>dq (ak Γ a) (aW Γ r)
def IH(Γ:bo):List RE->TE
 |[]=>λ_ _ _=>False
 |[a]=>ak Γ a
 |a::r=>Gj (ak Γ a) (IH Γ r)
def II(Γ:bo):List RE->TE
 |[]=>λ_ _ _=>False
 |[a]=>ak Γ a
 |a::r=>Gk (ak Γ a) (II Γ r)
def IJ(Γ:bo):List RE->TT
 |[]=>λ_ _ _=>False
 |[a]=>bD Γ a
 |a::r=>Gg (bD Γ a) (IJ Γ r)
def IL(Γ:bo):List RE->TT
 |[]=>λ_ _ _=>False
 |[a]=>bD Γ a
 |a::r=>Gh (bD Γ a) (IL Γ r)
def ot(Γ:bo):Option RE->TO
 |none=>Hi
 |some a=>xU (ak Γ a)
def yw(Γ:bo):Option RE->Option TT
 |none=>none
 |some a=>some (bD Γ a)
def jC(Γ:bo)(k:IK):List RE->TI
 |[]=>λ_ _ _=>False
 |a::r=>match k with
  |.list=>ux Γ.K (ak Γ a)
  |.tup=>SD Γ.K (ak Γ a)
  |.gZ=>GD (dq (ak Γ a)<|aW Γ r)
  |.Wg=>SH (dq (ak Γ a)<|aW Γ r)
  |.zip=>BQ Γ.K (dq (ak Γ a)<|aW Γ r)
  |.yq=>BP Γ.K (dq (ak Γ a)<|aW Γ r)
  |.txt=>Wu (ak Γ a)
  |.Wh=>Ws Γ.K (dq (ak Γ a)<|aW Γ r)
  |.Wi=>Ww (dq (ak Γ a)<|aW Γ r)
end
structure c_ where
 N:List Str
 sc:Scope
 fn:List Str
 gn:List Str
 bl:List Str
 mn:List Str
 kn:List Str
 en:List Str
 hn:List Str
 md:Nat
def BR(sc:Scope)(x:Str):Bool:=match sc.names.lookup x with
 |some .local=>true|some .cell=>true|some .free=>true|_=>false
def loc(sc:Scope)(x:Str):Bool:=match sc.names.lookup x with
 |some .local=>true|some .cell=>true|_=>false
def mO(sc:Scope)(x:Str):Bool:=match sc.names.lookup x with
 |some .globalImplicit=>true|_=>false
theorem Wx{x:Str}(h:BR sc x=true):xk sc x:=by
 unfold BR at h;unfold xk;cases e:sc.names.lookup x with
 |none=>rw[e] at h;cases h
 |some k=>rw[e] at h;cases k<;>first|exact .inl rfl|exact .inr (.inl rfl)|exact .inr (.inr rfl)|cases h
theorem BS{x:Str}(h:loc sc x=true):Loc sc x:=by
 unfold loc at h;unfold Loc;cases e:sc.names.lookup x with
 |none=>rw[e] at h;cases h
 |some k=>rw[e] at h;cases k<;>first|exact .inl rfl|exact .inr rfl|cases h
theorem Wy{x:Str}(h:mO sc x=true):sc.names.lookup x=some .globalImplicit:=by
 unfold mO at h;cases e:sc.names.lookup x with
 |none=>rw[e] at h;cases h
 |some k=>rw[e] at h;cases k<;>first|rfl|cases h
structure uQ where
 elt:Expr
 tg:Expr
 iter:Expr
 ifs:List Expr
 sc:Scope
def mM.nm:mM->Str
 |.len=> "len" |.min=> "min" |.max=> "max" |.sum=> "sum" |.int=> "int" |.list=> "list" |.tuple=> "tuple" |.abs=> "abs"
def iW.nm:iW->Str
 |.append=> "append" |.pop=> "pop" |.extend=> "extend" |.join=> "join" |.lstrip=> "lstrip" |.starts=> "startswith" |.reverse=> "reverse" |.clear=> "clear" |.index=> "index" |.find=> "find" |.count=> "count" |.Iw=> "count" |.BM=> "index"
def ou:Expr->Bool
 |.Call (.Name _ _) [] [] _=>false
 |_=>true
def noStar:Expr->Bool
 |.Starred ..=>false
 |_=>true
def uR:Expr->Bool
 |.Set ..=>false
 |_=>true
def BU(IM sc:Scope):Scope:=
 {IM with names:=IM.names.map fun(n,k)=>if (k==.free && sc.kind==.function && sc.names.lookup n==some .cell) then (n,.cell) else (n,k)}
def BV(tk:Option Nat)(tg:Expr):Option (List Str):=match tk,tg with
 |none,.Name x _=>some [x]
 |some 2,.Tuple [.Name x _,.Name y _] _ _=>some [x,y]
 |_,_=>none
def IP(S:c_)(c:uQ)(ln:List Str)(fv:List (Str×Nat)):c_:={S with N:=ln++fv.map (·.1),sc:=BU c.sc S.sc,en:=[],md:=if S.md=0 then 0 else 2}
def BW(S:c_)(c:uQ)(ln:List Str)(fv:List (Str×Nat)):Bool:=
 decide (c.sc.kind=.function) && c.sc.names.all (λy=>decide<|y.2≠ .cell) && c.sc.names.all (λy=>decide (y.2≠ .local)||decide (c.sc.names.lookup y.1=some .local))
 && c.sc.names.all (λy=>decide (y.2≠ .free)||decide (S.sc.names.lookup y.1=some .cell)||decide (S.sc.names.lookup y.1=some .free))
 && fv.all (λp=>decide (S.N[p.2]?=some p.1) && decide (c.sc.names.lookup p.1=some .free))
 && ln.all (λx=>decide<|c.sc.names.lookup x=some .local) && decide ((ln++fv.map (·.1)).Nodup) && uR c.iter
theorem Wz{K:Frag}{elts:List Expr}{k:Nat}{pos:Pos}{z TI TO i1 i2 l1 l2:Addr}(D:ZipApart z TI TO i1 i2 l1 l2)(dl:l1≠TI/\l2≠TI):
  Turn P w K (.Tuple elts k pos) (ka K l1 l2) [z,TI,TO,i1,i2] z
   (λi h=>IsZip h z TI TO .none/\IsPair h TI (.ref i1) (.ref i2)/\(∃a b,IsPair h TO a b)/\h.IsListIter i1 l1 i/\h.IsListIter i2 l2 i) where
 mem:=by simp
 obj:=λi h st b hb=>by
  obtain⟨hz,mP,⟨a,b',mQ⟩,⟨o1,e1,c1,d1⟩,⟨o2,e2,c2,d2⟩⟩:=st
  simp at hb
  rcases hb with rfl|rfl|rfl|rfl|rfl
  ·exact⟨_,hz,λv q=>by cases q⟩
  ·exact⟨_,mP,λv q=>by cases q⟩
  ·exact⟨_,mQ,λv q=>by cases q⟩
  ·exact⟨_,e1,λv q=>by rw[d1] at q;cases q⟩
  ·exact⟨_,e2,λv q=>by rw[d2] at q;cases q⟩
 keep:=λi h h' st hk=>by
  obtain⟨hz,mP,⟨a,b',mQ⟩,h1,h2⟩:=st;exact⟨hk z (by simp) _ hz,hk TI (by simp) _ mP,⟨a,b',hk TO (by simp) _ mQ⟩,h1.at λo e=>hk i1 (by simp) o e,h2.at λo e=>hk i2 (by simp) o e⟩
 item:=by
  intro X hP hw hK hc i pins s σ H E I hf st hg;subst hP hw hK;obtain⟨xs,ys,hx,hy,WA,IQ⟩:=hg;obtain⟨hZ,r1,p1,z1⟩:=I.list hx;obtain⟨gM,r2,p2,z2⟩:=I.list hy;have uS:=r1.length;have r6:=r2.length;have W:=WalksT.zip2 (prog:=X.prog) (w:=X.w) (A:=X.A) (I.ok.hd hc) z TI TO i1 i2 l1 l2 D hZ.toArray gM.toArray;obtain⟨hz,mP,mQ,h1,h2⟩:=qa5 (id st);have hn:i<min hZ.toArray.size gM.toArray.size:=by simp only[zag];lia
  refine W.item i s _ _ hn ⟨hz,mP,mQ,h1,h2,p1.isList,p2.isList⟩ λT vals h' tk hv hT BX mid hk=>?_;refine⟨.ref T,rfl,?_⟩;refine W.go elts k pos i T _ _ _ mid λmR BY uT=>?_;obtain⟨u,v,eu,ev,rfl⟩:=hv;have fz:∀b∈ [z,TO,i1,i2],b∈ [z,TI,TO,i1,i2]:=λb hb=>by
   simp at hb⊢
   rcases hb with rfl|rfl|rfl|rfl<;>simp
  have kk:=λb o hb e=>uT b o hb (hk b o hb e);have I1:Inv X pins σ H {s with heap:=mR,toks:=tk}:=by
   refine I.step (g':=s.gens) (d':=s.drawn) (λb hb=>?_) (λb o _ _ hc e _=>kk b o hc e) (λb o _ _ hc e _=>⟨o.slots,kk b o hc e⟩) (λ_ _ _ _ n=>n)
    (λb o hc e=>⟨o,kk b o hc e⟩) (λ_ _ e=>e) (λ_ _ _ e=>e) (λb ps e=>⟨#[],by rw[e];simp⟩) (λm hm=>?_) (λb o e=>?_) I.bare
   ·obtain⟨f0,f1,f2,f3,f4,f5⟩:=qa6 (hf b (fz b hb));exact⟨f3,f1,f4,f5⟩
   ·obtain⟨o,es,ep,ho,r⟩:=hm;exact⟨o,es,ep,kk _ o (λhb=>(hf _<|fz _ hb).2.1 rfl) ho,r⟩
   ·have nb:∀c o',H c=some o'->c∉ [z,TO,i1,i2]:=λc o' e hb=>by
     rw[(hf c<|fz c hb).1] at e;cases e
    refine(I.aK b o e).ju (λc q cC e'=>kk c q ?_ e') (λ_ q=>q) λ_ _ q=>q;rcases cC with rfl|cC
    ·exact nb _ _ e
    ·exact nb _ _ cC
  have iX:=hT;have fT:H T=none:=I.aK.fresh iX;have aT:=W.apart i T h' mid;have tT:mR.IsTuple T #[u,v]:=by
   obtain⟨o,ho,q⟩:=BX;exact⟨o,uT T o aT ho,q⟩
  obtain⟨a,BZ,ra⟩:∃a,xs[i]?=some a/\RelV a u:=by
   have e:hZ[i]?=some u:=by simpa using eu
   have:i<xs.length:=by lia
   obtain⟨u',e',r'⟩:=r1.get (i:=i) (x:=xs[i]) (by simp[this])
   rw[e] at e';cases e';exact⟨xs[i],by simp[this],r'⟩
  obtain⟨b,WB,rb⟩:∃b,ys[i]?=some b/\RelV b v:=by
   have e:gM[i]?=some v:=by simpa using ev
   have:i<ys.length:=by lia
   obtain⟨u',e',r'⟩:=r2.get (i:=i) (x:=ys[i]) (by simp[this])
   rw[e] at e';cases e';exact⟨ys[i],by simp[this],r'⟩
  have WC:=I.sz;have I2:Inv X pins σ (upd H T<|.tup [a,b]) {s with heap:=mR,toks:=tk}:=by
   refine Inv.BB I1 fT (zaw I.sz iX) (zbg<|zal I.lt iX) (λx c e q=>?_) (λp hp q=>?_) ⟨by show 2<=sizeLine;decide,[u,v],.cons ra<|.cons rb .nil,tT⟩
   ·obtain⟨v',q'⟩:=I.cell x c e;have:=q'.lt;rw[q] at this;exact absurd (zal this iX)<|zay _
   ·have:=Heap.lt_size (I.pin p hp).1;rw[q] at this;exact absurd (zal this iX)<|zay _
  refine⟨.ref T,_,I2,rfl,⟨T,fT,rfl,λiY gO a' b' eU Bw ea eb=>?_⟩,?_,λc cC=>?_⟩
  ·rw[I.uu eU hx,BZ] at ea;rw[I.uu Bw hy,WB] at eb;cases ea;cases eb;rfl
  ·obtain⟨q1,q2,q3,q4,q5,_⟩:=qa6 BY;exact⟨q1,q2,q3,q4,q5⟩
  ·have n0:=(hf c cC).1;have:c≠T:=λq=>by
    obtain⟨o,e,_⟩:∃o,s.heap.get? c=some o/\True:=by
     obtain⟨hz,mP,⟨a',b',mQ⟩,⟨o1,e1,_⟩,⟨o2,e2,_⟩⟩:=st
     simp at cC
     rcases cC with rfl|rfl|rfl|rfl|rfl
     ·exact⟨_,hz,trivial⟩
     ·exact⟨_,mP,trivial⟩
     ·exact⟨_,mQ,trivial⟩
     ·exact⟨_,e1,trivial⟩
     ·exact⟨_,e2,trivial⟩
    have:=Heap.lt_size e;rw[q] at this;exact absurd (zal this iX)<|zay _
   rw[aI this];exact n0
 done:=by
  intro X hP hw hK hc i pins s σ H E I hf st hg;subst hP hw hK;obtain⟨xs,ys,hx,hy,hi⟩:=hg;obtain⟨hZ,r1,p1,z1⟩:=I.list hx;obtain⟨gM,r2,p2,z2⟩:=I.list hy;have uS:=r1.length;have r6:=r2.length;have W:=WalksT.zip2 (prog:=X.prog) (w:=X.w) (A:=X.A) (I.ok.hd hc) z TI TO i1 i2 l1 l2 D hZ.toArray gM.toArray;obtain⟨hz,mP,mQ,h1,h2⟩:=id st;have hn:i=min hZ.toArray.size gM.toArray.size:=by simp only[zag];lia
  subst hn;refine W.done s _ _ ⟨hz,mP,mQ,h1,h2,p1.isList,p2.isList⟩ λh' tk hk=>⟨rfl,?_⟩;have fz:∀b∈ [z,TO,i1,i2],b∈ [z,TI,TO,i1,i2]:=λb hb=>by
   simp only[zaa,zac,or_false] at hb⊢
   rcases hb with rfl|rfl|rfl|rfl<;>simp
  refine I.step (g':=s.gens) (d':=s.drawn) (ch:=[z,TO,i1,i2]) (λb hb=>?_) (λb o _ _ hc e _=>hk b o hc e) (λb o _ _ hc e _=>⟨o.slots,hk b o hc e⟩) (λ_ _ _ _ n=>n)
   (λb o hc e=>⟨o,hk b o hc e⟩) (λ_ _ e=>e) (λ_ _ _ e=>e) (λb ps e=>⟨#[],by rw[e];simp⟩) (λm hm=>?_) (λb o e=>?_) I.bare
  ·obtain⟨f0,f1,f2,f3,f4,f5⟩:=qa6 (hf b (fz b hb));exact⟨f3,f1,f4,f5⟩
  ·obtain⟨o,es,ep,ho,r⟩:=hm;exact⟨o,es,ep,hk _ o (λhb=>(hf _<|fz _ hb).2.1 rfl) ho,r⟩
  ·have nb:∀c o',H c=some o'->c∉ [z,TO,i1,i2]:=λc o' e hb=>by
    rw[(hf c<|fz c hb).1] at e;cases e
   refine(I.aK b o e).ju (λc q cC e'=>hk c q ?_ e') (λ_ q=>q) λ_ _ q=>q;rcases cC with rfl|cC
   ·exact nb _ _ e
   ·exact nb _ _ cC
 self:=λA i s Q E st hQ=>wpAny_pyIter_zip st.1 hQ
theorem boot_zip:bootBuiltins "zip"=some (.type "zip"):=rfl
theorem WD{k:Nat}{xR:Pos}{a b:Expr}{ta:TA}{p pos:Pos}(hg:Gl X "zip")(hm:X.mg "zip"=none)(ha:PA X [a,b] ta)
  (hs:starEach [a,b] X.env=(false,eval a X.env)::starEach [b] X.env) (j7:(backTo pos<|starEach [b] X.env).any (·.1)=false):
  PI X (.Tuple elts k xR) (.Call (.Name "zip" p) [a,b] [] pos) (BQ X.K ta):=by
 intro pins s σ H R I h;refine Call_<|rR I hg hm boot_zip<|PyProof.Rows.callWith_type1 (aV (ha pos pins s σ H _ I h) λus s1 ⟨vs,H1,I1,r1,q1⟩=>?_) hs j7;obtain⟨l1,l2,e,⟨xs,hx⟩,⟨ys,hy⟩,q⟩:=q1;subst e;obtain⟨u,v,rfl,ru,rv⟩:=vals2 r1;cases ru;cases rv;obtain⟨hZ,WE,p1,z1⟩:=I1.list hx;obtain⟨gM,rr2,p2,z2⟩:=I1.list hy;refine call_zip_2 p1.isList p2.isList λh' a1 a2 a3 a4 a5 a6 hk=>wpAny_pyIter_zip a1 ?_;have WG: @LT.lt Nat _ l1 s1.heap.objs.size:=by obtain⟨_,e,_⟩:=p1.isList;exact Heap.lt_size e
 have WH: @LT.lt Nat _ l2 s1.heap.objs.size:=by obtain⟨_,e,_⟩:=p2.isList;exact Heap.lt_size e
 have D:ZipApart (s1.heap.objs.size+4) (s1.heap.objs.size+2) (s1.heap.objs.size+3) s1.heap.objs.size (s1.heap.objs.size+1) l1 l2:=by
  constructor<;>(lia)
 refine⟨_,_,_,_,H1,rfl,(I1.kept hk),Wz D ⟨by lia,by lia⟩,⟨a1,a2,⟨_,_,a3⟩,a4,a5⟩,λb' hb=>?_,q⟩
 have hle:s1.heap.objs.size<=b':=by
  simp at hb
  rcases hb with rfl|rfl|rfl|rfl|rfl
  ·exact zbb _ _
  ·exact zbb _ _
  ·exact zbb _ _
  ·exact zqR _
  ·exact zbb _ _
 have:=I1.uw hle (I1.aK.fresh hle);exact this
theorem WI{K:Frag}{elts:List Expr}{k:Nat}{pos:Pos}{z it l:Addr}(d1:z≠it)(d2:l≠z)(d3:l≠it):
  Turn P w K (.Tuple elts k pos) (uP K l) [z,it] z
   (λi h=>(∃old,IsEnum h z it i old)/\h.IsListIter it l i) where
 mem:=by simp
 obj:=λi h st b hb=>by
  obtain⟨⟨old,hz⟩,⟨o2,e2,c2,d2⟩⟩:=st
  simp at hb
  rcases hb with rfl|rfl
  ·exact⟨_,hz,λv q=>by cases q⟩
  ·exact⟨_,e2,λv q=>by lia⟩
 keep:=λi h h' st hk=>by
  obtain⟨⟨old,hz⟩,h1⟩:=st;exact⟨⟨old,hk z (by simp) _ hz⟩,h1.at λo e=>hk it (by simp) o e⟩
 item:=by
  intro X hP hw hK hc i pins s σ H E I hf st hg;subst hP hw hK;obtain⟨xs,hx,WA⟩:=hg;obtain⟨hZ,r1,p1,z1⟩:=I.list hx;have uS:=r1.length;have W:=WalksT.enumerate (prog:=X.prog) (w:=X.w) (I.ok.hd hc) z it l d1 d2 d3 hZ.toArray;obtain⟨hz,h1⟩:=id st;have hn:i<hZ.toArray.size:=by simp;lia
  refine W.item i s _ _ hn ⟨hz,h1,p1.isList⟩ λT vals h' tk hv hT BX mid hk=>?_;refine⟨.ref T,rfl,W.go elts k pos i T _ _ _ mid λmR BY uT=>?_⟩;obtain⟨t0,u,eu,rfl⟩:=hv;have kk:=λb o hb e=>uT b o hb (hk b o hb e);have I1:Inv X pins σ H {s with heap:=mR,toks:=tk}:=by
   refine I.step (λb hb=>?_) (λb o _ _ hc e _=>kk b o hc e) (λb o _ _ hc e _=>⟨o.slots,kk b o hc e⟩) (λ_ _ _ _ n=>n)
    (λb o hc e=>⟨o,kk b o hc e⟩) (λ_ _ e=>e) (λ_ _ _ e=>e) (λb ps e=>⟨#[],by rw[e];simp⟩) (λm hm=>?_) (λb o e=>?_) I.bare
   ·obtain⟨f0,f1,f2,f3,f4,f5⟩:=qa6 (hf b hb);exact⟨f3,f1,f4,f5⟩
   ·obtain⟨o,es,ep,ho,r⟩:=hm;exact⟨o,es,ep,kk _ o (λhb=>(hf _ hb).2.1 rfl) ho,r⟩
   ·have nb:∀c o',H c=some o'->c∉ [z,it]:=λc o' e hb=>by
     rw[(hf c hb).1] at e;cases e
    refine(I.aK b o e).ju (λc q cC e'=>kk c q ?_ e') (λ_ q=>q) λ_ _ q=>q;rcases cC with rfl|cC
    ·exact nb _ _ e
    ·exact nb _ _ cC
  have iX:=hT;have fT:H T=none:=I.aK.fresh iX;have tT:mR.IsTuple T #[.int (i:Nat) t0,u]:=by
   obtain⟨o,ho,q⟩:=BX;exact⟨o,uT T o (W.apart i T h' mid) ho,q⟩
  obtain⟨a,BZ,ra⟩:∃a,xs[i]?=some a/\RelV a u:=by
   have e:=by simpa using eu
   have:i<xs.length:=by lia
   obtain⟨u',e',r'⟩:=r1.get (i:=i) (x:=xs[i]) (by simp[this])
   rw[e] at e';cases e';exact⟨xs[i],by simp[this],r'⟩
  have I2:Inv X pins σ (upd H T<|.tup [.int (i:Nat),a]) {s with heap:=mR,toks:=tk}:=by
   refine Inv.BB I1 fT (zaw I.sz iX) (zbg<|zal I.lt iX) (λx c e q=>?_) (λp hp q=>?_) ⟨by show 2<=sizeLine;decide,[.int (i:Nat) t0,u],.cons ⟨t0,rfl⟩<|.cons ra .nil,tT⟩
   ·obtain⟨v',q'⟩:=I.cell x c e;have:=q'.lt;rw[q] at this;exact absurd (zal this iX)<|zay _
   ·have:=Heap.lt_size (I.pin p hp).1;rw[q] at this;exact absurd (zal this iX)<|zay _
  refine⟨.ref T,_,I2,rfl,⟨T,fT,rfl,λiY a' eU ea=>?_⟩,?_,λc cC=>?_⟩
  ·rw[I.uu eU hx,BZ] at ea;cases ea;rfl
  ·obtain⟨⟨q0,q1⟩,q2,_⟩:=BY;exact⟨⟨q0,q1⟩,q2⟩
  ·have:c≠T:=λq=>by
    obtain⟨o,e,_⟩:∃o,s.heap.get? c=some o/\True:=by
     obtain⟨⟨old,hz⟩,⟨o2,e2,_⟩⟩:=st
     simp at cC
     rcases cC with rfl|rfl
     ·exact⟨_,hz,trivial⟩
     ·exact⟨_,e2,trivial⟩
    have:=Heap.lt_size e;rw[q] at this;exact absurd (zal this iX)<|zay _
   rw[aI this];exact ((hf c cC).1)
 done:=by
  intro X hP hw hK hc i pins s σ H E I hf st hg;subst hP hw hK;obtain⟨xs,hx,hi⟩:=hg;obtain⟨hZ,r1,p1,z1⟩:=I.list hx;have uS:=r1.length;have W:=WalksT.enumerate (prog:=X.prog) (w:=X.w) (A:=X.A) (I.ok.hd hc) z it l d1 d2 d3 hZ.toArray;obtain⟨hz,h1⟩:=id st;have hn:i=hZ.toArray.size:=by simp;lia
  subst hn;refine W.done s _ _ ⟨hz,h1,p1.isList⟩ λh' tk hk=>⟨rfl,?_⟩;refine I.step (λb hb=>?_) (λb o _ _ hc e _=>hk b o hc e) (λb o _ _ hc e _=>⟨o.slots,hk b o hc e⟩) (λ_ _ _ _ n=>n)
   (λb o hc e=>⟨o,hk b o hc e⟩) (λ_ _ e=>e) (λ_ _ _ e=>e) (λb ps e=>⟨#[],by rw[e];simp⟩) (λm hm=>?_) (λb o e=>?_) I.bare
  ·obtain⟨f0,f1,f2,f3,f4,f5⟩:=qa6 (hf b hb);exact⟨f3,f1,f4,f5⟩
  ·obtain⟨o,es,ep,ho,r⟩:=hm;exact⟨o,es,ep,hk _ o (λhb=>(hf _ hb).2.1 rfl) ho,r⟩
  ·have nb:∀c o',H c=some o'->c∉ [z,it]:=λc o' e hb=>by
    rw[(hf c hb).1] at e;cases e
   refine(I.aK b o e).ju (λc q cC e'=>hk c q ?_ e') (λ_ q=>q) λ_ _ q=>q;rcases cC with rfl|cC
   ·exact nb _ _ e
   ·exact nb _ _ cC
 self:=λA i s Q E st hQ=>by
  obtain⟨⟨old,hz⟩,_⟩:=st;exact wpAny_pyIter_enum hz hQ
theorem WJ:bootBuiltins "enumerate"=some (.type "enumerate"):=rfl
theorem WK{k:Nat}{xR:Pos}{a:Expr}{ta:TA}{p pos:Pos}(hg:Gl X "enumerate")(hm:X.mg "enumerate"=none)(ha:PA X [a] ta)
  (hs:starEach [a] X.env=[(false,eval a X.env)]):PI X (.Tuple elts k xR) (.Call (.Name "enumerate" p) [a] [] pos) (BP X.K ta):=by
 intro pins s σ H R I h;refine Call_<|rR I hg hm WJ<|PyProof.Rows.callWith_type1 (aV (ha pos pins s σ H _ I h) λus s1 ⟨vs,H1,I1,r1,q1⟩=>?_) hs rfl;obtain⟨l1,e,⟨xs,hx⟩,q⟩:=q1;subst e;obtain⟨u,rfl,ru⟩:=vals1 r1;cases ru;obtain⟨hZ,WE,p1,z1⟩:=I1.list hx;refine call_enumerate_list p1.isList λh' a1 a2 a3 hk=>wpAny_pyIter_enum a1 ?_;have WG: @LT.lt Nat _ l1 s1.heap.objs.size:=by obtain⟨_,e,_⟩:=p1.isList;exact Heap.lt_size e
 refine⟨_,_,_,_,H1,rfl,(I1.kept hk),WI (by lia) (by lia) (by lia),⟨⟨_,a1⟩,a2⟩,λb' hb=>?_,q⟩
 have hle:s1.heap.objs.size<=b':=by
  simp at hb
  rcases hb with rfl|rfl
  ·exact zbb _ _
  ·exact zqR _
 have:=I1.uw hle (I1.aK.fresh hle);exact this
end L2
namespace L2
open PySem PySem.Spec PyProof.Rows
def iZ(A:Around)(h:Heap):Prop:=A.handled=none\/∃e o vs,A.handled=some (.ref e)/\h.get? e=some o/\o.data=.fields vs/\vs[2]?=some .none
theorem iZ.keeps{h h':Heap}(x:iZ A h)(k:∀b o vs,h.get? b=some o->o.data=.fields vs->vs[2]?=some .none->h'.get? b=some o):iZ A h':=by
 rcases x with x|⟨e,o,vs,a,b,c,d⟩
 ·exact .inl x
 ·exact .inr ⟨e,o,vs,a,k e o vs b c d,c,d⟩
theorem WL:entryFor table "proto.unchain"=some Builtin.«proto.unchain»:=entryFor_of_fast (by kernel_rfl)
section
variable {prog:Program}{w:World}{A:Around}{E:Value->Shared->Prop}{s:Shared}
theorem WO{vs:Array Value}{i:Nat}{v:Value}{Q:Unit->Shared->Prop}(ho:s.heap.get? a=some o)(hd:o.data=.fields vs)(hi:i<vs.size)(h:Q () {s with heap:=s.heap.update a (Obj.mapFields (·.setIfInBounds i v))}):
  wpAny (model prog w) A (updateField a i v) Q E s:=by
 refine wpAny_bind<|wpAny_load ho ?_;rw[hd];show wpAny _ _ (if i<vs.size then _ else _) _ _ s
 rw[if_pos hi];exact wpAny_update ho h
theorem WQ{o:Obj}{vs:Array Value}{Q:α->Shared->Prop}(hh:iZ A s.heap)(ho:s.heap.get? a=some o)(hd:o.data=.fields vs)(h2:2<vs.size)(cP:∀e,A.handled=some (.ref e)->e≠a)
  (hE:∀h',Heap.SameBut a s.heap h'->(∃o',h'.get? a=some o'/\o'.cls=o.cls)->E (.ref a) {s with heap:=h'}):wpAny (model prog w) A (raiseNew (.ref a):Sem α) Q E s:=by
 refine wpAny_bind<|wpAny_handled ?_;rcases hh with hh|⟨e,oe,ve,hh,he,WR,WS⟩
 ·rw[hh];exact wpAny_bind<|wpAny_pure<|wpAny_throw<|hE s.heap (Heap.SameBut.refl ..) ⟨o,ho,rfl⟩
 ·rw[hh];have hb:((Value.ref e) !=(Value.ref a))=true:=by
   simp
   exact (cP e hh)
  dsimp only
  rw[if_pos hb];refine wpAny_bind<|wpAny_holding<|wpAny_runValue<|codeAny_builtin WL (wpAny_bind<|wpAny_field he WR WS (wpAny_bind<|wpAny_pure<|wpAny_pure ?_))
  refine wpAny_bind<|WO ho hd h2 (wpAny_throw<|hE _ (Heap.SameBut.update ..) ⟨_,Heap.get?_update_self _ ho<|Obj.isFreed_of_fields<|Obj.data_mapFields hd _,Obj.cls_mapFields ..⟩)
theorem IS{Qf:Fin->Shared->Prop}{Q:Option Value->Shared->Prop}(hh:iZ A s.heap)(hn:∀vs:Array Value,¬ ∃o,s.heap.get? it=some o/\o.data=.fields vs/\vs[2]?=some .none)
  (hQ:∀h',Heap.ExtBut it s.heap h'->Q none {s with heap:=h'}):
  wpAny (model prog w) A.in1 Builtin.SmallTypes.stopIteration Qf (λe s'=>wpAny (model prog w) A (do let b <-isInstance e (.type "StopIteration");if b=true then pure none else throw e) Q E s') {s with heap:=s.heap.update it f}:=by
 refine wpAny_bind (wpAny_bind<|wpAny_newObj_type ?_ (by size_fits))
 refine wpAny_bind<|wpAny_of_eq (rfl) (wpAny_newObj_type ?_ (by size_fits))
 have lt:∀b o,s.heap.get? b=some o->b≠it->(s.heap.update it f).get? b=some o:=λb o e hb=>(Heap.get?_update_other _ _<|Ne.symm hb).trans e;have WT:iZ A.in1 (((s.heap.update it f).push {cls:=.type "tuple",data:=.seq ([]:List Value).toArray}).push
   {cls:=.type "StopIteration",data:=.fields (#[.ref (s.heap.update it f).objs.size,.none,.none,.none,.bool false,.none]++ownMembersOf (.type "StopIteration") [])}):=by
  rcases hh with hh|⟨e,oe,ve,h1,h2,h3,h4⟩
  ·exact .inl hh
  ·refine .inr ⟨e,oe,ve,h1,Heap.get?_push_of_some _<|Heap.get?_push_of_some _<|lt e oe h2 λz=>?_,h3,h4⟩;subst z;exact hn ve ⟨oe,h2,h3,h4⟩
 refine WQ WT (Heap.get?_push_size _ rfl) rfl (zal (show 2<6 by decide) (by simp)) (λe he=>?_)<|λh' sb ⟨o',q1,q2⟩=>?_
 ·rcases hh with hh|⟨e',oe,ve,h1,h2,h3,h4⟩
  ·rw[show A.in1.handled=none from hh] at he;cases he
  ·rw[show A.in1.handled=_ from h1] at he
   cases he;have:=Heap.lt_size h2;refine zaf<|zal this ?_;rw[Heap.size_push,Heap.size_update];exact zaX _
 ·refine wpAny_bind (wpAny_isInstance ⟨_,q1,q2⟩ isSubtype_stop ?_);refine wpAny_pure<|hQ _ λb o hb e=>?_;have e3:=lt b o e hb;refine(sb.2 b<|zaf<|zal (Heap.lt_size e3) ?_).trans (Heap.get?_push_of_some {cls:=.type "StopIteration",data:=.fields (#[.ref (s.heap.update it f).objs.size,.none,.none,.none,.bool false,.none]++ownMembersOf (.type "StopIteration") [])} (Heap.get?_push_of_some {cls:=.type "tuple",data:=.seq ([]:List Value).toArray} e3));rw[Heap.size_push];exact zaX _
theorem WU{items}{Q:Option Value->Shared->Prop}(hh:iZ A s.heap)
  (hit:s.heap.IsListIter it l i) (hl:s.heap.IsList l items) (hx:items[i]?=none)
  (hQ:∀h',Heap.ExtBut it s.heap h'->Q none {s with heap:=h'}):wpAny (model prog w) A (pyNext<|.ref it) Q E s:=by
 obtain⟨o,ho,hc,hd⟩:=id hit;obtain⟨ol,B0,_,nl,ow⟩:=hl;refine wpAny_bind (wpAny_attempt (wpAny_callSpecial?_slot hit.typeIs slot_listiter_next
  (wpAny_call_entry slot_listiter_next hit.typeIs entry_listiter_next ?_ (args_listiter_next _))))
 show wpAny _ _ (field (.ref it) 0>>=_) _ _ s;refine wpAny_bind<|wpAny_field ho hd rfl (wpAny_bind<|wpAny_field ho hd rfl (wpAny_bind<|wpAny_seqItems B0 ow ?_))
 simp only[zar,hx]
 refine wpAny_bind<|wpAny_rule<|wpAny_bind<|wpAny_setField ho hd (by simp) ?_
 exact IS hh (λvs z=>by obtain⟨o',h1,h2,h3⟩:=z;rw[ho] at h1;cases h1;rw[hd] at h2;cases h2;cases h3) hQ
theorem WV{items}{Q:Option Value->Shared->Prop}(hh:iZ A s.heap)
  (hit:IsTupIter s.heap it t i) (ht:IsTup s.heap t items) (hx:items[i]?=none)
  (hQ:∀h',Heap.ExtBut it s.heap h'->Q none {s with heap:=h'}):wpAny (model prog w) A (pyNext<|.ref it) Q E s:=by
 obtain⟨o,ho,hc,hd⟩:=id hit;obtain⟨ol,B0,_,nl,ow⟩:=ht;refine wpAny_bind (wpAny_attempt (wpAny_callSpecial?_slot hit.typeIs slot_tupleiter_next
  (wpAny_call_entry slot_tupleiter_next hit.typeIs entry_tupleiter_next ?_ (args_tupleiter_next _))))
 show wpAny _ _ (field (.ref it) 0>>=_) _ _ s;refine wpAny_bind<|wpAny_field ho hd rfl (wpAny_bind<|wpAny_field ho hd rfl (wpAny_bind<|wpAny_seqItems B0 ow ?_))
 simp only[zar,hx]
 refine wpAny_bind<|wpAny_rule<|wpAny_bind<|wpAny_setField ho hd (by simp) ?_
 exact IS hh (λvs z=>by obtain⟨o',h1,h2,h3⟩:=z;rw[ho] at h1;cases h1;rw[hd] at h2;cases h2;cases h3) hQ
theorem WW{Q:List Value->Shared->Prop}(hh:iZ A s.heap)(ht:IsTup s.heap t items)
  (hQ:∀h',Heap.ExtBut s.heap.objs.size s.heap h'->Q items.toList {s with heap:=h'}):wpAny (model prog w) A (unpackItems (.ref t) items.size none) Q E s:=by
 have aU:t≠s.heap.objs.size:=by obtain⟨o,ho,_⟩:=ht;exact zaf (Heap.lt_size ho)
 refine wpAny_bind ?_
 ·refine wpAny_bind<|wpAny_specialOf ht.typeIs slot_tuple_iter.lookup ?_;refine wpAny_pure ?_
  refine wpAny_bind<|wpAny_holding<|iter_tuple ht (wpAny_bind<|wpAny_holding<|draw_tuple aU items.size 0 _ _ ⟨_,Heap.get?_push_size _ rfl,rfl,rfl⟩ (ht.push _) (by lia) λh₁ uU mS=>?_)
  have uH:List.take items.size (List.drop 0 items.toList)=items.toList:=by
   exact zav (by simp)
  rw[uH];rw[if_neg (by simp)]
  refine wpAny_bind<|wpAny_holding<|WV (hh.keeps λb o vs e _ _=>mS.extBut b o (zaf<|Heap.lt_size e) (Heap.get?_push_of_some _ e)) uU ((ht.push _).extBut mS.extBut aU) (by simp) λh₂ B2=>?_
  refine wpAny_pure<|hQ h₂ λb o hb e=>B2 b o hb (mS.extBut b o hb<|Heap.get?_push_of_some _ e)
theorem WY{elts:List Expr}{x1}{pos:Pos}{t:Addr}{items:Array Value}{Q:Unit->Shared->Prop}(hh:iZ A s.heap)(ht:IsTup s.heap t items)
  (hn:(assignEach elts env).length=items.size) (B3:(assignEach elts env).findIdx? (·.1)=none)
  (h:∀h',Heap.ExtBut s.heap.objs.size s.heap h'->wpAny (model prog w) A (assignInOrder ((assignEach elts env).map (·.2)) items.toList) Q E {s with heap:=h'}):
  wpAny (model prog w) A (assign (.Tuple elts x1 pos) env<|.ref t) Q E s:=by
 refine wpAny_bind<|wpAny_standAt ?_;unfold unpack;rw[hn,B3];exact wpAny_bind<|wpAny_holding<|WW hh ht h
end
end L2
namespace L2
open PySem PySem.Spec PyProof.Rows PySem.W
section
variable {prog:Program}{w:World}{A:Around}{E:Value->Shared->Prop}{s:Shared}{K:Frag}{x D:Addr}{ox:Obj}
theorem WZ(X:K.In s.heap)(I:InstAt s.heap x ox D none)(uN:findIn K (.ref D) "__getattribute__"=some (some<|.builtin "BaseException.__getattribute__"))(uO:findIn K (.ref D) "__getattr__"=some none)
  (hk:(clsIn K D).isSome=true) (ha:findIn K (.ref D) "__class__"=some (some<|.builtin "object.__class__")) (hn:specialIn K (.builtin "object.__class__") "__get__"=some (some<|.builtin "getset_descriptor.__get__")) (nV:takesIn K (.builtin "object.__class__")=some true)
  (hm:mroIn K D (.type "object")=some true) (hb:mroIn K D (.type "BaseException")=some true)
  (h:Q (some<|.ref D) {s with toks:=s.toks+1}):wpAny (model prog w) A (getAttr? (.ref x) "__class__") Q E s:=by
 have hf:findObj K D none "__class__"=some (.bind (.builtin "getset_descriptor.__get__")<|.builtin "object.__class__"):=by
  obtain⟨cd,hc⟩:=zbv.mp hk;unfold findObj;rw[hc,Option.bind_some,ha,Option.bind_some]
  simp only[hn,nV,Option.bind_some]
 obtain⟨hh,g,d,t,os⟩:=s;have L0:=I.type (M:=model prog w);have L1:=looks_findIn (M:=model prog w) X uN;have L2:=looks_findIn (M:=model prog w) X uO;have L3:=looks_find (M:=model prog w) X I hf;unfold getAttr? getAttrBy? getAttrBy;refine wpAny_bind<|wpAny_mkText<|wpAny_bind<|wpAny_attempt<|wpAny_holding<|wpAny_bind<|L0.at<|wpAny_bind<|L1.at ?_;have uV:(Value.builtin "BaseException.__getattribute__"==Value.builtin "object.__getattribute__")=false:=by decide+kernel
 show wpAny _ _ (if (onTheHeap (Value.ref D) && Value.builtin "BaseException.__getattribute__"==Value.builtin "object.__getattribute__")=true then _ else _) _ _ _
 rw[uV,Bool.and_false,if_neg (by decide)]
 unfold getAttrByItsOwn hookBefore;refine wpAny_bind<|L2.at ?_;refine wpAny_bind<|wpAny_attempt<|wpAny_holding ?_;show wpAny _ _ (boundAndCalled _ _ _) _ _ _;unfold boundAndCalled;rw[F.excAttr_ValueError.ga.bind<|.ref x];refine wpAny_bind<|wpAny_pure ?_;refine wpAny_call<|codeAny_call_builtin F.excAttr_ValueError.ga.plain F.entry_bexc_ga ?_;have L4:=looks_mroIn (M:=model prog w) X hb;have uW:builtinKind "BaseException.__getattribute__"=some .slot:=by decide+kernel
 have W0:splitId "BaseException.__getattribute__"=some ("BaseException","__getattribute__"):=by decide+kernel
 simp only[checkBuiltinCall,uW,W0]
 have L5:Looks (model prog w) hh (isInstance (.ref x)<|.type "BaseException") true:=L0.andThen L4;refine wpAny_bind<|L5.at ?_
 repeat (any_goals (first|assumption|(with_reducible refine wpAny_loadPart_at I.at_ ?_;rw[I.cls];refine wpAny_pure (wpAny_bind<|L3.at ?_))|wp_step))
 refine class_get (s:=⟨hh,g,d,t+1,os⟩) (ox:=ox) (od:=none) X I hm ?_;exact wpAny_pure<|wpAny_pure<|wpAny_pure h
theorem W2(uN:findIn K (.ref D) "__getattribute__"=some (some<|.builtin "BaseException.__getattribute__"))(uO:findIn K (.ref D) "__getattr__"=some none)
  (hk:(clsIn K D).isSome=true) (ha:findIn K (.ref D) "__class__"=some (some<|.builtin "object.__class__")) (hn:specialIn K (.builtin "object.__class__") "__get__"=some (some<|.builtin "getset_descriptor.__get__")) (nV:takesIn K (.builtin "object.__class__")=some true)
  (hm:mroIn K D (.type "object")=some true) (hb:mroIn K D (.type "BaseException")=some true):KitX K (.ref x) (.ref D) (λh=>InstAt h x ox D none) where
 ty:=λ_ _ _ I=>I.type
 it:=λ_ _ X _=>by
  obtain⟨W3,mz⟩:=zbv.mp hk;unfold clsIn at mz
  split at mz
  ·rename_i c' d' W4 AK ho
   intro A' Q' E' s' k q;exact wpAny_bind<|wpAny_loadPart (k _ _<|X _ _ ho)<|wpAny_pure q
  ·cases mz
 ne:=λh tp dd its n sl X W5=>by
  obtain⟨W3,mz⟩:=zbv.mp hk;refine Bool.eq_false_iff.mpr λq=>?_;have e:=Value.ref.inj (beq_iff_eq.mp q);subst e;unfold clsIn at mz
  split at mz
  ·rename_i c' d' W4 AK ho
   cases ((X _ _ ho).symm.trans W5)
  ·cases mz
 ca:=λX I k=>WZ X I uN uO hk ha hn nV hm hb k
end
end L2
namespace L2
open PySem PySem.Spec PyProof.Rows
inductive bW (J:Shared->Prop) {α:Type}:Sem α->Prop
 |pure (a:α):bW J (.pure a)
 |raise (e:Value):bW J (.raise e)
 |unsupported (w:String):bW J (.unsupported w)
 |rule {t:String}{k:Unit->Sem α}:bW J (k ())->bW J (.rule t k)
 |load {a:Addr}{p:Option Value}{k:Obj->Sem α}:(∀o,bW J<|k o)->bW J (.load a p k)
 |update {a:Addr}{p:Option Value}{f:Obj->Obj}{k:Unit->Sem α}:(∀s,J s->J {s with heap:=s.heap.update a f})->bW J (k ())->bW J (.update a p f k)
 |alloc {o:Obj}{k:Addr->Sem α}:(∀s,J s->J {s with heap:=s.heap.push o})->(∀a,bW J<|k a)->bW J (.alloc o k)
 |stack {k:List (Code×Pos)->Sem α}:(∀t,bW J<|k t)->bW J (.stack k)
theorem W6{J:Shared->Prop}{α:Type}{t:Sem α}(kt:bW J t):∀{Q:α->Pos->Shared->Prop}{E:Value->Pos->Shared->Prop}{p:Pos}{s:Shared},J s->Sem.wp M Γ t Q E p s->
  Sem.wp M Γ t (λa p s=>Q a p s/\J s) (λe p s=>E e p s/\J s) p s:=by
 induction kt with
 |pure a=>intro Q E p s j h;exact⟨h,j⟩
 |raise e=>intro Q E p s j h;exact⟨h,j⟩
 |unsupported w=>intro Q E p s j h;exact h.elim
 |rule _ ih=>intro Q E p s j h;exact ih j h
 |load _ ih=>intro Q E p s j h;obtain⟨o,e,h⟩:=h;exact⟨o,e,ih o j h⟩
 |update f _ ih=>intro Q E p s j h;exact⟨h.1,ih (f _ j) h.2⟩
 |alloc f _ ih=>intro Q E p s j h;exact ih _ (f _ j) h
 |stack _ ih=>intro Q E p s j h;exact ih _ j h
theorem uX{A:Around}{J:Shared->Prop}{α:Type}{t:Sem α}{Q:α->Shared->Prop}{E:Value->Shared->Prop}{s:Shared}(k:bW J t)(j:J s)(h:wpAny M A t Q E s):
  wpAny M A t (λa s=>Q a s/\J s) (λe s=>E e s/\J s) s:=λΓ p hΓ=>W6 k j (h Γ p hΓ)
def eO(e:Addr)(s:Shared):Prop:= ∃o vs,s.heap.get? e=some o/\o.data=.fields vs/\vs[2]?=some .none/\o.dict=none
theorem W7(f:Array Value->Array Value)(o:Obj):(Obj.mapFields f o).dict=o.dict:=by
 unfold Obj.mapFields
 split<;>rfl
theorem W8{i:Nat}{v:Value}(hi:i≠2)(s:Shared)(j:eO e s):eO e {s with heap:=s.heap.update a (Obj.mapFields (·.setIfInBounds i v))}:=by
 obtain⟨o,vs,h1,h2,h3,h4⟩:=j;by_cases z:a=e
 ·subst z;have d:=Obj.data_mapFields h2 (·.setIfInBounds i v);exact⟨_,_,Heap.get?_update_self _ h1<|Obj.isFreed_of_fields d,d,by rw[Array.getElem?_setIfInBounds_ne hi];exact h3,(W7 _ _).trans h4⟩
 ·exact⟨o,vs,(Heap.get?_update_other _ _ z).trans h1,h2,h3,h4⟩
theorem W9{f:Obj->Obj}(hf:∀o,(f o).data=o.data/\(f o).dict=o.dict)(s:Shared)(j:eO e s):eO e {s with heap:=s.heap.update a f}:=by
 obtain⟨o,vs,h1,h2,h3,h4⟩:=j;by_cases z:a=e
 ·subst z;exact⟨_,vs,Heap.get?_update_self _ h1<|Obj.isFreed_of_fields<|(hf o).1.trans h2,(hf o).1.trans h2,h3,(hf o).2.trans h4⟩
 ·exact⟨o,vs,(Heap.get?_update_other _ _ z).trans h1,h2,h3,h4⟩
theorem W_{ob:Obj}(s:Shared)(j:eO e s):eO e {s with heap:=s.heap.push ob}:=by
 obtain⟨o,vs,h1,h2,h3,h4⟩:=j;exact⟨o,vs,Heap.get?_push_of_some _ h1,h2,h3,h4⟩
theorem bW.bind{α β:Type}{t:Sem α}{f:α->Sem β}(kt:bW J t)(h:∀a,bW J<|f a):bW J (t>>=f):=by
 induction kt with
 |pure a=>exact h a
 |raise e=>exact .raise e
 |unsupported w=>exact .unsupported w
 |rule _ ih=>exact .rule ih
 |load _ ih=>exact .load ih
 |update g _ ih=>exact .update g ih
 |alloc g _ ih=>exact .alloc g ih
 |stack _ ih=>exact .stack ih
section
variable {e:Addr}
theorem B4{a:Addr}:bW (eO e) (load a):=.load λo=>.pure o
theorem B5{i:Nat}(hi:i≠2):bW (eO e) (setField v i x):=by
 unfold setField
 split
 ·refine B4.bind λo=>?_
  split
  ·split
   ·exact .update (λs j=>W8 hi s j) (.pure ())
   ·exact .unsupported _
  ·exact .unsupported _
 ·exact .unsupported _
theorem Xa:bW (eO e) (fieldsOf v):=by
 unfold fieldsOf
 split
 ·refine B4.bind λo=>?_
  split
  ·exact .pure _
  ·exact .unsupported _
 ·exact .unsupported _
theorem yx{i:Nat}:bW (eO e) (field v i):=by
 refine Xa.bind λvs=>?_
 split
 ·exact .pure _
 ·exact .unsupported _
theorem B6{f:Option Addr}:bW (eO e) (setFlight v f):=by
 refine yx.bind λtb=>?_
 split
 ·exact B5 (by lia)
 ·exact .pure _
theorem B7:bW (eO e) stack:=.stack λt=>.pure t
theorem Xb{vs:List Value}:bW (eO e) (newFields ty vs):=by
 show bW (eO e) (if vs.toArray.size>sizeLine+2 then (unsupported "record:memory" >>=_) else _)
 split
 ·exact .unsupported _
 ·exact bW.bind (.alloc (λs j=>W_ s j) λa=>.pure a) λa=>.pure _
theorem Xd{b:Bool}:bW (eO e) (entryPlaceOf f b):=by
 refine B7.bind λajW=>?_
 split
 ·exact .pure _
 ·exact .pure _
theorem IT:∀l:List Env,bW (eO e) (readyFrames l)
 |[]=>.pure _
 |env::outer=>by
  unfold readyFrames
  split
  ·refine B4.bind λo=>?_
   split
   ·exact .pure _
   ·refine bW.bind ?_ λim=>bW.bind ?_ λbk=>bW.bind (.update (λs j=>W9 (by lia) s j)<|.pure ()) λ_=>IT outer
    ·unfold behindIsImport
     split
     ·exact .pure _
     ·split
      ·exact .pure _
      ·exact yx.bind λ_=>.pure _
    ·unfold keptBack
     split
     ·split
      ·exact .pure _
      ·exact bW.bind (B7.bind λ_=>.pure _) λ_=>.pure _
     ·exact .pure _
  ·exact .unsupported _
theorem Xe:bW (eO e) (PySem.frameOf env):=by
 refine bW.bind (B7.bind λ_=>.pure _) λl=>bW.bind ?_ λr=>?_
 ·unfold frameObject
  split
  ·exact .pure _
  ·exact(IT _).bind λ_=>.pure _
 ·split
  ·exact .pure _
  ·exact .unsupported _
theorem IU:bW (eO e) (noteFrame v env):=by
 unfold noteFrame
 split
 ·rename_i x d hq
  refine yx.bind λhd=>?_;have tail:bW (eO e) (do let a <-PySem.frameOf env;let pl <-entryPlaceOf d (hd !=.none);let b <-EntryCells.newEntry hd a .none (rawInt d) .none pl;setField v 1 b):=
   Xe.bind λa=>Xd.bind λpl=>bW.bind Xb λb=>B5 (by lia)
  split
  ·refine yx.bind λx=>?_
   split
   ·exact .pure _
   ·exact(B5 (by lia)).bind λ_=>tail
  ·exact tail
 ·exact .unsupported _
theorem IV{env:Env}:bW (eO e) (leaving env v):=by
 exact IU.bind λ_=>B6
end
end L2
namespace L2
open PySem PySem.Spec PyProof.Rows
theorem da.yy{H:Hp}{h:Heap}{a:Addr}{o:HO}(x:da P w H h a o):∃ob,h.get? a=some ob:=by
 cases o with
 |lst xs=>obtain⟨_,_,_,_,e⟩:=x;exact⟨_,e⟩
 |tup xs=>obtain⟨_,_,_,ob,e,_⟩:=x;exact⟨_,e⟩
 |dK aS=>obtain⟨_,_,_,_,o,_,_,e,_⟩:=x;exact⟨_,e⟩
 |dT aS=>obtain⟨_,_,_,_,o,_,_,e,_⟩:=x;exact⟨_,e⟩
 |set S n=>obtain⟨o,_,_,_,e,_⟩:=x;exact⟨_,e⟩
 |ins C dx fs=>obtain⟨_,_,_,e,_⟩:=x;exact⟨_,e⟩
 |own y=>obtain⟨_,e⟩:=x;exact⟨_,e⟩
 |xd fs=>obtain⟨_,⟨_,_,_,e,_⟩,_⟩:=x;exact⟨_,e⟩
 |gZ lo hi=>obtain⟨_,_,_,e⟩:=x;exact⟨_,e⟩
 |bO ob u=>obtain⟨e,_⟩:=x;exact⟨_,e⟩
 |k7 ps=>exact⟨_,(show h.get? a=some _ from x)⟩
 |met f y=>exact⟨_,(show h.get? a=some _ from x)⟩
 |ext φ=>obtain⟨_,⟨_,e⟩,_⟩:=x;exact⟨_,e⟩
theorem cw.yz{H:Hp}{h h':Heap}(ok:cw P w H h)(k:∀b u,H b≠none->h.get? b=some u->h'.get? b=some u):cw P w H h':=λa o e=>
 (ok a o e).ju (λb u hb hu=>k b u (by
  rcases hb with rfl|hb
  ·rw[e];exact Option.some_ne_none _
  ·rw[hb];exact Option.some_ne_none _) hu) (λ_ z=>z) (λ_ _ z=>z)
def e_(P:Program)(w:World):cb:=λouter H s E e s'=>∃(ea:Addr) (cls:Value) (t:Addr) (B:Heap) (H':Hp),
 e=.ref ea/\s'.os=s.os/\AllBare s'.gens/\Un (bL outer) [] H H' s.heap s'.heap/\cw P w H' s'.heap/\Heap.FlyingW B outer ea cls (.ref t) s'.heap/\eO ea s'/\H' ea=none/\
 (∀b,H' b≠none->∀o,s'.heap.get? b=some o->B.get? b=some o)/\(∀b o,s.heap.get? b=some o->b∉bL outer->∀o',s'.heap.get? b=some o'->B.get? b=some o')/\E cls none H'
theorem yA{w:World}{outer:List Env}{H:Hp}{s:Shared}{e:Value}{s':Shared}(h:e_ P w outer H s E0 e s'):False:=by
 obtain⟨_,_,_,_,_,zq⟩:=qx5 h;obtain⟨_,_,_,_,_,_,_,_,_,_,h⟩:=qa11 zq;exact h
section
variable {P:Program}{w:World}{K:Frag}{mg:Str->Option Value}{base:Heap}{N:List Str}{qual:Str}{scope:Scope}{f:Addr}{cd:Value}{A:Around}{outer:List Env}{s₀:Shared}{H₀:Hp}{E:XK}
theorem Xf:Passes (e_ P w) (mE (e_ P w) P w K mg base N qual scope f cd A outer s₀ H₀ E) E:=by
 intro pins σ H s e s' I hx;obtain⟨ea,cls,t,B,H',zq⟩:=qx5 hx;obtain⟨rfl,os,bare,u,aK,fl,uY,mU,c1,c2,hE⟩:=qa11 zq;have nL:∀b o,s₀.heap.get? b=some o->b∉bL outer->b∉bL (envOfC qual scope s₀.heap.objs.size f cd::outer):=λb o hb hn hm=>by
  rcases zaa.mp hm with rfl|z
  ·exact absurd (Heap.lt_size hb) (Nat.not_lt.mpr I.ok.above)
  ·exact hn z
 have jv:∀b∈bL (envOfC qual scope s₀.heap.objs.size f cd::outer),H' b=none:=λb hb=>by
  obtain⟨o,ho,_⟩:=(I.stack.mem hb).2;exact u.free b o ho (I.xr b hb) zac
 refine wpAny_mono (uX IV uY<|wpAny_leaves_onW (Q:=λ_ g8=>∃h',g8={s' with heap:=h'}/\Heap.FlyingW B outer ea cls (.ref t) h'/\s'.heap.UpToSlots h') (E:=λ_ _=>False) I.ok.frames rfl fl λh' jE up=>⟨h',rfl,jE,up⟩)
  (λ_ g8 hq=>?_) (λ_ _ z=>z.1.elim)
 obtain⟨⟨h',rfl,jE,up⟩,B8⟩:=hq;have into:=λb o hb hn o' eN=>jE.1 b o' (c2 b o hb hn o' eN);have k8:=λb o hb ho=>jE.1 b o (c1 b hb o ho);have gP:∀b∈bL (envOfC qual scope s₀.heap.objs.size f cd::outer),∀o,s'.heap.get? b=some o->∃sl,h'.get? b=some {o with slots:=sl}:=λb hb o ho=>by
  obtain⟨o1,kb,hd⟩:=(fl.2.2.1.mem hb).2;rw[ho] at kb;cases kb;exact up b o ho hd
 refine⟨ea,cls,t,B,H',rfl,os.trans I.os,bare,⟨λb o q n hn _=>?_,λb o q n hn _=>?_,λb o q n _=>?_,λb o q _=>?_,λb xs q=>u.cz b xs (I.base.cz b xs q),λb o v q=>u.f_ b o v (I.base.f_ b o v q),λb ps q=>?_⟩,
  aK.yz (λb o hb ho=>k8 b o hb ho),jE,B8,mU,λb hb o ho=>?_,λb o q hn o' eN=>?_,hE⟩
 ·have q1:=I.base.keep b o q n hn zac;have jF:=nL b o q hn;exact into b o q1 jF o<|u.keep b o q1 (I.base.free b o q n zac) jF zac
 ·obtain⟨sl,q1⟩:=I.base.slot b o q n hn zac;have jF:b∈bL (envOfC qual scope s₀.heap.objs.size f cd::outer):=zam _ hn;obtain⟨uE,q2⟩:=u.slot b _ q1 (I.base.free b o q n zac) jF zac;obtain⟨B9,q3⟩:=gP b jF _ q2;exact⟨B9,q3⟩
 ·obtain⟨o1,q1⟩:=I.base.there b o q zac;exact u.free b o1 q1 (I.base.free b o q n zac) zac
 ·obtain⟨o1,q1⟩:=I.base.there b o q zac;obtain⟨o2,q2⟩:=u.there b o1 q1 zac;by_cases hm:b∈bL (envOfC qual scope s₀.heap.objs.size f cd::outer)
  ·obtain⟨sl,q3⟩:=gP b hm o2 q2;exact⟨_,q3⟩
  ·exact⟨o2,into b o1 q1 hm o2 q2⟩
 ·obtain⟨m1,e1⟩:=I.base.gI b ps q;obtain⟨m2,e2⟩:=u.gI b _ e1;exact⟨m1++m2,by rw[e2,Array.append_assoc]⟩
 ·obtain⟨iV,hH⟩:=zbM.mp hb;obtain⟨o2,q2⟩:=(aK b iV hH).yy;have kc:=ho;rw[(k8 b o2 hb q2)] at kc;cases kc;exact c1 b hb _ q2
 ·obtain⟨o1,q1⟩:=I.base.there b o q zac;obtain⟨o2,q2⟩:=u.there b o1 q1 zac;have jF:=nL b o q hn;have kc:=eN;rw[(into b o1 q1 jF o2 q2)] at kc;cases kc;exact c2 b o1 q1 jF _ q2
def Raises(X:Cx)(E:XK):Prop:= ∀(pins:List (Addr×Obj)) (σ:St) (H:Hp) (s:Shared) (h':Heap) (e:Addr) (cls:Value) (vs:List Value),Inv X pins σ H s->Heap.MadeExcOf s.heap h' e cls vs->E cls none H->X.xe (.ref e) {s with heap:=h'}
theorem Xg:Raises (mE (e_ P w) P w K mg base N qual scope f cd A outer s₀ H₀ E) E:=by
 intro pins σ H s h1 e cls vs I hx hE;have nL:∀b o,s₀.heap.get? b=some o->b∉bL outer->b∉bL (envOfC qual scope s₀.heap.objs.size f cd::outer):=λb o hb hn hm=>by
  rcases zaa.mp hm with rfl|z
  ·exact absurd (Heap.lt_size hb) (Nat.not_lt.mpr I.ok.above)
  ·exact hn z
 have cQ:∀env∈ (envOfC qual scope s₀.heap.objs.size f cd::outer),∀b,env.frame=some b->b∈bL (envOfC qual scope s₀.heap.objs.size f cd::outer):=λenv he b hb=>zbL.mpr ⟨env,he,hb⟩;have uY:eO e {s with heap:=h1}:=by
  obtain⟨t,ht,_,_⟩:=hx.there;exact⟨_,_,ht,rfl,rfl,rfl⟩
 refine wpAny_mono (uX IV uY (wpAny_leaves_madeW (Q:=λ_ g8=>∃h' t,g8={s with heap:=h'}/\Heap.FlyingW (hideAll s.heap (bL (envOfC qual scope s₀.heap.objs.size f cd::outer))) outer e cls (.ref t) h'/\h1.UpToSlots h') (E:=λ_ _=>False)
  I.ok.frames rfl (λb o q=>of_hideAll _ q) (PySem.W.funFrames_hide I.stack cQ) hx λh' t jE _ _ up=>⟨h',t,rfl,jE,up⟩)) (λ_ g8 hq=>?_) (λ_ _ z=>z.1.elim)
 obtain⟨⟨h',t,rfl,jE,up⟩,B8⟩:=hq;have into:=λb o hb hn=>jE.1 b o (hideAll_get _ hb hn);have B_:∀b,H b≠none->b∉bL (envOfC qual scope s₀.heap.objs.size f cd::outer):=λb hb hm=>hb (I.xr b hm);have gP:∀b∈bL (envOfC qual scope s₀.heap.objs.size f cd::outer),∀o,s.heap.get? b=some o->∃sl,h'.get? b=some {o with slots:=sl}:=λb hb o ho=>by
  obtain⟨o1,kb,hd⟩:=(I.stack.mem hb).2;rw[ho] at kb;cases kb;exact up b o (hx.keeps b o ho) hd
 refine⟨e,cls,t,_,H,rfl,I.os,I.bare,⟨λb o q n hn _=>?_,λb o q n hn _=>?_,λb o q n _=>I.base.free b o q n zac,λb o q _=>?_,I.base.cz,I.base.f_,I.base.gI⟩,
  I.aK.yz (λb o hb ho=>into b o ho (B_ b hb)),jE,B8,?_,λb hb o ho=>?_,λb o q hn o' eN=>?_,hE⟩
 ·exact into b o (I.base.keep b o q n hn zac) (nL b o q hn)
 ·obtain⟨sl,q1⟩:=I.base.slot b o q n hn zac;obtain⟨B9,q3⟩:=gP b (zam _ hn) _ q1;exact⟨B9,q3⟩
 ·obtain⟨o1,q1⟩:=I.base.there b o q zac;by_cases hm:b∈bL (envOfC qual scope s₀.heap.objs.size f cd::outer)
  ·obtain⟨sl,q3⟩:=gP b hm o1 q1;exact⟨_,q3⟩
  ·exact⟨o1,into b o1 q1 hm⟩
 ·cases q:H e with
  |none=>rfl
  |some ho=>
   obtain⟨o2,q2⟩:=(I.aK e ho q).yy;rw[hx.new] at q2;cases q2
 ·obtain⟨iV,hH⟩:=zbM.mp hb;obtain⟨o2,q2⟩:=(I.aK b iV hH).yy;have kc:=ho;rw[(into b o2 q2 (B_ b hb))] at kc;cases kc;exact hideAll_get _ q2<|B_ b hb
 ·obtain⟨o1,q1⟩:=I.base.there b o q zac;have jF:=nL b o q hn;have kc:=eN;rw[(into b o1 q1 jF)] at kc;cases kc;exact hideAll_get _ q1 jF
end
section
variable {X:Cx}
theorem Xh{bm:List Value}{B newId so:String}{e:Expr}{es:List Expr}{t:TA}{np d0 pos:Pos}{E:XK}(hc:X.calm=true)(O:OwnCls x C bm newId X.mg X.base)(FB:ExcBaseFacts B newId so bm)(Ca:Gl X x)
  (hd:(x==("__debug__":Str))=false) (ha:PA X (e::es) t) (hs:starEach (e::es) X.env=(false,eval e X.env)::starEach es X.env) (h1:(backTo d0<|starEach es X.env).any (·.1)=false) (hR:Raises X E):
  PS X (.Raise (some<|.Call (.Name x np) (e::es) [] d0) none pos) (BK C E t):=by
 intro pins s σ H D I h;obtain⟨tl,N,nm,q,bs,hdct,sn,sub,ab,col,dd,k0,k1,k2,k3,k5,mN,hC,hN,yB,T⟩:=O.obj;have hg:PE X (.Name x np) (tC<|.ref C):=Ge Ca O.bound rfl hd;refine wpAny_Raise_call_subT (C:=C) (nm:=nm) (q:=q) (N:=N) (bs:=bs) (hdct:=hdct) (sn:=sn) (sub:=sub) (ab:=ab) (col:=col) (dd:=dd) (k0:=k0) (k1:=k1) (k2:=k2) (k3:=k3) (k5:=k5)
  FB (T.hasType FB.hasBase) (I.ok.hd hc) (by rw[hs];show(false ||(backTo d0<|starEach es X.env).any (·.1))=false;rw[h1];rfl) yB
  (aV (hg pins s σ H (λv H1=>v=.ref C/\BK C E t D σ H1) I ⟨rfl,h⟩) λf s1 ⟨v,H1,I1,r1,ev,q1⟩=>?_)
 subst ev;obtain rfl:f=Value.ref C:=r1;refine⟨rfl,?_⟩;have hA:=ha d0 pins s1 σ H1 _ I1 q1;rw[hs] at hA⊢;refine Calls.evalArgs_plain<|aV hA λus s2 ⟨vs,H2,I2,r2,hl,q2⟩=>⟨rfl,?_,I2.bk _ _ hC,hN.keeps I2.bk,T.keeps I2.bk,λh' e' hm=>hR pins σ H2 s2 h' e' _ _ I2 hm q2⟩;have:=r2.length;lia
end
theorem IW{l:List Env}{H H':Hp}{h h1 h' B:Heap}(u:Un (bL l) [] H H' h h1)(aK:cw P w H' h1)(fr:h1.FunFrames B l)
  (c1:∀b,H' b≠none->∀o,h1.get? b=some o->B.get? b=some o) (c2:∀b o,h.get? b=some o->b∉bL l->∀o',h1.get? b=some o'->B.get? b=some o') (st:B.StaysIn h') (up:h1.UpToSlots h'):
  Un (bL l) [] H H' h h'/\cw P w H' h'/\(∀b,H' b≠none->∀o,h'.get? b=some o->B.get? b=some o)/\(∀b o,h.get? b=some o->b∉bL l->∀o',h'.get? b=some o'->B.get? b=some o'):=by
 have k8:=λb o hb ho=>st b o (c1 b hb o ho);have into:=λb o hb hn o' eN=>st b o' (c2 b o hb hn o' eN);have gP:∀b∈bL l,∀o,h1.get? b=some o->∃sl,h'.get? b=some {o with slots:=sl}:=λb hb o ho=>by
  obtain⟨o1,kb,hd⟩:=(fr.mem hb).2;rw[ho] at kb;cases kb;exact up b o ho hd
 refine⟨⟨λb o q n hn _=>into b o q hn o<|u.keep b o q n hn zac,λb o q n hn _=>?_,u.free,λb o q _=>?_,u.cz,u.f_,u.gI⟩,aK.yz<|λb o hb ho=>k8 b o hb ho,λb hb o ho=>?_,λb o q hn o' eN=>?_⟩
 ·obtain⟨sl,q1⟩:=u.slot b o q n hn zac;obtain⟨uE,q2⟩:=gP b hn _ q1;exact⟨uE,q2⟩
 ·obtain⟨o1,q1⟩:=u.there b o q zac;by_cases hm:b∈bL l
  ·obtain⟨sl,q3⟩:=gP b hm o1 q1;exact⟨_,q3⟩
  ·exact⟨o1,into b o q hm o1 q1⟩
 ·obtain⟨iV,hH⟩:=zbM.mp hb;obtain⟨o2,q2⟩:=(aK b iV hH).yy;rw[(k8 b o2 hb q2)] at ho;cases ho;exact c1 b hb _ q2
 ·obtain⟨o2,q2⟩:=u.there b o q zac;rw[(into b o q hn o2 q2)] at eN;cases eN;exact c2 b o q hn _ q2
def Cx.alt(X:Cx)(A:Around)(calm:Bool)(pn:List (Addr×Obj))(xe:Value->Shared->Prop):Cx:={X with A:=A,calm:=calm,pn:=pn,xe:=xe}
theorem Inv.alt{pn':List (Addr×Obj)}{σ:St}{H:Hp}{s:Shared}{A':Around}{calm':Bool}{Cb:Value->Shared->Prop}(I:Inv X pins σ H s)(hf:A'.frames=X.A.frames)(hc:calm'=true->A'.handled=none)(hp:∀p∈pn'++pins',p∈X.pn++pins):
  Inv (X.alt A' calm' pn' Cb) pins' σ H s where
 ok:=⟨I.ok.mod,I.ok.kind,I.ok.glob,I.ok.blt,I.ok.above,I.ok.inj,I.ok.has,I.ok.xn,hc,hf.trans I.ok.frames,I.ok.jv,I.ok.R7,I.ok.bs,I.ok.nQ,I.ok.xo,I.ok.xp,I.ok.jw,I.ok.pK⟩
 os:=I.os
 bare:=I.bare
 base:=I.base
 loc:=I.loc
 cell:=I.cell
 free:=I.free
 g5:=I.g5
 pin:=λp h=>I.pin p (hp p h)
 aK:=I.aK
 len:=I.len
theorem Inv.Cc{pins pins' pn':List (Addr×Obj)}{σ:St}{H:Hp}{s:Shared}{A':Around}{calm':Bool}{Cb:Value->Shared->Prop}(ok:X.Ok)(I:Inv (X.alt A' calm' pn' Cb) pins' σ H s)(hp:∀p∈X.pn++pins,p∈pn'++pins'):
  Inv X pins σ H s where
 ok:=ok
 os:=I.os
 bare:=I.bare
 base:=I.base
 loc:=I.loc
 cell:=I.cell
 free:=I.free
 g5:=I.g5
 pin:=λp h=>I.pin p (hp p h)
 aK:=I.aK
 len:=I.len
theorem Xi{w:World}{H:Hp}{h:Heap}{ea:Addr}{ob:Obj}(h1:h.get? ea=some ob):da P w H h ea (.bO ob mL):=
 ⟨h1,trivial,⟨ob,h1⟩,λ_ _ _ _=>trivial⟩
theorem cw.more{H:Hp}{h:Heap}{a:Addr}{o:HO}(ok:cw P w H h)(ha:H a=none)(x:da P w (upd H a o) h a o):cw P w (upd H a o) h:=λb u e=>by
 by_cases z:b=a
 ·subst z;rw[aw] at e;cases e;exact x
 ·rw[aI z] at e;exact(ok b u e).ju (λ_ _ _ q=>q) (λc q=>by rw[aI<|bf q ha];exact q) (λc xs q=>by rw[aI<|bf q ha];exact q)
section
variable {X:Cx}
theorem Inv.Xj{σ:St}{H:Hp}{s:Shared}{h':Heap}{m':Str->Option Value}{tk:Nat}(I:Inv X pins σ H s)(hn:h'.Ns X.env.locals m')(sb:Heap.SameBut X.env.locals s.heap h'):
  Inv X pins (List.replicate X.N.length none) H {s with heap:=h',toks:=tk} where
 ok:=I.ok
 os:=I.os
 bare:=I.bare
 base:=by
  have ne:∀b o,X.s₀.heap.get? b=some o->b≠X.env.locals:=λb o q z=>by
   rw[z] at q;exact absurd (Heap.lt_size q)<|Nat.not_lt.mpr I.ok.above
  refine⟨λb o q n hn hx=>(sb.2 b<|ne b o q).trans<|I.base.keep b o q n hn hx,λb o q n hn hx=>?_,I.base.free,λb o q hx=>?_,I.base.cz,I.base.f_,I.base.gI⟩
  ·obtain⟨sl,e⟩:=I.base.slot b o q n hn hx;exact⟨sl,(sb.2 b<|ne b o q).trans e⟩
  ·obtain⟨o',e⟩:=I.base.there b o q hx;exact⟨o',(sb.2 b<|ne b o q).trans e⟩
 loc:=⟨m',hn,λi x v h1 h2=>by
  rw[List.getElem?_replicate] at h2
  split at h2<;>cases h2⟩
 cell:=λx c h=>by
  obtain⟨v,o,e,d⟩:=I.cell x c h;refine⟨v,o,(sb.2 c<|λz=>?_).trans e,d⟩;obtain⟨m,⟨o2,es,ep,e2,d2,_⟩,_⟩:=I.loc;rw[z,e2] at e;cases e;rw[d] at d2;cases d2
 free:=I.free
 g5:=I.g5
 pin:=λp hp=>by
  obtain⟨a,b,c,d,e⟩:=I.pin p hp;exact⟨(sb.2 _ c).trans a,b,c,d,e⟩
 aK:=I.aK.yz λb u hb hu=>(sb.2 b<|λz=>hb (z▸I.free)).trans hu
 len:=List.length_replicate
theorem Xk{C:Addr}{i:Nat}{body:List Stmt}{b₀:Stmt}{Cd:List Stmt}{tb:XK->TS}{th:Addr->TS}{np sq pos:Pos}(k9:X.stack=X.env::X.outer)(uZ:X.env.frame=some X.env.locals)(hex:X.ex=[])
  (Ca:Gl X x) (hd:(x==("__debug__":Str))=false) (j8:X.mg x=some (.ref C)) (nd:X.N.Nodup) (hN:X.N[i]?=some n) (xZ:X.env.scope.names.lookup n=some .local)
  (hb:∀(pn:List (Addr×Obj)) (xe:Value->Shared->Prop) (E:XK),PassesOwn (model X.prog X.w) X.A X.env xe->Passes (e_ X.prog X.w) (X.alt X.A X.calm pn xe) E->dD (X.alt X.A X.calm pn xe) body (tb E))
  (hh:∀(ea:Addr) (pn:List (Addr×Obj)),dD (X.alt (X.A.mark<|some<|.ref ea) false pn λ_ _=>False) (b₀::Cd)<|th ea):
  PS X (.Try body [.ExceptHandler (some<|.Name x np) (some n) (b₀::Cd) sq] [] [] pos) (yp X.K C i X.N.length tb th):=by
 intro pins s σ H D I h;refine wpAny_Try_except ?_;have P1:Passes (e_ X.prog X.w) (X.alt X.A X.calm (X.pn++pins) λe s₁=>wpAny (model X.prog X.w) X.A (noteFrame e X.env) (λ_ s₂=>wpAny (model X.prog X.w) X.A (setFlight e none) (λ_ s₃=>wpAny (model X.prog X.w) X.A (handleBy e X.env [.ExceptHandler (some<|.Name x np) (some n) (b₀::Cd) sq]) (SP X pins D) X.xe s₃) X.xe s₂) X.xe s₁) (BL X.K C i X.N.length th D):=by
  intro pins' σ' H1 s1 e' s' I1 hx;obtain⟨ea,cls,t,B,H',zq⟩:=qx5 hx;obtain⟨rfl,os,bare,u,aK,fl,uY,mU,c1,c2,hm,Xl⟩:=qa12 zq;have Xm:X.A.frames=some (X.env::X.outer):=by rw[I.ok.frames,k9]
  have jE:Heap.FlyingW B (X.env::X.outer) ea cls (.ref t) s'.heap:=by rw[<-k9];exact fl
  refine wpAny_mono (uX IU uY<|wpAny_looks_onW (Q:=λ_ g8=>∃h',g8={s' with heap:=h'}/\Heap.HeldW B (X.env::X.outer) ea cls (.ref t) X.env.locals h'/\s'.heap.UpToSlots h') (E:=λ_ _=>False) Xm uZ jE λh4 Ce Cf=>⟨h4,rfl,Ce,Cf⟩)
   (λ_ s4 hq=>?_) (λ_ _ z=>z.1.elim)
  obtain⟨⟨h4,rfl,Ce,Cf⟩,Xn⟩:=hq;refine wpAny_mono (uX B6 Xn<|wpAny_landsW (Q:=λ_ g8=>∃h',g8={s' with heap:=h'}/\Heap.FlyingW B (X.env::X.outer) ea cls (.ref t) h'/\h4.UpToSlots h') (E:=λ_ _=>False) Ce λh5 sr Cg=>⟨h5,rfl,sr,Cg⟩)
   (λ_ s5 hq=>?_) (λ_ _ z=>z.1.elim)
  obtain⟨⟨h5,rfl,Xo,Cg⟩,Xp⟩:=hq;have sr:Heap.FlyingW B X.stack ea cls (.ref t) h5:=by rw[k9];exact Xo
  obtain⟨u5,IX,Xq,Xr⟩:=qa4 (IW (l:=X.stack) u aK fl.2.2.1 c1 c2 sr.1 (Cf.trans Cg));obtain⟨oe,ws,Xs,Xt,ajX,ajY⟩:=sr.first
  have I5:=I1.AR (s':={s' with heap:=h5}) (ch:=[]) os u5 IX bare (λb z=>absurd z zac)
  refine wpAny_handleBy_cons (codeAny_handlers_test ?_) (by intro q;cases q)
  have uA:Inv (X.alt (X.A.mark<|some<|.ref ea) false (X.pn++pins) λ_ _=>False) [] σ' H' {s' with heap:=h5}:=I5.alt (pins':=[]) rfl (λz=>nomatch z) (λp hp=>zae.mpr<|.inl (by rw[zai] at hp;exact hp))
  refine rQ uA Ca j8 ?_ hd;have LT:PySem.W.Looks (model X.prog X.w) h5 (typeOf<|.ref ea) cls:=by
   subst Xt;exact(PySem.W.Looks.ld Xs).andThen .now
  refine(PySem.W.exm_one I5.cT LT hm).here ?_;refine codeAny_handlers_suite_as ?_;refine wpAny_mono (uX B6 Xp<|lands_againW (Q:=λ_ g8=>∃h',g8={s' with heap:=h'}/\Heap.FlyingW B X.stack ea cls (.ref t) h'/\h5.UpToSlots h') (E:=λ_ _=>False) sr λh6 sv Ci=>⟨h6,rfl,sv,Ci⟩)
   (λ_ s6 hq=>?_) (λ_ _ z=>z.1.elim)
  obtain⟨⟨h6,rfl,sv,Ci⟩,Xu⟩:=hq;obtain⟨u6,Xv,c16,Xw⟩:=qa4 (IW (l:=X.stack) u5 IX sr.2.2.1 Xq Xr sv.1 Ci);obtain⟨sx,IY,zq⟩:=qx2 sv.first;obtain⟨yC,Xx,Cj,_⟩:=qa4 zq
  have Xy:yo sx cls IY:=by
   obtain⟨o',vs',q1,q2,q3,q4⟩:=Xu;have lN:=q1;rw[yC] at lN;cases lN;rw[Cj] at q2;cases q2;exact⟨Xx,Cj,q3,q4⟩
  have ne1:s1.heap.get? ea=none:=by
   cases q:s1.heap.get? ea with
   |none=>rfl
   |some o1=>
    by_cases IZ:ea∈bL X.stack
    ·obtain⟨o2,iV,hd2⟩:=(sv.2.2.1.mem IZ).2;rw[yC] at iV;cases iV;exact(hd2 _ Cj).elim
    ·have:=Xw ea o1 q IZ sx yC;rw[sv.2.1] at this;cases this
  have u7:Un (bL X.stack) [] H1 (upd H' ea (.bO sx mL)) s1.heap h6:=⟨u6.keep,u6.slot,λb o q n hx=>by
    rw[aI (λz=>by lia)];exact u6.free b o q n hx,u6.there,λb xs q=>by
    have q':=u6.cz b xs q;rw[aI<|bf q' mU];exact q',λb o v q=>by
    have q':=u6.f_ b o v q;rw[aI<|bf q' mU];exact q',λb ps q=>by
    obtain⟨more,q'⟩:=u6.gI b ps q;exact⟨more,by rw[aI (bf q' mU)];exact q'⟩⟩
  have Xz:=Xv.more mU (Xi yC);have I7:=I1.AR (s':={s' with heap:=h6}) (ch:=[]) os u7 Xz bare (λb z=>absurd z zac)
  have I8:Inv (X.alt (X.A.mark<|some<|.ref ea) false (X.pn++pins) λ_ _=>False) [] σ' (upd H' ea<|.bO sx mL) {s' with heap:=h6}:=I7.alt (pins':=[]) rfl (λz=>nomatch z) (λp hp=>zae.mpr<|.inl (by rw[zai] at hp;exact hp))
  refine AQ (X:=X.alt (X.A.mark<|some<|.ref ea) false (X.pn++pins) λ_ _=>False) (v:=.ref ea) I8 nd hN (.inl xZ) rfl (λs9 I9=>?_)<|.inr xZ;refine wpAny_mono (hh ea (X.pn++pins) [] s9 _ _ {nx:=λ_ _=>False,rt:=D.rt} I9<|Xl ea sx IY σ' mU I1.len Xy) (λf XA hs=>?_) λ_ _ z=>z.elim;cases f with
  |next=>obtain⟨_,_,_,z⟩:=hs;exact z.elim
  |brk=>obtain⟨_,_,_,z⟩:=hs;exact z.elim
  |cont=>obtain⟨_,_,_,z⟩:=hs;exact z.elim
  |ret v=>
   obtain⟨v',XB,I_,zq⟩:=qx3 hs;obtain⟨XD,r,q⟩:=qa3 zq;have Ja:=XD.Cc I.ok (λp hp=>by simpa using hp)
   obtain⟨m,hn,_⟩:=Ja.loc;refine wpAny_nameGoes xZ hn (by rw[I.ok.kind];rfl) λh' m' AN sb=>?_
   exact⟨v',_,I_,Ja.Xj AN sb,r,q⟩
 refine wpAny_mono (hb _ _ _ PassesOwn.looking P1 [] s σ H {nx:=D.nx,rt:=D.rt} (I.alt rfl I.ok.hd (λp hp=>by simpa using hp)) h) (λf s1 hs=>?_) λe' s' hx=>hx
 cases f with
 |next=>
  obtain⟨σ',H',I',q⟩:=hs;exact Gq pins s1 σ' H' D (I'.Cc I.ok (λp hp=>by simpa using hp)) q
 |brk=>obtain⟨_,_,_,z⟩:=hs;exact z.elim
 |cont=>obtain⟨_,_,_,z⟩:=hs;exact z.elim
 |ret v=>
  obtain⟨v',σ',H',I',r,q⟩:=hs;exact⟨v',σ',H',I'.Cc I.ok (λp hp=>by simpa using hp),r,q⟩
end
def h_(A:Around)(H:Hp):Prop:= ∃e D,A.handled=some (.ref e)/\ExcAt H e D
def Hd(X:Cx):Prop:=h_ X.A X.H₀
theorem ExcAt.keeps{e D:Addr}(h:ExcAt H e D)(k:∀b o u,H b=some (.bO o u)->H' b=some (.bO o u)):ExcAt H' e D:=by
 obtain⟨ob,vs,h1,h2⟩:=h;exact⟨ob,vs,k _ _ _ h1,h2⟩
theorem h_.keeps{H H':Hp}(h:h_ A H)(k:∀b o u,H b=some (.bO o u)->H' b=some (.bO o u)):h_ A H':=by
 obtain⟨e,D,h1,h2⟩:=h;exact⟨e,D,h1,h2.keeps k⟩
theorem h_.ow{w:World}{A:Around}{H:Hp}{h:Heap}(x:h_ A H)(ok:cw P w H h):iZ A h:=by
 obtain⟨e,D,h1,ob,vs,h2,h3⟩:=x;exact .inr ⟨e,ob,vs,h1,(ok e _ h2).1,h3.data,h3.Wd⟩
section
variable {X:Cx}{pins:List (Addr×Obj)}{σ:St}{H:Hp}{s:Shared}
theorem Hd.at(h:Hd X)(I:Inv X pins σ H s):h_ X.A H:=h_.keeps h I.base.f_
theorem Hd.ow(h:Hd X)(I:Inv X pins σ H s):iZ X.A s.heap:=(h.at I).ow I.aK
end
theorem XE{K:Frag}{tg:Expr}(a it:Addr):BE Hd P w K tg (gb K a) [it] it (λi h=>h.IsListIter it a i) where
 mem:=by simp
 obj:=(xC (P:=P) (w:=w) (K:=K) (tg:=tg) a it).obj
 keep:=(xC (P:=P) (w:=w) (K:=K) (tg:=tg) a it).keep
 item:=by
  intro X hP hw hK hc i pins s σ H E I hf st hg;subst hP hw hK;obtain⟨xs,x,hq,hx⟩:=hg;obtain⟨its,rv,p,hz⟩:=I.list hq;obtain⟨u,hu,ru⟩:=rv.get hx;obtain⟨f0,f1,f2,f3,f4,f5⟩:=qa6 (hf it (by simp))
  refine wpAny_pyNext_list_item st p.isList (by simpa using hu) λh' gf sb=>?_
  obtain⟨o,e,c,d⟩:=id gf;exact⟨u,rfl,AX e c d (rfl) ⟨x,H,(I.turned (λb o hb e=>(sb.2 b hb).trans e) f0 f1 f3 f4 f5),ru,⟨rfl,λys hy=>by rw[I.uu hy hq];exact hx⟩,gf,λb hb=>(hf b hb).1⟩⟩
 done:=by
  intro X hP hw hK hc i pins s σ H E I hf st hg;subst hP hw hK;obtain⟨xs,hq,hx⟩:=hg;obtain⟨its,rv,p,hz⟩:=I.list hq;obtain⟨f0,f1,f2,f3,f4,f5⟩:=qa6 (hf it (by simp))
  have hl:=rv.length;exact WU (hc.ow I) st p.isList (by simp;lia) λh' eb=>⟨rfl,I.turned (λb o hb e=>eb b o hb e) f0 f1 f3 f4 f5⟩
 self:=(xC (K:=K) (tg:=tg) a it).self
section
variable {X:Cx}{tg:Expr}
theorem XF(hl:PE X l tl):yb Hd X tg l (ux X.K tl):=by
 intro pins s σ H R I h;refine aV (hl pins s σ H _ I h) λv s1 ⟨x,H1,I1,r1,q1⟩=>?_;obtain⟨a,e,⟨xs,hq⟩,q⟩:=q1;subst e;cases r1;obtain⟨its,rv,p,hz⟩:=I1.list hq;refine wpAny_pyIter_list p.isList (⟨s1.heap.objs.size,[s1.heap.objs.size],_,_,H1,rfl,I1.kept λb o e=>Heap.get?_push_of_some _ e,XE a _,⟨_,Heap.get?_push_size _ rfl,rfl,rfl⟩,λb hb=>?_,q⟩);have e:=by simpa using hb
 subst e;exact I1.uw (zqR _)<|I1.aK.fresh<|zqR _
theorem XG{pos:Pos}{es:List Expr}{k:Nat}{t:j5}{n:Nat}(hd:Hd X)(h:pM X es t)
  (hn:(assignEach es X.env).length=n:=by rfl) (k9:(assignEach es X.env).findIdx? (·.1)=none:=by rfl):PG X (.Tuple es k pos) (xB X.K n t):=by
 intro pins s σ H v u Q I r hw;obtain⟨a,xs,e1,hq,hl,hw⟩:=hw;subst e1;cases r;obtain⟨its,rv,ht,hz⟩:=I.tuple hq;refine WY (hd.ow I) ht (by simp[hn,<-hl,rv.length]) k9 λh' hx=>?_
 exact h pins _ σ H xs _ Q (I.kept λb o e=>hx b o (zaf<|Heap.lt_size e) e) (by lia) hw
theorem XH{x y:Str}{px py pos:Pos}{k:Nat}(hx:scope.names.lookup x=some .local)(hy:scope.names.lookup y=some .local)(pZ:(x::y::fv.map (·.1)).Nodup):yc (h_ X.A) X scope [x,y] fv (.Tuple [.Name x px,.Name y py] k pos) (some 2):=by
 intro ex C s H hH;generalize eX:hU X scope ([x,y]++fv.map (·.1)) ex C s H=Xc;have xN:Xc.N=x::y::fv.map (·.1):=eX▸rfl
 have xd:Hd Xc:=eX▸hH
 have lx:Xc.env.scope.names.lookup x=some .local:=eX▸lookup_relabel_local hx
 have ly:Xc.env.scope.names.lookup y=some .local:=eX▸lookup_relabel_local hy
 have p1:PG Xc (.Name x px) (eS 0):=rS (by lia) (xN▸rfl) (.inl lx) (.inr lx)
 have p2:PG Xc (.Name y py) (eS 1):=rS (by lia) (xN▸rfl) (.inl ly) (.inr ly)
 have xK:Xc.K=X.K:=eX▸rfl
 refine⟨xB Xc.K 2<|rT (eS 0)<|rT (eS 1) xy,XG xd<|uv p1<|uv p2 AW,λv pre φ H' Q hp h=>?_⟩;obtain⟨a,b,rfl⟩:∃a b,pre=[a,b]:=by
  match pre,hp with
  |[a,b],_=>exact⟨a,b,rfl⟩
 obtain⟨a',xs,rfl,e2,e3,q⟩:=h;obtain⟨v1,v2,rfl⟩:∃v1 v2,xs=[v1,v2]:=by
  match xs,e3 with
  |[v1,v2],_=>exact⟨v1,v2,rfl⟩
 exact⟨a',_,rfl,by lia,rfl,v1,_,rfl,v2,_,rfl,rfl,q rfl⟩
theorem XI:∀H,h_ X.A H->∀Xc:Cx,Xc.A=X.A->Xc.calm=X.calm->Xc.H₀=H->Hd Xc:=λH h Xc a _ b=>by
 show h_ Xc.A Xc.H₀;rw[a,b];exact h
theorem XJ:cj X (.builtin "isinstance") (lK X.K):=by
 intro pins s σ H xs us Q I r h
 match xs,h with
 |[.ref ea,c],h=>
  obtain⟨D,b,⟨ob,vs,h1,h2⟩,hC,hc,hk,hq⟩:=h;cases r with
  |cons r1 r=>
   cases r with
   |cons r2 r=>
    cases r
    rename_i u1 u2
    cases (show u1=Value.ref ea from r1)
    have e2:u2=cV c:=by
     rcases hc with⟨C,rfl⟩|⟨n,rfl⟩
     ·exact r2
     ·exact r2
    subst e2;have inst:InstAt s.heap ea ob D none:=⟨((I.aK ea _ h1).1),h2.cls,by unfold PySem.W.notCls;rw[h2.data],by rw[h2.dict];trivial⟩
    exact kia_one (W2 hC.uN hC.uO hC.hk hC.ha hC.hn hC.nV hC.hm hC.hb) I.cT inst hk (λz=>nomatch z) λtk=>⟨.bl b,H,I.tok tk,rfl,hq⟩
end
structure ia (k:Nat) (A:Around):Prop where
 dp:A.depth+3*k+5<recursionLimit
 un:A.units+16*k+200<cLine
 gd:A.guards=some []:=by rfl
theorem dm.h{A:Around}(r:dm k A):ia k A:=⟨r.dp,r.un,r.gd⟩
theorem ia.mark{A:Around}(r:ia k A)(v:Option Value):ia k (A.mark v):=⟨r.dp,r.un,r.gd⟩
theorem ia.deeper{A:Around}(r:ia (k+1) A)(env:Env):ia k (A.deeper env):=
 ⟨by have:=r.dp;show A.depth+1+3*k+5<_;lia,by have:=r.un;show A.units+3+16*k+200<_;lia,r.gd⟩
theorem ia.depth{A:Around}(r:ia k A):A.depth<recursionLimit:=by have:=r.dp;lia
theorem ia.units{A:Around}(r:ia k A):A.units+64<cLine:=by have:=r.un;lia
def XM(outer:List Env)(P:Program)(w:World)(H:Hp)(s:Shared)(Q:VK)(r:Result)(s':Shared):Prop:=
 match r with
 |.ok (.ret u)=>CE outer P w H s Q u s'
 |_=>False
structure qd (P:Program) (w:World) (K:Frag) (mg:Str->Option Value) (base:Heap) (k:Nat) (f:Addr) (fd:FuncData) (ps:List Str) (sp:Sp):Prop where
 len:∀vs H Q E,sp vs H Q E->vs.length=ps.length
 run:∀(A:Around) (outer:List Env) (s:Shared) (H:Hp) (args:Args) (us:List Value) (vs:List V) (Q:VK),ia k A->h_ A H->mD P w K mg base A outer s H->BindsTo s fd args (ps.zip us)->Vals vs us->sp vs H Q E0->
  codeAny (model P w) A (.call (.ref f) args) (XM outer P w H s Q) s
theorem qd.mono{K:Frag}{mg:Str->Option Value}{base:Heap}{j k:Nat}{f:Addr}{fd:FuncData}{ps:List Str}{sp:Sp}(F:qd P w K mg base j f fd ps sp)(h:j<=k):qd P w K mg base k f fd ps sp:=
 ⟨F.len,λA outer s H args us vs Q hr=>F.run A outer s H args us vs Q ⟨by have:=hr.dp;lia,by have:=hr.un;lia,hr.gd⟩⟩
def yD(CX:cb)(P:Program)(w:World)(K:Frag)(mg:Str->Option Value)(base:Heap)(N:List Str)(qual:Str)(scope:Scope)(f:Addr)(cd:Value)(A:Around)(outer:List Env)(s:Shared)(H:Hp):Cx:=
 (mE CX P w K mg base N qual scope f cd {A with handled:=none} outer s H E0).alt (A.deeper<|envOfC qual scope s.heap.objs.size f cd) false [] λ_ _=>False
theorem XN{w:World}{K:Frag}{mg:Str->Option Value}{base:Heap}{k:Nat}{f:Addr}{name qual:Str}{params:Arguments}{body:List Stmt}{scope:Scope}{dV kV doc pm bx ct oc:Value}{an od:Option Addr}
  {gw:Array (Option Value)}{N ps:List Str}{sp:Sp} (lk:K.lookup f=some ⟨oc,od,.func<|PySem.W.fnOf name qual params body scope dV kV doc pm an bx ct,gw⟩) (gJ:PySem.W.codeIn K bx qual=true) (S:lB N ps scope)
  (len:∀vs H Q E,sp vs H Q E->vs.length=ps.length)
  (Bg:∀(A:Around) (outer:List Env) (s:Shared) (H:Hp) (vs:List V) (Q:VK),ia k (A.deeper (envOfC qual scope s.heap.objs.size f bx))->h_ A H->sp vs H Q E0->
   ∃t,dD (yD CX P w K mg base N qual scope f bx A outer s H) body t/\t {nx:=λ_ H'=>Q .aB H',rt:=Q} (start N vs) H):
  qd P w K mg base (k+1) f (PySem.W.fnOf name qual params body scope dV kV doc pm an bx ct) ps sp:=by
 refine⟨len,λA outer s H args us vs Q hr hh e0 hb r iU=>?_⟩;have KX:=e0.mod.pJ.keeps λb o e=>(e0.bs b o e).1;have Bh:∀y∈ps.zip us,scope.names.lookup y.1=some .local\/(scope.names.lookup y.1=some .cell/\((cellsFrom (s.heap.objs.size+1) scope.names []).lookup y.1).isSome=true):=λ⟨n,v⟩ hy=>by
  rcases S.par n (zbu hy).1 with q|q
  ·exact .inl q
  ·exact .inr ⟨q,cellsFrom_some _ _ _<|.inl q⟩
 refine codeAny_call_function hr.depth (KX _ _ lk) rfl S.co S.gen rfl (codeRec_of KX gJ)<|hb _ _ _ _ (wpAny_newFunctionEnv_cells S.kind Bh λenv he s1 x=>?_);subst he;refine⟨(e0.mod.nolimit.keeps λb o e=>(e0.bs b o e).1).keeps x.toInCall.keep,codeAny_func ?_⟩;obtain⟨t,ht,hq⟩:=Bg A outer s H vs Q (hr.deeper _) hh iU;have XO:mD P w K mg base {A with handled:=none} outer s H:=⟨e0.frames,e0.mod,e0.bs,e0.nQ,e0.jw,e0.pK,e0.aK,e0.bare⟩
 have I0:Inv (mE CX P w K mg base N qual scope f bx {A with handled:=none} outer s H E0) [] (start N vs) H s1:=Hb S rfl XO (len _ _ _ _ iU) r x
 have I:Inv (yD CX P w K mg base N qual scope f bx A outer s H) [] (start N vs) H s1:=I0.alt rfl (λz=>nomatch z) (λp hp=>hp);refine wpAny_mono (ht [] s1 (start N vs) H _ I hq) (λfl s' hs=>?_) λe s' hs=>hs.elim;have fin:∀{σ':St}{H':Hp}{v:V}{u:Value},Inv (yD CX P w K mg base N qual scope f bx A outer s H) [] σ' H' s'->RelV v u->Q v H'->CE outer P w H s Q u s':=
  λ{σ' H' v u} J rv q=>⟨v,H',J.os,J.bare,J.base,J.aK,rv,q⟩
 cases fl with
 |ret u=>
  obtain⟨v,σ',H',J,rv,q⟩:=hs;exact fin J rv q
 |next=>
  obtain⟨σ',H',J,q⟩:=hs;exact fin (v:=V.aB) J rfl q
 |brk=>
  obtain⟨_,_,_,q⟩:=hs;exact False.elim q
 |cont=>
  obtain⟨_,_,_,q⟩:=hs;exact False.elim q
theorem XQ{P:Program}{w:World}{K:Frag}{mg:Str->Option Value}{base:Heap}{N:List Str}{qual:Str}{scope:Scope}{f:Addr}{cd:Value}{A:Around}{outer:List Env}{s:Shared}{H:Hp}(h:h_ A H):Hd (yD CX P w K mg base N qual scope f cd A outer s H):=h
section
variable {X:Cx}{k:Nat}{f:Addr}{fd:FuncData}{ps:List Str}{sp:Sp}{x:Str}{p pos:Pos}{e:Expr}{ta:TE}{hv:Option Addr}
theorem XR(F:qd X.prog X.w X.K X.mg X.base k f fd ps sp)(hr:ia k X.A)(hg:Gl X x)(hm:X.mg x=some (.ref f))(hk:PySem.W.keepIn X.K (.ref f)=true)(hb:Binds X.K fd ps [])(hh:∀e,hv=some e->X.A.handled=some (.ref e))
  (ha:PE X e ta) (hs:noStar e=true) (j6:(x==("__debug__":Str))=false):PE X (.Call (.Name x p) [e] [] pos) (Iv sp hv<|dq ta gL):=by
 intro pins s σ H Q I h;have he:starEach [e] X.env=(false,eval e X.env)::starEach [] X.env:=by cases e<;>first|rfl|cases hs
 refine wpAny_Call_Name_kw<|rQ I hg hm (callWith_K I.ok.mod.pJ hk (aV ((lA ha pS he) pos pins s σ H _ I h) λus s1 ⟨vs,H1,I1,r,⟨ea,D,h1,h2⟩,q⟩=>⟨I1.cT,?_⟩) he rfl) j6;have r2:=r
 have lH:=hb s1 us I1.cT (by rw[zai];exact (r2.length▸F.len _ _ _ _ q))
 rw[zai] at lH;refine wpAny_call<|codeAny_mono (F.run X.A X.stack s1 H1 ⟨us,[]⟩ us vs Q hr ⟨ea,D,hh ea h1,h2⟩ I1.Bc lH r2 q) λr s' hq=>?_;cases r with
 |error e=>exact False.elim hq
 |ok fl=>
  cases fl with
  |ret u=>exact I1.after hq
  |next=>exact False.elim hq
  |brk=>exact False.elim hq
  |cont=>exact False.elim hq
end
def Jb(CX:cb)(X:Cx)(x:Str)(sp:Sp):Prop:=
 ∃k f fd ps,cK X.prog X.w X.K X.mg X.base CX k f fd ps sp/\dm k X.A/\X.mg x=some (.ref f)/\PySem.W.keepIn X.K (.ref f)=true/\Binds X.K fd ps []
def yE(CX:cb)(X:Cx)(C:Addr)(m:Str)(sp:Sp):Prop:=
 gu X.K C/\∃k f fd ps,Meth X.K C m f/\cK X.prog X.w X.K X.mg X.base CX k f fd ps sp/\dm k X.A/\Binds X.K fd ps []
def Jc(CX:cb)(X:Cx)(x:Str)(C:Addr)(sp:Sp):Prop:=
 ∃k f fd ps,Mk X.K C f/\cK X.prog X.w X.K X.mg X.base CX k f fd ps sp/\dm (k+1) X.A/\X.mg x=some (.ref C)/\Binds X.K fd ps []
def Jd(X:Cx)(x:Str)(sp:Sp):Prop:=
 ∃k f fd ps,qd X.prog X.w X.K X.mg X.base k f fd ps sp/\ia k X.A/\X.mg x=some (.ref f)/\PySem.W.keepIn X.K (.ref f)=true/\Binds X.K fd ps []
def Je(X:Cx)(x:Str)(C:Addr):Prop:= ∃bm B newId so,OwnCls x C bm newId X.mg X.base/\ExcBaseFacts B newId so bm
structure Good (CX:cb) (S:c_) (Γ:bo) (X:Cx):Prop where
 N:X.N=S.N
 sc:X.env.scope=S.sc
 K:X.K=Γ.K
 calm:S.md=0->X.calm=true
 units:X.A.units+64<cLine
 gd:X.A.guards=some []
 fns:S.md=0->∀j x,S.fn[j]?=some x->Jb CX X x (Γ.fs j)
 lO:∀j x,S.gn[j]?=some x->∃u,X.mg x=some u/\RelV (Γ.gv j) u
 eP:∀x,S.bl.contains x=true->X.mg x=none
 pass:Passes CX X Γ.E
 lP:∀outer H s e s',CX outer H s E0 e s'->False
 mV:∀p aS,Γ.sd p aS->∀h:Heap,X.K.In h->∃vs,KV aS vs/\h.DictOf (kY X.prog X.w) p vs
 mW:S.md=0->∀j m,S.mn[j]?=some m->yE CX X (Γ.ms j).1 m (Γ.ms j).2
 mX:S.md=0->∀j x,S.kn[j]?=some x->Jc CX X x (Γ.kt j).1 (Γ.kt j).2
 sy:∀j x,S.en[j]?=some x->Je X x (Γ.ex j)
 mY:∀j x,S.hn[j]?=some x->Jd X x (Γ.hs j)
 oz:∀e,Γ.hv=some e->X.A.handled=some (.ref e)
 qe:S.md=1->Hd X
theorem yF{S:c_}(h:(if S.md=0 then 0 else 2)=0):S.md=0:=by lia
section
variable {CX:cb}{S:c_}{Γ:bo}{X:Cx}
theorem Good.inner(G:Good CX S Γ X)(c:uQ)(ln:List Str)(fv:List (Str×Nat))(ex:List Addr)(C:Addr)(s:Shared)(H:Hp):
  Good CX (IP S c ln fv) Γ.calm (hU X c.sc (ln++fv.map (·.1)) ex C s H) where
 N:=rfl
 sc:=by
  show relabel c.sc X.env=BU c.sc S.sc;rw[<-G.sc];rfl
 K:=G.K
 calm:=λh=>G.calm (yF h)
 units:=G.units
 gd:=G.gd
 fns:=λm j x h=>G.fns (yF m) j x h
 lO:=G.lO
 eP:=G.eP
 pass:=λ_ _ _ _ _ _ _ h=>(G.lP _ _ _ _ _ h).elim
 lP:=G.lP
 mV:=G.mV
 mW:=λz j m h=>G.mW (yF z) j m h
 mX:=λz j x h=>G.mX (yF z) j x h
 sy:=λj x h=>by simp[IP] at h
 mY:=λj x h=>G.mY j x h
 oz:=λe h=>G.oz e h
 qe:=λh=>by
  have h':(if S.md=0 then 0 else 2)=1:=h
  split at h'<;>cases h'
theorem Good.gl(G:Good CX S Γ X){x:Str}(h:mO S.sc x=true):Gl X x:=by
 show X.env.scope.names.lookup x=_;rw[G.sc];exact Wy h
theorem dv{es:List Expr}{env:Env}(h:noStar e=true):starEach (e::es) env=(false,eval e env)::starEach es env:=by
 cases e<;>first|rfl|cases h
theorem pW{x:Str}{env:Env}(h:ou o=true):attributeBase o x env (eval o env)=eval o env:=by
 unfold attributeBase
 split
 ·cases h
 ·rfl
theorem yG{env:Env}(h:uR e=true):∀x,foldedSetIterable e env x=pure x:=by
 intro x;cases e<;>first|rfl|cases h
def fg(es:List Expr):Bool:=es.all noStar
theorem ib(env:Env)(pos:Pos):∀(es:List Expr),fg es=true->(backTo pos<|starEach es env).any (·.1)=false
 |[],h=>rfl
 |e::es,h=>by
  simp only[fg,zaZ,zab] at h
  rw[dv h.1];show(false ||(backTo pos<|starEach es env).any (·.1))=false;rw[(ib env pos es h.2)];rfl
theorem Ck(env:Env)(pos:Pos):∀(es:List Expr),fg es=true->(backTo pos<|starEach es env).all (λx=> !x.1)=true
 |[],h=>rfl
 |e::es,h=>by
  simp only[fg,zaZ,zab] at h
  rw[dv h.1];show(!false && (backTo pos<|starEach es env).all (λx=> !x.1))=true;rw[(Ck env pos es h.2)];rfl
theorem cG{es:List Expr}(h:fg (e::es)=true):noStar e=true/\fg es=true:=by
 simp only[fg,zaZ,zab] at h
 exact h
theorem Jf(G:Good CX S Γ X){c:uQ}{ln:List Str}{fv:List (Str×Nat)}(h:BW S c ln fv=true):
  lF X c.sc ln fv/\(∀x∈ln,c.sc.names.lookup x=some .local)/\(ln++fv.map (·.1)).Nodup/\uR c.iter=true:=by
 simp only[BW,zab,decide_eq_true_eq,zaO,Bool.or_eq_true] at h
 obtain⟨⟨⟨⟨⟨⟨⟨h1,h2⟩,h3⟩,h4⟩,h5⟩,h6⟩,h7⟩,h8⟩:=h;refine⟨⟨h1,λy hy=>h2 y hy,λy hy hl=>?_,λy hy hf=>?_,λp hp=>?_⟩,h6,h7,h8⟩
 ·rcases h3 y hy with z|z
  ·exact absurd hl z
  ·exact z
 ·show X.env.scope.names.lookup y.1=_\/X.env.scope.names.lookup y.1=_;rw[G.sc];rcases h4 y hy with(z|z)|z
  ·exact absurd hf z
  ·exact .inl z
  ·exact .inr z
 ·rw[G.N];exact h5 p hp
theorem XS(hc:X.calm=true){c:uQ}{tk:Option Nat}{ln:List Str}{fv:List (Str×Nat)}(h:BV tk c.tg=some ln)(hl:∀x∈ln,c.sc.names.lookup x=some .local)(hn:(ln++fv.map (·.1)).Nodup):
  ye X c.sc ln fv c.tg tk:=by
 unfold BV at h
 split at h
 ·rename_i x p he
  cases h;rw[he];exact VQ (hl x (by simp)) hn
 ·rename_i x p y q k pos he
  cases h;rw[he];exact VS hc (hl x (by simp)) (hl y (by simp)) hn
 ·cases h
theorem XT{H:Hp}{Q:VK}{K:Frag}(h:oj K .int xs H Q):(∃i,xs=[.int i]/\Q (.int i) H)\/∃k,xs=[.bl k]/\Q (.int (if k then 1 else 0)) H:=by
 match xs,h with
 |[.int i],h=>exact .inl ⟨i,rfl,h⟩
 |[.bl k],h=>exact .inr ⟨k,rfl,h⟩
theorem XU{K:Frag}{x:V}{H:Hp}{Q:Nat->Prop}(h:uJ K x H Q):∃n,GV K x H n/\Q n:=by
 match x,h with
 |.str y,h=>exact⟨_,⟨h.1,rfl⟩,h.2⟩
 |.ref p,.inl ⟨xs,a,b⟩=>exact⟨_,.inl ⟨xs,a,rfl⟩,b⟩
 |.ref p,.inr ⟨xs,a,b⟩=>exact⟨_,.inr ⟨xs,a,rfl⟩,b⟩
inductive XW (X:Cx) (b:mM):Prop where
 |fn (id:String) (hv:bootBuiltins b.nm=some (.builtin id)) (hc:cj X (.builtin id) (oj X.K b))
 |ty (T:String) (hv:bootBuiltins b.nm=some (.type T)) (hc:cj X (.type T) (oj X.K b))
theorem boot_min:bootBuiltins "min"=some (.builtin "min"):=rfl
theorem boot_max:bootBuiltins "max"=some (.builtin "max"):=rfl
theorem boot_abs:bootBuiltins "abs"=some (.builtin "abs"):=rfl
theorem boot_sum:bootBuiltins "sum"=some (.builtin "sum"):=rfl
theorem Jg:bootBuiltins "isinstance"=some (.builtin "isinstance"):=rfl
theorem XX:bootBuiltins "int"=some (.type "int"):=rfl
theorem XY:bootBuiltins "list"=some (.type "list"):=rfl
theorem XZ:bootBuiltins "tuple"=some (.type "tuple"):=rfl
theorem u_(f:Nat->Int)(lt:Nat->Nat->Bool)(h:∀i j,lt i j=decide (f i<f j)):∀n,argBest lt n<=n/\∀i,i<=n->f (argBest lt n)<=f i
 | 0=>⟨zqR _,λi hi=>by
   obtain rfl:i=0:=by lia
   exact zaE _⟩
 |n+1=>by
  obtain⟨a,b⟩:=u_ f lt h n;have e:argBest lt (n+1)=if lt (n+1) (argBest lt n)=true then n+1 else argBest lt n:=rfl
  rw[e,h]
  split
  ·refine⟨zqR _,λi hi=>?_⟩;by_cases z:i=n+1
   ·rw[z];exact zaE _
   ·have:=b i (by lia);lia
  ·refine⟨by lia,λi hi=>?_⟩
   by_cases z:i=n+1
   ·lia
   ·exact b i (by lia)
theorem Jh{i:Nat}(h:i<xs.size):numAt xs i=xs[i].1:=by
 unfold numAt;rw[Array.getElem?_eq_getElem h];rfl
theorem yH{i:Nat}(h:i<xs.size):numAt xs i∈xs.toList.map (·.1):=by
 rw[Jh h];exact zaF.mpr ⟨xs[i],by simp,rfl⟩
theorem yI{n:Int}(h:n∈xs.toList.map (·.1)):∃i,i<xs.size/\n=numAt xs i:=by
 obtain⟨y,hy,rfl⟩:=zaF.mp h;obtain⟨i,hi,rfl⟩:=zbm hy;have cL:=by simpa using hi
 exact⟨i,cL,by rw[Jh cL];simp⟩
theorem Ji{σ:St}{H:Hp}{s:Shared}{p:Addr}{ns:List Int}(I:Inv X pins σ H s)(hq:ar X.K H p (ns.map V.int)):∃xs:Array (Int×Tok),s.heap.IsList p (intItems xs)/\ns=xs.toList.map (·.1):=by
 obtain⟨its,rv,pl,hz⟩:=I.list hq;have hi:=intsAre_of rv;obtain⟨xs,hx⟩:=hi.allInts.items;refine⟨xs,hx ▸ pl.isList,?_⟩;rw[<-nums_intItems,<-hx];exact(show numsOf its.toArray.toList=ns from hi.numsOf).symm
theorem X0(hc:X.calm=true):cj X (.builtin "min") (λxs H Q=>∃(p:Addr) (ns:List Int),xs=[.ref p]/\ar X.K H p (ns.map V.int)/\ns≠ []/\∀m:Int,m∈ns->(∀n∈ns,m<=n)->Q (.int m) H):=by
 intro pins s σ H xs us Q I r h;obtain⟨p,ns,rfl,hq,cP,q⟩:=h;obtain⟨u,rfl,ru⟩:=vals1 r;cases ru;obtain⟨xs,hl,rfl⟩:=Ji I hq;have sz:0<xs.size:=zbB λz=>cP (by rw[zbc z];rfl)
 refine min_intList (I.ok.hd hc) hl sz λv h' tk hv hk=>?_;obtain⟨t,rfl⟩:=intItems_at hv;obtain⟨b1,b2⟩:=u_ (numAt xs) (λi j=>decide<|numAt xs i<numAt xs j) (λ_ _=>rfl) (xs.size - 1);refine⟨.int _,H,I.kept hk,⟨t,rfl⟩,q _ (yH (by lia)) λn hn=>?_⟩
 obtain⟨i,hi,rfl⟩:=yI hn;exact b2 i (by lia)
theorem X1(hc:X.calm=true):cj X (.builtin "max") (λxs H Q=>∃(p:Addr) (ns:List Int),xs=[.ref p]/\ar X.K H p (ns.map V.int)/\ns≠ []/\∀m:Int,m∈ns->(∀n∈ns,n<=m)->Q (.int m) H):=by
 intro pins s σ H xs us Q I r h;obtain⟨p,ns,rfl,hq,cP,q⟩:=h;obtain⟨u,rfl,ru⟩:=vals1 r;cases ru;obtain⟨xs,hl,rfl⟩:=Ji I hq;have sz:0<xs.size:=zbB λz=>cP (by rw[zbc z];rfl)
 refine max_intList (I.ok.hd hc) hl sz λv h' tk hv hk=>?_;obtain⟨t,rfl⟩:=intItems_at hv;obtain⟨b1,b2⟩:=u_ (λi=> - numAt xs i) (λi j=>decide<|numAt xs i>numAt xs j) (λi j=>decide_eq_decide.mpr (by lia)) (xs.size - 1)
 refine⟨.int _,H,I.kept hk,⟨t,rfl⟩,q _ (yH (by lia)) λn hn=>?_⟩
 obtain⟨i,hi,rfl⟩:=yI hn;have:=b2 i (by lia)
 lia
theorem Jj(h:ItemsOf (SignAt x) acc x.cps.size):Vals (signs x) acc.toList:=by
 have go:∀(l:List Nat) (us:List Value),us.length=l.length->(∀(j:Nat) (v:Value),us[j]?=some v->∃(c:Nat) (t:Tok),l[j]?=some c/\v=Value.str ⟨#[c]⟩ t)->Vals (l.map λc=>V.str ⟨#[c]⟩) us:=by
  intro l
  induction l with
  |nil=>
   intro us hl _;rw[zaP.mp hl];exact .nil
  |cons c l ih=>
   intro us hl hv;cases us with
   |nil=>cases hl
   |cons u us=>
    obtain⟨c',t,e1,e2⟩:=hv 0 u rfl;have pX:=by simpa using e1
    subst pX;exact .cons ⟨t,e2⟩ (ih us (by simpa using hl) λj v hj=>by
     obtain⟨c2,t2,g1,g2⟩:=hv (j+1) v (by simpa using hj)
     exact⟨c2,t2,by simpa using g1,g2⟩)
 refine go x.cps.toList acc.toList ?_ λj v hj=>?_
 ·have:=h.1;simpa using this
 ·obtain⟨c,t,e1,e2⟩:=h.2 j v (by simpa using hj)
  exact⟨c,t,by simpa using e1,e2⟩
theorem Jk(x:Str):(signs x).length=x.length:=by simp[signs,Str.length]
theorem X3(hc:X.calm=true):cj X (.type "list") (λxs H Q=>∃x,xs=[.str x]/\x.length<=sizeLine/\∀l,H l=none->Q (.ref l) (upd H l<|.lst<|signs x)):=by
 intro pins s σ H xs us Q I r h;obtain⟨x,rfl,hx,q⟩:=h;obtain⟨u,rfl,t,rfl⟩:=vals1 r;exact call_list_str (I.ok.hd hc) x t (λh' tk BC c' hk e Cm=>⟨.ref s.heap.objs.size,_,I.laid hk (zqR _) (show da X.prog X.w _ h' _ (.lst<|signs x) from⟨by rw[Jk];exact hx,BC.toList,c',(Jj Cm),by simpa using e⟩),rfl,q _<|I.aK.fresh<|zqR _⟩) hx
theorem X4(hc:X.calm=true):cj X (.type "tuple") (λxs H Q=>∃x,xs=[.str x]/\x.length<=sizeLine/\∀l,H l=none->Q (.ref l) (upd H l<|.tup<|signs x)):=by
 intro pins s σ H xs us Q I r h;obtain⟨x,rfl,hx,q⟩:=h;obtain⟨u,rfl,t,rfl⟩:=vals1 r;refine call_tuple_str (I.ok.hd hc) x t (λh' tk acc hk Cm=>?_) hx;have I1:=I.kept (t':=tk) hk
 have I2:=
  I1.laid (t':=tk) (λb o e=>Heap.get?_push_of_some _ e) (zqR _) (show da X.prog X.w _ _ _ (.tup<|signs x) from⟨by rw[Jk];exact hx,acc.toList,(Jj Cm),by simpa using IsTup.new _ _⟩)
 exact⟨.ref h'.objs.size,_,I2,rfl,q _<|I1.aK.fresh<|zqR _⟩
theorem X5:PE X (.Dict [] [] pos) IF:=λpins s σ H Q I h=>by
 have big:sysModules<s.heap.objs.size:=Nat.lt_trans (by decide) (I.mod.glob.keeps I.bk).lt
 have ok:da X.prog X.w (upd H s.heap.objs.size<|.dK []) (s.heap.push {cls:=.type "dict",data:=.dict #[]}) s.heap.objs.size (.dK []):=
  ⟨zqZ _,beq_eq_false_iff_ne.mpr<|Ne.symm<|zaf big,[],.nil,Heap.DictOf.new s.heap⟩
 exact wpAny_Dict_empty ⟨.ref s.heap.objs.size,_,I.laid (λ_ _ q=>Heap.get?_push_of_some _ q) (zqR _) ok,rfl,h _<|I.aK.fresh<|zqR _⟩
theorem X6(hc:X.calm=true)(b:mM):XW X b:=by
 cases b with
 |len=>exact .fn "len" boot_len (cj.imp Tt λxs H Q h=>by
   rcases xs with _|⟨x,_|⟨_,_⟩⟩ <;>(try exact False.elim h)
   obtain⟨n,h1,h2⟩:=XU (Q:=λn=>Q (.int n) H) h;exact⟨x,n,rfl,h1,h2⟩)
 |min=>exact .fn "min" boot_min (cj.imp ((Tp hc).or (X0 hc)) λxs H Q h=>by
   match xs,h with
   |[.int i,.int j],h=>exact .inl ⟨i,j,rfl,h⟩
   |[.ref p],⟨ns,h1,h2,h3⟩=>exact .inr ⟨p,ns,rfl,h1,h2,h3⟩)
 |max=>exact .fn "max" boot_max (cj.imp ((To hc).or (X1 hc)) λxs H Q h=>by
   match xs,h with
   |[.int i,.int j],h=>exact .inl ⟨i,j,rfl,h⟩
   |[.ref p],⟨ns,h1,h2,h3⟩=>exact .inr ⟨p,ns,rfl,h1,h2,h3⟩)
 |sum=>exact .fn "sum" boot_sum (cj.imp (V9 hc) λxs H Q h=>by
   rcases xs with _|⟨x,_|⟨_,_⟩⟩ <;>(try exact False.elim h) <;>cases x<;>(try exact False.elim h)
   obtain⟨ns,h1,h2⟩:=h;exact⟨_,ns,rfl,h1,h2⟩)
 |abs=>exact .fn "abs" boot_abs λ_ _ _ _ xs _ _ _ _ h=>by rcases xs with _|⟨y0,_|⟨y1,_⟩⟩ <;>first|exact False.elim h| (cases y0<;>exact False.elim h)
 |int=>exact .ty "int" XX (cj.imp Tq λxs H Q h=>XT h)
 |list=>exact .ty "list" XY (cj.imp (UH.or (X3 hc)) λxs H Q h=>by
   rcases xs with _|⟨x,_|⟨_,_⟩⟩ <;>(try exact False.elim h) <;>cases x<;>(try exact False.elim h)
   ·exact .inr ⟨_,rfl,h.1,h.2⟩
   ·obtain⟨ys,h1,h2⟩:=h;exact .inl ⟨_,ys,rfl,h1,h2⟩)
 |tuple=>exact .ty "tuple" XZ (cj.imp (UI.or (X4 hc)) λxs H Q h=>by
   rcases xs with _|⟨x,_|⟨_,_⟩⟩ <;>(try exact False.elim h) <;>cases x<;>(try exact False.elim h)
   ·exact .inr ⟨_,rfl,h.1,h.2⟩
   ·obtain⟨ys,h1⟩:=h;exact .inl ⟨_,ys,rfl,h1⟩)
structure X7 (X:Cx) (m:iW) (id:String):Prop where
 pa:PlainAttrs (yv m)
 slot:Slot (yv m) m.nm id
 ty:typeOf (.builtin id)=pure (.type "method_descriptor")
 mt:rX X id (p9 X.K m)
theorem X8{w:World}{k:Key}{u:Value}(r:RelV (kV k) u):(kY P w).is k u=true:=by
 cases k with
 |inl i=>obtain⟨t,e⟩:=(show ∃t,u=Value.int i t from r);subst e;exact RZ P w i t
 |inr x=>obtain⟨t,e⟩:=(show ∃t,u=Value.str x t from r);subst e;exact R0 P w x t
theorem X9(r:KV aS vs)(k:Key){v:V}(h:p_ aS k=some v):∃u,valueAt vs k=some u/\RelV v u:=by
 induction r with
 |nil=>cases h
 | @cons p q ps qs hh t ih=>
  obtain⟨h1,h2⟩:=hh;by_cases e:p.1=k
  ·have e':=h1.symm.trans e;have b:valueAt (q::qs) k=some q.2:=by simp[valueAt,zbC,e']
   have a:p_ (p::ps) k=some p.2:=by simp[p_,zbC,e]
   rw[a] at h;cases h;exact⟨_,b,h2⟩
  ·have e':¬q.1=k:=λz=>e (h1.trans z);have b:valueAt (q::qs) k=valueAt qs k:=by simp[valueAt,zbC,e']
   have a:p_ (p::ps) k=p_ ps k:=by simp[p_,zbC,e]
   rw[a] at h;rw[b];exact ih h
theorem X_(Cn:∀p aS,sd p aS->∀h:Heap,X.K.In h->∃vs,KV aS vs/\h.DictOf (kY X.prog X.w) p vs):lE X (IG sd):=by
 intro value slice pins s σ H x y v u Q I rx ry h hs;obtain⟨p,aS,k,z,rfl,rfl,hq,he,q⟩:=h;cases rx;obtain⟨vs,r,dd⟩:=Cn p aS hq s.heap I.cT;obtain⟨w,ew,pV⟩:=X9 r k he;exact subscriptTail_builtinR dd.mapOf.typeIs PySem.F.slot_dict_getitem.lookup
  (wpAny_getItem_of (X8 ry) dd.mapOf ew ⟨rfl,z,H,I.tok _,pV,q⟩) hs
theorem Ya(Cn:∀p aS,sd p aS->∀h:Heap,X.K.In h->∃vs,KV aS vs/\h.DictOf (kY X.prog X.w) p vs):lE X (oo X.K sd):=Uv.or (Uw.or<|Ux.or<|X_ Cn)
theorem Yb:rX X "list.index" (λx vs H Q=>∃(l:Addr) (y:V) (xs:List V),x=.ref l/\vs=[y]/\ar X.K H l xs/\iD y=true/\xs.all iD=true/\hJ y xs=true/\Q (.int (xs.findIdx (λz=>g_ z y):Nat)) H):=by
 intro pins s σ H x vs v us Q I rx rv h;obtain⟨l,y,xs,rfl,rfl,hq,fy,fs,cQ,q⟩:=h;cases rx;obtain⟨u,rfl,ru⟩:=vals1 rv;obtain⟨its,r,⟨⟨cls,dd,data,sl⟩,n,ho,hc,hd0,hd⟩,hz⟩:=I.list hq
 subst hc hd;have hlen:=r.length;have e:∀j (h1:j<its.length) (h2:j<xs.length),fM y its[j]=g_ xs[j] y:=λj h1 h2=>by
  obtain⟨w,e1,r1⟩:=r.get (i:=j) (x:=xs[j]) (by simp)
  have e2:=zaC h1;rw[e1] at e2;rw[<-zap e2];exact Bp r1<|zaO.mp fs _<|zaQ h2
 have hj:=List.findIdx_lt_length.mpr (zbD.mp cQ);have hn:=pQ;refine call_meets PySem.F.slot_list_index ⟨_,ho,rfl⟩ PySem.F.entry_list_index (PySem.F.args_list_index_2 _ _)
  (PySem.SeqAt.list_indexAt l its.toArray n dd sl u (fM y) (xs.findIdx λz=>g_ z y) (by simp;lia) (by lia) ?_ ?_) ⟨ho,λz Yc=>rY ru fy r fs z (by simpa using Yc),⟨.int _,H,I.tok _,⟨_,rfl⟩,q⟩⟩
 ·show fM y its[xs.findIdx λz=>g_ z y]=true;rw[e _ (by lia) hj]
  exact List.findIdx_getElem (w:=hj)
 ·intro j Yd aU;show fM y its[j]=false;rw[e j (by lia) (by lia)]
  simpa using List.not_of_lt_findIdx aU
theorem Jl(m:iW):∃id,X7 X m id:=by
 cases m with
 |append=>exact⟨_,F.plainAttrs_list,F.slot_list_append,F.type_list_append,λpins s σ H x xs v us Q I rx rv h=>by
   cases x<;>(try exact False.elim h) <;>rcases xs with _|⟨y0,_|⟨_,_⟩⟩ <;>(try exact False.elim h)
   obtain⟨zs,h1,h2,h3⟩:=h;exact UR pins s σ H _ _ v us Q I rx rv ⟨_,zs,_,rfl,rfl,h1,h2,h3⟩⟩
 |pop=>exact⟨_,F.plainAttrs_list,F.slot_list_pop,F.type_list_pop,λpins s σ H x xs v us Q I rx rv h=>by
   cases x<;>(try exact False.elim h) <;>rcases xs with _|⟨_,_⟩ <;>(try exact False.elim h)
   obtain⟨zs,y,h1,h2,h3⟩:=h;exact UW pins s σ H _ _ v us Q I rx rv ⟨_,zs,y,rfl,rfl,h1,h2,h3⟩⟩
 |extend=>exact⟨_,F.plainAttrs_list,F.slot_list_extend,F.type_list_extend,λpins s σ H x xs v us Q I rx rv h=>by
   cases x<;>(try exact False.elim h) <;>rcases xs with _|⟨y0,_|⟨_,_⟩⟩ <;>(try exact False.elim h) <;>cases y0<;>(try exact False.elim h)
   obtain⟨ys,zs,h1,h2,h3,h4⟩:=h;exact UT pins s σ H _ _ v us Q I rx rv ⟨_,_,ys,zs,rfl,rfl,h1,h2,h3,h4⟩⟩
 |join=>exact⟨_,F.plainAttrs_str,F.slot_str_join,F.type_str_join,λpins s σ H x xs v us Q I rx rv h=>by
   cases x<;>(try exact False.elim h) <;>rcases xs with _|⟨y0,_|⟨_,_⟩⟩ <;>(try exact False.elim h) <;>cases y0<;>(try exact False.elim h)
   obtain⟨ts,h1,h2,h3⟩:=h;exact V_ pins s σ H _ _ v us Q I rx rv ⟨_,_,ts,rfl,rfl,h1,h2,h3⟩⟩
 |lstrip=>exact⟨_,F.plainAttrs_str,F.slot_str_lstrip,F.type_str_lstrip,λpins s σ H x xs v us Q I rx rv h=>by
   cases x<;>(try exact False.elim h) <;>rcases xs with _|⟨y0,_|⟨_,_⟩⟩ <;>(try exact False.elim h) <;>cases y0<;>(try exact False.elim h)
   obtain⟨h1,h2⟩:=h;exact Wb pins s σ H _ _ v us Q I rx rv ⟨_,_,rfl,rfl,h1,h2⟩⟩
 |starts=>exact⟨_,F.plainAttrs_str,F.slot_str_startswith,F.type_str_startswith,λ_ _ _ _ x xs _ _ _ _ _ _ h=>by cases x<;>rcases xs with _|⟨y0,_|⟨y1,_⟩⟩ <;>first|exact False.elim h| (cases y0<;>exact False.elim h)⟩
 |find=>exact⟨_,F.plainAttrs_str,F.slot_str_find,F.type_str_find,λpins s σ H x xs v us Q I rx rv h=>by
   match x,xs,h with
   |.str z,[.str y],h1=>
    obtain⟨t,rfl⟩:=rx;obtain⟨u,rfl,⟨t2,rfl⟩⟩:=vals1 rv;exact call_gives F.slot_str_find (typeIs_str _ _ _) F.entry_str_find (F.args_str_find_2 _ _) (gives_str_find z y t t2) ⟨.int _,H,I.tok _,⟨_,rfl⟩,h1⟩
   |.str z,[.str y,.int i],h1=>
    obtain⟨t,rfl⟩:=rx;obtain⟨u,w',rfl,⟨t2,rfl⟩,⟨t3,rfl⟩⟩:=vals2 rv;exact call_gives F.slot_str_find (typeIs_str _ _ _) F.entry_str_find (F.args_str_find_3 _ _ _) (gives_str_find_from z y i t t2 t3) ⟨.int _,H,I.tok _,⟨_,rfl⟩,h1⟩⟩
 |count=>exact⟨_,F.plainAttrs_str,F.slot_str_count,F.type_str_count,λpins s σ H x xs v us Q I rx rv h=>by
   match x,xs,h with
   |.str z,[.str y],h1=>
    obtain⟨t,rfl⟩:=rx;obtain⟨u,rfl,⟨t2,rfl⟩⟩:=vals1 rv;exact call_gives F.slot_str_count (typeIs_str _ _ _) F.entry_str_count (F.args_str_count_2 _ _) (gives_str_count z y t t2) ⟨.int _,H,I.tok _,⟨_,rfl⟩,h1⟩⟩
 |reverse=>exact⟨_,F.plainAttrs_list,F.slot_list_reverse,F.type_list_reverse,λ_ _ _ _ x xs _ _ _ _ _ _ h=>by cases x<;>rcases xs with _|⟨y0,_|⟨y1,_⟩⟩ <;>first|exact False.elim h| (cases y0<;>exact False.elim h)⟩
 |index=>exact⟨_,F.plainAttrs_list,F.slot_list_index,F.type_list_index,λ_ _ _ _ x xs _ _ _ _ _ _ h=>by cases x<;>rcases xs with _|⟨y0,_|⟨y1,_⟩⟩ <;>first|exact False.elim h| (cases y0<;>exact False.elim h)⟩
 |Iw=>exact⟨_,F.plainAttrs_list,F.slot_list_count,F.type_list_count,λ_ _ _ _ x xs _ _ _ _ _ _ h=>by cases x<;>rcases xs with _|⟨y0,_|⟨y1,_⟩⟩ <;>first|exact False.elim h| (cases y0<;>exact False.elim h)⟩
 |BM=>exact⟨_,F.plainAttrs_list,F.slot_list_index,F.type_list_index,λpins s σ H x xs v us Q I rx rv h=>by
   cases x<;>(try exact False.elim h) <;>rcases xs with _|⟨y0,_|⟨_,_⟩⟩ <;>(try exact False.elim h)
   obtain⟨zs,h1,h2,h3,h4,h5⟩:=h;exact Yb pins s σ H _ _ v us Q I rx rv ⟨_,_,zs,rfl,rfl,h1,h2,h3,h4,h5⟩⟩
 |clear=>exact⟨_,F.plainAttrs_list,F.slot_list_clear,F.type_list_clear,λpins s σ H x xs v us Q I rx rv h=>by
   cases x<;>(try exact False.elim h) <;>rcases xs with _|⟨_,_⟩ <;>(try exact False.elim h)
   obtain⟨zs,h1,h2⟩:=h;exact UY pins s σ H _ _ v us Q I rx rv ⟨_,zs,rfl,rfl,h1,h2⟩⟩
theorem Ye{σ:St}{H:Hp}{s:Shared}{T:Ty}{x:V}{u:Value}{Qb:Bool->Prop}{Q:Value->Shared->Prop}{E:Value->Shared->Prop}(I:Inv X pins σ H s)(rx:RelV x u)(h:bT T x H Qb)
  (hq:∀b tk,Qb b->Q (.bool b) {s with toks:=tk}):wpAny (model X.prog X.w) X.A (call (.builtin "isinstance") [u,.type T.nm]) Q E s:=by
 match x,rx,h with
 |.aB,rx,h=>exact mB I rx (.aB) (V8 _ T) λtk=>hq _ _ h
 |.bl b,rx,h=>exact mB I rx (.bl b) (og X.K .bool T) λtk=>hq _ _ (by cases T<;>exact h)
 |.int i,rx,h=>exact mB I rx (.int i) (og X.K .int T) λtk=>hq _ _ (by cases T<;>exact h)
 |.str i,rx,h=>exact mB I rx (.str i) (og X.K .str T) λtk=>hq _ _ (by cases T<;>exact h)
 |.ref a,rx,h=>
  cases e:H a with
  |none=>simp only[bT,e] at h
  |some o=>
   match o,e with
   |.lst xs,e=>simp only[bT,e] at h;exact mB I rx (.lst e) (og X.K .list T) λtk=>hq _ _ (by lia)
   |.bO ob (.lst xs),e=>simp only[bT,e] at h;exact mB I rx (.bO e) (og X.K .list T) λtk=>hq _ _ (by lia)
   |.tup xs,e=>simp only[bT,e] at h;exact mB I rx (.tup e) (og X.K .tuple T) λtk=>hq _ _ (by lia)
   |.dK xs,e=>simp only[bT,e] at h;exact mB I rx (.dK e) (og X.K .dict T) λtk=>hq _ _ (by lia)
   |.dT xs,e=>simp only[bT,e] at h;exact mB I rx (.dT e) (og X.K .dict T) λtk=>hq _ _ (by lia)
   |.set _ _,e=>simp only[bT,e] at h
   |.ins _ _ _,e=>simp only[bT,e] at h
   |.own _,e=>simp only[bT,e] at h
   |.xd _,e=>simp only[bT,e] at h
   |.met _ _,e=>simp only[bT,e] at h
   |.gZ _ _,e=>simp only[bT,e] at h
   |.k7 _,e=>simp only[bT,e] at h
   |.ext _,e=>simp only[bT,e] at h
   |.bO ob (.tup xs),e=>simp only[bT,e] at h
   |.bO ob (.dK xs),e=>simp only[bT,e] at h
   |.bO ob (.dT xs),e=>simp only[bT,e] at h
   |.bO ob (.set _ _),e=>simp only[bT,e] at h
   |.bO ob (.ins _ _ _),e=>simp only[bT,e] at h
   |.bO ob (.own _),e=>simp only[bT,e] at h
   |.bO ob (.xd _),e=>simp only[bT,e] at h
   |.bO ob (.met _ _),e=>simp only[bT,e] at h
   |.bO ob (.gZ _ _),e=>simp only[bT,e] at h
   |.bO ob (.k7 _),e=>simp only[bT,e] at h
   |.bO ob (.ext _),e=>simp only[bT,e] at h
   |.bO ob (.bO _ _),e=>simp only[bT,e] at h
theorem Yf(T:Ty):bootBuiltins (Str.ofString T.nm)=some (.type T.nm):=by cases T<;>decide+kernel
theorem Yg(T:Ty):cj X (.builtin "isinstance") (om T):=by
 intro pins s σ H xs us Q I r h
 match xs,r,h with
 |[x,.ty n],r,⟨e,h⟩=>
  subst e;obtain⟨u,w',rfl,ru,pV⟩:=vals2 r;cases pV;exact Ye I ru h λb tk hb=>⟨.bl b,H,I.tok tk,rfl,hb⟩
theorem Yh{a:Expr}{ta:TE}{p q pos:Pos}(ha:PE X a ta)(hs:noStar a=true)(hg:Gl X "isinstance")(hm:X.mg "isinstance"=none)(Yi:Gl X (Str.ofString T.nm))(Yj:X.mg (Str.ofString T.nm)=none):
  PE X (.Call (.Name "isinstance" p) [a,.Name (Str.ofString T.nm) q] [] pos) (eT (om T)<|dq ta<|dq (tC<|.ty T.nm) gL):=by
 have hT:PE X (.Name (Str.ofString T.nm) q) (tC<|.ty T.nm):=Gf Yi Yj (Yf T) rfl (by cases T<;>decide) (by cases T<;>decide)
 exact nW (Yg T) hg hm Jg (lA ha (lA hT pS rfl)<|dv hs) (by decide) (rfl) (dv hs) rfl
theorem Yk:xV X (sk X.K):=by
 intro pins s σ H x v vl vu lo hi sl Q I rx hs pl pu h
 match x,rx,h with
 |.ref a,rx,.inl ⟨xs,h1,h2⟩=>exact UC pins s σ H _ v vl vu lo hi sl Q I rx hs pl pu ⟨a,xs,rfl,h1,h2⟩
 |.ref a,rx,.inr ⟨xs,h1,h2,h3⟩=>exact Us pins s σ H _ v vl vu lo hi sl Q I rx hs pl pu ⟨a,xs,rfl,h1,h2,h3⟩
 |.str z,rx,⟨h1,h2⟩=>
  obtain⟨t,rfl⟩:=rx;obtain⟨l,el,ml⟩:∃l:Option (Int×Tok),vl=partValue l/\l.map (·.1)=lo:=by
   cases pl with
   |none=>exact⟨none,rfl,rfl⟩
   |int i t=>exact⟨some (i,t),rfl,rfl⟩
  obtain⟨u,eu,mu⟩:∃u:Option (Int×Tok),vu=partValue u/\u.map (·.1)=hi:=by
   cases pu with
   |none=>exact⟨none,rfl,rfl⟩
   |int i t=>exact⟨some (i,t),rfl,rfl⟩
  subst el eu;refine⟨"str",_,F.slot_str_getitem.lookup,typeIs_str _ _ _,?_⟩;refine wpAny_getItem_str_slice (l:=l) (u:=u) (st:=none) hs rfl ?_;obtain⟨b1,b2,b3⟩:=Bo lo hi z.length;have hp:slicePicked z l u none=(List.range<|HT.br z.length z.length hi - HT.br z.length 0 lo).map (HT.br z.length 0 lo+ ·):=by
   show Builtin.Str.strSliceIndices (l.map (·.1)) (u.map (·.1)) 1 z.length=_;rw[ml,mu];have e0:Builtin.Str.strSliceIndices lo hi 1 z.length=sliceRange (sliceBounds lo hi none z.length).1 (sliceBounds lo hi none z.length).2.1 (sliceBounds lo hi none z.length).2.2:=rfl;rw[e0,b1,b2,b3,sliceRange_one]
  have hc:((slicePicked z l u none).filterMap (z.cps[·]?))=mJ z.cps.toList lo hi:=by
   show(Builtin.Str.strSliceIndices (l.map (·.1)) (u.map (·.1)) 1 z.length).filterMap (z.cps[·]?)=_;rw[ml,mu,Wc]
  have hz:z.cps.toList.length=z.length:=rfl
  have hA:=HT.Bj z.length 0 (zqZ _) lo;have hB:=HT.Bj z.length z.length (zqR _) hi;refine post_val_or_made (λ_=>?_) λt' k=>?_
  ·show(List.toArray ((slicePicked z l u none).filterMap (z.cps[·]?))).size<=sizeLine;rw[hc,zag];have:(mJ z.cps.toList lo hi).length<=z.cps.toList.length:=by unfold mJ;simp only[zaq,zao];lia
   lia
  ·have e:(if (((none:Option (Int×Tok)).map (·.1)).getD 1==1 && (slicePicked z l u none).length==z.length)=true then z else ⟨((slicePicked z l u none).filterMap (z.cps[·]?)).toArray⟩)=mK z lo hi:=by
    split
    ·rename_i hq
     simp only[zab,beq_iff_eq] at hq
     have jG:=hq.2;rw[hp,zah,List.length_range] at jG;have a0:HT.br z.length 0 lo=0:=by lia
     have b0:HT.br z.length z.length hi=z.length:=by lia
     unfold mK mJ;rw[hz,a0,b0,<-hz,Nat.sub_zero,zaW,zbn]
    ·rw[hc];rfl
   rw[e];exact⟨.str _,H,I.tok k,⟨t',rfl⟩,h2⟩
theorem Yl:xH X (unaryOp .USub) IE:=by
 intro pins s σ H x v Q I rx h
 match x,rx,h with
 |.int i,rx,h=>exact SX pins s σ H _ v Q I rx ⟨i,rfl,h⟩
theorem Ym{pos:Pos}(ha:PE X a ta):PE X (.UnaryOp .Not a pos) (BO X.K ta):=by
 intro pins s σ H Q I h;exact UnaryOp_<|aV (ha pins s σ H _ I h) λv s1 ⟨x,H1,I1,r1,q1⟩=>not_of (aV (GU pins s1 σ H1 x v (λb H2=>Q (.bl<|!b) H2) I1 r1<|ID q1) λb s2 ⟨H2,I2,q2⟩=>⟨.bl<|!b,H2,I2,rfl,q2⟩)
theorem vc{ta:TE}(ha:PE X a ta)(he:∀whole,isTrue a X.env whole=(do let v <-whole;standAt a.pos;holding [v] (truthy v))):PT X a (gg X.K ta):=by
 intro pins s σ H Q I h;exact isTrue_plain (aV (ha pins s σ H _ I h) λv s1 ⟨x,H1,I1,r1,q1⟩=>GU pins s1 σ H1 x v Q I1 r1 (ID q1))<|he _
theorem Yn{o e:Expr}{es:List Expr}{to:TE}{t:TA}{apos d0:Pos}(ho:PE X o to)(ha:PA X (e::es) t)(hb:ou o=true)(hl:(apos.endLine==d0.line)=true)(hn:(e::es).length<29)
  (hs:starEach (e::es) X.env=(false,eval e X.env)::starEach es X.env) (h1:(backTo d0<|starEach es X.env).any (·.1)=false) (h2:(backTo d0<|starEach (e::es) X.env).all (λx=> !x.1)=true):
  PE X (.Call (.Attribute o m.nm apos) (e::es) [] d0) (sj X.K m to t):=by
 obtain⟨id,M⟩:=Jl m;exact UM M.pa M.slot M.ty M.mt ho ha (pW hb) (by
  rw[h2];show(true && true && decide ((e::es).length+0+0<30))=true;rw[zqT (by lia)];rfl) hl hs h1
theorem Yo{o:Expr}{to:TE}{apos d0:Pos}(ho:PE X o to)(hb:ou o=true)(hl:(apos.endLine==d0.line)=true):
  PE X (.Call (.Attribute o m.nm apos) [] [] d0) (sj X.K m to gL):=by
 obtain⟨id,M⟩:=Jl m;exact UL M.pa M.slot M.ty M.mt ho (pW hb) hl
theorem Jm{apos pos:Pos}{args:List Expr}{Q:Value->Shared->Prop}{E:Value->Shared->Prop}{A:Around}{s:Shared}{env:Env}{prog:Program}{w:World}
  (hb:ou o=true) (hl:(apos.endLine==pos.line)=true) (hn:args.length<29) (hf:(backTo pos<|starEach args env).all (λx=> !x.1)=true)
  (h:wpAny (model prog w) A (eval o env) (λov s1=>∀pl,wpAny (model prog w) A (getMethod ov m pl) (λfx s2=>wpAny (model prog w) A (callWith pos fx.1 fx.2 (backTo pos<|starEach args env)<|backToKw pos<|keywordEach [] env) Q E s2) E s1) E s):
  wpAny (model prog w) A (eval (.Call (.Attribute o m apos) args [] pos) env) Q E s:=by
 have Yp:methodCallForm (args.length+0) (backTo pos<|starEach args env) (backToKw pos<|keywordEach [] env)=true:=by
  show((backTo pos<|starEach args env).all (λx=> !x.1) && true && decide (args.length+0+0<30))=true;rw[hf,zqT (by lia)];rfl
 have line:methodCallPos true o env apos pos=pure pos:=by unfold methodCallPos;simp[hl]
 rw[arm_eval_Call,pW hb];refine wpAny_bind<|wpAny_mono h (λov s1 h1=>wpAny_bind<|wpAny_standAt ?_) λ_ _ e=>e;unfold methodCall;rw[show([]:List Keyword).length=0 from rfl,Yp]
 exact wpAny_bind<|wpAny_holding<|wpAny_mono (h1 _) (λfx s2 h2=>wpAny_bind<|wpAny_of_eq line h2) λ_ _ e=>e
theorem Yq{to:TE}{t:TA}{apos pos:Pos}{C:Addr}{m:Str}{sp:Sp}{E:XK}(M:yE CX X C m sp)(hx:Passes CX X E)(ho:PE X o to)(ha:PA X (e::es) t)(hb:ou o=true)(hl:(apos.endLine==pos.line)=true)(hn:(e::es).length<29)
  (hs:starEach (e::es) X.env=(false,eval e X.env)::starEach es X.env) (h1:(backTo pos<|starEach es X.env).any (·.1)=false) (h2:(backTo pos<|starEach (e::es) X.env).all (λx=> !x.1)=true):
  PE X (.Call (.Attribute o m apos) (e::es) [] pos) (pT C m sp [] E to t):=by
 obtain⟨c,k,f,fd,ps,hm,F,hr,mZ⟩:=M;intro pins s σ H Q I h;refine Jm hb hl hn h2<|aV (ho pins s σ H _ I h) λu s1 ⟨x,H1,I1,rx,a,dx,fs,ex,ea,l,q⟩=>λpl=>?_;subst ex;obtain rfl:u=Value.ref a:=rx;exact GZ I1 ea c hm l (callWith_K I.ok.mod.pJ hm.kp (aV (ha pos pins s1 σ H1 _ I1 q) λus s2 ⟨vs,H2,I2,r,q2⟩=>⟨I2.cT,Bf (vs:=.ref a::vs) F hr mZ .nil hx I2 (.cons rfl r) q2⟩) hs h1)
theorem Yr{apos pos:Pos}{C:Addr}{m:Str}{sp:Sp}{E:XK}(M:yE CX X C m sp)(hx:Passes CX X E)(ho:PE X o to)(hb:ou o=true)(hl:(apos.endLine==pos.line)=true):
  PE X (.Call (.Attribute o m apos) [] [] pos) (pT C m sp [] E to gL):=by
 obtain⟨c,k,f,fd,ps,hm,F,hr,mZ⟩:=M;intro pins s σ H Q I h;refine Jm hb hl (by simp) rfl<|aV (ho pins s σ H _ I h) λu s1 ⟨x,H1,I1,rx,a,dx,fs,ex,ea,l,q⟩=>λpl=>?_
 subst ex;obtain rfl:u=Value.ref a:=rx;exact GZ I1 ea c hm l (callWith_K0 I1.cT hm.kp<|Bf (vs:=[.ref a]) F hr mZ .nil hx I1 (.cons rfl .nil) q)
variable {prog:Program}{w:World}{A:Around}{E:Value->Shared->Prop}{s:Shared}
theorem Jo{l:Addr}{items:Array Value}(cP:l≠it):∀(n i:Nat) (s:Shared) (Q:List Value->Shared->Prop),s.heap.IsListIter it l i->s.heap.IsList l items->i+n<=items.size->
  (∀h',h'.IsListIter it l (i+n)->Heap.SameBut it s.heap h'->Q ((items.toList.drop i).take n) {s with heap:=h'})->wpAny (model prog w) A (draw (.ref it) n) Q E s
 | 0,i,s,Q,hit,_,_,hQ=>by
  exact wpAny_pure (by simpa using hQ s.heap hit (Heap.SameBut.refl ..))
 |n+1,i,s,Q,hit,ht,hle,hQ=>by
  have aU:i<items.size:=by lia
  refine wpAny_bind<|wpAny_pyNext_list_item hit ht (x:=items[i]) (by simp) λh₁ uU mS=>?_
  refine wpAny_bind<|wpAny_holding<|Jo cP n (i+1) _ _ uU (ht.extBut mS.extBut cP) (by lia) λh₂ Ys Yt=>wpAny_pure ?_
  have hd:items.toList.drop i=items[i]::items.toList.drop (i+1):=by simp[zbo,aU]
  have:=hQ h₂ (by lia) (mS.trans Yt)
  rw[hd] at this;exact this
theorem Yu{Q:List Value->Shared->Prop}(hh:A.handled=none)(ht:s.heap.IsList t items)
  (hQ:∀h',Heap.ExtBut s.heap.objs.size s.heap h'->Q items.toList {s with heap:=h'}):wpAny (model prog w) A (unpackItems (.ref t) items.size none) Q E s:=by
 have aU:t≠s.heap.objs.size:=by obtain⟨o,ho,_⟩:=ht;exact zaf (Heap.lt_size ho)
 refine wpAny_bind ?_
 ·refine wpAny_bind<|wpAny_specialOf ht.typeIs slot_list_iter.lookup ?_;refine wpAny_pure ?_
  refine wpAny_bind<|wpAny_holding<|wpAny_pyIter_list ht (wpAny_bind<|wpAny_holding<|Jo aU items.size 0 _ _ ⟨_,Heap.get?_push_size _ rfl,rfl,rfl⟩ (ht.push _) (by lia) λh₁ uU mS=>?_)
  have uH:List.take items.size (List.drop 0 items.toList)=items.toList:=by
   exact zav (by simp)
  rw[uH];rw[if_neg (by simp)]
  refine wpAny_bind<|wpAny_holding<|wpAny_pyNext_list_end hh uU ((ht.push _).extBut mS.extBut aU) (by simp) λh₂ B2=>?_
  refine wpAny_pure<|hQ h₂ λb o hb e=>B2 b o hb (mS.extBut b o hb<|Heap.get?_push_of_some _ e)
theorem Yv{elts:List Expr}{x1}{pos:Pos}{t:Addr}{items:Array Value}{Q:Unit->Shared->Prop}(hh:A.handled=none)(ht:s.heap.IsList t items)
  (hn:(assignEach elts env).length=items.size) (B3:(assignEach elts env).findIdx? (·.1)=none)
  (h:∀h',Heap.ExtBut s.heap.objs.size s.heap h'->wpAny (model prog w) A (assignInOrder ((assignEach elts env).map (·.2)) items.toList) Q E {s with heap:=h'}):
  wpAny (model prog w) A (assign (.Tuple elts x1 pos) env<|.ref t) Q E s:=by
 refine wpAny_bind<|wpAny_standAt ?_;unfold unpack;rw[hn,B3];exact wpAny_bind<|wpAny_holding<|Yu hh ht h
end
def ke(K:Frag)(n:Nat)(t:j5):TG:=λv σ H Q=>∃a xs,v=.ref a/\(aM K H a xs\/ar K H a xs)/\xs.length=n/\t xs σ H Q
theorem Jp{k:Nat}{t:j5}{n:Nat}{pos:Pos}(hc:X.calm=true)(h:pM X es t)
  (hn:(assignEach es X.env).length=n) (k9:(assignEach es X.env).findIdx? (·.1)=none):PG X (.Tuple es k pos) (ke X.K n t):=by
 intro pins s σ H v u Q I r hw;obtain⟨a,xs,e1,hq,hl,hw⟩:=hw;rcases hq with hq|hq
 ·exact Gy hc h hn k9 pins s σ H v u Q I r ⟨a,xs,e1,hq,hl,hw⟩
 ·subst e1;cases r;obtain⟨its,rv,ht,hz⟩:=I.list hq;refine Yv (I.ok.hd hc) ht.isList (by simp[hn,<-hl,rv.length]) k9 λh' hx=>?_
  exact h pins _ σ H xs _ Q (I.kept λb o e=>hx b o (zaf<|Heap.lt_size e) e) (by lia) hw
def jH:List Nat->j5
 |[]=>xy
 |i::r=>rT (eS i) (jH r)
def Yw(to:TE)(tl th:TO):TG:=λv σ H Q=>to σ H λo H1=>tl σ H1 λi H2=>th σ H2 λj H3=>∃l b xs ys a c,o=.ref l/\v=.ref b/\i=some a/\j=some c/\H3 l=some (.lst xs)/\H3 b=some (.lst ys)/\l≠b/\
 0<=a/\a<=c/\c<=xs.length/\xs.length+ys.length<=sizeLine/\Q σ (upd H3 l<|.lst<|xs.take a.toNat++ys++xs.drop c.toNat)
mutual
def bM(Γ:bo):RS->TS
 |.asg i e=>k_ (ak Γ e) (eS i)
 |.yu i e=>k_ (ak Γ e) (eS i)
 |.set o ix e=>k_ (ak Γ e) (Gz (ak Γ o) (ak Γ ix) xW)
 |.dput o i e=>Vh (ak Γ o) (ak Γ i) (ak Γ e)
 |.drop e=>Gu (ak Γ e)
 |.ret e=>Gv (ak Γ e)
 |.Wm=>Ss
 |.ite c t e=>Gw (bD Γ c) (aE Γ t) (aE Γ e)
 |.jA i k its body=>xF (jC Γ k its) (eS i) (aE Γ body)
 |.hX is k its body=>xF (jC Γ k its) (ke Γ.K is.length<|jH is) (aE Γ body)
 |.si c body=>GB (bD Γ c) (aE Γ body)
 |.pass=>AU
 |.brk=>Sm
 |.cont=>Gs
 |.never=>Sv
 |.Wn o lo hi e=>k_ (ak Γ e) (Yw (ak Γ o) (xU<|ak Γ lo)<|xU<|ak Γ hi)
 |.lM o f e=>Bb Γ.K (ak Γ o) (ak Γ e) f
 |.oi is e=>k_ (ak Γ e) (ke Γ.K is.length<|jH is)
 |.iG j as=>BK (Γ.ex j) Γ.E (aW Γ as)
 |.BN n i j body su=>λD σ H=>∃C,Γ.gv j=.ref C/\yp Γ.K C i n (λE=>aE {Γ with E:=E} body) (λea=>aE {Γ with E:=E0,hv:=some ea} su) D σ H
 |.Wo k i j f as su=>λD σ H=>∃C,Γ.gv j=.ref C/\Wf Γ.K C i k (Γ.fs f) (aW {Γ with E:=E0} as) (λea=>aE {Γ with E:=E0,hv:=some ea} su) D σ H
 |.xs T=>T Γ
def aE(Γ:bo):List RS->TS
 |[]=>AU
 |s::r=>Gp (bM Γ s) (aE Γ r)
end
def Co:Expr->Bool
 |.Slice ..=>false|_=>true
def vd:Expr->Bool
 |.ListComp ..=>false|.SetComp ..=>false|.DictComp ..=>false|_=>true
def Jq(sc:Scope)(x:Str)(line:Nat)(s:Scope)(p:Pos):Bool:=
 decide (sc.kind=.function) && decide (sc.names.lookup x=some .local) && (line==p.line) && !(s.names.any fun(n,k)=>n==x && (k==.local ||k==.cell))
def qf(N:List Str)(sc:Scope):List Nat->List Str->Bool
 |[],xs=>xs.isEmpty
 |i::r,xs=>match xs with
  |[]=>false
  |x::t=>decide (N[i]?=some x) && loc sc x && qf N sc r t
structure dF (CX:cb) (S:c_) (Γ:bo) (X:Cx):Prop extends Good CX S Γ X where
 nd:S.N.Nodup
 m7:∀x,X.fn x=true
 own:PassesOwn (model X.prog X.w) X.A X.env X.xe
 qg:X.env.scope.kind=.function
 rs:∀(j:Nat) (x:Str),S.en[j]?=some x->Raises X Γ.E
 jv:X.stack=X.env::X.outer
 gP:X.env.frame=some X.env.locals
 qh:X.ex=[]
 qj:CX=e_ X.prog X.w
def qV(S:c_)(i:Nat)(x:Str):Bool:=decide (S.N[i]?=some x) && BR S.sc x && !(x==("__debug__":Str)) && !(x==("__classdict__":Str))
def kG(S:c_)(j:Nat)(x:Str):Bool:=decide (S.gn[j]?=some x) && mO S.sc x && !(x==("__debug__":Str))
def kF(S:c_)(j:Nat)(x:Str):Bool:=decide (S.fn[j]?=some x) && mO S.sc x && !(x==("__debug__":Str))
def kK(S:c_)(j:Nat)(x:Str):Bool:=decide (S.kn[j]?=some x) && mO S.sc x && !(x==("__debug__":Str))
def kB(S:c_)(x y:Str):Bool:=decide (x=y) && mO S.sc x && S.bl.contains x
def kM(o:Expr)(m:Str)(x:Str)(n:Nat)(a c:Pos):Bool:=decide (x=m) && ou o && (a.endLine==c.line) && decide (n<29)
def kL(S:c_)(i:Nat)(x:Str):Bool:=decide (S.N[i]?=some x) && loc S.sc x
section
variable {CX:cb}{S:c_}{Γ:bo}{X:Cx}{e e2 a b c d:Expr}{es:List Expr}{x:Str}{p q pos:Pos}{r ra rb rc:RE}{rs:List RE}{i j:Nat}
theorem aa(G:Good CX S Γ X)(h:qV S i x=true:=by kernel_rfl):PE X (.Name x p) (ak Γ<|.v i):=by
 simp only[qV,zab,decide_eq_true_eq,zaK] at h
 exact Sa (G.N▸h.1.1.1) (G.sc▸Wx h.1.1.2) h.1.2 h.2
theorem ao{k:Nat}:PE X (.Constant (.int v) k p) (ak Γ<|.c<|.int v):=Sb
theorem aO{k:Nat}:PE X (.Constant (.str v) k p) (ak Γ<|.c<|.str v):=Sf
theorem fN{k:Nat}:PE X (.Constant (.bool v) k p) (ak Γ<|.c<|.bl v):=Sd
theorem cR:PE X (.Constant .none k p) (ak Γ<|.c .aB):=Se
theorem gQ(G:Good CX S Γ X)(h:kG S j x=true:=by kernel_rfl):PE X (.Name x p) (ak Γ<|.g j):=by
 simp only[kG,zab,decide_eq_true_eq,zaK] at h
 obtain⟨u,hm,r⟩:=G.lO j x h.1.1;exact Ge (G.gl h.1.2) hm r h.2
theorem aG(G:Good CX S Γ X)(ha:PE X a (ak Γ ra))(hb:PE X b (ak Γ rb)):PE X (.BinOp a op b p) (ak Γ<|.bin op ra rb):=by
 show PE X _ (fI (lJ Γ.K op) (ak Γ ra)<|ak Γ rb);rw[<-G.K];exact SM (VV op) ha hb
theorem i0(ha:PE X a (ak Γ ra)):PE X (.UnaryOp .USub a p) (ak Γ<|.neg ra):=SN Yl ha
theorem dG(G:Good CX S Γ X)(ha:PE X a (ak Γ ra))(hb:PE X b (ak Γ rb))(hm:behindInMarks op b=false:=by kernel_rfl):PE X (.Compare a [op] [b] p) (ak Γ<|.cmp op ra rb):=by
 show PE X _ (fI (bX Γ.K op) (ak Γ ra)<|ak Γ rb);rw[<-G.K];exact Tf (se G.units op) ha hb hm
theorem Yx(G:Good CX S Γ X)(ha:PE X a (ak Γ ra))(hb:PE X b (ak Γ rb))(hc:PE X c (ak Γ rc))(hm:lastMarks [op,cJ] [b,c]=false:=by kernel_rfl):PE X (.Compare a [op,cJ] [b,c] p) (ak Γ<|.lL op cJ ra rb rc):=by
 show PE X _ (rW (bX Γ.K op) (bX Γ.K cJ) (ak Γ ra) (ak Γ rb)<|ak Γ rc);rw[<-G.K];exact Th (se G.units op) (se G.units cJ) ha hb hc hm
theorem ic(h:PE X e (ak Γ r)):PE X (.BoolOp .And [e] p) (ak Γ<|.and [r]):=Gm h
theorem gB(h:PE X e (ak Γ r))(t:PE X (.BoolOp .And (e2::es) p) (ak Γ<|.and (r2::rs))):PE X (.BoolOp .And (e::e2::es) p) (ak Γ<|.and (r::r2::rs)):=Sh h t
theorem yJ(h:PE X e (ak Γ r)):PE X (.BoolOp .Or [e] p) (ak Γ<|.or [r]):=Gm h
theorem yK(h:PE X e (ak Γ r))(t:PE X (.BoolOp .Or (e2::es) p) (ak Γ<|.or (r2::rs))):PE X (.BoolOp .Or (e::e2::es) p) (ak Γ<|.or (r::r2::rs)):=Si h t
theorem Cp(G:Good CX S Γ X)(ha:PE X a (ak Γ ra)):PE X (.UnaryOp .Not a p) (ak Γ<|.not ra):=by
 show PE X _ (BO Γ.K<|ak Γ ra);rw[<-G.K];exact Ym ha
theorem vf(hc:PT X c (bD Γ rc))(ha:PE X a (ak Γ ra))(hb:PE X b (ak Γ rb)):PE X (.IfExp c a b p) (ak Γ<|.oh rc ra rb):=Sj hc ha hb
theorem Yy:PE X (.Dict [] [] p) (ak Γ .yt):=X5
theorem ah:PA X [] (aW Γ []):=pS
theorem ae(h:PE X e (ak Γ r))(t:PA X es (aW Γ rs))(hs:noStar e=true:=by kernel_rfl):PA X (e::es) (aW Γ (r::rs)):=lA h t (dv hs)
theorem aD(G:Good CX S Γ X)(hA:PA X (e::es) (aW Γ (r::rs)))(h:kF S j x=true:=by kernel_rfl)(hn:fg (e::es)=true:=by kernel_rfl)(hq:S.md=0:=by rfl):PE X (.Call (.Name x p) (e::es) [] pos) (ak Γ<|.call j (r::rs)):=by
 simp only[kF,zab,decide_eq_true_eq,zaK] at h
 obtain⟨k,f,fd,ps,zq⟩:=qx4 (G.fns hq j x h.1.1);obtain⟨F,hr,hm,hk,hb⟩:=qa5 zq;exact T_ F hr (G.gl h.1.2) hm hk hb .nil G.pass hA h.2 (dv (cG hn).1)<|ib _ _ es (cG hn).2
theorem Yz(G:Good CX S Γ X)(h:kK S j x=true:=by kernel_rfl)(hq:S.md=0:=by rfl):PE X (.Call (.Name x p) [] [] pos) (ak Γ<|.make j []):=by
 simp only[kK,zab,decide_eq_true_eq,zaK] at h
 obtain⟨k,f,fd,ps,zq⟩:=qx4 (G.mX hq j x h.1.1);obtain⟨M,F,hr,hm,hb⟩:=qa5 zq;exact Ub M F hr (G.gl h.1.2) hm hb .nil G.pass h.2
theorem Jr(G:Good CX S Γ X)(hA:PA X (e::es) (aW Γ (r::rs)))(h:kK S j x=true:=by kernel_rfl)(hn:fg (e::es)=true:=by kernel_rfl)(hq:S.md=0:=by rfl):PE X (.Call (.Name x p) (e::es) [] pos) (ak Γ<|.make j (r::rs)):=by
 simp only[kK,zab,decide_eq_true_eq,zaK] at h
 obtain⟨k,f,fd,ps,zq⟩:=qx4 (G.mX hq j x h.1.1);obtain⟨M,F,hr,hm,hb⟩:=qa5 zq;exact Ua M F hr (G.gl h.1.2) hm hb .nil G.pass hA h.2 (dv (cG hn).1)<|ib _ _ es (cG hn).2
theorem bJ{t:mM}(G:Good CX S Γ X)(hA:PA X (e::es) (aW Γ (r::rs)))(h:kB S x t.nm=true:=by kernel_rfl)(hn:fg (e::es)=true:=by kernel_rfl)(hq:S.md=0:=by rfl):PE X (.Call (.Name x p) (e::es) [] pos) (ak Γ<|.blt t (r::rs)):=by
 simp only[kB,zab,decide_eq_true_eq] at h
 obtain⟨⟨rfl,h2⟩,h3⟩:=h;have n1:t.nm≠"__name__":=by cases t<;>decide
 have n2:(t.nm==("__debug__":Str))=false:=by cases t<;>decide
 show PE X _ (eT (oj Γ.K t)<|aW Γ (r::rs));rw[<-G.K];cases X6 (G.calm hq) t with
 |fn id hv hc=>exact nW hc (G.gl h2) (G.eP _ h3) hv hA n1 n2 (dv (cG hn).1) (ib _ _ es (cG hn).2)
 |ty T hv hc=>exact Ud hc (G.gl h2) (G.eP _ h3) hv hA n1 n2 (dv (cG hn).1) (ib _ _ es (cG hn).2)
theorem fh{T:Ty}{y:Str}(G:Good CX S Γ X)(ha:PE X a (ak Γ ra))(h:kB S x "isinstance"=true:=by kernel_rfl)(h2:kB S y (Str.ofString T.nm)=true:=by kernel_rfl)(hs:noStar a=true:=by kernel_rfl):PE X (.Call (.Name x p) [a,.Name y q] [] pos) (ak Γ<|.dr T ra):=by
 simp only[kB,zab,decide_eq_true_eq] at h h2
 obtain⟨⟨rfl,g2⟩,g3⟩:=h;obtain⟨⟨rfl,k2⟩,k3⟩:=h2;exact Yh ha hs (G.gl g2) (G.eP _ g3) (G.gl k2)<|G.eP _ k3
theorem ie(G:Good CX S Γ X)(ha:PE X a (ak Γ ra))(hb:PE X b (ak Γ rb))(h:kB S x "isinstance"=true:=by kernel_rfl)(hn:fg [a,b]=true:=by kernel_rfl):PE X (.Call (.Name x p) [a,b] [] pos) (ak Γ<|.dt ra rb):=by
 simp only[kB,zab,decide_eq_true_eq] at h
 obtain⟨⟨rfl,g2⟩,g3⟩:=h;show PE X _ (eT (lK Γ.K)<|dq (ak Γ ra)<|dq (ak Γ rb) gL);rw[<-G.K];exact nW XJ (G.gl g2) (G.eP _ g3) Jg (lA ha (lA hb pS<|dv (cG (cG hn).2).1)<|dv (cG hn).1) (by decide) (rfl) (dv (cG hn).1)<|ib _ _ _ (cG hn).2
theorem YA(G:Good CX S Γ X)(hv:bootBuiltins (Str.ofString n)=some (.type n))(h1:Str.ofString n≠"__name__")(h2:(Str.ofString n==("__debug__":Str))=false)(h:kB S x (Str.ofString n)=true:=by kernel_rfl):PE X (.Name x p) (ak Γ<|.c<|.ty n):=by
 simp only[kB,zab,decide_eq_true_eq] at h
 obtain⟨⟨rfl,g2⟩,g3⟩:=h;exact Gf (G.gl g2) (G.eP _ g3) hv rfl h1 h2
def kH(S:c_)(j:Nat)(x:Str):Bool:=decide (S.hn[j]?=some x) && mO S.sc x && !(x==("__debug__":Str))
theorem YB(G:Good CX S Γ X)(ha:PE X a (ak Γ ra))(h:kH S j x=true:=by kernel_rfl)(hs:noStar a=true:=by kernel_rfl):PE X (.Call (.Name x p) [a] [] pos) (ak Γ<|.yr j ra):=by
 simp only[kH,zab,decide_eq_true_eq,zaK] at h
 obtain⟨k,f,fd,ps,zq⟩:=qx4 (G.mY j x h.1.1);obtain⟨F,hr,hm,hk,hb⟩:=qa5 zq;exact XR F hr (G.gl h.1.2) hm hk hb G.oz ha hs h.2
theorem yL{o:Expr}{ro:RE}{ap:Pos}(G:Good CX S Γ X)(ho:PE X o (ak Γ ro))(h:kM o m.nm x 0 ap pos=true:=by kernel_rfl):PE X (.Call (.Attribute o x ap) [] [] pos) (ak Γ<|.bq m ro []):=by
 simp only[kM,zab,decide_eq_true_eq] at h
 obtain⟨⟨⟨rfl,h2⟩,h3⟩, -⟩:=h;show PE X _ (sj Γ.K m (ak Γ ro) gL);rw[<-G.K];exact Yo ho h2 h3
theorem bU{m:iW}{o:Expr}{ro:RE}{ap:Pos}(G:Good CX S Γ X)(ho:PE X o (ak Γ ro))(hA:PA X (e::es) (aW Γ (r::rs)))(h:kM o m.nm x (es.length+1) ap pos=true:=by kernel_rfl)(hn:fg (e::es)=true:=by kernel_rfl):PE X (.Call (.Attribute o x ap) (e::es) [] pos) (ak Γ<|.bq m ro (r::rs)):=by
 simp only[kM,zab,decide_eq_true_eq] at h
 obtain⟨⟨⟨rfl,h2⟩,h3⟩,h4⟩:=h;show PE X _ (sj Γ.K m (ak Γ ro)<|aW Γ (r::rs));rw[<-G.K];exact Yn ho hA h2 h3 h4 (dv (cG hn).1) (ib _ _ es (cG hn).2)<|Ck _ _ (e::es) hn
theorem eV{ro:RE}(G:Good CX S Γ X)(ho:PE X a (ak Γ ro))(h:ou a=true:=by kernel_rfl):PE X (.Attribute a f p) (ak Γ<|.fld ro f):=by
 show PE X _ (xQ Γ.K (ak Γ ro) f);rw[<-G.K];exact TN ho<|pW h
theorem m8{o:Expr}{ro:RE}{ap:Pos}(G:Good CX S Γ X)(ho:PE X o (ak Γ ro))(h:(kM o m m 0 ap pos && decide (S.mn[j]?=some m))=true:=by kernel_rfl)(hq:S.md=0:=by rfl):PE X (.Call (.Attribute o m ap) [] [] pos) (ak Γ<|.du j m ro []):=by
 simp only[kM,zab,decide_eq_true_eq] at h
 obtain⟨⟨⟨⟨-,h2⟩,h3⟩, -⟩,h5⟩:=h;exact Yr (G.mW hq j _ h5) G.pass ho h2 h3
theorem oA{o:Expr}{ro:RE}{ap:Pos}(G:Good CX S Γ X)(ho:PE X o (ak Γ ro))(hA:PA X (e::es) (aW Γ (r::rs)))(h:(kM o m m (es.length+1) ap pos && decide (S.mn[j]?=some m))=true:=by kernel_rfl)(hn:fg (e::es)=true:=by kernel_rfl)(hq:S.md=0:=by rfl):PE X (.Call (.Attribute o m ap) (e::es) [] pos) (ak Γ<|.du j m ro (r::rs)):=by
 simp only[kM,zab,decide_eq_true_eq] at h
 obtain⟨⟨⟨⟨-,h2⟩,h3⟩,h4⟩,h5⟩:=h;exact Yq (G.mW hq j _ h5) G.pass ho hA h2 h3 h4 (dv (cG hn).1) (ib _ _ es (cG hn).2)<|Ck _ _ (e::es) hn
theorem YC(h:Co b=true):Ho b:=λo i=>by cases b<;>first|rfl|cases h
theorem az(G:Good CX S Γ X)(ha:PE X a (ak Γ ra))(hb:PE X b (ak Γ rb))(h:Co b=true:=by kernel_rfl):PE X (.Subscript a b p) (ak Γ<|.ix ra rb):=by
 show PE X _ (fI (oo Γ.K Γ.sd) (ak Γ ra)<|ak Γ rb);rw[<-G.K];exact Uu (Ya G.mV) ha hb<|YC h
theorem ig{lo hi:Option Expr}{rl rh:Option RE}(G:Good CX S Γ X)(ha:PE X a (ak Γ ra))(hl:PO X lo (ot Γ rl))(hh:PO X hi (ot Γ rh)):PE X (.Subscript a (.Slice lo hi none q) p) (ak Γ<|.sl ra rl rh):=by
 show PE X _ (Bl (sk Γ.K) (ak Γ ra) (ot Γ rl)<|ot Γ rh);rw[<-G.K];exact Uq Yk ha hl hh
theorem lQ:PO X none (ot Γ none):=Um
theorem fi(ha:PE X a (ak Γ ra)):PO X (some a) (ot Γ<|some ra):=Uo ha
theorem bw(hA:PA X es (aW Γ rs)):PE X (.Tuple es k p) (ak Γ<|.tup rs):=TX hA
theorem bz(hA:PA X es (aW Γ rs)):PE X (.List es p) (ak Γ<|.lst rs):=TY hA
def yM(CX:cb)(S:c_)(Γ:bo)(cond:Option RE)(ifs:List Expr):Prop:=match cond with
 |none=>ifs=[]
 |some r=>∃e0,ifs=[e0]/\∀X,Good CX S Γ X->PT X e0 (bD Γ r)
theorem qk:yM CX S Γ none []:=rfl
theorem vg(h:∀X,Good CX S Γ X->PT X e (bD Γ r)):yM CX S Γ (some r) [e]:=⟨e,rfl,h⟩
def kC(S:c_)(tk:Option Nat)(tg iter:Expr)(sc:Scope)(k:IK)(ln:List Str)(fv:List (Str×Nat)):Bool:=decide (BV tk tg=some ln) && (decide (k≠ .zip)||tk.isSome) && BW S ⟨.Constant .none 0 ⟨0,0,0,0⟩,tg,iter,[],sc⟩ ln fv
abbrev cS(S:c_)(sc:Scope)(ln:List Str)(fv:List (Str×Nat)):c_:={S with N:=ln++fv.map (·.1),sc:=BU sc S.sc,en:=[],md:=if S.md=0 then 0 else 2}
theorem kg{k:IK}{its:List RE}{cond:Option RE}{elt:RE}{el tg iter:Expr}{ifs:List Expr}{sc:Scope}{ln:List Str}(G:Good CX S Γ X)(h:kC S tk tg iter sc k ln fv=true)(hi:PI X tg iter (jC Γ k its))
  (hc:yM CX (cS S sc ln fv) Γ.calm cond ifs) (he:∀X,Good CX (cS S sc ln fv) Γ.calm X->PE X el (ak Γ.calm elt)) (hq:S.md=0:=by rfl):PE X (.ListComp el [⟨tg,iter,ifs,0⟩] sc p) (ak Γ<|.comp tk fv k its cond elt):=by
 simp only[kC,zab,decide_eq_true_eq] at h
 obtain⟨⟨h1,h2⟩,h3⟩:=h;obtain⟨o1,o2,o3,o4⟩:=Jf G h3;show PE X _ (r9 Γ.K (jC Γ k its) tk fv (yw Γ.calm cond)<|ak Γ.calm elt);rw[<-G.K];refine VP o1 (G.calm hq) hi (XS (G.calm hq) h1 o2 o3) ?_ (λex C s H=>he _<|G.inner ⟨.Constant .none 0 ⟨0,0,0,0⟩,tg,iter,[],sc⟩ ln fv ex C s H)<|yG o4;cases cond with
 |none=>exact hc
 |some r=>
  obtain⟨e0,q,hq⟩:=hc;exact⟨e0,q,λex C s H=>hq _<|G.inner ⟨.Constant .none 0 ⟨0,0,0,0⟩,tg,iter,[],sc⟩ ln fv ex C s H⟩
theorem cH(h:PT X a (bD Γ ra)):PT X (.UnaryOp .Not a p) (bD Γ<|.not ra):=Sg h
theorem sI(h:PT X e (bD Γ r)):PW X (.BoolOp .And [e] p) (bD Γ<|.and [r]):=pw_and1 h
theorem sJ(h:PT X e (bD Γ r))(t:PW X (.BoolOp .And (e2::es) p) (bD Γ<|.and (r2::rs))):PW X (.BoolOp .And (e::e2::es) p) (bD Γ<|.and (r::r2::rs)):=pw_and h t
theorem gR(h:PT X e (bD Γ r)):PW X (.BoolOp .Or [e] p) (bD Γ<|.or [r]):=pw_or1 h
theorem eQ(h:PT X e (bD Γ r))(t:PW X (.BoolOp .Or (e2::es) p) (bD Γ<|.or (r2::rs))):PW X (.BoolOp .Or (e::e2::es) p) (bD Γ<|.or (r::r2::rs)):=pw_or h t
theorem aX(G:Good CX S Γ X)(ha:PE X a (ak Γ ra))(hb:PE X b (ak Γ rb))(hm:behindInMarks op b=false:=by kernel_rfl):PT X (.Compare a [op] [b] p) (bD Γ<|.cmp op ra rb):=by
 show PT X _ (nS<|fI (bX Γ.K op) (ak Γ ra)<|ak Γ rb);rw[<-G.K];exact Tg (se G.units op) ha hb hm
theorem YD(G:Good CX S Γ X)(ha:PE X a (ak Γ ra))(hb:PE X b (ak Γ rb))(hc:PE X c (ak Γ rc))(hm:lastMarks [op,cJ] [b,c]=false:=by kernel_rfl):PT X (.Compare a [op,cJ] [b,c] p) (bD Γ<|.lL op cJ ra rb rc):=by
 show PT X _ (nS<|rW (bX Γ.K op) (bX Γ.K cJ) (ak Γ ra) (ak Γ rb)<|ak Γ rc);rw[<-G.K];exact Ti (se G.units op) (se G.units cJ) ha hb hc hm
theorem Js(G:Good CX S Γ X)(h:PE X (.Name x p) (ak Γ<|.v i)):PT X (.Name x p) (bD Γ<|.v i):=by
 show PT X _ (gg Γ.K<|ak Γ<|.v i);rw[<-G.K];exact vc h λ_=>rfl
theorem eW(G:Good CX S Γ X)(h:PE X (.Call a es [] p) (ak Γ<|.call j rs)):PT X (.Call a es [] p) (bD Γ<|.call j rs):=by
 show PT X _ (gg Γ.K<|ak Γ<|.call j rs);rw[<-G.K];exact vc h λ_=>rfl
theorem Jt(G:Good CX S Γ X)(h:PE X (.Call a es [] p) (ak Γ<|.dt ra rb)):PT X (.Call a es [] p) (bD Γ<|.dt ra rb):=by
 show PT X _ (gg Γ.K<|ak Γ<|.dt ra rb);rw[<-G.K];exact vc h λ_=>rfl
theorem jI(G:Good CX S Γ X)(h:PE X (.Call a es [] p) (ak Γ<|.dr T ra)):PT X (.Call a es [] p) (bD Γ<|.dr T ra):=by
 exact vc h λ_=>rfl
theorem fP(G:Good CX S Γ X)(ha:PE X a (ak Γ ra)):PI X tg a (jC Γ .list [ra]):=by
 show PI X tg a (ux Γ.K<|ak Γ ra);rw[<-G.K];exact SE ha
theorem yN{tg:Expr}(G:Good CX S Γ X)(ha:PE X a (ak Γ ra))(h:kB S x "range"=true:=by kernel_rfl)(hs:noStar a=true:=by kernel_rfl):PI X tg (.Call (.Name x p) [a] [] pos) (jC Γ .gZ [ra]):=by
 simp only[kB,zab,decide_eq_true_eq] at h
 obtain⟨⟨rfl,h2⟩,h3⟩:=h;exact SI (G.gl h2) (G.eP _ h3) (lA ha pS<|dv hs)<|dv hs
theorem Ju{ts:List Expr}{k}{tp:Pos}(G:Good CX S Γ X)(ha:PE X a (ak Γ ra))(h:kB S x "enumerate"=true:=by kernel_rfl)(hs:noStar a=true:=by kernel_rfl):PI X (.Tuple ts k tp) (.Call (.Name x p) [a] [] pos) (jC Γ .yq [ra]):=by
 simp only[kB,zab,decide_eq_true_eq] at h
 obtain⟨⟨rfl,h2⟩,h3⟩:=h;show PI X _ _ (BP Γ.K<|dq (ak Γ ra)<|aW Γ []);rw[<-G.K];exact WK (G.gl h2) (G.eP _ h3) (lA ha pS<|dv hs)<|dv hs
theorem vh{ts:List Expr}{k}{tp:Pos}(G:Good CX S Γ X)(ha:PE X a (ak Γ ra))(hb:PE X b (ak Γ rb))(h:kB S x "zip"=true:=by kernel_rfl)(hn:fg [a,b]=true:=by kernel_rfl):PI X (.Tuple ts k tp) (.Call (.Name x p) [a,b] [] pos) (jC Γ .zip [ra,rb]):=by
 simp only[kB,zab,decide_eq_true_eq] at h
 obtain⟨⟨rfl,h2⟩,h3⟩:=h;show PI X _ _ (BQ Γ.K<|dq (ak Γ ra)<|aW Γ [rb]);rw[<-G.K];exact WD (G.gl h2) (G.eP _ h3) (lA ha (lA hb pS<|dv (cG (cG hn).2).1)<|dv (cG hn).1) (dv (cG hn).1)<|ib _ _ _ (cG hn).2
end
section
variable {CX:cb}{S:c_}{Γ:bo}{X:Cx}{e a b c v:Expr}{es:List Expr}{x:Str}{p q pos:Pos}{r ra rb rc:RE}{i j:Nat}{st:Stmt}{Jv:List Stmt}{s:RS}{ss t u:List RS}
theorem yO{t:Option Expr}{l:Nat}{env:Env}(h:vd v=true):swapsWith v t l env=pure false:=by
 cases v<;>first|rfl|cases h
theorem YE{x:Str}{p:Pos}{l:Nat}{env:Env}(h:env.kindOf x=some .cell):swapsWith v (some<|.Name x p) l env=pure false:=by
 cases v<;>first
  |rfl
  |(unfold swapsWith;simp only[h];have q:(some NameKind.cell==some NameKind.local)=false:=rfl;simp only[q,Bool.and_false,Bool.false_and])
theorem YF{i:Expr}{p:Pos}{l:Nat}{env:Env}:swapsWith v (some<|.Subscript o i p) l env=pure false:=by
 cases v<;>rfl
theorem YG{i:Expr}{p:Pos}{env:Env}:swappedStores [.Subscript o i p] v env=pure none:=rfl
theorem dF.name(G:dF CX S Γ X)(h:kL S i x=true):PG X (.Name x p) (eS i):=by
 simp only[kL,zab,decide_eq_true_eq] at h
 exact rS (G.N▸G.nd) (G.N▸h.1) (G.sc▸BS h.2)<|.inl<|G.m7 x
theorem aq:dD X [] (aE Γ []):=Gq
theorem ai(h:PS X st (bM Γ s))(t:dD X Jv (aE Γ ss)):dD X (st::Jv) (aE Γ (s::ss)):=Sl h t
theorem aJ(G:dF CX S Γ X)(he:PE X v (ak Γ r))(h:kL S i x=true:=by kernel_rfl)(hc:(vd v ||decide (S.sc.names.lookup x=some .cell))=true:=by kernel_rfl):PS X (.Assign [.Name x p] v q) (bM Γ<|.asg i r):=by
 simp only[kL,zab,decide_eq_true_eq,Bool.or_eq_true] at h hc
 refine Sx (G.N▸G.nd) (G.N▸h.1) (G.sc▸BS h.2) he ?_<|.inl<|G.m7 x
 rcases hc with h4|h4
 ·exact yO h4
 ·exact YE (by show X.env.scope.names.lookup x=_;rw[G.sc];exact h4)
theorem YH{cond:Option RE}{elt:RE}{el iter:Expr}{ifs:List Expr}{sc:Scope}{n1 n2:Str}{p1 p2 tp:Pos}{kt}{pc:Pos}(G:dF CX S Γ X)(h0:kL S i x=true)(hs:Jq S.sc x p.line sc pc=true)(h:kC S (some 2) (.Tuple [.Name n1 p1,.Name n2 p2] kt tp) iter sc .list [n1,n2] fv=true)(hi:PE X iter (ak Γ ra))
  (hc:yM CX (cS S sc [n1,n2] fv) Γ.calm cond ifs) (he:∀X,Good CX (cS S sc [n1,n2] fv) Γ.calm X->PE X el (ak Γ.calm elt)) (hq:S.md=1:=by rfl):PS X (.Assign [.Name x p] (.ListComp el [⟨.Tuple [.Name n1 p1,.Name n2 p2] kt tp,iter,ifs,0⟩] sc pc) q) (bM Γ<|.yu i<|.comp (some 2) fv .list [ra] cond elt):=by
 simp only[kC,kL,Jq,zab,decide_eq_true_eq,beq_iff_eq,zaK] at h h0 hs
 obtain⟨⟨h1,h2⟩,h3⟩:=h;obtain⟨o1,o2,o3,o4⟩:=Jf G.toGood h3;show PS X _ (k_ (r9 Γ.K (ux Γ.K<|ak Γ ra) (some 2) fv (yw Γ.calm cond)<|ak Γ.calm elt)<|eS i);rw[<-G.K];refine VL (G.N▸G.nd) (G.N▸h0.1) (G.sc▸BS h0.2) ?_ o1 XI (λ_ _ _ _ I=>(G.qe hq).at I) (XF hi) (XH (o2 n1 (by simp)) (o2 n2 (by simp)) o3) ?_ (λex C s H=>he _<|G.toGood.inner ⟨.Constant .none 0 ⟨0,0,0,0⟩,.Tuple [.Name n1 p1,.Name n2 p2] kt tp,iter,[],sc⟩ [n1,n2] fv ex C s H) (yG o4)<|.inl<|G.m7 x
 ·have e1:X.env.kindOf x=some .local:=by show X.env.scope.names.lookup x=_;rw[G.sc];exact hs.1.1.2
  have e2:X.env.blockKind=.function:=by unfold Env.blockKind;rw[G.qg];rfl
  unfold swapsWith
  simp only[e1,e2,hs.1.2,hs.2]
  show pure (true && true && (pc.line==pc.line) && !false)=pure true;rw[beq_self_eq_true];rfl
 ·cases cond with
  |none=>exact hc
  |some r=>
   obtain⟨e0,q,hq⟩:=hc;exact⟨e0,q,λex C s H=>hq _<|G.toGood.inner ⟨.Constant .none 0 ⟨0,0,0,0⟩,.Tuple [.Name n1 p1,.Name n2 p2] kt tp,iter,[],sc⟩ [n1,n2] fv ex C s H⟩
theorem yP(he:PE X v (ak Γ r))(ha:PE X a (ak Γ ra))(hb:PE X b (ak Γ rb))(h:Co b=true:=by kernel_rfl):PS X (.Assign [.Subscript a b p] v q) (bM Γ<|.set ra rb r):=
 GA he (Sw ha hb set_list (by intro w;cases b<;>first|rfl|cases h)) (by exact YF (o:=a) (i:=b) (p:=p) (l:=q.line) (env:=X.env)) YG rfl
theorem qm(G:dF CX S Γ X)(ho:PE X a (ak Γ ra))(he:PE X v (ak Γ r))(h:vd v=true:=by kernel_rfl):PS X (.Assign [.Attribute a f p] v q) (bM Γ<|.lM ra f r):=by
 show PS X _ (Bb Γ.K (ak Γ ra) (ak Γ r) f);rw[<-G.K];exact TQ ho he<|yO h
theorem bQ(he:PE X v (ak Γ r))(h:vd v=true:=by kernel_rfl):PS X (.Expr v p) (bM Γ<|.drop r):=So he (yO h)
theorem aN(he:PE X v (ak Γ r)):PS X (.Return (some v) p) (bM Γ<|.ret r):=Sq he
theorem aZ(hc:PT X c (bD Γ rc))(ha:dD X as (aE Γ t))(hb:dD X bs (aE Γ u)):PS X (.If c as bs p) (bM Γ<|.ite rc t u):=Su hc ha hb
theorem Cq(G:dF CX S Γ X)(hc:PT X c (bD Γ rc))(ha:dD X as (aE Γ t)):PS X (.While c as [] p) (bM Γ<|.si rc t):=Sy G.own hc ha
theorem oB{iter:Expr}{as:List Stmt}(G:dF CX S Γ X)(hi:PI X (.Name x p) iter (jC Γ k its))(ha:dD X as (aE Γ t))(h:kL S i x=true:=by kernel_rfl)(hs:uR iter=true:=by kernel_rfl)(hq:S.md=0:=by rfl):PS X (.For (.Name x p) iter as [] q) (bM Γ<|.jA i k its t):=
 GF G.own (G.calm hq) hi (G.name h) ha (yG hs)
theorem Cr(G:dF CX S Γ X):∀(is:List Nat) (xs:List (Str×Pos)),qf S.N S.sc is (xs.map (·.1))=true->
  pM X (xs.map λy=>.Name y.1 y.2) (jH is)/\(assignEach (xs.map λy=>Expr.Name y.1 y.2) X.env).length=is.length/\(assignEach (xs.map λy=>Expr.Name y.1 y.2) X.env).findIdx? (·.1)=none
 |[],xs,h=>by
  simp only[qf,List.isEmpty_iff,List.map_eq_nil_iff] at h
  subst h;exact⟨AW,rfl,rfl⟩
 |i::r,[],h=>by cases h
 |i::r,y::t,h=>by
  simp only[zaM,qf,zab] at h
  obtain⟨i1,i2,i3⟩:=Cr G r t h.2;refine⟨uv (G.name (by simp only[kL,zab];exact h.1)) i1 rfl,?_,?_⟩
  ·show(assignEach _ X.env).length+1=r.length+1;rw[i2]
  ·show List.findIdx? (·.1) ((false,assign (.Name y.1 y.2) X.env)::assignEach _ X.env)=none;rw[List.findIdx?_cons,i3];rfl
theorem kh{k:IK}{its:List RE}{iter:Expr}{as:List Stmt}{kt}{tp:Pos}(xs:List (Str×Pos))(G:dF CX S Γ X)(hi:PI X (.Tuple (xs.map λy=>.Name y.1 y.2) kt tp) iter (jC Γ k its))(ha:dD X as (aE Γ t))(h:qf S.N S.sc is (xs.map (·.1))=true:=by kernel_rfl)(hs:uR iter=true:=by kernel_rfl)(hq:S.md=0:=by rfl):
  PS X (.For (.Tuple (xs.map λy=>.Name y.1 y.2) kt tp) iter as [] q) (bM Γ<|.hX is k its t):=by
 obtain⟨i1,i2,i3⟩:=Cr G is xs h;show PS X _ (xF (jC Γ k its) (ke Γ.K is.length<|jH is)<|aE Γ t);rw[<-G.K];exact GF G.own (G.calm hq) hi (Jp (G.calm hq) i1 i2 i3) ha<|yG hs
def YI:Expr->Bool
 |.Tuple ..=>false|_=>true
theorem yQ{kt}{tp:Pos}(xs:List (Str×Pos))(G:dF CX S Γ X)(he:PE X v (ak Γ r))(h:qf S.N S.sc is (xs.map (·.1))=true:=by kernel_rfl)(hc:(vd v && YI v)=true:=by kernel_rfl)(hq:S.md=0:=by rfl):
  PS X (.Assign [.Tuple (xs.map λy=>.Name y.1 y.2) kt tp] v q) (bM Γ<|.oi is r):=by
 simp at hc
 obtain⟨i1,i2,i3⟩:=Cr G is xs h;show PS X _ (k_ (ak Γ r)<|ke Γ.K is.length<|jH is);rw[<-G.K];refine GA he (Jp (G.calm hq) i1 i2 i3) (by show swapsWith v (some<|.Tuple (xs.map λy=>Expr.Name y.1 y.2) kt tp) q.line X.env=pure false;exact yO hc.1) ?_ rfl
 cases v<;>first|rfl|cases hc.2
def kX(S:c_)(j:Nat)(x:Str):Bool:=decide (S.en[j]?=some x) && mO S.sc x && !(x==("__debug__":Str))
theorem jJ{np d0:Pos}(G:dF CX S Γ X)(hA:PA X (e::es) (aW Γ (r::rs)))(h:kX S j x=true:=by kernel_rfl)(hn:fg (e::es)=true:=by kernel_rfl)(hq:S.md=0:=by rfl):PS X (.Raise (some<|.Call (.Name x np) (e::es) [] d0) none pos) (bM Γ<|.iG j (r::rs)):=by
 simp only[kX,zab,decide_eq_true_eq,zaK] at h
 obtain⟨bm,B,newId,so,O,FB⟩:=G.sy j x h.1.1;exact Xh (G.calm hq) O FB (G.gl h.1.2) h.2 hA (dv (cG hn).1) (ib _ _ es (cG hn).2)<|G.rs j x h.1.1
abbrev tS(S:c_):c_:={S with en:=[]}
abbrev hS(S:c_):c_:={S with en:=[],md:=2}
theorem dF.YJ(G:dF CX S Γ X)(pn:List (Addr×Obj))(xe:Value->Shared->Prop)(E:XK)(ho:PassesOwn (model X.prog X.w) X.A X.env xe)(hp:Passes (e_ X.prog X.w) (X.alt X.A X.calm pn xe) E):
  dF CX (tS S) {Γ with E:=E} (X.alt X.A X.calm pn xe):=
 {N:=G.N,sc:=G.sc,K:=G.K,calm:=G.calm,units:=G.units,gd:=G.gd,fns:=G.fns,lO:=G.lO,eP:=G.eP,pass:=G.qj▸hp,lP:=G.lP,mV:=G.mV,mW:=G.mW,mX:=G.mX,
  sy:=λ_ _ h=>(by simp at h),mY:=G.mY,oz:=G.oz,qe:=G.qe,nd:=G.nd,m7:=G.m7,own:=ho,qg:=G.qg,rs:=λ_ _ h=>(by simp at h),jv:=G.jv,gP:=G.gP,qh:=G.qh,qj:=G.qj}
theorem dF.held(G:dF CX S Γ X)(ea:Addr)(pn:List (Addr×Obj)):
  dF CX (hS S) {Γ with E:=E0,hv:=some ea} (X.alt (X.A.mark<|some<|.ref ea) false pn λ_ _=>False):=
 {N:=G.N,sc:=G.sc,K:=G.K,calm:=λh=>(nomatch h),units:=G.units,gd:=G.gd,fns:=λh=>(nomatch h),lO:=G.lO,eP:=G.eP,pass:=λ_ _ _ _ _ _ _ h=>(G.lP _ _ _ _ _ h).elim,lP:=G.lP,mV:=G.mV,mW:=λh=>(nomatch h),mX:=λh=>(nomatch h),
  sy:=λ_ _ h=>(by simp at h),mY:=λj x h=>(by
   obtain⟨k,f,fd,ps,zq⟩:=qx4 (G.mY j x h);obtain⟨F,r,m⟩:=qa3 zq;exact⟨k,f,fd,ps,F,r.mark _,m⟩),
  oz:=λe h=>(by cases h;rfl),qe:=λh=>(nomatch h),nd:=G.nd,m7:=G.m7,own:=PassesOwn.never,qg:=G.qg,rs:=λ_ _ h=>(by simp at h),jv:=G.jv,gP:=G.gP,qh:=G.qh,qj:=G.qj}
theorem YK{np sq:Pos}{body su:List Stmt}{b₀:Stmt}{rb vi:List RS}(G:dF CX S Γ X)(h:kG S j x=true)(hn:(decide (S.N.length=n) && decide (S.N[i]?=some y) && decide (S.sc.names.lookup y=some .local))=true)
  (hb:∀{Γ:bo}{X:Cx},dF CX (tS S) Γ X->dD X body (aE Γ rb)) (hs:∀{Γ:bo}{X:Cx},dF CX (hS S) Γ X->dD X (b₀::su) (aE Γ vi)):
  PS X (.Try body [.ExceptHandler (some<|.Name x np) (some y) (b₀::su) sq] [] [] pos) (bM Γ<|.BN n i j rb vi):=by
 simp only[kG,zab,decide_eq_true_eq,zaK] at h hn
 obtain⟨u,hm,hu⟩:=G.lO j x h.1.1;intro pins s σ H D I q;obtain⟨C,e,q⟩:=(show ∃C,Γ.gv j=.ref C/\yp Γ.K C i n (λE=>aE {Γ with E:=E} rb) (λea=>aE {Γ with E:=E0,hv:=some ea} vi) D σ H from q)
 rw[e] at hu;subst hu;have hl:=G.N▸hn.1.1
 have q':yp X.K C i X.N.length (λE=>aE {Γ with E:=E} rb) (λea=>aE {Γ with E:=E0,hv:=some ea} vi) D σ H:=by rw[G.K,hl];exact q
 exact Xk G.jv G.gP G.qh (G.gl h.1.2) h.2 hm (G.N▸G.nd) (G.N▸hn.1.2) (G.sc▸hn.2)
  (λpn xe E ho hp=>hb<|G.YJ pn xe E ho hp) (λea pn=>hs<|G.held ea pn) pins s σ H D I q'
theorem YM:PS X (.Continue p) (bM Γ .cont):=Sn
end
section
variable {P:Program}{w:World}{K:Frag}{mg:Str->Option Value}{base:Heap}
def eF(P:Program)(w:World)(K:Frag)(mg:Str->Option Value)(base:Heap)(k:Nat)(x:Str)(sp:Sp):Prop:=
 ∃f fd ps,cK P w K mg base (e_ P w) k f fd ps sp/\mg x=some (.ref f)/\PySem.W.keepIn K (.ref f)=true/\Binds K fd ps []
theorem eF.mono{x:Str}{sp:Sp}(h:eF P w K mg base j x sp)(hk:j<=k):eF P w K mg base k x sp:=by
 obtain⟨f,fd,ps,F,r⟩:=h;exact⟨f,fd,ps,F.mono hk,r⟩
def oC(tab:List (Str×Sp))(j:Nat):Sp:=match tab[j]? with
 |some p=>p.2
 |none=>λ_ _ _ _=>False
def qo(tab:List (Str×V))(j:Nat):V:=match tab[j]? with
 |some p=>p.2
 |none=>.aB
structure vj (mg:Str->Option Value) (p:Str×V):Prop where
 ex:∃u,mg p.1=some u/\RelV p.2 u
def lR(tab:List (Str×Addr×Sp))(j:Nat):Addr×Sp:=match tab[j]? with
 |some p=>p.2
 |none=>(0,λ_ _ _ _=>False)
def yR(tab:List (Str×Addr))(j:Nat):Addr:=match tab[j]? with
 |some p=>p.2
 |none=>0
abbrev aL(K:Frag)(tab:List (Str×Sp))(gt:List (Str×V))(dk:List (Addr×List (Key×V)):=[])(mt kt:List (Str×Addr×Sp):=[])(et:List (Str×Addr):=[])(ht:List (Str×Sp):=[])(E:XK:=E0):bo:=
 {K:=K,fs:=oC tab,gv:=qo gt,E:=E,sd:=λp aS=>(p,aS)∈dk,ms:=lR mt,kt:=lR kt,ex:=yR et,hs:=oC ht,hv:=none}
def qp(P:Program)(w:World)(K:Frag)(mg:Str->Option Value)(base:Heap)(k:Nat)(p:Str×Addr×Sp):Prop:=
 gu K p.2.1/\∃f fd ps,Meth K p.2.1 p.1 f/\cK P w K mg base (e_ P w) k f fd ps p.2.2/\Binds K fd ps []
def qt(P:Program)(w:World)(K:Frag)(mg:Str->Option Value)(base:Heap)(k:Nat)(p:Str×Addr×Sp):Prop:=
 ∃j f fd ps,j+1<=k/\Mk K p.2.1 f/\cK P w K mg base (e_ P w) j f fd ps p.2.2/\mg p.1=some (.ref p.2.1)/\Binds K fd ps []
theorem qp.mono{p:Str×Addr×Sp}(h:qp P w K mg base j p)(hk:j<=k):qp P w K mg base k p:=by
 obtain⟨c,f,fd,ps,m,F,b⟩:=h;exact⟨c,f,fd,ps,m,F.mono hk,b⟩
theorem qt.mono{p:Str×Addr×Sp}(h:qt P w K mg base j p)(hk:j<=k):qt P w K mg base k p:=by
 obtain⟨i,f,fd,ps,m,r⟩:=h;exact⟨i,f,fd,ps,zaw m hk,r⟩
def Jw(P:Program)(w:World)(K:Frag)(q:Addr×List (Key×V)):Prop:= ∀h:Heap,K.In h->∃vs,KV q.2 vs/\h.DictOf (kY P w) q.1 vs
abbrev sM(N:List Str)(sc:Scope)(tab:List Str)(gt:List Str)(bl:List Str)(mn kn:List Str:=[])(en hn:List Str:=[])(md:Nat:=0):c_:={N:=N,sc:=sc,fn:=tab,gn:=gt,bl:=bl,mn:=mn,kn:=kn,en:=en,hn:=hn,md:=md}
def yS(mg:Str->Option Value)(base:Heap)(p:Str×Addr):Prop:= ∃bm B newId so,OwnCls p.1 p.2 bm newId mg base/\ExcBaseFacts B newId so bm
def oE(P:Program)(w:World)(K:Frag)(mg:Str->Option Value)(base:Heap)(k:Nat)(x:Str)(sp:Sp):Prop:=
 ∃f fd ps,qd P w K mg base k f fd ps sp/\mg x=some (.ref f)/\PySem.W.keepIn K (.ref f)=true/\Binds K fd ps []
theorem oE.mono{w:World}{K:Frag}{mg:Str->Option Value}{base:Heap}{j k:Nat}{x:Str}{sp:Sp}(h:oE P w K mg base j x sp)(hk:j<=k):oE P w K mg base k x sp:=by
 obtain⟨f,fd,ps,F,r⟩:=h;exact⟨f,fd,ps,F.mono hk,r⟩
theorem YN{st:Stmt}{f:Addr}{fd:FuncData}{N ps:List Str}{k:Nat}{sp:Sp}(F:mG K x qual st f fd)(S:lB N ps (dW st))
  (tab:List (Str×Sp)) (gt:List (Str×V)) (bl:List Str) (mt kt:List (Str×Addr×Sp)) (et:List (Str×Addr)) (ht:List (Str×Sp)) (body:List RS)
  (hm:∀{CX:cb}{Γ:bo}{X:Cx},dF CX (sM N (dW st) (tab.map (·.1)) (gt.map (·.1)) bl (mt.map (·.1)) (kt.map (·.1)) (et.map (·.1)) (ht.map (·.1))) Γ X->dD X (dU st) (aE Γ body))
  (Ct:∀p∈tab,eF P w K mg base k p.1 p.2) (qu:∀p∈gt,vj mg p) (qv:∀y∈bl,mg y=none) (dk:List (Addr×List (Key×V))) (Cv:∀q∈dk,Jw P w K q)
  (Cw:∀p∈mt,qp P w K mg base k p) (Cy:∀p∈kt,qt P w K mg base k p) (het:∀p∈et,yS mg base p) (Cz:∀p∈ht,oE P w K mg base k p.1 p.2)
  (len:∀vs H Q E,sp vs H Q E->vs.length=ps.length)
  (qw:∀vs H Q E,sp vs H Q E->aE (aL K tab gt dk mt kt et ht E) body {nx:=λ_ H'=>Q .aB H',rt:=Q} (start N vs) H):cK P w K mg base (e_ P w) (k+1) f fd ps sp:=by
 obtain⟨oc,od,kV,doc,pm,an,bx,ct,gw,zq⟩:=qx9 F.ex;obtain⟨rfl,lk,gJ⟩:=qa3 zq;refine He lk gJ S len λA outer s H vs Q E hr iU=>⟨_,hm (CX:=e_ P w) ?_,qw vs H Q E iU⟩;refine {N:=rfl,sc:=rfl,K:=rfl,calm:=λ_=>rfl,units:=hr.units,gd:=hr.gd,fns:=λ_ j y hj=>?_,lO:=λj y hj=>?_,eP:=λy hy=>?_,pass:=Xf,lP:=λ_ _ _ _ _ h=>yA h,mV:=λp aS h=>Cv _ h,mW:=λ_ j y hj=>?_,mX:=λ_ j y hj=>?_,sy:=λj y hj=>?_,mY:=λj y hj=>?_,oz:=λ_ h=>(nomatch h),qe:=λh=>(nomatch h),nd:=S.nd,m7:=λ_=>rfl,own:=PassesOwn.leaving,qg:=S.kind,rs:=λ_ _ _=>Xg,jv:=rfl,gP:=rfl,qh:=rfl,qj:=rfl}
 ·have bR:=hj;rw[zaz] at bR;cases q:tab[j]? with
  |none=>rw[q] at bR;cases bR
  |some p=>
   rw[q] at bR;have e:=zap bR;obtain⟨f',qx,qy,F',m',k',b'⟩:=Ct p (zaj q);have es:oC tab j=p.2:=by unfold oC;rw[q]
   show Jb (e_ P w) _ y (oC tab j);rw[es,<-e];exact⟨k,f',qx,qy,F',hr,m',k',b'⟩
 ·have bR:=hj;rw[zaz] at bR;cases q:gt[j]? with
  |none=>rw[q] at bR;cases bR
  |some p=>
   rw[q] at bR;have e:p.1=y:=zap bR;obtain⟨u,h1,h2⟩:=(qu p<|zaj q).ex;have es:qo gt j=p.2:=by unfold qo;rw[q]
   show ∃u,mg y=some u/\RelV (qo gt j) u;rw[es,<-e];exact⟨u,h1,h2⟩
 ·exact qv y (by simpa using hy)
 ·have bR:=hj;rw[zaz] at bR;cases q:mt[j]? with
  |none=>rw[q] at bR;cases bR
  |some p=>
   rw[q] at bR;have e:p.1=y:=zap bR;obtain⟨c,f',qx,qy,m',F',b'⟩:=Cw p (zaj q);have es:lR mt j=p.2:=by unfold lR;rw[q]
   show yE (e_ P w) _ (lR mt j).1 y (lR mt j).2;rw[es,<-e];exact⟨c,k,f',qx,qy,m',F',hr,b'⟩
 ·have bR:=hj;rw[zaz] at bR;cases q:kt[j]? with
  |none=>rw[q] at bR;cases bR
  |some p=>
   rw[q] at bR;have e:p.1=y:=zap bR;obtain⟨i,f',qx,qy,zq⟩:=qx4 (Cy p (zaj q));obtain⟨hi,m',F',g',b'⟩:=qa5 zq;have es:lR kt j=p.2:=by unfold lR;rw[q]
   show Jc (e_ P w) _ y (lR kt j).1 (lR kt j).2;rw[es,<-e];exact⟨i,f',qx,qy,m',F',hr.mono hi,g',b'⟩
 ·have bR:=hj;rw[zaz] at bR;cases q:et[j]? with
  |none=>rw[q] at bR;cases bR
  |some p=>
   rw[q] at bR;have e:=zap bR;have es:yR et j=p.2:=by unfold yR;rw[q]
   show Je _ y (yR et j);rw[es,<-e];exact het p<|zaj q
 ·have bR:=hj;rw[zaz] at bR;cases q:ht[j]? with
  |none=>rw[q] at bR;cases bR
  |some p=>
   rw[q] at bR;have e:p.1=y:=zap bR;obtain⟨f',qx,qy,F',m',k',b'⟩:=Cz p (zaj q);have es:oC ht j=p.2:=by unfold oC;rw[q]
   show Jd _ y (oC ht j);rw[es,<-e];exact⟨k,f',qx,qy,F',hr.h,m',k',b'⟩
theorem YO{st:Stmt}{f:Addr}{fd:FuncData}{N ps:List Str}{k:Nat}{sp:Sp}(F:mG K x qual st f fd)(S:lB N ps (dW st))(j8:mg x=some (.ref f))(hb:Binds K fd ps [])
  (no:∀vs H Q E,¬sp vs H Q E):eF P w K mg base (k+1) x sp:=
 by
 obtain⟨oc,od,kV,doc,pm,an,bx,ct,gw,zq⟩:=qx9 F.ex;obtain⟨rfl,lk,gJ⟩:=qa3 zq;exact⟨f,_,ps,He lk gJ S (λvs H Q E h=>(no vs H Q E h).elim)<|λA outer s H vs Q E hr h=>(no vs H Q E h).elim,j8,F.kp,hb⟩
variable {x qual:Str}{st:Stmt}{f:Addr}{fd:FuncData}{N ps:List Str}{k:Nat}{sp:Sp}
theorem YQ(F:mG K x qual st f fd)(S:lB N ps (dW st))(j8:mg x=some (.ref f))(hb:Binds K fd ps [])
  (gt:List (Str×V)) (bl:List Str) (body:List RS)
  (hm:∀{CX:cb}{Γ:bo}{X:Cx},dF CX (sM N (dW st) [] (gt.map (·.1)) bl (md:=1)) Γ X->dD X (dU st) (aE Γ body))
  (qu:∀p∈gt,vj mg p) (qv:∀y∈bl,mg y=none) (len:∀vs H Q E,sp vs H Q E->vs.length=ps.length)
  (qw:∀vs H Q,sp vs H Q E0->aE (aL K [] gt) body {nx:=λ_ H'=>Q .aB H',rt:=Q} (start N vs) H):oE P w K mg base (k+1) x sp:=by
 obtain⟨oc,od,kV,doc,pm,an,bx,ct,gw,zq⟩:=qx9 F.ex;obtain⟨rfl,lk,gJ⟩:=qa3 zq;refine⟨f,_,ps,XN (CX:=e_ P w) lk gJ S len λA outer s H vs Q hr hh iU=>⟨_,hm (CX:=e_ P w) ?_,qw vs H Q iU⟩,j8,F.kp,hb⟩;refine {N:=rfl,sc:=rfl,K:=rfl,calm:=λh=>(nomatch h),units:=hr.units,gd:=hr.gd,fns:=λh=>(nomatch h),lO:=λj y hj=>?_,eP:=λy hy=>?_,pass:=λ_ _ _ _ _ _ _ h=>(yA h).elim,lP:=λ_ _ _ _ _ h=>yA h,mV:=λp aS h=>(nomatch h),mW:=λh=>(nomatch h),mX:=λh=>(nomatch h),sy:=λj y hj=>(nomatch hj),mY:=λj y hj=>(nomatch hj),oz:=λ_ h=>(nomatch h),qe:=λ_=>XQ hh,nd:=S.nd,m7:=λ_=>rfl,own:=PassesOwn.never,qg:=S.kind,rs:=λ_ _ hj=>(nomatch hj),jv:=rfl,gP:=rfl,qh:=rfl,qj:=rfl}
 ·have bR:=hj;rw[zaz] at bR;cases q:gt[j]? with
  |none=>rw[q] at bR;cases bR
  |some p=>
   rw[q] at bR;obtain⟨u,h1,h2⟩:=(qu p<|zaj q).ex;have es:qo gt j=p.2:=by unfold qo;rw[q]
   show ∃u,mg y=some u/\RelV (qo gt j) u;rw[es,<-(zap bR)];exact⟨u,h1,h2⟩
 ·exact qv y (by simpa using hy)
theorem cK.top{k:Nat}(F:cK P w K mg base (e_ P w) k f fd ps sp):cK P w K mg base uK k f fd ps (λvs H Q _=>sp vs H Q E0):=
 ⟨λvs H Q E h=>F.len vs H Q E0 h,λA outer s H args us vs Q E hr e0 hb hv hs=>codeAny_mono (F.run A outer s H args us vs Q E0 hr e0 hb hv hs) λr s' h=>by
  cases r with
  |error e=>exact(yA h).elim
  |ok fl=>cases fl<;>exact h⟩
end
section
variable {Γ:bo}{D:Ends}{σ:St}{H:Hp}{r:List RS}{Q:VK}
theorem CA{e:RE}(h:ak Γ e σ H λx H1=>aE Γ r D (σ.set i<|some x) H1):aE Γ (.asg i e::r) D σ H:=h
theorem YR{e:RE}(h:ak Γ e σ H λx H1=>aE Γ r D (σ.set i<|some x) H1):aE Γ (.yu i e::r) D σ H:=h
theorem YS{t e:List RS}(h:bD Γ c σ H λb H1=>if b=true then aE Γ t {D with nx:=aE Γ r D} σ H1 else aE Γ e {D with nx:=aE Γ r D} σ H1):aE Γ (.ite c t e::r) D σ H:=h
theorem Jx{as:List RE}(h:aW Γ as σ H λvs H1=>oj Γ.K b vs H1 Q):ak Γ (.blt b as) σ H Q:=h
theorem Jy{Q:List V->Hp->Prop}(h:ak Γ a σ H λx H1=>Q [x] H1):aW Γ [a] σ H Q:=h
end
end L2
variable {H H' H2:L2.Hp}{v:L2.V}{σ:L2.St}{xs ys vs:List L2.V}{Q:L2.VK}{j n:Nat}{Γ:L2.bo}{lb lf CP C t s:PySem.Addr}{as:List L2.RE}{D:L2.Ends}{body:List L2.RS}{S:List Nat}{y:PySem.Str}
namespace L2.B
open PySem PySem.Spec PyProof.Rows
def iH:List Str:=["thing"]
noncomputable def Jz:List RS:=
 [.ret<|.and [(.dr .int<|.v 0),(.not<|.dr .bool<|.v 0)]]
def af:List Str:=[]
def JA:List Str:=["isinstance","int","bool"]
def CB:List Str:=["thing","words"]
noncomputable def CC:List RS:=
 [.ret<|.and [(.dr .str<|.v 0),(.cmp .In (.v 0)<|.v 1)]]
def JB:List Str:=["isinstance","str"]
noncomputable def CG:List RS:=
 [.ret<|.and [(.dr .str<|.v 0),(.cmp .Eq (.bq .lstrip (.v 0) [.g 0])<|.c<|.str "")]]
def YT:List Str:=["SIGNS"]
noncomputable def JC:List RS:=
 [.ite (.not<|.call 0 [.v 0]) [.iG 0 [(.c<|.str "a text is a str of signs from the blank to the tilde, and line feeds")]] []]
def YU:List Str:=["is_text"]
def YV:List Str:=["BadText"]
noncomputable def yT:List RS:=
 [.ite (.or [(.not (.dr .tuple (.v 0))),(.cmp .NotEq (.blt .len [.v 0]) (.c (.int 2)))]) [.ret (.c (.bl false))] [],
 .ite (.call 0 [(.ix (.v 0)<|.c<|.int 0),(.tup [(.c<|.str "keep")])]) [.ret<|.and [(.call 1 [(.ix (.v 0)<|.c<|.int 1)]),(.cmp .GtE (.ix (.v 0)<|.c<|.int 1)<|.c<|.int 1)]] [],
 .ret (.and [(.call 0 [(.ix (.v 0) (.c (.int 0))),(.tup [(.c (.str "cut")),(.c (.str "put"))])]),(.call 2 [(.ix (.v 0) (.c (.int 1)))]),(.cmp .NotEq (.ix (.v 0) (.c (.int 1))) (.c (.str "")))])]
def YW:List Str:=["is_word","is_whole","is_text"]
def JD:List Str:=["isinstance","tuple","len"]
def JE:List Str:=["word","ahead"]
noncomputable def JF:List RS:=
 [.ret<|.and [(.cmp .NotEq (.v 0)<|.v 1),(.not<|.and [(.cmp .Eq (.v 1)<|.c<|.str "cut"),(.cmp .Eq (.v 0)<|.c<|.str "put")])]]
def JG:List Str:=["change","ahead","part"]
noncomputable def JH:List RS:=
 [.ite (.not (.dr .list (.v 0))) [.iG 0 [(.c (.str "a change is a list"))]] [],
 .asg 1 (.c<|.str ""),
 .jA 2 .list [.v 0] [.ite (.not (.call 0 [.v 2])) [.iG 0 [(.c (.str "a part is a keep of 1 sign or more, or a cut or put of a text that is not empty"))]] [],
  .ite (.not<|.call 1 [(.ix (.v 2)<|.c<|.int 0),.v 1]) [.iG 0 [(.c<|.str "neighbours have two words, and no put stands right behind a cut")]] [],
  .asg 1 (.ix (.v 2) (.c (.int 0)))]]
def YX:List Str:=["is_part","may_follow"]
def YY:List Str:=["isinstance","list"]
def YZ:List Str:=["BadChange"]
def JI:List Str:=["part"]
noncomputable def JJ:List RS:=
 [.ret<|.oh (.cmp .Eq (.ix (.v 0)<|.c<|.int 0)<|.c<|.str "keep") (.ix (.v 0)<|.c<|.int 1)<|.blt .len [(.ix (.v 0)<|.c<|.int 1)]]
def eY:List Str:=["len"]
def JK:List Str:=["change","over","gives"]
noncomputable def JL:List RS:=
 [.drop (.call 0 [.v 0]),
 .asg 1 (.blt .sum [(.comp none [] .list [.v 0] (some<|.cmp .NotEq (.ix (.v 0)<|.c<|.int 0)<|.c<|.str "put")<|.call 1 [.v 0])]),
 .asg 2 (.blt .sum [(.comp none [] .list [.v 0] (some<|.cmp .NotEq (.ix (.v 0)<|.c<|.int 0)<|.c<|.str "cut")<|.call 1 [.v 0])]),
 .ret (.tup [.v 1,.v 2])]
def Y0:List Str:=["need_change","part_size"]
def Y1:List Str:=["sum"]
def JM:List Str:=["change","size"]
noncomputable def JN:List RS:=
 [.ite (.and [(.cmp .Gt (.blt .len [.v 0]) (.c (.int 0))),(.cmp .Eq (.ix (.ix (.v 0) (.neg (.c (.int 1)))) (.c (.int 0))) (.c (.str "keep")))]) [.asg 1 (.bin .Add (.v 1) (.ix (.bq .pop (.v 0) []) (.c (.int 1))))] [],
 .drop (.bq .append (.v 0) [(.tup [(.c (.str "keep")),.v 1])])]
def JO:List Str:=["change","puts","cuts","put","cut"]
noncomputable def JP:List RS:=
 [.asg 3 (.bq .join (.c (.str "")) [.v 1]),
 .asg 4 (.bq .join (.c<|.str "") [.v 2]),
 .ite (.cmp .NotEq (.v 3)<|.c<|.str "") [.drop<|.bq .append (.v 0) [(.tup [(.c<|.str "put"),.v 3])]] [],
 .ite (.cmp .NotEq (.v 4) (.c (.str ""))) [.drop (.bq .append (.v 0) [(.tup [(.c (.str "cut")),.v 4])])] []]
def JQ:List Str:=["parts","change","puts","cuts","word","what"]
noncomputable def JR:List RS:=
 [.asg 1 (.lst []),
 .asg 2 (.lst []),
 .asg 3 (.lst []),
 .hX [4,5] .list [.v 0] [.ite (.cmp .Eq (.v 4) (.c (.str "put"))) [.drop (.bq .append (.v 2) [.v 5])] [.ite (.cmp .Eq (.v 4) (.c (.str "cut"))) [.drop (.bq .append (.v 3) [.v 5])] [.ite (.cmp .Gt (.v 5) (.c (.int 0))) [.drop (.call 0 [.v 1,.v 2,.v 3]),
     .asg 2 (.lst []),
     .asg 3 (.lst []),
     .drop (.call 1 [.v 1,.v 5])] []]]],
 .drop (.call 0 [.v 1,.v 2,.v 3]),
 .ret (.v 1)]
def Y2:List Str:=["add_texts","add_keep"]
def JS:List Str:=["_law_script","_law_k"]
noncomputable def JT:List RS:=
 [.ite (.cmp .Lt (.v 1) (.blt .len [.v 0])) [.ret (.ix (.v 0) (.v 1))] [],
 .ret (.c (.int 0))]
def JU:List Str:=["_law_cell","_law_k","_law_number"]
noncomputable def JV:List RS:=
 [.asg 2 (.bin .Mod (.bin .Add (.bin .Add (.bin .Mult (.v 0) (.c (.int 48271))) (.bin .Mult (.c (.int 7919)) (.v 1))) (.c (.int 11))) (.c (.int 1000003))),
 .ret (.bin .Mod (.bin .Mult (.bin .Mod (.bin .Mult (.v 2) (.v 2)) (.c (.int 1000003))) (.v 2)) (.c (.int 1000003)))]
def JW:List Str:=["_law_cell","_law_size_here","_law_some"]
noncomputable def JX:List RS:=
 [.asg 2 (.c (.str " !\"#$&'()*+,-./0123456789:;<=>?@ABCDEFGHIJKLMNOPQRSTUVWXYZ[\\]^_`")),
 .asg 2 (.bin .Add (.v 2)<|.c<|.str "abcdefghijklmnopqrstuvwxyz{|}~\n"),
 .ite (.cmp .Eq (.bin .Mod (.v 0)<|.c<|.int 3)<|.c<|.int 0) [.asg 2<|.c<|.str "ab\n"] [],
 .ret (.bq .join (.c (.str "")) [(.comp none [("_law_some",2),("_law_cell",0)] .gZ [.v 1] none (.ix (.v 1) (.bin .Mod (.bin .FloorDiv (.call 0 [.v 2,.v 0]) (.c (.int 7))) (.blt .len [.v 1]))))])]
def JY:List Str:=["_law_mixed"]
def Y3:List Str:=["range","len"]
def JZ:List Str:=["_law_cell"]
noncomputable def J0:List RS:=
 [.ite (.cmp .Eq (.bin .Mod (.v 0) (.c (.int 8))) (.c (.int 1))) [.ret (.bin .Mod (.bin .FloorDiv (.v 0) (.c (.int 8))) (.c (.int 401)))] [],
 .ret (.bin .Mod (.bin .FloorDiv (.v 0) (.c (.int 8))) (.c (.int 25)))]
def J3:List Str:=["_law_cell","_law_text_here","_law_many","_law_parts_here","_law_at","_law_k","_law_number","_law_size_here","_law_left"]
noncomputable def J4:List RS:=
 [.asg 3 (.lst []),
 .asg 4 (.c<|.int 0),
 .jA 5 .gZ [.v 2] [.asg 6 (.call 0 [.v 0,(.bin .Add (.c (.int 50)) (.v 5))]),
  .asg 7 (.ix (.lst [(.c<|.int 1),(.c<|.int 2),(.c<|.int 0),(.c<|.int 3),(.c<|.int 5),(.c<|.int 40)])<|.bin .Mod (.bin .FloorDiv (.v 6)<|.c<|.int 4)<|.c<|.int 6),
  .asg 8 (.blt .min [.v 7,(.bin .Sub (.blt .len [.v 1])<|.v 4)]),
  .ite (.cmp .Eq (.bin .Mod (.v 6)<|.c<|.int 4)<|.c<|.int 3) [.drop<|.bq .append (.v 3) [(.tup [(.c<|.str "put"),(.call 1 [.v 6,.v 7])])]] [.ite (.cmp .Eq (.bin .Mod (.v 6)<|.c<|.int 4)<|.c<|.int 2) [.drop<|.bq .append (.v 3) [(.tup [(.c<|.str "cut"),(.sl (.v 1) (some<|.v 4)<|some<|.bin .Add (.v 4)<|.v 8)])]] [.drop<|.bq .append (.v 3) [(.tup [(.c<|.str "keep"),.v 8])]]],
  .ite (.cmp .Lt (.bin .Mod (.v 6) (.c (.int 4))) (.c (.int 3))) [.asg 4 (.bin .Add (.v 4) (.v 8))] []],
 .ret (.bin .Add (.v 3) (.lst [(.tup [(.c (.str "keep")),(.bin .Sub (.blt .len [.v 1]) (.v 4))])]))]
def Y4:List Str:=["_law_mixed","_law_text"]
def Y5:List Str:=["range","min","len"]
def CH:List Str:=["_law_parts_here","_law_rows","_law_word","_law_thing","_law_found","_law_put","_law_cut","_law_keep","_law_some"]
noncomputable def J5:List RS:=
 [.asg 1 (.lst [(.lst [(.c (.str "")),(.c (.str "")),(.c (.int 0))])]),
 .hX [2,3] .list [.v 0] [.ite (.cmp .Eq (.v 2) (.c (.str "keep"))) [.set (.ix (.v 1) (.neg (.c (.int 1)))) (.c (.int 2)) (.bin .Add (.ix (.ix (.v 1) (.neg (.c (.int 1)))) (.c (.int 2))) (.v 3))] [.ite (.cmp .NotEq (.v 3) (.c (.str ""))) [.ite (.cmp .Gt (.ix (.ix (.v 1) (.neg (.c (.int 1)))) (.c (.int 2))) (.c (.int 0))) [.drop (.bq .append (.v 1) [(.lst [(.c (.str "")),(.c (.str "")),(.c (.int 0))])])] [],
    .set (.ix (.v 1) (.neg (.c (.int 1)))) (.blt .int [(.cmp .Eq (.v 2) (.c (.str "cut")))]) (.bin .Add (.ix (.ix (.v 1) (.neg (.c (.int 1)))) (.blt .int [(.cmp .Eq (.v 2) (.c (.str "cut")))])) (.v 3))] []]],
 .asg 4 (.lst []),
 .hX [5,6,7] .list [.v 1] [.asg 8 (.lst [(.tup [(.c (.str "put")),.v 5]),(.tup [(.c (.str "cut")),.v 6]),(.tup [(.c (.str "keep")),.v 7])]),
  .asg 4 (.bin .Add (.v 4) (.comp none [] .list [.v 8] (some (.and [(.cmp .NotEq (.ix (.v 0) (.c (.int 1))) (.c (.str ""))),(.cmp .NotEq (.ix (.v 0) (.c (.int 1))) (.c (.int 0)))])) (.v 0)))],
 .ret (.v 4)]
def Y6:List Str:=["int"]
def J6:List Str:=["_law_cell","_law_text_here","_law_many"]
noncomputable def J7:List RS:=
 [.ret<|.call 0 [(.call 1 [.v 0,.v 1,.v 2])]]
def Y7:List Str:=["_law_neat","_law_parts"]
def CI:List Str:=["_law_found","_law_due","_law_part","_law_other"]
noncomputable def J8:List RS:=
 [.ite (.or [(.not (.dr .list (.v 0))),(.cmp .NotEq (.blt .len [.v 0]) (.blt .len [.v 1]))]) [.ret (.c (.bl false))] [],
 .hX [2,3] .zip [.v 0,.v 1] [.ite (.or [(.not (.dr .tuple (.v 2))),(.cmp .NotEq (.blt .len [.v 2]) (.c (.int 2))),(.not (.dr .str (.ix (.v 2) (.c (.int 0))))),(.cmp .NotEq (.ix (.v 2) (.c (.int 0))) (.ix (.v 3) (.c (.int 0))))]) [.ret (.c (.bl false))] [],
  .ite (.or [(.cmp .NotEq (.dr .str<|.ix (.v 3)<|.c<|.int 1)<|.dr .str<|.ix (.v 2)<|.c<|.int 1),(.cmp .NotEq (.ix (.v 2)<|.c<|.int 1)<|.ix (.v 3)<|.c<|.int 1)]) [.ret<|.c<|.bl false] [],
  .ite (.and [(.not (.dr .str (.ix (.v 3) (.c (.int 1))))),(.not (.call 0 [(.ix (.v 2) (.c (.int 1)))]))]) [.ret (.c (.bl false))] []],
 .ret (.c (.bl true))]
def J9:List Str:=["_law_whole"]
def Y8:List Str:=["isinstance","list","len","zip","tuple","str"]
def CJ:List Str:=["_law_text_here","_law_change_here","_law_found_here","_law_at","_law_word_here","_law_thing"]
noncomputable def J_:List RS:=
 [.asg 2 (.c (.str "")),
 .asg 3 (.c<|.int 0),
 .hX [4,5] .list [.v 1] [.ite (.cmp .Eq (.v 4) (.c (.str "put"))) [.asg 2 (.bin .Add (.v 2) (.v 5))] [.ite (.cmp .Eq (.v 4) (.c (.str "cut"))) [.asg 3 (.bin .Add (.v 3) (.blt .len [.v 5]))] [.asg 2 (.bin .Add (.v 2) (.sl (.v 0) (some (.v 3)) (some (.bin .Add (.v 3) (.v 5))))),
    .asg 3 (.bin .Add (.v 3) (.v 5))]]],
 .ret (.v 2)]
def ki:List Str:=["_law_e","_law_some","_law_found_here"]
noncomputable def fj:List RS:=
 [.asg 1 (.lst [(.tup [(.c (.str "text")),(.dt (.v 0) (.g 0))]),(.tup [(.c (.str "change")),(.dt (.v 0) (.g 1))]),(.tup [(.c (.str "fit")),(.dt (.v 0) (.g 2))])]),
 .asg 1 (.bin .Add (.v 1)<|.lst [(.tup [(.c<|.str "place"),(.dt (.v 0)<|.g 3)]),(.tup [(.c<|.str "side"),(.dt (.v 0)<|.g 4)]),(.tup [(.c<|.str "mark"),(.dt (.v 0)<|.g 5)])]),
 .asg 1 (.bin .Add (.v 1)<|.lst [(.tup [(.c<|.str "node"),(.dt (.v 0)<|.g 6)]),(.tup [(.c<|.str "cursor"),(.dt (.v 0)<|.g 7)])]),
 .asg 1 (.bin .Add (.v 1)<|.lst [(.tup [(.c<|.str "deed"),(.dt (.v 0)<|.g 8)]),(.tup [(.c<|.str "letter"),(.dt (.v 0)<|.g 9)])]),
 .asg 1 (.bin .Add (.v 1)<|.lst [(.tup [(.c<|.str "gone"),(.dt (.v 0)<|.g 10)]),(.tup [(.c<|.str "hand"),(.dt (.v 0)<|.g 11)]),(.tup [(.c<|.str "note"),(.dt (.v 0)<|.g 12)])]),
 .yu 2 (.comp (some 2) [] .list [.v 1] (some<|.v 1)<|.v 0),
 .ite (.or [(.not<|.dt (.v 0)<|.g 13),(.not<|.dt (.v 0)<|.c<|.ty "ValueError")]) [.drop<|.bq .append (.v 2) [(.c<|.str "bare")]] [],
 .ret (.bq .join (.c (.str "/")) [.v 2])]
def m_:List Str:=["BadText","BadChange","BadFit","NoPlace","BadSide","NoMark","NoNode","NoCursor","BadDeed","BadLetter","NoLetter","NoHand","NoNote","InkError"]
def ng:List Str:=["isinstance","ValueError"]
def Ka:List Str:=["thing","least","most"]
noncomputable def Kb:List RS:=
 [.ret<|.and [(.call 0 [.v 0]),(.lL .LtE .LtE (.v 1) (.v 0)<|.v 2)]]
def Kc:List Str:=["is_whole"]
def CK:List Str:=["_law_found_here"]
def Ke:List Str:=["row","most","least","beyond","middle"]
noncomputable def Kf:List RS:=
 [.asg 2 (.c (.int 0)),
 .asg 3 (.blt .len [.v 0]),
 .si (.cmp .Lt (.v 2) (.v 3)) [.asg 4 (.bin .FloorDiv (.bin .Add (.v 2) (.v 3)) (.c (.int 2))),
  .ite (.cmp .LtE (.ix (.v 0) (.v 4)) (.v 1)) [.asg 2 (.bin .Add (.v 4) (.c (.int 1)))] [.asg 3 (.v 4)]],
 .ret (.v 2)]
def sN:List Str:=["self"]
noncomputable def Kg:List RS:=
 [.lM (.v 0) "texts" (.lst []),
 .lM (.v 0) "begins" (.lst []),
 .lM (.v 0) "feeds" (.lst []),
 .lM (.v 0) "signs" (.c (.int 0))]
def CL:List Str:=["self","text","begin","feed"]
noncomputable def Kh:List RS:=
 [.drop (.call 0 [.v 1]),
 .asg 2 (.fld (.v 0) "signs"),
 .drop (.bq .append (.fld (.v 0) "texts") [.v 1]),
 .drop (.bq .append (.fld (.v 0) "begins") [.v 2]),
 .lM (.v 0) "signs" (.bin .Add (.v 2)<|.blt .len [.v 1]),
 .asg 3 (.bq .find (.v 1) [(.c<|.str "\n")]),
 .si (.cmp .GtE (.v 3) (.c (.int 0))) [.drop (.bq .append (.fld (.v 0) "feeds") [(.bin .Add (.v 2) (.v 3))]),
  .asg 3 (.bq .find (.v 1) [(.c (.str "\n")),(.bin .Add (.v 3) (.c (.int 1)))])],
 .ret (.v 2)]
def Y9:List Str:=["need_text"]
def Ki:List Str:=["self","begin","size","pieces","number","end","offset","piece"]
noncomputable def Kj:List RS:=
 [.ite (.or [(.not (.call 0 [.v 1,(.c (.int 0)),(.fld (.v 0) "signs")])),(.not (.call 0 [.v 2,(.c (.int 0)),(.bin .Sub (.fld (.v 0) "signs") (.v 1))]))]) [.iG 0 [(.c (.str "what is read lies within the stock"))]] [],
 .asg 3 (.lst []),
 .asg 4 (.bin .Sub (.call 1 [(.fld (.v 0) "begins"),.v 1])<|.c<|.int 1),
 .asg 5 (.bin .Add (.v 1)<|.v 2),
 .si (.cmp .Lt (.v 1) (.v 5)) [.asg 6 (.bin .Sub (.v 1) (.ix (.fld (.v 0) "begins") (.v 4))),
  .asg 7 (.sl (.ix (.fld (.v 0) "texts")<|.v 4) (some<|.v 6)<|some<|.bin .Sub (.bin .Add (.v 6)<|.v 5)<|.v 1),
  .drop (.bq .append (.v 3) [.v 7]),
  .asg 1 (.bin .Add (.v 1)<|.blt .len [.v 7]),
  .asg 4 (.bin .Add (.v 4) (.c (.int 1)))],
 .ret (.bq .join (.c (.str "")) [.v 3])]
def Y_:List Str:=["is_between","many_upto"]
def Kk:List Str:=["NoPlace"]
structure sO (K:Frag) (C:Addr):Prop where
 cl:gu K C
 vk:g7 K C "texts"
 yU:g7 K C "begins"
 CM:g7 K C "feeds"
 yV:g7 K C "signs"
def sP:List Str:=["node"]
noncomputable def Kl:List RS:=
 [.ret<|.oh (.cmp .Is (.v 0)<|.c .aB) (.c<|.int 0)<|.ix (.v 0)<|.c<|.int 3]
noncomputable def Km:List RS:=
 [.ret<|.oh (.cmp .Is (.v 0)<|.c .aB) (.c<|.int 0)<|.ix (.v 0)<|.c<|.int 4]
noncomputable def Kn:List RS:=
 [.ret<|.oh (.cmp .Is (.v 0)<|.c .aB) (.c<|.int 0)<|.ix (.v 0)<|.c<|.int 5]
def Ko:List Str:=["left","piece","right","height","size"]
noncomputable def Kp:List RS:=
 [.asg 3 (.bin .Add (.c (.int 1)) (.blt .max [(.call 0 [.v 0]),(.call 0 [.v 2])])),
 .asg 4 (.bin .Add (.bin .Add (.call 1 [.v 0])<|.ix (.v 1)<|.c<|.int 1)<|.call 1 [.v 2]),
 .ret (.tup [.v 0,.v 1,.v 2,.v 3,.v 4,(.bin .Add (.bin .Add (.call 2 [.v 0]) (.ix (.v 1) (.c (.int 2)))) (.call 2 [.v 2]))])]
def Za:List Str:=["height_of","size_of","ends_of"]
def Kq:List Str:=["max"]
def yW:List Str:=["left","piece","right","inner"]
noncomputable def Kr:List RS:=
 [.asg 3 (.ix (.v 0) (.c (.int 2))),
 .ite (.cmp .GtE (.call 0 [(.ix (.v 0)<|.c<|.int 0)])<|.call 0 [.v 3]) [.ret<|.call 1 [(.ix (.v 0)<|.c<|.int 0),(.ix (.v 0)<|.c<|.int 1),(.call 1 [.v 3,.v 1,.v 2])]] [],
 .ret (.call 1 [(.call 1 [(.ix (.v 0) (.c (.int 0))),(.ix (.v 0) (.c (.int 1))),(.ix (.v 3) (.c (.int 0)))]),(.ix (.v 3) (.c (.int 1))),(.call 1 [(.ix (.v 3) (.c (.int 2))),.v 1,.v 2])])]
def Ks:List Str:=["height_of","made"]
noncomputable def Kt:List RS:=
 [.asg 3 (.ix (.v 2) (.c (.int 0))),
 .ite (.cmp .GtE (.call 0 [(.ix (.v 2)<|.c<|.int 2)])<|.call 0 [.v 3]) [.ret<|.call 1 [(.call 1 [.v 0,.v 1,.v 3]),(.ix (.v 2)<|.c<|.int 1),(.ix (.v 2)<|.c<|.int 2)]] [],
 .ret (.call 1 [(.call 1 [.v 0,.v 1,(.ix (.v 3) (.c (.int 0)))]),(.ix (.v 3) (.c (.int 1))),(.call 1 [(.ix (.v 3) (.c (.int 2))),(.ix (.v 2) (.c (.int 1))),(.ix (.v 2) (.c (.int 2)))])])]
def vm:List Str:=["left","piece","right"]
noncomputable def Ku:List RS:=
 [.ite (.cmp .Gt (.call 0 [.v 0]) (.bin .Add (.call 0 [.v 2]) (.c (.int 1)))) [.ret (.call 1 [.v 0,.v 1,.v 2])] [],
 .ite (.cmp .Gt (.call 0 [.v 2])<|.bin .Add (.call 0 [.v 0])<|.c<|.int 1) [.ret<|.call 2 [.v 0,.v 1,.v 2]] [],
 .ret (.call 3 [.v 0,.v 1,.v 2])]
def Zb:List Str:=["height_of","turned_right","turned_left","made"]
noncomputable def Kv:List RS:=
 [.ite (.cmp .Gt (.call 0 [.v 0]) (.bin .Add (.call 0 [.v 2]) (.c (.int 1)))) [.ret (.call 1 [(.ix (.v 0) (.c (.int 0))),(.ix (.v 0) (.c (.int 1))),(.call 2 [(.ix (.v 0) (.c (.int 2))),.v 1,.v 2])])] [],
 .ite (.cmp .Gt (.call 0 [.v 2])<|.bin .Add (.call 0 [.v 0])<|.c<|.int 1) [.ret<|.call 1 [(.call 2 [.v 0,.v 1,(.ix (.v 2)<|.c<|.int 0)]),(.ix (.v 2)<|.c<|.int 1),(.ix (.v 2)<|.c<|.int 2)]] [],
 .ret (.call 3 [.v 0,.v 1,.v 2])]
def Zc:List Str:=["height_of","leveled","joined","made"]
def sQ:List Str:=["node","out"]
noncomputable def Kw:List RS:=
 [.ite (.cmp .Is (.ix (.v 0) (.c (.int 2))) (.c .aB)) [.ret (.tup [(.ix (.v 0) (.c (.int 0))),(.ix (.v 0) (.c (.int 1)))])] [],
 .asg 1 (.call 0 [(.ix (.v 0)<|.c<|.int 2)]),
 .ret (.tup [(.call 1 [(.ix (.v 0) (.c (.int 0))),(.ix (.v 0) (.c (.int 1))),(.ix (.v 1) (.c (.int 0)))]),(.ix (.v 1) (.c (.int 1)))])]
def Zd:List Str:=["last_out","joined"]
noncomputable def Kx:List RS:=
 [.ite (.cmp .Is (.ix (.v 0) (.c (.int 0))) (.c .aB)) [.ret (.tup [(.ix (.v 0) (.c (.int 1))),(.ix (.v 0) (.c (.int 2)))])] [],
 .asg 1 (.call 0 [(.ix (.v 0)<|.c<|.int 0)]),
 .ret (.tup [(.ix (.v 1) (.c (.int 0))),(.call 1 [(.ix (.v 1) (.c (.int 1))),(.ix (.v 0) (.c (.int 1))),(.ix (.v 0) (.c (.int 2)))])])]
def Ze:List Str:=["first_out","joined"]
def Ky:List Str:=["left","right","last","first","one","other"]
noncomputable def Kz:List RS:=
 [.ite (.cmp .Is (.v 0) (.c .aB)) [.ret (.v 1)] [],
 .asg 2 (.call 0 [.v 0]),
 .asg 3 (.call 1 [.v 1]),
 .asg 4 (.ix (.v 2)<|.c<|.int 1),
 .asg 5 (.ix (.v 3)<|.c<|.int 0),
 .ite (.cmp .Eq (.bin .Add (.ix (.v 4)<|.c<|.int 0)<|.ix (.v 4)<|.c<|.int 1)<|.ix (.v 5)<|.c<|.int 0) [.ret<|.call 2 [(.ix (.v 2)<|.c<|.int 0),(.tup [(.ix (.v 4)<|.c<|.int 0),(.bin .Add (.ix (.v 4)<|.c<|.int 1)<|.ix (.v 5)<|.c<|.int 1),(.bin .Add (.ix (.v 4)<|.c<|.int 2)<|.ix (.v 5)<|.c<|.int 2)]),(.ix (.v 3)<|.c<|.int 1)]] [],
 .ret (.call 2 [(.ix (.v 2) (.c (.int 0))),.v 4,.v 1])]
def Zf:List Str:=["last_out","first_out","joined"]
def KA:List Str:=["piece","size","stock","middle","ends"]
noncomputable def KC:List RS:=
 [.asg 3 (.bin .Add (.ix (.v 0) (.c (.int 0))) (.v 1)),
 .asg 4 (.bin .Sub (.du 0 "ends_ahead" (.v 2) [.v 3])<|.du 0 "ends_ahead" (.v 2) [(.ix (.v 0)<|.c<|.int 0)]),
 .ret (.tup [(.tup [(.ix (.v 0) (.c (.int 0))),.v 1,.v 4]),(.tup [.v 3,(.bin .Sub (.ix (.v 0) (.c (.int 1))) (.v 1)),(.bin .Sub (.ix (.v 0) (.c (.int 2))) (.v 4))])])]
def Zg:List Str:=["ends_ahead"]
def CN:List Str:=["node","place","stock","piece","begin","end","sides","halves"]
noncomputable def KD:List RS:=
 [.ite (.cmp .Is (.v 0) (.c .aB)) [.ret (.tup [.c .aB,.c .aB])] [],
 .asg 3 (.ix (.v 0)<|.c<|.int 1),
 .asg 4 (.call 0 [(.ix (.v 0)<|.c<|.int 0)]),
 .asg 5 (.bin .Add (.v 4)<|.ix (.v 3)<|.c<|.int 1),
 .ite (.cmp .LtE (.v 1) (.v 4)) [.asg 6 (.call 1 [(.ix (.v 0) (.c (.int 0))),.v 1,.v 2]),
  .ret (.tup [(.ix (.v 6) (.c (.int 0))),(.call 2 [(.ix (.v 6) (.c (.int 1))),.v 3,(.ix (.v 0) (.c (.int 2)))])])] [],
 .ite (.cmp .GtE (.v 1) (.v 5)) [.asg 6 (.call 1 [(.ix (.v 0) (.c (.int 2))),(.bin .Sub (.v 1) (.v 5)),.v 2]),
  .ret (.tup [(.call 2 [(.ix (.v 0) (.c (.int 0))),.v 3,(.ix (.v 6) (.c (.int 0)))]),(.ix (.v 6) (.c (.int 1)))])] [],
 .asg 7 (.call 3 [.v 3,(.bin .Sub (.v 1)<|.v 4),.v 2]),
 .ret (.tup [(.call 2 [(.ix (.v 0) (.c (.int 0))),(.ix (.v 7) (.c (.int 0))),.c .aB]),(.call 2 [.c .aB,(.ix (.v 7) (.c (.int 1))),(.ix (.v 0) (.c (.int 2)))])])]
def Zh:List Str:=["size_of","parted","joined","cut_in_two"]
def CO:List Str:=["node","pieces"]
noncomputable def KG:List RS:=
 [.ite (.cmp .Is (.v 0) (.c .aB)) [.ret (.lst [])] [],
 .asg 1 (.call 0 [(.ix (.v 0)<|.c<|.int 0)]),
 .drop (.bq .append (.v 1) [(.ix (.v 0)<|.c<|.int 1)]),
 .drop (.bq .extend (.v 1) [(.call 0 [(.ix (.v 0)<|.c<|.int 2)])]),
 .ret (.v 1)]
def KH:List Str:=["pieces_of"]
def KI:List Str:=["self","place"]
noncomputable def KJ:List RS:=
 [.ret<|.call 0 [(.fld (.v 0) "feeds"),(.bin .Sub (.v 1)<|.c<|.int 1)]]
def Zi:List Str:=["many_upto"]
def KL:List Str:=["stock","text"]
noncomputable def KN:List RS:=
 [.ite (.cmp .Eq (.v 1) (.c (.str ""))) [.ret (.c .aB)] [],
 .ret (.call 0 [.c .aB,(.tup [(.du 0 "put" (.v 0) [.v 1]),(.blt .len [.v 1]),(.bq .count (.v 1) [(.c (.str "\n"))])]),.c .aB])]
def Zj:List Str:=["joined"]
def Zk:List Str:=["put"]
def KO:List Str:=["text","stock"]
noncomputable def KP:List RS:=
 [.drop (.call 0 [.v 0]),
 .asg 1 (.make 0 []),
 .ret (.make 1 [.v 1,(.call 1 [.v 1,.v 0])])]
def Zl:List Str:=["need_text","node_put"]
def Zm:List Str:=["Stock","Paper"]
def KQ:List Str:=["paper","change","place","part"]
noncomputable def KR:List RS:=
 [.ite (.cmp .NotEq (.ix (.call 0 [.v 1]) (.c (.int 0))) (.du 0 "size" (.v 0) [])) [.iG 0 [(.c (.str "the change is over a text of another number of signs"))]] [],
 .asg 2 (.c<|.int 0),
 .jA 3 .list [.v 1] [.ite (.and [(.cmp .Eq (.ix (.v 3) (.c (.int 0))) (.c (.str "cut"))),(.cmp .NotEq (.du 1 "part" (.v 0) [.v 2,(.bin .Add (.v 2) (.blt .len [(.ix (.v 3) (.c (.int 1)))]))]) (.ix (.v 3) (.c (.int 1))))]) [.iG 0 [(.c (.str "what is cut is not what stands there"))]] [],
  .ite (.cmp .NotEq (.ix (.v 3) (.c (.int 0))) (.c (.str "put"))) [.asg 2 (.bin .Add (.v 2) (.call 1 [.v 3]))] []]]
def Zn:List Str:=["sizes","part_size"]
def Zo:List Str:=["size","part"]
def Zp:List Str:=["BadFit"]
def KS:List Str:=["stock","node"]
noncomputable def KU:List RS:=
 [.ret<|.comp none [("stock",0)] .list [(.call 0 [.v 1])] none<|.du 0 "read" (.v 1) [(.ix (.v 0)<|.c<|.int 0),(.ix (.v 0)<|.c<|.int 1)]]
def Zq:List Str:=["read"]
def KW:List Str:=["self","stock","node"]
noncomputable def KY:List RS:=
 [.lM (.v 0) "stock" (.v 1),
 .lM (.v 0) "node" (.v 2)]
noncomputable def KZ:List RS:=
 [.ret<|.call 0 [(.fld (.v 0) "node")]]
def Zr:List Str:=["size_of"]
noncomputable def K0:List RS:=
 [.ret<|.bq .join (.c<|.str "") [(.call 0 [(.fld (.v 0) "stock"),(.fld (.v 0) "node")])]]
def Zs:List Str:=["texts_of"]
def K2:List Str:=["self","begin","end","ahead"]
noncomputable def K3:List RS:=
 [.ite (.or [(.not (.call 0 [.v 1,(.c (.int 0)),(.du 0 "size" (.v 0) [])])),(.not (.call 0 [.v 2,.v 1,(.du 0 "size" (.v 0) [])]))]) [.iG 0 [(.c (.str "a part leads from a place of the text to one that is no less"))]] [],
 .asg 3 (.ix (.call 1 [(.fld (.v 0) "node"),.v 2,(.fld (.v 0) "stock")])<|.c<|.int 0),
 .ret (.bq .join (.c (.str "")) [(.call 2 [(.fld (.v 0) "stock"),(.ix (.call 1 [.v 3,.v 1,(.fld (.v 0) "stock")]) (.c (.int 1)))])])]
def Zt:List Str:=["is_between","parted","texts_of"]
def i5:List Str:=["size"]
def K4:List Str:=["self","change","ahead","rest","part","sides"]
noncomputable def K5:List RS:=
 [.drop (.call 0 [.v 0,.v 1]),
 .asg 2 (.c .aB),
 .asg 3 (.fld (.v 0) "node"),
 .jA 4 .list [.v 1] [.ite (.cmp .Eq (.ix (.v 4) (.c (.int 0))) (.c (.str "put"))) [.asg 2 (.call 1 [.v 2,(.call 2 [(.fld (.v 0) "stock"),(.ix (.v 4) (.c (.int 1)))])]),
   .cont] [],
  .asg 5 (.call 3 [.v 3,(.call 4 [.v 4]),(.fld (.v 0) "stock")]),
  .asg 3 (.ix (.v 5)<|.c<|.int 1),
  .ite (.cmp .Eq (.ix (.v 4) (.c (.int 0))) (.c (.str "keep"))) [.asg 2 (.call 1 [.v 2,(.ix (.v 5) (.c (.int 0)))])] []],
 .ret (.make 0 [(.fld (.v 0) "stock"),.v 2])]
def Zu:List Str:=["need_fit","sewn","node_put","parted","part_size"]
def Zv:List Str:=["Paper"]
structure nh (K:Frag) (C:Addr):Prop where
 cl:gu K C
 nj:g7 K C "stock"
 vo:g7 K C "node"
end L2.B
namespace L2
open PySem PySem.Spec PyProof.Rows
section
variable {X:Cx}
def yX(K:Frag):List V->Hp->VK->Prop:=λxs H Q=>∃(p:Addr) (bs:List Bool),xs=[.ref p]/\ar K H p (bs.map V.bl)/\Q (.bl<|bs.all id) H
theorem CQ:∀{bs:List Bool}{us:List Value},Vals (bs.map V.bl) us->us=bs.map Value.bool
 |[],_,.nil=>rfl
 |b::r,_,.cons e t=>by
  rw[zaM,<-CQ t,e]
theorem all_range(bs:List Bool):((List.range bs.length).all λi=>(bs[i]?).getD true)=bs.all id:=by
 rw[zaH,zaO,zaO]
 constructor
 ·intro h b hb;obtain⟨i,hi,rfl⟩:=zbm hb;have:=h i (zaU.mpr hi)
  simpa[hi] using this
 ·intro h i hi;have hi:=zaU.mp hi;have:=h _ (zaQ hi)
  simpa[hi] using this
theorem Zw(hc:X.calm=true):cj X (.builtin "all") (yX X.K):=by
 intro pins s σ H xs us Q I r h;obtain⟨p,bs,rfl,hq,q⟩:=h;obtain⟨u,rfl,ru⟩:=vals1 r;cases ru;obtain⟨its,rv,pl,hz⟩:=I.list hq;have e:=CQ rv;subst e;have aU: @LT.lt Nat _ p s.heap.objs.size:=by obtain⟨_,e,_⟩:=pl.isList;exact Heap.lt_size e
 refine call_all_walk<|wpAny_pyIter_list pl.isList ?_;refine⟨s.heap.objs.size,[s.heap.objs.size,p],[s.heap.objs.size],(bs.map Value.bool).toArray.size,_,_,λi=>(bs[i]?).getD true,rfl,
  Walks.list (A:=X.A.in1) (I.ok.hd hc) _ p (zaf aU) _,⟨⟨_,Heap.get?_push_size _ rfl,rfl,rfl⟩,pl.isList.push _⟩,λi v s' Q' E' hP hQ=>?_,λh' tk hk=>?_⟩
 ·have kj:(bs.map Value.bool)[i]?=some v:=by simpa using hP
  rw[zaz] at kj;cases eb:bs[i]? with
  |none=>rw[eb] at kj;cases kj
  |some b=>
   rw[eb] at kj;cases kj;have vq:Q' ((bs[i]?).getD true) s':=hQ;rw[eb] at vq;exact wpAny_truthy_bool vq
 ·have e:((List.range (bs.map Value.bool).toArray.size).all λi=>(bs[i]?).getD true)=bs.all id:=by
   have e0:(bs.map Value.bool).toArray.size=bs.length:=by simp
   rw[e0];exact all_range bs
  rw[e];exact⟨.bl _,H,I.kept λb o e=>hk b o (λhm=>by rw[zad.mp hm] at e;exact zay _ (Heap.lt_size e))<|Heap.get?_push_of_some _ e,rfl,q⟩
theorem boot_all:bootBuiltins "all"=some (.builtin "all"):=rfl
end
def CS:Frag->TA->TE:=λK t=>eT (yX K) t
section
variable {CX:cb}{S:c_}{Γ:bo}{X:Cx}{e e2 a b c d:Expr}{es:List Expr}{x:Str}{p q pos:Pos}{r ra rb rc:RE}{rs:List RE}{i j:Nat}
theorem Zx(G:Good CX S Γ X)(hA:PA X (e::es) (aW Γ (r::rs)))(h:kB S x "all"=true:=by kernel_rfl)(hn:fg (e::es)=true:=by kernel_rfl)(hq:S.md=0:=by rfl):PE X (.Call (.Name x p) (e::es) [] pos) (ak Γ<|.xt CS (r::rs)):=by
 simp only[kB,zab,decide_eq_true_eq] at h
 obtain⟨⟨rfl,h2⟩,h3⟩:=h;show PE X _ (eT (yX Γ.K)<|aW Γ (r::rs));rw[<-G.K];exact nW (Zw<|G.calm hq) (G.gl h2) (G.eP _ h3) boot_all hA (by decide) (rfl) (dv (cG hn).1)<|ib _ _ es (cG hn).2
theorem K6(G:Good CX S Γ X)(h:PE X (.Call a es [] p) (ak Γ<|.xt T rs)):PT X (.Call a es [] p) (bD Γ<|.xt T rs):=by
 show PT X _ (gg Γ.K<|ak Γ<|.xt T rs);rw[<-G.K];exact vc h λ_=>rfl
end
end L2
namespace L2.B
open PySem PySem.Spec PyProof.Rows
end L2.B
namespace L2
open PySem PySem.Spec PyProof.Rows
section
variable {X:Cx}
def yY(K:Frag):List V->Hp->VK->Prop:=λxs H Q=>∃(p:Addr) (bs:List Bool),xs=[.ref p]/\ar K H p (bs.map V.bl)/\Q (.bl<|bs.any id) H
theorem any_range(bs:List Bool):((List.range bs.length).any λi=>(bs[i]?).getD false)=bs.any id:=by
 rw[zaH,zbD,zbD]
 constructor
 ·rintro⟨i,hi,h⟩;have hi:=zaU.mp hi;exact⟨_,zaQ hi,by simpa[hi] using h⟩
 ·rintro⟨b,hb,h⟩;obtain⟨i,hi,rfl⟩:=zbm hb;exact⟨i,zaU.mpr hi,by simpa[hi] using h⟩
theorem Zy(hc:X.calm=true):cj X (.builtin "any") (yY X.K):=by
 intro pins s σ H xs us Q I r h;obtain⟨p,bs,rfl,hq,q⟩:=h;obtain⟨u,rfl,ru⟩:=vals1 r;cases ru;obtain⟨its,rv,pl,hz⟩:=I.list hq;have e:=CQ rv;subst e;have aU: @LT.lt Nat _ p s.heap.objs.size:=by obtain⟨_,e,_⟩:=pl.isList;exact Heap.lt_size e
 refine call_any_walk<|wpAny_pyIter_list pl.isList ?_;refine⟨s.heap.objs.size,[s.heap.objs.size,p],[s.heap.objs.size],(bs.map Value.bool).toArray.size,_,_,λi=>(bs[i]?).getD false,rfl,
  Walks.list (A:=X.A.in1) (I.ok.hd hc) _ p (zaf aU) _,⟨⟨_,Heap.get?_push_size _ rfl,rfl,rfl⟩,pl.isList.push _⟩,λi v s' Q' E' hP hQ=>?_,λh' tk hk=>?_⟩
 ·have kj:(bs.map Value.bool)[i]?=some v:=by simpa using hP
  rw[zaz] at kj;cases eb:bs[i]? with
  |none=>rw[eb] at kj;cases kj
  |some b=>
   rw[eb] at kj;cases kj;have vq:Q' ((bs[i]?).getD false) s':=hQ;rw[eb] at vq;exact wpAny_truthy_bool vq
 ·have e:((List.range (bs.map Value.bool).toArray.size).any λi=>(bs[i]?).getD false)=bs.any id:=by
   have e0:(bs.map Value.bool).toArray.size=bs.length:=by simp
   rw[e0];exact any_range bs
  rw[e];exact⟨.bl _,H,I.kept λb o e=>hk b o (λhm=>by rw[zad.mp hm] at e;exact zay _ (Heap.lt_size e))<|Heap.get?_push_of_some _ e,rfl,q⟩
theorem Zz:bootBuiltins "any"=some (.builtin "any"):=rfl
end
def CU:Frag->TA->TE:=λK t=>eT (yY K) t
section
variable {CX:cb}{S:c_}{Γ:bo}{X:Cx}{e:Expr}{es:List Expr}{x:Str}{p pos:Pos}{r:RE}{rs:List RE}
theorem ZA(G:Good CX S Γ X)(hA:PA X (e::es) (aW Γ (r::rs)))(h:kB S x "any"=true:=by kernel_rfl)(hn:fg (e::es)=true:=by kernel_rfl)(hq:S.md=0:=by rfl):PE X (.Call (.Name x p) (e::es) [] pos) (ak Γ<|.xt CU (r::rs)):=by
 simp only[kB,zab,decide_eq_true_eq] at h
 obtain⟨⟨rfl,h2⟩,h3⟩:=h;show PE X _ (eT (yY Γ.K)<|aW Γ (r::rs));rw[<-G.K];exact nW (Zy<|G.calm hq) (G.gl h2) (G.eP _ h3) Zz hA (by decide) (rfl) (dv (cG hn).1)<|ib _ _ es (cG hn).2
end
end L2
namespace L2.B
open PySem PySem.Spec PyProof.Rows
def oF:List Str:=["cursor"]
noncomputable def K7:List RS:=
 [.ret<|.blt .min [(.ix (.v 0)<|.c<|.int 0),(.ix (.v 0)<|.c<|.int 1)]]
def ZC:List Str:=["min"]
noncomputable def K8:List RS:=
 [.ret<|.blt .max [(.ix (.v 0)<|.c<|.int 0),(.ix (.v 0)<|.c<|.int 1)]]
noncomputable def K9:List RS:=
 [.ret<|.cmp .Eq (.ix (.v 0)<|.c<|.int 0)<|.ix (.v 0)<|.c<|.int 1]
noncomputable def CV:List RS:=
 [.ret<|.or [(.cmp .Is (.v 0)<|.c .aB),(.and [(.call 0 [.v 0]),(.cmp .GtE (.v 0)<|.c<|.int 0)])]]
def CW:List Str:=["thing","size"]
noncomputable def CY:List RS:=
 [.ite (.or [(.not (.dr .tuple (.v 0))),(.cmp .NotEq (.blt .len [.v 0]) (.c (.int 3)))]) [.ret (.c (.bl false))] [],
 .ret (.and [(.call 0 [(.ix (.v 0) (.c (.int 0))),(.c (.int 0)),.v 1]),(.call 0 [(.ix (.v 0) (.c (.int 1))),(.c (.int 0)),.v 1]),(.call 1 [(.ix (.v 0) (.c (.int 2)))])])]
def ZD:List Str:=["is_between","is_goal"]
def K_:List Str:=["begin","end","cursor"]
noncomputable def La:List RS:=
 [.ite (.cmp .Eq (.call 0 [.v 2]) (.v 1)) [.ret (.or [(.cmp .Eq (.v 0) (.v 1)),(.call 1 [.v 2])])] [],
 .ret (.cmp .Lt (.call 0 [.v 2]) (.v 1))]
def ZE:List Str:=["begin_of","is_empty"]
def CZ:List Str:=["size","cursors"]
noncomputable def C0:List RS:=
 [.ite (.or [(.not (.dr .list (.v 1))),(.not (.lL .LtE .LtE (.c (.int 1)) (.blt .len [.v 1]) (.g 0)))]) [.iG 0 [(.c (.str "cursors are a list of 1 to 40"))]] [],
 .ite (.not<|.xt CS [(.comp none [("size",0)] .list [.v 1] none<|.call 0 [.v 0,.v 1])]) [.iG 0 [(.c<|.str "a cursor is a tuple of two places of the text and a goal")]] [],
 .ite (.xt CU [(.comp (some 2) [] .zip [.v 1,(.sl (.v 1) (some (.c (.int 1))) none)] none (.call 1 [(.call 2 [.v 0]),(.call 3 [.v 0]),.v 1]))]) [.iG 0 [(.c (.str "cursors rise by their begins, and no two neighbours meet"))]] []]
def ZF:List Str:=["is_cursor","meet","begin_of","end_of"]
def ZG:List Str:=["MOST_CURSORS"]
def ZH:List Str:=["isinstance","list","len","all","any","zip"]
def ZI:List Str:=["NoCursor"]
end L2.B
namespace L2.ij
open PySem PySem.W PyProof.Rows
structure Ord (n:Nat) (lt:Nat->Nat->Bool):Prop where
 ba:∀i j,i<n->j<n->i≠j->lt i j=true\/lt j i=true
 ZJ:∀i j,i<n->j<n->lt i j=true->lt j i=false
 tr:∀i j k,i<n->j<n->k<n->lt i j=true->lt j k=true->lt i k=true
def at'(p:Array Nat)(i:Nat):Nat:=p.getD i 0
structure Pm (n:Nat) (p:Array Nat):Prop where
 sz:p.size=n
 pm:p.toList.Perm (List.range n)
theorem vv{i:Nat}(h:i<p.size):at' p i=p[i]:=by simp[at',Array.getD,h]
theorem vw{i:Nat}(h:p[i]?=q[j]?):at' p i=at' q j:=by
 unfold at';rw[Array.getD_eq_getD_getElem?,Array.getD_eq_getD_getElem?,h]
section
variable {n:Nat}{lt:Nat->Nat->Bool}{p:Array Nat}
theorem Pm.inR(P:Pm n p){i:Nat}(h:i<n):at' p i<n:=by
 have hs:=P.sz▸h
 rw[vv hs];have hm:p[i]∈p.toList:=by simp
 exact zaU.mp<|P.pm.subset hm
theorem Pm.ne(P:Pm n p){i:Nat}(hi:i<n)(hj:j<n)(h:i≠j):at' p i≠at' p j:=by
 rw[vv (P.sz▸hi),vv (P.sz▸hj)];intro e;have e2:=by simpa using e
 exact h<|(List.getElem_inj (P.pm.nodup_iff.mpr List.nodup_range)).mp e2
theorem Pm.perm(P:Pm n p){q:Array Nat}(h:q.Perm p):Pm n q:=⟨by rw[h.size_eq,P.sz],h.toList.trans P.pm⟩
def Up(lt:Nat->Nat->Bool)(p:Array Nat)(k:Nat):Prop:= ∀i j,i<j->j<k->lt (at' p i) (at' p j)=true
def Dn(lt:Nat->Nat->Bool)(p:Array Nat)(k:Nat):Prop:= ∀i j,i<j->j<k->lt (at' p j) (at' p i)=true
theorem Up.snoc(O:Ord n lt)(P:Pm n p){k:Nat}(U:Up lt p k)(hk:k<n)(h1:1<=k)(h:lt (at' p k) (at' p<|k - 1)=false):Up lt p (k+1):=by
 intro i j km hj;by_cases e:j=k
 ·subst e;have l1:lt (at' p<|j - 1) (at' p j)=true:=by
   rcases O.ba _ _ (P.inR (i:=j - 1) (by lia)) (P.inR hk) (P.ne (by lia) hk (by lia)) with z|z
   ·exact z
   ·rw[z] at h;cases h
  by_cases e2:i=j - 1
  ·rw[e2];exact l1
  ·exact O.tr _ _ _ (P.inR (by lia)) (P.inR (by lia)) (P.inR hk) (U i (j - 1) (by lia) (by lia)) l1
 ·exact U i j km (by lia)
theorem Dn.snoc(O:Ord n lt)(P:Pm n p){k:Nat}(U:Dn lt p k)(hk:k<n)(h1:1<=k)(h:lt (at' p k) (at' p<|k - 1)=true):Dn lt p (k+1):=by
 intro i j km hj;by_cases e:j=k
 ·subst e;by_cases e2:i=j - 1
  ·rw[e2];exact h
  ·exact O.tr _ _ _ (P.inR hk) (P.inR (by lia)) (P.inR (by lia)) h (U i (j - 1) (by lia) (by lia))
 ·exact U i j km (by lia)
theorem Up.one:Up lt p 1:=λi j km hj=>by lia
variable {cmp:Nat->Nat->(Bool->Shared->Prop)->Shared->Prop}{R:Shared->Prop}
def oG(n:Nat)(lt:Nat->Nat->Bool)(cmp:Nat->Nat->(Bool->Shared->Prop)->Shared->Prop)(R:Shared->Prop):Prop:=
 ∀i j (C:Bool->Shared->Prop),i<n->j<n->i≠j->(∀s,R s->C (lt i j) s)->∀s,R s->cmp i j C s
def TR(cmp:Nat->Nat->(Bool->Shared->Prop)->Shared->Prop)(R:Shared->Prop){α:Type}(t:KasT α)(P:α->Prop):Prop:= ∀Q:α->Shared->Prop,(∀a s,P a->R s->Q a s)->∀s,R s->t.kasWp cmp Q s
theorem TR.ret{a:α}{P:α->Prop}(h:P a):TR cmp R (.ret a) P:=λQ q s r=>q a s h r
theorem TR.ask{i j:Nat}{k:Bool->KasT α}{P:α->Prop}(A:oG n lt cmp R)(hi:i<n)(hj:j<n)(ne:i≠j)(h:TR cmp R (k<|lt i j) P):TR cmp R (.ask i j k) P:=λQ q s r=>A i j _ hi hj ne (λs' r'=>h Q q s' r') s r
theorem TR.bind{t:KasT α}{f:α->KasT β}{P1:α->Prop}{P:β->Prop}(h:TR cmp R t P1)(h2:∀a,P1 a->TR cmp R (f a) P):TR cmp R (t.bind f) P:=λQ q s r=>by
 rw[KasT.kasWp_bind];exact h _ (λa s' p1 r'=>h2 a p1 Q q s' r') s r
theorem TR.mono{t:KasT α}{P P':α->Prop}(h:TR cmp R t P)(hp:∀a,P a->P' a):TR cmp R t P':=λQ q s r=>h Q (λa s' pa r'=>q a s' (hp a pa) r') s r
theorem C2(O:Ord n lt)(A:oG n lt cmp R)(P:Pm n p):∀(f k:Nat),1<=k->k+f=n->Up lt p k->TR cmp R (kas_asc p f k) λm=>k<=m/\m<=n/\Up lt p m/\(m=n\/lt (at' p m) (at' p<|m - 1)=true):=by
 intro f;induction f with
 |zero=>exact λk h1 h2 U=>TR.ret ⟨zqR _,by lia,U,.inl (by lia)⟩
 |succ f ih=>
  intro k h1 h2 U
  refine TR.ask A (P.inR (by lia)) (P.inR (by lia)) (P.ne (by lia) (by lia) (by lia)) ?_
  cases hc:lt (p.getD k 0) (p.getD (k - 1) 0) with
  |true=>exact TR.ret ⟨zqR _,by lia,U,.inr hc⟩
  |false=>exact(ih (k+1) (by lia) (by lia)<|U.snoc O P (by lia) h1 hc).mono λm ⟨a,b,c,d⟩=>⟨by lia,b,c,d⟩
theorem Lb(O:Ord n lt)(A:oG n lt cmp R)(P:Pm n p):∀(f k:Nat),1<=k->k+f=n->Dn lt p k->TR cmp R (kas_desc f p k 0) λr=>r.1=p/\r.2.2=0/\k<=r.2.1/\r.2.1<=n/\Dn lt p r.2.1:=by
 intro f;induction f with
 |zero=>exact λk h1 h2 U=>TR.ret ⟨rfl,rfl,zqR _,by lia,U⟩
 |succ f ih=>
  intro k h1 h2 U
  refine TR.ask A (P.inR (by lia)) (P.inR (by lia)) (P.ne (by lia) (by lia) (by lia)) ?_
  cases hc:lt (p.getD k 0) (p.getD (k - 1) 0) with
  |true=>
   exact(ih (k+1) (by lia) (by lia)<|U.snoc O P (by lia) h1 hc).mono λr ⟨a,b,c,d,e⟩=>⟨a,b,by lia,d,e⟩
  |false=>
   have l1:lt (p.getD (k - 1) 0) (p.getD k 0)=true:=by
    rcases O.ba _ _ (P.inR (i:=k - 1) (by lia)) (P.inR (i:=k) (by lia)) (P.ne (by lia) (by lia) (by lia)) with z|z
    ·exact z
    ·have z':lt (p.getD k 0) (p.getD (k - 1) 0)=true:=z;rw[z'] at hc;cases hc
   refine TR.ask A (P.inR (by lia)) (P.inR (by lia)) (P.ne (by lia) (by lia) (by lia)) ?_
   rw[l1];exact TR.ret ⟨rfl,rfl,zqR _,by lia,U⟩
theorem Lc(hm:m<=p.size):at' (kas_rev p 0 m) i=if i<m then at' p (m - 1 - i) else at' p i:=by
 have e:=getElem?_mirror_all (i:=0) hm i;by_cases h:i<m
 ·rw[if_pos ⟨zqZ _,h⟩,show 0+m - 1 - i=m - 1 - i by lia] at e
  rw[if_pos h];exact vw e
 ·rw[if_neg λz=>h z.2] at e;rw[if_neg h];exact vw e
theorem Dn.rev(hm:m<=p.size)(U:Dn lt p m):Up lt (kas_rev p 0 m) m:=by
 intro i j km hj;rw[Lc hm,Lc hm,if_pos (by lia),if_pos hj]
 exact U (m - 1 - j) (m - 1 - i) (by lia) (by lia)
theorem Pm.rev(P:Pm n p)(m:Nat):Pm n (kas_rev p 0 m):=P.perm (mirror_perm _ _ _ _)
def Good(n:Nat)(lt:Nat->Nat->Bool)(r:Nat×Array Nat):Prop:=1<=r.1/\r.1<=n/\Pm n r.2/\Up lt r.2 r.1
theorem ZK(O:Ord n lt)(A:oG n lt cmp R)(P:Pm n p)(hn:1<=n):TR cmp R (kas_count n p) (Good n lt):=by
 refine TR.bind (C2 O A P (n - 1) 1 (zqR _) (by lia) Up.one) λm ⟨h1,h2,U,h3⟩=>?_
 by_cases e:m=n
 ·rw[if_pos (by lia)]
  exact TR.ret ⟨h1,h2,P,U⟩
 ·rw[if_neg (by lia)]
  have hd:lt (at' p m) (at' p<|m - 1)=true:=by lia
  by_cases g:m>1
  ·rw[if_pos g];refine TR.ask A (P.inR (by lia)) (P.inR (by lia)) (P.ne (by lia) (by lia) (by lia)) ?_
   have c:=U 0 (m - 1) (by lia) (by lia)
   have c':lt (p.getD 0 0) (p.getD (m - 1) 0)=true:=c;rw[c'];exact TR.ret ⟨h1,h2,P,U⟩
  ·have em:m=1:=by lia
   subst em;have D2:Dn lt p 2:=by
    intro i j km hj;have e1:i=0:=by lia
    have e2:j=1:=by lia
    subst e1 e2;exact hd
   refine TR.bind (Lb O A P (n - (1+1)) (1+1) (by lia) (by lia) D2) λr ⟨a,b,c,d,f⟩=>?_
   rw[if_neg (by lia),a]
   refine TR.bind (C2 O A (P.rev r.2.1) (n - r.2.1) r.2.1 (by lia) (by lia) (f.rev (P.sz▸d))) λm2 ⟨a1,a2,a3,a4⟩=>?_
   exact TR.ret ⟨by lia,a2,P.rev _,a3⟩
theorem C8(O:Ord n lt)(A:oG n lt cmp R)(P:Pm n p){k:Nat}(hk:k<n)(U:Up lt p k):∀(f l r:Nat),r<=k->l<=r->r - l<=f->(∀i,i<l->lt (at' p i) (at' p k)=true)->(∀i,r<=i->i<k->lt (at' p k) (at' p i)=true)->
  TR cmp R (kas_place p k f l r) λm=>m<=k/\(∀i,i<m->lt (at' p i) (at' p k)=true)/\∀i,m<=i->i<k->lt (at' p k) (at' p i)=true:=by
 intro f;induction f with
 |zero=>exact λl r h1 h2 h3 ha hb=>TR.ret ⟨by lia,ha,λi hi=>hb i (by lia)⟩
 |succ f ih=>
  intro l r h1 h2 h3 ha hb
  unfold kas_place;by_cases e:l≥r
  ·rw[if_pos e];exact TR.ret ⟨by lia,ha,λi hi=>hb i (by lia)⟩
  ·rw[if_neg e];have hm:(l+r) / 2<k:=by lia
   refine TR.ask A (P.inR hk) (P.inR (by lia)) (P.ne hk (by lia) (by lia)) ?_
   cases hc:lt (p.getD k 0) (p.getD ((l+r) / 2) 0) with
   |true=>
    refine ih l ((l+r) / 2) (by lia) (by lia) (by lia) ha λi hi Ld=>?_
    by_cases e2:i=(l+r) / 2
    ·rw[e2];exact hc
    ·exact O.tr _ _ _ (P.inR hk) (P.inR (by lia)) (P.inR (by lia)) hc (U _ i (by lia) Ld)
   |false=>
    have l1:lt (at' p<|(l+r) / 2) (at' p k)=true:=by
     rcases O.ba _ _ (P.inR (i:=(l+r) / 2) (by lia)) (P.inR hk) (P.ne (by lia) hk (by lia)) with z|z
     ·exact z
     ·have z':lt (p.getD k 0) (p.getD ((l+r) / 2) 0)=true:=z;rw[z'] at hc;cases hc
    refine ih ((l+r) / 2+1) r h1 (by lia) (by lia) (λi hi=>?_) hb
    by_cases e2:i=(l+r) / 2
    ·rw[e2];exact l1
    ·exact O.tr _ _ _ (P.inR (by lia)) (P.inR (by lia)) (P.inR hk) (U i _ (by lia) (by lia)) l1
theorem Le(hk:k<p.size)(hm:m<=k):at' (bubble p k<|k - m) i=if i=m then at' p k else if m<i/\i<=k then at' p (i - 1) else at' p i:=by
 have e:=getElem?_bubble hk (k - m) (by lia) i
 rw[show k - (k - m)=m by lia] at e
 by_cases h:i=m
 ·rw[if_pos h] at e⊢;exact vw e
 ·rw[if_neg h] at e⊢;by_cases g:m<i/\i<=k
  ·rw[if_pos g] at e⊢;exact vw e
  ·rw[if_neg g] at e⊢;exact vw e
theorem Lf(O:Ord n lt)(A:oG n lt cmp R):∀(f k:Nat) (p:Array Nat),Pm n p->k+f=n->Up lt p k->TR cmp R (kas_bin f p k) λq=>Pm n q/\Up lt q n:=by
 intro f;induction f with
 |zero=>exact λk p P h U=>TR.ret ⟨P,by lia⟩
 |succ f ih=>
  intro k p P h U
  have hk:k<n:=by lia
  refine TR.bind (C8 O A P hk U k 0 k (zqR _) (zqZ _) (by lia) (λi hi=>by lia) (λi hi Ld=>by lia)) λm ⟨hm,ha,hb⟩=>?_
  refine ih (k+1) _ (P.perm<|bubble_perm _ _ _) (by lia) ?_
  intro i j km hj;have hs:=P.sz▸hk
  rw[Le hs hm,Le hs hm];by_cases e1:i=m
  ·rw[if_pos e1,if_neg (by lia),if_pos (by lia)]
   exact hb (j - 1) (by lia) (by lia)
  ·rw[if_neg e1];by_cases e2:j=m
   ·rw[if_pos e2,if_neg (by lia)]
    exact ha i (by lia)
   ·rw[if_neg e2];by_cases e3:m<i/\i<=k
    ·rw[if_pos e3,if_pos (by lia)]
     exact U (i - 1) (j - 1) (by lia) (by lia)
    ·rw[if_neg e3];by_cases e4:m<j/\j<=k
     ·rw[if_pos e4];exact U i (j - 1) (by lia) (by lia)
     ·rw[if_neg e4];exact U i j km (by lia)
theorem ZL(O:Ord n lt)(A:oG n lt cmp R)(hn:1<=n):TR cmp R (kas_sort n) λq=>Pm n q/\Up lt q n:=by
 have P0:Pm n (List.toArray<|List.range n):=⟨by simp,List.Perm.refl _⟩
 refine TR.bind (ZK O A P0 hn) λr ⟨h1,h2,P,U⟩=>?_;by_cases e:r.1<n
 ·rw[if_pos e,show max r.1 1=r.1 by lia]
  exact Lf O A _ _ _ P (by lia) U
 ·rw[if_neg e];exact TR.ret ⟨P,by rw[show n=r.1 by lia];exact U⟩
end
end L2.ij
namespace L2
open PySem PySem.Spec PyProof.Rows PySem.W L2.ij
abbrev T3:=Int×Int×Int
def d5(a b:T3):Bool:=decide (a.1<b.1)||(a.1==b.1 && (decide (a.2.1<b.2.1)||(a.2.1==b.2.1 && decide (a.2.2<b.2.2))))
def oH(ts:List T3)(i j:Nat):Bool:=d5 (ts.getD i (0,0,0)) (ts.getD j (0,0,0))
theorem yZ:d5 a b=true↔a.1<b.1\/(a.1=b.1/\(a.2.1<b.2.1\/(a.2.1=b.2.1/\a.2.2<b.2.2))):=by
 unfold d5;simp
theorem ZM(h1:d5 a b=true)(h2:d5 b c=true):d5 a c=true:=by
 rw[yZ] at*;lia
theorem Lg(h:d5 a b=true):d5 b a=false:=by
 cases e:d5 b a with
 |false=>rfl
 |true=>rw[yZ] at*;lia
theorem ZN(h:a≠b):d5 a b=true\/d5 b a=true:=by
 rw[yZ,yZ];obtain⟨a1,a2,a3⟩:=a;obtain⟨b1,b2,b3⟩:=b;have:¬(a1=b1/\a2=b2/\a3=b3):=λ⟨x,y,z⟩=>h (by lia)
 lia
theorem ZO{ts:List T3}(nd:ts.Nodup):Ord ts.length (oH ts) where
 ba i j hi hj ne:=by
  refine ZN ?_;have e1:ts.getD i (0,0,0)=ts[i]:=by simp[hi]
  have e2:ts.getD j (0,0,0)=ts[j]:=by simp[hj]
  rw[e1,e2];exact λe=>ne<|(List.getElem_inj nd).mp e
 ZJ i j _ _ h:=Lg h
 tr i j k _ _ _ h1 h2:=ZM h1 h2
def TupAt(h:Heap)(v:Value)(t:T3):Prop:= ∃a o n t1 t2 t3,v=.ref a/\h.get? a=some o/\o.cls=.type "tuple"/\o.data=.seq #[.int t.1 t1,.int t.2.1 t2,.int t.2.2 t3] n
theorem TupAt.kept{v:Value}{t:T3}(x:TupAt h v t)(k:∀b o,h.get? b=some o->o.cls=.type "tuple"->h'.get? b=some o):TupAt h' v t:=by
 obtain⟨a,o,n,t1,t2,t3,zq⟩:=qx6 x;obtain⟨rfl,e,c,d⟩:=qa4 zq;exact⟨a,o,n,t1,t2,t3,rfl,k _ _ e c,c,d⟩
section
variable {prog:Program}{w:World}{A:Around}{E:Value->Shared->Prop}{s:Shared}{vs:List Value}{ts:List T3}
theorem Lh:∀{vs:List Value}{ts:List T3},Paired (TupAt s.heap) vs ts->∃fs,KatTups s.heap vs fs/\fs.length=ts.length/\∀v∈fs,∃n t,v=.int n t:=by
 intro vs ts p;induction p with
 |nil=>exact⟨[],KatTups.nil,rfl,nofun⟩
 |cons x r ih=>
  obtain⟨a,o,n,t1,t2,t3,zq⟩:=qx6 x;obtain⟨rfl,e,c,d⟩:=qa4 zq;obtain⟨fs,k,l,f⟩:=ih;refine⟨.int _ t1::fs,KatTups.cons e c d (rfl) k,by rw[zau,zau,l],λv hv=>?_⟩
  rcases zaa.mp hv with rfl|hv
  ·exact⟨_,_,rfl⟩
  ·exact f v hv
theorem C9:∀{vs:List Value}{ts:List T3},Paired (TupAt h) vs ts->∀i,i<ts.length->TupAt h (vs.getD i Value.none) (ts.getD i (0,0,0)):=by
 intro vs ts p;induction p with
 |nil=>exact λi hi=>absurd hi (zbE _)
 |cons x r ih=>exact λi hi=>by cases i with|zero=>exact x|succ i=>exact ih i (by simpa using hi)
theorem ZP{y:Value}{a b:T3}{Q:Bool->Shared->Prop}(hx:TupAt s.heap x a)(hy:TupAt s.heap y b)(q:Q (d5 a b) s):wpAny (model prog w) A (keyLt' (tuples' true) x y) Q E s:=by
 obtain⟨ax,ox,n,u1,u2,u3,zq⟩:=qx6 hx;obtain⟨rfl,ex,cx,dx⟩:=qa4 zq;obtain⟨ay,oy,m,v1,v2,v3,zq⟩:=qx6 hy;obtain⟨rfl,ey,cy,dy⟩:=qa4 zq;refine kat_lt ex dx ey dy ?_;have lt:∀{p r:Int}{t u:Tok}{Q:Bool->Shared->Prop},Q (decide<|p<r) s->wpAny (model prog w) A (oneLt' false (.int p t) (.int r u)) Q (λ_ _=>False) s:=λh=>kat_one _ _ (PyProof.Rows.lt_int h);refine kat_cons<|wpAny_eqBool_int<|kat_go (λe=>kat_yes ?_) λe=>kat_no (oneLt_int ?_)
 ·have e1:a.1=b.1:=by simpa using e
  refine kat_cons<|wpAny_eqBool_int<|kat_go (λe=>kat_yes ?_) λe=>kat_no (lt ?_)
  ·have e2:a.2.1=b.2.1:=by simpa using e
   refine kat_cons<|wpAny_eqBool_int<|kat_go (λe=>kat_yes<|kat_nil ?_) λe=>kat_no (lt ?_)
   ·have e3:a.2.2=b.2.2:=by simpa using e
    have:d5 a b=false:=by unfold d5;simp[e1,e2,e3]
    rw[this] at q;exact q
   ·have:d5 a b=decide (a.2.2<b.2.2):=by unfold d5;simp[e1,e2]
    rw[this] at q;exact q
  ·have e2:=by simpa using e
   have:d5 a b=decide (a.2.1<b.2.1):=by unfold d5;simp[e1,e2]
   rw[this] at q;exact q
 ·have e1:¬a.1=b.1:=by simpa using e
  have:d5 a b=decide (a.1<b.1):=by unfold d5;simp[e1]
  rw[this] at q;exact q
def vx(vs:List Value)(p:Array Nat):List Value:=p.toList.map λi=>vs.getD i Value.none
theorem ZQ(ho:s.heap.get? a=some (seqObj "list" vs.toArray n))(ht:Paired (TupAt s.heap) vs ts)(nd:ts.Nodup)(y9:vs.length<64)
  (h:∀p,Pm ts.length p->Up (oH ts) p ts.length->P (.done<|.ret .none) {s with heap:=sortedHeap s.heap a vs (vx vs p).toArray}):
  wpAny (model prog w) A (Builtin.«list.sort» ⟨[.ref a],[]⟩) P E s:=by
 have hlen:vs.length=ts.length:=Paired.length ht;rw[list_sort_plain];have ha:a<s.heap.objs.size:=Heap.lt_size ho;refine wpAny_bind<|listItems_at ho rfl ?_;refine wpAny_bind<|listUpdate_at ho rfl ?_ (by rw[zag,sizeLine_eq];lia)<|zqZ _
 obtain⟨e1,kb⟩:∃e1,(s.heap.update a<|Obj.mapSeq λ_=> #[]).get? a=some (seqObj "list" #[] e1):=⟨_,get?_update_seq ho<|λ_=> #[]⟩;refine wpAny_bind<|seqEpoch_at kb rfl ?_;refine wpAny_bind<|wpAny_newTuple ?_ (by show vs.length<=_;rw[sizeLine_eq];lia)
 refine wpAny_bind<|wpAny_newList ?_<|zqZ _;refine wpAny_holding ?_;have y_:(((s.heap.update a<|Obj.mapSeq λ_=> #[]).push<|seqObj "tuple" vs.toArray 0).push<|seqObj "list" #[] 0).get? a=some (seqObj "list" #[] e1):=by
  rw[Heap.get?_push_ne _ _ _ (by rw[size_push',Heap.size_update];exact zaf (zaS ha)),Heap.get?_push_ne _ _ _ (by rw[Heap.size_update];exact zaf ha)]
  exact kb
 have keep:∀b o,s.heap.get? b=some o->o.cls=.type "tuple"->(((s.heap.update a<|Obj.mapSeq λ_=> #[]).push<|seqObj "tuple" vs.toArray 0).push<|seqObj "list" #[] 0).get? b=some o:=λb o e c=>by
  have hb:b≠a:=λz=>by
   subst z;rw[ho] at e;cases e;exact absurd c (by lia)
  have aU:b<s.heap.objs.size:=Heap.lt_size e;rw[Heap.get?_push_ne _ _ _ (by rw[size_push',Heap.size_update];exact zaf (zaS aU)),Heap.get?_push_ne _ _ _ (by rw[Heap.size_update];exact zaf aU),Heap.get?_update_ne _ _ _ _ hb]
  exact e
 dsimp only
 have iS:vs.toArray.size=vs.length:=by simp
 by_cases h2:vs.toArray.size<2
 ·rw[if_pos h2,if_pos h2];refine wpAny_bind<|wpAny_pure ?_;rw[StateT.run_pure];refine wpAny_bind<|wpAny_pure ?_
  dsimp only
  refine wpAny_bind<|seqEpoch_at y_ rfl ?_;refine wpAny_bind<|listUpdate_at y_ rfl ?_ (hsz2:=by rw[Array.size_map];show(pairsOf vs).size<=_;rw[pairsOf_size,sizeLine_eq];lia)
  simp only[bne_self_eq_false,zaR,if_false]
  refine wpAny_pure ?_;have h':=h (List.toArray<|List.range ts.length) ⟨by simp,List.Perm.refl _⟩ (λi j km hj=>by lia)
  have e:=by
   have hz:(vs.toArray.zip vs.toArray).size=ts.length:=by rw[<-hlen];simp
   have hr:=kas_range (vs.toArray.zip vs.toArray);rw[hz] at hr;exact kat_snds (ks:=vs) (vs:=vs) (st:=SortSt.mk' general' (vs.toArray.zip vs.toArray) #[] 7 none) rfl hr.symm
  rw[e];exact h'
 ·rw[if_neg h2,if_neg h2];have i7:=L2.Paired.fZ ht λv t x=>x.kept keep;obtain⟨fs,kt,kl,kf⟩:=Lh (s:={s with heap:=((s.heap.update a<|Obj.mapSeq λ_=> #[]).push<|seqObj "tuple" vs.toArray 0).push (seqObj "list" #[] 0)}) i7
  refine wpAny_bind<|kat_kind kt (by lia) (T:=.type "int") (λv hv=>?_) (by rfl) ?_
  ·obtain⟨k,t,rfl⟩:=kf v hv;exact Looks.now
  have as:oG ts.length (oH ts) (kas_ask prog w A (tuples' true) vs) (λz=>z={s with heap:=((s.heap.update a<|Obj.mapSeq λ_=> #[]).push<|seqObj "tuple" vs.toArray 0).push (seqObj "list" #[] 0)}):=by
   rintro i j C hi hj ne hC z rfl;exact ZP (C9 i7 i hi) (C9 i7 j hj)<|hC _ rfl
  have ZR:=ZL (ZO nd) as (by lia)
  refine wpAny_bind (wpAny_mono (kat_run (κ:=tuples' true) (ks:=vs) (Q:=λgf s'=>∃p,Pm ts.length p/\Up (oH ts) p ts.length/\arrOf gf=p.map (kas_item (vs.toArray.zip vs.toArray))/\failedOf gf=none/\s'={s with heap:=((s.heap.update a (Obj.mapSeq λ_=> #[])).push (seqObj "tuple" vs.toArray 0)).push (seqObj "list" #[] 0)})
   (G:=λp s'=>(Pm ts.length p/\Up (oH ts) p ts.length)/\s'={s with heap:=((s.heap.update a<|Obj.mapSeq λ_=> #[]).push<|seqObj "tuple" vs.toArray 0).push (seqObj "list" #[] 0)})
   rfl (by lia) y9 (λp gf s' a1 a2 a3 a4=>⟨p,a4.1.1,a4.1.2,a2,a3,a4.2⟩) (by rw[hlen];exact ZR _ (λp s' hp hs=>⟨hp,hs⟩) _ rfl)) ?_ λ_ _ e=>e)
  rintro⟨⟨⟩,gf⟩ s' ⟨p,pm,up,ZS,hf,rfl⟩
  dsimp only
  have ZT:=kat_snds (ks:=vs) (vs:=vs) rfl ZS;rw[ZT];refine wpAny_bind<|seqEpoch_at y_ rfl ?_;refine wpAny_bind<|listUpdate_at y_ rfl ?_ (hsz2:=by rw[zag,zah,zbf,pm.sz,sizeLine_eq];lia)
  rw[hf]
  simp only[bne_self_eq_false,zaR,if_false]
  exact wpAny_pure<|h p pm up
theorem ZU{Q:Value->Shared->Prop}(hl:s.heap.IsList l vs.toArray)(ht:Paired (TupAt s.heap) vs ts)(nd:ts.Nodup)(y9:vs.length<64)
  (h:∀p,Pm ts.length p->Up (oH ts) p ts.length->Q (.ref<|s.heap.objs.size+1) {s with heap:=sortedAll s.heap vs (vx vs p).toArray}):
  wpAny (model prog w) A (call (.builtin "sorted") [.ref l]) Q E s:=by
 refine Calls.call_function_entry kind_sorted plain_sorted entry_sorted (args_sorted1 _) (wpAny_bind<|wpAny_pure (wpAny_bind<|collect_list hl ?_ (by rw[sizeLine_eq];lia)))
 refine wpAny_bind<|wpAny_newList ?_ (by rw[sizeLine_eq];lia)
 have iS:((s.heap.push<|seqObj "list" #[] 0).update s.heap.objs.size (Obj.mapSeq (· ++vs.toArray))).objs.size=s.heap.objs.size+1:=by
  rw[Heap.size_update,size_push']
 have xv:(((s.heap.push<|seqObj "list" #[] 0).update s.heap.objs.size (Obj.mapSeq (· ++vs.toArray))).push<|seqObj "list" vs.toArray 0).get? (s.heap.objs.size+1)=some (seqObj "list" vs.toArray 0):=by
  rw[<-iS];exact Heap.get?_push_size _ rfl
 have keep:∀b o,s.heap.get? b=some o->o.cls=.type "tuple"->(((s.heap.push<|seqObj "list" #[] 0).update s.heap.objs.size (Obj.mapSeq (· ++vs.toArray))).push<|seqObj "list" vs.toArray 0).get? b=some o:=λb o q _=>by
  have aU:=Heap.lt_size q;rw[Heap.get?_push_ne _ _ _ (by lia),Heap.get?_update_ne _ _ _ _<|zaf aU,Heap.get?_push_ne _ _ _<|zaf aU]
  exact q
 rw[iS];exact wpAny_bind<|wpAny_holding<|wpAny_call_entry slot_list_sort ⟨_,xv,rfl⟩ entry_list_sort (ZQ xv (L2.Paired.fZ ht λv t x=>x.kept keep) nd y9 λp a1 a2=>⟨_,rfl,wpAny_pure ⟨_,rfl,h p a1 a2⟩⟩)<|args_list_sort _
end
def V3(H:Hp)(v:V)(t:T3):Prop:= ∃a,v=.ref a/\H a=some (.tup [.int t.1,.int t.2.1,.int t.2.2])
def zc(K:Frag):List V->Hp->VK->Prop:=λxs H Q=>∃(p:Addr) (vs:List V) (ts:List T3),xs=[.ref p]/\ar K H p vs/\Paired (V3 H) vs ts/\ts.Nodup/\ts.length<64/\
 ∀(q:Addr) (zs:List V) (us:List T3),H q=none->Paired (V3 H) zs us->us.Perm ts->us.Pairwise (λa b=>d5 a b=true)->Q (.ref q) (upd H q<|.lst zs)
section
variable {X:Cx}
theorem Li:∀{vs:List V}{its:List Value},Vals vs its->∀i,RelV (vs.getD i .aB) (its.getD i Value.none):=by
 intro _ _ p;induction p with|nil=>exact λ_=>rfl|cons x r ih=>exact λi=>by cases i with|zero=>exact x|succ i=>exact ih i
theorem Lj{its:List Value}(h:Vals vs its):∀l:List Nat,Vals (l.map λi=>vs.getD i .aB) (l.map λi=>its.getD i Value.none)
 |[]=>.nil
 |i::l=>.cons (Li h i) (Lj h l)
theorem Lk:∀{vs:List V}{ts:List T3},Paired (V3 H) vs ts->∀i,i<ts.length->V3 H (vs.getD i .aB) (ts.getD i (0,0,0)):=by
 intro vs ts p;induction p with
 |nil=>exact λi hi=>absurd hi (zbE _)
 |cons x r ih=>exact λi hi=>by cases i with|zero=>exact x|succ i=>exact ih i (by simpa using hi)
theorem Ll{vs:List V}{ts:List T3}(h:Paired (V3 H) vs ts):∀l:List Nat,(∀i∈l,i<ts.length)->Paired (V3 H) (l.map λi=>vs.getD i .aB) (l.map λi=>ts.getD i (0,0,0))
 |[],_=>.nil
 |i::l,hl=>.cons (Lk h i<|hl i<|.head _) (Ll h l λj hj=>hl j (.tail _ hj))
theorem ZV(ts:List T3):((List.range ts.length).map λi=>ts.getD i (0,0,0))=ts:=by
 refine List.ext_getElem (by simp) λi h1 h2=>?_
 simp[h2]
theorem Lm{σ:St}{H:Hp}{s:Shared}(I:Inv X pins σ H s):∀{vs:List V}{its:List Value}{ts:List T3},Vals vs its->Paired (V3 H) vs ts->Paired (TupAt s.heap) its ts:=by
 intro _ _ ts p q;induction p generalizing ts with
 |nil=>cases q;exact .nil
 |cons x r ih=>cases q with|cons y r'=>
  refine .cons ?_<|ih r';obtain⟨a,rfl,ha⟩:=y;cases x;obtain⟨_,its,rv,o,e,c,n,d⟩:=I.aK a _ ha;cases rv with|cons x1 rv=>cases rv with|cons x2 rv=>cases rv with|cons x3 rv=>cases rv;obtain⟨t1,rfl⟩:=x1;obtain⟨t2,rfl⟩:=x2;obtain⟨t3,rfl⟩:=x3;exact⟨a,o,n,t1,t2,t3,rfl,e,c,d⟩
theorem ZW:cj X (.builtin "sorted") (zc X.K):=by
 intro pins s σ H xs us Q I r h;obtain⟨p,vs,ts,zq⟩:=qx3 h;obtain⟨rfl,hq,h3,nd,y9,q⟩:=qa6 zq;obtain⟨u,rfl,ru⟩:=vals1 r;cases ru;obtain⟨its,rv,pl,hz⟩:=I.list hq;have l1:=rv.length;have l2:=Paired.length h3;refine ZU pl.isList (Lm I rv h3) nd (by lia) λpr pm up=>?_
 obtain⟨e,he⟩:=sortedAll_at s.heap its (vx its pr).toArray;have hlp:pr.toList.length=ts.length:=by rw[zbf,pm.sz]
 have cQ:∀i∈pr.toList,i<ts.length:=λi hi=>zaU.mp (pm.pm.subset hi);refine⟨.ref<|s.heap.objs.size+1,_,I.laid (λb o e=>sortedAll_old e) (zaX _) (show da X.prog X.w _ _ _ (.lst<|pr.toList.map λi=>vs.getD i .aB) from⟨by rw[zah];lia,vx its pr,e,Lj rv _,he⟩),rfl,?_⟩
 refine q _ _ (pr.toList.map λi=>ts.getD i (0,0,0)) (I.aK.fresh<|zaX _) (Ll h3 _ cQ) ?_ ?_
 ·have:=pm.pm.map λi=>ts.getD i ((0,0,0):T3)
  rwa [ZV] at this
 ·rw[zbF];intro i j hi hj km;have cL:=by simpa using hi
  have bR:=by simpa using hj
  have:=up i j km (pm.sz▸bR)
  rw[vv cL,vv bR] at this
  simpa[oH] using this
theorem ZX:bootBuiltins "sorted"=some (.builtin "sorted"):=rfl
end
def ze:Frag->TA->TE:=λK t=>eT (zc K) t
section
variable {CX:cb}{S:c_}{Γ:bo}{X:Cx}{e:Expr}{es:List Expr}{x:Str}{p pos:Pos}{r:RE}{rs:List RE}
theorem Ln(G:Good CX S Γ X)(hA:PA X (e::es) (aW Γ (r::rs)))(h:kB S x "sorted"=true:=by kernel_rfl)(hn:fg (e::es)=true:=by kernel_rfl):PE X (.Call (.Name x p) (e::es) [] pos) (ak Γ<|.xt ze (r::rs)):=by
 simp only[kB,zab,decide_eq_true_eq] at h
 obtain⟨⟨rfl,h2⟩,h3⟩:=h;show PE X _ (eT (zc Γ.K)<|aW Γ (r::rs));rw[<-G.K];exact nW ZW (G.gl h2) (G.eP _ h3) ZX hA (by decide) (rfl) (dv (cG hn).1)<|ib _ _ es (cG hn).2
end
end L2
namespace L2
open PySem PySem.Spec PyProof.Rows
section
variable {prog:Program}{w:World}{A:Around}{E:Value->Shared->Prop}{s:Shared}{l:Addr}{xs:Array (Int×Tok)}
theorem Lo{Q:Value->Shared->Prop}(hl:s.heap.IsTuple l (intItems xs))
  (h:∀s₂:Shared,s₂={s with heap:=s.heap.push {cls:=.type "tuple_iterator",data:=.fields #[.ref l,.int 0 0]}}->
   (s₂.heap.IsTupleIter s.heap.objs.size l 0/\s₂.heap.IsTuple l (intItems xs))->(∀b∈ [s.heap.objs.size,l],b<s₂.heap.objs.size)->l≠s.heap.objs.size->Q (.ref s.heap.objs.size) s₂):
  wpAny (model prog w) A (pyIter<|.ref l) Q E s:=by
 have aU:l<s.heap.objs.size:=by obtain⟨_,e,_⟩:=hl;exact Heap.lt_size e
 refine wpAny_pyIter_tuple hl<|h _ rfl ⟨⟨_,Heap.get?_push_size _ rfl,rfl,rfl⟩,hl.push _⟩ (λb hb=>?_)<|zaf aU;rw[Heap.size_push];rcases zaa.mp hb with rfl|hb
 ·exact zbh _
 ·rcases zaa.mp hb with rfl|hb
  ·exact zaS aU
  ·cases hb
theorem Lp{h':Heap}(hk:∀b o,b∉ [s.heap.objs.size]->(s.heap.push {cls:=.type "tuple_iterator",data:=.fields #[.ref l,.int 0 0]}).get? b=some o->h'.get? b=some o):
  ∀b o,s.heap.get? b=some o->h'.get? b=some o:=λb o e=>by
 refine hk b o (λhm=>?_)<|Heap.get?_push_of_some _ e;rcases zaa.mp hm with e1|hm
 ·exact absurd (e1 ▸ Heap.lt_size e) (zay _)
 ·cases hm
theorem ZY{Q:Value->Shared->Prop}(hh:A.handled=none)(hl:s.heap.IsTuple l (intItems xs))(cP:0<xs.size)
  (h:∀v h' tk,(intItems xs)[argBest (λi j=>decide<|numAt xs i>numAt xs j)<|xs.size - 1]?=some v->(∀b o,s.heap.get? b=some o->h'.get? b=some o)->Q v {s with heap:=h',toks:=tk}):
  wpAny (model prog w) A (call (.builtin "max") [.ref l]) Q E s:=by
 refine call_max_walk<|Lo hl λs₂ e st C_ Dc=>?_;subst e;refine⟨_,_,_,_,_,_,_,rfl,Walks.tuple (A:=A.in1) hh _ l Dc<|intItems xs,st,C_,by simpa[intItems] using cP,CmpOf.ints_gt (numAt xs)<|λ_ _=>intItems_at,λv h' tk hP hk=>?_⟩
 exact h v h' tk (by simpa[intItems] using hP)<|Lp hk
theorem ZZ{Q:Value->Shared->Prop}(hh:A.handled=none)(hl:s.heap.IsTuple l (intItems xs))(cP:0<xs.size)
  (h:∀v h' tk,(intItems xs)[argBest (λi j=>decide<|numAt xs i<numAt xs j)<|xs.size - 1]?=some v->(∀b o,s.heap.get? b=some o->h'.get? b=some o)->Q v {s with heap:=h',toks:=tk}):
  wpAny (model prog w) A (call (.builtin "min") [.ref l]) Q E s:=by
 refine call_min_walk<|Lo hl λs₂ e st C_ Dc=>?_;subst e;refine⟨_,_,_,_,_,_,_,rfl,Walks.tuple (A:=A.in1) hh _ l Dc<|intItems xs,st,C_,by simpa[intItems] using cP,CmpOf.ints_lt (numAt xs)<|λ_ _=>intItems_at,λv h' tk hP hk=>?_⟩
 exact h v h' tk (by simpa[intItems] using hP)<|Lp hk
end
section
variable {X:Cx}
theorem Lq{s:Shared}{p:Addr}{ns:List Int}(I:Inv X pins σ H s)(hq:aM X.K H p (ns.map V.int)):∃xs:Array (Int×Tok),s.heap.IsTuple p (intItems xs)/\ns=xs.toList.map (·.1):=by
 obtain⟨its,rv,pl,hz⟩:=I.tuple hq;have hi:=intsAre_of rv;obtain⟨xs,hx⟩:=hi.allInts.items;refine⟨xs,hx ▸ pl,?_⟩;rw[<-nums_intItems,<-hx];exact(show numsOf its.toArray.toList=ns from hi.numsOf).symm
def zf(K:Frag):List V->Hp->VK->Prop:=λxs H Q=>∃(p:Addr) (ns:List Int),xs=[.ref p]/\aM K H p (ns.map V.int)/\ns≠ []/\∀m:Int,m∈ns->(∀n∈ns,m<=n)->Q (.int m) H
def zg(K:Frag):List V->Hp->VK->Prop:=λxs H Q=>∃(p:Addr) (ns:List Int),xs=[.ref p]/\aM K H p (ns.map V.int)/\ns≠ []/\∀m:Int,m∈ns->(∀n∈ns,n<=m)->Q (.int m) H
theorem Z0(hc:X.calm=true):cj X (.builtin "min") (zf X.K):=by
 intro pins s σ H xs us Q I r h;obtain⟨p,ns,rfl,hq,cP,q⟩:=h;obtain⟨u,rfl,ru⟩:=vals1 r;cases ru;obtain⟨xs,hl,rfl⟩:=Lq I hq;have sz:0<xs.size:=zbB λz=>cP (by rw[zbc z];rfl)
 refine ZZ (I.ok.hd hc) hl sz λv h' tk hv hk=>?_;obtain⟨t,rfl⟩:=intItems_at hv;obtain⟨b1,b2⟩:=u_ (numAt xs) (λi j=>decide<|numAt xs i<numAt xs j) (λ_ _=>rfl) (xs.size - 1);refine⟨.int _,H,I.kept hk,⟨t,rfl⟩,q _ (yH (by lia)) λn hn=>?_⟩
 obtain⟨i,hi,rfl⟩:=yI hn;exact b2 i (by lia)
theorem Z1(hc:X.calm=true):cj X (.builtin "max") (zg X.K):=by
 intro pins s σ H xs us Q I r h;obtain⟨p,ns,rfl,hq,cP,q⟩:=h;obtain⟨u,rfl,ru⟩:=vals1 r;cases ru;obtain⟨xs,hl,rfl⟩:=Lq I hq;have sz:0<xs.size:=zbB λz=>cP (by rw[zbc z];rfl)
 refine ZY (I.ok.hd hc) hl sz λv h' tk hv hk=>?_;obtain⟨t,rfl⟩:=intItems_at hv;obtain⟨b1,b2⟩:=u_ (λi=> - numAt xs i) (λi j=>decide<|numAt xs i>numAt xs j) (λi j=>decide_eq_decide.mpr (by lia)) (xs.size - 1)
 refine⟨.int _,H,I.kept hk,⟨t,rfl⟩,q _ (yH (by lia)) λn hn=>?_⟩
 obtain⟨i,hi,rfl⟩:=yI hn;have:=b2 i (by lia)
 lia
end
def vy:Frag->TA->TE:=λK t=>eT (zf K) t
def vz:Frag->TA->TE:=λK t=>eT (zg K) t
section
variable {CX:cb}{S:c_}{Γ:bo}{X:Cx}{e:Expr}{es:List Expr}{x:Str}{p pos:Pos}{r:RE}{rs:List RE}
theorem Lr(G:Good CX S Γ X)(hA:PA X (e::es) (aW Γ (r::rs)))(h:kB S x "min"=true:=by kernel_rfl)(hn:fg (e::es)=true:=by kernel_rfl)(hq:S.md=0:=by rfl):PE X (.Call (.Name x p) (e::es) [] pos) (ak Γ<|.xt vy (r::rs)):=by
 simp only[kB,zab,decide_eq_true_eq] at h
 obtain⟨⟨rfl,h2⟩,h3⟩:=h;show PE X _ (eT (zf Γ.K)<|aW Γ (r::rs));rw[<-G.K];exact nW (Z0<|G.calm hq) (G.gl h2) (G.eP _ h3) boot_min hA (by decide) (rfl) (dv (cG hn).1)<|ib _ _ es (cG hn).2
theorem Ls(G:Good CX S Γ X)(hA:PA X (e::es) (aW Γ (r::rs)))(h:kB S x "max"=true:=by kernel_rfl)(hn:fg (e::es)=true:=by kernel_rfl)(hq:S.md=0:=by rfl):PE X (.Call (.Name x p) (e::es) [] pos) (ak Γ<|.xt vz (r::rs)):=by
 simp only[kB,zab,decide_eq_true_eq] at h
 obtain⟨⟨rfl,h2⟩,h3⟩:=h;show PE X _ (eT (zg Γ.K)<|aW Γ (r::rs));rw[<-G.K];exact nW (Z1<|G.calm hq) (G.gl h2) (G.eP _ h3) boot_max hA (by decide) (rfl) (dv (cG hn).1)<|ib _ _ es (cG hn).2
end
end L2
namespace L2.B
open PySem PySem.Spec PyProof.Rows
noncomputable def Lu:List RS:=
 [.ret<|.cmp .Lt (.ix (.v 0)<|.c<|.int 1)<|.ix (.v 0)<|.c<|.int 0]
def Lv:List Str:=["cursors","order","groups","begin","end","number","group"]
noncomputable def Lw:List RS:=
 [.asg 1 (.xt ze [(.comp (some 2) [] .yq [.v 0] none (.tup [(.call 0 [.v 1]),(.call 1 [.v 1]),.v 0]))]),
 .asg 2 (.lst []),
 .hX [3,4,5] .list [.v 1] [.ite (.and [(.cmp .Gt (.blt .len [.v 2]) (.c (.int 0))),(.call 2 [(.ix (.ix (.v 2) (.neg (.c (.int 1)))) (.c (.int 0))),(.ix (.ix (.v 2) (.neg (.c (.int 1)))) (.c (.int 1))),(.ix (.v 0) (.v 5))])]) [.asg 6 (.bq .pop (.v 2) []),
   .drop (.bq .append (.v 2) [(.tup [(.ix (.v 6) (.c (.int 0))),(.blt .max [(.ix (.v 6) (.c (.int 1))),.v 4]),(.bin .Add (.ix (.v 6) (.c (.int 2))) (.lst [.v 5]))])])] [.drop (.bq .append (.v 2) [(.tup [.v 3,.v 4,(.lst [.v 5])])])]],
 .ret (.v 2)]
def Z2:List Str:=["begin_of","end_of","meet"]
def Z3:List Str:=["sorted","enumerate","len","max"]
def Lx:List Str:=["cursors","group","first"]
noncomputable def Ly:List RS:=
 [.asg 2 (.ix (.v 0) (.blt .min [(.ix (.v 1) (.c (.int 2)))])),
 .ite (.cmp .Eq (.blt .len [(.ix (.v 1)<|.c<|.int 2)])<|.c<|.int 1) [.ret<|.v 2] [],
 .ret (.oh (.call 0 [.v 2]) (.tup [(.ix (.v 1) (.c (.int 1))),(.ix (.v 1) (.c (.int 0))),.c .aB]) (.tup [(.ix (.v 1) (.c (.int 0))),(.ix (.v 1) (.c (.int 1))),.c .aB]))]
def Z4:List Str:=["is_backward"]
def Z5:List Str:=["min","len"]
def Lz:List Str:=["cursors"]
noncomputable def LB:List RS:=
 [.ret<|.comp none [("cursors",0)] .list [(.call 0 [.v 0])] none<|.call 1 [.v 1,.v 0]]
def Z6:List Str:=["gathered","as_one"]
def oI:List Str:=["_law_cursors_here","_law_rows_now","_law_begin","_law_end","_law_k","_law_touch","_law_low","_law_high","_law_some","_law_found","_law_first"]
noncomputable def i8:List RS:=
 [.asg 1 (.lst []),
 .hX [2,3,4] .list [(.xt ze [(.comp (some 2) [] .yq [.v 0] none (.tup [(.xt vy [(.sl (.v 1) none (some (.c (.int 2))))]),(.xt vz [(.sl (.v 1) none (some (.c (.int 2))))]),.v 0]))])] [.asg 5 (.c (.bl false)),
  .ite (.cmp .NotEq (.v 1) (.lst [])) [.oi [6,7,8] (.ix (.v 1) (.neg (.c (.int 1)))),
   .asg 5 (.or [(.cmp .Lt (.v 2) (.v 7)),(.and [(.cmp .Eq (.v 2) (.v 7)),(.or [(.cmp .Eq (.v 6) (.v 7)),(.cmp .Eq (.v 2) (.v 3))])])])] [],
  .ite (.v 5) [.set (.v 1) (.neg (.c (.int 1))) (.lst [.v 6,(.blt .max [.v 7,.v 3]),(.bin .Add (.v 8) (.lst [.v 4]))])] [.drop (.bq .append (.v 1) [(.lst [.v 2,.v 3,(.lst [.v 4])])])]],
 .asg 9 (.lst []),
 .hX [2,3,8] .list [.v 1] [.asg 10 (.ix (.v 0) (.blt .min [.v 8])),
  .ite (.cmp .Eq (.blt .len [.v 8]) (.c (.int 1))) [.drop (.bq .append (.v 9) [.v 10])] [.ite (.cmp .Lt (.ix (.v 10) (.c (.int 1))) (.ix (.v 10) (.c (.int 0)))) [.drop (.bq .append (.v 9) [(.tup [.v 3,.v 2,.c .aB])])] [.drop (.bq .append (.v 9) [(.tup [.v 2,.v 3,.c .aB])])]]],
 .ret (.v 9)]
def sT:List Str:=["sorted","enumerate","min","max","len"]
def LC:List Str:=["_law_cell","_law_size_here","_law_number","_law_anchor","_law_head"]
noncomputable def Dd:List RS:=
 [.asg 2 (.call 0 [.v 0,(.c (.int 3))]),
 .asg 3 (.ix (.lst [(.bin .Mod (.v 2)<|.bin .Add (.v 1)<|.c<|.int 1),(.c<|.int 0),.v 1,(.bin .Mod (.bin .FloorDiv (.v 2)<|.c<|.int 7)<|.bin .Add (.v 1)<|.c<|.int 1)])<|.bin .Mod (.bin .FloorDiv (.v 2)<|.c<|.int 5)<|.c<|.int 4),
 .asg 4 (.blt .max [(.c<|.int 0),(.blt .min [.v 1,(.bin .Add (.v 3)<|.ix (.lst [(.c<|.int 0),(.c<|.int 0),(.c<|.int 1),(.neg<|.c<|.int 1),(.c<|.int 3),(.neg<|.c<|.int 4),(.c<|.int 9),.v 1])<|.bin .Mod (.bin .FloorDiv (.v 2)<|.c<|.int 23)<|.c<|.int 8)])]),
 .ret (.tup [.v 3,.v 4,(.ix (.lst [.c .aB,.c .aB,(.bin .Mod (.bin .FloorDiv (.v 2) (.c (.int 3))) (.c (.int 9))),.v 2]) (.bin .Mod (.bin .FloorDiv (.v 2) (.c (.int 11))) (.c (.int 4))))])]
def Z7:List Str:=["max","min"]
def De:List Str:=["_law_found","_law_due","_law_one","_law_other"]
noncomputable def LD:List RS:=
 [.ite (.or [(.not (.dr .list (.v 0))),(.cmp .NotEq (.blt .len [.v 0]) (.blt .len [.v 1]))]) [.ret (.c (.bl false))] [],
 .hX [2,3] .zip [.v 0,.v 1] [.ite (.or [(.not (.dr .tuple (.v 2))),(.cmp .NotEq (.v 2) (.v 3)),(.not (.call 0 [(.ix (.v 2) (.c (.int 0)))])),(.not (.call 0 [(.ix (.v 2) (.c (.int 1)))]))]) [.ret (.c (.bl false))] [],
  .ite (.and [(.cmp .IsNot (.ix (.v 2) (.c (.int 2))) (.c .aB)),(.not (.call 0 [(.ix (.v 2) (.c (.int 2)))]))]) [.ret (.c (.bl false))] []],
 .ret (.c (.bl true))]
def Z8:List Str:=["isinstance","list","len","zip","tuple"]
end L2.B
namespace L2
open PySem PySem.Spec PyProof.Rows
end L2
namespace L2.lS
open PySem PySem.Spec PyProof.Rows L2.B
def a_(i:Nat):Stmt:=(PySem.Challenge.pw_inkloom_k31_texts_entered.main.body).getD i (.Pass ⟨0,0,0,0⟩)
def LF:Stmt:=a_ 18
abbrev bH(s:Stmt)(k:Nat):Stmt:=(dU s).getD k (.Pass ⟨0,0,0,0⟩)
abbrev bI(b:List RS)(k:Nat):RS:=b.getD k (.ret<|.c .aB)
abbrev MX(N:List Str)(s:Stmt)(f g l mn kn en hn:List Str)(b:List RS)(md:Nat):Prop:= ∀{CX:cb}{Γ:bo}{X:Cx},dF CX (sM N (dW s) f g l mn kn en hn md) Γ X->dD X (dU s) (aE Γ b)
abbrev MY(N:List Str)(s:Stmt)(f g l mn kn en hn:List Str)(b:List RS)(md k:Nat):Prop:= ∀{CX:cb}{Γ:bo}{X:Cx},dF CX (sM N (dW s) f g l mn kn en hn md) Γ X->PS X (bH s k) (bM Γ<|bI b k)
theorem Z9:MX iH LF af af JA af af af af Jz 0:=λG=>have g:=G.toGood;(ai (aN<|gB (fh g<|aa g)<|ic<|Cp g<|fh g<|aa g) aq)
def LG:Stmt:=a_ 19
theorem Z_:MX Ka LG Kc af af af af af af Kb 0:=λG=>have g:=G.toGood;(ai (aN<|gB (aD g<|ae (aa g) ah)<|ic<|Yx g (aa g) (aa g)<|aa g) aq)
def LH:Stmt:=a_ 20
theorem aaa:MX CB LH af af JB af af af af CC 0:=λG=>have g:=G.toGood;(ai (aN<|gB (fh g<|aa g)<|ic<|dG g (aa g)<|aa g) aq)
def LI:Stmt:=a_ 21
theorem aab:MX iH LI af YT JB af af af af CG 0:=λG=>have g:=G.toGood;(ai (aN<|gB (fh g<|aa g)<|ic<|dG g (bU g (aa g)<|ae (gQ g) ah) aO) aq)
def LJ:Stmt:=a_ 22
theorem aac:MX iH LJ YU af af af af YV af JC 0:=λG=>have g:=G.toGood;(ai (aZ (cH<|eW g<|aD g<|ae (aa g) ah) (ai (jJ G<|ae aO ah) aq) aq) aq)
def LK:Stmt:=a_ 24
theorem aad:MX iH LK YW af JD af af af af yT 0:=λG=>have g:=G.toGood;(ai (aZ (PW.pt<|eQ (cH<|jI g<|fh g<|aa g)<|gR<|aX g (bJ g<|ae (aa g) ah) ao) (ai (aN fN) aq) aq)<|ai (aZ (eW g<|aD g<|ae (az g (aa g) ao)<|ae (bw<|ae aO ah) ah) (ai (aN<|gB (aD g<|ae (az g (aa g) ao) ah)<|ic<|dG g (az g (aa g) ao) ao) aq) aq)<|ai (aN<|gB (aD g<|ae (az g (aa g) ao)<|ae (bw<|ae aO<|ae aO ah) ah)<|gB (aD g<|ae (az g (aa g) ao) ah)<|ic<|dG g (az g (aa g) ao) aO) aq)
def LL:Stmt:=a_ 25
theorem aae:MX JE LL af af af af af af af JF 0:=λG=>have g:=G.toGood;(ai (aN<|gB (dG g (aa g)<|aa g)<|ic<|Cp g<|gB (dG g (aa g) aO)<|ic<|dG g (aa g) aO) aq)
def LM:Stmt:=a_ 26
theorem aaf:MX JG LM YX af YY af af YZ af JH 0:=λG=>have g:=G.toGood;(ai (aZ (cH<|jI g<|fh g<|aa g) (ai (jJ G<|ae aO ah) aq) aq)<|ai (aJ G aO)<|ai (oB G (fP g<|aa g)<|ai (aZ (cH<|eW g<|aD g<|ae (aa g) ah) (ai (jJ G<|ae aO ah) aq) aq)<|ai (aZ (cH<|eW g<|aD g<|ae (az g (aa g) ao)<|ae (aa g) ah) (ai (jJ G<|ae aO ah) aq) aq)<|ai (aJ G<|az g (aa g) ao) aq) aq)
def LN:Stmt:=a_ 27
theorem aag:MX JI LN af af eY af af af af JJ 0:=λG=>have g:=G.toGood;(ai (aN<|vf (aX g (az g (aa g) ao) aO) (az g (aa g) ao)<|bJ g<|ae (az g (aa g) ao) ah) aq)
def LO:Stmt:=a_ 28
theorem aah:MX JK LO Y0 af Y1 af af af af JL 0:=λG=>have g:=G.toGood;(ai (bQ<|aD g<|ae (aa g) ah)<|ai (aJ G<|bJ g<|ae (kg (ln:=["part"]) g (rfl) (fP g<|aa g) (vg λ_ g=>(aX g (az g (aa g) ao) aO))<|λ_ g=>(aD g<|ae (aa g) ah)) ah)<|ai (aJ G<|bJ g<|ae (kg (ln:=["part"]) g (rfl) (fP g<|aa g) (vg λ_ g=>(aX g (az g (aa g) ao) aO))<|λ_ g=>(aD g<|ae (aa g) ah)) ah)<|ai (aN<|bw<|ae (aa g)<|ae (aa g) ah) aq)
def LP:Stmt:=a_ 29
theorem aai:MX JM LP af af eY af af af af JN 0:=λG=>have g:=G.toGood;(ai (aZ (PW.pt<|sJ (aX g (bJ g<|ae (aa g) ah) ao)<|sI<|aX g (az g (az g (aa g)<|i0 ao) ao) aO) (ai (aJ G<|aG g (aa g)<|az g (yL g<|aa g) ao) aq) aq)<|ai (bQ<|bU g (aa g)<|ae (bw<|ae aO<|ae (aa g) ah) ah) aq)
def LQ:Stmt:=a_ 30
theorem aaj:MX JO LQ af af af af af af af JP 0:=λG=>have g:=G.toGood;(ai (aJ G<|bU g aO<|ae (aa g) ah)<|ai (aJ G<|bU g aO<|ae (aa g) ah)<|ai (aZ (aX g (aa g) aO) (ai (bQ<|bU g (aa g)<|ae (bw<|ae aO<|ae (aa g) ah) ah) aq) aq)<|ai (aZ (aX g (aa g) aO) (ai (bQ<|bU g (aa g)<|ae (bw<|ae aO<|ae (aa g) ah) ah) aq) aq) aq)
def LR:Stmt:=a_ 31
theorem aak:MX JQ LR Y2 af af af af af af JR 0:=λG=>have g:=G.toGood;(ai (aJ G<|bz ah)<|ai (aJ G<|bz ah)<|ai (aJ G<|bz ah)<|ai (kh [(_,_),(_,_)] G (fP g<|aa g)<|ai (aZ (aX g (aa g) aO) (ai (bQ<|bU g (aa g)<|ae (aa g) ah) aq)<|ai (aZ (aX g (aa g) aO) (ai (bQ<|bU g (aa g)<|ae (aa g) ah) aq)<|ai (aZ (aX g (aa g) ao) (ai (bQ<|aD g<|ae (aa g)<|ae (aa g)<|ae (aa g) ah)<|ai (aJ G<|bz ah)<|ai (aJ G<|bz ah)<|ai (bQ<|aD g<|ae (aa g)<|ae (aa g) ah) aq) aq) aq) aq) aq)<|ai (bQ<|aD g<|ae (aa g)<|ae (aa g)<|ae (aa g) ah)<|ai (aN<|aa g) aq)
def LS:Stmt:=a_ 33
theorem aal:MX Ke LS af af eY af af af af Kf 0:=λG=>have g:=G.toGood;(ai (aJ G ao)<|ai (aJ G<|bJ g<|ae (aa g) ah)<|ai (Cq G (aX g (aa g)<|aa g)<|ai (aJ G<|aG g (aG g (aa g)<|aa g) ao)<|ai (aZ (aX g (az g (aa g)<|aa g)<|aa g) (ai (aJ G<|aG g (aa g) ao) aq)<|ai (aJ G<|aa g) aq) aq)<|ai (aN<|aa g) aq)
def LU:Stmt:=a_ 36
theorem aam:MX oF LU af af ZC af af af af K7 0:=λG=>have g:=G.toGood;(ai (aN<|bJ g<|ae (az g (aa g) ao)<|ae (az g (aa g) ao) ah) aq)
def LV:Stmt:=a_ 37
theorem aan:MX oF LV af af Kq af af af af K8 0:=λG=>have g:=G.toGood;(ai (aN<|bJ g<|ae (az g (aa g) ao)<|ae (az g (aa g) ao) ah) aq)
def LW:Stmt:=a_ 38
theorem aao:MX oF LW af af af af af af af K9 0:=λG=>have g:=G.toGood;(ai (aN<|dG g (az g (aa g) ao)<|az g (aa g) ao) aq)
def LX:Stmt:=a_ 39
theorem aap:MX oF LX af af af af af af af Lu 0:=λG=>have g:=G.toGood;(ai (aN<|dG g (az g (aa g) ao)<|az g (aa g) ao) aq)
def LY:Stmt:=a_ 40
theorem LZ:MX iH LY Kc af af af af af af CV 0:=λG=>have g:=G.toGood;(ai (aN<|yK (dG g (aa g) cR)<|yJ<|gB (aD g<|ae (aa g) ah)<|ic<|dG g (aa g) ao) aq)
def L6:Stmt:=a_ 41
theorem L7:MX CW L6 ZD af JD af af af af CY 0:=λG=>have g:=G.toGood;(ai (aZ (PW.pt<|eQ (cH<|jI g<|fh g<|aa g)<|gR<|aX g (bJ g<|ae (aa g) ah) ao) (ai (aN fN) aq) aq)<|ai (aN<|gB (aD g<|ae (az g (aa g) ao)<|ae ao<|ae (aa g) ah)<|gB (aD g<|ae (az g (aa g) ao)<|ae ao<|ae (aa g) ah)<|ic<|aD g<|ae (az g (aa g) ao) ah) aq)
def L8:Stmt:=a_ 42
theorem aaq:MX K_ L8 ZE af af af af af af La 0:=λG=>have g:=G.toGood;(ai (aZ (aX g (aD g<|ae (aa g) ah)<|aa g) (ai (aN<|yK (dG g (aa g)<|aa g)<|yJ<|aD g<|ae (aa g) ah) aq) aq)<|ai (aN<|dG g (aD g<|ae (aa g) ah)<|aa g) aq)
def L9:Stmt:=a_ 43
theorem L_:MX CZ L9 ZF ZG ZH af af ZI af C0 0:=λG=>have g:=G.toGood;(ai (aZ (PW.pt<|eQ (cH<|jI g<|fh g<|aa g)<|gR<|cH<|YD g ao (bJ g<|ae (aa g) ah)<|gQ g) (ai (jJ G<|ae aO ah) aq) aq)<|ai (aZ (cH<|K6 g<|Zx g<|ae (kg (ln:=["cursor"]) g (rfl) (fP g<|aa g) qk<|λ_ g=>(aD g<|ae (aa g)<|ae (aa g) ah)) ah) (ai (jJ G<|ae aO ah) aq) aq)<|ai (aZ (K6 g<|ZA g<|ae (kg (ln:=["one","other"]) g (rfl) (vh g (aa g)<|ig g (aa g) (fi ao) lQ) qk<|λ_ g=>(aD g<|ae (aD g<|ae (aa g) ah)<|ae (aD g<|ae (aa g) ah)<|ae (aa g) ah)) ah) (ai (jJ G<|ae aO ah) aq) aq) aq)
def Ma:Stmt:=a_ 44
theorem aar:MX Lv Ma Z2 af Z3 af af af af Lw 0:=λG=>have g:=G.toGood;(ai (aJ G<|Ln g<|ae (kg (ln:=["number","cursor"]) g (rfl) (Ju g<|aa g) qk<|λ_ g=>(bw<|ae (aD g<|ae (aa g) ah)<|ae (aD g<|ae (aa g) ah)<|ae (aa g) ah)) ah)<|ai (aJ G<|bz ah)<|ai (kh [(_,_),(_,_),(_,_)] G (fP g<|aa g)<|ai (aZ (PW.pt<|sJ (aX g (bJ g<|ae (aa g) ah) ao)<|sI<|eW g<|aD g<|ae (az g (az g (aa g)<|i0 ao) ao)<|ae (az g (az g (aa g)<|i0 ao) ao)<|ae (az g (aa g)<|aa g) ah) (ai (aJ G<|yL g<|aa g)<|ai (bQ<|bU g (aa g)<|ae (bw<|ae (az g (aa g) ao)<|ae (bJ g<|ae (az g (aa g) ao)<|ae (aa g) ah)<|ae (aG g (az g (aa g) ao)<|bz<|ae (aa g) ah) ah) ah) aq)<|ai (bQ<|bU g (aa g)<|ae (bw<|ae (aa g)<|ae (aa g)<|ae (bz<|ae (aa g) ah) ah) ah) aq) aq)<|ai (aN<|aa g) aq)
def Mb:Stmt:=a_ 45
theorem aas:MX Lx Mb Z4 af Z5 af af af af Ly 0:=λG=>have g:=G.toGood;(ai (aJ G<|az g (aa g)<|bJ g<|ae (az g (aa g) ao) ah)<|ai (aZ (aX g (bJ g<|ae (az g (aa g) ao) ah) ao) (ai (aN<|aa g) aq) aq)<|ai (aN<|vf (eW g<|aD g<|ae (aa g) ah) (bw<|ae (az g (aa g) ao)<|ae (az g (aa g) ao)<|ae cR ah)<|bw<|ae (az g (aa g) ao)<|ae (az g (aa g) ao)<|ae cR ah) aq)
def Mc:Stmt:=a_ 46
theorem aat:MX Lz Mc Z6 af af af af af af LB 0:=λG=>have g:=G.toGood;(ai (aN<|kg (ln:=["group"]) g (rfl) (fP g<|aD g<|ae (aa g) ah) qk<|λ_ g=>(aD g<|ae (aa g)<|ae (aa g) ah)) aq)
def Md:List Str:=["paper","cursors","texts","parts","behind","place","size","cursor","text","begin","end"]
noncomputable def Me:List RS:=
 [.asg 3 (.lst []),
 .asg 4 (.lst []),
 .asg 5 (.c<|.int 0),
 .asg 6 (.c<|.int 0),
 .hX [7,8] .zip [.v 1,.v 2] [.asg 9 (.call 0 [.v 7]),
  .asg 10 (.call 1 [.v 7]),
  .drop (.bq .extend (.v 3) [(.lst [(.tup [(.c<|.str "keep"),(.bin .Sub (.v 9)<|.v 5)]),(.tup [(.c<|.str "put"),.v 8]),(.tup [(.c<|.str "cut"),(.du 0 "part" (.v 0) [.v 9,.v 10])])])]),
  .asg 6 (.bin .Add (.bin .Sub (.bin .Add (.v 6)<|.v 9)<|.v 5)<|.blt .len [.v 8]),
  .drop (.bq .append (.v 4) [(.tup [.v 6,.v 6,.c .aB])]),
  .asg 5 (.v 10)],
 .drop (.bq .append (.v 3) [(.tup [(.c<|.str "keep"),(.bin .Sub (.du 1 "size" (.v 0) [])<|.v 5)])]),
 .ret (.tup [(.call 2 [.v 3]),(.call 3 [.v 4])])]
def aau:List Str:=["begin_of","end_of","neat","settled"]
def aav:List Str:=["zip","len"]
def aaw:List Str:=["part","size"]
def Mf:Stmt:=a_ 48
theorem aax:MX Md Mf aau af aav aaw af af af Me 0:=λG=>have g:=G.toGood;(ai (aJ G<|bz ah)<|ai (aJ G<|bz ah)<|ai (aJ G ao)<|ai (aJ G ao)<|ai (kh [(_,_),(_,_)] G (vh g (aa g)<|aa g)<|ai (aJ G<|aD g<|ae (aa g) ah)<|ai (aJ G<|aD g<|ae (aa g) ah)<|ai (bQ<|bU g (aa g)<|ae (bz<|ae (bw<|ae aO<|ae (aG g (aa g)<|aa g) ah)<|ae (bw<|ae aO<|ae (aa g) ah)<|ae (bw<|ae aO<|ae (oA g (aa g)<|ae (aa g)<|ae (aa g) ah) ah) ah) ah)<|ai (aJ G<|aG g (aG g (aG g (aa g)<|aa g)<|aa g)<|bJ g<|ae (aa g) ah)<|ai (bQ<|bU g (aa g)<|ae (bw<|ae (aa g)<|ae (aa g)<|ae cR ah) ah)<|ai (aJ G<|aa g) aq)<|ai (bQ<|bU g (aa g)<|ae (bw<|ae aO<|ae (aG g (m8 g<|aa g)<|aa g) ah) ah)<|ai (aN<|bw<|ae (aD g<|ae (aa g) ah)<|ae (aD g<|ae (aa g) ah) ah) aq)
def Df:List Str:=["paper","cursors","texts","text"]
noncomputable def Dg:List RS:=
 [.drop (.call 0 [(.du 0 "size" (.v 0) []),.v 1]),
 .ite (.or [(.not<|.dr .list<|.v 2),(.cmp .NotEq (.blt .len [.v 2])<|.blt .len [.v 1])]) [.iG 0 [(.c<|.str "there is one text for each cursor, in a list")]] [],
 .jA 3 .list [.v 2] [.drop<|.call 1 [.v 3]],
 .ret (.call 2 [.v 0,.v 1,.v 2])]
def aay:List Str:=["need_cursors","need_text","enter"]
def aaz:List Str:=["isinstance","list","len"]
def aaA:List Str:=["BadDeed"]
def Mg:Stmt:=a_ 49
theorem Mh:MX Df Mg aay af aaz i5 af aaA af Dg 0:=λG=>have g:=G.toGood;(ai (bQ<|aD g<|ae (m8 g<|aa g)<|ae (aa g) ah)<|ai (aZ (PW.pt<|eQ (cH<|jI g<|fh g<|aa g)<|gR<|aX g (bJ g<|ae (aa g) ah)<|bJ g<|ae (aa g) ah) (ai (jJ G<|ae aO ah) aq) aq)<|ai (oB G (fP g<|aa g)<|ai (bQ<|aD g<|ae (aa g) ah) aq)<|ai (aN<|aD g<|ae (aa g)<|ae (aa g)<|ae (aa g) ah) aq)
def Mi:Stmt:=a_ 51
theorem aaB:MX sP Mi af af af af af af af Kl 0:=λG=>have g:=G.toGood;(ai (aN<|vf (aX g (aa g) cR) ao<|az g (aa g) ao) aq)
def Mj:Stmt:=a_ 52
theorem aaC:MX sP Mj af af af af af af af Km 0:=λG=>have g:=G.toGood;(ai (aN<|vf (aX g (aa g) cR) ao<|az g (aa g) ao) aq)
def Ml:Stmt:=a_ 53
theorem aaD:MX sP Ml af af af af af af af Kn 0:=λG=>have g:=G.toGood;(ai (aN<|vf (aX g (aa g) cR) ao<|az g (aa g) ao) aq)
def Mm:Stmt:=a_ 54
theorem aaE:MX Ko Mm Za af Kq af af af af Kp 0:=λG=>have g:=G.toGood;(ai (aJ G<|aG g ao<|bJ g<|ae (aD g<|ae (aa g) ah)<|ae (aD g<|ae (aa g) ah) ah)<|ai (aJ G<|aG g (aG g (aD g<|ae (aa g) ah)<|az g (aa g) ao)<|aD g<|ae (aa g) ah)<|ai (aN<|bw<|ae (aa g)<|ae (aa g)<|ae (aa g)<|ae (aa g)<|ae (aa g)<|ae (aG g (aG g (aD g<|ae (aa g) ah)<|az g (aa g) ao)<|aD g<|ae (aa g) ah) ah) aq)
def Mn:Stmt:=a_ 55
theorem aaF:MX yW Mn Ks af af af af af af Kr 0:=λG=>have g:=G.toGood;(ai (aJ G<|az g (aa g) ao)<|ai (aZ (aX g (aD g<|ae (az g (aa g) ao) ah)<|aD g<|ae (aa g) ah) (ai (aN<|aD g<|ae (az g (aa g) ao)<|ae (az g (aa g) ao)<|ae (aD g<|ae (aa g)<|ae (aa g)<|ae (aa g) ah) ah) aq) aq)<|ai (aN<|aD g<|ae (aD g<|ae (az g (aa g) ao)<|ae (az g (aa g) ao)<|ae (az g (aa g) ao) ah)<|ae (az g (aa g) ao)<|ae (aD g<|ae (az g (aa g) ao)<|ae (aa g)<|ae (aa g) ah) ah) aq)
def Mo:Stmt:=a_ 56
theorem aaG:MX yW Mo Ks af af af af af af Kt 0:=λG=>have g:=G.toGood;(ai (aJ G<|az g (aa g) ao)<|ai (aZ (aX g (aD g<|ae (az g (aa g) ao) ah)<|aD g<|ae (aa g) ah) (ai (aN<|aD g<|ae (aD g<|ae (aa g)<|ae (aa g)<|ae (aa g) ah)<|ae (az g (aa g) ao)<|ae (az g (aa g) ao) ah) aq) aq)<|ai (aN<|aD g<|ae (aD g<|ae (aa g)<|ae (aa g)<|ae (az g (aa g) ao) ah)<|ae (az g (aa g) ao)<|ae (aD g<|ae (az g (aa g) ao)<|ae (az g (aa g) ao)<|ae (az g (aa g) ao) ah) ah) aq)
def Mp:Stmt:=a_ 57
theorem aaH:MX vm Mp Zb af af af af af af Ku 0:=λG=>have g:=G.toGood;(ai (aZ (aX g (aD g<|ae (aa g) ah)<|aG g (aD g<|ae (aa g) ah) ao) (ai (aN<|aD g<|ae (aa g)<|ae (aa g)<|ae (aa g) ah) aq) aq)<|ai (aZ (aX g (aD g<|ae (aa g) ah)<|aG g (aD g<|ae (aa g) ah) ao) (ai (aN<|aD g<|ae (aa g)<|ae (aa g)<|ae (aa g) ah) aq) aq)<|ai (aN<|aD g<|ae (aa g)<|ae (aa g)<|ae (aa g) ah) aq)
def Mq:Stmt:=a_ 58
theorem aaI:MX vm Mq Zc af af af af af af Kv 0:=λG=>have g:=G.toGood;(ai (aZ (aX g (aD g<|ae (aa g) ah)<|aG g (aD g<|ae (aa g) ah) ao) (ai (aN<|aD g<|ae (az g (aa g) ao)<|ae (az g (aa g) ao)<|ae (aD g<|ae (az g (aa g) ao)<|ae (aa g)<|ae (aa g) ah) ah) aq) aq)<|ai (aZ (aX g (aD g<|ae (aa g) ah)<|aG g (aD g<|ae (aa g) ah) ao) (ai (aN<|aD g<|ae (aD g<|ae (aa g)<|ae (aa g)<|ae (az g (aa g) ao) ah)<|ae (az g (aa g) ao)<|ae (az g (aa g) ao) ah) aq) aq)<|ai (aN<|aD g<|ae (aa g)<|ae (aa g)<|ae (aa g) ah) aq)
def Mr:Stmt:=a_ 59
theorem aaJ:MX sQ Mr Zd af af af af af af Kw 0:=λG=>have g:=G.toGood;(ai (aZ (aX g (az g (aa g) ao) cR) (ai (aN<|bw<|ae (az g (aa g) ao)<|ae (az g (aa g) ao) ah) aq) aq)<|ai (aJ G<|aD g<|ae (az g (aa g) ao) ah)<|ai (aN<|bw<|ae (aD g<|ae (az g (aa g) ao)<|ae (az g (aa g) ao)<|ae (az g (aa g) ao) ah)<|ae (az g (aa g) ao) ah) aq)
def Ms:Stmt:=a_ 60
theorem aaK:MX sQ Ms Ze af af af af af af Kx 0:=λG=>have g:=G.toGood;(ai (aZ (aX g (az g (aa g) ao) cR) (ai (aN<|bw<|ae (az g (aa g) ao)<|ae (az g (aa g) ao) ah) aq) aq)<|ai (aJ G<|aD g<|ae (az g (aa g) ao) ah)<|ai (aN<|bw<|ae (az g (aa g) ao)<|ae (aD g<|ae (az g (aa g) ao)<|ae (az g (aa g) ao)<|ae (az g (aa g) ao) ah) ah) aq)
def Mt:Stmt:=a_ 61
theorem aaL:MX Ky Mt Zf af af af af af af Kz 0:=λG=>have g:=G.toGood;(ai (aZ (aX g (aa g) cR) (ai (aN<|aa g) aq) aq)<|ai (aJ G<|aD g<|ae (aa g) ah)<|ai (aJ G<|aD g<|ae (aa g) ah)<|ai (aJ G<|az g (aa g) ao)<|ai (aJ G<|az g (aa g) ao)<|ai (aZ (aX g (aG g (az g (aa g) ao)<|az g (aa g) ao)<|az g (aa g) ao) (ai (aN<|aD g<|ae (az g (aa g) ao)<|ae (bw<|ae (az g (aa g) ao)<|ae (aG g (az g (aa g) ao)<|az g (aa g) ao)<|ae (aG g (az g (aa g) ao)<|az g (aa g) ao) ah)<|ae (az g (aa g) ao) ah) aq) aq)<|ai (aN<|aD g<|ae (az g (aa g) ao)<|ae (aa g)<|ae (aa g) ah) aq)
def Mu:Stmt:=a_ 62
theorem aaM:MX KA Mu af af af Zg af af af KC 0:=λG=>have g:=G.toGood;(ai (aJ G<|aG g (az g (aa g) ao)<|aa g)<|ai (aJ G<|aG g (oA g (aa g)<|ae (aa g) ah)<|oA g (aa g)<|ae (az g (aa g) ao) ah)<|ai (aN<|bw<|ae (bw<|ae (az g (aa g) ao)<|ae (aa g)<|ae (aa g) ah)<|ae (bw<|ae (aa g)<|ae (aG g (az g (aa g) ao)<|aa g)<|ae (aG g (az g (aa g) ao)<|aa g) ah) ah) aq)
def Mv:Stmt:=a_ 63
theorem aaN:MX CN Mv Zh af af af af af af KD 0:=λG=>have g:=G.toGood;(ai (aZ (aX g (aa g) cR) (ai (aN<|bw<|ae cR<|ae cR ah) aq) aq)<|ai (aJ G<|az g (aa g) ao)<|ai (aJ G<|aD g<|ae (az g (aa g) ao) ah)<|ai (aJ G<|aG g (aa g)<|az g (aa g) ao)<|ai (aZ (aX g (aa g)<|aa g) (ai (aJ G<|aD g<|ae (az g (aa g) ao)<|ae (aa g)<|ae (aa g) ah)<|ai (aN<|bw<|ae (az g (aa g) ao)<|ae (aD g<|ae (az g (aa g) ao)<|ae (aa g)<|ae (az g (aa g) ao) ah) ah) aq) aq)<|ai (aZ (aX g (aa g)<|aa g) (ai (aJ G<|aD g<|ae (az g (aa g) ao)<|ae (aG g (aa g)<|aa g)<|ae (aa g) ah)<|ai (aN<|bw<|ae (aD g<|ae (az g (aa g) ao)<|ae (aa g)<|ae (az g (aa g) ao) ah)<|ae (az g (aa g) ao) ah) aq) aq)<|ai (aJ G<|aD g<|ae (aa g)<|ae (aG g (aa g)<|aa g)<|ae (aa g) ah)<|ai (aN<|bw<|ae (aD g<|ae (az g (aa g) ao)<|ae (az g (aa g) ao)<|ae cR ah)<|ae (aD g<|ae cR<|ae (az g (aa g) ao)<|ae (az g (aa g) ao) ah) ah) aq)
def Mw:Stmt:=a_ 64
theorem aaO:MX CO Mw KH af af af af af af KG 0:=λG=>have g:=G.toGood;(ai (aZ (aX g (aa g) cR) (ai (aN<|bz ah) aq) aq)<|ai (aJ G<|aD g<|ae (az g (aa g) ao) ah)<|ai (bQ<|bU g (aa g)<|ae (az g (aa g) ao) ah)<|ai (bQ<|bU g (aa g)<|ae (aD g<|ae (az g (aa g) ao) ah) ah)<|ai (aN<|aa g) aq)
def Mx:Stmt:=inClass (a_ 66) 0
theorem aaP:MX sN Mx af af af af af af af Kg 0:=λG=>have g:=G.toGood;(ai (qm G (aa g)<|bz ah)<|ai (qm G (aa g)<|bz ah)<|ai (qm G (aa g)<|bz ah)<|ai (qm G (aa g) ao) aq)
def My:Stmt:=inClass (a_ 66) 1
theorem aaQ:MX CL My Y9 af eY af af af af Kh 0:=λG=>have g:=G.toGood;(ai (bQ<|aD g<|ae (aa g) ah)<|ai (aJ G<|eV g<|aa g)<|ai (bQ<|bU g (eV g<|aa g)<|ae (aa g) ah)<|ai (bQ<|bU g (eV g<|aa g)<|ae (aa g) ah)<|ai (qm G (aa g)<|aG g (aa g)<|bJ g<|ae (aa g) ah)<|ai (aJ G<|bU g (aa g)<|ae aO ah)<|ai (Cq G (aX g (aa g) ao)<|ai (bQ<|bU g (eV g<|aa g)<|ae (aG g (aa g)<|aa g) ah)<|ai (aJ G<|bU g (aa g)<|ae aO<|ae (aG g (aa g) ao) ah) aq)<|ai (aN<|aa g) aq)
def Mz:Stmt:=inClass (a_ 66) 2
theorem aaR:MX Ki Mz Y_ af eY af af Kk af Kj 0:=λG=>have g:=G.toGood;(ai (aZ (PW.pt<|eQ (cH<|eW g<|aD g<|ae (aa g)<|ae ao<|ae (eV g<|aa g) ah)<|gR<|cH<|eW g<|aD g<|ae (aa g)<|ae ao<|ae (aG g (eV g<|aa g)<|aa g) ah) (ai (jJ G<|ae aO ah) aq) aq)<|ai (aJ G<|bz ah)<|ai (aJ G<|aG g (aD g<|ae (eV g<|aa g)<|ae (aa g) ah) ao)<|ai (aJ G<|aG g (aa g)<|aa g)<|ai (Cq G (aX g (aa g)<|aa g)<|ai (aJ G<|aG g (aa g)<|az g (eV g<|aa g)<|aa g)<|ai (aJ G<|ig g (az g (eV g<|aa g)<|aa g) (fi<|aa g)<|fi<|aG g (aG g (aa g)<|aa g)<|aa g)<|ai (bQ<|bU g (aa g)<|ae (aa g) ah)<|ai (aJ G<|aG g (aa g)<|bJ g<|ae (aa g) ah)<|ai (aJ G<|aG g (aa g) ao) aq)<|ai (aN<|bU g aO<|ae (aa g) ah) aq)
def MA:Stmt:=inClass (a_ 66) 4
theorem aaS:MX KI MA Zi af af af af af af KJ 0:=λG=>have g:=G.toGood;(ai (aN<|aD g<|ae (eV g<|aa g)<|ae (aG g (aa g) ao) ah) aq)
def MB:Stmt:=a_ 68
theorem aaT:MX KL MB Zj af eY Zk af af af KN 0:=λG=>have g:=G.toGood;(ai (aZ (aX g (aa g) aO) (ai (aN cR) aq) aq)<|ai (aN<|aD g<|ae cR<|ae (bw<|ae (oA g (aa g)<|ae (aa g) ah)<|ae (bJ g<|ae (aa g) ah)<|ae (bU g (aa g)<|ae aO ah) ah)<|ae cR ah) aq)
def MC:Stmt:=a_ 69
theorem aaU:MX KO MC Zl af af af Zm af af KP 0:=λG=>have g:=G.toGood;(ai (bQ<|aD g<|ae (aa g) ah)<|ai (aJ G<|Yz g)<|ai (aN<|Jr g<|ae (aa g)<|ae (aD g<|ae (aa g)<|ae (aa g) ah) ah) aq)
def MD:Stmt:=a_ 70
theorem aaV:MX KQ MD Zn af eY Zo af Zp af KR 0:=λG=>have g:=G.toGood;(ai (aZ (aX g (az g (aD g<|ae (aa g) ah) ao)<|m8 g<|aa g) (ai (jJ G<|ae aO ah) aq) aq)<|ai (aJ G ao)<|ai (oB G (fP g<|aa g)<|ai (aZ (PW.pt<|sJ (aX g (az g (aa g) ao) aO)<|sI<|aX g (oA g (aa g)<|ae (aa g)<|ae (aG g (aa g)<|bJ g<|ae (az g (aa g) ao) ah) ah)<|az g (aa g) ao) (ai (jJ G<|ae aO ah) aq) aq)<|ai (aZ (aX g (az g (aa g) ao) aO) (ai (aJ G<|aG g (aa g)<|aD g<|ae (aa g) ah) aq) aq) aq) aq)
def ME:Stmt:=a_ 71
theorem aaW:MX KS ME KH af af Zq af af af KU 0:=λG=>have g:=G.toGood;(ai (aN<|kg (ln:=["piece"]) g (rfl) (fP g<|aD g<|ae (aa g) ah) qk<|λ_ g=>(oA g (aa g)<|ae (az g (aa g) ao)<|ae (az g (aa g) ao) ah)) aq)
def MF:Stmt:=inClass (a_ 72) 0
theorem aaX:MX KW MF af af af af af af af KY 0:=λG=>have g:=G.toGood;(ai (qm G (aa g)<|aa g)<|ai (qm G (aa g)<|aa g) aq)
def MG:Stmt:=inClass (a_ 72) 1
theorem aaY:MX sN MG Zr af af af af af af KZ 0:=λG=>have g:=G.toGood;(ai (aN<|aD g<|ae (eV g<|aa g) ah) aq)
def MH:Stmt:=inClass (a_ 72) 3
theorem aaZ:MX sN MH Zs af af af af af af K0 0:=λG=>have g:=G.toGood;(ai (aN<|bU g aO<|ae (aD g<|ae (eV g<|aa g)<|ae (eV g<|aa g) ah) ah) aq)
def MI:Stmt:=inClass (a_ 72) 6
theorem aa0:MX K2 MI Zt af af i5 af Kk af K3 0:=λG=>have g:=G.toGood;(ai (aZ (PW.pt<|eQ (cH<|eW g<|aD g<|ae (aa g)<|ae ao<|ae (m8 g<|aa g) ah)<|gR<|cH<|eW g<|aD g<|ae (aa g)<|ae (aa g)<|ae (m8 g<|aa g) ah) (ai (jJ G<|ae aO ah) aq) aq)<|ai (aJ G<|az g (aD g<|ae (eV g<|aa g)<|ae (aa g)<|ae (eV g<|aa g) ah) ao)<|ai (aN<|bU g aO<|ae (aD g<|ae (eV g<|aa g)<|ae (az g (aD g<|ae (aa g)<|ae (aa g)<|ae (eV g<|aa g) ah) ao) ah) ah) aq)
def MJ:Stmt:=inClass (a_ 72) 7
theorem aa1:MX K4 MJ Zu af af af Zv af af K5 0:=λG=>have g:=G.toGood;(ai (bQ<|aD g<|ae (aa g)<|ae (aa g) ah)<|ai (aJ G cR)<|ai (aJ G<|eV g<|aa g)<|ai (oB G (fP g<|aa g)<|ai (aZ (aX g (az g (aa g) ao) aO) (ai (aJ G<|aD g<|ae (aa g)<|ae (aD g<|ae (eV g<|aa g)<|ae (az g (aa g) ao) ah) ah)<|ai YM aq) aq)<|ai (aJ G<|aD g<|ae (aa g)<|ae (aD g<|ae (aa g) ah)<|ae (eV g<|aa g) ah)<|ai (aJ G<|az g (aa g) ao)<|ai (aZ (aX g (az g (aa g) ao) aO) (ai (aJ G<|aD g<|ae (aa g)<|ae (az g (aa g) ao) ah) aq) aq) aq)<|ai (aN<|Jr g<|ae (eV g<|aa g)<|ae (aa g) ah) aq)
def MK:Stmt:=a_ 74
theorem aa2:MX JS MK af af eY af af af af JT 0:=λG=>have g:=G.toGood;(ai (aZ (aX g (aa g)<|bJ g<|ae (aa g) ah) (ai (aN<|az g (aa g)<|aa g) aq) aq)<|ai (aN ao) aq)
def CK:List Str:=["_law_found"]
def ML:Stmt:=a_ 75
theorem aa3:MX CK ML af af JA af af af af Jz 0:=λG=>have g:=G.toGood;(ai (aN<|gB (fh g<|aa g)<|ic<|Cp g<|fh g<|aa g) aq)
def MM:Stmt:=a_ 76
theorem aa4:MX JU MM af af af af af af af JV 0:=λG=>have g:=G.toGood;(ai (aJ G<|aG g (aG g (aG g (aG g (aa g) ao)<|aG g ao<|aa g) ao) ao)<|ai (aN<|aG g (aG g (aG g (aG g (aa g)<|aa g) ao)<|aa g) ao) aq)
def MN:Stmt:=a_ 77
theorem aa5:MX JW MN JY af Y3 af af af af JX 0:=λG=>have g:=G.toGood;(ai (aJ G aO)<|ai (aJ G<|aG g (aa g) aO)<|ai (aZ (aX g (aG g (aa g) ao) ao) (ai (aJ G aO) aq) aq)<|ai (aN<|bU g aO<|ae (kg (ln:=["_law_k"]) g (rfl) (yN g<|aa g) qk<|λ_ g=>(az g (aa g)<|aG g (aG g (aD g<|ae (aa g)<|ae (aa g) ah) ao)<|bJ g<|ae (aa g) ah)) ah) aq)
def MO:Stmt:=a_ 78
theorem aa6:MX JZ MO af af af af af af af J0 0:=λG=>have g:=G.toGood;(ai (aZ (aX g (aG g (aa g) ao) ao) (ai (aN<|aG g (aG g (aa g) ao) ao) aq) aq)<|ai (aN<|aG g (aG g (aa g) ao) ao) aq)
def MP:Stmt:=a_ 79
theorem aa7:MX J3 MP Y4 af Y5 af af af af J4 0:=λG=>have g:=G.toGood;(ai (aJ G<|bz ah)<|ai (aJ G ao)<|ai (oB G (yN g<|aa g)<|ai (aJ G<|aD g<|ae (aa g)<|ae (aG g ao<|aa g) ah)<|ai (aJ G<|az g (bz<|ae ao<|ae ao<|ae ao<|ae ao<|ae ao<|ae ao ah)<|aG g (aG g (aa g) ao) ao)<|ai (aJ G<|bJ g<|ae (aa g)<|ae (aG g (bJ g<|ae (aa g) ah)<|aa g) ah)<|ai (aZ (aX g (aG g (aa g) ao) ao) (ai (bQ<|bU g (aa g)<|ae (bw<|ae aO<|ae (aD g<|ae (aa g)<|ae (aa g) ah) ah) ah) aq)<|ai (aZ (aX g (aG g (aa g) ao) ao) (ai (bQ<|bU g (aa g)<|ae (bw<|ae aO<|ae (ig g (aa g) (fi<|aa g)<|fi<|aG g (aa g)<|aa g) ah) ah) aq)<|ai (bQ<|bU g (aa g)<|ae (bw<|ae aO<|ae (aa g) ah) ah) aq) aq)<|ai (aZ (aX g (aG g (aa g) ao) ao) (ai (aJ G<|aG g (aa g)<|aa g) aq) aq) aq)<|ai (aN<|aG g (aa g)<|bz<|ae (bw<|ae aO<|ae (aG g (bJ g<|ae (aa g) ah)<|aa g) ah) ah) aq)
def CH:List Str:=["_law_parts_here","_law_rows","_law_word_here","_law_thing","_law_found","_law_put","_law_cut","_law_keep","_law_some"]
def MQ:Stmt:=a_ 80
theorem aa8:MX CH MQ af af Y6 af af af af J5 0:=λG=>have g:=G.toGood;(ai (aJ G<|bz<|ae (bz<|ae aO<|ae aO<|ae ao ah) ah)<|ai (kh [(_,_),(_,_)] G (fP g<|aa g)<|ai (aZ (aX g (aa g) aO) (ai (yP (aG g (az g (az g (aa g)<|i0 ao) ao)<|aa g) (az g (aa g)<|i0 ao) ao) aq)<|ai (aZ (aX g (aa g) aO) (ai (aZ (aX g (az g (az g (aa g)<|i0 ao) ao) ao) (ai (bQ<|bU g (aa g)<|ae (bz<|ae aO<|ae aO<|ae ao ah) ah) aq) aq)<|ai (yP (aG g (az g (az g (aa g)<|i0 ao)<|bJ g<|ae (dG g (aa g) aO) ah)<|aa g) (az g (aa g)<|i0 ao)<|bJ g<|ae (dG g (aa g) aO) ah) aq) aq) aq) aq)<|ai (aJ G<|bz ah)<|ai (kh [(_,_),(_,_),(_,_)] G (fP g<|aa g)<|ai (aJ G<|bz<|ae (bw<|ae aO<|ae (aa g) ah)<|ae (bw<|ae aO<|ae (aa g) ah)<|ae (bw<|ae aO<|ae (aa g) ah) ah)<|ai (aJ G<|aG g (aa g)<|kg (ln:=["_law_part"]) g (rfl) (fP g<|aa g) (vg λ_ g=>(PW.pt<|sJ (aX g (az g (aa g) ao) aO)<|sI<|aX g (az g (aa g) ao) ao))<|λ_ g=>(aa g)) aq)<|ai (aN<|aa g) aq)
def MR:Stmt:=a_ 81
theorem aa9:MX J6 MR Y7 af af af af af af J7 0:=λG=>have g:=G.toGood;(ai (aN<|aD g<|ae (aD g<|ae (aa g)<|ae (aa g)<|ae (aa g) ah) ah) aq)
def CJ:List Str:=["_law_text_here","_law_change_here","_law_found","_law_at","_law_word_here","_law_thing"]
def MS:Stmt:=a_ 82
theorem aa_:MX CJ MS af af eY af af af af J_ 0:=λG=>have g:=G.toGood;(ai (aJ G aO)<|ai (aJ G ao)<|ai (kh [(_,_),(_,_)] G (fP g<|aa g)<|ai (aZ (aX g (aa g) aO) (ai (aJ G<|aG g (aa g)<|aa g) aq)<|ai (aZ (aX g (aa g) aO) (ai (aJ G<|aG g (aa g)<|bJ g<|ae (aa g) ah) aq)<|ai (aJ G<|aG g (aa g)<|ig g (aa g) (fi<|aa g)<|fi<|aG g (aa g)<|aa g)<|ai (aJ G<|aG g (aa g)<|aa g) aq) aq) aq)<|ai (aN<|aa g) aq)
def CI:List Str:=["_law_found","_law_due_here","_law_part","_law_other"]
def MT:Stmt:=a_ 83
theorem aba:MX CI MT J9 af Y8 af af af af J8 0:=λG=>have g:=G.toGood;(ai (aZ (PW.pt<|eQ (cH<|jI g<|fh g<|aa g)<|gR<|aX g (bJ g<|ae (aa g) ah)<|bJ g<|ae (aa g) ah) (ai (aN fN) aq) aq)<|ai (kh [(_,_),(_,_)] G (vh g (aa g)<|aa g)<|ai (aZ (PW.pt<|eQ (cH<|jI g<|fh g<|aa g)<|eQ (aX g (bJ g<|ae (aa g) ah) ao)<|eQ (cH<|jI g<|fh g<|az g (aa g) ao)<|gR<|aX g (az g (aa g) ao)<|az g (aa g) ao) (ai (aN fN) aq) aq)<|ai (aZ (PW.pt<|eQ (aX g (fh g<|az g (aa g) ao)<|fh g<|az g (aa g) ao)<|gR<|aX g (az g (aa g) ao)<|az g (aa g) ao) (ai (aN fN) aq) aq)<|ai (aZ (PW.pt<|sJ (cH<|jI g<|fh g<|az g (aa g) ao)<|sI<|cH<|eW g<|aD g<|ae (az g (aa g) ao) ah) (ai (aN fN) aq) aq) aq)<|ai (aN fN) aq)
def ki:List Str:=["_law_e","_law_some","_law_found"]
def fQ:Stmt:=a_ 84
theorem abb:MY ki fQ af m_ ng af af af af fj 1 0:=by
 intro CX Γ X G;have g:=G.toGood;show PS X (.Assign [.Name "_law_some" _] _ _) (bM Γ<|.asg 1 _)
 with_reducible exact(aJ G<|bz<|ae (bw<|ae aO<|ae (ie g (aa g)<|gQ g) ah)<|ae (bw<|ae aO<|ae (ie g (aa g)<|gQ g) ah)<|ae (bw<|ae aO<|ae (ie g (aa g)<|gQ g) ah) ah)
theorem abc:MY ki fQ af m_ ng af af af af fj 1 1:=by
 intro CX Γ X G;have g:=G.toGood;show PS X (.Assign [.Name "_law_some" _] _ _) (bM Γ<|.asg 1 _)
 with_reducible exact(aJ G<|aG g (aa g)<|bz<|ae (bw<|ae aO<|ae (ie g (aa g)<|gQ g) ah)<|ae (bw<|ae aO<|ae (ie g (aa g)<|gQ g) ah)<|ae (bw<|ae aO<|ae (ie g (aa g)<|gQ g) ah) ah)
theorem abd:MY ki fQ af m_ ng af af af af fj 1 2:=by
 intro CX Γ X G;have g:=G.toGood;show PS X (.Assign [.Name "_law_some" _] _ _) (bM Γ<|.asg 1 _)
 with_reducible exact(aJ G<|aG g (aa g)<|bz<|ae (bw<|ae aO<|ae (ie g (aa g)<|gQ g) ah)<|ae (bw<|ae aO<|ae (ie g (aa g)<|gQ g) ah) ah)
theorem abe:MY ki fQ af m_ ng af af af af fj 1 3:=by
 intro CX Γ X G;have g:=G.toGood;show PS X (.Assign [.Name "_law_some" _] _ _) (bM Γ<|.asg 1 _)
 with_reducible exact(aJ G<|aG g (aa g)<|bz<|ae (bw<|ae aO<|ae (ie g (aa g)<|gQ g) ah)<|ae (bw<|ae aO<|ae (ie g (aa g)<|gQ g) ah) ah)
theorem abf:MY ki fQ af m_ ng af af af af fj 1 4:=by
 intro CX Γ X G;have g:=G.toGood;show PS X (.Assign [.Name "_law_some" _] _ _) (bM Γ<|.asg 1 _)
 with_reducible exact(aJ G<|aG g (aa g)<|bz<|ae (bw<|ae aO<|ae (ie g (aa g)<|gQ g) ah)<|ae (bw<|ae aO<|ae (ie g (aa g)<|gQ g) ah)<|ae (bw<|ae aO<|ae (ie g (aa g)<|gQ g) ah) ah)
theorem abg:MY ki fQ af m_ ng af af af af fj 1 5:=λG=>have g:=G.toGood;(YH G (rfl) (rfl) (rfl) (aa g) (vg λ_ g=>(Js g<|aa g))<|λ_ g=>(aa g))
theorem abh:MY ki fQ af m_ ng af af af af fj 1 6:=λG=>have g:=G.toGood;(aZ (PW.pt<|eQ (cH<|Jt g<|ie g (aa g)<|gQ g)<|gR<|cH<|Jt g<|ie g (aa g)<|YA g (rfl) (by decide) (rfl)) (ai (bQ<|bU g (aa g)<|ae aO ah) aq) aq)
theorem abi:MY ki fQ af m_ ng af af af af fj 1 7:=by
 intro CX Γ X G;have g:=G.toGood;show PS X (.Return (some _) _) (bM Γ<|.ret _)
 with_reducible exact(aN<|bU g aO<|ae (aa g) ah)
theorem abj:MX ki fQ af m_ ng af af af af fj 1:=by
 intro CX Γ X G;have e:dU fQ=[bH fQ 0,bH fQ 1,bH fQ 2,bH fQ 3,bH fQ 4,bH fQ 5,bH fQ 6,bH fQ 7]:=rfl
 have e2:fj=[bI fj 0,bI fj 1,bI fj 2,bI fj 3,bI fj 4,bI fj 5,bI fj 6,bI fj 7]:=rfl
 rw[e,e2]
 with_reducible exact ai (abb G) (ai (abc G)<|ai (abd G)<|ai (abe G)<|ai (abf G)<|ai (abg G)<|ai (abh G)<|ai (abi G)<|aq)
def MU:Stmt:=a_ 85
theorem abk:MX LC MU JY af Z7 af af af af Dd 0:=λG=>have g:=G.toGood;(ai (aJ G<|aD g<|ae (aa g)<|ae ao ah)<|ai (aJ G<|az g (bz<|ae (aG g (aa g)<|aG g (aa g) ao)<|ae ao<|ae (aa g)<|ae (aG g (aG g (aa g) ao)<|aG g (aa g) ao) ah)<|aG g (aG g (aa g) ao) ao)<|ai (aJ G<|bJ g<|ae ao<|ae (bJ g<|ae (aa g)<|ae (aG g (aa g)<|az g (bz<|ae ao<|ae ao<|ae ao<|ae (i0 ao)<|ae ao<|ae (i0 ao)<|ae ao<|ae (aa g) ah)<|aG g (aG g (aa g) ao) ao) ah) ah)<|ai (aN<|bw<|ae (aa g)<|ae (aa g)<|ae (az g (bz<|ae cR<|ae cR<|ae (aG g (aG g (aa g) ao) ao)<|ae (aa g) ah)<|aG g (aG g (aa g) ao) ao) ah) aq)
def MV:List Str:=["_law_script","_law_start","_law_size_here","_law_many","_law_found","_law_k","_law_cell"]
noncomputable def Dh:List RS:=
 [.asg 3 (.bin .Add (.c (.int 1)) (.bin .Mod (.call 0 [.v 0,.v 1]) (.c (.int 6)))),
 .ite (.cmp .Eq (.bin .Mod (.bin .FloorDiv (.call 0 [.v 0,.v 1])<|.c<|.int 6)<|.c<|.int 9)<|.c<|.int 1) [.asg 3<|.c<|.int 40] [],
 .asg 4 (.lst []),
 .jA 5 .gZ [.v 3] [.asg 6 (.call 0 [.v 0,(.bin .Add (.bin .Add (.v 1) (.c (.int 1))) (.bin .Mod (.v 5) (.c (.int 6))))]),
  .drop (.bq .append (.v 4) [(.call 1 [(.bin .Add (.call 2 [.v 6,(.bin .FloorDiv (.v 5) (.c (.int 6)))]) (.v 5)),.v 2])])],
 .ret (.v 4)]
def abl:List Str:=["_law_cell_at","_law_cursor","_law_mixed"]
def MW:List Str:=["range"]
def MZ:Stmt:=a_ 86
theorem abm:MX MV MZ abl af MW af af af af Dh 0:=λG=>have g:=G.toGood;(ai (aJ G<|aG g ao<|aG g (aD g<|ae (aa g)<|ae (aa g) ah) ao)<|ai (aZ (aX g (aG g (aG g (aD g<|ae (aa g)<|ae (aa g) ah) ao) ao) ao) (ai (aJ G ao) aq) aq)<|ai (aJ G<|bz ah)<|ai (oB G (yN g<|aa g)<|ai (aJ G<|aD g<|ae (aa g)<|ae (aG g (aG g (aa g) ao)<|aG g (aa g) ao) ah)<|ai (bQ<|bU g (aa g)<|ae (aD g<|ae (aG g (aD g<|ae (aa g)<|ae (aG g (aa g) ao) ah)<|aa g)<|ae (aa g) ah) ah) aq)<|ai (aN<|aa g) aq)
def oI:List Str:=["_law_cursors","_law_groups","_law_begin","_law_end","_law_k","_law_is_near","_law_low","_law_high","_law_some","_law_found","_law_first"]
def i9:Stmt:=a_ 87
theorem abn:MY oI i9 af af sT af af af af i8 0 0:=by
 intro CX Γ X G;show PS X (.Assign [.Name "_law_groups" _] _ _) (bM Γ<|.asg 1 _)
 with_reducible exact(aJ G<|bz ah)
theorem abo:MY oI i9 af af sT af af af af i8 0 1:=λG=>have g:=G.toGood;(kh [(_,_),(_,_),(_,_)] G (fP g<|Ln g<|ae (kg (ln:=["_law_k","_law_one"]) g (rfl) (Ju g<|aa g) qk<|λ_ g=>(bw<|ae (Lr g<|ae (ig g (aa g) lQ<|fi ao) ah)<|ae (Ls g<|ae (ig g (aa g) lQ<|fi ao) ah)<|ae (aa g) ah)) ah)<|ai (aJ G fN)<|ai (aZ (aX g (aa g)<|bz ah) (ai (yQ [(_,_),(_,_),(_,_)] G<|az g (aa g)<|i0 ao)<|ai (aJ G<|yK (dG g (aa g)<|aa g)<|yJ<|gB (dG g (aa g)<|aa g)<|ic<|yK (dG g (aa g)<|aa g)<|yJ<|dG g (aa g)<|aa g) aq) aq)<|ai (aZ (Js g<|aa g) (ai (yP (bz<|ae (aa g)<|ae (bJ g<|ae (aa g)<|ae (aa g) ah)<|ae (aG g (aa g)<|bz<|ae (aa g) ah) ah) (aa g)<|i0 ao) aq)<|ai (bQ<|bU g (aa g)<|ae (bz<|ae (aa g)<|ae (aa g)<|ae (bz<|ae (aa g) ah) ah) ah) aq) aq)
theorem abp:MY oI i9 af af sT af af af af i8 0 2:=by
 intro CX Γ X G;show PS X (.Assign [.Name "_law_found" _] _ _) (bM Γ<|.asg 9 _)
 with_reducible exact(aJ G<|bz ah)
theorem abq:MY oI i9 af af sT af af af af i8 0 3:=λG=>have g:=G.toGood;(kh [(_,_),(_,_),(_,_)] G (fP g<|aa g)<|ai (aJ G<|az g (aa g)<|bJ g<|ae (aa g) ah)<|ai (aZ (aX g (bJ g<|ae (aa g) ah) ao) (ai (bQ<|bU g (aa g)<|ae (aa g) ah) aq)<|ai (aZ (aX g (az g (aa g) ao)<|az g (aa g) ao) (ai (bQ<|bU g (aa g)<|ae (bw<|ae (aa g)<|ae (aa g)<|ae cR ah) ah) aq)<|ai (bQ<|bU g (aa g)<|ae (bw<|ae (aa g)<|ae (aa g)<|ae cR ah) ah) aq) aq) aq)
theorem abr:MY oI i9 af af sT af af af af i8 0 4:=by
 intro CX Γ X G;show PS X (.Return (some _) _) (bM Γ<|.ret _)
 with_reducible exact(aN<|aa G.toGood)
theorem abt:MX oI i9 af af sT af af af af i8 0:=by
 intro CX Γ X G;have e:dU i9=[bH i9 0,bH i9 1,bH i9 2,bH i9 3,bH i9 4]:=rfl
 have e2:i8=[bI i8 0,bI i8 1,bI i8 2,bI i8 3,bI i8 4]:=rfl
 rw[e,e2]
 with_reducible exact ai (abn G) (ai (abo G)<|ai (abp G)<|ai (abq G)<|ai (abr G)<|aq)
def De:List Str:=["_law_found","_law_due_here","_law_one","_law_other"]
def M0:Stmt:=a_ 88
theorem abu:MX De M0 J9 af Z8 af af af af LD 0:=λG=>have g:=G.toGood;(ai (aZ (PW.pt<|eQ (cH<|jI g<|fh g<|aa g)<|gR<|aX g (bJ g<|ae (aa g) ah)<|bJ g<|ae (aa g) ah) (ai (aN fN) aq) aq)<|ai (kh [(_,_),(_,_)] G (vh g (aa g)<|aa g)<|ai (aZ (PW.pt<|eQ (cH<|jI g<|fh g<|aa g)<|eQ (aX g (aa g)<|aa g)<|eQ (cH<|eW g<|aD g<|ae (az g (aa g) ao) ah)<|gR<|cH<|eW g<|aD g<|ae (az g (aa g) ao) ah) (ai (aN fN) aq) aq)<|ai (aZ (PW.pt<|sJ (aX g (az g (aa g) ao) cR)<|sI<|cH<|eW g<|aD g<|ae (az g (aa g) ao) ah) (ai (aN fN) aq) aq) aq)<|ai (aN fN) aq)
def M1:List Str:=["_law_script","_law_start","_law_many","_law_found","_law_k","_law_number"]
noncomputable def M3:List RS:=
 [.asg 3 (.lst []),
 .jA 4 .gZ [.v 2] [.asg 5 (.call 0 [(.call 1 [.v 0,(.bin .Add (.v 1) (.bin .Mod (.v 4) (.c (.int 6))))]),(.bin .Add (.c (.int 30)) (.bin .FloorDiv (.v 4) (.c (.int 6))))]),
  .drop (.bq .append (.v 3) [(.call 2 [.v 5,(.ix (.lst [(.c (.int 0)),(.c (.int 1)),(.c (.int 1)),(.c (.int 2)),(.c (.int 4)),(.c (.int 0))]) (.bin .Mod (.v 5) (.c (.int 6))))])])],
 .ret (.v 3)]
def abv:List Str:=["_law_mixed","_law_cell_at","_law_text"]
def M4:Stmt:=a_ 89
theorem abw:MX M1 M4 abv af MW af af af af M3 0:=λG=>have g:=G.toGood;(ai (aJ G<|bz ah)<|ai (oB G (yN g<|aa g)<|ai (aJ G<|aD g<|ae (aD g<|ae (aa g)<|ae (aG g (aa g)<|aG g (aa g) ao) ah)<|ae (aG g ao<|aG g (aa g) ao) ah)<|ai (bQ<|bU g (aa g)<|ae (aD g<|ae (aa g)<|ae (az g (bz<|ae ao<|ae ao<|ae ao<|ae ao<|ae ao<|ae ao ah)<|aG g (aa g) ao) ah) ah) aq)<|ai (aN<|aa g) aq)
def M5:List Str:=["_law_text_here","_law_cursors","_law_texts_here","_law_parts_here","_law_places","_law_at","_law_size_here","_law_cursor_here","_law_put","_law_begin","_law_end"]
noncomputable def M6:List RS:=
 [.asg 3 (.lst []),
 .asg 4 (.lst []),
 .asg 5 (.c<|.int 0),
 .asg 6 (.c<|.int 0),
 .hX [7,8] .zip [.v 1,.v 2] [.asg 9 (.xt vy [(.sl (.v 7) none (some (.c (.int 2))))]),
  .asg 10 (.xt vz [(.sl (.v 7) none<|some<|.c<|.int 2)]),
  .asg 3 (.bin .Add (.v 3)<|.lst [(.tup [(.c<|.str "keep"),(.bin .Sub (.v 9)<|.v 5)]),(.tup [(.c<|.str "put"),.v 8]),(.tup [(.c<|.str "cut"),(.sl (.v 0) (some<|.v 9)<|some<|.v 10)])]),
  .asg 6 (.bin .Add (.bin .Sub (.bin .Add (.v 6)<|.v 9)<|.v 5)<|.blt .len [.v 8]),
  .drop (.bq .append (.v 4) [(.tup [.v 6,.v 6,.c .aB])]),
  .asg 5 (.v 10)],
 .ret (.tup [(.call 0 [(.bin .Add (.v 3) (.lst [(.tup [(.c (.str "keep")),(.bin .Sub (.blt .len [.v 0]) (.v 5))])]))]),(.call 1 [.v 4])])]
def abx:List Str:=["_law_neat","_law_settled"]
def aby:List Str:=["zip","min","max","len"]
def M7:Stmt:=a_ 90
theorem abz:MX M5 M7 abx af aby af af af af M6 0:=λG=>have g:=G.toGood;(ai (aJ G<|bz ah)<|ai (aJ G<|bz ah)<|ai (aJ G ao)<|ai (aJ G ao)<|ai (kh [(_,_),(_,_)] G (vh g (aa g)<|aa g)<|ai (aJ G<|Lr g<|ae (ig g (aa g) lQ<|fi ao) ah)<|ai (aJ G<|Ls g<|ae (ig g (aa g) lQ<|fi ao) ah)<|ai (aJ G<|aG g (aa g)<|bz<|ae (bw<|ae aO<|ae (aG g (aa g)<|aa g) ah)<|ae (bw<|ae aO<|ae (aa g) ah)<|ae (bw<|ae aO<|ae (ig g (aa g) (fi<|aa g)<|fi<|aa g) ah) ah)<|ai (aJ G<|aG g (aG g (aG g (aa g)<|aa g)<|aa g)<|bJ g<|ae (aa g) ah)<|ai (bQ<|bU g (aa g)<|ae (bw<|ae (aa g)<|ae (aa g)<|ae cR ah) ah)<|ai (aJ G<|aa g) aq)<|ai (aN<|bw<|ae (aD g<|ae (aG g (aa g)<|bz<|ae (bw<|ae aO<|ae (aG g (bJ g<|ae (aa g) ah)<|aa g) ah) ah) ah)<|ae (aD g<|ae (aa g) ah) ah) aq)
def iI:List Str:=["_law_paper","_law_text_here","_law_handed","_law_change_here","_law_places","_law_found","_law_last"]
noncomputable def dw:List RS:=
 [.set (.ix (.v 2) (.c (.int 1))) (.c (.int 0)) (.bin .Add (.ix (.ix (.v 2) (.c (.int 1))) (.c (.int 0))) (.c (.str "x"))),
 .oi [3,4] (.call 0 [.v 1,(.blt .list [(.ix (.v 2)<|.c<|.int 0)]),(.blt .list [(.ix (.v 2)<|.c<|.int 1)])]),
 .asg 5 (.call 1 [.v 0,(.ix (.v 2)<|.c<|.int 0),(.ix (.v 2)<|.c<|.int 1)]),
 .ite (.or [(.not<|.call 2 [(.ix (.v 5)<|.c<|.int 0),.v 3]),(.not<|.call 3 [(.ix (.v 5)<|.c<|.int 1),.v 4])]) [.ret<|.c<|.bl false] [],
 .asg 6 (.ix (.ix (.v 2)<|.c<|.int 0)<|.neg<|.c<|.int 1),
 .drop (.bq .clear (.ix (.v 2)<|.c<|.int 0) []),
 .drop (.bq .append (.ix (.v 2)<|.c<|.int 0) [.v 6]),
 .drop (.bq .clear (.ix (.v 2)<|.c<|.int 1) []),
 .drop (.bq .append (.ix (.v 2)<|.c<|.int 1) [(.c<|.str "ab")]),
 .oi [3,4] (.call 0 [.v 1,(.lst [.v 6]),(.lst [(.c<|.str "ab")])]),
 .asg 5 (.call 1 [.v 0,(.ix (.v 2)<|.c<|.int 0),(.ix (.v 2)<|.c<|.int 1)]),
 .ret (.and [(.call 2 [(.ix (.v 5) (.c (.int 0))),.v 3]),(.call 3 [(.ix (.v 5) (.c (.int 1))),.v 4])])]
def i_:List Str:=["_law_due","entered","_law_same","_law_alike"]
def ja:List Str:=["list"]
def dz:Stmt:=a_ 91
theorem abA:MY iI dz i_ af ja af af af af dw 0 0:=λG=>have g:=G.toGood;(yP (aG g (az g (az g (aa g) ao) ao) aO) (az g (aa g) ao) ao)
theorem abB:MY iI dz i_ af ja af af af af dw 0 1:=λG=>have g:=G.toGood;(yQ [(_,_),(_,_)] G<|aD g<|ae (aa g)<|ae (bJ g<|ae (az g (aa g) ao) ah)<|ae (bJ g<|ae (az g (aa g) ao) ah) ah)
theorem abC:MY iI dz i_ af ja af af af af dw 0 2:=by
 intro CX Γ X G;have g:=G.toGood;show PS X (.Assign [.Name "_law_found" _] _ _) (bM Γ<|.asg 5 _)
 with_reducible exact(aJ G<|aD g<|ae (aa g)<|ae (az g (aa g) ao)<|ae (az g (aa g) ao) ah)
theorem abD:MY iI dz i_ af ja af af af af dw 0 3:=λG=>have g:=G.toGood;(aZ (PW.pt<|eQ (cH<|eW g<|aD g<|ae (az g (aa g) ao)<|ae (aa g) ah)<|gR<|cH<|eW g<|aD g<|ae (az g (aa g) ao)<|ae (aa g) ah) (ai (aN fN) aq) aq)
theorem abE:MY iI dz i_ af ja af af af af dw 0 4:=by
 intro CX Γ X G;have g:=G.toGood;show PS X (.Assign [.Name "_law_last" _] _ _) (bM Γ<|.asg 6 _)
 with_reducible exact(aJ G<|az g (az g (aa g) ao)<|i0 ao)
theorem abF:MY iI dz i_ af ja af af af af dw 0 5:=λG=>have g:=G.toGood;(bQ<|yL g<|az g (aa g) ao)
theorem abG:MY iI dz i_ af ja af af af af dw 0 6:=λG=>have g:=G.toGood;(bQ<|bU g (az g (aa g) ao)<|ae (aa g) ah)
theorem abH:MY iI dz i_ af ja af af af af dw 0 7:=λG=>have g:=G.toGood;(bQ<|yL g<|az g (aa g) ao)
theorem abI:MY iI dz i_ af ja af af af af dw 0 8:=λG=>have g:=G.toGood;(bQ<|bU g (az g (aa g) ao)<|ae aO ah)
theorem abJ:MY iI dz i_ af ja af af af af dw 0 9:=λG=>have g:=G.toGood;(yQ [(_,_),(_,_)] G<|aD g<|ae (aa g)<|ae (bz<|ae (aa g) ah)<|ae (bz<|ae aO ah) ah)
theorem abK:MY iI dz i_ af ja af af af af dw 0 10:=by
 intro CX Γ X G;have g:=G.toGood;show PS X (.Assign [.Name "_law_found" _] _ _) (bM Γ<|.asg 5 _)
 with_reducible exact(aJ G<|aD g<|ae (aa g)<|ae (az g (aa g) ao)<|ae (az g (aa g) ao) ah)
theorem abL:MY iI dz i_ af ja af af af af dw 0 11:=by
 intro CX Γ X G;have g:=G.toGood;show PS X (.Return (some _) _) (bM Γ<|.ret _)
 with_reducible exact(aN<|gB (aD g<|ae (az g (aa g) ao)<|ae (aa g) ah)<|ic<|aD g<|ae (az g (aa g) ao)<|ae (aa g) ah)
theorem abM:MX iI dz i_ af ja af af af af dw 0:=by
 intro CX Γ X G;have e:dU dz=[bH dz 0,bH dz 1,bH dz 2,bH dz 3,bH dz 4,bH dz 5,bH dz 6,bH dz 7,bH dz 8,bH dz 9,bH dz 10,bH dz 11]:=rfl
 have e2:dw=[bI dw 0,bI dw 1,bI dw 2,bI dw 3,bI dw 4,bI dw 5,bI dw 6,bI dw 7,bI dw 8,bI dw 9,bI dw 10,bI dw 11]:=rfl
 rw[e,e2]
 with_reducible exact ai (abA G) (ai (abB G)<|ai (abC G)<|ai (abD G)<|ai (abE G)<|ai (abF G)<|ai (abG G)<|ai (abH G)<|ai (abI G)<|ai (abJ G)<|ai (abK G)<|ai (abL G)<|aq)
def lT:List Str:=["_law_paper","_law_text_here","_law_cursors","_law_texts_here","_law_told_here","_law_change_here","_law_places","_law_handed","_law_found"]
noncomputable def fS:List RS:=
 [.oi [5,6] (.call 0 [.v 1,.v 2,.v 3]),
 .asg 7 (.lst [(.blt .list [.v 2]),(.blt .list [.v 3])]),
 .asg 8 (.call 1 [.v 0,(.ix (.v 7)<|.c<|.int 0),(.ix (.v 7)<|.c<|.int 1)]),
 .ite (.or [(.not<|.dr .tuple<|.v 8),(.cmp .NotEq (.blt .len [.v 8])<|.c<|.int 2),(.cmp .NotEq (.v 7)<|.lst [.v 2,.v 3])]) [.ret<|.c<|.bl false] [],
 .ite (.or [(.not<|.call 2 [(.ix (.v 8)<|.c<|.int 0),.v 5]),(.not<|.call 3 [(.ix (.v 8)<|.c<|.int 1),.v 6]),(.cmp .NotEq (.du 0 "text" (.v 0) [])<|.v 1)]) [.ret<|.c<|.bl false] [],
 .drop (.bq .append (.v 4) [(.tup [(.ix (.v 8)<|.c<|.int 0),(.blt .list [(.ix (.v 8)<|.c<|.int 0)])])]),
 .drop (.bq .append (.v 4) [(.tup [(.ix (.v 8)<|.c<|.int 1),(.blt .list [(.ix (.v 8)<|.c<|.int 1)])])]),
 .ret (.and [(.cmp .Eq (.du 0 "text" (.du 1 "changed" (.v 0) [(.ix (.v 8) (.c (.int 0)))]) []) (.call 4 [.v 1,.v 5])),(.call 5 [.v 0,.v 1,.v 7])])]
def nk:List Str:=["_law_due","entered","_law_same","_law_alike","_law_done","_law_again"]
def nq:List Str:=["list","isinstance","tuple","len"]
def nu:List Str:=["text","changed"]
def fU:Stmt:=a_ 92
theorem abN:MY lT fU nk af nq nu af af af fS 0 0:=λG=>have g:=G.toGood;(yQ [(_,_),(_,_)] G<|aD g<|ae (aa g)<|ae (aa g)<|ae (aa g) ah)
theorem abO:MY lT fU nk af nq nu af af af fS 0 1:=by
 intro CX Γ X G;have g:=G.toGood;show PS X (.Assign [.Name "_law_handed" _] _ _) (bM Γ<|.asg 7 _)
 with_reducible exact(aJ G<|bz<|ae (bJ g<|ae (aa g) ah)<|ae (bJ g<|ae (aa g) ah) ah)
theorem abP:MY lT fU nk af nq nu af af af fS 0 2:=by
 intro CX Γ X G;have g:=G.toGood;show PS X (.Assign [.Name "_law_found" _] _ _) (bM Γ<|.asg 8 _)
 with_reducible exact(aJ G<|aD g<|ae (aa g)<|ae (az g (aa g) ao)<|ae (az g (aa g) ao) ah)
theorem abQ:MY lT fU nk af nq nu af af af fS 0 3:=λG=>have g:=G.toGood;(aZ (PW.pt<|eQ (cH<|jI g<|fh g<|aa g)<|eQ (aX g (bJ g<|ae (aa g) ah) ao)<|gR<|aX g (aa g)<|bz<|ae (aa g)<|ae (aa g) ah) (ai (aN fN) aq) aq)
theorem abR:MY lT fU nk af nq nu af af af fS 0 4:=λG=>have g:=G.toGood;(aZ (PW.pt<|eQ (cH<|eW g<|aD g<|ae (az g (aa g) ao)<|ae (aa g) ah)<|eQ (cH<|eW g<|aD g<|ae (az g (aa g) ao)<|ae (aa g) ah)<|gR<|aX g (m8 g<|aa g)<|aa g) (ai (aN fN) aq) aq)
theorem abS:MY lT fU nk af nq nu af af af fS 0 5:=λG=>have g:=G.toGood;(bQ<|bU g (aa g)<|ae (bw<|ae (az g (aa g) ao)<|ae (bJ g<|ae (az g (aa g) ao) ah) ah) ah)
theorem abT:MY lT fU nk af nq nu af af af fS 0 6:=λG=>have g:=G.toGood;(bQ<|bU g (aa g)<|ae (bw<|ae (az g (aa g) ao)<|ae (bJ g<|ae (az g (aa g) ao) ah) ah) ah)
theorem abU:MY lT fU nk af nq nu af af af fS 0 7:=by
 intro CX Γ X G;have g:=G.toGood;show PS X (.Return (some _) _) (bM Γ<|.ret _)
 with_reducible exact(aN<|gB (dG g (m8 g<|oA g (aa g)<|ae (az g (aa g) ao) ah)<|aD g<|ae (aa g)<|ae (aa g) ah)<|ic<|aD g<|ae (aa g)<|ae (aa g)<|ae (aa g) ah)
theorem abV:MX lT fU nk af nq nu af af af fS 0:=by
 intro CX Γ X G;have e:dU fU=[bH fU 0,bH fU 1,bH fU 2,bH fU 3,bH fU 4,bH fU 5,bH fU 6,bH fU 7]:=rfl
 have e2:fS=[bI fS 0,bI fS 1,bI fS 2,bI fS 3,bI fS 4,bI fS 5,bI fS 6,bI fS 7]:=rfl
 rw[e,e2]
 with_reducible exact ai (abN G) (ai (abO G)<|ai (abP G)<|ai (abQ G)<|ai (abR G)<|ai (abS G)<|ai (abT G)<|ai (abU G)<|aq)
def M8:List Str:=["_law_paper","_law_cursors","_law_texts_here","_law_e"]
noncomputable def M9:List RS:=
 [.BN 4 3 0 [.drop (.call 0 [.v 0,.v 1,.v 2])] [.ret (.yr 0 (.v 3))],
 .ret (.c (.str ""))]
def abW:List Str:=["entered"]
def abX:List Str:=["InkError"]
def abY:List Str:=["_law_word"]
def M_:Stmt:=a_ 93
theorem abZ:MX M8 M_ abW abX af af af af abY M9 0:=λG=>have g:=G.toGood;(ai (YK G (rfl) (rfl) (λG=>(λg=>(ai (bQ<|aD g<|ae (aa g)<|ae (aa g)<|ae (aa g) ah) aq)) G.toGood)<|λG=>(λg=>(ai (aN<|YB g<|aa g) aq)) G.toGood)<|ai (aN aO) aq)
def jK:List Str:=["_law_paper","_law_cursors","_law_texts_here","_law_cell","_law_at","_law_size_here","_law_odd","_law_none","_law_bad"]
noncomputable def d6:List RS:=
 [.asg 4 (.bin .Mod (.bin .FloorDiv (.v 3) (.c (.int 5))) (.blt .len [.v 1])),
 .asg 5 (.du 0 "size" (.v 0) []),
 .asg 6 (.ix (.lst [(.tup [(.c<|.int 0),(.bin .Add (.v 5)<|.c<|.int 1),.c .aB]),.c .aB,(.tup [(.c<|.int 0),(.c<|.int 0)]),(.lst [(.c<|.int 0),(.c<|.int 0),.c .aB]),(.tup [(.c<|.bl true),(.c<|.int 0),.c .aB])])<|.bin .Mod (.bin .FloorDiv (.v 3)<|.c<|.int 5)<|.c<|.int 5),
 .asg 7 (.ix (.lst [.c .aB,(.c<|.str "\t"),(.c<|.int 5),(.lst [(.c<|.str "a")]),(.c<|.str "a\tb"),(.tup [(.c<|.str "b")])])<|.bin .Mod (.bin .FloorDiv (.v 3)<|.c<|.int 5)<|.c<|.int 6),
 .asg 8 (.bin .Add (.bin .Add (.sl (.v 2) none<|some<|.v 4)<|.lst [.v 7])<|.sl (.v 2) (some<|.bin .Add (.v 4)<|.c<|.int 1) none),
 .ite (.cmp .Eq (.bin .Mod (.v 3)<|.c<|.int 5)<|.c<|.int 0) [.ret<|.cmp .Eq (.call 0 [.v 0,(.bin .Add (.bin .Add (.sl (.v 1) none<|some<|.v 4)<|.lst [.v 6])<|.sl (.v 1) (some<|.bin .Add (.v 4)<|.c<|.int 1) none),(.bin .Add (.v 8)<|.lst [(.c<|.str "a")])])<|.c<|.str "cursor"] [],
 .ite (.cmp .Eq (.bin .Mod (.v 3)<|.c<|.int 5)<|.c<|.int 1) [.ret<|.cmp .Eq (.call 0 [.v 0,.v 1,(.bin .Add (.v 8)<|.lst [(.c<|.str "a")])])<|.c<|.str "deed"] [],
 .ite (.cmp .Eq (.bin .Mod (.v 3)<|.c<|.int 5)<|.c<|.int 2) [.ret<|.cmp .Eq (.call 0 [.v 0,.v 1,(.sl (.v 8) (some<|.c<|.int 1) none)])<|.c<|.str "deed"] [],
 .ite (.cmp .Eq (.bin .Mod (.v 3)<|.c<|.int 5)<|.c<|.int 3) [.ret<|.cmp .Eq (.call 0 [.v 0,.v 1,(.ix (.lst [.c .aB,(.c<|.str "a"),(.c<|.int 1),(.blt .tuple [.v 2]),.yt])<|.bin .Mod (.bin .FloorDiv (.v 3)<|.c<|.int 5)<|.c<|.int 5)])<|.c<|.str "deed"] [],
 .ret (.cmp .Eq (.call 0 [.v 0,.v 1,.v 8]) (.c (.str "text")))]
def ko:List Str:=["_law_told"]
def kq:List Str:=["len","tuple"]
def eG:Stmt:=a_ 94
theorem ab0:MY jK eG ko af kq i5 af af af d6 0 0:=by
 intro CX Γ X G;have g:=G.toGood;show PS X (.Assign [.Name "_law_at" _] _ _) (bM Γ<|.asg 4 _)
 with_reducible exact(aJ G<|aG g (aG g (aa g) ao)<|bJ g<|ae (aa g) ah)
theorem ab1:MY jK eG ko af kq i5 af af af d6 0 1:=by
 intro CX Γ X G;have g:=G.toGood;show PS X (.Assign [.Name "_law_size_here" _] _ _) (bM Γ<|.asg 5 _)
 with_reducible exact(aJ G<|m8 g<|aa g)
theorem ab2:MY jK eG ko af kq i5 af af af d6 0 2:=by
 intro CX Γ X G;have g:=G.toGood;show PS X (.Assign [.Name "_law_odd" _] _ _) (bM Γ<|.asg 6 _)
 with_reducible exact(aJ G<|az g (bz<|ae (bw<|ae ao<|ae (aG g (aa g) ao)<|ae cR ah)<|ae cR<|ae (bw<|ae ao<|ae ao ah)<|ae (bz<|ae ao<|ae ao<|ae cR ah)<|ae (bw<|ae fN<|ae ao<|ae cR ah) ah)<|aG g (aG g (aa g) ao) ao)
theorem ab3:MY jK eG ko af kq i5 af af af d6 0 3:=by
 intro CX Γ X G;have g:=G.toGood;show PS X (.Assign [.Name "_law_none" _] _ _) (bM Γ<|.asg 7 _)
 with_reducible exact(aJ G<|az g (bz<|ae cR<|ae aO<|ae ao<|ae (bz<|ae aO ah)<|ae aO<|ae (bw<|ae aO ah) ah)<|aG g (aG g (aa g) ao) ao)
theorem ab4:MY jK eG ko af kq i5 af af af d6 0 4:=by
 intro CX Γ X G;have g:=G.toGood;show PS X (.Assign [.Name "_law_bad" _] _ _) (bM Γ<|.asg 8 _)
 with_reducible exact(aJ G<|aG g (aG g (ig g (aa g) lQ<|fi<|aa g)<|bz<|ae (aa g) ah)<|ig g (aa g) (fi<|aG g (aa g) ao) lQ)
theorem ab5:MY jK eG ko af kq i5 af af af d6 0 5:=λG=>have g:=G.toGood;(aZ (aX g (aG g (aa g) ao) ao) (ai (aN<|dG g (aD g<|ae (aa g)<|ae (aG g (aG g (ig g (aa g) lQ<|fi<|aa g)<|bz<|ae (aa g) ah)<|ig g (aa g) (fi<|aG g (aa g) ao) lQ)<|ae (aG g (aa g)<|bz<|ae aO ah) ah) aO) aq) aq)
theorem ab6:MY jK eG ko af kq i5 af af af d6 0 6:=λG=>have g:=G.toGood;(aZ (aX g (aG g (aa g) ao) ao) (ai (aN<|dG g (aD g<|ae (aa g)<|ae (aa g)<|ae (aG g (aa g)<|bz<|ae aO ah) ah) aO) aq) aq)
theorem ab7:MY jK eG ko af kq i5 af af af d6 0 7:=λG=>have g:=G.toGood;(aZ (aX g (aG g (aa g) ao) ao) (ai (aN<|dG g (aD g<|ae (aa g)<|ae (aa g)<|ae (ig g (aa g) (fi ao) lQ) ah) aO) aq) aq)
theorem ab8:MY jK eG ko af kq i5 af af af d6 0 8:=λG=>have g:=G.toGood;(aZ (aX g (aG g (aa g) ao) ao) (ai (aN<|dG g (aD g<|ae (aa g)<|ae (aa g)<|ae (az g (bz<|ae cR<|ae aO<|ae ao<|ae (bJ g<|ae (aa g) ah)<|ae Yy ah)<|aG g (aG g (aa g) ao) ao) ah) aO) aq) aq)
theorem ab9:MY jK eG ko af kq i5 af af af d6 0 9:=by
 intro CX Γ X G;have g:=G.toGood;show PS X (.Return (some _) _) (bM Γ<|.ret _)
 with_reducible exact(aN<|dG g (aD g<|ae (aa g)<|ae (aa g)<|ae (aa g) ah) aO)
theorem ab_:MX jK eG ko af kq i5 af af af d6 0:=by
 intro CX Γ X G;have e:dU eG=[bH eG 0,bH eG 1,bH eG 2,bH eG 3,bH eG 4,bH eG 5,bH eG 6,bH eG 7,bH eG 8,bH eG 9]:=rfl
 have e2:d6=[bI d6 0,bI d6 1,bI d6 2,bI d6 3,bI d6 4,bI d6 5,bI d6 6,bI d6 7,bI d6 8,bI d6 9]:=rfl
 rw[e,e2]
 with_reducible exact ai (ab0 G) (ai (ab1 G)<|ai (ab2 G)<|ai (ab3 G)<|ai (ab4 G)<|ai (ab5 G)<|ai (ab6 G)<|ai (ab7 G)<|ai (ab8 G)<|ai (ab9 G)<|aq)
def jb:List Str:=["_law_script","_law_text_here","_law_change_here","_law_paper","_law_cursors","_law_texts_here","_law_told_here","_law_cell"]
noncomputable def dJ:List RS:=
 [.asg 1 (.call 0 [(.call 1 [.v 0,(.c (.int 1))]),(.call 2 [(.call 1 [.v 0,(.c (.int 0))])])]),
 .asg 2 (.call 3 [(.call 1 [.v 0,(.c<|.int 2)]),.v 1,(.bin .Mod (.call 4 [(.call 1 [.v 0,(.c<|.int 2)]),(.c<|.int 3)])<|.c<|.int 9)]),
 .asg 3 (.du 0 "changed" (.call 5 [.v 1]) [.v 2]),
 .asg 1 (.call 6 [.v 1,.v 2]),
 .asg 4 (.call 7 [(.call 8 [.v 0,(.c<|.int 3),(.blt .len [.v 1])])]),
 .asg 5 (.call 9 [.v 0,(.c<|.int 10),(.blt .len [.v 4])]),
 .asg 6 (.lst []),
 .ite (.not<|.call 10 [.v 3,.v 1,.v 4,.v 5,.v 6]) [.ret<|.c<|.bl false] [],
 .ite (.not<|.call 10 [.v 3,.v 1,.v 4,(.call 9 [.v 0,(.c<|.int 16),(.blt .len [.v 4])]),.v 6]) [.ret<|.c<|.bl false] [],
 .jA 7 .list [(.sl (.v 0) (some<|.c<|.int 22)<|some<|.c<|.int 25)] [.ite (.or [(.not<|.call 11 [.v 3,.v 4,.v 5,(.call 4 [.v 7,(.c<|.int 6)])]),(.cmp .NotEq (.du 1 "text" (.v 3) [])<|.v 1)]) [.ret<|.c<|.bl false] []],
 .ret (.and [(.call 10 [.v 3,.v 1,.v 4,.v 5,.v 6]),(.cmp .Eq (.comp (some 2) [] .list [.v 6] (some (.cmp .NotEq (.v 0) (.v 1))) (.v 0)) (.lst []))])]
def jL:List Str:=["_law_text","_law_cell_at","_law_size","_law_change","_law_mixed","paper_of","_law_done","_law_settled","_law_drawn","_law_texts","_law_entered","_law_refused"]
def jM:List Str:=["changed","text"]
def dX:Stmt:=a_ 95
theorem aca:MY jb dX jL af eY jM af af af dJ 0 0:=by
 intro CX Γ X G;have g:=G.toGood;show PS X (.Assign [.Name "_law_text_here" _] _ _) (bM Γ<|.asg 1 _)
 with_reducible exact(aJ G<|aD g<|ae (aD g<|ae (aa g)<|ae ao ah)<|ae (aD g<|ae (aD g<|ae (aa g)<|ae ao ah) ah) ah)
theorem acb:MY jb dX jL af eY jM af af af dJ 0 1:=by
 intro CX Γ X G;have g:=G.toGood;show PS X (.Assign [.Name "_law_change_here" _] _ _) (bM Γ<|.asg 2 _)
 with_reducible exact(aJ G<|aD g<|ae (aD g<|ae (aa g)<|ae ao ah)<|ae (aa g)<|ae (aG g (aD g<|ae (aD g<|ae (aa g)<|ae ao ah)<|ae ao ah) ao) ah)
theorem acd:MY jb dX jL af eY jM af af af dJ 0 2:=by
 intro CX Γ X G;have g:=G.toGood;show PS X (.Assign [.Name "_law_paper" _] _ _) (bM Γ<|.asg 3 _)
 with_reducible exact(aJ G<|oA g (aD g<|ae (aa g) ah)<|ae (aa g) ah)
theorem ace:MY jb dX jL af eY jM af af af dJ 0 3:=by
 intro CX Γ X G;have g:=G.toGood;show PS X (.Assign [.Name "_law_text_here" _] _ _) (bM Γ<|.asg 1 _)
 with_reducible exact(aJ G<|aD g<|ae (aa g)<|ae (aa g) ah)
theorem acf:MY jb dX jL af eY jM af af af dJ 0 4:=by
 intro CX Γ X G;have g:=G.toGood;show PS X (.Assign [.Name "_law_cursors" _] _ _) (bM Γ<|.asg 4 _)
 with_reducible exact(aJ G<|aD g<|ae (aD g<|ae (aa g)<|ae ao<|ae (bJ g<|ae (aa g) ah) ah) ah)
theorem acg:MY jb dX jL af eY jM af af af dJ 0 5:=by
 intro CX Γ X G;have g:=G.toGood;show PS X (.Assign [.Name "_law_texts_here" _] _ _) (bM Γ<|.asg 5 _)
 with_reducible exact(aJ G<|aD g<|ae (aa g)<|ae ao<|ae (bJ g<|ae (aa g) ah) ah)
theorem ach:MY jb dX jL af eY jM af af af dJ 0 6:=by
 intro CX Γ X G;show PS X (.Assign [.Name "_law_told_here" _] _ _) (bM Γ<|.asg 6 _)
 with_reducible exact(aJ G<|bz ah)
theorem aci:MY jb dX jL af eY jM af af af dJ 0 7:=λG=>have g:=G.toGood;(aZ (cH<|eW g<|aD g<|ae (aa g)<|ae (aa g)<|ae (aa g)<|ae (aa g)<|ae (aa g) ah) (ai (aN fN) aq) aq)
theorem acj:MY jb dX jL af eY jM af af af dJ 0 8:=λG=>have g:=G.toGood;(aZ (cH<|eW g<|aD g<|ae (aa g)<|ae (aa g)<|ae (aa g)<|ae (aD g<|ae (aa g)<|ae ao<|ae (bJ g<|ae (aa g) ah) ah)<|ae (aa g) ah) (ai (aN fN) aq) aq)
theorem ack:MY jb dX jL af eY jM af af af dJ 0 9:=λG=>have g:=G.toGood;(oB G (fP g<|ig g (aa g) (fi ao)<|fi ao)<|ai (aZ (PW.pt<|eQ (cH<|eW g<|aD g<|ae (aa g)<|ae (aa g)<|ae (aa g)<|ae (aD g<|ae (aa g)<|ae ao ah) ah)<|gR<|aX g (m8 g<|aa g)<|aa g) (ai (aN fN) aq) aq) aq)
theorem acm:MY jb dX jL af eY jM af af af dJ 0 10:=by
 intro CX Γ X G;have g:=G.toGood;show PS X (.Return (some _) _) (bM Γ<|.ret _)
 with_reducible exact(aN<|gB (aD g<|ae (aa g)<|ae (aa g)<|ae (aa g)<|ae (aa g)<|ae (aa g) ah)<|ic<|dG g (kg (ln:=["_law_one","_law_other"]) g (rfl) (fP g<|aa g) (vg λ_ g=>(aX g (aa g)<|aa g))<|λ_ g=>(aa g))<|bz ah)
theorem acn:MX jb dX jL af eY jM af af af dJ 0:=by
 intro CX Γ X G;have e:dU dX=[bH dX 0,bH dX 1,bH dX 2,bH dX 3,bH dX 4,bH dX 5,bH dX 6,bH dX 7,bH dX 8,bH dX 9,bH dX 10]:=rfl
 have e2:dJ=[bI dJ 0,bI dJ 1,bI dJ 2,bI dJ 3,bI dJ 4,bI dJ 5,bI dJ 6,bI dJ 7,bI dJ 8,bI dJ 9,bI dJ 10]:=rfl
 rw[e,e2]
 with_reducible exact ai (aca G) (ai (acb G)<|ai (acd G)<|ai (ace G)<|ai (acf G)<|ai (acg G)<|ai (ach G)<|ai (aci G)<|ai (acj G)<|ai (ack G)<|ai (acm G)<|aq)
end L2.lS
namespace L2
open PySem PySem.Spec PyProof.Rows
end L2
namespace L2.B
open PySem PySem.Spec PyProof.Rows
end L2.B
namespace L2.N
open PySem PySem.Spec
end L2.N
namespace L2.B
open PySem PySem.Spec PyProof.Rows
def eI(H H':Hp):Prop:= ∀b xs,H b=some (.tup xs)->H' b=some (.tup xs)
theorem aY(h:av H H'):eI H H':=λb xs e=>h b _ e
theorem sameNew{o:HO}(h:H p=none):av H (upd H p o):=λb u e=>by rw[aI<|bf e h];exact e
def aR(c:Addr)(H H':Hp):Prop:= ∀b o,H b=some o->b≠c->H' b=some o
theorem aR.upd{o:HO}:aR c H (upd H c o):=λb u e n=>by rw[aI n];exact e
theorem aR.trans{H1:Hp}(a:aR c H H1)(b:aR c H1 H2):aR c H H2:=λd o e n=>b d o (a d o e n) n
theorem sameBut{H1:Hp}(a:av H H1)(b:aR c H1 H2):aR c H H2:=λd o e n=>b d o (a d o e) n
theorem nv{H1:Hp}(a:av H H1)(hc:H c=none)(b:aR c H1 H2):av H H2:=λd o e=>b d o (a d o e) (bf e hc)
theorem aR.cz(h:aR c H H')(hc:H c=some (.lst xs)):eI H H':=λb ys e=>h b _ e (λz=>by lia)
theorem iF{A B:Prop}(q:B)(h:c=false:=by first|rfl|decide):if c=true then A else B:=by lia
theorem iT{A B:Prop}(q:A)(h:c=true:=by first|rfl|decide):if c=true then A else B:=by lia
inductive Pt where|keep (n:Int)|put (s:Str)|cut (s:Str)
 deriving DecidableEq
def Pt.word:Pt->Str|.keep _=> "keep" |.put _=> "put" |.cut _=> "cut"
def Pt.val:Pt->V|.keep n=>.int n|.put s=>.str s|.cut s=>.str s
def kr(H:Hp)(v:V)(p:Pt):Prop:= ∃a,v=.ref a/\H a=some (.tup [.str p.word,p.val])
abbrev bc(H:Hp):List V->List Pt->Prop:=Paired (kr H)
theorem kr.mono(t:eI H H')(h:kr H v p):kr H' v p:=by
 obtain⟨a,e,h⟩:=h;exact⟨a,e,t _ _ h⟩
theorem bc.mono(t:eI H H'):∀{vs:List V}{ps:List Pt},bc H vs ps->bc H' vs ps
 |_,_,.nil=>.nil
 |_,_,.cons h r=>.cons (h.mono t) (bc.mono t r)
theorem bc.get:∀{vs:List V}{ps:List Pt}{i:Nat}{v:V},bc H vs ps->vs[i]?=some v->∃p,ps[i]?=some p/\kr H v p
 |_,_,i,v,.nil,e=>by simp at e
 |_,_,0,v,.cons h r,e=>by simp at e;subst e;exact⟨_,rfl,h⟩
 |_,_,i+1,v,.cons h r,e=>by
  obtain⟨p,a,b⟩:=bc.get r (by simpa using e)
  exact⟨p,by simpa using a,b⟩
theorem bc.snoc{p:Pt}(h:bc H vs ps)(q:kr H v p):bc H (vs++[v]) (ps++[p]):=Paired.snoc h q
theorem bc.dropLast:∀{vs:List V}{ps:List Pt},bc H vs ps->bc H vs.dropLast ps.dropLast:=by
 intro _ _ p;induction p with|nil=>exact .nil|cons h r ih=>cases r with|nil=>exact .nil|cons a b=>exact .cons h ih
inductive qz(vs:List V)(H:Hp)(Q:VK)(E:XK):Prop|i(i:_)(_:vs=[.int i])(_:Q (.bl true) H)
def vA(w a:Str):Bool:=w !=a && !(a=="cut" && w=="put")
inductive Na(vs:List V)(H:Hp)(Q:VK)(E:XK):Prop|i(w a:_)(_:vs=[.str w,.str a])(_:Q (.bl<|vA w a) H)
theorem aco{K:Frag}(vs:List V)(H:Hp)(Q:VK)(E:XK)(h:Na vs H Q E):aE (aL K [] [] (E:=E)) JF {nx:=λ_ H'=>Q .aB H',rt:=Q} (start JE vs) H:=by
 obtain⟨w,a,rfl,q⟩:=h;refine⟨_,rfl,_,rfl,_,rfl,?_⟩;unfold vA at q;refine cZ (λh=>?_)<|λh=>?_
 ·rw[zaN,g6] at h;have e:(w !=a)=true:=h;rw[e] at q;refine⟨_,rfl,_,rfl,?_⟩;refine cZ (λh2=>?_)<|λh2=>?_
  ·rw[zaI,g6] at h2;rw[h2] at q;refine⟨_,rfl,?_⟩;show Q (.bl<|!(false ^^ decide (V.str w=V.str "put"))) H;rw[zaI,g6];exact q
  ·have e2:(a=="cut")=false:=by lia
   rw[e2] at q;exact q
 ·have e:(w !=a)=false:=by lia
  rw[e] at q;exact q
def vB:Pt->Int|.keep n=>n|.put s=>s.length|.cut s=>s.length
def Di:Pt->Prop|.keep _=>True|.put s=>s.length<=1000000|.cut s=>s.length<=1000000
theorem bY(h:n<=1000000):n<=sizeLine:=zaw h (by decide)
theorem cX(h:n<=1000000):n<sizeLine:=Nat.lt_of_le_of_lt h (by decide)
inductive oJ(vs:List V)(H:Hp)(Q:VK)(E:XK):Prop|i(v p:_)(_:vs=[v])(_:kr H v p)(_:Di p)(_:Q (.int<|vB p) H)
theorem acp{K:Frag}(vs:List V)(H:Hp)(Q:VK)(E:XK)(h:oJ vs H Q E):aE (aL K [] [] (E:=E)) JJ {nx:=λ_ H'=>Q .aB H',rt:=Q} (start JI vs) H:=by
 obtain⟨v,p,rfl,⟨a,rfl,ha⟩,ho,q⟩:=h;refine⟨_,rfl,.inr<|.inl ⟨_,_,_,_,rfl,rfl,aM.of ha,rfl,_,rfl,?_⟩⟩;cases p with
 |keep n=>exact gA ⟨_,rfl,.inr<|.inl ⟨_,_,_,_,rfl,rfl,aM.of ha,rfl,q⟩⟩
 |put s=>exact j9 ⟨_,rfl,.inr<|.inl ⟨_,_,_,_,rfl,rfl,aM.of ha,rfl,bY ho,q⟩⟩
 |cut s=>exact j9 ⟨_,rfl,.inr<|.inl ⟨_,_,_,_,rfl,rfl,aM.of ha,rfl,bY ho,q⟩⟩
def cell(ns:List Int)(k:Nat):Int:=ns.getD k 0
inductive ku(K:Frag)(vs:List V)(H:Hp)(Q:VK)(E:XK):Prop|i(a:Addr)(ns:List Int)(k:Int)(_:vs=[.ref a,.int k])(_:ar K H a (ns.map V.int))(_:0<=k)(_:Q (.int<|cell ns k.toNat) H)
theorem acq{K:Frag}(vs:List V)(H:Hp)(Q:VK)(E:XK)(h:ku K vs H Q E):aE (aL K [] [] (E:=E)) JT {nx:=λ_ H'=>Q .aB H',rt:=Q} (start JS vs) H:=by
 obtain⟨a,ns,k,rfl,ha,hk,q⟩:=h;refine⟨_,rfl,_,rfl,.inl ⟨_,ha,trivial,_,rfl,?_⟩⟩;rw[zah];refine cZ (λh=>?_)<|λh=>?_
 ·refine⟨_,rfl,_,rfl,.inl ⟨_,_,_,_,rfl,rfl,ha,?_,q⟩⟩;have e:=jz (xs:=ns.map V.int) (j:=k.toNat) (v:=.int (cell ns k.toNat)) (by
   have:k.toNat<ns.length:=by lia
   simp[cell,this])
  rw[show((k.toNat:Nat):Int)=k by lia] at e
  exact e
 ·have e:cell ns k.toNat=0:=by
   have z:ns[k.toNat]?=none:=List.getElem?_eq_none_iff.mpr (by lia)
   unfold cell;rw[List.getD_eq_getElem?_getD,z];rfl
  rw[e] at q;exact q
theorem Dj:(0:Int) <1000003:=by decide
def mixed(c k:Int):Int:=let n:=(c*48271+7919*k+11) % 1000003;n*n % 1000003*n % 1000003
inductive jN(vs:List V)(H:Hp)(Q:VK)(E:XK):Prop|i(c k:_)(_:vs=[.int c,.int k])(_:Q (.int<|mixed c k) H)
theorem acr{K:Frag}(vs:List V)(H:Hp)(Q:VK)(E:XK)(h:jN vs H Q E):aE (aL K [] [] (E:=E)) JV {nx:=λ_ H'=>Q .aB H',rt:=Q} (start JU vs) H:=by
 obtain⟨c,k,rfl,q⟩:=h
 refine⟨_,rfl,.inr ⟨by lia,by lia⟩,_,rfl,.inl ⟨by lia,by lia⟩,Dj,?_⟩
 refine⟨_,rfl,_,rfl,.inl ⟨by lia,by lia⟩,Dj,_,rfl,.inl ⟨by lia,by lia⟩,Dj,?_⟩
 exact q
theorem Dk(c k:Int):0<=mixed c k/\mixed c k<1000003:=⟨zax _ (by lia),zaA _ (by lia)⟩
def SG:Str:=" !\"#$&'()*+,-./0123456789:;<=>?@ABCDEFGHIJKLMNOPQRSTUVWXYZ[\\]^_`abcdefghijklmnopqrstuvwxyz{|}~\n"
def good(x:Str):Prop:=x.length<=1000000/\∀c∈x.cps.toList,SG.cps.contains c=true
theorem takeWhile_all{α:Type}(p:α->Bool):∀l:List α,(∀c∈l,p c=true)->l.takeWhile p=l
 |[],_=>rfl
 |c::l,h=>by rw[List.takeWhile_cons,h c zat,takeWhile_all p l λd hd=>h d (zam _ hd)];rfl
theorem acs(x y:Str)(h:∀c∈x.cps.toList,y.cps.contains c=true):Txt.lstripChars x y="":=by
 have e0:stripLo y.cps.contains true x=x.length:=by
  unfold stripLo;rw[takeWhile_all _ _ h]
  simp[Str.length]
 unfold Txt.lstripChars Txt.stripBy stripSame stripped;rw[e0]
 split
 ·rename_i hq
  simp at hq
  have:=zbc hq.1;obtain⟨c⟩:=x;subst this
  rfl
 ·show(⟨x.cps.extract x.length x.length⟩:Str)=_;have:x.cps.extract x.length x.length= #[]:=by simp[Str.length]
  rw[this];rfl
theorem ny{T:Ty}{k:Bool->Prop}(h:H a=some (.tup xs))(q:k (T==.tuple)):bT T (.ref a) H k:=by
 show(match H a with|some (.lst _)=>k (T==.list)|some (.bO _<|.lst _)=>k (T==.list)|some (.tup _)=>k (T==.tuple)|some (.dK _)=>k (T==.dict)|some (.dT _)=>k (T==.dict)|_=>False)
 rw[h];exact q
theorem lU{T:Ty}{k:Bool->Prop}(h:H a=some (.lst xs))(q:k (T==.list)):bT T (.ref a) H k:=by
 show(match H a with|some (.lst _)=>k (T==.list)|some (.bO _<|.lst _)=>k (T==.list)|some (.tup _)=>k (T==.tuple)|some (.dK _)=>k (T==.dict)|some (.dT _)=>k (T==.dict)|_=>False)
 rw[h];exact q
abbrev gS:List (Str×V):=[("SIGNS",.str SG)]
inductive acu(vs:List V)(H:Hp)(Q:VK)(E:XK):Prop|i(x:_)(_:vs=[.str x])(_:good x)(_:Q (.bl true) H)
theorem acv{K:Frag}(vs:List V)(H:Hp)(Q:VK)(E:XK)(h:acu vs H Q E):aE (aL K [] gS (E:=E)) CG {nx:=λ_ H'=>Q .aB H',rt:=Q} (start iH vs) H:=by
 obtain⟨x,rfl,hx,q⟩:=h;refine⟨_,rfl,rfl,_,rfl,gA ⟨_,rfl,rfl,bY hx.1,?_⟩⟩;rw[acs x SG hx.2];exact q
def jc:Pt->Prop|.keep n=>1<=n|.put s=>good s/\s≠"" |.cut s=>good s/\s≠""
inductive acw(K:Frag)(vs:List V)(H:Hp)(Q:VK)(E:XK):Prop|i(w p xs:_)(_:vs=[.str w,.ref p])(_:aM K H p xs)(_:xs.all iD=true)(_:Q (.bl<|hJ (.str w) xs) H)
theorem acx{K:Frag}(vs:List V)(H:Hp)(Q:VK)(E:XK)(h:acw K vs H Q E):aE (aL K [] [] (E:=E)) CC {nx:=λ_ H'=>Q .aB H',rt:=Q} (start CB vs) H:=by
 obtain⟨w,p,xs,rfl,hp,hf,q⟩:=h;exact⟨_,rfl,rfl,_,rfl,gA ⟨_,rfl,_,rfl,p,xs,rfl,.inr hp,rfl,hf,q⟩⟩
inductive Dl(vs:List V)(H:Hp)(Q:VK)(E:XK):Prop|i(v p:_)(_:vs=[v])(_:kr H v p)(_:jc p)(_:∀H',av H H'->Q (.bl true) H')
def chainOk:Str->List Pt->Bool
 |_,[]=>true
 |a,p::r=>vA p.word a && chainOk p.word r
def qB(a:Str)(ps:List Pt):Nat->Str
 | 0=>a
 |i+1=>match ps[i]? with|some p=>p.word|none=> ""
theorem Nb:∀(ps:List Pt) (a:Str) (i:Nat) (p:Pt),chainOk a ps=true->ps[i]?=some p->vA p.word (qB a ps i)=true
 |[],_,_,_,_,h=>by simp at h
 |q::r,a,0,p,h,e=>by
  simp only[chainOk,zab] at h
  simp at e;subst e;exact h.1
 |q::r,a,i+1,p,h,e=>by
  simp only[chainOk,zab] at h
  have ih:=Nb r q.word i p h.2 (by simpa using e);cases i with
  |zero=>simpa[qB] using ih
  |succ i=>simpa[qB] using ih
abbrev acy:List (Str×Sp):=[("is_part",Dl),("may_follow",Na)]
inductive Nc(vs:List V)(H:Hp)(Q:VK)(E:XK):Prop|i(a xs ps:_)(_:vs=[.ref a])(_:H a=some (.lst xs))(_:bc H xs ps)(_:(∀p∈ps,jc p))(_:chainOk "" ps=true)(_:∀H',av H H'->Q .aB H')
theorem acz{K:Frag}{et:List (Str×Addr)}(vs:List V)(H:Hp)(Q:VK)(E:XK)(h:Nc vs H Q E):aE (aL K acy [] (et:=et) (E:=E)) JH {nx:=λ_ H'=>Q .aB H',rt:=Q} (start JG vs) H:=by
 obtain⟨a,xs,ps,rfl,ha,bV,aK,dS,q⟩:=h;refine⟨_,rfl,rfl,lU ha ⟨_,rfl,a,rfl,⟨_,ar.of ha⟩,iR (λi σ H2=>∃v,σ=[some (.ref a),some (.str (qB "" ps i)),v]/\av H H2) ⟨none,rfl,av.refl _⟩
  (λi σ H2 _ ⟨_,_,s2⟩=>ar.of (s2 _ _ ha)) ?_ ?_⟩⟩
 ·rintro i x σ H2 hi ⟨v,rfl,s2⟩;obtain⟨p,hp,kx⟩:=bV.get hi;obtain⟨b,rfl,hb⟩:=kx.mono (aY s2);refine⟨_,rfl,_,p,rfl,⟨b,rfl,hb⟩,aK p<|zaj hp,λH3 s3=>⟨_,rfl,.inr<|.inl ⟨_,_,_,_,rfl,rfl,aM.of<|s3 _ _ hb,rfl,_,rfl,p.word,_,rfl,?_⟩⟩⟩;show(λc H1=>if (!c)=true then _ else _) (vA p.word<|qB "" ps i) H3
  rw[(Nb ps "" i p dS hp)];refine⟨_,rfl,.inr<|.inl ⟨_,_,_,_,rfl,rfl,aM.of<|s3 _ _ hb,rfl,some<|.ref b,?_,s2.trans s3⟩⟩;show[some<|V.ref a,some<|V.str p.word,some<|V.ref b]=_;have e2:qB "" ps (i+1)=p.word:=by simp only[qB,hp]
  rw[e2]
 ·rintro σ H2 ⟨v,rfl,s2⟩;exact q H2 s2
def overOf(ps:List Pt):List Int:=(ps.filter λp=>decide (p.word≠ ("put":Str))).map vB
def acA(ps:List Pt):List Int:=(ps.filter λp=>decide (p.word≠ ("cut":Str))).map vB
abbrev Nf:List (Str×Sp):=[("need_change",Nc),("part_size",oJ)]
inductive Dm(vs:List V)(H:Hp)(Q:VK)(E:XK):Prop|i(a xs ps:_)(_:vs=[.ref a])(_:H a=some (.lst xs))(_:bc H xs ps)(_:(∀p∈ps,jc p))(_:chainOk "" ps=true)(_:ps.length<=1000000)(_:∀t H',av H H'->H' t=some (.tup [.int (overOf ps).sum,.int (acA ps).sum])->Q (.ref t) H')
theorem Dp(h:jc p):Di p:=by
 cases p with
 |keep n=>trivial
 |put s=>exact h.1.1
 |cut s=>exact h.1.1
theorem Ng{α:Type}(p:α->Bool)(l:List α)(i:Nat)(v:α)(h:l[i]?=some v):(l.take<|i+1).filter p=(l.take i).filter p++(if p v then [v] else []):=by
 rw[zbp,h];cases hp:p v<;>simp[hp]
theorem acB{K:Frag}(vs:List V)(H:Hp)(Q:VK)(E:XK)(h:Dm vs H Q E):aE (aL K Nf [] (E:=E)) JL {nx:=λ_ H'=>Q .aB H',rt:=Q} (start JK vs) H:=by
 obtain⟨a,xs,ps,rfl,ha,bV,aK,dS,hlen,q⟩:=h;refine⟨_,rfl,a,xs,ps,rfl,ha,bV,aK,dS,λH1 s1=>?_⟩;have hl:=Paired.length bV;have comp:∀(w:Str) (H1:Hp) (Q1:VK) (σ:St),av H H1->σ[0]?=some (some<|.ref a)->
   (∀b H2,av H H2->H2 b=some (.lst<|((ps.filter λp=>decide (p.word≠w)).map vB).map V.int)->Q1 (.ref b) H2)->
   ak (aL K Nf []) (.comp none [] .list [.v 0] (some<|.cmp .NotEq (.ix (.v 0)<|.c<|.int 0)<|.c<|.str w)<|.call 1 [.v 0]) σ H1 Q1:=by
  intro w H1 Q1 σ s1 hσ hq;refine⟨_,hσ,a,rfl,⟨_,ar.of<|s1 _ _ ha⟩,λi m ys H2=>m=xs.length - i/\i<=xs.length/\av H H2/\ys=(((ps.take i).filter λp=>decide (p.word≠w)).map vB).map V.int,⟨_,rfl,zqZ _,s1,rfl⟩,?_⟩;rintro i m ys H2 ⟨rfl,hi,s2,rfl⟩;by_cases aU:i<xs.length
  ·refine .inr ⟨⟨xs,xs[i],ar.of<|s2 _ _ ha,by simp⟩,?_⟩
   rintro x H3 ⟨rfl,hx⟩;obtain⟨p,hp,kx⟩:=bV.get (hx xs (ar.of<|s2 _ _ ha));obtain⟨b,rfl,hb⟩:=kx.mono (aY s2);refine⟨_,rfl,.inr<|.inl ⟨_,_,_,_,rfl,rfl,aM.of hb,rfl,_,rfl,?_⟩⟩;have tf:=Ng (λp=>decide<|p.word≠w) ps i p hp;have hc:((ps.take i).filter λp=>decide (p.word≠w)).length<=1000000:=zaw (zbO _ _) (zaw (List.length_take_le _ _) (by lia))
   refine cZ (λh=>?_)<|λh=>?_
   ·have e:decide (p.word≠w)=true:=by lia
    refine⟨_,rfl,_,p,rfl,⟨b,rfl,hb⟩,Dp<|aK p<|zaj hp,?_,xs.length - (i+1),by lia,rfl,aU,s2,?_⟩
    ·rw[zah,zah];exact cX hc
    ·rw[tf,e];simp
   ·have e:=by simpa using h
    refine⟨xs.length - (i+1),by lia,rfl,aU,s2,?_⟩
    rw[tf,e];simp
  ·have ip:i=xs.length:=by lia
   subst ip;refine .inl ⟨⟨xs,ar.of<|s2 _ _ ha,zqR _⟩,λp hp=>?_⟩;have e:ps.take xs.length=ps:=zav (by lia)
   rw[e];exact hq p _ (s2.trans<|sameNew hp) aw
 exact CA<|Jx<|Jy<|comp "put" H1 _ _ s1 rfl λb1 H2 s2 e2=>⟨_,ar.of e2,CA<|Jx<|Jy<|comp "cut" H2 _ _ s2 rfl λb2 H3 s3 e3=>⟨_,ar.of e3,⟨_,rfl,_,rfl,cO,λt ht=>q t _ (s3.trans<|sameNew ht) aw⟩⟩⟩
def cat(ts:List Str):Str:=Txt.join "" ts
def sz(ts:List Str):Nat:=(ts.map Str.length).sum
theorem ofString_empty:(Str.ofString "")=⟨#[]⟩:=rfl
theorem qC(ts:List Str):(cat ts).cps.toList=(ts.map λt=>t.cps.toList).flatten:=by
 have e:(Str.ofString "").cps= #[]:=rfl;cases ts with
 |nil=>rfl
 |cons t r=>
  show(r.foldl (λacc p=>acc++(Str.ofString "").cps++p.cps) t.cps).toList=_;rw[e];have go:∀(r:List Str) (acc:Array Nat),(r.foldl (λacc p=>acc++ #[]++p.cps) acc).toList=acc.toList++(r.map λt=>t.cps.toList).flatten:=by
   intro r
   induction r with
   |nil=>intro acc;simp
   |cons q r ih=>
    intro acc;show(r.foldl (λacc p=>acc++ #[]++p.cps)<|acc++ #[]++q.cps).toList=_;rw[ih];simp
  rw[go];simp
theorem iJ(h:x.cps.toList=y.cps.toList):x=y:=by
 obtain⟨x⟩:=x;obtain⟨y⟩:=y;exact congrArg Str.mk<|Array.toList_inj.mp h
theorem app_list(x y:Str):(x++y).cps.toList=x.cps.toList++y.cps.toList:=by
 show(x.cps++y.cps).toList=_
 simp
theorem Nh(a b:List Str):cat (a++b)=cat a++cat b:=iJ (by rw[app_list,qC,qC,qC];simp)
theorem Ni(x:Str):cat [x]=x:=iJ (by rw[qC];simp)
theorem acC:cat []="":=rfl
theorem len_list(x:Str):x.length=x.cps.toList.length:=rfl
theorem zh(ts:List Str):(cat ts).length=sz ts:=by
 rw[len_list,qC,List.length_flatten];rw[List.map_map]
 congr 1
theorem Nj(x:Str):x++(Str.ofString "")=x:=rfl
theorem sU(x:Str):(Str.ofString "")++x=x:=iJ (by rw[app_list];simp[ofString_empty])
theorem Nk(a b:List Str):sz (a++b)=sz a+sz b:=by simp[sz]
theorem joinOk_of(h:sz ts<=1000000):JoinOk "" ts=true:=by
 have go:∀(l:List Str) (n:Nat),l.foldl (· + ·.length+(Str.ofString "").length) n=n+sz l:=by
  intro l
  induction l with
  |nil=>intro n;rfl
  |cons t r ih=>
   intro n;show r.foldl _ (n+t.length+0)=_;rw[ih];show n+t.length+0+sz r=n+(t.length+sz r);lia
 unfold JoinOk;have e:ts.toArray.foldl (· + ·.length+(Str.ofString "").length) 0=sz ts:=by
  rw[List.foldl_toArray,go,zaJ]
 rw[e];show(!decide (sz ts>sizeLine))=true;rw[zqF (by have:=bY h;lia)]
 rfl
def txt(mk:Str->Pt)(x:Str):List Pt:=if x="" then [] else [mk x]
def fV(ch:List Pt)(cM cY:List Str):List Pt:=ch++txt .put (cat cM)++txt .cut (cat cY)
inductive jd(vs:List V)(H:Hp)(Q:VK)(E:XK):Prop|i(c p q xs ps cM cY:_)(_:vs=[.ref c,.ref p,.ref q])(_:H c=some (.lst xs))(_:bc H xs ps)(_:H p=some (.lst<|cM.map .str))(_:H q=some (.lst<|cY.map .str))(_:sz cM<=1000000)(_:sz cY<=1000000)(_:ps.length<=900000)(_:∀H' iY,aR c H H'->H' c=some (.lst iY)->bc H' iY (fV ps cM cY)->Q .aB H')
theorem vC{K:Frag}(vs:List V)(H:Hp)(Q:VK)(E:XK)(h:jd vs H Q E):aE (aL K [] [] (E:=E)) JP {nx:=λ_ H'=>Q .aB H',rt:=Q} (start JO vs) H:=by
 obtain⟨c,p,q,xs,ps,cM,cY,rfl,hc,bV,hp,hq,Dq,hz2,hl,k⟩:=h;refine⟨rfl,_,rfl,cM,ar.of hp,joinOk_of Dq,⟨rfl,_,rfl,cY,ar.of hq,joinOk_of hz2,?_⟩⟩;have Nl:∀(i:Nat) (w x:Str) (mk:Str->Pt) (H1:Hp) (dc:List V) (nz:List Pt) (σ:St) (D:Ends),(∀y,(mk y).word=w/\(mk y).val=.str y)->H1 c=some (.lst dc)->bc H1 dc nz->nz.length<=950000->σ[0]?=some (some<|.ref c)->σ[i]?=some (some<|.str x)->
   (∀H2 iq,aR c H1 H2->H2 c=some (.lst iq)->bc H2 iq (nz++txt mk x)->D.nx σ H2)->
   bM (aL K [] [] (E:=E)) (.ite (.cmp .NotEq (.v i)<|.c<|.str "") [.drop<|.bq .append (.v 0) [(.tup [(.c<|.str w),.v i])]] []) D σ H1:=by
  intro i w x mk H1 dc nz σ D Nm iK sV uS h0 hi kk;have acE:=Paired.length sV;refine⟨_,hi,_,rfl,cZ (λh=>?_)<|λh=>?_⟩
  ·have ne:x≠"":=by lia
   refine⟨_,h0,.inl ⟨rfl,_,ar.of iK⟩,_,hi,cO,λt ht=>?_⟩;have jO:c≠t:=bf iK ht;refine⟨dc,(by rw[aI jO];exact iK),cX (by lia),kk _ (dc++[.ref t]) ((sameBut (sameNew ht) aR.upd)) aw ?_⟩
   have tt:eI H1 (upd (upd H1 t<|.tup [.str w,.str x]) c<|.lst<|dc++[.ref t]):=(sameBut (sameNew ht) aR.upd).cz iK;unfold txt;rw[if_neg ne];refine bc.snoc (sV.mono tt) ⟨t,rfl,?_⟩;rw[aI jO.symm,aw,(Nm x).1,(Nm x).2]
  ·have e:x="":=by lia
   refine kk H1 dc (λb o e _=>e) iK ?_;unfold txt;rw[if_pos e,zai];exact sV
 refine Nl 3 "put" (cat cM) .put H xs ps _ _ (λ_=>⟨rfl,rfl⟩) hc bV (by lia) rfl rfl λH2 iq b2 nX acF=>?_
 have l2:(ps++txt .put (cat cM)).length<=950000:=by
  rw[zqA];have:(txt .put<|cat cM).length<=1:=by unfold txt;split<;>simp
  lia
 exact Nl 4 "cut" (cat cY) .cut H2 iq _ _ _ (λ_=>⟨rfl,rfl⟩) nX acF l2 rfl rfl λH3 oK b3 hc3 sW=>k H3 oK (b2.trans b3) hc3 sW
def gC(ch:List Pt)(n:Int):List Pt:=match ch.getLast? with
 |some (.keep m)=>ch.dropLast++[.keep<|n+m]
 |_=>ch++[.keep n]
inductive Nn(vs:List V)(H:Hp)(Q:VK)(E:XK):Prop|i(c n xs ps:_)(_:vs=[.ref c,.int n])(_:H c=some (.lst xs))(_:bc H xs ps)(_:ps.length<=900000)(_:∀H' iY,aR c H H'->H' c=some (.lst iY)->bc H' iY (gC ps n)->Q .aB H')
theorem bc.last(h:bc H xs ps)(hn:xs.length≠0):∃v p,xs[xs.length - 1]?=some v/\dE xs (-1)=some v/\ps.getLast?=some p/\kr H v p:=by
 obtain⟨p,hp,pv⟩:=h.get (i:=xs.length - 1) (v:=xs[xs.length - 1]) (by simp)
 refine⟨xs[xs.length - 1],p,by simp,?_,?_,pv⟩
 ·unfold dE gN;have:¬(0:Int)<= -1:=by lia
  rw[if_neg this,if_pos (by lia)]
  have e:((-1:Int)+(xs.length:Int)).toNat=xs.length - 1:=by lia
  rw[e];simp
 ·rw[List.getLast?_eq_getElem?,<-Paired.length h];exact hp
theorem acH{K:Frag}(vs:List V)(H:Hp)(Q:VK)(E:XK)(h:Nn vs H Q E):aE (aL K [] [] (E:=E)) JN {nx:=λ_ H'=>Q .aB H',rt:=Q} (start JM vs) H:=by
 obtain⟨c,n,xs,ps,rfl,hc,bV,hl,k⟩:=h;have hlen:=Paired.length bV;have fin:∀(m:Int) (H1:Hp) (dc:List V) (nz:List Pt),aR c H H1->H1 c=some (.lst dc)->bc H1 dc nz->nz.length<=900000->gC ps n=nz++[.keep m]->
   aE (aL K [] [] (E:=E)) [.drop<|.bq .append (.v 0) [(.tup [(.c<|.str "keep"),.v 1])]] {nx:=λ_ H'=>Q .aB H',rt:=Q} [some<|.ref c,some<|.int m] H1:=by
  intro m H1 dc nz b1 iK sV uS e;have acE:=Paired.length sV;refine⟨_,rfl,.inl ⟨rfl,_,ar.of iK⟩,_,rfl,cO,λt ht=>?_⟩;have jO:c≠t:=bf iK ht;refine⟨dc,(by rw[aI jO];exact iK),cX (by lia),k _ (dc++[.ref t]) (b1.trans<|sameBut (sameNew ht) aR.upd) aw ?_⟩
  rw[e];refine bc.snoc (sV.mono<|(sameBut (sameNew ht) aR.upd).cz iK) ⟨t,rfl,?_⟩;rw[aI jO.symm,aw];rfl
 refine⟨_,rfl,.inl ⟨_,ar.of hc,trivial,_,rfl,cZ (λh=>?_)<|λh=>?_⟩⟩
 ·have hn:xs.length≠0:=by
   lia
  obtain⟨v,p,e1,e2,e3,a,rfl,ha⟩:=bV.last hn;refine⟨_,rfl,.inl ⟨_,_,_,_,rfl,rfl,ar.of hc,e2,.inr<|.inl ⟨_,_,_,_,rfl,rfl,aM.of ha,rfl,_,rfl,?_⟩⟩⟩;cases p with
  |keep m=>
   have Dr:upd H c (.lst xs.dropLast) a=some (.tup [.str "keep",.int m]):=by rw[aI<|xh ha hc (by lia)];exact ha
   refine⟨_,rfl,_,rfl,.inl ⟨rfl,_,ar.of hc⟩,xs,_,hc,e1,.inr<|.inl ⟨_,_,_,_,rfl,rfl,aM.of Dr,rfl,?_⟩⟩
   ·refine fin (n+m) _ xs.dropLast ps.dropLast aR.upd aw (bV.dropLast.mono<|aR.upd.cz hc) (by rw[zbz];lia) ?_
    unfold gC;rw[e3]
  |put s=>exact fin n H xs ps (λb o e _=>e) hc bV hl (by unfold gC;rw[e3])
  |cut s=>exact fin n H xs ps (λb o e _=>e) hc bV hl (by unfold gC;rw[e3])
 ·have e0:ps=[]:=by
   exact zaP.mp (by lia)
  exact fin n H xs ps (λb o e _=>e) hc bV hl (by rw[e0];rfl)
abbrev NS:=List Pt×List Str×List Str
def fk:NS->Pt->NS
 |(ch,p,c),.put s=>(ch,p++[s],c)
 |(ch,p,c),.cut s=>(ch,p,c++[s])
 |(ch,p,c),.keep n=>if 0<n then (gC (fV ch p c) n,[],[]) else (ch,p,c)
def zi(ps:List Pt):List Pt:=let s:=ps.foldl fk ([],[],[]);fV s.1 s.2.1 s.2.2
def fo:Pt->Nat|.keep _=>0|.put s=>s.length|.cut s=>s.length
def ba(ps:List Pt):Nat:=(ps.map fo).sum
theorem Ds(ps:List Pt)(i:Nat):ba (ps.take i)<=ba ps:=by
 have:ba ps=ba (ps.take i)+ba (ps.drop i):=by
  unfold ba;rw[<-List.sum_append,<-zas,zaL]
 lia
theorem Np{ps:List Pt}{i:Nat}{p:Pt}(h:ps[i]?=some p):ba (ps.take<|i+1)=ba (ps.take i)+fo p:=by
 rw[zbp,h]
 simp[ba]
theorem Nq{α β:Type}{f:β->α->β}{b:β}{l:List α}{i:Nat}{p:α}(h:l[i]?=some p):(l.take<|i+1).foldl f b=f ((l.take i).foldl f b) p:=by
 rw[zbp,h,List.foldl_append]
 rfl
theorem oM(mk:Str->Pt)(x:Str):(txt mk x).length<=1:=by unfold txt;split<;>simp
theorem zj(ch:List Pt)(p c:List Str):(fV ch p c).length<=ch.length+2:=by
 unfold fV;have:=oM .put (cat p);have:=oM .cut (cat c)
 simp
 lia
theorem Nr(ch:List Pt)(n:Int):(gC ch n).length<=ch.length+1:=by
 unfold gC
 split
 ·simp only[zqA,zbz,zba];lia
 ·simp
abbrev acI:List (Str×Sp):=[("add_texts",jd),("add_keep",Nn)]
inductive Dt(vs:List V)(H:Hp)(Q:VK)(E:XK):Prop|i(a xs ps:_)(_:vs=[.ref a])(_:H a=some (.lst xs))(_:bc H xs ps)(_:ps.length<=100000)(_:ba ps<=100000)(_:∀b H' ys,av H H'->H b=none->H' b=some (.lst ys)->bc H' ys (zi ps)->Q (.ref b) H')
theorem acJ{K:Frag}(vs:List V)(H:Hp)(Q:VK)(E:XK)(h:Dt vs H Q E):aE (aL K acI [] (E:=E)) JR {nx:=λ_ H'=>Q .aB H',rt:=Q} (start JQ vs) H:=by
 obtain⟨a,xs,ps,rfl,ha,bV,hl,ht,k⟩:=h;have hlen:=Paired.length bV;refine⟨zqZ _,λc hc=>⟨zqZ _,λp0 qD=>⟨zqZ _,λq0 sX=>?_⟩⟩⟩;have Du:c≠p0:=λz=>by rw[<-z,aw] at qD;cases qD
 have Nt:c≠q0:=λz=>by rw[<-z,aI Du,aw] at sX;cases sX
 have Nu:p0≠q0:=λz=>by rw[<-z,aw] at sX;cases sX
 have s0:av H (upd (upd (upd H c<|.lst []) p0<|.lst []) q0<|.lst []):=(sameNew hc).trans ((sameNew qD).trans<|sameNew sX);have fp0:H p0=none:=(sameNew hc).free qD;have fq0:H q0=none:=((sameNew hc).trans<|sameNew qD).free sX;refine⟨_,rfl,a,rfl,⟨_,ar.of (s0 _ _ ha)⟩,iR (K:=K) (a:=a) (xs:=xs) (λi σ H2=>qX8 λp q ch cM cY nA w x=>qA16 (σ=[some (.ref a),some (.ref c),some (.ref p),some (.ref q),w,x]) (H p=none) (H q=none) (p≠c) (q≠c) (p≠q) (av H H2) (H2 c=some (.lst nA)) (bc H2 nA ch) (H2 p=some (.lst (cM.map .str))) (H2 q=some (.lst (cY.map .str))) ((ps.take i).foldl fk ([],[],[])=(ch,cM,cY)) (ch.length<=3*i) (cM.length<=i) (cY.length<=i) (sz cM+sz cY<=ba (ps.take i)))
  ⟨p0,q0,[],[],[],[],none,none,rfl,fp0,fq0,Du.symm,Nt.symm,Nu,s0,(by rw[aI Nt,aI Du,aw]),.nil,(by rw[aI Nu,aw];rfl),aw,rfl,by simp,by simp,by simp,by simp[sz]⟩
  (λi σ H2 _ ⟨_,_,_,_,_,_,_,_,_,_,_,_,_,_,s2,_,_,_,_,_,_,_,_,_⟩=>ar.of (s2 _ _ ha)) ?_ ?_⟩
 ·rintro i x σ H2 hi ⟨p,q,ch,cM,cY,nA,w,x',rfl,fp,fq,pc,qc,pq,s2,sY,dS,oN,oO,ef,l1,l2,l3,l4⟩;obtain⟨pt,iu,kx⟩:=bV.get hi;obtain⟨b,rfl,hb⟩:=kx.mono (aY s2);have cL:i<ps.length:=(zak.mp iu).1;have oP:(ps.take<|i+1).foldl fk ([],[],[])=fk (ch,cM,cY) pt:=by rw[Nq iu,ef]
  have et:=Np iu;have tb:=Ds ps i;refine⟨b,_,rfl,.inl<|aM.of hb,rfl,_,_,rfl,_,_,rfl,rfl,?_⟩;cases pt with
  |put s=>
   refine⟨_,rfl,_,rfl,_,rfl,.inl ⟨rfl,_,ar.of oN⟩,_,rfl,_,oN,cX (by rw[zah];lia),?_⟩
   have bt:aR p H2 (upd H2 p<|.lst<|cM.map V.str++[.str s]):=aR.upd;refine⟨p,q,ch,cM++[s],cY,nA,_,_,rfl,fp,fq,pc,qc,pq,nv s2 fp bt,bt _ _ sY pc.symm,dS.mono<|bt.cz oN,(by rw[aw,zas];rfl),bt _ _ oO pq.symm,oP,by lia,by simp;lia,by lia,?_⟩
   rw[Nk,et];show sz cM+(s.length+0)+sz cY<=ba (ps.take i)+s.length;lia
  |cut s=>
   refine⟨_,rfl,_,rfl,_,rfl,_,rfl,_,rfl,.inl ⟨rfl,_,ar.of oO⟩,_,rfl,_,oO,cX (by rw[zah];lia),?_⟩
   have bt:aR q H2 (upd H2 q<|.lst<|cY.map V.str++[.str s]):=aR.upd;refine⟨p,q,ch,cM,cY++[s],nA,_,_,rfl,fp,fq,pc,qc,pq,nv s2 fq bt,bt _ _ sY qc.symm,dS.mono<|bt.cz oO,bt _ _ oN pq,(by rw[aw,zas];rfl),oP,by lia,by lia,by simp;lia,?_⟩
   rw[Nk,et];show sz cM+(sz cY+(s.length+0))<=ba (ps.take i)+s.length;lia
  |keep n=>
   refine⟨_,rfl,_,rfl,_,rfl,_,rfl,_,rfl,trivial,_,rfl,?_⟩;refine cZ (λh=>?_)<|λh=>?_
   ·have hn:0<n:=of_decide_eq_true h;have e2:fk (ch,cM,cY) (.keep n)=(gC (fV ch cM cY) n,[],[]):=if_pos hn;refine⟨_,rfl,_,rfl,_,rfl,c,p,q,nA,ch,cM,cY,rfl,sY,dS,oN,oO,by lia,by lia,by lia,λH3 oK b3 zk Dv=>?_⟩
    have s3:av H H3:=nv s2 hc b3;refine⟨zqZ _,λp1 vD=>⟨zqZ _,λq1 qE=>?_⟩⟩;have Dw:c≠p1:=bf zk vD;have Nv:upd H3 p1 (.lst []) c=some (.lst oK):=by rw[aI Dw];exact zk
    have Dx:c≠q1:=bf Nv qE;have Nw:p1≠q1:=λz=>by rw[<-z,aw] at qE;cases qE
    have h5c:upd (upd H3 p1<|.lst []) q1 (.lst []) c=some (.lst oK):=by rw[aI Dx];exact Nv
    have s5:av H3 (upd (upd H3 p1<|.lst []) q1<|.lst []):=(sameNew vD).trans (sameNew qE);refine⟨_,rfl,_,rfl,c,n,oK,_,rfl,h5c,Dv.mono<|aY s5,?_,λH6 je b6 h6c acO=>?_⟩
    ·have:=zj ch cM cY;lia
    ·refine⟨p1,q1,_,[],[],je,_,_,rfl,s3.free vD,(s3.trans<|sameNew vD).free qE,Dw.symm,Dx.symm,Nw,nv (s3.trans s5) hc b6,h6c,acO,b6 _ _ (by rw[aI Nw,aw];rfl) Dw.symm,b6 _ _ (by rw[aw];rfl) Dx.symm,oP.trans e2,?_,by simp,by simp,by simp[sz]⟩
     have:=zj ch cM cY;have:=Nr (fV ch cM cY) n;lia
   ·have hn:¬0<n:=λz=>h (zqT z);have e2:fk (ch,cM,cY) (.keep n)=(ch,cM,cY):=if_neg hn;refine⟨p,q,ch,cM,cY,nA,_,_,rfl,fp,fq,pc,qc,pq,s2,sY,dS,oN,oO,oP.trans e2,by lia,by lia,by lia,by lia⟩
 ·rintro σ H2 ⟨p,q,ch,cM,cY,nA,w,x',rfl,fp,fq,pc,qc,pq,s2,sY,dS,oN,oO,ef,l1,l2,l3,l4⟩;have e:ps.take xs.length=ps:=zav (by lia)
  rw[e] at ef l4;refine⟨_,rfl,_,rfl,_,rfl,c,p,q,nA,ch,cM,cY,rfl,sY,dS,oN,oO,by lia,by lia,by lia,λH3 oK b3 zk Dv=>?_⟩
  refine⟨_,rfl,k c H3 oK (nv s2 hc b3) hc zk ?_⟩;unfold zi;rw[ef];exact Dv
def A1:Str:=" !\"#$&'()*+,-./0123456789:;<=>?@ABCDEFGHIJKLMNOPQRSTUVWXYZ[\\]^_`"
def A2:Str:="abcdefghijklmnopqrstuvwxyz{|}~\n"
def A3:Str:="ab\n"
def zl(al:Str):Prop:=0<al.length/\al.length<=1000/\∀c∈al.cps.toList,SG.cps.contains c=true
theorem Nx(h:(decide (0<al.length) && decide (al.length<=1000) && al.cps.toList.all λc=>SG.cps.contains c)=true):zl al:=by
 simp only[zab,decide_eq_true_eq,zaO] at h
 exact⟨h.1.1,h.1.2,h.2⟩
theorem acP:zl (A1++A2):=Nx (by decide+kernel)
theorem al3:zl A3:=Nx (by decide+kernel)
theorem acR:A1.length+A2.length<=sizeLine:=by decide+kernel
abbrev Ny:List (Str×Sp):=[("_law_mixed",jN)]
inductive sZ(vs:List V)(H:Hp)(Q:VK)(E:XK):Prop|i(c n:_)(_:vs=[.int c,.int n])(_:0<=n)(_:n<=1000)(_:∀x H',good x->x.length=n.toNat->av H H'->Q (.str x) H')
def Dy(t:Str):Prop:=t.length=1/\∀c∈t.cps.toList,SG.cps.contains c=true
theorem zm:∀(ts:List Str),(∀t∈ts,Dy t)->sz ts=ts.length
 |[],_=>rfl
 |t::r,h=>by
  show t.length+sz r=r.length+1;rw[(h t zat).1,zm r λq hq=>h q (zam _ hq)];lia
theorem acS(h:∀t∈ts,Dy t)(hl:ts.length<=1000):good (cat ts):=by
 refine⟨by rw[zh,zm ts h];lia,λc hc=>?_⟩
 rw[qC,List.mem_flatten] at hc;obtain⟨l,hl,hc⟩:=hc;obtain⟨t,ht,rfl⟩:=zaF.mp hl;exact(h t ht).2 c hc
theorem acT{K:Frag}(vs:List V)(H:Hp)(Q:VK)(E:XK)(h:sZ vs H Q E):aE (aL K Ny [] (E:=E)) JX {nx:=λ_ H'=>Q .aB H',rt:=Q} (start JW vs) H:=by
 obtain⟨c,n,rfl,hn0,jF,k⟩:=h;have fin:∀(al:Str),zl al->aE (aL K Ny [] (E:=E)) [.ret<|.bq .join (.c<|.str "") [(.comp none [("_law_some",2),("_law_cell",0)] .gZ [.v 1] none<|.ix (.v 1)<|.bin .Mod (.bin .FloorDiv (.call 0 [.v 2,.v 0])<|.c<|.int 7)<|.blt .len [.v 1])]]
   {nx:=λ_ H'=>Q .aB H',rt:=Q} [some<|.int c,some<|.int n,some<|.str al] H:=by
  intro al ho;refine⟨rfl,_,rfl,n,rfl,by lia,by lia,λi m ys H2=>m=n.toNat - i/\i<=n.toNat/\H2=H/\∃ts:List Str,ys=ts.map V.str/\ts.length=i/\∀t∈ts,Dy t,⟨_,rfl,zqZ _,rfl,[],rfl,rfl,λt ht=>by cases ht⟩,?_⟩
  rintro i m ys H2 ⟨rfl,hi,rfl,ts,rfl,hl,s_⟩;by_cases aU:i<n.toNat
  ·refine .inr ⟨aU,?_⟩;rintro x H3 ⟨rfl,rfl⟩;refine⟨_,rfl,_,rfl,_,rfl,_,_,rfl,⟨by decide,by decide⟩,_,rfl,bY (by have:=ho.2.1;lia),(by have:=ho.1;lia),?_⟩
   have hj0:0<=mixed c (0+(i:Int)) / 7 % (al.length:Int):=zax _ (by have:=ho.1;lia)
   have Dz:mixed c (0+(i:Int)) / 7 % (al.length:Int) < (al.length:Int):=zaA _ (by have:=ho.1;lia)
   obtain⟨j,ej⟩:∃j,j=mixed c (0+(i:Int)) / 7 % (al.length:Int):=⟨_,rfl⟩;have nB:j.toNat<al.cps.toList.length:=by rw[<-len_list];lia
   refine .inr<|.inr<|.inl ⟨al,j,al.cps.toList[j.toNat],rfl,(by rw[ej]),bY (by have:=ho.2.1;lia),?_,?_,n.toNat - (i+1),by lia,rfl,aU,rfl,ts++[⟨#[al.cps.toList[j.toNat]]⟩],(by rw[zas];rfl),by simp[hl],?_⟩
   ·have e:=jz (xs:=al.cps.toList) (j:=j.toNat) (v:=al.cps.toList[j.toNat]) (by simp[nB])
    rw[show((j.toNat:Nat):Int)=j by lia] at e
    exact e
   ·rw[zah];exact cX (by lia)
   ·intro t ht;rcases zae.mp ht with z|z
    ·exact s_ t z
    ·rw[zad.mp z];refine⟨rfl,λd hd=>?_⟩;have:=by simpa using hd
     rw[this];exact ho.2.2 _<|zaQ nB
  ·have ip:i=n.toNat:=by lia
   refine .inl ⟨by show n.toNat<=i;lia,λp hp=>?_⟩
   refine⟨ts,ar.of aw,joinOk_of (by rw[zm ts s_];lia),?_⟩
   exact k (cat ts) _ (acS s_ (by lia)) (by rw[zh,zm ts s_,hl,ip])<|sameNew hp
 refine⟨_,rfl,acR,_,rfl,(by lia),_,rfl,?_⟩
 refine cZ (λh=>?_)<|λh=>?_
 ·exact fin A3 al3
 ·exact fin (A1++A2) acP
def gE:Pt->Prop|.keep n=>0<=n|.put s=>good s/\s.length<=100000|.cut s=>good s/\s.length<=100000
abbrev Row:=Str×Str×Int
def ky(r:Row):List V:=[.str r.1,.str r.2.1,.int r.2.2]
def Nz(H:Hp)(v:V)(r:Row):Prop:= ∃b,v=.ref b/\H b=some (.lst<|ky r)
abbrev nC(H:Hp):List V->List Row->Prop:=Paired (Nz H)
theorem nC.mono:∀{vs:List V}{ps:List Row},nC H vs ps->(∀v∈vs,∀b,v=.ref b->∀o,H b=some o->H' b=some o)->nC H' vs ps:=by
 intro _ _ p k;induction p with
 |nil=>exact .nil
 |cons x r ih=>obtain⟨b,e,h⟩:=x;exact .cons ⟨b,e,k _ zat b e _ h⟩ (ih λv hv=>k v (zam _ hv))
theorem nC.get:∀{vs:List V}{ps:List Row}{i:Nat}{v:V},nC H vs ps->vs[i]?=some v->∃p,ps[i]?=some p/\Nz H v p
 |_,_,i,v,.nil,e=>by simp at e
 |_,_,0,v,.cons h r,e=>by simp at e;subst e;exact⟨_,rfl,h⟩
 |_,_,i+1,v,.cons h r,e=>by
  obtain⟨p,a,b⟩:=nC.get r (by simpa using e)
  exact⟨p,by simpa using a,b⟩
def bF:List Row×Row->Pt->List Row×Row
 |(pre,r),.keep n=>(pre,(r.1,r.2.1,r.2.2+n))
 |(pre,r),.put s=>if s="" then (pre,r) else if 0<r.2.2 then (pre++[r],(Str.ofString ""++s,"",0)) else (pre,(r.1++s,r.2.1,r.2.2))
 |(pre,r),.cut s=>if s="" then (pre,r) else if 0<r.2.2 then (pre++[r],("",Str.ofString ""++s,0)) else (pre,(r.1,r.2.1++s,r.2.2))
def eJ(r:Row):List Pt:=txt .put r.1++txt .cut r.2.1++(if r.2.2=0 then [] else [.keep r.2.2])
def cN(rows:List Row):List Pt:=(rows.map eJ).flatten
def tm(ps:List Pt):List Row:=let s:=ps.foldl bF ([],("","",0));s.1++[s.2]
def jf(ps:List Pt):List Pt:=cN (tm ps)
structure jP (H H2:Hp) (R:Addr) (rs:List V) (b:Addr) (pre:List Row) (r:Row):Prop where
 same:av H H2
 lst:H2 R=some (.lst<|rs++[.ref b])
 fr:H R=none
 rows:nC H2 rs pre
 last:H2 b=some (.lst<|ky r)
 fb:H b=none
 bL:∀v∈rs,∀x,v=.ref x->H x=none/\x≠b/\x≠R
 ne:b≠R
theorem vE(xs:List V)(v:V):dE (xs++[v]) (-1)=some v:=Hn xs v
theorem jP.set{rs:List V}{pre:List Row}{r r':Row}(S:jP H H2 R rs b pre r):jP H (upd H2 b<|.lst<|ky r') R rs b pre r' where
 same:=nv S.same S.fb aR.upd
 lst:=by rw[aI S.ne.symm];exact S.lst
 fr:=S.fr
 rows:=S.rows.mono λv hv x e o h=>by rw[aI (S.bL v hv x e).2.1];exact h
 last:=aw
 fb:=S.fb
 bL:=S.bL
 ne:=S.ne
theorem jP.grow{rs:List V}{pre:List Row}{r r':Row}(S:jP H H2 R rs b pre r)(ht:H2 t=none):
  jP H (upd (upd H2 t<|.lst<|ky r') R<|.lst<|rs++[.ref b]++[.ref t]) R (rs++[.ref b]) t (pre++[r]) r':=by
 have zo:t≠R:=λz=>by rw[z,S.lst] at ht;cases ht
 have qF:b≠t:=bf S.last ht;have kk:∀x o,H2 x=some o->x≠R->upd (upd H2 t<|.lst<|ky r') R (.lst<|rs++[.ref b]++[.ref t]) x=some o:=λx o e n=>by rw[aI n,aI<|bf e ht];exact e
 exact {
  same:=λx o e=>kk x o (S.same x o e) (bf e S.fr)
  lst:=aw
  fr:=S.fr
  rows:=Paired.snoc (S.rows.mono λv hv x e o h=>kk x o h (S.bL v hv x e).2.2) ⟨b,rfl,kk b _ S.last S.ne⟩
  last:=by rw[aI zo,aw]
  fb:=S.same.free ht
  bL:=λv hv x e=>by
   rcases zae.mp hv with z|z
   ·obtain⟨h1,h2,h3⟩:=S.bL v z x e;refine⟨h1,λq=>?_,h3⟩;obtain⟨i,hi⟩:=List.getElem?_of_mem z;obtain⟨p,_,y,e',hy⟩:=S.rows.get hi;rw[e] at e';cases e';rw[q,ht] at hy;cases hy
   ·rw[zad.mp z] at e;cases e;exact⟨S.fb,qF,S.ne⟩
  ne:=zo}
abbrev Dn(Q:VK):Ends:={nx:=λ_ H'=>Q .aB H',rt:=Q}
abbrev cI(sp:Sp)(Γ:XK->bo)(b:List RS)(N:List Str):Prop:= ∀vs H Q E,sp vs H Q E->aE (Γ E) b (Dn Q) (start N vs) H
inductive zp(vs:List V)(H:Hp)(Q:VK)(E:XK):Prop|i(a xs ps:_)(_:vs=[.ref a])(_:H a=some (.lst xs))(_:bc H xs ps)(_:ps.length<=100000)(_:ba ps<=100000)(_:∀b H' ys,av H H'->H b=none->H' b=some (.lst ys)->bc H' ys (jf ps)->Q (.ref b) H')
theorem zq{K:Frag}{R b:Addr}{rs:List V}{pre:List Row}{r r':Row}{a:Addr}{w s:Str}{x4 x5 x6 x7 x8:Option V}(S:jP H H2 R rs b pre r)(i:Nat)(hi:i<2)
  (hw:(if (w=="cut")=true then 1 else 0:Int)=(i:Int)) (o:Str) (ho:(ky r)[i]?=some (.str o)) (hr:(ky r).set i (.str<|o++s)=ky r') (hs:o.length+s.length<=sizeLine)
  (k:∀H3,jP H H3 R rs b pre r'->D.nx [some<|.ref a,some<|.ref R,some<|.str w,some<|.str s,x4,x5,x6,x7,x8] H3):
  bM (aL K [] [] (E:=E)) (.set (.ix (.v 1)<|.neg<|.c<|.int 1) (.blt .int [(.cmp .Eq (.v 2)<|.c<|.str "cut")])<|.bin .Add (.ix (.ix (.v 1)<|.neg<|.c<|.int 1)<|.blt .int [(.cmp .Eq (.v 2)<|.c<|.str "cut")])<|.v 3) D
   [some<|.ref a,some<|.ref R,some<|.str w,some<|.str s,x4,x5,x6,x7,x8] H2:=by
 have lb:ar K H2 b (ky r):=ar.of S.last;have ei:(if (false ^^ decide (V.str w=V.str "cut"))=true then 1 else 0:Int)=(i:Int):=by lia
 refine⟨_,rfl,.inl ⟨_,_,_,_,rfl,rfl,ar.of S.lst,vE _ _,_,rfl,?_⟩⟩;show oo K (aL K [] []).sd (.ref b) (.int (if (false ^^ decide (V.str w=V.str "cut"))=true then 1 else 0)) H2 _
 rw[ei];refine .inl ⟨b,_,_,_,rfl,rfl,lb,jz ho,_,rfl,hs,_,rfl,.inl ⟨_,_,_,_,rfl,rfl,ar.of S.lst,vE _ _,_,rfl,?_⟩⟩;show xW (.ref b) (.int (if (false ^^ decide (V.str w=V.str "cut"))=true then 1 else 0)) (.str<|o++s) H2 _
 rw[ei];refine⟨b,ky r,(i:Int),i,rfl,rfl,S.last,?_,?_⟩
 ·unfold gN;rw[if_pos (by lia),if_pos (by show(i:Int) < ((3:Nat):Int);lia)]
  simp
 ·rw[hr];exact k _ S.set
theorem acW{rows:List Row}{i:Nat}{r:Row}(h:rows[i]?=some r):cN (rows.take<|i+1)=cN (rows.take i)++eJ r:=by
 unfold cN;rw[zbp,h]
 simp
theorem NA{K:Frag}{R b:Addr}{rs:List V}{pre:List Row}{r:Row}{a:Addr}{w s:Str}{x4 x5 x6 x7 x8:Option V}(S:jP H H2 R rs b pre r)(p:Pt)(hp:(p=.put s/\w="put")\/(p=.cut s/\w="cut"))
  (hs:s.length<=100000) (h1:r.1.length<=100000) (h2:r.2.1.length<=100000) (hn:rs.length<=100000)
  (k:∀H3 oQ b',jP H H3 R oQ b' (bF (pre,r) p).1 (bF (pre,r) p).2->oQ.length<=rs.length+1->D.nx [some<|.ref a,some<|.ref R,some<|.str w,some<|.str s,x4,x5,x6,x7,x8] H3):
  aE (aL K [] [] (E:=E)) [.ite (.cmp .NotEq (.v 3) (.c (.str ""))) [.ite (.cmp .Gt (.ix (.ix (.v 1) (.neg (.c (.int 1)))) (.c (.int 2))) (.c (.int 0))) [.drop (.bq .append (.v 1) [(.lst [(.c (.str "")),(.c (.str "")),(.c (.int 0))])])] [],
    .set (.ix (.v 1) (.neg (.c (.int 1)))) (.blt .int [(.cmp .Eq (.v 2) (.c (.str "cut")))]) (.bin .Add (.ix (.ix (.v 1) (.neg (.c (.int 1)))) (.blt .int [(.cmp .Eq (.v 2) (.c (.str "cut")))])) (.v 3))] []] D
   [some<|.ref a,some<|.ref R,some<|.str w,some<|.str s,x4,x5,x6,x7,x8] H2:=by
 refine⟨_,rfl,_,rfl,?_⟩;rw[zaN,g6];refine cZ (λh=>?_)<|λh=>?_
 ·have ne:s≠"":=by simpa using h
  refine⟨_,rfl,.inl ⟨_,_,_,_,rfl,rfl,ar.of S.lst,vE _ _,.inl ⟨_,_,_,_,rfl,rfl,ar.of S.last,rfl,trivial,_,rfl,?_⟩⟩⟩;have line:∀n:Nat,n<=100000->n+s.length<=sizeLine:=λn hn=>bY (by lia)
  have e0:(Str.ofString "").length=0:=rfl;refine cZ (λh=>?_)<|λh=>?_
  ·have hk:0<r.2.2:=of_decide_eq_true h;refine⟨_,rfl,.inl ⟨rfl,_,ar.of S.lst⟩,eM,λt ht=>?_⟩;have zo:R≠t:=bf S.lst ht;refine⟨_,(by rw[aI zo];exact S.lst),cX (by rw[zqA,zba];lia),?_⟩
   have S':=S.grow (r':=((Str.ofString "",Str.ofString "",0):Row)) ht;rcases hp with⟨rfl,rfl⟩|⟨rfl,rfl⟩
   ·have es:bF (pre,r) (.put s)=(pre++[r],((Str.ofString ""++s,Str.ofString "",0):Row)):=by show(if s="" then _ else if 0<r.2.2 then _ else _)=_;rw[if_neg ne,if_pos hk]
    rw[es] at k;exact zq S' 0 (by lia) rfl "" rfl rfl (line _ (by rw[e0];lia)) λH3 S3=>k H3 _ t S3 (by simp)
   ·have es:bF (pre,r) (.cut s)=(pre++[r],((Str.ofString "",Str.ofString ""++s,0):Row)):=by show(if s="" then _ else if 0<r.2.2 then _ else _)=_;rw[if_neg ne,if_pos hk]
    rw[es] at k;exact zq S' 1 (by lia) rfl "" rfl rfl (line _ (by rw[e0];lia)) λH3 S3=>k H3 _ t S3 (by simp)
  ·have hk:¬0<r.2.2:=λz=>h (zqT z);rcases hp with⟨rfl,rfl⟩|⟨rfl,rfl⟩
   ·have es:bF (pre,r) (.put s)=(pre,(r.1++s,r.2.1,r.2.2)):=by show(if s="" then _ else if 0<r.2.2 then _ else _)=_;rw[if_neg ne,if_neg hk]
    rw[es] at k;exact zq S 0 (by lia) rfl r.1 rfl rfl (line _ h1) λH3 S3=>k H3 _ b S3 (by lia)
   ·have es:bF (pre,r) (.cut s)=(pre,(r.1,r.2.1++s,r.2.2)):=by show(if s="" then _ else if 0<r.2.2 then _ else _)=_;rw[if_neg ne,if_neg hk]
    rw[es] at k;exact zq S 1 (by lia) rfl r.2.1 rfl rfl (line _ h2) λH3 S3=>k H3 _ b S3 (by lia)
 ·have e:s="":=by simpa using h
  have es:bF (pre,r) p=(pre,r):=by
   rcases hp with⟨rfl,rfl⟩|⟨rfl,rfl⟩
   ·show(if s="" then _ else _)=_;rw[if_pos e]
   ·show(if s="" then _ else _)=_;rw[if_pos e]
  rw[es] at k;exact k H2 rs b S (by lia)
theorem jg(x y:Str):(x++y).length=x.length+y.length:=by rw[len_list,app_list,zqA,<-len_list,<-len_list]
theorem acX(pre:List Row)(r:Row)(p:Pt)(n:Nat)(h1:r.1.length<=n)(h2:r.2.1.length<=n):(bF (pre,r) p).2.1.length<=n+fo p/\(bF (pre,r) p).2.2.1.length<=n+fo p:=by
 have e0:(Str.ofString "").length=0:=rfl;cases p with
 |keep m=>exact⟨by show r.1.length<=n+0;lia,by show r.2.1.length<=n+0;lia⟩
 |put s=>
  show(if s="" then (pre,r) else if 0<r.2.2 then (pre++[r],((Str.ofString ""++s,Str.ofString "",0):Row)) else (pre,(r.1++s,r.2.1,r.2.2))).2.1.length<=n+s.length/\
   (if s="" then (pre,r) else if 0<r.2.2 then (pre++[r],((Str.ofString ""++s,Str.ofString "",0):Row)) else (pre,(r.1++s,r.2.1,r.2.2))).2.2.1.length<=n+s.length
  split
  ·exact⟨by lia,by lia⟩
  ·split
   ·exact⟨by rw[jg];lia,by lia⟩
   ·exact⟨by rw[jg];lia,by lia⟩
 |cut s=>
  show(if s="" then (pre,r) else if 0<r.2.2 then (pre++[r],((Str.ofString "",Str.ofString ""++s,0):Row)) else (pre,(r.1,r.2.1++s,r.2.2))).2.1.length<=n+s.length/\
   (if s="" then (pre,r) else if 0<r.2.2 then (pre++[r],((Str.ofString "",Str.ofString ""++s,0):Row)) else (pre,(r.1,r.2.1++s,r.2.2))).2.2.1.length<=n+s.length
  split
  ·exact⟨by lia,by lia⟩
  ·split
   ·exact⟨by lia,by rw[jg];lia⟩
   ·exact⟨by lia,by rw[jg];lia⟩
theorem NB{x:V}(h:bX Γ.K op x v H Q):ak Γ (.c v) σ H λy H2=>bX Γ.K op x y H2 Q:=h
theorem NC{K:Frag}{x y:V}(hs:lq x y=true)(q:Q (.bl<|true ^^ decide (x=y)) H):bX K .NotEq x y H Q:=by
 show mI true x y H Q;unfold mI;rw[hs];exact q
theorem acY{K:Frag}{H1:Hp}{l t1 t2 t3:Addr}{r:Row}{Q1:VK}(hl:H1 l=some (.lst [.ref t1,.ref t2,.ref t3]))(h1:H1 t1=some (.tup [.str "put",.str r.1]))(h2:H1 t2=some (.tup [.str "cut",.str r.2.1]))(h3:H1 t3=some (.tup [.str "keep",.int r.2.2]))
  (hσ:σ[8]?=some (some<|.ref l)) (k:∀p ys,H1 p=none->bc H1 ys (eJ r)->ys.length<=3->Q1 (.ref p) (upd H1 p<|.lst ys)):
  ak (aL K [] [] (E:=E)) (.comp none [] .list [.v 8] (some<|.and [(.cmp .NotEq (.ix (.v 0)<|.c<|.int 1)<|.c<|.str ""),(.cmp .NotEq (.ix (.v 0)<|.c<|.int 1)<|.c<|.int 0)])<|.v 0) σ H1 Q1:=by
 have hV:ar K H1 l [.ref t1,.ref t2,.ref t3]:=ar.of hl
 let qG:Nat->List Pt:=λi=>match i with| 0=>[]| 1=>txt .put r.1| 2=>txt .put r.1++txt .cut r.2.1|_=>eJ r
 refine⟨_,hσ,l,rfl,⟨_,hV⟩,λi m ys H2=>m=3 - i/\i<=3/\H2=H1/\bc H1 ys (qG i)/\ys.length<=i,⟨_,rfl,zqZ _,rfl,.nil,zqR _⟩,?_⟩;rintro i m ys H2 ⟨rfl,hi,rfl,iw,DA⟩;have small:ys.length<sizeLine:=cX (by lia)
 have go:∀(t:Addr) (p:Pt) (j:Nat),H2 t=some (.tup [.str p.word,p.val])->i=j->j<3->(qG (j+1)=qG j++[p]/\p.val≠ .str ""/\p.val≠ .int 0\/qG (j+1)=qG j/\(p.val=.str ""\/p.val=.int 0))->
   (∃s,p.val=.str s)\/(∃n,p.val=.int n)->
   n6 (yw (aL K [] [] (E:=E)).calm<|some<|.and [(.cmp .NotEq (.ix (.v 0)<|.c<|.int 1)<|.c<|.str ""),(.cmp .NotEq (.ix (.v 0)<|.c<|.int 1)<|.c<|.int 0)]) ([V.ref t].map some++cW σ []) H2 λb H5=>
    if b=true then ak (aL K [] [] (E:=E)).calm (.v 0) ([V.ref t].map some++cW σ []) H5 λy H6=>ys.length<sizeLine/\∃m',m'<3 - i/\m'=3 - (i+1)/\i+1<=3/\H6=H2/\bc H2 (ys++[y]) (qG<|i+1)/\(ys++[y]).length<=i+1
    else ∃m',m'<3 - i/\m'=3 - (i+1)/\i+1<=3/\H5=H2/\bc H2 ys (qG<|i+1)/\ys.length<=i+1:=by
  intro t p j ht ej hj hc hv;subst ej;have sc1:lq p.val (.str "")=true:=by rcases hv with⟨s,e⟩|⟨n,e⟩ <;>rw[e] <;>rfl
  have sc2:lq p.val (.int 0)=true:=by rcases hv with⟨s,e⟩|⟨n,e⟩ <;>rw[e] <;>rfl
  refine⟨_,rfl,.inr<|.inl ⟨_,_,_,_,rfl,rfl,aM.of ht,rfl,NB<|NC sc1 ⟨_,rfl,?_⟩⟩⟩;by_cases q1:p.val=.str ""
  ·rw[zqT q1];rcases hc with⟨_,z,_⟩|⟨e,_⟩
   ·exact absurd q1 z
   ·exact⟨3 - (i+1),by lia,rfl,by lia,rfl,by rw[e];exact iw,by lia⟩
  ·rw[zqF q1];refine⟨_,rfl,.inr<|.inl ⟨_,_,_,_,rfl,rfl,aM.of ht,rfl,NB<|NC sc2 ⟨_,rfl,?_⟩⟩⟩;by_cases q2:p.val=.int 0
   ·rw[zqT q2];rcases hc with⟨_,_,z⟩|⟨e,_⟩
    ·exact absurd q2 z
    ·exact⟨3 - (i+1),by lia,rfl,by lia,rfl,by rw[e];exact iw,by lia⟩
   ·rw[zqF q2];rcases hc with⟨e,_,_⟩|⟨_,z⟩
    ·refine⟨_,rfl,small,3 - (i+1),by lia,rfl,by lia,rfl,?_,by simp;lia⟩
     rw[e];exact bc.snoc iw ⟨t,rfl,ht⟩
    ·rcases z with z|z
     ·exact absurd z q1
     ·exact absurd z q2
 have tx:∀(mk:Str->Pt) (x:Str) (l:List Pt),(mk x).val=.str x->(l++txt mk x=l++[mk x]/\(mk x).val≠ .str ""/\(mk x).val≠ .int 0\/l++txt mk x=l/\((mk x).val=.str ""\/(mk x).val=.int 0)):=by
  intro mk x l hv;unfold txt;by_cases e:x=""
  ·rw[if_pos e];exact .inr ⟨by simp,.inl (by rw[hv,e])⟩
  ·rw[if_neg e];exact .inl ⟨rfl,by lia,by rw[hv];exact λz=>by cases z⟩
 by_cases aU:i<3
 ·refine .inr ⟨⟨_,[V.ref t1,V.ref t2,V.ref t3][i],hV,by simp[aU]⟩,?_⟩
  rintro x H3 ⟨rfl,hx⟩;have eU:=hx _ hV;have:i=0\/i=1\/i=2:=by lia
  rcases this with rfl|rfl|rfl
  ·have ex:x=.ref t1:=by simpa using eU.symm
   subst ex;exact go t1 (.put r.1) 0 h1 rfl (by lia) (tx .put r.1 [] rfl)<|.inl ⟨_,rfl⟩
  ·have ex:x=.ref t2:=by simpa using eU.symm
   subst ex;exact go t2 (.cut r.2.1) 1 h2 rfl (by lia) (tx .cut r.2.1 _ rfl)<|.inl ⟨_,rfl⟩
  ·have ex:x=.ref t3:=by simpa using eU.symm
   subst ex;refine go t3 (.keep r.2.2) 2 h3 rfl (by lia) ?_<|.inr ⟨_,rfl⟩
   by_cases e:r.2.2=0
   ·refine .inr ⟨?_,.inr (by show V.int r.2.2=_;rw[e])⟩
    show eJ r=txt .put r.1++txt .cut r.2.1;unfold eJ;rw[if_pos e,zai]
   ·refine .inl ⟨?_,?_,?_⟩
    ·show eJ r=txt .put r.1++txt .cut r.2.1++[.keep r.2.2];unfold eJ;rw[if_neg e]
    ·intro z;have z':V.int r.2.2=V.str "":=z;cases z'
    ·intro z;have z':V.int r.2.2=V.int 0:=z
     injection z' with z'
     exact e z'
 ·have ip:i=3:=by lia
  subst ip;refine .inl ⟨⟨_,hV,by simp⟩,λp hp=>?_⟩
  exact k p ys hp iw DA
theorem ac1{K:Frag}(vs:List V)(H:Hp)(Q:VK)(E:XK)(h:zp vs H Q E):aE (aL K [] [] (E:=E)) J5 {nx:=λ_ H'=>Q .aB H',rt:=Q} (start CH vs) H:=by
 obtain⟨a,xs,ps,rfl,ha,bV,hl,ht,k⟩:=h;have hlen:=Paired.length bV;refine⟨eM,λb0 DB=>⟨dR,λR hR=>?_⟩⟩;have ND:b0≠R:=λz=>by rw[<-z,aw] at hR;cases hR
 have fR:H R=none:=(sameNew DB).free hR;have S0:jP H (upd (upd H b0<|.lst [.str "",.str "",.int 0]) R<|.lst [.ref b0]) R [] b0 [] ((Str.ofString "",Str.ofString "",0):Row):=
  {same:=(sameNew DB).trans (sameNew hR),lst:=aw,fr:=fR,rows:=.nil,last:=(by rw[aI ND,aw];rfl),fb:=DB,bL:=(λv hv=>by cases hv),ne:=ND}
 refine⟨_,rfl,a,rfl,⟨_,ar.of (S0.same _ _ ha)⟩,iR (K:=K) (a:=a) (xs:=xs) (λi σ H2=>qX6 λu v rs b pre r=>qA6 (σ=[some (.ref a),some (.ref R),u,v,none,none,none,none,none]) (jP H H2 R rs b pre r) ((ps.take i).foldl bF ([],((Str.ofString "",Str.ofString "",0):Row))=(pre,r)) (rs.length<=i) (r.1.length<=ba (ps.take i)) (r.2.1.length<=ba (ps.take i)))
  ⟨none,none,[],b0,[],_,rfl,S0,rfl,zqR _,zqZ _,zqZ _⟩ (λi σ H2 _ ⟨_,_,_,_,_,_,_,S,_,_,_,_⟩=>ar.of (S.same _ _ ha)) ?_ ?_⟩
 ·rintro i x σ H2 hi ⟨u,v,rs,b,pre,r,rfl,S,ef,l1,l2,l3⟩;obtain⟨pt,iu,kx⟩:=bV.get hi;obtain⟨t,rfl,hb⟩:=kx.mono (aY S.same);have cL:i<ps.length:=(zak.mp iu).1;have oP:(ps.take<|i+1).foldl bF ([],((Str.ofString "",Str.ofString "",0):Row))=bF (pre,r) pt:=by rw[Nq iu,ef]
  have et:=Np iu;have tb:=Ds ps i;have tb1:=Ds ps (i+1);have sl:=acX pre r pt _ l2 l3;refine⟨t,_,rfl,.inl<|aM.of hb,rfl,_,_,rfl,_,_,rfl,rfl,?_⟩;refine⟨_,rfl,_,rfl,?_⟩;cases pt with
  |keep n=>
   refine⟨_,rfl,.inl ⟨_,_,_,_,rfl,rfl,ar.of S.lst,vE _ _,.inl ⟨_,_,_,_,rfl,rfl,ar.of S.last,rfl,_,rfl,_,rfl,.inl ⟨_,_,_,_,rfl,rfl,ar.of S.lst,vE _ _,b,ky r,2,2,rfl,rfl,S.last,rfl,?_⟩⟩⟩⟩;refine⟨_,_,rs,b,pre,(r.1,r.2.1,r.2.2+n),rfl,S.set (r':=(r.1,r.2.1,r.2.2+n)),oP,by lia,?_,?_⟩
   ·show r.1.length<=_;lia
   ·show r.2.1.length<=_;lia
  |put s=>
   refine NA S (.put s) (.inl ⟨rfl,rfl⟩) ?_ (by lia) (by lia) (by lia) λH3 oQ b' S' hr'=>⟨_,_,oQ,b',_,_,rfl,S',oP,by lia,by lia,by lia⟩
   have:fo (.put s)=s.length:=rfl;lia
  |cut s=>
   refine NA S (.cut s) (.inr ⟨rfl,rfl⟩) ?_ (by lia) (by lia) (by lia) λH3 oQ b' S' hr'=>⟨_,_,oQ,b',_,_,rfl,S',oP,by lia,by lia,by lia⟩
   have:fo (.cut s)=s.length:=rfl;lia
 ·rintro σ Hm ⟨u,v,rs,b,pre,r,rfl,S,ef,l1,l2,l3⟩;have e:ps.take xs.length=ps:=zav (by lia)
  rw[e] at ef;have ac3:tm ps=pre++[r]:=by
   show(ps.foldl bF ([],((Str.ofString "",Str.ofString "",0):Row))).1++[(ps.foldl bF ([],((Str.ofString "",Str.ofString "",0):Row))).2]=_;rw[ef]
  have NF:nC Hm (rs++[.ref b]) (tm ps):=by rw[ac3];exact Paired.snoc S.rows ⟨b,rfl,S.last⟩
  have kz:=Paired.length NF;refine⟨zqZ _,λf0 DC=>?_⟩;refine⟨_,rfl,R,rfl,⟨_,ar.of (sameNew DC _ _ S.lst)⟩,iR (K:=K) (a:=R) (xs:=rs++[.ref b]) (λi σ H2=>qX6 λf ys p5 p6 p7 p8=>qA6 (σ=[some (.ref a),some (.ref R),u,v,some (.ref f),p5,p6,p7,p8]) (av Hm H2) (H f=none) (H2 f=some (.lst ys)) (bc H2 ys (cN ((tm ps).take i))) (ys.length<=3*i))
   ⟨f0,[],none,none,none,none,rfl,sameNew DC,S.same.free DC,aw,.nil,zqR _⟩ (λi σ H2 _ ⟨_,_,_,_,_,_,_,s2,_,_,_,_⟩=>ar.of (s2 _ _ S.lst)) ?_ ?_⟩
  ·rintro i x σ H2 hi ⟨f,ys,p5,p6,p7,p8,rfl,s2,ff,DD,iw,DA⟩;obtain⟨row,ac4,w,rfl,hw⟩:=NF.get hi;have vF:=s2 _ _ hw;have cL:i< (rs++[V.ref b]).length:=(zak.mp hi).1;have hrs:rs.length<=100000:=by lia
   have zr:i<=100000:=by simp only[zqA,zba] at cL;lia
   refine⟨w,_,rfl,.inr<|ar.of vF,rfl,_,_,rfl,_,_,rfl,_,_,rfl,rfl,?_⟩;refine⟨_,rfl,cO,λt1 nE=>⟨_,rfl,cO,λt2 i7=>⟨_,rfl,cO,λt3 gU=>⟨eM,λl hV=>?_⟩⟩⟩⟩;have c1:t1≠t2:=λz=>by rw[<-z,aw] at i7;cases i7
   have NG:t1≠t3:=λz=>by rw[<-z,aI c1,aw] at gU;cases gU
   have NH:t2≠t3:=λz=>by rw[<-z,aw] at gU;cases gU
   have c1l:t1≠l:=λz=>by rw[<-z,aI NG,aI c1,aw] at hV;cases hV
   have c2l:t2≠l:=λz=>by rw[<-z,aI NH,aw] at hV;cases hV
   have c3l:t3≠l:=λz=>by rw[<-z,aw] at hV;cases hV
   have s3:=((sameNew (o:=.tup [.str "put",.str row.1]) nE).trans<|sameNew (o:=.tup [.str "cut",.str row.2.1]) i7).trans ((sameNew (o:=.tup [.str "keep",.int row.2.2]) gU).trans<|sameNew (o:=.lst [.ref t1,.ref t2,.ref t3]) hV);refine⟨_,rfl,acY (r:=row) (l:=l) (t1:=t1) (t2:=t2) (t3:=t3) aw (by rw[aI c1l,aI NG,aI c1,aw]) (by rw[aI c2l,aI NH,aw]) (by rw[aI c3l,aw]) rfl λp zs hp NI hzl=>?_⟩
   generalize j_:upd (upd (upd (upd H2 t1<|.tup [.str "put",.str row.1]) t2<|.tup [.str "cut",.str row.2.1]) t3<|.tup [.str "keep",.int row.2.2]) l (.lst [.ref t1,.ref t2,.ref t3])=H3 at s3 hp NI;have NJ:=s3 _ _ DD;have h4f:upd H3 p (.lst zs) f=some (.lst ys):=by rw[aI<|bf NJ hp];exact NJ
   refine .inl ⟨f,p,ys,zs,rfl,rfl,h4f,aw,bY (by lia),λq hq=>?_⟩
   have s5:av Hm (upd (upd H3 p<|.lst zs) q<|.lst<|ys++zs):=s2.trans (s3.trans<|(sameNew hp).trans<|sameNew hq);have t5:eI H3 (upd (upd H3 p<|.lst zs) q<|.lst<|ys++zs):=aY ((sameNew hp).trans<|sameNew hq);refine⟨q,ys++zs,_,_,_,_,rfl,s5,S.same.free<|(s2.trans<|s3.trans<|sameNew hp).free hq,aw,?_,by rw[zqA];lia⟩
   rw[acW ac4];have app:∀{vs:List V}{as:List Pt}{ws:List V}{bs:List Pt}{G:Hp},bc G vs as->bc G ws bs->bc G (vs++ws) (as++bs):=λ{vs as ws bs G} h1 h2=>by
    induction h1 with
    |nil=>exact h2
    |cons a _ ih=>exact .cons a ih
   exact app ((iw.mono<|aY s3).mono t5)<|NI.mono t5
  ·rintro σ H2 ⟨f,ys,p5,p6,p7,p8,rfl,s2,ff,DD,iw,DA⟩;have e2:(tm ps).take (rs++[V.ref b]).length=tm ps:=zav (by lia)
   rw[e2] at iw;exact⟨_,rfl,k f H2 ys (S.same.trans s2) ff DD iw⟩
theorem zt(a b:List Row):cN (a++b)=cN a++cN b:=by simp[cN]
theorem vG(r:Row):cN [r]=eJ r:=by simp[cN]
theorem DE(h:0<r.2.2):eJ r=txt .put r.1++txt .cut r.2.1++[.keep r.2.2]:=by
 unfold eJ;rw[if_neg (by lia)]
theorem NK(h:r.2.2=0):eJ r=txt .put r.1++txt .cut r.2.1:=by
 unfold eJ;rw[if_pos h,zai]
def NL:Pt->Bool|.keep _=>true|_=>false
theorem ac9{n:Int}(h:∀p,ch.getLast?=some p->NL p=false):gC ch n=ch++[.keep n]:=by
 unfold gC
 split
 ·rename_i m e
  have:=h _ e;cases this
 ·rfl
theorem ac_(ch:List Pt)(m n:Int):gC (ch++[.keep m]) n=ch++[.keep<|n+m]:=by
 unfold gC
 simp
theorem txt_nil(mk:Str->Pt):txt mk ""=[]:=if_pos rfl
theorem de{x:Str}(h:x≠""):txt mk x=[mk x]:=if_neg h
theorem ada{r:Row}(h:pre≠ []->r.1≠""\/r.2.1≠""):∀p,(cN pre++txt .put r.1++txt .cut r.2.1).getLast?=some p->NL p=false:=by
 intro p hp;by_cases h2:r.2.1=""
 ·rw[h2,txt_nil] at hp;by_cases h1:r.1=""
  ·rw[h1,txt_nil] at hp;by_cases mF:pre=[]
   ·rw[mF] at hp
    simp[cN] at hp
   ·rcases h mF with z|z
    ·exact absurd h1 z
    ·exact absurd h2 z
  ·rw[de h1] at hp
   simp at hp;subst hp;rfl
 ·rw[de h2] at hp
  simp at hp;subst hp;rfl
def Rel(s:NS)(t:List Row×Row):Prop:=
 (∀x∈t.1,0<x.2.2)/\(t.1≠ []->t.2.1≠""\/t.2.2.1≠"")/\0<=t.2.2.2/\
  ((t.2.2.2=0/\s.1=cN t.1/\cat s.2.1=t.2.1/\cat s.2.2=t.2.2.1)\/(0<t.2.2.2/\s.1=cN (t.1++[t.2])/\cat s.2.1=""/\cat s.2.2=""))
theorem tq(a:List Str)(s:Str):cat (a++[s])=cat a++s:=by rw[Nh,Ni]
theorem adb{s:NS}{t:List Row×Row}{p:Pt}(R:Rel s t)(hp:gE p):Rel (fk s p) (bF t p):=by
 obtain⟨ch,pu,cu⟩:=s;obtain⟨pre,r⟩:=t;obtain⟨r1,r2,r3,r4⟩:=qa4 R
 simp only at r1 r2 r3 r4
 cases p with
 |keep n=>
  have hn0:0<=n:=hp;by_cases hn:0<n
  ·have e1:fk (ch,pu,cu) (.keep n)=(gC (fV ch pu cu) n,[],[]):=if_pos hn;rw[e1];refine⟨r1,r2,by show 0<=r.2.2+n;lia,.inr ⟨by show 0<r.2.2+n;lia,?_,rfl,rfl⟩⟩
   show gC (fV ch pu cu) n=cN (pre++[(r.1,r.2.1,r.2.2+n)]);rw[zt,vG,DE (r:=(r.1,r.2.1,r.2.2+n)) (by show 0<r.2.2+n;lia)]
   rcases r4 with⟨k0,e2,e3,e4⟩|⟨k0,e2,e3,e4⟩
   ·have ea:fV ch pu cu=cN pre++txt .put r.1++txt .cut r.2.1:=by unfold fV;rw[e2,e3,e4]
    rw[ea,ac9<|ada r2];rw[k0,Int.zero_add];simp
   ·have ea:fV ch pu cu=cN pre++(txt .put r.1++txt .cut r.2.1)++[.keep r.2.2]:=by
     unfold fV;rw[e2,e3,e4,txt_nil,txt_nil,zai,zai,zt,vG,DE k0];simp
    rw[ea,ac_];rw[Int.add_comm n];simp
  ·have e0:n=0:=by lia
   have e1:fk (ch,pu,cu) (.keep n)=(ch,pu,cu):=if_neg hn;have e2:bF (pre,r) (.keep n)=(pre,r):=by show(pre,(r.1,r.2.1,r.2.2+n))=_;rw[e0,Int.add_zero]
   rw[e1,e2];exact⟨r1,r2,r3,r4⟩
 |put x=>
  show Rel (ch,pu++[x],cu) (bF (pre,r)<|.put x);by_cases hx:x=""
  ·have e2:bF (pre,r) (.put x)=(pre,r):=if_pos hx;rw[e2];refine⟨r1,r2,r3,?_⟩;have e:cat (pu++[x])=cat pu:=by rw[tq,hx];exact Nj _
   show _\/_
   simp only[e]
   exact r4
  ·by_cases hk:0<r.2.2
   ·have e2:bF (pre,r) (.put x)=(pre++[r],((Str.ofString ""++x,Str.ofString "",0):Row)):=by show(if x="" then _ else if 0<r.2.2 then _ else _)=_;rw[if_neg hx,if_pos hk]
    rw[e2];rcases r4 with⟨k0,_⟩|⟨_,e5,e3,e4⟩
    ·lia
    ·refine⟨λy hy=>?_,λ_=>.inl (by rw[sU];exact hx),zaE _,.inl ⟨rfl,e5,?_,e4⟩⟩
     ·rcases zae.mp hy with z|z
      ·exact r1 y z
      ·rw[zad.mp z];exact hk
     ·show cat (pu++[x])=_;rw[tq,e3]
   ·have e2:bF (pre,r) (.put x)=(pre,(r.1++x,r.2.1,r.2.2)):=by show(if x="" then _ else if 0<r.2.2 then _ else _)=_;rw[if_neg hx,if_neg hk]
    rw[e2];rcases r4 with⟨k0,e5,e3,e4⟩|⟨k0,_⟩
    ·refine⟨r1,λ_=>.inl ?_,r3,.inl ⟨k0,e5,?_,e4⟩⟩
     ·intro z;have:=congrArg Str.length z;rw[jg] at this;have l0:(Str.ofString "").length=0:=rfl;rw[l0] at this;have kA:x.length=0:=by lia
      exact hx<|iJ (by rw[len_list] at kA;rw[zaP.mp kA];rfl)
     ·show cat (pu++[x])=_;rw[tq,e3]
    ·lia
 |cut x=>
  show Rel (ch,pu,cu++[x]) (bF (pre,r)<|.cut x);by_cases hx:x=""
  ·have e2:bF (pre,r) (.cut x)=(pre,r):=if_pos hx;rw[e2];refine⟨r1,r2,r3,?_⟩;have e:cat (cu++[x])=cat cu:=by rw[tq,hx];exact Nj _
   show _\/_
   simp only[e]
   exact r4
  ·by_cases hk:0<r.2.2
   ·have e2:bF (pre,r) (.cut x)=(pre++[r],((Str.ofString "",Str.ofString ""++x,0):Row)):=by show(if x="" then _ else if 0<r.2.2 then _ else _)=_;rw[if_neg hx,if_pos hk]
    rw[e2];rcases r4 with⟨k0,_⟩|⟨_,e5,e3,e4⟩
    ·lia
    ·refine⟨λy hy=>?_,λ_=>.inr (by rw[sU];exact hx),zaE _,.inl ⟨rfl,e5,e3,?_⟩⟩
     ·rcases zae.mp hy with z|z
      ·exact r1 y z
      ·rw[zad.mp z];exact hk
     ·show cat (cu++[x])=_;rw[tq,e4]
   ·have e2:bF (pre,r) (.cut x)=(pre,(r.1,r.2.1++x,r.2.2)):=by show(if x="" then _ else if 0<r.2.2 then _ else _)=_;rw[if_neg hx,if_neg hk]
    rw[e2];rcases r4 with⟨k0,e5,e3,e4⟩|⟨k0,_⟩
    ·refine⟨r1,λ_=>.inr ?_,r3,.inl ⟨k0,e5,e3,?_⟩⟩
     ·intro z;have:=congrArg Str.length z;rw[jg] at this;have l0:(Str.ofString "").length=0:=rfl;rw[l0] at this;have kA:x.length=0:=by lia
      exact hx<|iJ (by rw[len_list] at kA;rw[zaP.mp kA];rfl)
     ·show cat (cu++[x])=_;rw[tq,e4]
    ·lia
theorem NM:∀(ps:List Pt) (s:NS) (t:List Row×Row),Rel s t->(∀p∈ps,gE p)->Rel (ps.foldl fk s) (ps.foldl bF t)
 |[],s,t,R,_=>R
 |p::r,s,t,R,h=>NM r _ _ (adb R<|h p zat) λq hq=>h q (zam _ hq)
theorem ade(ps:List Pt)(h:∀p∈ps,gE p):Rel (ps.foldl fk ([],[],[])) (ps.foldl bF ([],((Str.ofString "",Str.ofString "",0):Row))):=
 NM ps _ _ ⟨nofun,λz=>absurd rfl z,zaE _,.inl ⟨rfl,rfl,rfl,rfl⟩⟩ h
theorem DF(ps:List Pt)(h:∀p∈ps,gE p):zi ps=jf ps:=by
 obtain⟨r1,r2,r3,r4⟩:=qa4 (ade ps h);show fV _ _ _=cN (_++[_]);unfold fV;rcases r4 with⟨k0,e5,e3,e4⟩|⟨k0,e5,e3,e4⟩
 ·rw[e5,e3,e4,zt,vG,NK k0];simp
 ·rw[e5,e3,e4,txt_nil,txt_nil];simp
def sg(x:Str):Prop:= ∀c∈x.cps.toList,SG.cps.contains c=true
theorem vH(a:sg x)(b:sg y):sg (x++y):=λc hc=>by
 rw[app_list] at hc;rcases zae.mp hc with z|z
 ·exact a c z
 ·exact b c z
theorem oR:sg (Str.ofString ""):=λc hc=>by cases hc
def kI(r:Row):Nat:=r.1.length+r.2.1.length
structure RI (n:Nat) (t:List Row×Row):Prop where
 pos:∀x∈t.1,0<x.2.2
 nn:0<=t.2.2.2
 s1:∀x∈t.1++[t.2],sg x.1/\sg x.2.1
 tl:∀x∈ (t.1++[t.2]).tail,x.1≠""\/x.2.1≠""
 ba:((t.1++[t.2]).map kI).sum=n
theorem NN{x:Str}(h:x≠""):x++y≠"":=λz=>by
 have:=congrArg Str.length z;rw[jg] at this;have l0:(Str.ofString "").length=0:=rfl;have kA:x.length=0:=by lia
 exact h<|iJ (by rw[zaP.mp kA];rfl)
theorem NO{α:Type}(l:List α)(a:α):(l++[a]).tail=if l=[] then [] else l.tail++[a]:=by
 cases l with
 |nil=>rfl
 |cons b r=>simp
theorem DG{pre:List Row}{r r':Row}(I:RI n (pre,r))(h0:0<=r'.2.2)(h1:sg r'.1/\sg r'.2.1)(h2:(r.1≠""->r'.1≠"")/\(r.2.1≠""->r'.2.1≠""))(h3:kI r'=kI r+m):RI (n+m) (pre,r'):=by
 refine⟨I.pos,h0,λx hx=>?_,λx hx=>?_,?_⟩
 ·rcases zae.mp hx with z|z
  ·exact I.s1 x (zaG _ z)
  ·rw[zad.mp z];exact h1
 ·have t1:=I.tl
  rw[NO] at hx t1;by_cases hp:pre=[]
  ·rw[if_pos hp] at hx;cases hx
  ·rw[if_neg hp] at hx t1;rcases zae.mp hx with z|z
   ·exact t1 x (zaG _ z)
   ·rw[zad.mp z];rcases t1 r (by simp) with q|q
    ·exact .inl (h2.1 q)
    ·exact .inr (h2.2 q)
 ·have:=I.ba
  simp at this⊢
  lia
theorem NP{pre:List Row}{r r':Row}(I:RI n (pre,r))(hk:0<r.2.2)(h0:0<=r'.2.2)(h1:sg r'.1/\sg r'.2.1)(h2:r'.1≠""\/r'.2.1≠"")(h3:kI r'=m):RI (n+m) (pre++[r],r'):=by
 refine⟨λx hx=>?_,h0,λx hx=>?_,λx hx=>?_,?_⟩
 ·rcases zae.mp hx with z|z
  ·exact I.pos x z
  ·rw[zad.mp z];exact hk
 ·rcases zae.mp hx with z|z
  ·exact I.s1 x z
  ·rw[zad.mp z];exact h1
 ·have t1:=I.tl
  rw[NO,if_neg (by simp)] at hx
  rcases zae.mp hx with z|z
  ·exact t1 x z
  ·rw[zad.mp z];exact h2
 ·have:=I.ba
  simp at this⊢
  lia
theorem adf{t:List Row×Row}{p:Pt}(I:RI n t)(hp:gE p):RI (n+fo p) (bF t p):=by
 obtain⟨pre,r⟩:=t;have hs:=I.s1 r (by simp)
 have NQ:=I.nn;have e0:(Str.ofString "").length=0:=rfl;cases p with
 |keep m=>exact DG I (by have:0<=m:=hp;lia) hs ⟨λz=>z,λz=>z⟩ rfl
 |put x=>
  have gx:=hp.1.2;by_cases hx:x=""
  ·have e2:bF (pre,r) (.put x)=(pre,r):=if_pos hx;have e3:fo (.put x)=0:=hx▸rfl
   rw[e2,e3];exact I
  ·by_cases hk:0<r.2.2
   ·have e2:bF (pre,r) (.put x)=(pre++[r],((Str.ofString ""++x,Str.ofString "",0):Row)):=by show(if x="" then _ else if 0<r.2.2 then _ else _)=_;rw[if_neg hx,if_pos hk]
    rw[e2];refine NP I hk (zaE _) ⟨vH oR gx,oR⟩ (.inl (by rw[sU];exact hx)) ?_
    show(Str.ofString ""++x).length+(Str.ofString "").length=x.length;rw[jg];lia
   ·have e2:bF (pre,r) (.put x)=(pre,(r.1++x,r.2.1,r.2.2)):=by show(if x="" then _ else if 0<r.2.2 then _ else _)=_;rw[if_neg hx,if_neg hk]
    rw[e2];refine DG I NQ ⟨vH hs.1 gx,hs.2⟩ ⟨NN,λz=>z⟩ ?_;show(r.1++x).length+r.2.1.length=r.1.length+r.2.1.length+x.length;rw[jg];lia
 |cut x=>
  have gx:=hp.1.2;by_cases hx:x=""
  ·have e2:bF (pre,r) (.cut x)=(pre,r):=if_pos hx;have e3:fo (.cut x)=0:=hx▸rfl
   rw[e2,e3];exact I
  ·by_cases hk:0<r.2.2
   ·have e2:bF (pre,r) (.cut x)=(pre++[r],((Str.ofString "",Str.ofString ""++x,0):Row)):=by show(if x="" then _ else if 0<r.2.2 then _ else _)=_;rw[if_neg hx,if_pos hk]
    rw[e2];refine NP I hk (zaE _) ⟨oR,vH oR gx⟩ (.inr (by rw[sU];exact hx)) ?_
    show(Str.ofString "").length+(Str.ofString ""++x).length=x.length;rw[jg,e0];lia
   ·have e2:bF (pre,r) (.cut x)=(pre,(r.1,r.2.1++x,r.2.2)):=by show(if x="" then _ else if 0<r.2.2 then _ else _)=_;rw[if_neg hx,if_neg hk]
    rw[e2];refine DG I NQ ⟨hs.1,vH hs.2 gx⟩ ⟨λz=>z,NN⟩ ?_;show r.1.length+(r.2.1++x).length=r.1.length+r.2.1.length+x.length;rw[jg];lia
theorem DH:∀(ps:List Pt) (n:Nat) (t:List Row×Row),RI n t->(∀p∈ps,gE p)->RI (n+ba ps) (ps.foldl bF t)
 |[],n,t,I,_=>I
 |p::r,n,t,I,h=>by
  have:=DH r _ _ (adf I<|h p zat) λq hq=>h q (zam _ hq);have e:n+fo p+ba r=n+ba (p::r):=by show _=n+(fo p+ba r);lia
  rw[e] at this;exact this
theorem NR{r:Row}{a:Str}{rest:List Pt}(ha:a=""\/(a="keep"/\(r.1≠""\/r.2.1≠"")))(hk:0<r.2.2)(h:chainOk "keep" rest=true):chainOk a (eJ r++rest)=true:=by
 rw[DE hk];by_cases h1:r.1="" <;>by_cases h2:r.2.1=""
 ·rw[h1,h2];rcases ha with rfl|⟨_,z|z⟩
  ·exact h
  ·exact absurd h1 z
  ·exact absurd h2 z
 ·rw[h1,de h2];rcases ha with rfl|⟨rfl,_⟩ <;>exact h
 ·rw[h2,de h1];rcases ha with rfl|⟨rfl,_⟩ <;>exact h
 ·rw[de h1,de h2];rcases ha with rfl|⟨rfl,_⟩ <;>exact h
theorem chain_last{r:Row}{a:Str}(ha:a=""\/(a="keep"/\(r.1≠""\/r.2.1≠"")))(hk:0<=r.2.2):chainOk a (eJ r)=true:=by
 by_cases h0:0<r.2.2
 ·have:=NR (rest:=[]) ha h0 rfl;rw[zai] at this;exact this
 ·rw[NK (by lia)]
  by_cases h1:r.1="" <;>by_cases h2:r.2.1=""
  ·rw[h1,h2];rfl
  ·rw[h1,de h2];rcases ha with rfl|⟨rfl,_⟩ <;>rfl
  ·rw[h2,de h1];rcases ha with rfl|⟨rfl,_⟩ <;>rfl
  ·rw[de h1,de h2];rcases ha with rfl|⟨rfl,_⟩ <;>rfl
theorem NT:∀(pre:List Row) (r:Row) (a:Str),(∀x∈pre,0<x.2.2)->0<=r.2.2->(a=""\/(a="keep"/\∀x,(pre++[r]).head?=some x->x.1≠""\/x.2.1≠""))->(∀x∈ (pre++[r]).tail,x.1≠""\/x.2.1≠"")->
  chainOk a (cN<|pre++[r])=true
 |[],r,a,_,hk,ha,_=>by
  rw[zbl,vG];exact chain_last (ha.imp id λ⟨x,y⟩=>⟨x,y r rfl⟩) hk
 |q::pre,r,a,hp,hk,ha,ht=>by
  exact NR (ha.imp id λ⟨x,y⟩=>⟨x,y q rfl⟩) (hp q zat) (NT pre r "keep" (λx hx=>hp x<|zam _ hx) hk (.inr ⟨rfl,λx hx=>ht x (List.mem_of_mem_head? hx)⟩) λx hx=>ht x (List.mem_of_mem_tail hx))
theorem adg(hs:sg r.1/\sg r.2.1)(hl:kI r<=1000000)(hk:0<=r.2.2)(h:p∈eJ r):jc p:=by
 unfold eJ txt at h;unfold kI at hl;rcases zae.mp h with h|h
 ·rcases zae.mp h with h|h
  ·split at h
   ·cases h
   ·rename_i ne
    rw[zad.mp h];exact⟨⟨by lia,hs.1⟩,ne⟩
  ·split at h
   ·cases h
   ·rename_i ne
    rw[zad.mp h];exact⟨⟨by lia,hs.2⟩,ne⟩
 ·split at h
  ·cases h
  ·rw[zad.mp h];show 1<=r.2.2;lia
theorem adh(r:Row):ba (eJ r)=kI r:=by
 have t1:∀(mk:Str->Pt) (x:Str),(∀y,fo (mk y)=y.length)->ba (txt mk x)=x.length:=by
  intro mk x h;unfold txt;by_cases e:x=""
  ·rw[e];rfl
  ·rw[if_neg e];show fo (mk x)+0=_;rw[h,Nat.add_zero]
 have ta:∀a b:List Pt,ba (a++b)=ba a+ba b:=λa b=>by simp[ba]
 unfold eJ kI;rw[ta,ta,t1 .put _ λ_=>rfl,t1 .cut _ λ_=>rfl]
 split
 ·rfl
 ·rfl
theorem DI:∀rows:List Row,ba (cN rows)=(rows.map kI).sum
 |[]=>rfl
 |r::rows=>by
  have e:cN (r::rows)=eJ r++cN rows:=rfl
  have ta:∀a b:List Pt,ba (a++b)=ba a+ba b:=λa b=>by simp[ba]
  rw[e,ta,adh,DI rows];rfl
theorem adi{l:List Row}{x:Row}(h:x∈l):kI x<= (l.map kI).sum:=by
 induction l with
 |nil=>cases h
 |cons a l ih=>
  rw[zaM,zbq];rcases zaa.mp h with rfl|h
  ·lia
  ·lia
theorem NU(ps:List Pt)(h:∀p∈ps,gE p)(ht:ba ps<=100000):chainOk "" (jf ps)=true/\(∀p∈jf ps,jc p)/\ba (jf ps)<=100000:=by
 have I:=DH ps 0 ([],((Str.ofString "",Str.ofString "",0):Row)) ⟨nofun,zaE _,(λx hx=>by rw[zad.mp hx];exact⟨oR,oR⟩),nofun,rfl⟩ h
 rw[zaJ] at I;have e:jf ps=cN ((ps.foldl bF ([],((Str.ofString "",Str.ofString "",0):Row))).1++[(ps.foldl bF ([],((Str.ofString "",Str.ofString "",0):Row))).2]):=rfl;rw[e];generalize ps.foldl bF ([],((Str.ofString "",Str.ofString "",0):Row))=t at I;refine⟨NT t.1 t.2 "" I.pos I.nn (.inl rfl) I.tl,λp hp=>?_,by rw[DI,I.ba];exact ht⟩
 unfold cN at hp;rw[List.mem_flatten] at hp;obtain⟨l,hl,hp⟩:=hp;obtain⟨x,hx,rfl⟩:=zaF.mp hl;have hle:=adi hx;rw[I.ba] at hle;refine adg (I.s1 x hx) (by lia) ?_ hp
 rcases zae.mp hx with z|z
 ·have:=I.pos x z;lia
 ·rw[zad.mp z];exact I.nn
theorem NV(ps:List Pt):(zi ps).length<=3*ps.length+2:=by
 have go:∀(l:List Pt) (s:NS),(l.foldl fk s).1.length<=s.1.length+3*l.length:=by
  intro l
  induction l with
  |nil=>intro s;simp
  |cons p l ih=>
   intro s;have h1:=ih (fk s p);have h2:(fk s p).1.length<=s.1.length+3:=by
    obtain⟨ch,pu,cu⟩:=s;cases p with
    |keep n=>
     by_cases hn:0<n
     ·have e1:fk (ch,pu,cu) (.keep n)=(gC (fV ch pu cu) n,[],[]):=if_pos hn;have:=zj ch pu cu;have:=Nr (fV ch pu cu) n;lia
     ·have e1:fk (ch,pu,cu) (.keep n)=(ch,pu,cu):=if_neg hn;lia
    |put x=>show ch.length<=ch.length+3;lia
    |cut x=>show ch.length<=ch.length+3;lia
   rw[List.foldl_cons,zau];lia
 have h1:=go ps ([],[],[]);have h2:=zj (ps.foldl fk ([],[],[])).1 (ps.foldl fk ([],[],[])).2.1 (ps.foldl fk ([],[],[])).2.2;show(fV _ _ _).length<=_
 simp at h1
 lia
def adj:Pt->PyData|.keep n=>.int n|.put s=>.str s|.cut s=>.str s
def toD(p:Pt):PyData:=.tuple [.str p.word,adj p]
def lV:Pt->Prop|.keep _=>True|.put s=>sg s|.cut s=>sg s
theorem DJ(h:sg x):PyData.strOk x=true:=by
 have small:∀c,SG.cps.contains c=true->c<0x110000:=by
  have all:SG.cps.toList.all (λc=>decide<|c<0x110000)=true:=rfl
  intro c hc;have hm:c∈SG.cps.toList:=by simpa using hc
  exact of_decide_eq_true<|zaO.mp all c hm
 unfold PyData.strOk;rw[Array.all_eq_true'];intro c hc;exact zqT<|small c<|h c (by simpa using hc)
theorem toD_ok(h:lV p):(toD p).canLay0=true/\(toD p).depth=1:=by
 cases p with
 |keep n=>exact⟨(by show(PyData.strOk (Str.ofString "keep") && (true && true))=true;decide+kernel),rfl⟩
 |put s=>
  refine⟨?_,rfl⟩;show(PyData.strOk (Str.ofString "put") && (PyData.strOk s && true))=true;rw[DJ h];decide+kernel
 |cut s=>
  refine⟨?_,rfl⟩;show(PyData.strOk (Str.ofString "cut") && (PyData.strOk s && true))=true;rw[DJ h];decide+kernel
theorem NW:∀(ps:List Pt),(∀p∈ps,lV p)->PyData.canLayAll0 (ps.map toD)=true/\PyData.depthAll (ps.map toD)<=1
 |[],_=>⟨rfl,zqZ _⟩
 |p::r,h=>by
  obtain⟨a,b⟩:=toD_ok (h p zat);obtain⟨c,d⟩:=NW r λq hq=>h q (zam _ hq);refine⟨?_,?_⟩
  ·show((toD p).canLay0 && PyData.canLayAll0 (r.map toD))=true;rw[a,c];rfl
  ·show max (toD p).depth (PyData.depthAll<|r.map toD)<=1;lia
theorem DK{ps:List Pt}(h:∀p∈ps,lV p):SeqAt.shaped (.list<|ps.map toD)=true:=by
 obtain⟨c,d⟩:=NW ps h;unfold SeqAt.shaped;have e:(PyData.list<|ps.map toD).canLay0=true:=c;have e2:(PyData.list<|ps.map toD).depth<=64:=by show PyData.depthAll (ps.map toD)+1<=64;lia
 rw[e,zqT e2];rfl
theorem DL:∀{vs:List V}{ps:List Pt},bc H vs ps->IsL H (ps.map toD) vs
 |_,_,.nil=>rfl
 |_,_,.cons (a:=v) (b:=p) ⟨a,e,h⟩ r=>by
  refine⟨v,_,rfl,⟨a,_,e,h,.str p.word,[p.val],rfl,rfl,p.val,[],rfl,?_,rfl⟩,DL r⟩;cases p<;>rfl
theorem adk{K:Frag}{a b:Addr}{ps:List Pt}(ha:H a=some (.lst xs))(hb:H b=some (.lst ys))(hx:bc H xs ps)(hy:bc H ys ps)(ho:∀p∈ps,lV p)(q:Q (.bl false) H):
  bX K .NotEq (.ref a) (.ref b) H Q:=by
 refine⟨.list<|ps.map toD,.list<|ps.map toD,⟨a,xs,rfl,ha,DL hx⟩,⟨b,ys,rfl,hb,DL hy⟩,DK ho,DK ho,?_⟩;rw[SeqAt.eqv_refl _<|SeqAt.canLay_of_shaped<|DK ho];exact q
def Pt.DM:Pt->Pt|.keep n=>.keep n|.put s=>.cut s|.cut s=>.put s
def NX(ps:List Pt):List Pt:=ps.map Pt.DM
theorem adl(ps:List Pt)(h:∀p∈ps,gE p):RI (ba ps) (ps.foldl bF ([],((Str.ofString "",Str.ofString "",0):Row))):=by
 have I:=DH ps 0 ([],((Str.ofString "",Str.ofString "",0):Row)) ⟨nofun,zaE _,(λx hx=>by rw[zad.mp hx];exact⟨oR,oR⟩),nofun,rfl⟩ h
 rwa [zaJ] at I
inductive Run:List Nat->List Pt->List Nat->Prop
 |nil:Run [] [] []
 |keep {a l r:List Nat}{n:Int}{ps:List Pt}:n=a.length->Run l ps r->Run (a++l) (.keep n::ps) (a++r)
 |put {s:Str}{l r:List Nat}{ps:List Pt}:Run l ps r->Run l (.put s::ps) (s.cps.toList++r)
 |cut {s:Str}{l r:List Nat}{ps:List Pt}:Run l ps r->Run (s.cps.toList++l) (.cut s::ps) r
theorem Run.DM{ps:List Pt}(h:Run l ps r):Run r (NX ps) l:=by
 induction h with
 |nil=>exact .nil
 |keep e _ ih=>exact .keep e ih
 |put _ ih=>exact .cut ih
 |cut _ ih=>exact .put ih
theorem Run.app{r r':List Nat}{ps qs:List Pt}(h:Run l ps r)(h':Run l' qs r'):Run (l++l') (ps++qs) (r++r'):=by
 induction h with
 |nil=>exact h'
 |keep e _ ih=>rw[zaD,zaD];exact .keep e ih
 |put _ ih=>rw[zaD];exact .put ih
 |cut _ ih=>rw[zaD];exact .cut ih
theorem Run.over{ps:List Pt}(h:Run l ps r):(overOf ps).sum=l.length:=by
 induction h with
 |nil=>rfl
 | @keep a l r n ps e _ ih=>
  have e2:overOf (.keep n::ps)=n::overOf ps:=rfl;rw[e2,zbq,ih,e]
  simp
 | @put s l r ps _ ih=>
  have e2:overOf (.put s::ps)=overOf ps:=rfl;rw[e2,ih]
 | @cut s l r ps _ ih=>
  have e2:overOf (.cut s::ps)=(s.length:Int)::overOf ps:=rfl;rw[e2,zbq,ih,len_list]
  simp
def qH(r:Row)(l q:List Nat):Prop:= ∃k:List Nat,r.2.2=k.length/\l=r.2.1.cps.toList++k/\q=r.1.cps.toList++k
inductive nF:List Row->List Nat->List Nat->Prop
 |nil:nF [] [] []
 |snoc {rs:List Row}{r:Row}{l q l' q':List Nat}:nF rs l q->qH r l' q'->nF (rs++[r]) (l++l') (q++q')
theorem NY{s:Str}:Run [] (txt .put s) s.cps.toList:=by
 by_cases h:s=""
 ·rw[h];exact .nil
 ·rw[de h];have:=Run.put (s:=s) Run.nil
  rwa [zai] at this
theorem adm{s:Str}:Run s.cps.toList (txt .cut s) []:=by
 have:=(NY (s:=s)).DM;have e:NX (txt .put s)=txt .cut s:=by
  unfold txt;split<;>rfl
 rwa [e] at this
theorem qH.run(h:qH r l q):Run l (eJ r) q:=by
 obtain⟨k,hk,rfl,rfl⟩:=h;have h3:Run k (if r.2.2=0 then [] else [.keep r.2.2]) k:=by
  split
  ·rename_i h
   have:k=[]:=zaP.mp (by lia)
   rw[this];exact .nil
  ·have:=Run.keep hk Run.nil
   rwa [zai] at this
 have:=((NY (s:=r.1)).app<|adm (s:=r.2.1)).app h3
 simpa[eJ] using this
theorem nF.run{l q:List Nat}(h:nF rs l q):Run l (cN rs) q:=by
 induction h with
 |nil=>exact .nil
 |snoc _ h2 ih=>rw[zt,vG];exact ih.app h2.run
def One:Pt->List Nat->List Nat->Prop
 |.keep n,l,q=>l=q/\n=l.length
 |.put s,l,q=>l=[]/\q=s.cps.toList
 |.cut s,l,q=>l=s.cps.toList/\q=[]
theorem NZ{l q:List Nat}{ps:List Pt}(h:Run l (p::ps) q):∃l1 l2 q1 q2,l=l1++l2/\q=q1++q2/\Run l2 ps q2/\
  One p l1 q1:=by
 cases h with
 |keep e h=>exact⟨_,_,_,_,rfl,rfl,h,rfl,e⟩
 |put h=>exact⟨[],_,_,_,rfl,rfl,h,rfl,rfl⟩
 |cut h=>exact⟨_,_,[],_,rfl,rfl,h,rfl,rfl⟩
theorem adn{p:Pt}{l0 q0 l1 q1 l2 q2:List Nat}(h0:nF pre l0 q0)(h1:qH r l1 q1)
  (hp:One p l2 q2):
  ∃qI qJ iL lN,nF (bF (pre,r) p).1 qI qJ/\qH (bF (pre,r) p).2 iL lN/\l0++l1++l2=qI++iL/\q0++q1++q2=qJ++lN:=by
 cases p with
 |keep n=>
  obtain⟨rfl,rfl⟩:=hp;obtain⟨k,hk,rfl,rfl⟩:=h1;refine⟨l0,q0,_,_,h0,⟨k++l2,?_,rfl,rfl⟩,by simp[bF],by simp[bF]⟩
  show r.2.2+(l2.length:Int)=_;rw[hk];simp
 |put s=>
  obtain⟨rfl,rfl⟩:=hp;by_cases hs:s=""
  ·have e:bF (pre,r) (.put s)=(pre,r):=by simp only[bF,if_pos hs]
   rw[e];refine⟨l0,q0,l1,q1,h0,h1,by simp,?_⟩
   rw[hs];rw[ofString_empty];simp
  ·by_cases hk:0<r.2.2
   ·have e:bF (pre,r) (.put s)=(pre++[r],((Str.ofString ""++s,"",0):Row)):=by simp only[bF,if_neg hs,if_pos hk]
    rw[e];refine⟨_,_,[],s.cps.toList,h0.snoc h1,⟨[],rfl,rfl,?_⟩,rfl,rfl⟩
    rw[sU];simp
   ·have e:bF (pre,r) (.put s)=(pre,(r.1++s,r.2.1,r.2.2)):=by simp only[bF,if_neg hs,if_neg hk]
    rw[e];obtain⟨k,uW,rfl,rfl⟩:=h1;have:k=[]:=zaP.mp (by lia)
    subst this;refine⟨l0,q0,r.2.1.cps.toList,r.1.cps.toList++s.cps.toList,h0,⟨[],uW,by simp,by simp[app_list]⟩,by simp,by simp⟩
 |cut s=>
  obtain⟨rfl,rfl⟩:=hp;by_cases hs:s=""
  ·have e:bF (pre,r) (.cut s)=(pre,r):=by simp only[bF,if_pos hs]
   rw[e];refine⟨l0,q0,l1,q1,h0,h1,?_,by simp⟩
   rw[hs];rw[ofString_empty];simp
  ·by_cases hk:0<r.2.2
   ·have e:bF (pre,r) (.cut s)=(pre++[r],(("",Str.ofString ""++s,0):Row)):=by simp only[bF,if_neg hs,if_pos hk]
    rw[e];refine⟨_,_,s.cps.toList,[],h0.snoc h1,⟨[],rfl,?_,rfl⟩,rfl,rfl⟩
    rw[sU];simp
   ·have e:bF (pre,r) (.cut s)=(pre,(r.1,r.2.1++s,r.2.2)):=by simp only[bF,if_neg hs,if_neg hk]
    rw[e];obtain⟨k,uW,rfl,rfl⟩:=h1;have:k=[]:=zaP.mp (by lia)
    subst this;refine⟨l0,q0,r.2.1.cps.toList++s.cps.toList,r.1.cps.toList,h0,⟨[],uW,by simp[app_list],by simp⟩,by simp,by simp⟩
theorem N1:∀(ps:List Pt) (pre:List Row) (r:Row) (l0 q0 l1 q1 l2 q2:List Nat),nF pre l0 q0->qH r l1 q1->Run l2 ps q2->
  ∃qI qJ iL lN,nF (ps.foldl bF (pre,r)).1 qI qJ/\qH (ps.foldl bF (pre,r)).2 iL lN/\l0++l1++l2=qI++iL/\q0++q1++q2=qJ++lN
 |[],pre,r,l0,q0,l1,q1,l2,q2,h0,h1,h2=>by
  cases h2;exact⟨l0,q0,l1,q1,h0,h1,by simp,by simp⟩
 |p::ps,pre,r,l0,q0,l1,q1,l2,q2,h0,h1,h2=>by
  obtain⟨a,b,c,d,rfl,rfl,h3,h4⟩:=NZ h2;obtain⟨qI,qJ,iL,lN,g0,g1,e1,e2⟩:=adn h0 h1 h4;obtain⟨ado,adp,adq,ads,f0,f1,e3,e4⟩:=N1 ps _ _ qI qJ iL lN b d g0 g1 h3;refine⟨ado,adp,adq,ads,f0,f1,?_,?_⟩
  ·rw[<-e3,<-e1];simp
  ·rw[<-e4,<-e2];simp
theorem N2{l q:List Nat}(h:Run l ps q):Run l (jf ps) q:=by
 obtain⟨l0,q0,l1,q1,h0,h1,e1,e2⟩:=N1 ps [] ("","",0) [] [] [] [] l q .nil ⟨[],rfl,rfl,rfl⟩ h;have:=(h0.snoc h1).run;rw[<-e1,<-e2] at this;exact this
inductive DN(vs:List V)(H:Hp)(Q:VK)(E:XK):Prop|i(c:_)(_:vs=[.int c])(_:∀n,0<=n->n<=400->Q (.int n) H)
theorem adt{K:Frag}(vs:List V)(H:Hp)(Q:VK)(E:XK)(h:DN vs H Q E):aE (aL K [] [] (E:=E)) J0 {nx:=λ_ H'=>Q .aB H',rt:=Q} (start JZ vs) H:=by
 obtain⟨c,rfl,q⟩:=h;refine⟨_,rfl,by lia,_,rfl,?_⟩
 refine cZ (λ_=>?_)<|λ_=>?_
 ·exact⟨_,rfl,⟨by lia,by lia⟩,by lia,q _ (zax _ (by lia)) (by lia)⟩
 ·exact⟨_,rfl,⟨by lia,by lia⟩,by lia,q _ (zax _ (by lia)) (by lia)⟩
theorem N3{a b c:List Nat}(h:x.cps.toList=a++(b++c))(n:Int)(hn:n=b.length):mK x (some (a.length:Int)) (some<|(a.length:Int)+n)=⟨b.toArray⟩:=by
 have e1:(a.length:Int)+n=((a.length+b.length:Nat):Int):=by lia
 unfold mK mJ;rw[e1,HT.pU,HT.pU,h];have l1:(a++(b++c)).length=a.length+(b.length+c.length):=by simp
 rw[l1];have m1:min a.length (a.length+(b.length+c.length))=a.length:=by lia
 have m2:min (a.length+b.length) (a.length+(b.length+c.length))=a.length+b.length:=by lia
 rw[m1,m2,zbd,show a.length+b.length - a.length=b.length by lia,zbG]
theorem adu(j:Int)(h0:0<=j)(h1:j<6):∃n:Int,dE [V.int 1,V.int 2,V.int 0,V.int 3,V.int 5,V.int 40] j=some (.int n)/\0<=n/\n<=40:=by
 obtain rfl|rfl|rfl|rfl|rfl|rfl:j=0\/j=1\/j=2\/j=3\/j=4\/j=5:=by lia
 all_goals exact⟨_,rfl,by lia,by lia⟩
theorem vI(a b:List Pt):ba (a++b)=ba a+ba b:=by simp[ba]
abbrev adv:List (Str×Sp):=[("_law_mixed",jN),("_law_text",sZ)]
theorem adw(ps:List Pt)(h:∀p∈ps,gE p):ba (jf ps)=ba ps:=by
 have e:jf ps=cN ((ps.foldl bF ([],((Str.ofString "",Str.ofString "",0):Row))).1++[(ps.foldl bF ([],((Str.ofString "",Str.ofString "",0):Row))).2]):=rfl;rw[e,DI,(adl ps h).ba]
end L2.B
variable {a' b' c' most:Int}{ps:List L2.B.Pt}{dx ea:PySem.Addr}{zs:List L2.V}{H0:L2.Hp}
namespace L2.B
open PySem PySem.Spec PyProof.Rows
theorem tw{r:List (Str×V)}:((k,v)::r).lookup k=some v:=by simp
theorem ji{j:Str}{r:List (Str×V)}(h:¬k=j):((j,v)::r).lookup k=r.lookup k:=by
 have:(k==j)=false:=by lia
 simp[List.lookup,this]
theorem adx{w:V}{r:List (Str×V)}:cE k v ((k,w)::r)=(k,v)::r:=by simp[cE]
theorem lW{j:Str}{w:V}{r:List (Str×V)}(h:¬j=k):cE k v ((j,w)::r)=(j,w)::cE k v r:=by simp[cE,h]
theorem ady{P Q:Bool->Prop}(h:bT T v H P)(i:∀b,P b->Q b):bT T v H Q:=by
 cases v with
 |ref a=>
  unfold bT at h⊢
  simp only at h⊢
  split at h
  all_goals first|exact i _ h|exact h.elim
 |aB=>exact i _ h
 |bl b=>exact i _ h
 |int _=>exact i _ h
 |str _=>exact i _ h
 |_=>exact False.elim h
theorem adz(h:bT T v H P)(s:av H H'):bT T v H' P:=by
 cases v with
 |ref a=>
  unfold bT at h⊢
  simp only at h⊢
  cases e:H a with
  |none=>rw[e] at h;exact h.elim
  |some o=>rw[e] at h;rw[s _ _ e];exact h
 |aB=>exact h
 |bl b=>exact h
 |int _=>exact h
 |str _=>exact h
 |_=>exact False.elim h
def gh(T:Ty)(v:V)(H:Hp):Prop:=bT T v H λb=>b=false
theorem gh.same(h:gh T v H)(s:av H H'):gh T v H':=adz h s
theorem gh.go{Q:Bool->Prop}(h:gh T v H)(q:Q false):bT T v H Q:=ady h λb e=>e▸q
def adA(x:Str):Bool:=x.cps.toList.all λc=>SG.cps.contains c
theorem N4{α:Type}(p:α->Bool):∀l:List α,l.all p=false->(l.takeWhile p).length<l.length
 |[],h=>by cases h
 |c::l,h=>by
  rw[List.takeWhile_cons];cases hc:p c with
  |false=>simp
  |true=>
   rw[zaZ,hc] at h;have:=N4 p l h
   simp;lia
theorem adB(x y:Str)(h:(x.cps.toList.all λc=>y.cps.contains c)=false):Txt.lstripChars x y≠"":=by
 have lt:=N4 _ _ h;have e0:stripLo y.cps.contains true x=(x.cps.toList.takeWhile y.cps.contains).length:=by
  unfold stripLo;rw[if_pos rfl]
 intro z;have z2:=congrArg Str.length z;unfold Txt.lstripChars Txt.stripBy stripSame stripped at z2;have hx:x.cps.size=x.cps.toList.length:=rfl
 split at z2
 ·have:x.cps.size=0:=z2;lia
 ·have z3:(x.cps.extract (x.cps.toList.takeWhile y.cps.contains).length x.cps.size).size=0:=z2;rw[Array.size_extract] at z3;lia
def lX(v:V)(H:Hp):Prop:=(∃x,v=.str x/\x.length<=1000000/\adA x=false)\/gh .str v H
theorem lX.same(h:lX v H)(s:av H H'):lX v H':=by
 rcases h with h|h
 ·exact .inl h
 ·exact .inr (h.same s)
def tF(v:V)(H:Hp):Prop:=(∃b,v=.bl b)\/gh .int v H
theorem tF.same(h:tF v H)(s:av H H'):tF v H':=by
 rcases h with h|h
 ·exact .inl h
 ·exact .inr (h.same s)
inductive lY(vs:List V)(H:Hp)(Q:VK)(E:XK):Prop|i(v:_)(_:vs=[v])(_:((∃i,v=.int i/\Q (.bl true) H)\/(tF v H/\Q (.bl false) H)))
theorem adC{K:Frag}:cI (lY) (λE=>aL K [] [] (E:=E)) Jz iH:=by
 intro vs H Q E h;obtain⟨v,rfl,⟨i,rfl,q⟩|⟨⟨b,rfl⟩|hn,q⟩⟩:=h
 ·exact⟨_,rfl,rfl,_,rfl,gA ⟨_,rfl,rfl,q⟩⟩
 ·exact⟨_,rfl,rfl,_,rfl,gA ⟨_,rfl,rfl,q⟩⟩
 ·exact⟨_,rfl,rfl,hn.go ⟨_,rfl,j9 q⟩⟩
inductive DO(vs:List V)(H:Hp)(Q:VK)(E:XK):Prop|i(v:_)(_:vs=[v])(_:((∃x,v=.str x/\good x/\Q (.bl true) H)\/(lX v H/\Q (.bl false) H)))
theorem adD{K:Frag}:cI (DO) (λE=>aL K [] gS (E:=E)) CG iH:=by
 intro vs H Q E h;obtain⟨v,rfl,⟨x,rfl,hx,q⟩|⟨⟨x,rfl,hl,hx⟩|hn,q⟩⟩:=h
 ·exact acv _ _ _ _ ⟨x,rfl,hx,q⟩
 ·refine⟨_,rfl,rfl,_,rfl,gA ⟨_,rfl,rfl,bY hl,?_⟩⟩;show Q (.bl<|false ^^ decide (V.str (Txt.lstripChars x SG)=V.str "")) H;rw[zqF<|λz=>adB x SG hx (by lia)]
  exact q
 ·exact⟨_,rfl,rfl,hn.go ⟨_,rfl,j9 q⟩⟩
abbrev adE:List (Str×Sp):=[("is_text",DO)]
inductive oS(C:Addr)(vs:List V)(H:Hp)(Q:VK)(E:XK):Prop|i(v:_)(_:vs=[v])(_:((∃x,v=.str x/\good x/\Q .aB H)\/(lX v H/\E (.ref C) none H)))
theorem adF{K:Frag}:cI (oS C) (λE=>aL K adE [] (et:=[("BadText",C)]) (E:=E)) JC iH:=by
 intro vs H Q E h;obtain⟨v,rfl,⟨x,rfl,hx,q⟩|⟨hn,q⟩⟩:=h
 ·exact⟨_,rfl,_,rfl,.inl ⟨x,rfl,hx,q⟩⟩
 ·exact⟨_,rfl,_,rfl,.inr ⟨hn,dR,q⟩⟩
inductive N5(K:Frag)(vs:List V)(H:Hp)(Q:VK)(E:XK):Prop|i(v p xs:_)(_:vs=[v,.ref p])(_:aM K H p xs)(_:xs.all iD=true)(_:((∃w,v=.str w/\Q (.bl<|hJ (.str w) xs) H)\/(gh .str v H/\Q (.bl false) H)))
theorem adG{K:Frag}:cI (N5 K) (λE=>aL K [] [] (E:=E)) CC CB:=by
 intro vs H Q E h;obtain⟨v,p,xs,rfl,hp,hf,⟨w,rfl,q⟩|⟨hn,q⟩⟩:=h
 ·exact acx _ _ _ _ ⟨w,p,xs,rfl,hp,hf,q⟩
 ·exact⟨_,rfl,rfl,hn.go ⟨_,rfl,j9 q⟩⟩
def adH(v:V)(H:Hp):Prop:=gh .tuple v H\/∃a xs,v=.ref a/\H a=some (.tup xs)/\xs.length<=1000000/\(xs.length≠2\/∃w t,xs=[w,t]/\
 (gh .str w H\/(∃s,w=.str s/\s≠"keep"/\s≠"cut"/\s≠"put")\/(w=.str "keep"/\(tF t H\/∃n,t=.int n/\n<1))\/((w=.str "cut"\/w=.str "put")/\(lX t H\/t=.str ""))))
abbrev zu(K:Frag):List (Str×Sp):=[("is_word",N5 K),("is_whole",lY),("is_text",DO)]
inductive N6(vs:List V)(H:Hp)(Q:VK)(E:XK):Prop|i(v:_)(_:vs=[v])(_:((∃p,kr H v p/\jc p/\∀H',av H H'->Q (.bl true) H')\/(adH v H/\∀H',av H H'->Q (.bl false) H')))
theorem N7(s t:Str):hJ (.str s) [.str t]=(t==s):=by
 show(g_ (.str t) (.str s)||false)=_;rw[zbx];rfl
theorem adI{K:Frag}:cI (N6) (λE=>aL K (zu K) [] (E:=E)) yT iH:=by
 intro vs H Q E h;have two:∀(a:Addr) (w t:V) (Q1:VK) (H1:Hp) (σ:St),σ[0]?=some (some<|.ref a)->H1 a=some (.tup [w,t])->
   (∀(tt:Addr) H2,av H1 H2->∀b:Bool,(b=true->w=.str "cut"\/w=.str "put")->(b=false->w≠ .str "cut"/\w≠ .str "put")->Q1 (.bl b) H2)->(gh .str w H1\/∃s,w=.str s)->
   ak (aL K (zu K) [] (E:=E)) (.call 0 [(.ix (.v 0)<|.c<|.int 0),(.tup [(.c<|.str "cut"),(.c<|.str "put")])]) σ H1 Q1:=by
  intro a w t Q1 H1 σ h0 ha q hw;refine⟨_,h0,.inr<|.inl ⟨_,_,_,_,rfl,rfl,aM.of ha,rfl,cO,λt ht=>?_⟩⟩;have s2:=sameNew (o:=.tup [V.str "cut",V.str "put"]) ht;refine⟨w,t,_,rfl,aM.of aw,rfl,?_⟩;rcases hw with hw|⟨s,rfl⟩
  ·refine .inr ⟨hw.same s2,q t _ s2 false (λz=>by cases z) λ_=>⟨?_,?_⟩⟩
   ·rintro rfl;cases (show true=false from hw)
   ·rintro rfl;cases (show true=false from hw)
  ·refine .inl ⟨s,rfl,q t _ s2 _ (λz=>?_) λz=>?_⟩
   ·have z':((Str.ofString "cut"==s)||((Str.ofString "put"==s)||false))=true:=z
    simp at z'
    rcases z' with z'|z'<;>subst z'
    ·exact .inl rfl
    ·exact .inr rfl
   ·have z':((Str.ofString "cut"==s)||((Str.ofString "put"==s)||false))=false:=z
    simp only[zbx,zbH,beq_eq_false_iff_ne] at z'
    exact⟨λy=>z'.1 (by injection y with y;exact y.symm),λy=>z'.2 (by injection y with y;exact y.symm)⟩
 obtain⟨v,rfl,⟨p,⟨a,rfl,ha⟩,hp,q⟩|⟨hn|⟨a,xs,rfl,ha,hl,hb⟩,q⟩⟩:=h
 ·refine⟨_,rfl,rfl,ny ha ⟨_,rfl,.inr ⟨_,aM.of ha,_,rfl,?_⟩⟩⟩;refine⟨_,rfl,.inr<|.inl ⟨_,_,_,_,rfl,rfl,aM.of ha,rfl,dR,λt1 nE=>?_⟩⟩;have s1:=sameNew (o:=.tup [V.str "keep"]) nE;refine⟨.str p.word,t1,[.str "keep"],rfl,aM.of aw,rfl,.inl ⟨p.word,rfl,?_⟩⟩;have gX:=s1 _ _ ha;generalize upd H t1 (.tup [V.str "keep"])=H1 at s1 gX;have fin:∀(s:Str),good s->s≠""->H1 a=some (.tup [.str p.word,.str s])->p.word="put"\/p.word="cut"->aE (aL K (zu K) [] (E:=E)) (yT.drop 2) (Dn Q) (start iH [.ref a]) H1:=by
   intro s gs ns hs hw;refine two a (.str p.word) (.str s) _ H1 _ rfl hs (λtt H2 s2 b tG zv=>?_)<|.inr ⟨_,rfl⟩;have eb:b=true:=by
    cases b with
    |true=>rfl
    |false=>
     obtain⟨z1,z2⟩:=zv rfl;rcases hw with z|z
     ·exact absurd (congrArg V.str z) z2
     ·exact absurd (congrArg V.str z) z1
   subst eb;have gT:=s2 _ _ hs;refine⟨_,rfl,gA ⟨_,rfl,.inr<|.inl ⟨_,_,_,_,rfl,rfl,aM.of gT,rfl,.str s,rfl,.inl ⟨s,rfl,gs,_,rfl,?_⟩⟩⟩⟩;refine gA ⟨_,rfl,.inr<|.inl ⟨_,_,_,_,rfl,rfl,aM.of gT,rfl,?_⟩⟩;show Q (.bl<|true ^^ decide (V.str s=V.str "")) _;rw[zqF<|λz=>ns (by injection z)]
   exact q _<|s1.trans s2
  cases p with
  |keep n=>
   refine⟨_,rfl,.inr<|.inl ⟨_,_,_,_,rfl,rfl,aM.of gX,rfl,.int n,rfl,.inl ⟨n,rfl,_,rfl,?_⟩⟩⟩;refine gA ⟨_,rfl,.inr<|.inl ⟨_,_,_,_,rfl,rfl,aM.of gX,rfl,trivial,?_⟩⟩;show Q (.bl<|decide<|1<=n) H1;rw[zqT (show(1:Int)<=n from hp)]
   exact q _ s1
  |put s=>
   exact fin s hp.1 hp.2 gX<|.inl rfl
  |cut s=>
   exact fin s hp.1 hp.2 gX<|.inr rfl
 ·exact⟨_,rfl,rfl,hn.go<|q _<|av.refl _⟩
 ·refine⟨_,rfl,rfl,ny ha ⟨_,rfl,.inr ⟨_,aM.of ha,_,rfl,?_⟩⟩⟩;show if (true ^^ decide (V.int (xs.length:Int)=V.int 2))=true then _ else _
  rcases hb with hb|⟨w,t,rfl,hb⟩
  ·rw[zqF<|λz=>hb (by injection z with z;lia)]
   exact q _<|av.refl _
  ·refine⟨_,rfl,.inr<|.inl ⟨_,_,_,_,rfl,rfl,aM.of ha,rfl,dR,λt1 nE=>?_⟩⟩;have s1:=sameNew (o:=.tup [V.str "keep"]) nE;refine⟨w,t1,[.str "keep"],rfl,aM.of aw,rfl,?_⟩;have gX:=s1 _ _ ha;generalize upd H t1 (.tup [V.str "keep"])=H1 at s1 gX;have no:(gh .str w H1\/∃s,w=.str s)->w≠ .str "cut"->w≠ .str "put"->aE (aL K (zu K) [] (E:=E)) (yT.drop 2) (Dn Q) (start iH [.ref a]) H1:=by
    intro hw n1 n2;refine two a w t _ H1 _ rfl gX (λtt H2 s2 b tG zv=>?_) hw;have eb:b=false:=by
     cases b with
     |false=>rfl
     |true=>rcases tG rfl with z|z;exact absurd z n1;exact absurd z n2
    subst eb;exact⟨_,rfl,j9<|q _<|s1.trans s2⟩
   rcases hb with hb|⟨s,rfl,n0,n1,n2⟩|⟨rfl,hb⟩|⟨hw,hb⟩
   ·refine .inr ⟨hb.same s1,no (.inl<|hb.same s1) ?_ ?_⟩
    ·rintro rfl;cases (show true=false from hb)
    ·rintro rfl;cases (show true=false from hb)
   ·refine .inl ⟨s,rfl,?_⟩;rw[N7,beq_eq_false_iff_ne.mpr<|Ne.symm n0];exact no (.inr ⟨s,rfl⟩) (λz=>n1 (by injection z))<|λz=>n2 (by injection z)
   ·refine .inl ⟨_,rfl,?_⟩;rw[show hJ (.str "keep") [.str "keep"]=true by decide]
    refine⟨_,rfl,.inr<|.inl ⟨_,_,_,_,rfl,rfl,aM.of gX,rfl,t,rfl,?_⟩⟩;rcases hb with hb|⟨n,rfl,hn⟩
    ·exact .inr ⟨hb.same s1,_,rfl,j9<|q _ s1⟩
    ·refine .inl ⟨n,rfl,_,rfl,gA ⟨_,rfl,.inr<|.inl ⟨_,_,_,_,rfl,rfl,aM.of gX,rfl,trivial,?_⟩⟩⟩;show Q (.bl<|decide<|1<=n) H1;rw[zqF (by lia)]
     exact q _ s1
   ·have hws:∃s,w=.str s/\(Str.ofString "keep"==s)=false:=by
     rcases hw with rfl|rfl
     ·exact⟨_,rfl,by decide⟩
     ·exact⟨_,rfl,by decide⟩
    obtain⟨s,rfl,hk⟩:=hws;refine .inl ⟨s,rfl,?_⟩;rw[N7,hk];refine two a (.str s) t _ H1 _ rfl gX (λtt H2 s2 b tG zv=>?_)<|.inr ⟨s,rfl⟩;have eb:b=true:=by
     cases b with
     |true=>rfl
     |false=>
      obtain⟨z1,z2⟩:=zv rfl;rcases hw with z|z
      ·exact absurd z z1
      ·exact absurd z z2
    subst eb;have vJ:=s2 _ _ gX;refine⟨_,rfl,gA ⟨_,rfl,.inr<|.inl ⟨_,_,_,_,rfl,rfl,aM.of vJ,rfl,t,rfl,?_⟩⟩⟩;rcases hb with hb|rfl
    ·exact .inr ⟨hb.same<|s1.trans s2,_,rfl,j9<|q _<|s1.trans s2⟩
    ·refine .inl ⟨_,rfl,⟨by decide,λc hc=>by cases hc⟩,_,rfl,gA ⟨_,rfl,.inr<|.inl ⟨_,_,_,_,rfl,rfl,aM.of vJ,rfl,?_⟩⟩⟩
     exact q _<|s1.trans s2
theorem adK(h:Dl vs H Q E):N6 vs H Q E:=by
 obtain⟨v,p,rfl,hp,ho,q⟩:=h;exact⟨_,rfl,.inl ⟨p,hp,ho,q⟩⟩
def jj(a b:Sp):Sp:=λvs H Q E=>a vs H Q E\/b vs H Q E
end L2.B
namespace L2
open PySem PySem.Spec PyProof.Rows
section
variable {Γ:bo}{D:Ends}{σ:St}{H:Hp}{r:List RS}{Q:VK}{QA:List V->Hp->Prop}{QT:Bool->Hp->Prop}
theorem ag(h:σ[i]?=some (some v))(q:Q v H):ak Γ (.v i) σ H Q:=⟨_,h,q⟩
theorem au(q:Q v H):ak Γ (.c v) σ H Q:=q
theorem vK(q:Q (Γ.gv j) H):ak Γ (.g j) σ H Q:=q
theorem bp{a b:RE}(h:ak Γ a σ H λx H1=>ak Γ b σ H1 λy H2=>lJ Γ.K op x y H2 Q):ak Γ (.bin op a b) σ H Q:=h
theorem eZ{a b:RE}(h:ak Γ a σ H λx H1=>ak Γ b σ H1 λy H2=>bX Γ.K op x y H2 Q):ak Γ (.cmp op a b) σ H Q:=h
theorem aQ(h:ak Γ a σ H λx H1=>ak Γ b σ H1 λy H2=>oo Γ.K Γ.sd x y H2 Q):ak Γ (.ix a b) σ H Q:=h
theorem adL(h:aW Γ as σ H λvs H1=>Γ.fs j (vs++[]) H1 Q Γ.E):ak Γ (.call j as) σ H Q:=h
theorem aP(sp:Sp)(hs:Γ.fs j=sp)(h:aW Γ as σ H λvs H1=>sp vs H1 Q Γ.E):ak Γ (.call j as) σ H Q:=by
 subst hs;refine adL ?_;have e:(fun(vs:List V) (H1:Hp)=>Γ.fs j (vs++[]) H1 Q Γ.E)=λvs H1=>Γ.fs j vs H1 Q Γ.E:=by
  funext vs H1;rw[zai]
 rw[e];exact h
theorem lZ(h:aW Γ as σ H λvs H1=>oj Γ.K b vs H1 Q):ak Γ (.blt b as) σ H Q:=h
theorem dY(h:aW Γ as σ H λxs H1=>xs.length<=sizeLine/\∀p,H1 p=none->Q (.ref p) (upd H1 p<|.tup xs)):ak Γ (.tup as) σ H Q:=h
theorem cA(h:aW Γ as σ H λxs H1=>xs.length<=sizeLine/\∀p,H1 p=none->Q (.ref p) (upd H1 p<|.lst xs)):ak Γ (.lst as) σ H Q:=h
theorem adM(h:ak Γ a σ H λx H1=>ak Γ c σ H1 λy H2=>lK Γ.K [x,y] H2 Q):ak Γ (.dt a c) σ H Q:=h
theorem N8(h:ak Γ a σ H λx H1=>ak Γ c σ H1 λy H2=>lK Γ.K [x,y] H2 λz H3=>jB Γ.K z H3 λb=>QT b H3):bD Γ (.dt a c) σ H QT:=h
theorem aA(q:QA [] H):aW Γ [] σ H QA:=q
theorem aj(h:ak Γ a σ H λx H1=>aW Γ as σ H1 λxs H2=>QA (x::xs) H2):aW Γ (a::as) σ H QA:=h
theorem dA(h:ak Γ e σ H λ_ H1=>aE Γ r D σ H1):aE Γ (.drop e::r) D σ H:=h
theorem bP(h:ak Γ e σ H D.rt):aE Γ (.ret e::r) D σ H:=h
end
end L2
namespace L2.B
open PySem PySem.Spec PyProof.Rows
structure nG (K:Frag) (cs:List Addr) (bZ:Addr) (D:Addr) (j:Nat):Prop where
 cls:sf K D
 kit:∀i c,cs[i]?=some c->kitOne K (.ref D) (.ref c)=some (decide<|i=j)
 bZ:kitOne K (.ref D) (.ref bZ)=some true
 val:kitOne K (.ref D) (.type "ValueError")=some true
def jQ:List Str:=["text","change","fit","place","side","mark","node","cursor","deed","letter","gone","hand","note"]
abbrev gW(c0 c1 c2 c3 c4 c5 c6 c7 c8 c9 tH tI tJ bZ:Addr):List (Str×V):=
 [("BadText",.ref c0),("BadChange",.ref c1),("BadFit",.ref c2),("NoPlace",.ref c3),("BadSide",.ref c4),("NoMark",.ref c5),("NoNode",.ref c6),("NoCursor",.ref c7),("BadDeed",.ref c8),("BadLetter",.ref c9),("NoLetter",.ref tH),("NoHand",.ref tI),("NoNote",.ref tJ),("InkError",.ref bZ)]
inductive zw(K:Frag)(cs:List Addr)(bZ:Addr)(vs:List V)(H:Hp)(Q:VK)(E:XK):Prop|i(ea D j:_)(_:vs=[.ref ea])(_:ExcAt H ea D)(_:nG K cs bZ D j)(_:j<13)(_:∀H',av H H'->Q (.str<|jQ.getD j "") H')
theorem _root_.L2.ExcAt.same{D:Addr}(h:ExcAt H ea D)(s:av H H'):ExcAt H' ea D:=ExcAt.keeps h λb o u e=>s b _ e
def kJ(H:Hp)(v:V)(p:Str×Bool):Prop:= ∃t,v=.ref t/\H t=some (.tup [.str p.1,.bl p.2])
theorem kJ.mono(h:kJ H v p)(s:av H H'):kJ H' v p:=by
 obtain⟨t,e,h⟩:=h;exact⟨t,e,s _ _ h⟩
theorem qK.mono(s:av H H'):∀{vs:List V}{ps:List (Str×Bool)},Paired (kJ H) vs ps->Paired (kJ H') vs ps
 |_,_,.nil=>.nil
 |_,_,.cons h r=>.cons (h.mono s) (qK.mono s r)
theorem qK.get:∀{vs:List V}{ps:List (Str×Bool)}{i:Nat}{v:V},Paired (kJ H) vs ps->vs[i]?=some v->∃p,ps[i]?=some p/\kJ H v p
 |_,_,i,v,.nil,e=>by simp at e
 |_,_,0,v,.cons h r,e=>by simp at e;subst e;exact⟨_,rfl,h⟩
 |_,_,i+1,v,.cons h r,e=>by
  obtain⟨p,a,b⟩:=qK.get r (by simpa using e)
  exact⟨p,by simpa using a,b⟩
theorem Paired.app{R:α->β->Prop}:∀{xs iY:List α}{ys gO:List β},Paired R xs ys->Paired R iY gO->Paired R (xs++iY) (ys++gO):=by
 intro _ _ _ _ p s;induction p with|nil=>exact s|cons r _ ih=>exact .cons r ih
section
variable {Γ:bo}{cs:List Addr}{bZ ea D:Addr}{j:Nat}
theorem DP(hk:nG Γ.K cs bZ D j)(hg:∀i c,cs[i]?=some c->Γ.gv i=.ref c):∀(ws:List (Str×Nat)) (σ:St) (H:Hp) (Q:List V->Hp->Prop),(∀p∈ws,p.2<cs.length)->σ[0]?=some (some<|.ref ea)->ExcAt H ea D->
  (∀vs H',av H H'->Paired (kJ H') vs (ws.map λp=>(p.1,decide<|p.2=j))->Q vs H')->aW Γ (ws.map λp=>.tup [(.c<|.str p.1),(.dt (.v 0)<|.g p.2)]) σ H Q
 |[],σ,H,Q,_,_,_,q=>q [] H (av.refl _) .nil
 |(w,i)::ws,σ,H,Q,hl,h0,he,q=>by
  have hi:=hl (w,i) (.head _);have hc:cs[i]?=some cs[i]:=by simp
  have key:∀k:VK,lK Γ.K [.ref ea,.ref cs[i]] H k->lK Γ.K [.ref ea,Γ.gv i] H k:=by
   intro k;rw[hg i _ hc];exact id
  refine aj<|dY<|aj<|au<|aj<|adM<|ag h0<|vK<|key _ ⟨D,_,he,hk.cls,.inl ⟨_,rfl⟩,hk.kit i _ hc,aA ⟨cO,λt ht=>?_⟩⟩;have s1:=sameNew (o:=.tup [.str w,.bl<|decide<|i=j]) ht;exact DP hk hg ws σ _ _ (λp hp=>hl p<|.tail _ hp) h0 (he.same s1) λvs H' s2 hp=>q (.ref t::vs) H' (s1.trans s2)<|.cons ⟨t,rfl,s2 _ _ aw⟩ hp
theorem zx(hk:nG Γ.K cs bZ D j)(hg:∀i c,cs[i]?=some c->Γ.gv i=.ref c)(ws:List (Str×Nat)){l:Addr}{ps:List (Str×Bool)}{r:List RS}{E:Ends}(hl:∀p∈ws,p.2<cs.length)(he:ExcAt H ea D)(h1:H l=some (.lst xs))
  (hp:Paired (kJ H) xs ps) (hn:xs.length+ws.length<=1000) (q:∀l' iY H',av H H'->H' l'=some (.lst iY)->Paired (kJ H') iY (ps++ws.map λp=>(p.1,decide<|p.2=j))->aE Γ r E [some<|.ref ea,some<|.ref l',none] H'):
  aE Γ (.asg 1 (.bin .Add (.v 1)<|.lst<|ws.map λp=>.tup [(.c<|.str p.1),(.dt (.v 0)<|.g p.2)])::r) E [some<|.ref ea,some<|.ref l,none] H:=by
 refine⟨_,rfl,DP hk hg ws _ H _ hl rfl he λvs H1 s1 hv=>⟨?_,λd hd=>?_⟩⟩
 ·have:=Paired.length hv;rw[zah] at this;exact bY (by lia)
 ·have e1:upd H1 d (.lst vs) l=some (.lst xs):=by rw[aI<|bf (s1 _ _ h1) hd];exact s1 _ _ h1
  have zy:=Paired.length hv;rw[zah] at zy;refine .inl ⟨l,d,xs,vs,rfl,rfl,e1,aw,bY (by lia),λe DQ=>?_⟩
  have s2:=(sameNew hd).trans (sameNew (o:=.lst (xs++vs)) DQ);exact q e (xs++vs) _ (s1.trans s2) aw<|Paired.app (qK.mono (s1.trans s2) hp)<|qK.mono s2 hv
end
theorem adO(j:Nat)(hj:j<13):(((jQ.zipIdx).map λp=>(p.1,decide<|p.2=j)).filter (·.2)).map (·.1)=[jQ.getD j ""]/\(jQ.getD j "").length<=10:=by
 match j,hj with
 | 0,_| 1,_| 2,_| 3,_| 4,_| 5,_| 6,_| 7,_| 8,_| 9,_| 10,_| 11,_| 12,_=>exact⟨rfl,by decide+kernel⟩
theorem join_one(sep x:Str):Txt.join sep [x]=x:=iJ rfl
theorem adQ{α β:Type}(p:α->Bool)(f:α->β)(l:List α)(i:Nat)(v:α)(h:l[i]?=some v):((l.take<|i+1).filter p).map f=((l.take i).filter p).map f++(if p v then [f v] else []):=by
 rw[Ng p l i v h,zas];cases p v<;>rfl
theorem adR{D:Addr}{b:Bool}{Q:Bool->Hp->Prop}(h0:σ[i]?=some (some<|.ref ea))(he:ExcAt H ea D)(hc:sf Γ.K D)(hg:Γ.gv g=.ref C)(hk:kitOne Γ.K (.ref D) (.ref C)=some b)(q:Q b H):bD Γ (.dt (.v i)<|.g g) σ H Q:=by
 have key:∀k:VK,lK Γ.K [.ref ea,.ref C] H k->lK Γ.K [.ref ea,Γ.gv g] H k:=by
  intro k;rw[hg];exact id
 exact N8<|ag h0<|vK<|key _ ⟨D,b,he,hc,.inl ⟨_,rfl⟩,hk,q⟩
theorem adS{D:Addr}{n:String}{b:Bool}{Q:Bool->Hp->Prop}(h0:σ[i]?=some (some<|.ref ea))(he:ExcAt H ea D)(hc:sf Γ.K D)(hk:kitOne Γ.K (.ref D) (.type n)=some b)(q:Q b H):bD Γ (.dt (.v i)<|.c<|.ty n) σ H Q:=
 N8 (ag h0<|au ⟨D,b,he,hc,.inr ⟨_,rfl⟩,hk,q⟩)
theorem adT{D:Addr}(hl:cs.length=13)(hg:∀i c,cs[i]?=some c->Γ.gv i=.ref c)(hi:Γ.gv 13=.ref bZ)(he:ExcAt H ea D)(hk:nG Γ.K cs bZ D j)(hj:j<13)(q:∀H',av H H'->Q (.str<|jQ.getD j "") H'):
  aE Γ fj (Dn Q) [some<|.ref ea,none,none] H:=by
 refine CA<|cA<|DP hk hg [("text",0),("change",1),("fit",2)] _ H _ (by rw[hl];decide) rfl he λvs H1 s1 hv=>⟨?_,λd hd=>?_⟩
 ·have:=Paired.length hv;exact bY (by rw[this];simp)
 have s2:=s1.trans (sameNew (o:=.lst vs) hd);have zy:=Paired.length hv;refine zx hk hg [("place",3),("side",4),("mark",5)] (by rw[hl];decide) (he.same s2) aw (qK.mono (sameNew (o:=.lst vs) hd) hv) (by rw[zy];simp) λl3 oK H3 s3 h3 DR=>?_
 have N_:=Paired.length DR;refine zx hk hg [("node",6),("cursor",7)] (by rw[hl];decide) ((he.same s2).same s3) h3 DR (by rw[N_];simp) λl4 xs4 H4 s4 h4 DS=>?_
 have Oa:=Paired.length DS;refine zx hk hg [("deed",8),("letter",9)] (by rw[hl];decide) (((he.same s2).same s3).same s4) h4 DS (by rw[Oa];simp) λl5 xs5 H5 s5 h5 DT=>?_
 have Ob:=Paired.length DT;refine zx hk hg [("gone",10),("hand",11),("note",12)] (by rw[hl];decide) ((((he.same s2).same s3).same s4).same s5) h5 DT (by rw[Ob];simp) λl6 je H6 s6 h6 Oc=>?_
 have DU:Paired (kJ H6) je ((jQ.zipIdx).map λp=>(p.1,decide<|p.2=j)):=Oc;obtain⟨pick,aj8⟩:=adO j hj;have adU:((jQ.zipIdx).map λp=>(p.1,decide<|p.2=j)).length=13:=rfl
 generalize ((jQ.zipIdx).map λp=>(p.1,decide<|p.2=j))=its at DU pick adU;have oT:=Paired.length DU;have qL:=(((s2.trans s3).trans s4).trans s5).trans s6;refine YR ⟨_,rfl,l6,rfl,⟨_,ar.of h6⟩,λi m ys H7=>m=je.length - i/\i<=je.length/\H7=H6/\ys=(((its.take i).filter (·.2)).map (·.1)).map V.str,⟨_,rfl,zqZ _,rfl,rfl⟩,?_⟩;rintro i m ys H7 ⟨rfl,cL,rfl,rfl⟩;by_cases aU:i<je.length
 ·refine .inr ⟨⟨je,je[i],ar.of h6,by simp[aU]⟩,?_⟩
  rintro x H8 ⟨rfl,hx⟩;obtain⟨⟨w,b⟩,hp,t,rfl,ht⟩:=qK.get DU (hx je<|ar.of h6);have tf:=adQ (·.2) (·.1) its i _ hp;refine⟨t,_,rfl,aM.of ht,rfl,_,rfl,?_⟩;show if b=true then _ else _
  cases b with
  |true=>
   refine gA ⟨_,rfl,?_,je.length - (i+1),by lia,rfl,aU,rfl,?_⟩
   ·rw[zah,zah];have:=zbO (·.2) (its.take i);have:=List.length_take_le i its;exact cX (by lia)
   ·rw[tf];simp
  |false=>
   refine j9 ⟨je.length - (i+1),by lia,rfl,aU,rfl,?_⟩
   rw[tf];simp
 ·have ip:i=je.length:=by lia
  subst ip;refine .inl ⟨⟨je,ar.of h6,zqR _⟩,λp hp=>?_⟩;rw[oT,show its.take its.length=its from zbn ..,pick]
  have s7:=sameNew (o:=.lst (List.map V.str [jQ.getD j ""])) hp;have Od:=(((((he.same s2).same s3).same s4).same s5).same s6).same s7;refine YS<|adR rfl Od hk.cls hi hk.bZ<|adS rfl Od hk.cls hk.val ?_;refine⟨rfl,_,rfl,[jQ.getD j ""],ar.of aw,?_,?_⟩
  ·show(!decide (0+(jQ.getD j "").length+(Str.ofString "/").length>sizeLine))=true;rw[zqF];rfl;have:(Str.ofString "/").length=1:=rfl;have:(1000:Nat)<=sizeLine:=by decide
   lia
  ·exact q _<|qL.trans s7
theorem adW{K:Frag}{c0 c1 c2 c3 c4 c5 c6 c7 c8 c9 tH tI tJ bZ:Addr}(vs:List V)(H:Hp)(Q:VK)(h:zw K [c0,c1,c2,c3,c4,c5,c6,c7,c8,c9,tH,tI,tJ] bZ vs H Q E0):
  aE (aL K []<|gW c0 c1 c2 c3 c4 c5 c6 c7 c8 c9 tH tI tJ bZ) fj (Dn Q) (start ki vs) H:=by
 obtain⟨ea,D,j,rfl,he,hk,hj,q⟩:=h;refine adT rfl (λi c hi=>?_) rfl he hk hj q
 match i,((zak.mp hi).1) with
 | 0,_| 1,_| 2,_| 3,_| 4,_| 5,_| 6,_| 7,_| 8,_| 9,_| 10,_| 11,_| 12,_=>exact congrArg V.ref (zap hi)
theorem adX{xs:List (Key×V)}{T:Ty}{k:Bool->Prop}(h:H a=some (.dK xs))(q:k (T==.dict)):bT T (.ref a) H k:=by
 show(match H a with|some (.lst _)=>k (T==.list)|some (.bO _<|.lst _)=>k (T==.list)|some (.tup _)=>k (T==.tuple)|some (.dK _)=>k (T==.dict)|some (.dT _)=>k (T==.dict)|_=>False)
 rw[h];exact q
theorem Run.good(h:Run l ps r)(hl:∀c∈l,SG.cps.contains c=true)(hp:∀p∈ps,lV p):∀c∈r,SG.cps.contains c=true:=by
 induction h with
 |nil=>exact hl
 |keep e _ ih=>
  intro c hc;rcases zae.mp hc with z|z
  ·exact hl c (zae.mpr<|.inl z)
  ·exact ih (λd hd=>hl d<|zae.mpr<|.inr hd) (λp h=>hp p<|.tail _ h) c z
 |put _ ih=>
  intro c hc;rcases zae.mp hc with z|z
  ·exact(hp _ (.head _):sg _) c z
  ·exact ih hl (λp h=>hp p<|.tail _ h) c z
 |cut _ ih=>exact ih (λd hd=>hl d<|zae.mpr<|.inr hd) (λp h=>hp p<|.tail _ h)
theorem Run.len(h:Run l ps r):r.length<=l.length+ba ps:=by
 induction h with
 |nil=>simp
 | @keep a l r n ps e _ ih=>
  have:ba (.keep n::ps)=0+ba ps:=rfl
  simp;lia
 | @put s l r ps _ ih=>
  have:ba (.put s::ps)=s.length+ba ps:=rfl
  have e:=len_list s
  simp only[zqA];lia
 | @cut s l r ps _ ih=>
  have:ba (.cut s::ps)=s.length+ba ps:=rfl
  simp;lia
theorem Oe(k:Nat)(n:Int)(m:Nat)(hn:n=m):mK x (some (k:Int)) (some<|(k:Int)+n)=⟨((x.cps.toList.drop k).take m).toArray⟩:=by
 have e1:(k:Int)+n=((k+m:Nat):Int):=by lia
 unfold mK mJ;rw[e1,HT.pU,HT.pU]
 by_cases h:k<=x.cps.toList.length
 ·rw[show min k x.cps.toList.length=k by lia]
  by_cases h2:k+m<=x.cps.toList.length
  ·rw[show min (k+m) x.cps.toList.length=k+m by lia,Nat.add_sub_cancel_left]
  ·rw[zav (by rw[zao];lia),zav (by rw[zao];lia)]
 ·rw[show min k x.cps.toList.length=x.cps.toList.length by lia,List.drop_length,List.drop_of_length_le (by lia),List.take_nil,List.take_nil]
inductive vL(vs:List V)(H:Hp)(Q:VK)(E:XK):Prop|i(x a xs ps r:_)(_:vs=[.str x,.ref a])(_:good x)(_:H a=some (.lst xs))(_:bc H xs ps)(_:(∀p∈ps,Di p))(_:Run x.cps.toList ps r)(_:r.length<=1000000)(_:Q (.str ⟨r.toArray⟩) H)
theorem adY{K:Frag}:cI (vL) (λE=>aL K [] [] (E:=E)) J_ CJ:=by
 intro vs H Q E h;obtain⟨x,a,xs,ps,r,rfl,hx,ha,bV,aK,hr,kz,q⟩:=h;have hlen:=Paired.length bV;refine⟨_,rfl,a,rfl,⟨_,ar.of ha⟩,iR (K:=K) (a:=a) (xs:=xs) (λi σ H2=>qX6 λl1 l2 q1 q2 w v=>qA5 (σ=[some (.str x),some (.ref a),some (.str ⟨q1.toArray⟩),some (.int ((l1.length:Nat):Int)),w,v]) (H2=H) (x.cps.toList=l1++l2) (r=q1++q2) (Run l2 (ps.drop i) q2))
  ⟨[],x.cps.toList,[],r,none,none,rfl,rfl,rfl,rfl,hr⟩ (λi σ H2 _ ⟨_,_,_,_,_,_,_,e,_,_,_⟩=>e ▸ ar.of ha) ?_ ?_⟩
 ·rintro i y σ H2 hi ⟨l1,l2,q1,q2,w,v,rfl,rfl,e1,e2,dO⟩;obtain⟨pt,iu,b,rfl,hb⟩:=bV.get hi;have cL:i<ps.length:=(zak.mp iu).1;have ed:ps.drop i=pt::ps.drop (i+1):=by
   rw[zbo cL]
   congr 1
   exact zap<|(zaC cL).symm.trans iu
  rw[ed] at dO;obtain⟨la,lb,qa,qb,rfl,rfl,DV,one⟩:=NZ dO;have hpo:=aK pt (zaj iu);have qM:q1.length+qa.length<=1000000:=by rw[e2] at kz;simp at kz;lia
  refine⟨b,_,rfl,.inl<|aM.of hb,rfl,_,_,rfl,_,_,rfl,rfl,?_⟩;cases pt with
  |put s=>
   obtain⟨rfl,rfl⟩:=one;refine⟨_,rfl,_,rfl,_,rfl,_,rfl,bY (by rw[len_list,len_list];exact qM),?_⟩
   refine⟨l1,lb,q1++s.cps.toList,qb,some<|.str "put",some<|.str s,?_,rfl,e1,by rw[e2];simp,DV⟩
   rw[show(⟨q1.toArray⟩++s:Str)=⟨(q1++s.cps.toList).toArray⟩ from iJ (by rw[app_list])]
   rfl
  |cut s=>
   obtain⟨rfl,rfl⟩:=one;refine⟨_,rfl,_,rfl,_,rfl,_,rfl,_,rfl,_,rfl,bY hpo,?_⟩;refine⟨l1++s.cps.toList,lb,q1,qb,some<|.str "cut",some<|.str s,?_,rfl,by rw[e1];simp,e2,DV⟩
   rw[zqA,<-len_list,zbr]
   rfl
  |keep n=>
   obtain⟨rfl,hn⟩:=one;refine⟨_,rfl,_,rfl,_,rfl,_,rfl,?_⟩;refine⟨_,rfl,_,rfl,_,rfl,_,rfl,_,rfl,_,rfl,_,rfl,bY hx.1,?_⟩;rw[N3 e1 n hn];refine⟨bY (by rw[len_list,len_list];exact qM),?_⟩
   refine⟨_,rfl,_,rfl,?_⟩;refine⟨l1++la,lb,q1++la,qb,some<|.str "keep",some<|.int n,?_,rfl,by rw[e1];simp,by rw[e2];simp,DV⟩
   rw[show(⟨q1.toArray⟩++ ⟨la.toArray⟩:Str)=⟨(q1++la).toArray⟩ from iJ (by rw[app_list]),zqA,hn,zbr]
   rfl
 ·rintro σ H2 ⟨l1,l2,q1,q2,w,v,rfl,rfl,e1,e2,dO⟩;rw[hlen,List.drop_length] at dO;cases dO;rw[zai] at e2;subst e2;exact⟨_,rfl,q⟩
end L2.B
namespace L2
open PySem PySem.Spec PyProof.Rows
section
variable {Γ:bo}{D:Ends}{σ:St}{H:Hp}{r:List RS}{Q:VK}{QA:List V->Hp->Prop}{QT:Bool->Hp->Prop}
theorem qN{o:RE}(C:Addr)(sp:Sp)(hm:Γ.ms j=(C,sp))(h:ak Γ o σ H λx H1=>∃a dx fs,x=.ref a/\H1 a=some (.ins C dx fs)/\fs.lookup m=none/\sp [x] H1 Q Γ.E):ak Γ (.du j m o []) σ H Q:=by
 show pT (Γ.ms j).1 m (Γ.ms j).2 [] Γ.E (ak Γ o) (aW Γ []) σ H Q;rw[hm];exact h
theorem DW{o a:RE}(C:Addr)(sp:Sp)(hm:Γ.ms j=(C,sp))(h:ak Γ o σ H λx H1=>∃p dx fs,x=.ref p/\H1 p=some (.ins C dx fs)/\fs.lookup m=none/\ak Γ a σ H1 λy H2=>sp [x,y] H2 Q Γ.E):ak Γ (.du j m o [a]) σ H Q:=by
 show pT (Γ.ms j).1 m (Γ.ms j).2 [] Γ.E (ak Γ o) (aW Γ [a]) σ H Q;rw[hm];exact h
theorem ad0(W:Nat->St->Hp->Prop)(h0:∃m,W m σ H)
  (h:∀m σ H,W m σ H->bD Γ c σ H λb H1=>if b=true then ∃N:St->Hp->Prop,(∀σ' H',N σ' H'->∃m',m'<m/\W m' σ' H')/\aE Γ body {{D with nx:=aE Γ r D} with nx:=N,ct:=N,bk:=aE Γ r D} σ H1 else aE Γ r D σ H1):aE Γ (.si c body::r) D σ H:=⟨W,h0,h⟩
theorem b_{a b:RE}(h:ak Γ a σ H λx H1=>ak Γ b σ H1 λy H2=>bX Γ.K op x y H2 λz H3=>∃k,z=.bl k/\QT k H3):bD Γ (.cmp op a b) σ H QT:=h
theorem jR{f:Str}(h:ak Γ o σ H λx H1=>∃a C dx fs v,x=.ref a/\H1 a=some (.ins C dx fs)/\gu Γ.K C/\g7 Γ.K C f/\fs.lookup f=some v/\Q v H1):ak Γ (.fld o f) σ H Q:=h
theorem fu{o a:RE}(h:ak Γ o σ H λx H1=>rZ Γ.K (yv m) x H1/\ak Γ a σ H1 λy H2=>p9 Γ.K m x [y] H2 Q):ak Γ (.bq m o [a]) σ H Q:=h
theorem qO{K:Frag}{x:Str}(q:Q (.bl<|x==y) H):bX K .Eq (.str x) (.str y) H Q:=by
 show Q (.bl<|false ^^ decide (V.str x=V.str y)) H;rw[zaI,g6];exact q
theorem tK{K:Frag}{x:Str}(q:Q (.bl<|x !=y) H):bX K .NotEq (.str x) (.str y) H Q:=by
 show Q (.bl<|true ^^ decide (V.str x=V.str y)) H;rw[zaN,g6];exact q
end
end L2
namespace L2.B
open PySem PySem.Spec PyProof.Rows
end L2.B
namespace L2.B
open PySem PySem.Spec PyProof.Rows
abbrev ad1:List (Str×Sp):=[("_law_whole",qz)]
inductive qP(vs:List V)(H:Hp)(Q:VK)(E:XK):Prop|i(a b xs ys ps:_)(_:vs=[.ref a,.ref b])(_:H a=some (.lst xs))(_:H b=some (.lst ys))(_:bc H xs ps)(_:bc H ys ps)(_:∀H',av H H'->Q (.bl true) H')
theorem zz{K:Frag}{a b:Addr}{g:TG}{tb:TS}(hl:xs.length=ys.length)(Pv:Nat->St->Hp->Prop)(h0:Pv 0 σ H)(ha:∀i σ H,Pv i σ H->ar K H a xs/\ar K H b ys)
  (hs:∀i x y σ H T,xs[i]?=some x->ys[i]?=some y->Pv i σ H->H T=none->g (.ref T) σ (upd H T<|.tup [x,y]) λσ2 H2=>tb {D with nx:=Pv (i+1),ct:=Pv (i+1),bk:=D.nx} σ2 H2) (hd:∀σ H,Pv xs.length σ H->D.nx σ H):
  ∃W:Nat->Nat->St->Hp->Prop,(∃m,W 0 m σ H)/\∀i m σ H,W i m σ H->
   ((ka K a b).stop i H/\D.nx σ H)\/((ka K a b).go i H/\∃N:St->Hp->Prop,(∀σ' H',N σ' H'->∃m',m'<m/\W (i+1) m' σ' H')/\∀x H',(ka K a b).gK i H x H'->g x σ H' λσ2 H2=>tb {D with nx:=N,ct:=N,bk:=D.nx} σ2 H2):=by
 refine⟨λi m σ H=>m=xs.length - i/\i<=xs.length/\Pv i σ H,⟨xs.length,rfl,zqZ _,h0⟩,?_⟩
 rintro i m σ H ⟨rfl,hi,p⟩;obtain⟨q1,q2⟩:=ha i σ H p;by_cases aU:i<xs.length
 ·have DX:i<ys.length:=by lia
  refine .inr ⟨⟨xs,ys,q1,q2,aU,DX⟩,Pv<|i+1,λσ' H' p'=>⟨xs.length - (i+1),by lia,rfl,aU,p'⟩,λx H' y=>?_⟩
  obtain⟨T,hT,rfl,y⟩:=y;have e:=y xs ys xs[i] ys[i] q1 q2 (by simp) (by simp)
  subst e;exact hs i xs[i] ys[i] σ H T (by simp) (by simp) p hT
 ·have e:i=xs.length:=by lia
  subst e;exact .inl ⟨⟨xs,ys,q1,q2,by lia⟩,hd σ H p⟩
theorem ad2{K:Frag}(vs:List V)(H:Hp)(Q:VK)(E:XK)(h:qP vs H Q E):aE (aL K ad1 [] (E:=E)) J8 {nx:=λ_ H'=>Q .aB H',rt:=Q} (start CI vs) H:=by
 obtain⟨a,b,xs,ys,ps,rfl,ha,hb,n_,iw,q⟩:=h;have l1:=Paired.length n_;have l2:=Paired.length iw;refine⟨_,rfl,rfl,lU ha ⟨_,rfl,.inl ⟨_,ar.of ha,_,rfl,.inl ⟨_,ar.of hb,_,rfl,?_⟩⟩⟩⟩
 rw[show(xs.length:Int)=(ys.length:Int) by lia,zqT rfl]
 refine⟨_,rfl,_,rfl,a,b,rfl,⟨_,ar.of ha⟩,⟨_,ar.of hb⟩,zz (K:=K) (a:=a) (b:=b) (by lia) (λi σ H2=>∃v w,σ=[some (.ref a),some (.ref b),v,w]/\av H H2) ⟨none,none,rfl,av.refl _⟩
  (λi σ H2 ⟨_,_,_,s2⟩=>⟨ar.of (s2 _ _ ha),ar.of (s2 _ _ hb)⟩) ?_ ?_⟩
 ·rintro i x y σ H2 T hx hy ⟨v,w,rfl,s2⟩ hT;have s3:av H (upd H2 T<|.tup [x,y]):=s2.trans (sameNew hT);obtain⟨p,hp,x1,rfl,h1⟩:=n_.get hx;obtain⟨p',r_,y1,rfl,h2⟩:=iw.get hy;rw[hp] at r_;cases r_;have k1:=s3 _ _ h1;have k2:=s3 _ _ h2;refine⟨T,_,rfl,.inl<|aM.of aw,rfl,_,_,rfl,_,_,rfl,rfl,⟨_,rfl,rfl,ny k1 ⟨_,rfl,.inr ⟨_,aM.of k1,_,rfl,⟨_,rfl,.inr<|.inl ⟨_,_,_,_,rfl,rfl,aM.of k1,rfl,rfl,⟨_,rfl,.inr<|.inl ⟨_,_,_,_,rfl,rfl,aM.of k1,rfl,_,rfl,.inr<|.inl ⟨_,_,_,_,rfl,rfl,aM.of k2,rfl,_,rfl,?_⟩⟩⟩⟩⟩⟩⟩⟩⟩;rw[zqT rfl];refine⟨_,rfl,.inr<|.inl ⟨_,_,_,_,rfl,rfl,aM.of k2,rfl,rfl,?_⟩⟩;cases p with
  |keep n=>
   refine⟨_,rfl,.inr<|.inl ⟨_,_,_,_,rfl,rfl,aM.of k1,rfl,rfl,_,rfl,⟨_,rfl,.inr<|.inl ⟨_,_,_,_,rfl,rfl,aM.of k1,rfl,_,rfl,.inr<|.inl ⟨_,_,_,_,rfl,rfl,aM.of k2,rfl,_,rfl,?_⟩⟩⟩⟩⟩;rw[zqT rfl];refine⟨_,rfl,.inr<|.inl ⟨_,_,_,_,rfl,rfl,aM.of k2,rfl,rfl,⟨_,rfl,.inr<|.inl ⟨_,_,_,_,rfl,rfl,aM.of k1,rfl,n,rfl,?_⟩⟩⟩⟩;exact⟨_,_,rfl,s3⟩
  |put s=>
   refine⟨_,rfl,.inr<|.inl ⟨_,_,_,_,rfl,rfl,aM.of k1,rfl,rfl,_,rfl,?_⟩⟩;refine⟨_,rfl,.inr<|.inl ⟨_,_,_,_,rfl,rfl,aM.of k1,rfl,_,rfl,.inr<|.inl ⟨_,_,_,_,rfl,rfl,aM.of k2,rfl,_,rfl,?_⟩⟩⟩;rw[zqT rfl];refine⟨_,rfl,.inr<|.inl ⟨_,_,_,_,rfl,rfl,aM.of k2,rfl,rfl,?_⟩⟩;exact⟨_,_,rfl,s3⟩
  |cut s=>
   refine⟨_,rfl,.inr<|.inl ⟨_,_,_,_,rfl,rfl,aM.of k1,rfl,rfl,_,rfl,?_⟩⟩;refine⟨_,rfl,.inr<|.inl ⟨_,_,_,_,rfl,rfl,aM.of k1,rfl,_,rfl,.inr<|.inl ⟨_,_,_,_,rfl,rfl,aM.of k2,rfl,_,rfl,?_⟩⟩⟩;rw[zqT rfl];refine⟨_,rfl,.inr<|.inl ⟨_,_,_,_,rfl,rfl,aM.of k2,rfl,rfl,?_⟩⟩;exact⟨_,_,rfl,s3⟩
 ·rintro σ H2 ⟨v,w,rfl,s2⟩;exact q H2 s2
theorem ad3{K:Frag}:cI (qz) (λE=>aL K [] [] (E:=E)) Jz CK:=by
 intro vs H Q E h;obtain⟨i,rfl,q⟩:=h;exact⟨_,rfl,rfl,_,rfl,gA ⟨_,rfl,rfl,q⟩⟩
end L2.B
namespace L2.N
inductive Tr where
 |nil|node (l:Tr) (a b c:Int) (r:Tr)
namespace Tr
def h:Tr->Int
 |nil=>0
 |node l _ _ _ r=>1+(if r.h>l.h then r.h else l.h)
def sz:Tr->Int
 |nil=>0
 |node l _ b _ r=>l.sz+b+r.sz
def en:Tr->Int
 |nil=>0
 |node l _ _ c r=>l.en+c+r.en
def aC:Tr->List (Int×Int×Int)
 |nil=>[]
 |node l a b c r=>l.aC++(a,b,c)::r.aC
def ok:Tr->Prop
 |nil=>True
 |node l _ _ _ r=>l.ok/\r.ok/\l.h<=r.h+1/\r.h<=l.h+1
theorem h0:∀t:Tr,0<=t.h
 |nil=>zaE _
 |node l _ _ _ r=>by
  have:=h0 r;show 0<=1+(if r.h>l.h then r.h else l.h)
  split<;>lia
theorem tL:∀{t:Tr},0<t.h->∃l a b c r,t=node l a b c r
 |nil,h=>absurd h (by decide)
 |node l a b c r,_=>⟨l,a,b,c,r,rfl⟩
theorem dB(l:Tr)(a b c:Int)(r:Tr):(node l a b c r).h=1+(if r.h>l.h then r.h else l.h):=rfl
theorem DY:∀{t:Tr} (n:Nat),t.ok->(n:Int)<=t.h->2 ^ (n / 2)<=t.aC.length+1
 |nil,n,_,hn=>by
  have:n=0:=by
   have:(n:Int)<=0:=hn;lia
  subst this;decide
 |node l a b c r,n,ho,hn=>by
  obtain⟨o1,o2,o3,o4⟩:=ho;rw[dB] at hn
  simp only[aC,zqA,zau]
  match n with
  | 0=>simp
  | 1=>simp
  |n+2=>
   have e:(n+2) / 2=n / 2+1:=by lia
   have k1:(n:Int)<=l.h:=by lia
   have k2:(n:Int)<=r.h:=by lia
   have i1:=DY n o1 k1;have i2:=DY n o2 k2;lia
theorem jS{t:Tr}(ho:t.ok)(hn:t.aC.length<=1000):t.h<=19:=by
 by_cases hh:t.h<=19
 ·exact hh
 ·have:=DY 20 ho (by lia)
  lia
structure l7 (l:Tr) (a b c:Int) (r t:Tr):Prop where
 ok:t.ok
 aC:t.aC=l.aC++(a,b,c)::r.aC
 near:l.h<=r.h+1->r.h<=l.h+1->t.h=1+(if r.h>l.h then r.h else l.h)
 lo:l.h<=t.h/\r.h<=t.h
 hi:t.h<=l.h+1\/t.h<=r.h+1
theorem Of{a b c:Int}(o1:l.ok)(o2:r.ok)(h1:l.h<=r.h+1)(h2:r.h<=l.h+1):l7 l a b c r (node l a b c r):=by
 refine⟨⟨o1,o2,h1,h2⟩,rfl,λ_ _=>rfl,?_,?_⟩
 all_goals rw[dB];split<;>lia
theorem ad4{a b c:Int}(o1:(node ll a b c lr).ok)(o2:r.ok)(h1:(node ll a b c lr).h=r.h+2)(hh:lr.h<=ll.h):
  l7 (node ll a b c lr) a' b' c' r (node ll a b c<|node lr a' b' c' r):=by
 obtain⟨p1,p2,p3,p4⟩:=o1;have e1:=dB ll a b c lr;have e2:=dB lr a' b' c' r;have e3:=dB ll a b c (node lr a' b' c' r)
 refine⟨⟨p1,⟨p2,o2,by lia,by lia⟩,?_,?_⟩,by simp[aC],λq1 q2=>absurd h1 (by lia),?_,?_⟩
 ·rw[e2];split<;>lia
 ·rw[e2];split<;>lia
 ·constructor<;>((repeat' split) <;>lia)
 ·rw[e3,e2];(split<;>split<;>lia)
theorem ad5{a b c x y z:Int}(o1:(node ll a b c<|node il x y z ir).ok)(o2:r.ok)(h1:(node ll a b c<|node il x y z ir).h=r.h+2)(hh:ll.h< (node il x y z ir).h):
  l7 (node ll a b c<|node il x y z ir) a' b' c' r (node (node ll a b c il) x y z<|node ir a' b' c' r):=by
 obtain⟨p1,⟨p5,p6,p7,p8⟩,p3,p4⟩:=o1;have e2:=dB il x y z ir;have k:ll.h=r.h/\(node il x y z ir).h=r.h+1:=by rw[dB] at h1;lia
 rw[k.2] at e2;have m:il.h<=r.h/\ir.h<=r.h/\r.h<=il.h+1/\r.h<=ir.h+1:=by clear h1 hh;lia
 have e3:(node ll a b c il).h=r.h+1:=by rw[dB,if_neg] <;>lia
 have e4:(node ir a' b' c' r).h=r.h+1:=by rw[dB]; split<;>lia
 have e5:(node (node ll a b c il) x y z<|node ir a' b' c' r).h=r.h+2:=by rw[dB,if_neg] <;>lia
 clear e2
 refine⟨⟨⟨p1,p5,by lia,by lia⟩,⟨p6,o2,by lia,by lia⟩,by lia,by lia⟩,by simp[aC],λq1 q2=>absurd h1 (by lia),by lia,by lia⟩
theorem ad6{rl rr:Tr}{a b c:Int}(o1:l.ok)(o2:(node rl a' b' c' rr).ok)(h1:(node rl a' b' c' rr).h=l.h+2)(hh:rl.h<=rr.h):
  l7 l a b c (node rl a' b' c' rr) (node (node l a b c rl) a' b' c' rr):=by
 obtain⟨p1,p2,p3,p4⟩:=o2;have e1:=dB rl a' b' c' rr;have e2:=dB l a b c rl;have e3:=dB (node l a b c rl) a' b' c' rr
 refine⟨⟨⟨o1,p1,by lia,by lia⟩,p2,?_,?_⟩,by simp[aC],λq1 q2=>absurd h1 (by lia),?_,?_⟩
 ·rw[e2];split<;>lia
 ·rw[e2];split<;>lia
 ·constructor<;>((repeat' split) <;>lia)
 ·rw[e3,e2];(split<;>split<;>lia)
theorem ad7{il ir rr:Tr}{a b c x y z:Int}(o1:l.ok)(o2:(node (node il x y z ir) a' b' c' rr).ok)(h1:(node (node il x y z ir) a' b' c' rr).h=l.h+2)(hh:rr.h< (node il x y z ir).h):
  l7 l a b c (node (node il x y z ir) a' b' c' rr) (node (node l a b c il) x y z<|node ir a' b' c' rr):=by
 obtain⟨⟨p5,p6,p7,p8⟩,p2,p3,p4⟩:=o2;have e2:=dB il x y z ir;have k:rr.h=l.h/\(node il x y z ir).h=l.h+1:=by rw[dB] at h1;lia
 rw[k.2] at e2;have m:il.h<=l.h/\ir.h<=l.h/\l.h<=il.h+1/\l.h<=ir.h+1:=by clear h1 hh;lia
 have e3:(node l a b c il).h=l.h+1:=by rw[dB,if_neg] <;>lia
 have e4:(node ir a' b' c' rr).h=l.h+1:=by rw[dB];split<;>lia
 have e5:(node (node l a b c il) x y z<|node ir a' b' c' rr).h=l.h+2:=by rw[dB,if_neg] <;>lia
 clear e2
 refine⟨⟨⟨o1,p5,by lia,by lia⟩,⟨p6,p2,by lia,by lia⟩,by lia,by lia⟩,by simp[aC],λq1 q2=>absurd h1 (by lia),by lia,by lia⟩
structure Jn (l:Tr) (a b c:Int) (r t:Tr):Prop where
 ok:t.ok
 aC:t.aC=l.aC++(a,b,c)::r.aC
 lo:l.h<=t.h/\r.h<=t.h
 hi:t.h<=l.h+1\/t.h<=r.h+1
theorem ad8{a b c:Int}(o1:l.ok)(o2:r.ok)(h1:l.h<=r.h+1)(h2:r.h<=l.h+1):Jn l a b c r (node l a b c r):=
 let L:=Of o1 o2 h1 h2
 ⟨L.ok,L.aC,L.lo,L.hi⟩
theorem ad9{j t:Tr}{a b c:Int}(o1:(node ll a b c lr).ok)(hh:r.h+1< (node ll a b c lr).h)(J:Jn lr a' b' c' r j)(L:l7 ll a b c j t):
  Jn (node ll a b c lr) a' b' c' r t:=by
 obtain⟨p1,p2,p3,p4⟩:=o1;have e1:=dB ll a b c lr;have j1:=J.lo;have j2:=J.hi;have l1:=L.lo;have l2:=L.hi;have l3:=L.near
 refine⟨L.ok,by rw[L.aC,J.aC];simp[aC],?_,?_⟩
 ·by_cases q:ll.h<=j.h+1/\j.h<=ll.h+1
  ·have:=l3 q.1 q.2;rw[this]
   constructor<;>((repeat' split) <;>lia)
  ·constructor<;>((repeat' split) <;>lia)
 ·rw[e1]
  by_cases q:ll.h<=j.h+1/\j.h<=ll.h+1
  ·have:=l3 q.1 q.2;rw[this]
   split<;>split<;>lia
  ·split<;>lia
theorem ad_{rl rr j t:Tr}{a b c:Int}(o2:(node rl a' b' c' rr).ok)(hh:l.h+1< (node rl a' b' c' rr).h)(J:Jn l a b c rl j)(L:l7 j a' b' c' rr t):
  Jn l a b c (node rl a' b' c' rr) t:=by
 obtain⟨p1,p2,p3,p4⟩:=o2;have e1:=dB rl a' b' c' rr;have j1:=J.lo;have j2:=J.hi;have l1:=L.lo;have l2:=L.hi;have l3:=L.near
 refine⟨L.ok,by rw[L.aC,J.aC];simp[aC],?_,?_⟩
 ·by_cases q:j.h<=rr.h+1/\rr.h<=j.h+1
  ·have:=l3 q.1 q.2;rw[this]
   constructor<;>((repeat' split) <;>lia)
  ·constructor<;>((repeat' split) <;>lia)
 ·rw[e1]
  by_cases q:j.h<=rr.h+1/\rr.h<=j.h+1
  ·have:=l3 q.1 q.2;rw[this]
   split<;>split<;>lia
  ·split<;>lia
theorem aea{j:Tr}{a b c:Int}(o1:(node ll a b c lr).ok)(hh:r.h+1< (node ll a b c lr).h)(J:Jn lr a' b' c' r j):ll.h<=j.h+2/\j.h<=ll.h+2:=by
 obtain⟨p1,p2,p3,p4⟩:=o1;have e1:=dB ll a b c lr;have j1:=J.lo;have j2:=J.hi
 lia
theorem aeb{rl rr j:Tr}{a b c:Int}(o2:(node rl a' b' c' rr).ok)(hh:l.h+1< (node rl a' b' c' rr).h)(J:Jn l a b c rl j):j.h<=rr.h+2/\rr.h<=j.h+2:=by
 obtain⟨p1,p2,p3,p4⟩:=o2;have e1:=dB rl a' b' c' rr;have j1:=J.lo;have j2:=J.hi
 lia
end Tr
abbrev P3:=Int×Int×Int
def dP(ps:List P3):Int:=(ps.map λp=>p.2.1).sum
def dh(F:Int->Int):List P3->Int->List P3
 |[],_=>[]
 |p::ps,n=>if n<=0 then [] else if p.2.1<=n then p::dh F ps (n - p.2.1) else [(p.1,n,F (p.1+n) - F p.1)]
def di(F:Int->Int):List P3->Int->List P3
 |[],_=>[]
 |p::ps,n=>if n<=0 then p::ps else if p.2.1<=n then di F ps (n - p.2.1) else (p.1+n,p.2.1 - n,p.2.2 - (F (p.1+n) - F p.1))::ps
theorem Og:dP []=0:=rfl
theorem qQ(p:P3)(ps:List P3):dP (p::ps)=p.2.1+dP ps:=rfl
theorem Oh(a b:List P3):dP (a++b)=dP a+dP b:=by simp[dP]
theorem DZ(F:Int->Int){n:Int}(h:n<=0):∀ps:List P3,dh F ps n=[]/\di F ps n=ps
 |[]=>⟨rfl,rfl⟩
 |p::ps=>by simp[dh,di,h]
theorem Oi:∀{ps:List P3},(∀p∈ps,1<=p.2.1)->0<=dP ps
 |[],_=>zaE _
 |p::ps,h=>by
  have:=Oi λq hq=>h q (zam _ hq);have:=h p zat;rw[qQ];lia
theorem Oj(F:Int->Int)(ys:List P3):∀(xs:List P3) (n:Int),(∀p∈xs,1<=p.2.1)->n<=dP xs->dh F (xs++ys) n=dh F xs n/\di F (xs++ys) n=di F xs n++ys
 |[],n,_,h=>by
  obtain⟨a,b⟩:=DZ F h ys;exact⟨a,b⟩
 |p::xs,n,hp,h=>by
  rw[qQ] at h;have ih:=Oj F ys xs (n - p.2.1) (λq hq=>hp q<|zam _ hq) (by lia)
  simp only[zbs,dh,di]
  rw[ih.1,ih.2]
  constructor
  ·rfl
  ·split
   ·rfl
   ·split<;>rfl
theorem D0(F:Int->Int)(ys:List P3):∀(xs:List P3) (n:Int),(∀p∈xs,1<=p.2.1)->dP xs<=n->dh F (xs++ys) n=xs++dh F ys (n - dP xs)/\di F (xs++ys) n=di F ys (n - dP xs):=by
 intro xs;induction xs with
 |nil=>intro n _ h;rw[Og,Int.sub_zero];exact⟨rfl,rfl⟩
 |cons p xs ih=>
  intro n hp h
  have h1:=hp p zat;have h2:=Oi λq hq=>hp q (zam _ hq);rw[qQ] at h⊢;have ih:=ih (n - p.2.1) (λq hq=>hp q<|zam _ hq) (by lia)
  have e:n - p.2.1 - dP xs=n - (p.2.1+dP xs):=by lia
  rw[e] at ih
  simp only[zbs,dh,di]
  rw[if_neg (by lia),if_pos (by lia),if_neg (by lia),if_pos (by lia),ih.1,ih.2]
  exact⟨rfl,rfl⟩
theorem vM(F:Int->Int):∀(xs:List P3) (n:Int),(dh F xs n).length<=xs.length/\(di F xs n).length<=xs.length:=by
 intro xs;induction xs with
 |nil=>intro n;exact ⟨zqR _,zqR _⟩
 |cons p xs ih=>
  intro n
  obtain⟨a,b⟩:=ih (n - p.2.1)
  simp only[dh,di]
  split
  ·exact⟨zqZ _,zqR _⟩
  ·split<;>simp<;>lia
end L2.N
namespace L2.B
def dQ(xs:List Int)(most:Int):Nat:=(xs.filter λx=>decide (x<=most)).length
def tM(xs:List Int):Prop:=xs.Pairwise (· <= ·)
theorem D1(xs:List Int)(most:Int):dQ xs most<=xs.length:=zbO _ _
theorem D4(a b:List Int)(most:Int):dQ (a++b) most=dQ a most+dQ b most:=by simp[dQ]
theorem Ol{xs:List Int}(h:∀x∈xs,x<=most):dQ xs most=xs.length:=by
 unfold dQ;rw[List.filter_eq_self.mpr λx hx=>by simpa using h x hx]
theorem Om{xs:List Int}(h:∀x∈xs,most<x):dQ xs most=0:=by
 unfold dQ;rw[zaP,List.filter_eq_nil_iff];intro x hx;have:=h x hx
 lia
theorem D5{xs:List Int}{x:Int}{m:Nat}(h:tM xs)(g:xs[m]?=some x)(hx:x<=most):m+1<=dQ xs most:=by
 have hm:=(zak.mp g).1;have e:xs=xs.take (m+1)++xs.drop (m+1):=(zaL _ _).symm;have a:∀y∈xs.take (m+1),y<=most:=by
  intro y hy;obtain⟨j,hj,rfl⟩:=zbm hy;rw[zaq] at hj;rw[List.getElem_take];have e2:=(zak.mp g).2;by_cases q:j=m
  ·lia
  ·have:=zbF.mp h j m (by lia) hm (by lia)
   lia
 have:dQ xs most=dQ (xs.take<|m+1) most+dQ (xs.drop<|m+1) most:=by rw[<-D4,<-e]
 rw[this,Ol a,zaq];lia
theorem Oo{xs:List Int}{x:Int}{m:Nat}(h:tM xs)(g:xs[m]?=some x)(hx:¬x<=most):dQ xs most<=m:=by
 have e:xs=xs.take m++xs.drop m:=(zaL _ _).symm;have a:∀y∈xs.drop m,most<y:=by
  intro y hy;obtain⟨j,hj,rfl⟩:=zbm hy;rw[zao] at hj;rw[List.getElem_drop];have e2:=(zak.mp g).2;by_cases q:j=0
  ·subst q;lia
  ·have:=zbF.mp h m (m+j) ((zak.mp g).1) (by lia) (by lia)
   lia
 have:dQ xs most=dQ (xs.take m) most+dQ (xs.drop m) most:=by rw[<-D4,<-e]
 have l:=D1 (xs.take m) most;rw[this,Om a];rw[zaq] at l;lia
open PySem PySem.StrLaws
def pos(c:Nat):List Nat->Nat->List Nat
 |[],_=>[]
 |d::r,k=>if d=c then k::pos c r (k+1) else pos c r (k+1)
theorem D6(c:Nat):∀(a b:List Nat) (k:Nat),pos c (a++b) k=pos c a k++pos c b (k+a.length)
 |[],b,k=>rfl
 |d::r,b,k=>by
  have ih:=D6 c r b (k+1);rw[show k+1+r.length=k+(d::r).length by simp;lia] at ih
  simp only[zbs,pos]
  split
  ·rw[ih];rfl
  ·rw[ih]
theorem vN(c:Nat):∀(a:List Nat) (k:Nat),(pos c a k).length=a.count c
 |[],k=>rfl
 |d::r,k=>by
  simp only[pos]
  rw[List.count_cons]
  split
  ·rename_i h;subst h;simp[vN d r<|k+1]
  ·rename_i h
   have:(d==c)=false:=by lia
   rw[vN c r<|k+1,this];simp
theorem qR(c:Nat):∀(a:List Nat) (k i:Nat),i∈pos c a k->k<=i/\i<k+a.length
 |[],k,i,h=>by simp[pos] at h
 |d::r,k,i,h=>by
  simp only[pos] at h
  have go:i∈pos c r (k+1)->k<=i/\i<k+(d::r).length:=λz=>by
   have:=qR c r (k+1) i z
   simp;lia
  split at h
  ·rcases zaa.mp h with rfl|z
   ·simp
   ·exact go z
  ·exact go h
theorem D7(c:Nat):∀(a:List Nat) (k:Nat),(pos c a k).Pairwise (· < ·)
 |[],k=>by simp[pos]
 |d::r,k=>by
  simp only[pos]
  split
  ·rw[zbt];exact⟨λi hi=>by have:=qR c r (k+1) i hi;lia,D7 c r<|k+1⟩
  ·exact D7 c r (k+1)
def iM(c:Nat)(a:List Nat):List Int:=(pos c a 0).map fun(i:Nat)=>(i:Int)
theorem aec(c:Nat)(a:List Nat):tM (iM c a):=by
 unfold tM iM;rw[List.pairwise_map];exact(D7 c a 0).imp λh=>by lia
theorem aed(c:Nat)(a:List Nat)(n:Nat):dQ (iM c a) ((n:Int) - 1)=(a.take n).count c:=by
 have e:a=a.take n++a.drop n:=(zaL _ _).symm;have e1:iM c a=iM c (a.take n)++((pos c (a.drop n) (a.take n).length).map fun(i:Nat)=>(i:Int)):=by
  unfold iM
  conv=>lhs;rw[e]
  rw[D6,zas,zaJ]
 rw[e1,D4,Ol,Om]
 ·unfold iM;rw[zah,vN];simp
 ·intro x hx;obtain⟨i,hi,rfl⟩:=zaF.mp hx;have h:=qR _ _ _ _ hi;rw[zaq,zao] at h;lia
 ·intro x hx;obtain⟨i,hi,rfl⟩:=zaF.mp hx;have h:=qR _ _ _ _ hi;rw[zaq] at h;lia
theorem Oq(c:Nat):∀(l:List Nat) (k i:Nat) (done rest:List Nat),pos c l k=done++i::rest->pos c (l.drop<|i+1 - k) (i+1)=rest
 |[],k,i,done,rest,h=>by
  simp[pos] at h
 |d::r,k,i,done,rest,h=>by
  have hi:=qR c (d::r) k i (by rw[h];simp)
  simp only[pos] at h
  have go:∀dn,pos c r (k+1)=dn++i::rest->pos c ((d::r).drop<|i+1 - k) (i+1)=rest:=λdn hd=>by
   rw[show i+1 - k=(i+1 - (k+1))+1 by lia]
   exact (Oq c r (k+1) i dn rest hd)
  split at h
  ·cases done with
   |nil=>
    simp at h
    obtain⟨rfl,h⟩:=h;rw[show k+1 - k=1 by lia]
    exact h
   |cons e dn=>
    simp at h
    exact go dn h.2
  ·exact go done h
theorem Ot(c:Nat):∀(l:List Nat) (k j:Nat),pos c l (k+j)=(pos c l j).map (k+ ·)
 |[],k,j=>rfl
 |d::r,k,j=>by
  have ih:=Ot c r k (j+1);rw[<-Nat.add_assoc] at ih
  simp only[pos]
  split
  ·rw[ih];rfl
  ·exact ih
theorem aee(c:Nat)(a b:List Nat):iM c (a++b)=iM c a++((pos c b 0).map fun(i:Nat)=>((a.length:Nat):Int)+(i:Int)):=by
 unfold iM;rw[D6,zas,zaJ]
 congr 1
 have:=Ot c b a.length 0;rw[Nat.add_zero] at this;rw[this,List.map_map]
 apply List.map_congr_left
 intro i _;lia
theorem zE(x y:Str)(hy:y.length=1)(hi lim:Nat):∀(n lo:Nat) (acc:Array Nat) (free:Nat),free<=lo->
  ((forIn (List.range' lo n) (acc,free)<|occBody x y hi lim).run.fst.toList=acc.toList++((List.range' lo n).filter λi=>decide (i+1<=hi) && Builtin.Str.subAt x y i).take (lim - acc.size))
 | 0,lo,acc,free,hf=>by simp
 |n+1,lo,acc,free,hf=>by
  rw[List.range'_succ,List.forIn_cons];unfold occBody;rw[hy];by_cases hp:lo+1<=hi/\Builtin.Str.subAt x y lo=true
  ·have e:(decide (lo+1<=hi) && Builtin.Str.subAt x y lo)=true:=by lia
   by_cases hs:acc.size<lim
   ·rw[if_pos ⟨⟨⟨hs,hf⟩,hp.1⟩,hp.2⟩];have ih:=zE x y hy hi lim n (lo+1) (acc.push lo) (lo+1) (zqR _);unfold occBody at ih;rw[hy] at ih;refine Eq.trans ih ?_;rw[List.filter_cons_of_pos (by lia)]
    have e2:lim - acc.size=(lim - (acc.push lo).size)+1:=by rw[Array.size_push];lia
    rw[e2]
    simp
   ·rw[if_neg<|λz=>hs z.1.1.1];have ih:=zE x y hy hi lim n (lo+1) acc free (by lia)
    unfold occBody at ih;rw[hy] at ih;refine Eq.trans ih ?_;have e2:lim - acc.size=0:=by lia
    rw[e2];simp
  ·rw[if_neg<|λz=>hp ⟨z.1.2,z.2⟩];have e:¬(decide (lo+1<=hi) && Builtin.Str.subAt x y lo)=true:=by
    intro z
    simp at z
    exact hp z
   have ih:=zE x y hy hi lim n (lo+1) acc free (by lia)
   unfold occBody at ih;rw[hy] at ih;refine Eq.trans ih ?_;rw[zbQ (by lia)]
theorem aef(x:Str)(c i:Nat):Builtin.Str.subAt x ⟨#[c]⟩ i=decide (x.cps[i]?=some c):=by
 unfold Builtin.Str.subAt;have e:(⟨#[c]⟩:Str).length=1:=rfl;rw[e]
 by_cases h:i<x.cps.size
 ·have e2:x.cps.extract i (i+1)= #[x.cps[i]]:=by
   apply Array.ext
   ·simp;lia
   ·intro j h1 h2
    simp at h1 h2⊢
    have:j=0:=by lia
    subst this;rfl
  rw[e2,Array.getElem?_eq_getElem h];by_cases q:x.cps[i]=c
  ·subst q;simp
  ·have:¬(#[x.cps[i]]= #[c]):=λz=>q (by lia)
   simp[q]
 ·have e2:x.cps.extract i (i+1)= #[]:=by
   simp;lia
  rw[e2,Array.getElem?_eq_none (by lia)]
  simp
theorem Ou(c:Nat):∀(l:List Nat) (k:Nat) (p:Nat->Bool),(∀i,i<l.length->p (k+i)=decide (l[i]?=some c))->(List.range' k l.length).filter p=pos c l k
 |[],k,p,h=>rfl
 |d::r,k,p,h=>by
  rw[zau,List.range'_succ];have h0:=by
   have:=h 0 (Nat.zero_lt_succ _)
   simpa using this
  have ih:=Ou c r (k+1) p λi hi=>by
   have:=h (i+1) (Nat.succ_lt_succ hi);rw[show k+1+i=k+(i+1) by lia,this];simp
  by_cases e:d=c
  ·rw[List.filter_cons_of_pos (by lia),ih,pos,if_pos e]
  ·rw[zbQ (by lia),ih,pos,if_neg e]
theorem Ov(x:Str)(c lo lim:Nat)(hl:lo<=x.length):Builtin.Str.occurrences x ⟨#[c]⟩ lo x.length lim=(pos c (x.cps.toList.drop lo) lo).take lim:=by
 have hx:x.cps.toList.length=x.length:=rfl
 rw[occ_eq,zE x _ rfl x.length lim _ lo #[] lo (zqR _)]
 have e:x.length+1 - lo=(x.cps.toList.drop lo).length+1:=by rw[zao];lia
 rw[e,List.range'_concat,List.filter_append];rw[Ou c (x.cps.toList.drop lo) lo]
 ·have:¬(lo+1* (x.cps.toList.drop lo).length+1<=x.length):=by lia
  rw[zbQ (by lia)]
  simp
 ·intro i hi;rw[aef];rw[zqT (show lo+i+1<=x.length by lia),Bool.true_and,zbR,Array.getElem?_toList]
end L2.B
namespace L2.B
open PySem PySem.Spec PyProof.Rows
theorem cB{K:Frag}{sd:Addr->List (Key×V)->Prop}{a:Addr}{i:Int}(h:H a=some (.lst xs))(e:dE xs i=some v)(q:Q v H):oo K sd (.ref a) (.int i) H Q:=
 .inl ⟨_,_,_,_,rfl,rfl,ar.of h,e,q⟩
inductive zF(vs:List V)(H:Hp)(Q:VK)(E:XK):Prop|i(a:Addr)(xs:List Int)(most:Int)(_:vs=[.ref a,.int most])(_:H a=some (.lst<|xs.map V.int))(_:tM xs)(_:Q (.int<|dQ xs most) H)
theorem aeg{K:Frag}(vs:List V)(H:Hp)(Q:VK)(E:XK)(h:zF vs H Q E):aE (aL K [] [] (E:=E)) Kf {nx:=λ_ H'=>Q .aB H',rt:=Q} (start Ke vs) H:=by
 obtain⟨a,xs,most,rfl,ha,hr,q⟩:=h;have hc:=D1 xs most;refine⟨_,rfl,.inl ⟨_,ar.of ha,?_⟩⟩;rw[zah];refine⟨λm σ H'=>∃(lo hi:Nat) (w:Option V),m=hi - lo/\σ=[some (.ref a),some (.int most),some (.int lo),some (.int hi),w]/\lo<=dQ xs most/\dQ xs most<=hi/\hi<=xs.length/\H'=H,
  ⟨_,0,xs.length,none,rfl,rfl,zqZ _,hc,zqR _,rfl⟩,?_⟩
 rintro m σ H' ⟨lo,hi,w,rfl,rfl,h1,h2,h3,rfl⟩;refine⟨_,rfl,_,rfl,trivial,_,rfl,?_⟩;refine cZ (λh=>?_)<|λh=>?_
 ·refine⟨_,λσ' Ow q=>q,?_⟩;refine⟨_,rfl,_,rfl,⟨by decide,by decide⟩,?_⟩
  have hk:(lo+hi) / 2<xs.length:=by lia
  generalize hkk:(lo+hi) / 2=k at hk;have hm:((lo:Int)+(hi:Int)) / 2=(k:Int):=by lia
  show aE _ _ _ [some<|V.ref a,some<|V.int most,some<|V.int lo,some<|V.int hi,some<|V.int<|((lo:Int)+(hi:Int)) / 2] _;rw[hm];have gk:=zaC hk;have ik:dE (xs.map V.int) (k:Int)=some (.int xs[k]):=jz (by rw[zaz,gk];rfl)
  refine⟨_,rfl,_,rfl,cB ha ik ⟨_,rfl,trivial,_,rfl,?_⟩⟩;refine cZ (λg=>?_)<|λg=>?_
  ·have hle:=of_decide_eq_true g;exact⟨_,rfl,hi - (k+1),by lia,k+1,hi,some<|V.int k,rfl,rfl,D5 hr gk hle,h2,h3,rfl⟩
  ·have hle:=λz=>g (zqT z);exact⟨_,rfl,k - lo,by lia,lo,k,some<|V.int k,rfl,rfl,h1,Oo hr gk hle,by lia,rfl⟩
 ·have e:dQ xs most=lo:=by lia
  rw[e] at q;exact⟨_,rfl,q⟩
end L2.B
namespace L2
open PySem PySem.Spec PyProof.Rows
theorem l8{p:α->Prop}:∀x∈ ([]:List α),p x:=nofun
theorem l_{p:α->Prop}{a:α}{l:List α}(h:p a)(t:∀x∈l,p x):∀x∈a::l,p x:=List.forall_mem_cons.2 ⟨h,t⟩
section
variable {P:Program}{w:World}{K:Frag}{mg:Str->Option Value}{base:Heap}{k:Nat}
theorem cK.or{f:Addr}{fd:FuncData}{ps:List Str}{a b:Sp}(A:cK P w K mg base CX k f fd ps a)(C:cK P w K mg base CX k f fd ps b):cK P w K mg base CX k f fd ps (B.jj a b):=
 ⟨λvs H Q E h=>h.elim (A.len vs H Q E)<|C.len vs H Q E,λA' outer s H args us vs Q E hr e0 hb hv hs=>hs.elim (A.run A' outer s H args us vs Q E hr e0 hb hv)<|C.run A' outer s H args us vs Q E hr e0 hb hv⟩
theorem cK.weak{fd:FuncData}{ps:List Str}{a b:Sp}(A:cK P w K mg base CX k f fd ps b)(h:∀vs H Q E,a vs H Q E->b vs H Q E):cK P w K mg base CX k f fd ps a:=
 ⟨λvs H Q E q=>A.len vs H Q E<|h _ _ _ _ q,λA' outer s H args us vs Q E hr e0 hb hv hs=>A.run A' outer s H args us vs Q E hr e0 hb hv<|h _ _ _ _ hs⟩
theorem eF.weak{a b:Sp}(T:eF P w K mg base k x b)(h:∀vs H Q E,a vs H Q E->b vs H Q E):eF P w K mg base k x a:=by
 obtain⟨f,fd,ps,F,r⟩:=T;exact⟨f,fd,ps,F.weak h,r⟩
open PySem.W in
theorem aeh{x:Str}(X:K.In base)(G:base.Ns mainGlobals mg)(e:nsIn K mainGlobals x=some (some<|.ref C))(q:excIn K C [.type "ValueError",.type "Exception",.type "BaseException",.type "object"] "ValueError.__new__"=true):yS mg base (x,C):=by
 refine⟨_,_,_,_,⟨mg_of X G e,?_⟩,PySem.F.excBase_ValueError⟩;unfold excIn at q
 split at q
 ·rename_i dd cd sl ho
  split at q
  ·rename_i C' bm k0 k1 k2 k3 n k5 hm hs
   simp only[zab,beq_iff_eq,zaK] at q
   obtain⟨⟨⟨⟨⟨rfl,rfl⟩,Ox⟩,ht⟩,aK⟩,yB⟩:=q;obtain⟨nm,bs,mro,ns,qn,hd,sn,sub,ab,col,del⟩:=cd
   dsimp only at hm Ox aK yB
   subst hm Ox;obtain⟨sl⟩:=sl;have gT:sl=_:=hs;subst gT;exact⟨bm,ns,nm,qn,bs,hd,sn,sub,ab,col,dd,k0,k1,k2,k3,k5,_,X _ _ ho,.of_isNs<|isNs_of_in X aK,nsMap_none_of_in X aK yB,tail_of_in X ht⟩
  ·cases q
 ·cases q
end
end L2
namespace L2.B
open PySem PySem.Spec PyProof.Rows
def ma(v:V)(lo hi:Int)(H:Hp):Prop:=tF v H\/∃i,v=.int i/\(i<lo\/hi<i)
theorem ma.same{lo hi:Int}(h:ma v lo hi H)(s:av H H'):ma v lo hi H':=by
 rcases h with h|h
 ·exact .inl (h.same s)
 ·exact .inr h
inductive gi(vs:List V)(H:Hp)(Q:VK)(E:XK):Prop|i(v:V)(lo hi:Int)(_:vs=[v,.int lo,.int hi])(_:((∃i,v=.int i/\lo<=i/\i<=hi/\Q (.bl true) H)\/(ma v lo hi H/\Q (.bl false) H)))
theorem aei{K:Frag}:cI (gi) (λE=>aL K [("is_whole",lY)] [] (E:=E)) Kb Ka:=by
 intro vs H Q E h;have chain:∀(i lo hi:Int) (b:Bool) (H:Hp),decide (lo<=i/\i<=hi)=b->Q (.bl b) H->ak (aL K [("is_whole",lY)] []) (.lL .LtE .LtE (.v 1) (.v 0)<|.v 2) [some<|.int i,some<|.int lo,some<|.int hi] H Q:=by
  intro i lo hi b H hb q;refine⟨_,rfl,_,rfl,trivial,_,rfl,cZ (λh1=>?_)<|λh1=>?_⟩
  ·refine⟨_,rfl,trivial,?_⟩;have e:decide (i<=hi)=b:=by lia
   show Q (.bl<|decide<|i<=hi) H;rw[e];exact q
  ·have e:b=false:=by lia
   rw[e] at q
   first
    |exact q
    | (rw[e2];exact q)
 obtain⟨v,lo,hi,rfl,⟨i,rfl,h1,h2,q⟩|⟨hn|⟨i,rfl,hb⟩,q⟩⟩:=h
 ·exact⟨_,rfl,_,rfl,.inl ⟨i,rfl,_,rfl,gA<|chain i lo hi true H (by lia) q⟩⟩
 ·exact⟨_,rfl,_,rfl,.inr ⟨hn,_,rfl,j9 q⟩⟩
 ·exact⟨_,rfl,_,rfl,.inl ⟨i,rfl,_,rfl,gA<|chain i lo hi false H (by lia) q⟩⟩
def gj(lt lb lf:Addr)(n:Int):List (Str×V):=[("texts",.ref lt),("begins",.ref lb),("feeds",.ref lf),("signs",.int n)]
theorem zG{n:Int}:(gj lt lb lf n).lookup ("texts":Str)=some (V.ref lt):=tw
theorem D8{n:Int}:(gj lt lb lf n).lookup ("begins":Str)=some (V.ref lb):=rfl
theorem Oy{n:Int}:(gj lt lb lf n).lookup ("feeds":Str)=some (V.ref lf):=rfl
theorem Oz{n:Int}:(gj lt lb lf n).lookup ("signs":Str)=some (V.int n):=rfl
theorem D9{n:Int}{m:Str}(h1:¬m="texts")(h2:¬m="begins")(h3:¬m="feeds")(h4:¬m="signs"):(gj lt lb lf n).lookup m=none:=
 (ji h1).trans ((ji h2).trans<|(ji h3).trans<|(ji h4).trans rfl)
theorem aej{n k:Int}:cE "signs" (.int k) (gj lt lb lf n)=gj lt lb lf k:=rfl
theorem aek{n:Int}:cE "signs" (.int n) (cE "feeds" (.ref lf)<|cE "begins" (.ref lb)<|cE "texts" (.ref lt) [])=gj lt lb lf n:=rfl
def aF(ts:List Str):List Nat:=(ts.map λt=>t.cps.toList).flatten
theorem iy(a b:List Str):aF (a++b)=aF a++aF b:=by simp[aF]
theorem oU(t:Str):aF [t]=t.cps.toList:=by simp[aF]
def d9:List Str->Nat->List Int
 |[],_=>[]
 |t::r,k=>(k:Int)::d9 r (k+t.length)
theorem OA:∀(a b:List Str) (k:Nat),d9 (a++b) k=d9 a k++d9 b (k+(aF a).length)
 |[],b,k=>rfl
 |t::a,b,k=>by
  have ih:=OA a b (k+t.length);have e:k+t.length+(aF a).length=k+(aF (t::a)).length:=by
   simp[aF,Str.length];lia
  rw[e] at ih
  simp only[zbs,d9,ih]
structure dC (C:Addr) (H:Hp) (p dx lt lb lf:Addr) (ts:List Str):Prop where
 ob:H p=some (.ins C dx<|gj lt lb lf (aF ts).length)
 tx:H lt=some (.lst<|ts.map V.str)
 bg:H lb=some (.lst<|(d9 ts 0).map V.int)
 fd:H lf=some (.lst<|(iM 10<|aF ts).map V.int)
 n1:lt≠lb
 n2:lt≠lf
 n3:lb≠lf
def gF(p lt lb lf:Addr)(H H':Hp):Prop:= ∀b o,H b=some o->b≠p->b≠lt->b≠lb->b≠lf->H' b=some o
theorem gF.trans{H1:Hp}(a:gF p lt lb lf H H1)(b:gF p lt lb lf H1 H2):gF p lt lb lf H H2:=λc o e n1 n2 n3 n4=>b c o (a c o e n1 n2 n3 n4) n1 n2 n3 n4
theorem dC.same{ts:List Str}(S:dC C H p dx lt lb lf ts)(s:av H H'):dC C H' p dx lt lb lf ts:=
 ⟨s _ _ S.ob,s _ _ S.tx,s _ _ S.bg,s _ _ S.fd,S.n1,S.n2,S.n3⟩
inductive D_(C:Addr)(vs:List V)(H:Hp)(Q:VK)(E:XK):Prop|i(p dx:Addr)(_:vs=[.ref p])(_:H p=some (.ins C dx []))(_:∀(lt lb lf:Addr) (H':Hp),dC C H' p dx lt lb lf []->H lt=none->H lb=none->H lf=none->(∀b o,H b=some o->b≠p->H' b=some o)->Q .aB H')
theorem ael{K:Frag}(T:sO K C)(vs:List V)(H:Hp)(Q:VK)(E:XK)(h:D_ C vs H Q E):aE (aL K [] [] (E:=E)) Kg {nx:=λ_ H'=>Q .aB H',rt:=Q} (start sN vs) H:=by
 obtain⟨p,dx,rfl,hp,k⟩:=h;refine⟨zqZ _,λlt f1=>?_⟩;have oV:p≠lt:=bf hp f1;refine⟨_,rfl,p,C,dx,[],rfl,(by rw[aI oV];exact hp),T.cl,T.vk,(by simp),?_⟩
 refine⟨zqZ _,λlb f2=>?_⟩;have tN:p≠lb:=λz=>by rw[<-z,aw] at f2;cases f2
 have jT:lt≠lb:=λz=>by rw[<-z,aI oV.symm,aw] at f2;cases f2
 refine⟨_,rfl,p,C,dx,_,rfl,(by rw[aI tN,aw]),T.cl,T.yU,(by show 1<1000;decide),?_⟩
 refine⟨zqZ _,λlf f3=>?_⟩;have vO:p≠lf:=λz=>by rw[<-z,aw] at f3;cases f3
 have Ea:lb≠lf:=λz=>by rw[<-z,aI tN.symm,aw] at f3;cases f3
 have Eb:lt≠lf:=λz=>by rw[<-z,aI oV.symm,aI jT,aI oV.symm,aw] at f3;cases f3
 refine⟨_,rfl,p,C,dx,_,rfl,(by rw[aI vO,aw]),T.cl,T.CM,(by show 2<1000;decide),?_⟩
 refine⟨_,rfl,p,C,dx,_,rfl,aw,T.cl,T.yV,(by show 3<1000;decide),?_⟩
 have fb:H lb=none:=by
  rw[aI tN.symm,aI jT.symm] at f2;exact f2
 have ff:H lf=none:=by
  rw[aI vO.symm,aI Ea.symm,aI vO.symm,aI Eb.symm] at f3;exact f3
 refine k lt lb lf _ ⟨?_,?_,?_,?_,jT,Eb,Ea⟩ f1 fb ff λb o e nb=>?_
 ·rw[aw];exact congrArg (λl=>some<|HO.ins C dx l) aek
 ·rw[aI oV.symm,aI oV.symm,aI Eb,aI oV.symm,aI jT,aI oV.symm,aw];rfl
 ·rw[aI tN.symm,aI tN.symm,aI Ea,aI tN.symm,aw];rfl
 ·rw[aI vO.symm,aI vO.symm,aw];rfl
 ·rw[aI nb,aI nb,aI<|bf e ff,aI nb,aI<|bf e fb,aI nb,aI<|bf e f1];exact e
theorem aem:(Str.ofString "\n")=⟨#[10]⟩:=by rfl
def kO(l:List Nat):Int:=match l with|i::_=>(i:Int)|[]=> -1
theorem OB(x:Str)(lo:Nat)(hl:lo<=x.length):(match Builtin.Str.occurrences x (Str.ofString "\n") lo x.length 1 with|i::_=>(i:Int)|[]=> -1)=kO (pos 10 (x.cps.toList.drop lo) lo):=by
 rw[aem,Ov x 10 lo 1 hl];cases pos 10 (x.cps.toList.drop lo) lo<;>rfl
inductive Ec(CT C:Addr)(vs:List V)(H:Hp)(Q:VK)(E:XK):Prop|i(p dx lt lb lf:Addr)(ts:List Str)(v:V)(_:vs=[.ref p,v])(_:dC C H p dx lt lb lf ts)(_:((lX v H/\E (.ref CT) none H)\/∃x,v=.str x/\good x/\ts.length<=100000/\(aF ts).length<=1000000/\
 ∀H',gF p lt lb lf H H'->dC C H' p dx lt lb lf (ts++[x])->Q (.int (aF ts).length) H'))
theorem Ed:∀(ts:List Str) (k:Nat),(d9 ts k).length=ts.length
 |[],_=>rfl
 |t::r,k=>by simp[d9,Ed r]
theorem OC(c:Nat)(a:List Nat)(k:Nat):(pos c a k).length<=a.length:=by
 rw[vN];exact List.count_le_length
theorem aen{K:Frag}{CT:Addr}(T:sO K C)(vs:List V)(H:Hp)(Q:VK)(E:XK)(h:Ec CT C vs H Q E):aE (aL K [("need_text",oS CT)] [] (E:=E)) Kh {nx:=λ_ H'=>Q .aB H',rt:=Q} (start CL vs) H:=by
 obtain⟨p,dx,lt,lb,lf,ts,v,rfl,S,⟨hb,q⟩|⟨x,rfl,hx,ht,hs,k⟩⟩:=h
 ·exact⟨_,rfl,_,rfl,.inr ⟨hb,q⟩⟩
 have OD:p≠lt:=xh S.ob S.tx (by intro z;cases z)
 have OE:p≠lb:=xh S.ob S.bg (by intro z;cases z)
 have OF:p≠lf:=xh S.ob S.fd (by intro z;cases z)
 refine⟨_,rfl,_,rfl,.inl ⟨x,rfl,hx,?_⟩⟩;refine⟨_,rfl,p,C,dx,_,_,rfl,S.ob,T.cl,T.yV,Oz,?_⟩;refine⟨_,rfl,p,C,dx,_,_,rfl,S.ob,T.cl,T.vk,zG,.inl ⟨rfl,_,ar.of S.tx⟩,_,rfl,_,S.tx,cX (by simp;lia),?_⟩
 have o1:upd H lt (.lst<|ts.map V.str++[V.str x]) p=some (.ins C dx<|gj lt lb lf (aF ts).length):=by rw[aI OD];exact S.ob
 have o2:upd H lt (.lst<|ts.map V.str++[V.str x]) lb=some (.lst<|(d9 ts 0).map V.int):=by rw[aI S.n1.symm];exact S.bg
 refine⟨_,rfl,p,C,dx,_,_,rfl,o1,T.cl,T.yU,D8,.inl ⟨rfl,_,ar.of o2⟩,_,rfl,_,o2,cX (by rw[zah,Ed];lia),?_⟩
 refine⟨_,rfl,_,rfl,bY hx.1,_,rfl,p,C,dx,_,rfl,(by rw[aI OE];exact o1),T.cl,T.yV,(by show 4<1000;decide),?_⟩
 generalize j_:upd (upd (upd H lt<|.lst<|ts.map V.str++[V.str x]) lb<|.lst<|(d9 ts 0).map V.int++[V.int ((aF ts).length:Int)]) p (.ins C dx<|cE "signs" (.int<|((aF ts).length:Int)+(x.length:Int))<|gj lt lb lf ((aF ts).length:Int))=H3;have b3:gF p lt lb lf H H3:=λb o e n1 n2 n3 n4=>by
  rw[<-j_,aI n1,aI n3,aI n2];exact e
 have ob3:H3 p=some (.ins C dx<|gj lt lb lf<|((aF ts).length:Int)+(x.length:Int)):=by
  rw[<-j_,aw];exact congrArg (λl=>some<|HO.ins C dx l) aej
 have tx3:H3 lt=some (.lst<|ts.map V.str++[V.str x]):=by rw[<-j_,aI OD.symm,aI S.n1,aw]
 have bg3:H3 lb=some (.lst<|(d9 ts 0).map V.int++[V.int ((aF ts).length:Int)]):=by rw[<-j_,aI OE.symm,aw]
 have fd3:H3 lf=some (.lst<|(iM 10<|aF ts).map V.int):=by rw[<-j_,aI OF.symm,aI S.n3.symm,aI S.n2.symm];exact S.fd
 have oT:=len_list x;have l0:=OC 10 (aF ts) 0;have l1:=OC 10 x.cps.toList 0;refine⟨_,rfl,rfl,?_⟩;show aE _ _ _ ((start CL [V.ref p,V.str x]).set 2 _|>.set 3 (some<|V.int (match Builtin.Str.occurrences x (Str.ofString "\n") 0 x.length 1 with|i::_=>(i:Int)|[]=> -1))) H3
 rw[OB x 0<|zqZ _,zaW];refine⟨λm σ H'=>∃(done rest:List Nat),m=rest.length/\pos 10 x.cps.toList 0=done++rest/\σ=[some (.ref p),some (.str x),some (.int ((aF ts).length:Int)),some (.int (kO rest))]/\aR lf H3 H'/\H' lf=some (.lst ((iM 10 (aF ts)++done.map fun(i:Nat)=>((aF ts).length:Int)+(i:Int)).map V.int)),
  ⟨_,[],pos 10 x.cps.toList 0,rfl,rfl,rfl,λb o e _=>e,by rw[zaY,zai];exact fd3⟩,?_⟩
 rintro m σ H' ⟨done,rest,rfl,hd,rfl,b4,f4⟩;have OG:=b4 _ _ ob3 OF;refine⟨_,rfl,trivial,_,rfl,?_⟩;cases rest with
 |nil=>
  refine iF ⟨_,rfl,?_⟩;rw[zai] at hd;refine k H' (λb o e n1 n2 n3 n4=>b4 b o (b3 b o e n1 n2 n3 n4) n4) ⟨?_,?_,?_,?_,S.n1,S.n2,S.n3⟩
  ·rw[iy,oU,zqA,<-oT,zbr];exact OG
  ·rw[zas];exact b4 _ _ tx3 S.n2
  ·rw[OA,zas,zaJ];exact b4 _ _ bg3 S.n3
  ·rw[iy,oU,aee,hd];exact f4
 |cons i rest=>
  have hi:=qR 10 x.cps.toList 0 i (by rw[hd];simp)
  have hl:done.length+(rest.length+1)<=x.cps.toList.length:=by
   have:=congrArg List.length hd
   simp at this
   lia
  have qA:=zqT (by show(0:Int)<= (i:Int);lia)
  refine iT ?_ qA;refine⟨_,λσ' Ow q=>q,?_⟩;refine⟨_,rfl,p,C,dx,_,_,rfl,OG,T.cl,T.CM,Oy,.inl ⟨rfl,_,ar.of f4⟩,_,rfl,_,rfl,_,f4,(by have e:sizeLine=16777216:=rfl;have:=hx.1;simp[iM];lia),?_⟩
  refine⟨_,rfl,rfl,_,rfl,?_⟩;have e1:fromIndex x.length (kO (i::rest)+1)=i+1:=by
   show fromIndex x.length ((i:Int)+1)=i+1;unfold fromIndex;rw[if_neg (by lia)];lia
  have nx:=Oq 10 x.cps.toList 0 i done rest hd;rw[Nat.sub_zero] at nx;have e2:=OB x (i+1) (by lia)
  rw[nx] at e2;rw[<-e1] at e2;refine⟨rest.length,zbh _,done++[i],rest,rfl,by rw[hd];simp,?_,b4.trans aR.upd,?_⟩
  ·show[_,_,_,some<|V.int (match Builtin.Str.occurrences x (Str.ofString "\n") (fromIndex x.length<|kO (i::rest)+1) x.length 1 with|k::_=>(k:Int)|[]=> -1)]=_
   rw[e2]
  ·rw[aw]
   simp[kO]
end L2.B
namespace L2
open PySem PySem.Spec PyProof.Rows
section
variable {Γ:bo}{D:Ends}{σ:St}{H:Hp}{r:List RS}{Q:VK}{QA:List V->Hp->Prop}{QT:Bool->Hp->Prop}
theorem d_{K:Frag}{b:Bool}{QB:Bool->Prop}(h:QB b):jB K (.bl b) H QB:=h
theorem cc(h:bD Γ a σ H λb H1=>QT (!b) H1):bD Γ (.not a) σ H QT:=h
theorem fW(sp:Sp)(hs:Γ.fs j=sp)(h:aW Γ as σ H λvs H1=>sp vs H1 (λx H2=>jB Γ.K x H2 λb=>QT b H2) Γ.E):bD Γ (.call j as) σ H QT:=by
 subst hs;show aW Γ as σ H λvs H1=>Γ.fs j (vs++[]) H1 (λx H2=>jB Γ.K x H2 λb=>QT b H2) Γ.E;have e:(fun(vs:List V) (H1:Hp)=>Γ.fs j (vs++[]) H1 (λx H2=>jB Γ.K x H2 λb=>QT b H2) Γ.E)=λvs H1=>Γ.fs j vs H1 (λx H2=>jB Γ.K x H2 λb=>QT b H2) Γ.E:=by
  funext vs H1;rw[zai]
 rw[e];exact h
theorem gG(h:bD Γ a σ H λc H1=>if c=true then QT true H1 else bD Γ b σ H1 QT):bD Γ (.or [a,b]) σ H QT:=h
theorem Ee(h:bD Γ a σ H λc H1=>if c=true then bD Γ b σ H1 QT else QT false H1):bD Γ (.and [a,b]) σ H QT:=h
end
end L2
namespace L2.B
open PySem PySem.Spec PyProof.Rows
section
variable {Γ:bo}{σ:St}{H:Hp}{Q:VK}{QT:Bool->Hp->Prop}{K:Frag}
theorem qS{r:List RE}(h:bD Γ a σ H λc H1=>if c=true then QT true H1 else bD Γ (.or (b::r)) σ H1 QT):bD Γ (.or (a::b::r)) σ H QT:=h
theorem Ef(h:bD Γ a σ H QT):bD Γ (.or [a]) σ H QT:=h
theorem jk{a:RE}(h:ak Γ a σ H λx H1=>bT T x H1 λb=>QT b H1):bD Γ (.dr T a) σ H QT:=by
 have e:∀(q:VK),(fun(x:V) (H1:Hp)=>bT T x H1 λb=>q (.bl b) H1)=λx H1=>om T [x,.ty T.nm] H1 q:=by
  intro q;simp[om]
 show ak Γ a σ H λx H1=>om T [x,.ty T.nm] H1 λv H2=>jB Γ.K v H2 λb=>QT b H2;rw[<-e];exact h
theorem aH{a:Addr}{i:Int}(h:H a=some (.tup xs))(e:dE xs i=some v)(q:Q v H):oo K sd (.ref a) (.int i) H Q:=
 .inr (.inl ⟨_,_,_,_,rfl,rfl,aM.of h,e,q⟩)
theorem iN{y:Int}(q:Q (.bl<|decide<|x=y) H):bX K .Eq (.int x) (.int y) H Q:=by
 show Q (.bl<|false ^^ decide (V.int x=V.int y)) H;rw[zaI,show decide (V.int x=V.int y)=decide (x=y) from decide_eq_decide.mpr ⟨λz=>by lia,λz=>by lia⟩];exact q
theorem nI{y:Int}(q:Q (.bl<|!decide (x=y)) H):bX K .NotEq (.int x) (.int y) H Q:=by
 show Q (.bl<|true ^^ decide (V.int x=V.int y)) H;rw[zaN,show decide (V.int x=V.int y)=decide (x=y) from decide_eq_decide.mpr ⟨λz=>by lia,λz=>by lia⟩];exact q
theorem eK{j:Int}(h:Q (.int<|i+j) H):lJ K .Add (.int i) (.int j) H Q:=h
theorem aes(h:∀p,H p=none->Q (.ref p) (upd H p<|.dK [])):ak Γ .yt σ H Q:=h
end
theorem aet{K:Frag}{x y:Int}(q:Q (.bl<|decide<|x<y) H):bX K .Lt (.int x) (.int y) H Q:=⟨trivial,q⟩
theorem aeu(ps:List Str)(z:Str):(cat<|ps++[z]).cps.toList=(cat ps).cps.toList++z.cps.toList:=by rw[Nh,Ni,app_list]
def pre(ts:List Str)(k:Nat):Nat:=(aF<|ts.take k).length
theorem OH(t:Str)(r:List Str):aF (t::r)=t.cps.toList++aF r:=rfl
theorem OI{k:Nat}(h:ts.length<=k):pre ts k=(aF ts).length:=by unfold pre;rw[zav h]
theorem aev{k:Nat}{t:Str}(h:ts[k]?=some t):aF ts=aF (ts.take k)++(t.cps.toList++aF (ts.drop<|k+1)):=by
 obtain⟨h1,h2⟩:=zak.mp h
 conv=>lhs;rw[<-zaL k ts,zbo h1,h2]
 rw[iy,OH]
theorem OJ{k:Nat}{t:Str}(h:ts[k]?=some t):pre ts (k+1)=pre ts k+t.length:=by
 unfold pre;rw[zbp,h,iy,zqA];show _+(aF [t]).length=_;rw[oU,len_list]
theorem aew(ts:List Str)(k:Nat):pre ts k<= (aF ts).length:=by
 have e:aF ts=aF (ts.take k)++aF (ts.drop k):=by rw[<-iy,zaL]
 rw[e,zqA];unfold pre;lia
theorem aex(ts:List Str):pre ts 0=0:=rfl
theorem vP:∀(ts:List Str) (k j:Nat),j<ts.length->(d9 ts k)[j]?=some (((k+pre ts j:Nat):Int))
 |[],k,j,h=>by cases h
 |t::r,k,0,h=>rfl
 |t::r,k,j+1,h=>by
  show(d9 r<|k+t.length)[j]?=_;rw[(vP r (k+t.length) j (Nat.lt_of_succ_lt_succ h))];have:pre (t::r) (j+1)=t.length+pre r j:=by
   unfold pre;rw[zbN,OH,zqA,len_list]
  congr 1;lia
theorem OK:∀(ts:List Str) (k:Nat),∀x∈d9 ts k,(k:Int)<=x
 |[],k,x,h=>by cases h
 |t::r,k,x,h=>by
  rcases zaa.mp h with rfl|h
  ·exact zaE _
  ·have:=OK r (k+t.length) x h;lia
theorem Eg:∀(ts:List Str) (k:Nat),tM (d9 ts k)
 |[],k=>List.Pairwise.nil
 |t::r,k=>List.Pairwise.cons (λx hx=>by have:=OK r (k+t.length) x hx;lia) (Eg r<|k+t.length)
theorem aey{b:Nat}(h:b< (aF ts).length):∃k,dQ (d9 ts 0) (b:Int)=k+1/\k<ts.length/\pre ts k<=b/\b<=pre ts (k+1):=by
 have hl:=Ed ts 0;have hc:=D1 (d9 ts 0) (b:Int);have hr:=Eg ts 0;have sq:0<ts.length:=by
  cases ts with
  |nil=>simp[aF] at h
  |cons t r=>exact Nat.zero_lt_succ _
 have h0:=D5 (most:=(b:Int)) hr (vP ts 0 0 sq) (by rw[aex];lia)
 obtain⟨k,hk⟩:∃k,dQ (d9 ts 0) (b:Int)=k+1:=⟨dQ (d9 ts 0) (b:Int) - 1,by lia⟩
 have OL:k<ts.length:=by lia
 refine⟨k,hk,OL,?_,?_⟩
 ·by_cases q:pre ts k<=b
  ·exact q
  ·have:=Oo (most:=(b:Int)) hr (vP ts 0 k OL) (by lia)
   lia
 ·by_cases q:k+1<ts.length
  ·by_cases z:b<=pre ts (k+1)
   ·exact z
   ·have:=D5 (most:=(b:Int)) hr (vP ts 0 (k+1) q) (by lia)
    lia
  ·rw[OI (by lia)];lia
theorem aez{k c m:Nat}{t:Str}(h:ts[k]?=some t)(h1:pre ts k<=c)(h2:c<=pre ts (k+1)):(t.cps.toList.drop<|c - pre ts k).take m=((aF ts).drop c).take (min m<|pre ts (k+1) - c):=by
 rw[aev h];have hp:=OJ h;have lt:=len_list t;have e:(aF (ts.take k)++(t.cps.toList++aF (ts.drop<|k+1))).drop c=t.cps.toList.drop (c - pre ts k)++aF (ts.drop<|k+1):=by
  rw[List.drop_append,List.drop_of_length_le (show(aF<|ts.take k).length<=c from h1)]
  show(t.cps.toList++_).drop (c - pre ts k)=_;rw[List.drop_append_of_le_length (by lia)]
 rw[e];have hl:(t.cps.toList.drop<|c - pre ts k).length=pre ts (k+1) - c:=by rw[zao];lia
 rw[List.take_append_of_le_length (by lia),<-hl,<-List.take_take,zbn]
theorem aeA{l:List Nat}(b c m:Nat)(h:b<=c):(l.drop b).take (c - b)++(l.drop c).take m=(l.drop b).take (c+m - b):=by
 rw[show c+m - b=(c - b)+m by lia,List.take_add,List.drop_drop,show b+(c - b)=c by lia]
def aeB(vb vn:V)(n:Nat)(H:Hp):Prop:=ma vb 0 (n:Int) H\/∃b:Int,vb=.int b/\0<=b/\b<= (n:Int)/\ma vn 0 ((n:Int) - b) H
inductive Eh(CP C:Addr)(vs:List V)(H:Hp)(Q:VK)(E:XK):Prop|i(p dx lt lb lf:Addr)(ts:List Str)(vb vn:V)(_:vs=[.ref p,vb,vn])(_:dC C H p dx lt lb lf ts)(_:((aeB vb vn (aF ts).length H/\E (.ref CP) none H)\/
 ∃b n:Nat,vb=.int (b:Nat)/\vn=.int (n:Nat)/\b+n<= (aF ts).length/\ts.length<=100000/\(aF ts).length<=1000000/\(∀t∈ts,t.length<=1000000)/\∀H',av H H'->Q (.str ⟨(((aF ts).drop b).take n).toArray⟩) H'))
abbrev tO:List (Str×Sp):=[("is_between",gi),("many_upto",zF)]
theorem aeC{K:Frag}(T:sO K C):cI (Eh CP C) (λE=>aL K tO [] (et:=[("NoPlace",CP)]) (E:=E)) Kj Ki:=by
 intro vs H Q E h;obtain⟨p,dx,lt,lb,lf,ts,vb,vn,rfl,S,h⟩:=h;have fs:∀{H1:Hp}{σ:St}{Q':VK},av H H1->σ[0]?=some (some<|.ref p)->Q' (.int (aF ts).length) H1->ak (aL K tO [] (et:=[("NoPlace",CP)]) (E:=E)) (.fld (.v 0) "signs") σ H1 Q':=λs e q=>⟨_,e,p,C,dx,_,_,rfl,s _ _ S.ob,T.cl,T.yV,Oz,q⟩;have fb:∀{H1:Hp}{σ:St}{Q':VK},av H H1->σ[0]?=some (some<|.ref p)->Q' (.ref lb) H1->ak (aL K tO [] (et:=[("NoPlace",CP)]) (E:=E)) (.fld (.v 0) "begins") σ H1 Q':=λs e q=>⟨_,e,p,C,dx,_,_,rfl,s _ _ S.ob,T.cl,T.yU,D8,q⟩;have rz:=av.refl H;rcases h with⟨hb|⟨b,rfl,h1,h2,hb⟩,q⟩|⟨b,n,rfl,rfl,hbn,oW,hsl,s_,q⟩
 ·refine YS (gG<|cc<|fW gi rfl<|aj<|ag rfl<|aj<|au<|aj<|fs rz rfl<|aA ⟨_,_,_,rfl,.inr ⟨hb,d_<|iT (iT ?_ rfl) rfl⟩⟩);exact⟨dR,q⟩
 ·refine YS (gG<|cc<|fW gi rfl<|aj<|ag rfl<|aj<|au<|aj<|fs rz rfl<|aA ⟨_,_,_,rfl,.inl ⟨b,rfl,h1,h2,d_<|iF ?_ rfl⟩⟩);refine cc<|fW gi rfl<|aj<|ag rfl<|aj<|au<|aj<|bp<|fs rz rfl<|ag rfl ⟨trivial,aA ⟨_,_,_,rfl,.inr ⟨hb,d_<|iT ?_ rfl⟩⟩⟩;exact⟨dR,q⟩
 ·refine YS (gG<|cc<|fW gi rfl<|aj<|ag rfl<|aj<|au<|aj<|fs rz rfl<|aA ⟨_,_,_,rfl,.inl ⟨_,rfl,by lia,by lia,d_<|iF ?_ rfl⟩⟩)
  refine cc<|fW gi rfl<|aj<|ag rfl<|aj<|au<|aj<|bp<|fs rz rfl<|ag rfl ⟨trivial,aA ⟨_,_,_,rfl,.inl ⟨_,rfl,by lia,by lia,d_<|iF ?_ rfl⟩⟩⟩
  refine CA<|cA<|aA ⟨zqZ _,λd hd=>?_⟩;have s1:=sameNew (o:=.lst []) hd;refine CA<|bp<|aP zF rfl<|aj<|fb s1 rfl<|aj<|ag rfl<|aA ⟨lb,d9 ts 0,_,rfl,s1 _ _ S.bg,Eg ts 0,au ⟨trivial,?_⟩⟩;refine CA<|bp<|ag rfl<|ag rfl<|eK ?_;have kO:upd H d (.lst []) d=some (.lst<|([]:List Str).map V.str):=aw;refine ad0 (λm σ H2=>qX5 λ(c:Nat) (k:Int) (ps:List Str) (u6 u7:Option V)=>qA9 (m=ts.length+1 - k.toNat) (σ=[some (.ref p),some (.int (c:Nat)),some (.int (n:Nat)),some (.ref d),some (.int k),some (.int ((b:Int)+(n:Int))),u6,u7]) (aR d H H2) (H2 d=some (.lst (ps.map V.str))) (b<=c) (c<=b+n) ((cat ps).cps.toList=((aF ts).drop b).take (c - b)) (ps.length<=k.toNat+1) (c<b+n->∃j:Nat,k=(j:Int)/\j<ts.length/\pre ts j<=c/\c<=pre ts (j+1)))
   ⟨_,b,((dQ (d9 ts 0) (b:Int):Nat):Int) - 1,[],none,none,rfl,rfl,λx o e nx=>by rw[aI nx];exact e,kO,zqR _,by lia,by rw[acC,Nat.sub_self,List.take_zero];rfl,zqZ _,λaU=>?_⟩ ?_
  ·obtain⟨j,e,h1,h2,h3⟩:=aey (ts:=ts) (b:=b) (by lia)
   exact⟨j,by lia,h1,h2,h3⟩
  rintro m σ H2 ⟨c,k,ps,u6,u7,rfl,rfl,b2,hd2,hbc,hcn,bV,j7,cQ⟩;refine b_<|ag rfl<|ag rfl<|aet ⟨_,rfl,?_⟩;refine cZ (λaU=>?_)<|λaU=>?_
  ·have Ei:c<b+n:=by have:=of_decide_eq_true aU;lia
   obtain⟨j,rfl,nB,Dz,hj2⟩:=cQ Ei;clear cQ;have nd:∀{a:Addr}{o:HO},H a=some o->H2 a=some o:=λ{a o} e=>b2 a o e (λz=>by rw[z,hd] at e;cases e)
   have tj:ts[j]?=some ts[j]:=zaC nB;have fb2:∀{σ:St}{Q':VK},σ[0]?=some (some<|.ref p)->Q' (.ref lb) H2->ak (aL K tO [] (et:=[("NoPlace",CP)]) (E:=E)) (.fld (.v 0) "begins") σ H2 Q':=λe q=>⟨_,e,p,C,dx,_,_,rfl,nd S.ob,T.cl,T.yU,D8,q⟩;have ab:dE ((d9 ts 0).map V.int) (j:Int)=some (.int (pre ts j:Nat)):=jz (by rw[zaz,vP ts 0 j nB,zaJ];rfl)
   have at':dE (ts.map V.str) (j:Int)=some (.str ts[j]):=jz (by rw[zaz,tj];rfl)
   have tle:=s_ _ (zaQ nB);refine⟨_,λσ' Ow q=>q,?_⟩;refine CA<|bp<|ag rfl<|aQ<|fb2 rfl<|ag rfl<|cB (nd S.bg) ab ⟨trivial,?_⟩;refine CA ?_;refine⟨_,rfl,p,C,dx,_,_,rfl,nd S.ob,T.cl,T.vk,zG,_,rfl,cB (nd S.tx) at' ?_⟩;refine⟨_,rfl,_,rfl,_,rfl,_,rfl,_,rfl,trivial,_,rfl,bY tle,?_⟩;have ec:mK ts[j] (some<|(c:Int) - (pre ts j:Nat)) (some<|(c:Int) - (pre ts j:Nat)+((b:Int)+(n:Int)) - (c:Int))=⟨((aF ts).drop c).take (min (b+n - c)<|pre ts (j+1) - c)|>.toArray⟩:=by
    rw[show(c:Int) - (pre ts j:Nat)=((c - pre ts j:Nat):Int) by lia,show((c - pre ts j:Nat):Int)+((b:Int)+(n:Int)) - (c:Int)=((c - pre ts j:Nat):Int)+((b+n - c:Nat):Int) by lia,Oe (c - pre ts j) ((b+n - c:Nat):Int) (b+n - c) rfl,aez tj Dz hj2]
   rw[ec];have hpz:=aew ts (j+1);have lz:(⟨(((aF ts).drop c).take<|min (b+n - c)<|pre ts (j+1) - c).toArray⟩:Str).length=min (b+n - c) (pre ts (j+1) - c):=by
    rw[len_list];show(((aF ts).drop c).take _).length=_;rw[zaq,zao];lia
   generalize hz:(⟨(((aF ts).drop c).take<|min (b+n - c)<|pre ts (j+1) - c).toArray⟩:Str)=z at lz⊢;refine dA<|fu<|ag rfl ⟨.inl ⟨rfl,_,ar.of hd2⟩,ag rfl ⟨_,hd2,cX (by rw[zah];lia),?_⟩⟩
   refine CA<|bp<|ag rfl<|lZ<|aj<|ag rfl<|aA ⟨bY (by lia),eK ?_⟩
   refine CA<|bp<|ag rfl<|au<|eK ?_;refine⟨_,?_,c+z.length,((j:Int)+1),ps++[z],some<|.int<|(c:Int) - (pre ts j:Nat),some<|.str z,rfl,?_,b2.trans aR.upd,?_,by lia,by lia,?_,?_,?_⟩
   ·lia
   ·show[_,some<|V.int<|(c:Int)+(z.length:Int),_,_,_,_,_,_]=_;rw[zbr]
   ·rw[aw,zas];rfl
   ·rw[aeu,bV,<-hz];show _++((aF ts).drop c).take _=_;rw[aeA b c _ hbc,hz,lz]
   ·rw[zqA];show ps.length+1<=_;lia
   ·intro r6;have e3:c+z.length=pre ts (j+1):=by lia
    have OM:j+1<ts.length:=by
     by_cases q:j+1<ts.length
     ·exact q
     ·have:=OI (ts:=ts) (k:=j+1) (by lia)
      lia
    have zH:=OJ (zaC OM);exact⟨j+1,by lia,OM,by lia,by lia⟩
  ·have Ei:c=b+n:=by
    have:¬((c:Int) < (b:Int)+(n:Int)):=λz=>aU (zqT z);lia
   subst Ei;rw[show b+n - b=n by lia] at bV
   have lc:(cat ps).length<=1000000:=by rw[len_list,bV,zaq,zao];lia
   refine bP<|fu<|au ⟨rfl,ag rfl ⟨ps,ar.of hd2,joinOk_of (by rw[<-zh];exact lc),?_⟩⟩
   have es:Txt.join "" ps=⟨(((aF ts).drop b).take n).toArray⟩:=iJ bV;rw[es];exact q H2 λa o e=>b2 a o e (λz=>by rw[z,hd] at e;cases e)
end L2.B
namespace L2.N
open PySem PySem.Spec PyProof.Rows L2.B
abbrev tp(p:P3):HO:=.tup [.int p.1,.int p.2.1,.int p.2.2]
def Pc(H:Hp)(v:V)(p:P3):Prop:= ∃q,v=.ref q/\H q=some (tp p)
abbrev kP(H:Hp):List V->List P3->Prop:=Paired (Pc H)
theorem Pc.mono(t:eI H H')(h:Pc H v p):Pc H' v p:=by
 obtain⟨a,e,h⟩:=h;exact⟨a,e,t _ _ h⟩
theorem kP.mono(t:eI H H'):∀{vs:List V}{ps:List P3},kP H vs ps->kP H' vs ps
 |_,_,.nil=>.nil
 |_,_,.cons h r=>.cons (h.mono t) (kP.mono t r)
theorem kP.app:∀{vs ws:List V}{ps qs:List P3},kP H vs ps->kP H ws qs->kP H (vs++ws) (ps++qs):=Paired.app
def Nd(H:Hp):Tr->V->Prop
 |.nil,v=>v=.aB
 |.node l a b c r,v=>∃p q vl vr,v=.ref p/\H p=some (.tup [vl,.ref q,vr,.int (Tr.node l a b c r).h,.int (Tr.node l a b c r).sz,.int (Tr.node l a b c r).en])/\H q=some (tp (a,b,c))/\Nd H l vl/\Nd H r vr
theorem Nd.mono(t:eI H H'):∀{x:Tr}{v:V},Nd H x v->Nd H' x v:=by
 intro x;induction x with
 |nil=>exact id
 |node l a b c r il ir=>rintro _ ⟨p,q,vl,vr,e,h1,h2,h3,h4⟩;exact⟨p,q,vl,vr,e,t _ _ h1,t _ _ h2,il h3,ir h4⟩
inductive vQ(vs:List V)(H:Hp)(Q:VK)(E:XK):Prop|i(v t:_)(_:vs=[v])(_:Nd H t v)(_:Q (.int t.h) H)
inductive vR(vs:List V)(H:Hp)(Q:VK)(E:XK):Prop|i(v t:_)(_:vs=[v])(_:Nd H t v)(_:Q (.int t.sz) H)
inductive ON(vs:List V)(H:Hp)(Q:VK)(E:XK):Prop|i(v t:_)(_:vs=[v])(_:Nd H t v)(_:Q (.int t.en) H)
theorem aeH{K:Frag}(vs:List V)(H:Hp)(Q:VK)(E:XK)(h:vQ vs H Q E):aE (aL K [] [] (E:=E)) Kl {nx:=λ_ H'=>Q .aB H',rt:=Q} (start sP vs) H:=by
 obtain⟨v,t,rfl,hn,q⟩:=h;refine⟨_,rfl,rfl,_,rfl,?_⟩;cases t with
 |nil=>cases hn;exact iT q
 |node l a b c r=>
  obtain⟨p,qq,vl,vr,rfl,h1, -⟩:=hn;exact iF ⟨_,rfl,aH h1 rfl q⟩
theorem aeI{K:Frag}(vs:List V)(H:Hp)(Q:VK)(E:XK)(h:vR vs H Q E):aE (aL K [] [] (E:=E)) Km {nx:=λ_ H'=>Q .aB H',rt:=Q} (start sP vs) H:=by
 obtain⟨v,t,rfl,hn,q⟩:=h;refine⟨_,rfl,rfl,_,rfl,?_⟩;cases t with
 |nil=>cases hn;exact iT q
 |node l a b c r=>
  obtain⟨p,qq,vl,vr,rfl,h1, -⟩:=hn;exact iF ⟨_,rfl,aH h1 rfl q⟩
theorem aeJ{K:Frag}(vs:List V)(H:Hp)(Q:VK)(E:XK)(h:ON vs H Q E):aE (aL K [] [] (E:=E)) Kn {nx:=λ_ H'=>Q .aB H',rt:=Q} (start sP vs) H:=by
 obtain⟨v,t,rfl,hn,q⟩:=h;refine⟨_,rfl,rfl,_,rfl,?_⟩;cases t with
 |nil=>cases hn;exact iT q
 |node l a b c r=>
  obtain⟨p,qq,vl,vr,zq⟩:=qx4 hn;obtain⟨rfl,h1, -⟩:=qa3 zq;exact iF ⟨_,rfl,aH h1 rfl q⟩
abbrev aeK:List (Str×Sp):=[("height_of",vQ),("size_of",vR),("ends_of",ON)]
inductive zI(vs:List V)(H:Hp)(Q:VK)(E:XK):Prop|i(vl q vr l r a b c:_)(_:vs=[vl,.ref q,vr])(_:Nd H l vl)(_:Nd H r vr)(_:H q=some (tp (a,b,c)))(_:∀v H',av H H'->Nd H' (.node l a b c r) v->Q v H')
theorem aeL{K:Frag}(vs:List V)(H:Hp)(Q:VK)(E:XK)(h:zI vs H Q E):aE (aL K aeK [] (E:=E)) Kp {nx:=λ_ H'=>Q .aB H',rt:=Q} (start Ko vs) H:=by
 obtain⟨vl,q,vr,l,r,a,b,c,rfl,hl,hr,hq,k⟩:=h;refine⟨_,rfl,vl,l,rfl,hl,_,rfl,vr,r,rfl,hr,⟨_,rfl,vl,l,rfl,hl,_,rfl,aH hq rfl ⟨_,rfl,vr,r,rfl,hr,⟨_,rfl,_,rfl,_,rfl,_,rfl,_,rfl,_,rfl,vl,l,rfl,hl,_,rfl,aH hq rfl ⟨_,rfl,vr,r,rfl,hr,F2,λt ht=>?_⟩⟩⟩⟩⟩;have s:=sameNew (o:=.tup [vl,.ref q,vr,.int<|1+(if r.h>l.h then r.h else l.h),.int<|l.sz+b+r.sz,.int<|l.en+c+r.en]) ht
 exact k _ _ s ⟨t,q,vl,vr,rfl,aw,s _ _ hq,hl.mono<|aY s,hr.mono<|aY s⟩
abbrev OO:List (Str×Sp):=[("height_of",vQ),("made",zI)]
inductive OP(vs:List V)(H:Hp)(Q:VK)(E:XK):Prop|i(vl q vr l r a b c:_)(_:vs=[vl,.ref q,vr])(_:Nd H l vl)(_:Nd H r vr)(_:H q=some (tp (a,b,c)))(_:l.ok)(_:r.ok)(_:l.h=r.h+2)(_:∀v H' t,av H H'->Nd H' t v->Tr.l7 l a b c r t->Q v H')
inductive OQ(vs:List V)(H:Hp)(Q:VK)(E:XK):Prop|i(vl q vr l r a b c:_)(_:vs=[vl,.ref q,vr])(_:Nd H l vl)(_:Nd H r vr)(_:H q=some (tp (a,b,c)))(_:l.ok)(_:r.ok)(_:r.h=l.h+2)(_:∀v H' t,av H H'->Nd H' t v->Tr.l7 l a b c r t->Q v H')
theorem aeM{K:Frag}(vs:List V)(H:Hp)(Q:VK)(E:XK)(h:OP vs H Q E):aE (aL K OO [] (E:=E)) Kr {nx:=λ_ H'=>Q .aB H',rt:=Q} (start yW vs) H:=by
 obtain⟨vl,q,vr,l,r,a',b',c',rfl,hl,hr,hq,o1,o2,hh,k⟩:=h;have r0:=Tr.h0 r;obtain⟨ll,a,b,c,lr,rfl⟩:=Tr.tL (t:=l) (by lia)
 obtain⟨p,ql,qT,tP,rfl,hp,qM,iO,kN⟩:=hl;refine⟨_,rfl,aH hp rfl (⟨_,rfl,aH hp rfl ⟨qT,ll,rfl,iO,_,rfl,tP,lr,rfl,kN,trivial,_,rfl,cZ (λh=>?_)<|λh=>?_⟩⟩)⟩
 ·exact⟨_,rfl,aH hp rfl ⟨_,rfl,aH hp rfl ⟨_,rfl,_,rfl,_,rfl,tP,q,vr,lr,r,a',b',c',rfl,kN,hr,hq,λv H1 s1 n1=>⟨qT,ql,v,ll,_,a,b,c,rfl,iO.mono<|aY s1,n1,s1 _ _ qM,λv2 H2 s2 n2=>k _ _ _ (s1.trans s2) n2<|Tr.ad4 o1 o2 hh (of_decide_eq_true h)⟩⟩⟩⟩
 ·have aU:ll.h<lr.h:=by
   lia
  have l0:=Tr.h0 ll;obtain⟨il,x,y,z,ir,rfl⟩:=Tr.tL (t:=lr) (by lia)
  obtain⟨pi,qi,Ej,Ek,zq⟩:=qx4 kN;obtain⟨rfl,qU,El,zr,Em⟩:=qa5 zq;exact⟨_,rfl,aH hp rfl ⟨_,rfl,aH hp rfl ⟨_,rfl,aH qU rfl ⟨qT,ql,Ej,ll,il,a,b,c,rfl,iO,zr,qM,λv H1 s1 n1=>⟨_,rfl,aH (s1 _ _ qU) rfl ⟨_,rfl,aH (s1 _ _ qU) rfl ⟨_,rfl,_,rfl,Ek,q,vr,ir,r,a',b',c',rfl,Em.mono<|aY s1,hr.mono<|aY s1,s1 _ _ hq,λv2 H2 s2 n2=>⟨v,qi,v2,_,_,x,y,z,rfl,n1.mono<|aY s2,n2,s2 _ _<|s1 _ _ El,λv3 H3 s3 n3=>k _ _ _ (s1.trans<|s2.trans s3) n3<|Tr.ad5 o1 o2 hh aU⟩⟩⟩⟩⟩⟩⟩⟩
theorem aeN{K:Frag}(vs:List V)(H:Hp)(Q:VK)(E:XK)(h:OQ vs H Q E):aE (aL K OO [] (E:=E)) Kt {nx:=λ_ H'=>Q .aB H',rt:=Q} (start yW vs) H:=by
 obtain⟨vl,q,vr,l,r,a,b,c,rfl,hl,hr,hq,o1,o2,hh,k⟩:=h;have r0:=Tr.h0 l;obtain⟨rl,a',b',c',rr,rfl⟩:=Tr.tL (t:=r) (by lia)
 obtain⟨p,qr,tQ,qW,rfl,hp,zJ,kz,qX⟩:=hr;refine⟨_,rfl,aH hp rfl ?_⟩;refine⟨_,rfl,aH hp rfl ⟨qW,rr,rfl,qX,_,rfl,tQ,rl,rfl,kz,trivial,_,rfl,cZ (λh=>?_)<|λh=>?_⟩⟩
 ·refine⟨_,rfl,_,rfl,_,rfl,vl,q,tQ,l,rl,a,b,c,rfl,hl,kz,hq,λv H1 s1 n1=>?_⟩;exact⟨_,rfl,aH (s1 _ _ hp) rfl ⟨_,rfl,aH (s1 _ _ hp) rfl ⟨v,qr,qW,_,rr,a',b',c',rfl,n1,qX.mono<|aY s1,s1 _ _ zJ,λv2 H2 s2 n2=>k _ _ _ (s1.trans s2) n2<|Tr.ad6 o1 o2 hh (of_decide_eq_true h)⟩⟩⟩
 ·have aU:rr.h<rl.h:=by
   lia
  have l0:=Tr.h0 rr;obtain⟨il,x,y,z,ir,rfl⟩:=Tr.tL (t:=rl) (by lia)
  obtain⟨pi,qi,Ej,Ek,zq⟩:=qx4 kz;obtain⟨rfl,qU,El,zr,Em⟩:=qa5 zq;refine⟨_,rfl,_,rfl,_,rfl,aH qU rfl ⟨vl,q,Ej,l,il,a,b,c,rfl,hl,zr,hq,λv H1 s1 n1=>?_⟩⟩;refine⟨_,rfl,aH (s1 _ _ qU) rfl ⟨_,rfl,aH (s1 _ _ qU) rfl ⟨_,rfl,aH (s1 _ _ hp) rfl ⟨_,rfl,aH (s1 _ _ hp) rfl ⟨Ek,qr,qW,ir,rr,a',b',c',rfl,Em.mono<|aY s1,qX.mono<|aY s1,s1 _ _ zJ,λv2 H2 s2 n2=>?_⟩⟩⟩⟩⟩;exact⟨v,qi,v2,_,_,x,y,z,rfl,n1.mono<|aY s2,n2,s2 _ _<|s1 _ _ El,λv3 H3 s3 n3=>k _ _ _ (s1.trans<|s2.trans s3) n3<|Tr.ad7 o1 o2 hh aU⟩
abbrev aeO:List (Str×Sp):=[("height_of",vQ),("turned_right",OP),("turned_left",OQ),("made",zI)]
inductive OR(vs:List V)(H:Hp)(Q:VK)(E:XK):Prop|i(vl q vr l r a b c:_)(_:vs=[vl,.ref q,vr])(_:Nd H l vl)(_:Nd H r vr)(_:H q=some (tp (a,b,c)))(_:l.ok)(_:r.ok)(_:l.h<=r.h+2)(_:r.h<=l.h+2)(_:∀v H' t,av H H'->Nd H' t v->Tr.l7 l a b c r t->Q v H')
theorem aeP{K:Frag}(vs:List V)(H:Hp)(Q:VK)(E:XK)(h:OR vs H Q E):aE (aL K aeO [] (E:=E)) Ku {nx:=λ_ H'=>Q .aB H',rt:=Q} (start vm vs) H:=by
 obtain⟨vl,q,vr,l,r,a,b,c,rfl,hl,hr,hq,o1,o2,oX,hh2,k⟩:=h;refine⟨_,rfl,vl,l,rfl,hl,_,rfl,vr,r,rfl,hr,trivial,_,rfl,cZ (λh=>?_)<|λh=>?_⟩
 ·exact⟨_,rfl,_,rfl,_,rfl,vl,q,vr,l,r,a,b,c,rfl,hl,hr,hq,o1,o2,by lia,k⟩
 ·refine⟨_,rfl,vr,r,rfl,hr,_,rfl,vl,l,rfl,hl,trivial,_,rfl,?_⟩;refine cZ (λh=>?_)<|λh=>?_
  ·exact⟨_,rfl,_,rfl,_,rfl,vl,q,vr,l,r,a,b,c,rfl,hl,hr,hq,o1,o2,by lia,k⟩
  ·exact⟨_,rfl,_,rfl,_,rfl,vl,q,vr,l,r,a,b,c,rfl,hl,hr,hq,λv H' s n=>k _ _ _ s n<|Tr.Of o1 o2 (by lia) (by lia)⟩
inductive jU(n:Nat)(vs:List V)(H:Hp)(Q:VK)(E:XK):Prop|i(vl q vr l r a b c:_)(_:vs=[vl,.ref q,vr])(_:Nd H l vl)(_:Nd H r vr)(_:H q=some (tp (a,b,c)))(_:l.ok)(_:r.ok)(_:l.h+r.h<n)(_:∀v H' t,av H H'->Nd H' t v->Tr.Jn l a b c r t->Q v H')
theorem aeQ(vs:List V)(H:Hp)(Q:VK)(E:XK):¬jU 0 vs H Q E:=by
 rintro⟨vl,q,vr,l,r,a,b,c, -, -, -, -, -, -,h, -⟩;have:=Tr.h0 l;have:=Tr.h0 r;lia
abbrev aeR(n:Nat):List (Str×Sp):=[("height_of",vQ),("leveled",OR),("joined",jU n),("made",zI)]
theorem aeS{K:Frag}(n:Nat)(vs:List V)(H:Hp)(Q:VK)(E:XK)(h:jU (n+1) vs H Q E):aE (aL K (aeR n) [] (E:=E)) Kv {nx:=λ_ H'=>Q .aB H',rt:=Q} (start vm vs) H:=by
 obtain⟨vl,q,vr,l,r,a,b,c,rfl,hl,hr,hq,o1,o2,hh,k⟩:=h;have r0:=Tr.h0 r;have l0:=Tr.h0 l;refine⟨_,rfl,vl,l,rfl,hl,_,rfl,vr,r,rfl,hr,trivial,_,rfl,cZ (λh=>?_)<|λh=>?_⟩
 ·have g:=of_decide_eq_true h;obtain⟨ll,a1,b1,c1,lr,rfl⟩:=Tr.tL (t:=l) (by lia)
  obtain⟨p,ql,qT,tP,zq⟩:=qx4 hl;obtain⟨rfl,hp,qM,iO,kN⟩:=qa5 zq;have e1:=Tr.dB ll a1 b1 c1 lr;have aU:lr.h+r.h<n:=by
   lia
  refine⟨_,rfl,aH hp rfl ⟨_,rfl,aH hp rfl ⟨_,rfl,aH hp rfl ⟨_,rfl,_,rfl,tP,q,vr,lr,r,a,b,c,rfl,kN,hr,hq,o1.2.1,o2,aU,λv H1 t s1 n1 J=>?_⟩⟩⟩⟩;obtain⟨g1,g2⟩:=Tr.aea o1 g J;exact⟨qT,ql,v,ll,t,a1,b1,c1,rfl,iO.mono<|aY s1,n1,s1 _ _ qM,o1.1,J.ok,g1,g2,λv2 H2 t2 s2 n2 L=>k _ _ _ (s1.trans s2) n2<|Tr.ad9 o1 g J L⟩
 ·refine⟨_,rfl,vr,r,rfl,hr,_,rfl,vl,l,rfl,hl,trivial,_,rfl,?_⟩;refine cZ (λh=>?_)<|λh=>?_
  ·have g2:=of_decide_eq_true h;obtain⟨rl,a1,b1,c1,rr,rfl⟩:=Tr.tL (t:=r) (by lia)
   obtain⟨p,qr,tQ,qW,zq⟩:=qx4 hr;obtain⟨rfl,hp,zJ,kz,qX⟩:=qa5 zq;have e1:=Tr.dB rl a1 b1 c1 rr;have aU:l.h+rl.h<n:=by
    lia
   refine⟨_,rfl,_,rfl,_,rfl,aH hp rfl ⟨vl,q,tQ,l,rl,a,b,c,rfl,hl,kz,hq,o1,o2.1,aU,λv H1 t s1 n1 J=>?_⟩⟩;obtain⟨k1,k2⟩:=Tr.aeb o2 g2 J;exact⟨_,rfl,aH (s1 _ _ hp) rfl ⟨_,rfl,aH (s1 _ _ hp) rfl ⟨v,qr,qW,t,rr,a1,b1,c1,rfl,n1,qX.mono<|aY s1,s1 _ _ zJ,J.ok,o2.2.1,k1,k2,λv2 H2 t2 s2 n2 L=>k _ _ _ (s1.trans s2) n2<|Tr.ad_ o2 g2 J L⟩⟩⟩
  ·exact⟨_,rfl,_,rfl,_,rfl,vl,q,vr,l,r,a,b,c,rfl,hl,hr,hq,λv H' s n=>k _ _ _ s n<|Tr.ad8 o1 o2 (by lia) (by lia)⟩
inductive vS(n:Nat)(vs:List V)(H:Hp)(Q:VK)(E:XK):Prop|i(v l a b c r:_)(_:vs=[v])(_:Nd H (.node l a b c r) v)(_:(Tr.node l a b c r).ok)(_:(Tr.node l a b c r).h<n)(_:(Tr.node l a b c r).h<=30)(_:∀w H' q vt t a' b' c',av H H'->H' w=some (.tup [vt,.ref q])->Nd H' t vt->H' q=some (tp (a',b',c'))->t.ok->(Tr.node l a b c r).aC=t.aC++[(a',b',c')]->t.h<= (Tr.node l a b c r).h->Q (.ref w) H')
theorem aeT(vs:List V)(H:Hp)(Q:VK)(E:XK):¬vS 0 vs H Q E:=by
 rintro⟨v,l,a,b,c,r, -, -, -,h, -⟩;have:=Tr.h0 (.node l a b c r);lia
abbrev aeU(n:Nat):List (Str×Sp):=[("last_out",vS n),("joined",jU 64)]
theorem aeV{K:Frag}(n:Nat)(vs:List V)(H:Hp)(Q:VK)(E:XK)(h:vS (n+1) vs H Q E):aE (aL K (aeU n) [] (E:=E)) Kw {nx:=λ_ H'=>Q .aB H',rt:=Q} (start sQ vs) H:=by
 obtain⟨v,l,a,b,c,r,rfl,⟨p,q,vl,vr,rfl,hp,hq,hl,hr⟩,ho,hh,h30,k⟩:=h;have e1:=Tr.dB l a b c r;refine⟨_,rfl,aH hp rfl ⟨rfl,_,rfl,?_⟩⟩;cases r with
 |nil=>
  cases hr;refine iT ⟨_,rfl,aH hp rfl ⟨_,rfl,aH hp rfl ⟨cO,λw hw=>?_⟩⟩⟩;have s:=sameNew (o:=.tup [vl,.ref q]) hw;exact k w _ q vl l a b c s aw (hl.mono<|aY s) (s _ _ hq) ho.1 rfl (by lia)
 |node rl a1 b1 c1 rr=>
  obtain⟨p2,q2,tQ,qW,zq⟩:=qx4 hr;obtain⟨rfl,zH,jG,kz,qX⟩:=qa5 zq
  refine iF ⟨_,rfl,aH hp rfl ⟨.ref p2,rl,a1,b1,c1,rr,rfl,⟨p2,q2,tQ,qW,rfl,zH,jG,kz,qX⟩,ho.2.1,by lia,by lia,λw H1 q3 vt t a2 b2 c2 s1 hw ht En to zK th=>?_⟩⟩
  refine⟨_,rfl,aH (s1 _ _ hp) rfl ⟨_,rfl,aH (s1 _ _ hp) rfl ⟨_,rfl,aH hw rfl ⟨vl,q,vt,l,t,a,b,c,rfl,hl.mono<|aY s1,ht,s1 _ _ hq,ho.1,to,(by lia),λv2 H2 t2 s2 n2 J=>?_⟩⟩⟩⟩
  refine⟨_,rfl,aH (s2 _ _ hw) rfl ⟨cO,λw2 jl=>?_⟩⟩;have s3:=sameNew (o:=.tup [v2,.ref q3]) jl;refine k w2 _ q3 v2 t2 a2 b2 c2 (s1.trans<|s2.trans s3) aw (n2.mono<|aY s3) (s3 _ _<|s2 _ _ En) J.ok ?_ ?_
  ·rw[J.aC,Tr.aC,zK];simp
  ·have:=J.hi;lia
inductive tR(n:Nat)(vs:List V)(H:Hp)(Q:VK)(E:XK):Prop|i(v t:_)(_:vs=[v])(_:Nd H t v)(_:t.h<n)(_:t.aC.length<=1000)(_:∀w H' xs,av H H'->H w=none->H' w=some (.lst xs)->kP H' xs t.aC->Q (.ref w) H')
theorem aeX(vs:List V)(H:Hp)(Q:VK)(E:XK):¬tR 0 vs H Q E:=by
 rintro⟨v,t, -, -,h, -⟩;have:=Tr.h0 t;lia
theorem OS{a b c:Int}(h:(Tr.node l a b c r).aC.length<=n):l.aC.length+r.aC.length+1<=n:=by
 simp only[Tr.aC,zqA,zau] at h;lia
theorem OT(l r:Tr)(a b c:Int):l.h< (Tr.node l a b c r).h/\r.h< (Tr.node l a b c r).h:=by
 rw[Tr.dB];split<;>lia
theorem aeY{K:Frag}(n:Nat)(vs:List V)(H:Hp)(Q:VK)(E:XK)(h:tR (n+1) vs H Q E):aE (aL K [("pieces_of",tR n)] [] (E:=E)) KG {nx:=λ_ H'=>Q .aB H',rt:=Q} (start CO vs) H:=by
 obtain⟨v,t,rfl,hn,hh,hl,k⟩:=h;refine⟨_,rfl,rfl,_,rfl,?_⟩;cases t with
 |nil=>
  cases hn;exact iT ⟨zqZ _,λw hw=>k w _ [] (sameNew hw) hw aw .nil⟩
 |node l a b c r=>
  obtain⟨p,q,vl,vr,zq⟩:=qx4 hn;obtain⟨rfl,hp,hq,hnl,hnr⟩:=qa5 zq;have e1:=OS hl;obtain⟨e2,e3⟩:=OT l r a b c;refine iF ⟨_,rfl,aH hp rfl ⟨vl,l,rfl,hnl,by lia,by lia,λw H1 xs s1 fw hw px=>?_⟩⟩
  have lx:=Paired.length px;refine⟨_,rfl,.inl ⟨rfl,_,ar.of hw⟩,_,rfl,aH (s1 _ _ hp) rfl ⟨_,hw,cX (by lia),?_⟩⟩
  have b1:aR w H1 (upd H1 w<|.lst<|xs++[V.ref q]):=aR.upd;have s2:=nv s1 fw b1;have t1:=b1.cz hw;generalize hH2:upd H1 w (.lst<|xs++[V.ref q])=H2 at s2 t1;have vF:H2 w=some (.lst<|xs++[V.ref q]):=by rw[<-hH2,aw]
  refine⟨_,rfl,.inl ⟨rfl,_,ar.of vF⟩,_,rfl,aH (s2 _ _ hp) rfl ⟨vr,r,rfl,hnr.mono<|aY s2,by lia,by lia,λw2 H3 ys s3 tU jl py=>?_⟩⟩
  have ly:=Paired.length py;refine⟨_,_,s3 _ _ vF,jl,bY (by simp;lia),?_⟩
  have b3:aR w H3 (upd H3 w<|.lst<|xs++[V.ref q]++ys):=aR.upd;refine⟨_,rfl,k w _ (xs++[V.ref q]++ys) (nv (s2.trans s3) fw b3) fw aw ?_⟩;have e:(Tr.node l a b c r).aC=l.aC++[(a,b,c)]++r.aC:=by simp[Tr.aC]
  rw[e];refine((((px.mono t1).mono<|aY s3).app<|.cons ⟨q,rfl,s3 _ _<|t1 _ _<|s1 _ _ hq⟩ .nil).app py).mono (b3.cz (s3 _ _ vF))
def ends(ts:List Str)(n:Int):Int:=(((aF ts).take n.toNat).count 10:Nat)
inductive OU(C:Addr)(vs:List V)(H:Hp)(Q:VK)(E:XK):Prop|i(p dx lt lb lf:Addr)(ts:List Str)(n:Int)(_:vs=[.ref p,.int n])(_:dC C H p dx lt lb lf ts)(_:0<=n)(_:Q (.int<|ends ts n) H)
theorem ae2{K:Frag}(T:sO K C)(vs:List V)(H:Hp)(Q:VK)(E:XK)(h:OU C vs H Q E):aE (aL K [("many_upto",zF)] [] (E:=E)) KJ {nx:=λ_ H'=>Q .aB H',rt:=Q} (start KI vs) H:=by
 obtain⟨p,dx,lt,lb,lf,ts,n,rfl,S,hn,q⟩:=h;refine⟨_,rfl,p,C,dx,_,_,rfl,S.ob,T.cl,T.CM,Oy,_,rfl,trivial,lf,_,_,rfl,S.fd,aec _ _,?_⟩;obtain⟨m,rfl⟩:=zbS hn;rw[aed];exact q
abbrev ae3(C:Addr):List (Str×Addr×Sp):=[("ends_ahead",C,OU C)]
theorem OV{n:Int}:(gj lt lb lf n).lookup ("ends_ahead":Str)=none:=rfl
inductive OW(C:Addr)(vs:List V)(H:Hp)(Q:VK)(E:XK):Prop|i(q:Addr)(a b c n:Int)(p dx lt lb lf:Addr)(ts:List Str)(_:vs=[.ref q,.int n,.ref p])(_:H q=some (tp (a,b,c)))(_:dC C H p dx lt lb lf ts)(_:0<=a)(_:0<=n)(_:∀(w q1 q2:Addr) (H':Hp),av H H'->H' w=some (.tup [.ref q1,.ref q2])->H' q1=some (tp (a,n,ends ts (a+n) - ends ts a))->H' q2=some (tp (a+n,b - n,c - (ends ts (a+n) - ends ts a)))->Q (.ref w) H')
theorem ae4{K:Frag}(vs:List V)(H:Hp)(Q:VK)(E:XK)(h:OW C vs H Q E):aE (aL K [] [] [] (ae3 C) (E:=E)) KC {nx:=λ_ H'=>Q .aB H',rt:=Q} (start KA vs) H:=by
 obtain⟨q,a,b,c,n,p,dx,lt,lb,lf,ts,rfl,hq,S,ha,hn,k⟩:=h;refine⟨_,rfl,aH hq rfl ⟨_,rfl,⟨_,rfl,p,dx,_,rfl,S.ob,OV,_,rfl,p,dx,lt,lb,lf,ts,_,rfl,S,(by lia),?_⟩⟩⟩
 refine⟨_,rfl,p,dx,_,rfl,S.ob,OV,_,rfl,aH hq rfl ⟨p,dx,lt,lb,lf,ts,a,rfl,S,ha,trivial,⟨_,rfl,aH hq rfl ⟨_,rfl,_,rfl,eM,λq1 f1=>?_⟩⟩⟩⟩;have s1:=sameNew (o:=tp (a,n,ends ts (a+n) - ends ts a)) f1;refine⟨_,rfl,_,rfl,aH (s1 _ _ hq) rfl ⟨_,rfl,trivial,_,rfl,aH (s1 _ _ hq) rfl ⟨_,rfl,trivial,eM,λq2 f2=>?_⟩⟩⟩;have s2:=sameNew (o:=tp (a+n,b - n,c - (ends ts (a+n) - ends ts a))) f2;refine⟨cO,λw fw=>?_⟩;have s3:=sameNew (o:=.tup [V.ref q1,V.ref q2]) fw;exact k w q1 q2 _ (s1.trans<|s2.trans s3) aw (s3 _ _<|s2 _ _ aw)<|s3 _ _ aw
theorem jV:∀t:Tr,t.sz=dP t.aC
 |.nil=>rfl
 |.node l a b c r=>by
  show l.sz+b+r.sz=dP (l.aC++(a,b,c)::r.aC);rw[Oh,qQ,jV l,jV r];lia
def vT(p:P3):Prop:=0<=p.1/\1<=p.2.1
inductive me(C:Addr)(n:Nat)(vs:List V)(H:Hp)(Q:VK)(E:XK):Prop|i(v:V)(t:Tr)(pl:Int)(p dx lt lb lf:Addr)(ts:List Str)(_:vs=[v,.int pl,.ref p])(_:Nd H t v)(_:t.ok)(_:dC C H p dx lt lb lf ts)(_:(∀q∈t.aC,vT q))(_:t.h<n)(_:t.aC.length<=1000)(_:0<=pl)(_:pl<=t.sz)(_:∀(w:Addr) (v1 v2:V) (t1 t2:Tr) (H':Hp),av H H'->H' w=some (.tup [v1,v2])->Nd H' t1 v1->Nd H' t2 v2->t1.ok->t2.ok->t1.aC=dh (ends ts) t.aC pl->t2.aC=di (ends ts) t.aC pl->Q (.ref w) H')
theorem ae5(C:Addr)(vs:List V)(H:Hp)(Q:VK)(E:XK):¬me C 0 vs H Q E:=by
 rintro⟨v,t,pl,p,dx,lt,lb,lf,ts, -, -, -, -, -,h, -⟩;have:=Tr.h0 t;lia
abbrev ae6(C:Addr)(n:Nat):List (Str×Sp):=[("size_of",vR),("parted",me C n),("joined",jU 64),("cut_in_two",OW C)]
theorem ae7{K:Frag}(n:Nat)(vs:List V)(H:Hp)(Q:VK)(E:XK)(h:me C (n+1) vs H Q E):aE (aL K (ae6 C n) [] (E:=E)) KD {nx:=λ_ H'=>Q .aB H',rt:=Q} (start CN vs) H:=by
 obtain⟨v,t,pl,p,dx,lt,lb,lf,ts,rfl,hn,ho,S,Eo,hh,hlen,qD,vD,k⟩:=h;refine⟨_,rfl,rfl,_,rfl,?_⟩;cases t with
 |nil=>
  cases hn;exact iT ⟨cO,λw hw=>k w .aB .aB .nil .nil _ (sameNew hw) aw rfl rfl trivial trivial rfl rfl⟩
 |node l a b c r=>
  obtain⟨pa,q,vl,vr,zq⟩:=qx4 hn;obtain⟨rfl,oY,hq,hl,hr⟩:=qa5 zq;obtain⟨o1,o2,o3,o4⟩:=ho;obtain⟨e2,e3⟩:=OT l r a b c;have e1:=OS hlen;have iS:=jV l;have akf:=jV r;have zL:∀x∈l.aC,vT x:=λx hx=>Eo x (by simp[Tr.aC,hx])
  have pr1:∀x∈r.aC,vT x:=λx hx=>Eo x (by simp[Tr.aC,hx])
  have pm:vT (a,b,c):=Eo _ (by simp[Tr.aC])
  have vU:(Tr.node l a b c r).aC=l.aC++(a,b,c)::r.aC:=rfl;have akg:(Tr.node l a b c r).sz=l.sz+b+r.sz:=rfl;have akh:=Tr.jS o1 (by lia:l.aC.length<=1000)
  refine iF ⟨_,rfl,aH oY rfl ?_⟩;refine⟨_,rfl,aH oY rfl ⟨vl,l,rfl,hl,?_⟩⟩;refine⟨_,rfl,_,rfl,aH hq rfl ?_⟩;refine⟨_,rfl,_,rfl,trivial,_,rfl,?_⟩;refine cZ (λg=>?_)<|λg=>?_
  ·have hle:pl<=l.sz:=of_decide_eq_true g;refine⟨_,rfl,aH oY rfl ⟨_,rfl,_,rfl,vl,l,pl,p,dx,lt,lb,lf,ts,rfl,hl,o1,S,zL,by lia,by lia,qD,hle,λw v1 v2 t1 t2 H1 s1 hw n1 n2 k1 k2 c1 c2=>?_⟩⟩
   obtain⟨x1,x2⟩:=Oj (ends ts) ((a,b,c)::r.aC) l.aC pl (λx hx=>(zL x hx).2) (by lia)
   have l2:=(vM (ends ts) l.aC pl).2;have h2:=Tr.jS k2 (by rw[c2];lia)
   refine⟨_,rfl,aH hw rfl ⟨_,rfl,aH hw rfl ⟨_,rfl,_,rfl,aH (s1 _ _ oY) rfl ⟨v2,q,vr,t2,r,a,b,c,rfl,n2,hr.mono<|aY s1,s1 _ _ hq,k2,o2,(by show _< ((64:Nat):Int);lia),λv3 H2 t3 s2 n3 J=>⟨cO,λw2 tU=>?_⟩⟩⟩⟩⟩
   have s3:=sameNew (o:=.tup [v1,v3]) tU;refine k w2 v1 v3 t1 t3 _ (s1.trans<|s2.trans s3) aw ((n1.mono<|aY s2).mono<|aY s3) (n3.mono<|aY s3) k1 J.ok ?_ ?_
   ·rw[vU,x1,c1]
   ·rw[vU,x2,J.aC,c2]
  ·have hgt:¬pl<=l.sz:=λz=>g (zqT z);refine⟨_,rfl,_,rfl,trivial,_,rfl,?_⟩;refine cZ (λg=>?_)<|λg=>?_
   ·have qA:l.sz+b<=pl:=of_decide_eq_true g;refine⟨_,rfl,aH oY rfl ⟨_,rfl,_,rfl,trivial,_,rfl,vr,r,pl - (l.sz+b),p,dx,lt,lb,lf,ts,rfl,hr,o2,S,pr1,by lia,by lia,by lia,by lia,λw v1 v2 t1 t2 H1 s1 hw n1 n2 k1 k2 c1 c2=>?_⟩⟩
    have ez:dP (l.aC++[(a,b,c)])=l.sz+b:=by
     rw[Oh,qQ,Og,iS];show dP l.aC+(b+0)=_;lia
    obtain⟨x1,x2⟩:=D0 (ends ts) r.aC (l.aC++[(a,b,c)]) pl (λx hx=>by
     rcases zae.mp hx with z|z
     ·exact(zL x z).2
     ·rw[zad.mp z];exact pm.2) (by lia)
    have l1:=(vM (ends ts) r.aC<|pl - (l.sz+b)).1;have h1:=Tr.jS k1 (by rw[c1];lia)
    refine⟨_,rfl,aH (s1 _ _ oY) rfl ⟨_,rfl,_,rfl,aH hw rfl ⟨vl,q,v1,l,t1,a,b,c,rfl,hl.mono<|aY s1,n1,s1 _ _ hq,o1,k1,(by show _< ((64:Nat):Int);lia),λv3 H2 t3 s2 n3 J=>?_⟩⟩⟩
    refine⟨_,rfl,aH (s2 _ _ hw) rfl ⟨cO,λw2 tU=>?_⟩⟩;have s3:=sameNew (o:=.tup [v3,v2]) tU;have e5:(Tr.node l a b c r).aC=(l.aC++[(a,b,c)])++r.aC:=by rw[vU];simp
    refine k w2 v3 v2 t3 t2 _ (s1.trans<|s2.trans s3) aw (n3.mono<|aY s3) ((n2.mono<|aY s2).mono<|aY s3) J.ok k2 ?_ ?_
    ·rw[e5,x1,ez,J.aC,c1];simp
    ·rw[e5,x2,ez,c2]
   ·have aU:¬l.sz+b<=pl:=λz=>g (zqT z);refine⟨_,rfl,_,rfl,_,rfl,trivial,_,rfl,q,a,b,c,pl - l.sz,p,dx,lt,lb,lf,ts,rfl,hq,S,pm.1,by lia,λw q1 q2 H1 s1 hw h1 h2=>?_⟩
    obtain⟨x1,x2⟩:=D0 (ends ts) ((a,b,c)::r.aC) l.aC pl (λx hx=>(zL x hx).2) (by lia)
    rw[<-iS] at x1 x2;refine⟨_,rfl,aH (s1 _ _ oY) rfl ⟨_,rfl,aH hw rfl ⟨vl,q1,.aB,l,.nil,a,pl - l.sz,_,rfl,hl.mono<|aY s1,rfl,h1,o1,trivial,(by show _< ((64:Nat):Int);show l.h+0<64;lia),λv3 H2 t3 s2 n3 J=>?_⟩⟩⟩
    refine⟨_,rfl,aH (s2 _ _ hw) rfl ⟨_,rfl,aH (s2 _ _<|s1 _ _ oY) rfl ⟨.aB,q2,vr,.nil,r,_,_,_,rfl,rfl,(hr.mono<|aY s1).mono<|aY s2,s2 _ _ h2,trivial,o2,(by show _< ((64:Nat):Int);show 0+r.h<64;lia),λv4 H3 t4 s3 n4 J2=>⟨cO,λw2 tU=>?_⟩⟩⟩⟩
    have s4:=sameNew (o:=.tup [v3,v4]) tU;refine k w2 v3 v4 t3 t4 _ (s1.trans<|s2.trans<|s3.trans s4) aw ((n3.mono<|aY s3).mono<|aY s4) (n4.mono<|aY s4) J.ok J2.ok ?_ ?_
    ·rw[vU,x1,J.aC]
     simp only[dh]
     rw[if_neg (by lia),if_neg (by show ¬b<=pl - l.sz;lia)]
     rfl
    ·rw[vU,x2,J2.aC]
     simp only[di]
     rw[if_neg (by lia),if_neg (by show ¬b<=pl - l.sz;lia)]
     rfl
end L2.N
namespace L2.N
open PySem PySem.Spec L2.B
def seg(S:List Nat)(q:P3):List Nat:=(S.drop q.1.toNat).take q.2.1.toNat
def txt(S:List Nat)(ps:List P3):List Nat:=ps.flatMap (seg S)
theorem txt_nil(S:List Nat):txt S []=[]:=rfl
theorem de(S:List Nat)(p:P3)(r:List P3):txt S (p::r)=seg S p++txt S r:=rfl
theorem zM(S:List Nat)(a b:List P3):txt S (a++b)=txt S a++txt S b:=List.flatMap_append
structure df (S:List Nat) (q:P3):Prop where
 p0:0<=q.1
 p1:1<=q.2.1
 p2:q.1+q.2.1<=S.length
 p3:q.2.2=((seg S q).count 10:Nat)
theorem df.len(h:df S q):((seg S q).length:Int)=q.2.1:=by
 have h0:=h.p0;have h1:=h.p1;have h2:=h.p2;unfold seg;rw[zaq,zao];lia
theorem df.grow{q:P3}(h:df S q):df (S++T) q/\seg (S++T) q=seg S q:=by
 have h0:=h.p0;have h1:=h.p1;have h2:=h.p2;have e:seg (S++T) q=seg S q:=by
  unfold seg;rw[List.drop_append_of_le_length (by lia),List.take_append_of_le_length (by rw[zao];lia)]
 exact⟨⟨h0,h1,by rw[zqA];lia,e▸h.p3⟩,e⟩
theorem zN:∀{ps:List P3},(∀q∈ps,df S q)->txt (S++T) ps=txt S ps
 |[],_=>rfl
 |p::r,h=>by
  rw[de,de,(h p zat).grow.2,zN λq hq=>h q (zam _ hq)]
theorem oM:∀{ps:List P3},(∀q∈ps,df S q)->((txt S ps).length:Int)=dP ps
 |[],_=>rfl
 |p::r,h=>by
  rw[de,zqA,qQ,<-oM λq hq=>h q (zam _ hq),<-(h p zat).len];lia
theorem OX{n:Int}(h0:0<=a)(h1:0<=n)(h2:n<=b)(h3:a+b<=S.length)(c1 c2 c3:Int):seg S (a,n,c1)++seg S (a+n,b - n,c2)=seg S (a,b,c3):=by
 unfold seg;have e1:(a+n).toNat=a.toNat+n.toNat:=by lia
 have e2:b.toNat=n.toNat+(b - n).toNat:=by lia
 rw[e1,e2,<-List.drop_drop,List.take_add]
theorem ae9{n:Int}(h0:0<=a)(h1:0<=n)(c:Int):((S.take (a+n).toNat).count 10:Int) - ((S.take a.toNat).count 10:Nat)=((seg S (a,n,c)).count 10:Nat):=by
 have e1:(a+n).toNat=a.toNat+n.toNat:=by lia
 unfold seg;rw[e1,List.take_add,List.count_append];lia
theorem zO:∀(ps:List P3) (n:Int),(∀q∈ps,df (aF ts) q)->0<=n->n<=dP ps->
  (∀q∈dh (ends ts) ps n,df (aF ts) q)/\(∀q∈di (ends ts) ps n,df (aF ts) q)/\txt (aF ts) (dh (ends ts) ps n)=(txt (aF ts) ps).take n.toNat/\txt (aF ts) (di (ends ts) ps n)=(txt (aF ts) ps).drop n.toNat:=by
 intro ps
 induction ps with
 |nil=>
  intro n _ h0 h1;exact⟨λq hq=>(by cases hq),λq hq=>(by cases hq),by simp[dh,txt],by simp[di,txt]⟩
 |cons p r ih=>
  intro n h h0 h1;obtain⟨a,b,c⟩:=p;have hp:=h _ zat;have hr:∀q∈r,df (aF ts) q:=λq hq=>h q (zam _ hq);have q0:0<=a:=hp.p0;have q1:1<=b:=hp.p1;have q2:a+b<= (aF ts).length:=hp.p2;have hl:=hp.len;have hV:((seg (aF ts) (a,b,c)).length:Int)=b:=hl;by_cases z:n<=0
  ·obtain⟨e1,e2⟩:=DZ (ends ts) z ((a,b,c)::r);rw[e1,e2];have:n.toNat=0:=by lia
   rw[this];exact⟨λq hq=>(by cases hq),h,by simp[txt],by simp⟩
  ·by_cases g:b<=n
   ·have e1:dh (ends ts) ((a,b,c)::r) n=(a,b,c)::dh (ends ts) r (n - b):=by simp only[dh];rw[if_neg z,if_pos g]
    have e2:di (ends ts) ((a,b,c)::r) n=di (ends ts) r (n - b):=by simp only[di];rw[if_neg z,if_pos g]
    rw[qQ] at h1;have nH:n<=b+dP r:=h1;obtain⟨i1,i2,i3,i4⟩:=ih (n - b) hr (by lia) (by lia)
    rw[e1,e2];refine⟨λq hq=>?_,i2,?_,?_⟩
    ·rcases zaa.mp hq with rfl|hq
     ·exact hp
     ·exact i1 q hq
    ·rw[de,de,i3];have:n.toNat=(seg (aF ts) (a,b,c)).length+(n - b).toNat:=by lia
     rw[this,List.take_length_add_append]
    ·rw[de,i4];have:n.toNat=(seg (aF ts) (a,b,c)).length+(n - b).toNat:=by lia
     rw[this,List.drop_length_add_append]
   ·have e1:dh (ends ts) ((a,b,c)::r) n=[(a,n,ends ts (a+n) - ends ts a)]:=by simp only[dh];rw[if_neg z,if_neg g]
    have e2:di (ends ts) ((a,b,c)::r) n=(a+n,b - n,c - (ends ts (a+n) - ends ts a))::r:=by simp only[di];rw[if_neg z,if_neg g]
    rw[e1,e2];have k1:df (aF ts) (a,n,ends ts (a+n) - ends ts a):=⟨q0,by show 1<=n;lia,by show a+n<=_;lia,ae9 q0 h0 _⟩
    have sc:=OX (S:=aF ts) q0 h0 (by lia:n<=b) q2 (ends ts (a+n) - ends ts a) (c - (ends ts (a+n) - ends ts a)) c
    have k2:df (aF ts) (a+n,b - n,c - (ends ts (a+n) - ends ts a)):=by
     refine⟨by show 0<=a+n;lia,by show 1<=b - n;lia,by show a+n+(b - n)<=_;lia,?_⟩
     have e4:c=ends ts (a+n) - ends ts a+((seg (aF ts) (a+n,b - n,c - (ends ts (a+n) - ends ts a))).count 10:Nat):=by
      have k3:=k1.p3;have e5:=hp.p3;rw[<-sc,List.count_append] at e5;lia
     show c - (ends ts (a+n) - ends ts a)=_;lia
    refine⟨λq hq=>?_,λq hq=>?_,?_,?_⟩
    ·rw[zad.mp hq];exact k1
    ·rcases zaa.mp hq with rfl|hq
     ·exact k2
     ·exact hr q hq
    ·rw[de,txt_nil,zai,de,<-sc];have l1:=k1.len;have:n.toNat=(seg (aF ts) (a,n,ends ts (a+n) - ends ts a)).length:=by lia
     rw[this,zaD,zbG]
    ·rw[de,de,<-sc];have l1:=k1.len;have:n.toNat=(seg (aF ts) (a,n,ends ts (a+n) - ends ts a)).length:=by lia
     rw[this,zaD,zbd]
theorem cf(h:aE Γ r D σ H):aE Γ [] {D with nx:=aE Γ r D} σ H:=h
inductive vV(n:Nat)(vs:List V)(H:Hp)(Q:VK)(E:XK):Prop|i(v l a b c r:_)(_:vs=[v])(_:Nd H (.node l a b c r) v)(_:(Tr.node l a b c r).ok)(_:(Tr.node l a b c r).h<n)(_:(Tr.node l a b c r).h<=30)(_:∀w H' q vt t a' b' c',av H H'->H' w=some (.tup [.ref q,vt])->Nd H' t vt->H' q=some (tp (a',b',c'))->t.ok->(Tr.node l a b c r).aC=(a',b',c')::t.aC->t.h<= (Tr.node l a b c r).h->Q (.ref w) H')
theorem ae_(vs:List V)(H:Hp)(Q:VK)(E:XK):¬vV 0 vs H Q E:=by
 rintro⟨v,l,a,b,c,r, -, -, -,h, -⟩;have:=Tr.h0 (.node l a b c r);lia
abbrev afa(n:Nat):List (Str×Sp):=[("first_out",vV n),("joined",jU 64)]
theorem afb(n:Nat)(vs:List V)(H:Hp)(Q:VK)(E:XK)(h:vV (n+1) vs H Q E):aE (aL K (afa n) [] (E:=E)) Kx {nx:=λ_ H'=>Q .aB H',rt:=Q} (start sQ vs) H:=by
 obtain⟨v,l,a,b,c,r,rfl,⟨p,q,vl,vr,rfl,hp,hq,hl,hr⟩,ho,hh,h30,k⟩:=h;have e1:=Tr.dB l a b c r;refine⟨_,rfl,aH hp rfl ⟨rfl,_,rfl,?_⟩⟩;cases l with
 |nil=>
  cases hl;refine iT ⟨_,rfl,aH hp rfl ⟨_,rfl,aH hp rfl ⟨cO,λw hw=>?_⟩⟩⟩;have s:=sameNew (o:=.tup [.ref q,vr]) hw;exact k w _ q vr r a b c s aw (hr.mono<|aY s) (s _ _ hq) ho.2.1 rfl (by lia)
 |node ll a1 b1 c1 lr=>
  obtain⟨p2,q2,qT,tP,zq⟩:=qx4 hl;obtain⟨rfl,zH,jG,iO,kN⟩:=qa5 zq;have aU:(Tr.node ll a1 b1 c1 lr).h< (Tr.node (.node ll a1 b1 c1 lr) a b c r).h:=by rw[e1];split<;>lia
  have hle:r.h< (Tr.node (.node ll a1 b1 c1 lr) a b c r).h:=by rw[e1];split<;>lia
  refine iF ⟨_,rfl,aH hp rfl ⟨.ref p2,ll,a1,b1,c1,lr,rfl,⟨p2,q2,qT,tP,rfl,zH,jG,iO,kN⟩,ho.1,by lia,by lia,λw H1 q3 vt t a2 b2 c2 s1 hw ht En to zK th=>?_⟩⟩
  refine⟨_,rfl,aH hw rfl ⟨_,rfl,aH hw rfl ⟨_,rfl,aH (s1 _ _ hp) rfl ⟨_,rfl,aH (s1 _ _ hp) rfl ⟨vt,q,vr,t,r,a,b,c,rfl,ht,hr.mono<|aY s1,s1 _ _ hq,to,ho.2.1,(by lia),λv2 H2 t2 s2 n2 J=>?_⟩⟩⟩⟩⟩
  refine⟨cO,λw2 jl=>?_⟩;have s3:=sameNew (o:=.tup [.ref q3,v2]) jl;have jh:=J.hi;refine k w2 _ q3 v2 t2 a2 b2 c2 (s1.trans<|s2.trans s3) aw (n2.mono<|aY s3) (s3 _ _<|s2 _ _ En) J.ok ?_ ?_
  ·rw[J.aC,Tr.aC,zK];simp
  ·have:=J.hi;lia
inductive zP(vs:List V)(H:Hp)(Q:VK)(E:XK):Prop|i(vl vr:V)(l r:Tr)(S:List Nat)(_:vs=[vl,vr])(_:Nd H l vl)(_:Nd H r vr)(_:l.ok)(_:r.ok)(_:(∀q∈l.aC,df S q))(_:(∀q∈r.aC,df S q))(_:(l≠ .nil->r≠ .nil))(_:l.aC.length<=1000)(_:r.aC.length<=1000)(_:∀v H' t,av H H'->Nd H' t v->t.ok->(∀q∈t.aC,df S q)->txt S t.aC=txt S l.aC++txt S r.aC->t.aC.length<=l.aC.length+r.aC.length->Q v H')
abbrev afc:List (Str×Sp):=[("last_out",vS 32),("first_out",vV 32),("joined",jU 64)]
theorem afd:cI (zP) (λE=>aL K afc [] (E:=E)) Kz Ky:=by
 intro vs H Q E h;obtain⟨vl,vr,l,r,S,rfl,hl,hr,ol,or,pl,pr,cP,ll,lr,k⟩:=h;refine⟨_,rfl,rfl,_,rfl,?_⟩;cases l with
 |nil=>
  cases hl;exact iT ⟨_,rfl,k vr H r (av.refl _) hr or pr rfl (by show _<=0+_;lia)⟩
 |node l1 a b c l2=>
  cases r with
  |nil=>exact absurd rfl (cP (by simp))
  |node r1 a' b' c' r2=>
   have h1:=Tr.jS ol ll;have h2:=Tr.jS or lr;have tV:=hl;obtain⟨p,q,wl,wr,zq⟩:=qx4 tV;obtain⟨rfl,hp, -⟩:=qa3 zq;refine iF ⟨_,rfl,.ref p,l1,a,b,c,l2,rfl,hl,ol,by lia,by lia,λw H1 q1 vt t x y z s1 hw ht qE to ep th=>?_⟩
   refine⟨_,rfl,vr,r1,a',b',c',r2,rfl,hr.mono<|aY s1,or,by lia,by lia,λw2 H2 q2 vu u x' y' z' s2 jl hu jG uo zQ uh=>?_⟩
   have qY:=s2 _ _ hw;have tW:=s2 _ _ qE;refine⟨_,rfl,aH qY rfl ⟨_,rfl,aH jl rfl ?_⟩⟩;have p1:df S (x,y,z):=pl _ (by rw[ep];simp)
   have p2:df S (x',y',z'):=pr _ (by rw[zQ];simp)
   have pt:∀q∈t.aC,df S q:=λq hq=>pl q (by rw[ep];simp[hq])
   have pu:∀q∈u.aC,df S q:=λq hq=>pr q (by rw[zQ];simp[hq])
   have el:(Tr.node l1 a b c l2).aC.length=t.aC.length+1:=by rw[ep];simp
   have er:(Tr.node r1 a' b' c' r2).aC.length=u.aC.length+1:=by rw[zQ];simp
   have t0:=Tr.h0 t;have u0:=Tr.h0 u;refine YS<|b_<|bp<|aQ<|ag rfl<|au<|aH tW rfl<|aQ<|ag rfl<|au<|aH tW rfl<|eK<|aQ<|ag rfl<|au<|aH jG rfl<|iN ⟨_,rfl,?_⟩;by_cases g:x+y=x'
   ·refine iT ?_ (zqT g);refine bP<|aP (jU 64) rfl<|aj<|aQ<|ag rfl<|au<|aH qY rfl<|aj<|dY<|aj<|aQ<|ag rfl<|au<|aH tW rfl ?_;refine aj<|bp<|aQ<|ag rfl<|au<|aH tW rfl<|aQ<|ag rfl<|au<|aH jG rfl<|eK ?_;refine aj<|bp<|aQ<|ag rfl<|au<|aH tW rfl<|aQ<|ag rfl<|au<|aH jG rfl<|eK<|aA ⟨eM,λq3 f3=>?_⟩;have s3:=sameNew (o:=tp (x,y+y',z+z')) f3;refine aj<|aQ<|ag rfl<|au<|aH (s3 _ _ jl) rfl<|aA ?_;refine⟨vt,q3,vu,t,u,x,y+y',z+z',rfl,(ht.mono<|aY s2).mono<|aY s3,hu.mono<|aY s3,aw,to,uo,(by show t.h+u.h< (64:Nat);lia),λv H3 tt s4 n4 J=>?_⟩
    have j0:=p1.p0;have j1:=p1.p1;have j2:=p2.p2;have j3:=p2.p1;have OY:0<=x:=j0;have j1':1<=y:=j1;have j2':x'+y'<=S.length:=j2;have j3':1<=y':=j3;have sc:=OX (S:=S) (a:=x) (b:=y+y') (n:=y) OY (by lia) (by lia) (by lia) z z' (z+z')
    rw[g,show y+y' - y=y' by lia] at sc
    have p3:df S (x,y+y',z+z'):=by
     refine⟨OY,by show 1<=y+y';lia,by show x+(y+y')<=_;lia,?_⟩
     have c1:=p1.p3;have c2:=p2.p3;show z+z'=_;rw[<-sc,List.count_append];lia
    refine k v H3 tt (s1.trans<|s2.trans<|s3.trans s4) n4 J.ok (λq hq=>?_) ?_ ?_
    ·rw[J.aC] at hq;rcases zae.mp hq with hq|hq
     ·exact pt q hq
     ·rcases zaa.mp hq with rfl|hq
      ·exact p3
      ·exact pu q hq
    ·rw[J.aC,ep,zQ,zM,zM,de,de,de,txt_nil,<-sc];simp
    ·rw[J.aC,el,er,zqA,zau];lia
   ·refine iF (cf ?_) (zqF g);refine bP<|aP (jU 64) rfl<|aj<|aQ<|ag rfl<|au<|aH qY rfl<|aj<|ag rfl<|aj<|ag rfl<|aA ?_;have h3:=Tr.jS or lr;refine⟨vt,q1,vr,t,.node r1 a' b' c' r2,x,y,z,rfl,ht.mono<|aY s2,(hr.mono<|aY s1).mono<|aY s2,tW,to,or,(by show t.h+_< ((64:Nat):Int);lia),λv H3 tt s4 n4 J=>?_⟩
    refine k v H3 tt (s1.trans<|s2.trans s4) n4 J.ok (λq hq=>?_) ?_ ?_
    ·rw[J.aC] at hq;rcases zae.mp hq with hq|hq
     ·exact pt q hq
     ·rcases zaa.mp hq with rfl|hq
      ·exact p1
      ·exact pr q hq
    ·rw[J.aC,ep,zM,zM,de,de,txt_nil];simp
    ·rw[J.aC,el,zqA,zau];lia
end L2.N
namespace L2.B
open PySem PySem.Spec PyProof.Rows
theorem vW{K:Frag}{QQ:List V->Hp->Addr->Prop}{te:TE}{fv:List (Str×Nat)}{a:Addr}(ha:H a=some (.lst xs))(hl:xs.length<=1000000)(P:Nat->List V->Hp->Prop)(p0:P 0 [] H)
  (step:∀i x ys H2,xs[i]?=some x->av H H2->P i ys H2->∀Q':VK,(∀y H3,av H2 H3->P (i+1) (ys++[y]) H3->Q' y H3)->te (some x::cW σ fv) H2 Q')
  (fin:∀ys H2 p,av H H2->P xs.length ys H2->H2 p=none->QQ ys H2 p):∃W:Nat->Nat->List V->Hp->Prop,(∃m,W 0 m [] H)/\∀i m ys H2,W i m ys H2->
   ((gb K a).stop i H2/\∀p,H2 p=none->QQ ys H2 p)\/
   ((gb K a).go i H2/\∀x H3,(gb K a).gK i H2 x H3->lG K none x H3 λzs=>n6 none (zs.map some++cW σ fv) H3 λb H5=>
    if b=true then te (zs.map some++cW σ fv) H5 λy H6=>ys.length<sizeLine/\∃m',m'<m/\W (i+1) m' (ys++[y]) H6 else ∃m',m'<m/\W (i+1) m' ys H5):=by
 refine⟨λi m ys H2=>m=xs.length - i/\i<=xs.length/\ys.length=i/\av H H2/\P i ys H2,⟨_,rfl,zqZ _,rfl,av.refl _,p0⟩,?_⟩;rintro i m ys H2 zq;obtain⟨rfl,hi,hy,s,p⟩:=qa5 zq;by_cases aU:i<xs.length
 ·refine .inr ⟨⟨xs,xs[i],ar.of<|s _ _ ha,by simp⟩,?_⟩
  rintro x H3 ⟨rfl,hx⟩;exact step i x ys _ (hx xs (ar.of<|s _ _ ha)) s p _ λy H4 s4 p4=>⟨cX (by lia),xs.length - (i+1),by lia,rfl,aU,by simp[hy],s.trans s4,p4⟩
 ·have ip:i=xs.length:=by lia
  subst ip;exact .inl ⟨⟨xs,ar.of<|s _ _ ha,zqR _⟩,λq hq=>fin ys _ q s p hq⟩
end L2.B
namespace L2.N
open PySem PySem.Spec L2.B
section
variable {Γ:bo}{D:Ends}{σ:St}{H:Hp}{r:List RS}{Q:VK}
theorem zR(A B:VK)(hab:∀v H1,A v H1↔B v H1)(ha:ak Γ x σ H A):ak Γ x σ H B:=by
 have:=funext λx=>funext λH1=>propext (hab x H1);rw[<-this];exact ha
theorem vX{x elt:RE}(h:ak Γ x σ H λv H1=>∃a,v=.ref a/\(∃xs,ar Γ.K H1 a xs)/\∃W:Nat->Nat->List V->Hp->Prop,(∃m,W 0 m [] H1)/\∀i m ys H2,W i m ys H2->
   ((gb Γ.K a).stop i H2/\∀p,H2 p=none->Q (.ref p) (upd H2 p<|.lst ys))\/
   ((gb Γ.K a).go i H2/\∀x H3,(gb Γ.K a).gK i H2 x H3->lG Γ.K none x H3 λzs=>n6 none (zs.map some++cW σ fv) H3 λb H5=>
    if b=true then ak Γ.calm elt (zs.map some++cW σ fv) H5 λy H6=>ys.length<sizeLine/\∃m',m'<m/\W (i+1) m' (ys++[y]) H6 else ∃m',m'<m/\W (i+1) m' ys H5)):ak Γ (.comp none fv .list [x] none elt) σ H Q:=zR _ _ (λ_ _=>Iff.rfl) h
theorem Ep{o a b:RE}(C:Addr)(sp:Sp)(hm:Γ.ms j=(C,sp))(h:ak Γ o σ H λx H1=>∃p dx fs,x=.ref p/\H1 p=some (.ins C dx fs)/\fs.lookup m=none/\ak Γ a σ H1 λy H2=>ak Γ b σ H2 λz H3=>sp [x,y,z] H3 Q Γ.E):ak Γ (.du j m o [a,b]) σ H Q:=by
 show pT (Γ.ms j).1 m (Γ.ms j).2 [] Γ.E (ak Γ o) (aW Γ [a,b]) σ H Q;rw[hm];exact h
theorem dj(h:ak Γ x σ H λv H1=>uJ Γ.K v H1 λn=>Q (.int n) H1):ak Γ (.blt .len [x]) σ H Q:=h
end
theorem _root_.L2.B.gF.cz{ts:List Str}(b:gF p lt lb lf H H')(S:dC C H p dx lt lb lf ts):eI H H':=λc xs e=>
 b c _ e (λz=>by rw[z,S.ob] at e;cases e) (λz=>by rw[z,S.tx] at e;cases e) (λz=>by rw[z,S.bg] at e;cases e) (λz=>by rw[z,S.fd] at e;cases e)
theorem oZ(s:av H H'):gF p lt lb lf H H':=λb o e _ _ _ _=>s b o e
theorem aff(x:Str):(Builtin.Str.occurrences x (Str.ofString "\n") 0 x.length<|x.length+1).length=x.cps.toList.count 10:=by
 have:=Ov x 10 0 (x.length+1) (zqZ _);rw[zaW] at this;show(Builtin.Str.occurrences x ⟨#[10]⟩ 0 x.length<|x.length+1).length=_;rw[this,zaq,vN];have:x.cps.toList.count 10<=x.length:=by exact List.count_le_length
 lia
theorem afg{x:Str}(q:Q (.int ((x.cps.toList.count 10:Nat):Int)) H):p9 K .count (.str x) [.str "\n"] H Q:=by
 show Q (.int ((Builtin.Str.occurrences x (Str.ofString "\n") 0 x.length<|x.length+1).length:Nat)) H;rw[aff];exact q
theorem OZ:∀{vs:List V}{ps:List P3}{i:Nat}{v:V},kP H vs ps->vs[i]?=some v->∃p,ps[i]?=some p/\Pc H v p
 |_,_,i,v,.nil,e=>by simp at e
 |_,_,0,v,.cons h r,e=>by simp at e;subst e;exact⟨_,rfl,h⟩
 |_,_,i+1,v,.cons h r,e=>by
  obtain⟨p,a,b⟩:=OZ r (by simpa using e)
  exact⟨p,by simpa using a,b⟩
theorem afh{n:Int}:(gj lt lb lf n).lookup ("put":Str)=none:=rfl
theorem afi{n:Int}:(gj lt lb lf n).lookup ("read":Str)=none:=rfl
inductive vY(C:Addr)(vs:List V)(H:Hp)(Q:VK)(E:XK):Prop|i(s dx lt lb lf:Addr)(ts:List Str)(x:Str)(_:vs=[.ref s,.str x])(_:dC C H s dx lt lb lf ts)(_:good x)(_:ts.length<=10000)(_:(aF ts).length<=500000)(_:((x=""/\Q .aB H)\/(x≠""/\∀v H' t,gF s lt lb lf H H'->dC C H' s dx lt lb lf (ts++[x])->Nd H' t v->t.ok->t.aC=[(((aF ts).length:Int),(x.length:Int),(x.cps.toList.count 10:Int))]->Q v H')))
theorem afj{CT:Addr}:cI (vY C) (λE=>aL K [("joined",jU 64)] [] [] [("put",C,Ec CT C)] (E:=E)) KN KL:=by
 intro vs H Q E h;obtain⟨s,dx,lt,lb,lf,ts,x,rfl,S,gx,l1,l2,h⟩:=h;refine YS<|b_<|ag rfl<|au<|qO ⟨_,rfl,?_⟩;rcases h with⟨rfl,q⟩|⟨hx,k⟩
 ·exact iT (bP<|au q) (rfl)
 ·refine iF (cf ?_) (beq_eq_false_iff_ne.mpr hx);refine bP<|aP (jU 64) rfl<|aj<|au<|aj<|dY<|aj<|DW C (Ec CT C) rfl<|ag rfl ⟨s,dx,_,rfl,S.ob,afh,ag rfl ⟨s,dx,lt,lb,lf,ts,_,rfl,S,.inr ⟨x,rfl,gx,by lia,by lia,λH1 b1 S1=>?_⟩⟩⟩
  refine aj<|dj<|ag rfl ⟨bY gx.1,aj<|fu<|ag rfl ⟨rfl,au<|afg (aA ⟨eM,λq f=>aj<|au<|aA ?_⟩)⟩⟩;have s2:=sameNew (o:=tp (((aF ts).length:Int),(x.length:Int),((x.cps.toList.count 10:Nat):Int))) f;refine⟨.aB,q,.aB,.nil,.nil,_,_,_,rfl,rfl,rfl,aw,trivial,trivial,(by decide),λv H2 t s3 n3 J=>?_⟩
  exact k v H2 t (b1.trans<|oZ<|s2.trans s3) (S1.same<|s2.trans s3) n3 J.ok J.aC
def mf(S:List Nat)(q:P3):Str:=⟨(seg S q).toArray⟩
inductive jd(C:Addr)(vs:List V)(H:Hp)(Q:VK)(E:XK):Prop|i(s dx lt lb lf:Addr)(ts:List Str)(v:V)(t:Tr)(_:vs=[.ref s,v])(_:dC C H s dx lt lb lf ts)(_:Nd H t v)(_:t.ok)(_:(∀q∈t.aC,df (aF ts) q))(_:t.aC.length<=1000)(_:ts.length<=10000)(_:(aF ts).length<=500000)(_:∀w H',av H H'->H w=none->H' w=some (.lst<|(t.aC.map<|mf<|aF ts).map V.str)->Q (.ref w) H')
theorem fo:∀t∈ts,t.length<= (aF ts).length:=by
 induction ts with
 |nil=>intro t h;cases h
 |cons a r ih=>
  intro t h;have e:(aF (a::r)).length=a.length+(aF r).length:=by simp[aF,Str.length]
  rcases zaa.mp h with rfl|h
  ·lia
  ·have:=ih t h;lia
theorem vC:cI (jd C) (λE=>aL K [("pieces_of",tR 32)] [] [] [("read",C,Eh CP C)] (E:=E)) KU KS:=by
 intro vs H Q E h;obtain⟨s,dx,lt,lb,lf,ts,v,t,rfl,S,hn,ho,hp,l1,l2,l3,k⟩:=h;have hh:=Tr.jS ho l1;refine bP<|vX<|aP (tR 32) rfl<|aj<|ag rfl<|aA ⟨v,t,rfl,hn,by lia,l1,λw H1 xs s1 fw hw px=>⟨w,rfl,⟨_,ar.of hw⟩,?_⟩⟩
 have lx:=Paired.length px;refine vW hw (by lia) (λi ys _=>ys=((t.aC.take i).map<|mf<|aF ts).map V.str) (by simp) ?_ ?_
 ·intro i x ys H2 hx s2 e Q' kk;obtain⟨pt,iu,⟨q,rfl,hq⟩⟩:=OZ px hx;have pc:=hp pt (zaj iu);have p0:=pc.p0;have p1:=pc.p1;have p2:=pc.p2;have S2:=(S.same s1).same s2;have jG:=s2 _ _ hq;refine Ep C (Eh CP C) rfl<|ag rfl ⟨s,dx,_,rfl,S2.ob,afi,aQ<|ag rfl<|au<|aH jG rfl<|aQ<|ag rfl<|au<|aH jG rfl ?_⟩;refine⟨s,dx,lt,lb,lf,ts,_,_,rfl,S2,.inr ⟨pt.1.toNat,pt.2.1.toNat,?_,?_,by lia,by lia,by lia,λu hu=>by have:=fo u hu;lia,λH3 s3=>kk _ _ s3 ?_⟩⟩
  ·rw[show((pt.1.toNat:Nat):Int)=pt.1 by lia]
  ·rw[show((pt.2.1.toNat:Nat):Int)=pt.2.1 by lia]
  ·rw[e,List.take_succ_eq_append_getElem ((zak.mp iu).1),(zak.mp iu).2,zas,zas];rfl
 ·intro ys H2 p s2 e nU;have e':ys=(t.aC.map<|mf<|aF ts).map V.str:=by rw[e,lx,zbn]
  have s3:av H H2:=s1.trans s2;exact k p _ (s3.trans<|sameNew nU) (s3.free nU) (by rw[aw,e'])
theorem O0(S:List Nat)(ps:List P3):cat (ps.map (mf S))=⟨(txt S ps).toArray⟩:=iJ (by
 rw[qC,List.map_map]
 rfl)
theorem afk{ps:List P3}:sz (ps.map<|mf S)=(txt S ps).length:=by
 have:=congrArg Str.length (O0 S ps);rw[zh] at this;rw[this]
 simp[Str.length]
section
variable {Γ:bo}{D:Ends}{σ:St}{H:Hp}{r:List RS}{Q:VK}{QT:Bool->Hp->Prop}
theorem afl(C:Addr)(sp:Sp)(hm:Γ.kt j=(C,sp))(h:∀x dx,H x=none->H dx=none->dx≠x->sp [.ref x] (upd (upd H dx<|.own x) x<|.ins C dx []) (λv H2=>v=.aB/\Q (.ref x) H2) Γ.E):ak Γ (.make j []) σ H Q:=by
 show uB (Γ.kt j).1 (Γ.kt j).2 [] Γ.E (aW Γ []) σ H Q;rw[hm];exact h
theorem O1(C:Addr)(sp:Sp)(hm:Γ.kt j=(C,sp))(h:ak Γ a σ H λy H0=>ak Γ b σ H0 λz H1=>∀x dx,H1 x=none->H1 dx=none->dx≠x->sp [.ref x,y,z] (upd (upd H1 dx<|.own x) x<|.ins C dx []) (λv H2=>v=.aB/\Q (.ref x) H2) Γ.E):ak Γ (.make j [a,b]) σ H Q:=by
 show uB (Γ.kt j).1 (Γ.kt j).2 [] Γ.E (aW Γ [a,b]) σ H Q;rw[hm];exact h
theorem O2{e:RE}{f:Str}(h:ak Γ e σ H λv H1=>ak Γ o σ H1 λx H2=>∃a C dx fs,x=.ref a/\H2 a=some (.ins C dx fs)/\gu Γ.K C/\g7 Γ.K C f/\fs.length<1000/\aE Γ r D σ (upd H2 a<|.ins C dx<|cE f v fs)):aE Γ (.lM o f e::r) D σ H:=h
end
def jm(s:Addr)(v:V):List (Str×V):=[("stock",.ref s),("node",v)]
theorem o5:(jm s v).lookup ("stock":Str)=some (V.ref s):=tw
theorem zS:(jm s v).lookup ("node":Str)=some v:=rfl
theorem zT{m:Str}(h1:¬m="stock")(h2:¬m="node"):(jm s v).lookup m=none:=(ji h1).trans ((ji h2).trans rfl)
theorem afm:cE "node" v (cE "stock" (.ref s) [])=jm s v:=rfl
structure eL (CP:Addr) (H:Hp) (p dp s:Addr) (v:V) (t:Tr) (S:List Nat):Prop where
 ob:H p=some (.ins CP dp<|jm s v)
 nd:Nd H t v
 ok:t.ok
 pc:∀q∈t.aC,df S q
theorem eL.same{t:Tr}(P:eL CP H p dp s v t S)(h:av H H'):eL CP H' p dp s v t S:=⟨h _ _ P.ob,P.nd.mono<|aY h,P.ok,P.pc⟩
inductive qZ(CP:Addr)(vs:List V)(H:Hp)(Q:VK)(E:XK):Prop|i(p dp s:Addr)(v:V)(_:vs=[.ref p,.ref s,v])(_:H p=some (.ins CP dp []))(_:∀H',H' p=some (.ins CP dp<|jm s v)->(∀b o,H b=some o->b≠p->H' b=some o)->Q .aB H')
theorem afn(T:nh K CP):cI (qZ CP) (λE=>aL K [] [] (E:=E)) KY KW:=by
 intro vs H Q E h;obtain⟨p,dp,s,v,rfl,hp,k⟩:=h;refine O2<|ag rfl<|ag rfl ⟨p,CP,dp,[],rfl,hp,T.cl,T.nj,(by simp),?_⟩
 refine O2<|ag rfl<|ag rfl ⟨p,CP,dp,_,rfl,aw,T.cl,T.vo,(by show 1<1000;decide),?_⟩
 refine k _ ?_ λb o e nb=>?_
 ·rw[aw];exact congrArg (λl=>some<|HO.ins CP dp l) afm
 ·rw[aI nb,aI nb];exact e
inductive kQ(CP:Addr)(vs:List V)(H:Hp)(Q:VK)(E:XK):Prop|i(p dp s:Addr)(v:V)(t:Tr)(S:List Nat)(_:vs=[.ref p])(_:eL CP H p dp s v t S)(_:Q (.int ((txt S t.aC).length:Nat)) H)
theorem eL.sz{t:Tr}(P:eL CP H p dp s v t S):t.sz=((txt S t.aC).length:Nat):=by rw[jV,<-oM P.pc]
theorem afo(T:nh K CP):cI (kQ CP) (λE=>aL K [("size_of",vR)] [] (E:=E)) KZ sN:=by
 intro vs H Q E h;obtain⟨p,dp,s,v,t,S,rfl,P,q⟩:=h;refine bP<|aP vR rfl<|aj<|jR<|ag rfl ⟨p,CP,dp,_,_,rfl,P.ob,T.cl,T.vo,zS,aA ⟨v,t,rfl,P.nd,?_⟩⟩;rw[P.sz];exact q
def tx(S:List Nat)(ps:List P3):Str:=⟨(txt S ps).toArray⟩
inductive q8(CP C:Addr)(vs:List V)(H:Hp)(Q:VK)(E:XK):Prop|i(p dp s dx lt lb lf:Addr)(v:V)(t:Tr)(ts:List Str)(_:vs=[.ref p])(_:eL CP H p dp s v t (aF ts))(_:dC C H s dx lt lb lf ts)(_:t.aC.length<=1000)(_:ts.length<=10000)(_:(aF ts).length<=500000)(_:(txt (aF ts) t.aC).length<=1000000)(_:∀H',av H H'->Q (.str<|tx (aF ts) t.aC) H')
theorem O3{w:Addr}{ps:List P3}(h:H w=some (.lst<|(ps.map<|mf S).map V.str))(hl:(txt S ps).length<=1000000)(q:Q (.str<|tx S ps) H):p9 K .join (.str "") [.ref w] H Q:=by
 refine⟨ps.map<|mf S,ar.of h,joinOk_of (afk▸hl),?_⟩
 have e:Txt.join "" (ps.map<|mf S)=tx S ps:=O0 S ps;rw[e];exact q
theorem afp(T:nh K CP):cI (q8 CP C) (λE=>aL K [("texts_of",jd C)] [] (E:=E)) K0 sN:=by
 intro vs H Q E h;obtain⟨p,dp,s,dx,lt,lb,lf,v,t,ts,rfl,P,S,l1,l2,l3,l4,k⟩:=h;exact bP<|fu<|au ⟨rfl,aP (jd C) rfl<|aj<|jR<|ag rfl ⟨p,CP,dp,_,_,rfl,P.ob,T.cl,T.nj,o5,aj<|jR<|ag rfl ⟨p,CP,dp,_,_,rfl,P.ob,T.cl,T.vo,zS,aA ⟨s,dx,lt,lb,lf,ts,v,t,rfl,S,P.nd,P.ok,P.pc,l1,l2,l3,λw H1 s1 f1 h1=>O3 h1 l4<|k H1 s1⟩⟩⟩⟩
theorem zU{ps:List P3}(h:∀q∈ps,df S q):∀q∈ps,vT q:=λq hq=>⟨(h q hq).p0,(h q hq).p1⟩
def gH(l:List Nat)(a b:Nat):Str:=⟨((l.take b).drop a).toArray⟩
inductive tX(CP C:Addr)(vs:List V)(H:Hp)(Q:VK)(E:XK):Prop|i(p dp s dx lt lb lf:Addr)(v:V)(t:Tr)(ts:List Str)(a b:Nat)(_:vs=[.ref p,.int a,.int b])(_:eL CP H p dp s v t (aF ts))(_:dC C H s dx lt lb lf ts)(_:t.aC.length<=1000)(_:ts.length<=10000)(_:(aF ts).length<=500000)(_:(txt (aF ts) t.aC).length<=1000000)(_:a<=b)(_:b<= (txt (aF ts) t.aC).length)(_:∀H',av H H'->Q (.str<|gH (txt (aF ts) t.aC) a b) H')
theorem afq{CE:Addr}(T:nh K CP):cI (tX CP C) (λE=>aL K [("is_between",gi),("parted",me C 32),("texts_of",jd C)] [] [] [("size",CP,kQ CP)] (et:=[("NoPlace",CE)]) (E:=E)) K3 K2:=by
 intro vs H Q E h;obtain⟨p,dp,s,dx,lt,lb,lf,v,t,ts,a,b,rfl,P,S,l1,l2,l3,l4,h1,h2,k⟩:=h;have hz:=P.sz;have hh:=Tr.jS P.ok l1;have zV:(jm s v).lookup ("size":Str)=none:=zT (by decide+kernel) (by decide+kernel)
 refine YS<|gG<|cc<|fW gi rfl<|aj<|ag rfl<|aj<|au<|aj<|qN CP (kQ CP) rfl<|ag rfl ⟨p,dp,_,rfl,P.ob,zV,p,dp,s,v,t,_,rfl,P,aA ⟨_,_,_,rfl,.inl ⟨_,rfl,by lia,by lia,d_<|iF ?_ rfl⟩⟩⟩
 refine cc<|fW gi rfl<|aj<|ag rfl<|aj<|ag rfl<|aj<|qN CP (kQ CP) rfl<|ag rfl ⟨p,dp,_,rfl,P.ob,zV,p,dp,s,v,t,_,rfl,P,aA ⟨_,_,_,rfl,.inl ⟨_,rfl,by lia,by lia,d_<|iF ?_ rfl⟩⟩⟩
 refine cf<|CA<|aQ<|aP (me C 32) rfl<|aj<|jR<|ag rfl ⟨p,CP,dp,_,_,rfl,P.ob,T.cl,T.vo,zS,aj<|ag rfl<|aj<|jR<|ag rfl ⟨p,CP,dp,_,_,rfl,P.ob,T.cl,T.nj,o5,aA ?_⟩⟩;refine⟨v,t,b,s,dx,lt,lb,lf,ts,rfl,P.nd,P.ok,S,zU P.pc,by lia,l1,by lia,by lia,λw v1 v2 t1 t2 H1 s1 hw n1 n2 o1 o2 e1 e2=>au<|aH hw rfl ?_⟩
 obtain⟨c1,c2,c3,c4⟩:=zO t.aC (b:Int) P.pc (by lia) (by rw[<-jV,hz];lia)
 rw[<-e1] at c1 c3;have P1:=P.same s1;have S1:=S.same s1;have g1:t1.aC.length<=1000:=by rw[e1];have:=(vM (ends ts) t.aC b).1;lia
 have oX:=Tr.jS o1 g1;have Dq:t1.sz=((txt (aF ts) t1.aC).length:Nat):=by rw[jV,<-oM c1]
 rw[zar] at c3;have lz:(txt (aF ts) t1.aC).length=b:=by rw[c3,zaq];lia
 refine bP<|fu<|au ⟨rfl,aP (jd C) rfl<|aj<|jR<|ag rfl ⟨p,CP,dp,_,_,rfl,P1.ob,T.cl,T.nj,o5,aj<|aQ<|aP (me C 32) rfl<|aj<|ag rfl<|aj<|ag rfl<|aj<|jR<|ag rfl ⟨p,CP,dp,_,_,rfl,P1.ob,T.cl,T.nj,o5,aA ?_⟩⟩⟩;refine⟨v1,t1,a,s,dx,lt,lb,lf,ts,rfl,n1,o1,S1,zU c1,by lia,g1,by lia,by lia,λw' w1 w2 u1 u2 H2 s2 qY m1 m2 p1 p2 d1 d2=>au<|aH qY rfl<|aA ?_⟩
 obtain⟨b1,b2,b3,b4⟩:=zO t1.aC (a:Int) c1 (by lia) (by rw[<-jV,Dq];lia)
 rw[<-d2] at b2 b4;rw[zar] at b4;have g2:u2.aC.length<=1000:=by rw[d2];have:=(vM (ends ts) t1.aC a).2;lia
 have g3:(txt (aF ts) u2.aC).length<=1000000:=by rw[b4,zao];lia
 refine⟨s,dx,lt,lb,lf,ts,w2,u2,rfl,S1.same s2,m2,p2,b2,g2,l2,l3,λw3 H3 s3 f3 h3=>O3 h3 g3 ?_⟩;have e:tx (aF ts) u2.aC=gH (txt (aF ts) t.aC) a b:=by unfold tx gH;rw[b4,c3]
 rw[e];exact k H3<|s1.trans<|s2.trans s3
theorem vZ{x:RE}(h:ak Γ x σ H λv H1=>∃a,v=.ref a/\(∃xs,ar Γ.K H1 a xs)/\∃W:Nat->Nat->St->Hp->Prop,(∃m,W 0 m σ H1)/\∀j m σ H,W j m σ H->
  ((gb Γ.K a).stop j H/\({D with nx:=aE Γ r D}:Ends).nx σ H)\/((gb Γ.K a).go j H/\∃N:St->Hp->Prop,(∀σ' H',N σ' H'->∃m',m'<m/\W (j+1) m' σ' H')/\∀x H',(gb Γ.K a).gK j H x H'->eS i x σ H' λσ2 H2=>aE Γ body {({D with nx:=aE Γ r D}:Ends) with nx:=N,ct:=N,bk:=({D with nx:=aE Γ r D}:Ends).nx} σ2 H2)):
  aE Γ (.jA i .list [x] body::r) D σ H:=zR _ _ (λ_ _=>Iff.rfl) h
theorem wKC:(("keep":Str)==("cut":Str))=false:=rfl
theorem wPC:(("put":Str)==("cut":Str))=false:=rfl
theorem wCC:(("cut":Str)==("cut":Str))=true:=rfl
theorem wKP:(("keep":Str) !=("put":Str))=true:=rfl
theorem wPP:(("put":Str) !=("put":Str))=false:=rfl
theorem wCP:(("cut":Str) !=("put":Str))=true:=rfl
theorem O4{n:Int}(h:Run l (.keep n::ps) r):∃a l' r',l=a++l'/\r=a++r'/\n=a.length/\Run l' ps r':=by
 cases h with|keep e h=>exact⟨_,_,_,rfl,rfl,e,h⟩
theorem O5{s:Str}(h:Run l (.put s::ps) r):∃r',r=s.cps.toList++r'/\Run l ps r':=by
 cases h with|put h=>exact⟨_,rfl,h⟩
theorem O6{s:Str}(h:Run l (.cut s::ps) r):∃l',l=s.cps.toList++l'/\Run l' ps r:=by
 cases h with|cut h=>exact⟨_,rfl,h⟩
inductive Er(CP C:Addr)(vs:List V)(H:Hp)(Q:VK)(E:XK):Prop|i(p dp s dx lt lb lf a:Addr)(v:V)(t:Tr)(ts:List Str)(xs:List V)(ps:List Pt)(r:List Nat)(_:vs=[.ref p,.ref a])(_:eL CP H p dp s v t (aF ts))(_:dC C H s dx lt lb lf ts)(_:t.aC.length<=1000)(_:ts.length<=10000)(_:(aF ts).length<=500000)(_:(txt (aF ts) t.aC).length<=1000000)(_:H a=some (.lst xs))(_:bc H xs ps)(_:(∀p∈ps,jc p))(_:chainOk "" ps=true)(_:ps.length<=1000000)(_:Run (txt (aF ts) t.aC) ps r)(_:∀H',av H H'->Q .aB H')
abbrev afx(CP C:Addr):List (Str×Addr×Sp):=[("size",CP,kQ CP),("part",CP,tX CP C)]
theorem afy(T:nh K CP):cI (Er CP C) (λE=>aL K [("sizes",Dm),("part_size",oJ)] [] [] (afx CP C) (et:=[("BadFit",CF)]) (E:=E)) KR KQ:=by
 intro vs H Q E h;obtain⟨p,dp,s,dx,lt,lb,lf,a,v,t,ts,xs,ps,r,rfl,P,S,l1,l2,l3,l4,ha,bV,aK,dS,hl,hr,k⟩:=h;have zV:(jm s v).lookup ("size":Str)=none:=zT (by decide+kernel) (by decide+kernel)
 have afz:(jm s v).lookup ("part":Str)=none:=zT (by decide+kernel) (by decide+kernel)
 refine YS<|b_<|aQ<|aP Dm rfl<|aj<|ag rfl<|aA ⟨a,xs,ps,rfl,ha,bV,aK,dS,hl,λw H1 s1 hw=>au<|aH hw rfl ?_⟩;have P1:=P.same s1;refine qN CP (kQ CP) rfl<|ag rfl ⟨p,dp,_,rfl,P1.ob,zV,p,dp,s,v,t,_,rfl,P1,nI ⟨_,rfl,iF (cf ?_) (by rw[hr.over];simp)⟩⟩
 refine CA<|au ?_;refine vZ (ag rfl ⟨a,rfl,⟨_,ar.of (s1 _ _ ha)⟩,iR (K:=K) (a:=a) (xs:=xs) (λi σ H2=>qX4 λ(x:Option V) (m1 m2 r2:List Nat)=>qA4 (σ=[some (.ref p),some (.ref a),some (.int (m1.length:Nat)),x]) (av H H2) (txt (aF ts) t.aC=m1++m2) (Run m2 (ps.drop i) r2))
  ⟨none,[],_,r,rfl,s1,rfl,hr⟩ (λi σ H2 _ ⟨_,_,_,_,_,s2,_,_⟩=>ar.of (s2 _ _ ha)) ?_ ?_⟩)
 ·rintro i x σ H2 hi ⟨x0,m1,m2,r2,rfl,s2,em,dO⟩;obtain⟨q,hq,kx⟩:=bV.get hi;obtain⟨b,rfl,hb⟩:=kx.mono (aY s2);have aU:i<ps.length:=(zak.mp hq).1;have ed:ps.drop i=q::ps.drop (i+1):=by rw[zbo aU,(zak.mp hq).2]
  have oq:=aK q (zaj hq);rw[ed] at dO;have P2:=P.same s2;have S2:=S.same s2;have lm:(txt (aF ts) t.aC).length=m1.length+m2.length:=by rw[em,zqA]
  refine YS<|Ee<|b_<|aQ<|ag rfl<|au<|aH hb rfl<|au<|qO ⟨_,rfl,?_⟩;cases q with
  |keep n=>
   obtain⟨c,l',r',zq⟩:=qx3 (O4 dO);obtain⟨e1,e2,e3,h'⟩:=qa4 zq;refine iF (iF (cf ?_) rfl) wKC;refine YS<|b_<|aQ<|ag rfl<|au<|aH hb rfl<|au<|tK ⟨_,rfl,iT ?_ wKP⟩;refine CA<|bp<|ag rfl<|aP oJ rfl<|aj<|ag rfl<|aA ⟨_,.keep n,rfl,⟨b,rfl,hb⟩,trivial,eK ?_⟩;refine⟨some<|.ref b,m1++c,l',r',?_,s2,by rw[em,e1,zaD],h'⟩
   rw[zqA,e3];rfl
  |put z=>
   obtain⟨r',e2,h'⟩:=O5 dO;refine iF (iF (cf ?_) rfl) wPC;refine YS<|b_<|aQ<|ag rfl<|au<|aH hb rfl<|au<|tK ⟨_,rfl,iF ?_ wPP⟩;exact⟨some<|.ref b,m1,m2,r',rfl,s2,em,h'⟩
  |cut z=>
   obtain⟨l',e1,h'⟩:=O6 dO;have lz:=len_list z;have lm2:m2.length=z.length+l'.length:=by rw[e1,zqA,<-lz]
   refine iT ?_ wCC;refine b_<|Ep CP (tX CP C) rfl<|ag rfl ⟨p,dp,_,rfl,P2.ob,afz,ag rfl<|bp<|ag rfl<|dj<|aQ<|ag rfl<|au<|aH hb rfl ⟨bY oq.1.1,eK ?_⟩⟩;refine⟨p,dp,s,dx,lt,lb,lf,v,t,ts,m1.length,m1.length+z.length,rfl,P2,S2,l1,l2,l3,l4,by lia,by lia,λH3 s3=>?_⟩
   have ec:gH (txt (aF ts) t.aC) m1.length (m1.length+z.length)=z:=by
    apply iJ
    show(((txt (aF ts) t.aC).take _).drop _).toArray.toList=_;rw[em,e1,List.take_length_add_append,lz,zbG,zbd]
   have q9:=s3 _ _ hb;refine aQ<|ag rfl<|au<|aH q9 rfl<|tK ⟨_,rfl,iF (cf ?_) (by lia)⟩
   refine YS<|b_<|aQ<|ag rfl<|au<|aH q9 rfl<|au<|tK ⟨_,rfl,iT ?_ wCP⟩;refine CA<|bp<|ag rfl<|aP oJ rfl<|aj<|ag rfl<|aA ⟨_,.cut z,rfl,⟨b,rfl,q9⟩,oq.1.1,eK ?_⟩;refine⟨some<|.ref b,m1++z.cps.toList,l',r2,?_,s2.trans s3,by rw[em,e1,zaD],h'⟩
   rw[zqA,<-lz];rfl
 ·rintro σ H2 ⟨_,_,_,_,rfl,s2,_,_⟩;exact k H2 s2
theorem Es(F:Int->Int):∀(xs:List P3) (n:Int),(dh F xs n).length+(di F xs n).length<=xs.length+1:=by
 intro xs;induction xs with
 |nil=>intro n;simp[dh,di]
 |cons p xs ih=>
  intro n
  have ih:=ih (n - p.2.1);by_cases z:n<=0
  ·obtain⟨e1,e2⟩:=DZ F z (p::xs);rw[e1,e2];simp
  ·by_cases g:p.2.1<=n
   ·have e1:dh F (p::xs) n=p::dh F xs (n - p.2.1):=by obtain⟨a,b,c⟩:=p;simp only[dh];rw[if_neg z,if_pos g]
    have e2:di F (p::xs) n=di F xs (n - p.2.1):=by obtain⟨a,b,c⟩:=p;simp only[di];rw[if_neg z,if_pos g]
    rw[e1,zau,zau];lia
   ·have e1:(dh F (p::xs) n).length=1:=by obtain⟨a,b,c⟩:=p;simp only[dh];rw[if_neg z,if_neg g];rfl
    have e2:(di F (p::xs) n).length=xs.length+1:=by obtain⟨a,b,c⟩:=p;simp only[di];rw[if_neg z,if_neg g];rfl
    rw[e2,zau];lia
theorem eL.ne{t:Tr}{ts:List Str}(P:eL CP H p dp s' v t S)(St:dC C H s dx lt lb lf ts):p≠s/\p≠lt/\p≠lb/\p≠lf:=by
 refine⟨λz=>?_,λz=>?_,λz=>?_,λz=>?_⟩
 ·have e:=P.ob;rw[z,St.ob] at e
  injection e with e
  injection e with e1 e2 e3
  have:=congrArg List.length e3
  simp[gj,jm] at this
 ·have e:=P.ob;rw[z,St.tx] at e;cases e
 ·have e:=P.ob;rw[z,St.bg] at e;cases e
 ·have e:=P.ob;rw[z,St.fd] at e;cases e
theorem eL.but{t:Tr}{ts:List Str}(P:eL CP H p dp s' v t S)(St:dC C H s dx lt lb lf ts)(b:gF s lt lb lf H H'):eL CP H' p dp s' v t S:=by
 obtain⟨n1,n2,n3,n4⟩:=P.ne St;exact⟨b _ _ P.ob n1 n2 n3 n4,P.nd.mono<|b.cz St,P.ok,P.pc⟩
theorem eL.grow{t:Tr}(T:List Nat)(P:eL CP H p dp s v t S):eL CP H p dp s v t (S++T):=⟨P.ob,P.nd,P.ok,λq hq=>(P.pc q hq).grow.1⟩
theorem O7{z:Str}(hz:z≠""):df (aF<|ts++[z]) (((aF ts).length:Int),(z.length:Int),(z.cps.toList.count 10:Int))/\seg (aF<|ts++[z]) (((aF ts).length:Int),(z.length:Int),(z.cps.toList.count 10:Int))=z.cps.toList:=by
 have e:seg (aF<|ts++[z]) (((aF ts).length:Int),(z.length:Int),(z.cps.toList.count 10:Int))=z.cps.toList:=by
  unfold seg;rw[iy,oU];rw[zar,zar,zbd,len_list,zbn]
 have l1:1<=z.length:=by
  by_cases q:z.length=0
  ·have e0:=zbT (by exact q)
   have e1:z="":=iJ (e0▸rfl)
   exact absurd e1 hz
  ·lia
 refine⟨⟨by lia,by lia,?_,by lia⟩,e⟩
 rw[iy,oU,zqA,<-len_list];lia
def zW(C:Addr)(H:Hp)(p a s dx lt lb lf:Addr)(N:Nat)(ts:List Str)(ps:List Pt)(r:List Nat)(i:Nat)(σ:St)(H2:Hp):Prop:=
 ∃(x4 x5:Option V) (va vr:V) (ta tr:Tr) (us:List Str) (m2 r1 r2:List Nat),σ=[some<|.ref p,some<|.ref a,some va,some vr,x4,x5]/\gF s lt lb lf H H2/\dC C H2 s dx lt lb lf (ts++us)/\Nd H2 ta va/\Nd H2 tr vr/\ta.ok/\tr.ok/\
  (∀q∈ta.aC,df (aF<|ts++us) q)/\(∀q∈tr.aC,df (aF<|ts++us) q)/\txt (aF<|ts++us) ta.aC=r1/\txt (aF<|ts++us) tr.aC=m2/\r=r1++r2/\Run m2 (ps.drop i) r2/\
  ta.aC.length+tr.aC.length<=N+i/\us.length<=i/\(aF us).length<=r1.length
inductive tY(CP C:Addr)(vs:List V)(H:Hp)(Q:VK)(E:XK):Prop|i(p dp s dx lt lb lf a:Addr)(v:V)(t:Tr)(ts:List Str)(xs:List V)(ps:List Pt)(r:List Nat)(_:vs=[.ref p,.ref a])(_:eL CP H p dp s v t (aF ts))(_:dC C H s dx lt lb lf ts)(_:t.aC.length+ps.length<=1000)(_:ts.length+ps.length<=10000)(_:(aF ts).length+r.length<=500000)(_:(txt (aF ts) t.aC).length<=1000000)(_:H a=some (.lst xs))(_:a≠lt)(_:a≠lb)(_:a≠lf)(_:bc H xs ps)(_:(∀p∈ps,jc p))(_:chainOk "" ps=true)(_:Run (txt (aF ts) t.aC) ps r)(_:∀p' o6 v' t' us H',gF s lt lb lf H H'->H p'=none->dC C H' s dx lt lb lf (ts++us)->eL CP H' p' o6 s v' t' (aF<|ts++us)->txt (aF<|ts++us) t'.aC=r->t'.aC.length<=t.aC.length+ps.length->us.length<=ps.length->(aF us).length<=r.length->Q (.ref p') H')
abbrev O8(CP C:Addr):List (Str×Sp):=[("need_fit",Er CP C),("sewn",zP),("node_put",vY C),("parted",me C 32),("part_size",oJ)]
theorem afA:(("put":Str)==("put":Str))=true:=rfl
theorem afB:(("keep":Str)==("put":Str))=false:=rfl
theorem afC:(("cut":Str)==("put":Str))=false:=rfl
theorem afD:(("keep":Str)==("keep":Str))=true:=rfl
theorem afE:(("cut":Str)==("keep":Str))=false:=rfl
theorem afF{E:XK}(T:nh K CP){p dp a lt:Addr}{t:Tr}{N:Nat}{ts:List Str}{r:List Nat}{i:Nat}{x:V}{q:Pt}
  (P:eL CP H p dp s v t (aF ts)) (S0:dC C H s dx lt lb lf ts) (hq:ps[i]?=some q) (oq:jc q) (hx:kr H2 x q) (bN:N+ps.length<=1000) (bt:ts.length+ps.length<=10000) (bs:(aF ts).length+r.length<=500000)
  (I:zW C H p a s dx lt lb lf N ts ps r i σ H2)
  (hD:D.nx=zW C H p a s dx lt lb lf N ts ps r (i+1)) (hC:D.ct=zW C H p a s dx lt lb lf N ts ps r (i+1)):
  aE (aL K (O8 CP C) [] [] [] [("Paper",CP,qZ CP)] (E:=E)) [.ite (.cmp .Eq (.ix (.v 4) (.c (.int 0))) (.c (.str "put"))) [.asg 2 (.call 1 [.v 2,(.call 2 [(.fld (.v 0) "stock"),(.ix (.v 4) (.c (.int 1)))])]),
   .cont] [],
  .asg 5 (.call 3 [.v 3,(.call 4 [.v 4]),(.fld (.v 0) "stock")]),
  .asg 3 (.ix (.v 5)<|.c<|.int 1),
  .ite (.cmp .Eq (.ix (.v 4) (.c (.int 0))) (.c (.str "keep"))) [.asg 2 (.call 1 [.v 2,(.ix (.v 5) (.c (.int 0)))])] []] D (σ.set 4 (some x)) H2:=by
 obtain⟨x4,x5,va,vr,ta,tr,us,m2,r1,r2,zq⟩:=qx10 I;obtain⟨rfl,bu,S,na,nr,oa,orr,pa,pr,ea,er,o7,dO,bl,bu2,Et⟩:=qa16 zq;obtain⟨b,rfl,hb⟩:=hx;have aU:i<ps.length:=(zak.mp hq).1;have ed:ps.drop i=q::ps.drop (i+1):=by rw[zbo aU,(zak.mp hq).2]
 rw[ed] at dO;have P2:=P.but S0 bu;have lr:r.length=r1.length+r2.length:=by rw[o7,zqA]
 have ls:(aF<|ts++us).length=(aF ts).length+(aF us).length:=by rw[iy,zqA]
 have WH:(ts++us).length=ts.length+us.length:=zqA;refine YS<|b_<|aQ<|ag rfl<|au<|aH hb rfl<|au<|qO ⟨_,rfl,?_⟩;cases q with
 |put z=>
  obtain⟨r',e2,h'⟩:=O5 dO;refine iT ?_ afA;have lz:=len_list z;have lr2:r2.length=z.length+r'.length:=by rw[e2,zqA,<-lz]
  refine CA<|aP zP rfl<|aj<|ag rfl<|aj<|aP (vY C) rfl<|aj<|jR<|ag rfl ⟨p,CP,dp,_,_,rfl,P2.ob,T.cl,T.nj,o5,aj<|aQ<|ag rfl<|au<|aH hb rfl<|aA ?_⟩;refine⟨s,dx,lt,lb,lf,ts++us,z,rfl,S,oq.1,by lia,by lia,.inr ⟨oq.2,λv1 H3 t1 b3 S3 n1 o1 e1=>aA ?_⟩⟩
  rw[zaD] at S3;obtain⟨pz,ez⟩:=O7 (ts:=ts++us) oq.2;rw[zaD] at pz ez;have eg:aF (ts++(us++[z]))=aF (ts++us)++z.cps.toList:=by rw[<-zaD,iy,oU]
  have p1:∀q∈t1.aC,df (aF<|ts++(us++[z])) q:=λq hq=>by
   rw[e1] at hq;rw[zad.mp hq];exact pz
  have tu:=b3.cz S;refine⟨va,v1,ta,t1,aF<|ts++(us++[z]),rfl,na.mono tu,n1,oa,o1,λq hq=>by rw[eg];exact(pa q hq).grow.1,p1,λ_ hh=>?_,by lia,by rw[e1];exact Nat.le_of_ble_eq_true rfl,λv4 H4 t4 s4 n4 o4 p4 e4 l4=>?_⟩
  ·rw[hh] at e1;cases e1
  ·have tu4:=aY s4;show D.ct _ _;rw[hC];have et1:txt (aF<|ts++(us++[z])) t1.aC=z.cps.toList:=by rw[e1,de,txt_nil,zai];exact ez
   refine⟨some<|.ref b,x5,v4,vr,t4,tr,us++[z],m2,r1++z.cps.toList,r',rfl,(bu.trans b3).trans<|oZ s4,S3.same s4,n4,(nr.mono tu).mono tu4,o4,orr,p4,λq hq=>by rw[eg];exact(pr q hq).grow.1,?_,?_,?_,h',?_,?_,?_⟩
   ·rw[e4,et1,eg,zN pa,ea]
   ·rw[eg,zN pr,er]
   ·rw[o7,e2,zaD]
   ·have:t1.aC.length=1:=by rw[e1];rfl
    lia
   ·rw[zqA];show us.length+1<=i+1;lia
   ·rw[iy,oU,zqA,zqA];lia
 |keep n=>
  obtain⟨c,l',r',e1,e2,e3,h'⟩:=O4 dO;refine iF (cf ?_) afB;have n1:1<=n:=oq;have hz:tr.sz=((txt (aF<|ts++us) tr.aC).length:Nat):=by rw[jV,<-oM pr]
  have lm:(txt (aF<|ts++us) tr.aC).length=c.length+l'.length:=by rw[er,e1,zqA]
  have hh:=Tr.jS orr (by lia)
  refine CA<|aP (me C 32) rfl<|aj<|ag rfl<|aj<|aP oJ rfl<|aj<|ag rfl<|aA ⟨_,.keep n,rfl,⟨b,rfl,hb⟩,trivial,aj<|jR<|ag rfl ⟨p,CP,dp,_,_,rfl,P2.ob,T.cl,T.nj,o5,aA ?_⟩⟩;refine⟨vr,tr,n,s,dx,lt,lb,lf,ts++us,rfl,nr,orr,S,zU pr,by lia,by lia,by lia,by lia,λw v1 v2 t1 t2 H3 s3 hw O9 n2 o1 o2 d1 d2=>?_⟩
  obtain⟨c1,c2,c3,c4⟩:=zO tr.aC n pr (by lia) (by rw[<-jV,hz];lia)
  have cs:=Es (ends<|ts++us) tr.aC n;rw[<-d1] at c1 c3;rw[<-d2] at c2 c4;rw[<-d1,<-d2] at cs;have en:n.toNat=c.length:=by lia
  have Eu:txt (aF<|ts++us) t1.aC=c:=by rw[c3,er,e1,en,zbG]
  have Ew:txt (aF<|ts++us) t2.aC=l':=by rw[c4,er,e1,en,zbd]
  have q9:=s3 _ _ hb;have tu3:=aY s3;refine CA<|aQ<|ag rfl<|au<|aH hw rfl ?_;refine YS<|b_<|aQ<|ag rfl<|au<|aH q9 rfl<|au<|qO ⟨_,rfl,iT ?_ afD⟩;refine CA<|aP zP rfl<|aj<|ag rfl<|aj<|aQ<|ag rfl<|au<|aH hw rfl<|aA ?_;refine⟨va,v1,ta,t1,aF<|ts++us,rfl,na.mono tu3,O9,oa,o1,pa,c1,λ_ z=>?_,by lia,by lia,λv4 H4 t4 s4 n4 o4 p4 e4 l4=>?_⟩
  ·rw[z] at Eu;have:c=[]:=by rw[<-Eu];rfl
   rw[this] at e3
   simp at e3;lia
  ·show D.nx _ _;rw[hD];refine⟨some<|.ref b,some<|.ref w,v4,v2,t4,t2,us,l',r1++c,r',rfl,(bu.trans<|oZ s3).trans<|oZ s4,(S.same s3).same s4,n4,n2.mono<|aY s4,o4,o2,p4,c2,?_,Ew,?_,h',by lia,by lia,?_⟩
   ·rw[e4,ea,Eu]
   ·rw[o7,e2,zaD]
   ·rw[zqA];lia
 |cut z=>
  obtain⟨l',e1,h'⟩:=O6 dO;refine iF (cf ?_) afC;have lz:=len_list z;have hz:tr.sz=((txt (aF<|ts++us) tr.aC).length:Nat):=by rw[jV,<-oM pr]
  have lm:(txt (aF<|ts++us) tr.aC).length=z.length+l'.length:=by rw[er,e1,zqA,<-lz]
  have hh:=Tr.jS orr (by lia)
  refine CA<|aP (me C 32) rfl<|aj<|ag rfl<|aj<|aP oJ rfl<|aj<|ag rfl<|aA ⟨_,.cut z,rfl,⟨b,rfl,hb⟩,oq.1.1,aj<|jR<|ag rfl ⟨p,CP,dp,_,_,rfl,P2.ob,T.cl,T.nj,o5,aA ?_⟩⟩;refine⟨vr,tr,(z.length:Nat),s,dx,lt,lb,lf,ts++us,rfl,nr,orr,S,zU pr,by lia,by lia,by lia,by lia,λw v1 v2 t1 t2 H3 s3 hw O9 n2 o1 o2 d1 d2=>?_⟩
  obtain⟨c1,c2,c3,c4⟩:=zO tr.aC (z.length:Nat) pr (by lia) (by rw[<-jV,hz];lia)
  have cs:=Es (ends<|ts++us) tr.aC (z.length:Nat);rw[<-d2] at c2 c4;rw[<-d1,<-d2] at cs;have Ew:txt (aF<|ts++us) t2.aC=l':=by rw[c4,er,e1,zar,lz,zbd]
  have q9:=s3 _ _ hb;refine CA<|aQ<|ag rfl<|au<|aH hw rfl ?_;refine YS<|b_<|aQ<|ag rfl<|au<|aH q9 rfl<|au<|qO ⟨_,rfl,iF (cf ?_) afE⟩;show D.nx _ _;rw[hD];exact⟨some<|.ref b,some<|.ref w,va,v2,ta,t2,us,l',r1,r2,rfl,bu.trans<|oZ s3,S.same s3,na.mono<|aY s3,n2,oa,o2,pa,c2,ea,Ew,o7,h',by lia,by lia,Et⟩
theorem afK(T:nh K CP):cI (tY CP C) (λE=>aL K (O8 CP C) [] [] [] [("Paper",CP,qZ CP)] (E:=E)) K5 K4:=by
 intro vs H Q E h;obtain⟨p,dp,s,dx,lt,lb,lf,a,v,t,ts,xs,ps,r,rfl,P,S,l1,l2,l3,l4,ha,a1,a2,a3,bV,aK,dS,hr,k⟩:=h;have lx:=Paired.length bV;have a0:a≠s:=λz=>by rw[z,S.ob] at ha;cases ha
 refine dA<|aP (Er CP C) rfl<|aj<|ag rfl<|aj<|ag rfl<|aA ⟨p,dp,s,dx,lt,lb,lf,a,v,t,ts,xs,ps,r,rfl,P,S,by lia,by lia,by lia,l4,ha,bV,aK,dS,by lia,hr,λH1 s1=>?_⟩
 have P1:=P.same s1;have S1:=S.same s1;refine CA<|au<|CA<|jR<|ag rfl ⟨p,CP,dp,_,_,rfl,P1.ob,T.cl,T.vo,zS,?_⟩;refine vZ<|ag rfl ⟨a,rfl,⟨_,ar.of<|s1 _ _ ha⟩,iR (K:=K) (a:=a) (xs:=xs) (zW C H p a s dx lt lb lf t.aC.length ts ps r) ?_ ?_ ?_ ?_⟩
 ·exact⟨none,none,.aB,v,.nil,t,[],_,[],r,rfl,oZ s1,by rw[zai];exact S1,rfl,P1.nd,trivial,P.ok,λq hq=>(by cases hq),by rw[zai];exact P.pc,rfl,by rw[zai],rfl,hr,by show 0+_<=_;lia,zqZ _,zqZ _⟩
 ·rintro i σ H2 _ zq;obtain⟨_,_,_,_,_,_,_,_,_,_,zq⟩:=qx10 zq;obtain⟨_,bu,_⟩:=qa3 zq;exact ar.of<|bu _ _ ha a0 a1 a2 a3
 ·intro i x σ H2 hi I;obtain⟨q,hq,kx⟩:=bV.get hi;have bu:gF s lt lb lf H H2:=by obtain⟨_,_,_,_,_,_,_,_,_,_,zq⟩:=qx10 I;obtain⟨_,bu,_⟩:=qa3 zq;exact bu
  exact afF T P S hq (aK q<|zaj hq) (kx.mono<|bu.cz S) l1 l2 l3 I rfl rfl
 ·rintro σ H2 zq;obtain⟨x4,x5,va,vr,ta,tr,us,m2,r1,r2,zq⟩:=qx10 zq;obtain⟨rfl,bu,S2,na,nr,oa,orr,pa,pr,ea,er,o7,dO,bl,bu2,Et⟩:=qa16 zq;rw[lx,List.drop_length] at dO;have e2:r2=[]:=by cases dO;rfl
  rw[e2,zai] at o7;have P2:=P.but S bu;refine bP<|O1 CP (qZ CP) rfl<|jR<|ag rfl ⟨p,CP,dp,_,_,rfl,P2.ob,T.cl,T.nj,o5,ag rfl λp' o6 f1 f2 f3=>?_⟩;refine⟨p',o6,s,va,rfl,aw,λH3 h3 hk=>⟨rfl,?_⟩⟩;have s3:av H2 H3:=λb o e=>hk b o (by rw[aI<|bf e f1,aI<|bf e f2];exact e) (bf e f1)
  have fp:H p'=none:=by
   cases hq:H p' with
   |none=>rfl
   |some o=>
    exfalso
    by_cases z1:p'=s
    ·rw[z1,S2.ob] at f1;cases f1
    ·by_cases z2:p'=lt
     ·rw[z2,S2.tx] at f1;cases f1
     ·by_cases z3:p'=lb
      ·rw[z3,S2.bg] at f1;cases f1
      ·by_cases z4:p'=lf
       ·rw[z4,S2.fd] at f1;cases f1
       ·rw[bu _ _ hq z1 z2 z3 z4] at f1;cases f1
  exact k p' o6 va ta us H3 (bu.trans<|oZ s3) fp (S2.same s3) ⟨h3,na.mono<|aY s3,oa,pa⟩ (by rw[ea,o7]) (by lia) (by lia) (by rw[o7];exact Et)
inductive Ex(CP C:Addr)(vs:List V)(H:Hp)(Q:VK)(E:XK):Prop|i(x:Str)(_:vs=[.str x])(_:good x)(_:∀p dp s dx lt lb lf v t ts H',av H H'->dC C H' s dx lt lb lf ts->eL CP H' p dp s v t (aF ts)->txt (aF ts) t.aC=x.cps.toList->t.aC.length<=1->ts.length<=1->(aF ts).length<=x.length->H p=none->H s=none->H lt=none->H lb=none->H lf=none->Q (.ref p) H')
theorem afL{CT:Addr}:cI (Ex CP C) (λE=>aL K [("need_text",oS CT),("node_put",vY C)] [] [] [] [("Stock",C,D_ C),("Paper",CP,qZ CP)] (E:=E)) KP KO:=by
 intro vs H Q E h;obtain⟨x,rfl,gx,k⟩:=h;refine dA<|aP (oS CT) rfl<|aj<|ag rfl<|aA ⟨_,rfl,.inl ⟨x,rfl,gx,CA<|afl C (D_ C) rfl λs dx f1 f2 f3=>⟨s,dx,rfl,aw,λlt lb lf H1 S1 g1 g2 g3 hk=>⟨rfl,?_⟩⟩⟩⟩;have s1:=λb o e=>hk b o (by rw[aI<|bf e f1,aI<|bf e f2];exact e) (bf e f1)
 have fr:∀b,upd (upd H dx<|.own s) s (.ins C dx []) b=none->H b=none:=λb e=>by
  cases hq:H b with
  |none=>rfl
  |some o=>rw[aI<|bf hq f1,aI<|bf hq f2,hq] at e;cases e
 have q1:=fr lt g1;have q2:=fr lb g2;have q3:=fr lf g3;have fin:∀(H2:Hp) (v:V) (t:Tr) (ts:List Str),gF s lt lb lf H1 H2->dC C H2 s dx lt lb lf ts->Nd H2 t v->t.ok->(∀q∈t.aC,df (aF ts) q)->txt (aF ts) t.aC=x.cps.toList->t.aC.length<=1->ts.length<=1->(aF ts).length<=x.length->
   ∀p dp,H2 p=none->H2 dp=none->dp≠p->qZ CP [.ref p,.ref s,v] (upd (upd H2 dp<|.own p) p<|.ins CP dp []) (λv H2=>v=.aB/\Q (.ref p) H2) E:=by
  intro H2 v t ts b2 S2 n2 o2 p2 e2 l2 l3 l4 p dp h1 h2 h3;have s2:av H H2:=λb o e=>b2 b o (s1 _ _ e) (bf e f1) (bf e q1) (bf e q2) (bf e q3);refine⟨p,dp,s,v,rfl,aw,λH3 h3 hk=>⟨rfl,?_⟩⟩;have s3:=λb o e=>hk b o (by rw[aI<|bf e h1,aI<|bf e h2];exact e) (bf e h1)
  exact k p dp s dx lt lb lf v t ts H3 (s2.trans s3) (S2.same s3) ⟨h3,n2.mono<|aY s3,o2,p2⟩ e2 l2 l3 l4 (s2.free h1) f1 q1 q2 q3
 refine bP<|O1 CP (qZ CP) rfl<|ag rfl<|aP (vY C) rfl<|aj<|ag rfl<|aj<|ag rfl<|aA ⟨s,dx,lt,lb,lf,[],x,rfl,S1,gx,zqZ _,zqZ _,?_⟩;by_cases hx:x=""
 ·refine .inl ⟨hx,fin H1 .aB .nil [] (oZ<|av.refl _) S1 rfl trivial (λq hq=>(by cases hq)) (hx▸rfl) (zqZ _) (zqZ _)<|zqZ _⟩
 ·obtain⟨pz,ez⟩:=O7 (ts:=[]) hx;refine .inr ⟨hx,λv H2 t b2 S2 n2 o2 e2=>fin H2 v t [x] b2 S2 n2 o2 (λq hq=>?_) ?_ ?_ (zqR _) ?_⟩
  ·rw[e2] at hq;rw[zad.mp hq];exact pz
  ·rw[e2,de,txt_nil,zai];exact ez
  ·rw[e2];exact zqR _
  ·rw[oU];exact zqR _
theorem pick{its:List V}{j:Int}(h0:0<=j)(h1:j<its.length):∃v∈its,dE its j=some v:=by
 have nB:j.toNat<its.length:=by lia
 refine⟨its[j.toNat],zaQ nB,?_⟩;have e:=jz (xs:=its) (j:=j.toNat) (v:=its[j.toNat]) (by simp)
 rw[show((j.toNat:Nat):Int)=j by lia] at e
 exact e
theorem Ey{R:α->β->Prop}:∀{ps:List β}{p:β}{xs:List α},Paired R xs (ps++[p])->∃tZ x,xs=tZ++[x]/\Paired R tZ ps/\R x p:=by
 intro ps p;induction ps with
 |nil=>intro _ h;cases h with|cons h r=>cases r;exact⟨[],_,rfl,.nil,h⟩
 |cons q ps ih=>intro _ h;cases h with|cons h r=>obtain⟨tZ,x,e,a,b⟩:=ih r;exact⟨_::tZ,x,e▸rfl,.cons h a,b⟩
section
variable {Γ:bo}{D:Ends}{σ:St}{H:Hp}{r:List RS}{Q:VK}
theorem q_(h:Q (.int<|-i) H):ak Γ (.neg<|.c<|.int i) σ H Q:=h
theorem O_{e:RE}(h:ak Γ e σ H λv H1=>ak Γ o σ H1 λx H2=>ak Γ ix σ H2 λy H3=>xW x y v H3 λH4=>aE Γ r D σ H4):aE Γ (.set o ix e::r) D σ H:=h
theorem Ez{x:RE}(h:ak Γ x σ H λv H1=>∃a,v=.ref a/\(∃xs,ar Γ.K H1 a xs)/\∃W:Nat->Nat->St->Hp->Prop,(∃m,W 0 m σ H1)/\∀j m σ H,W j m σ H->
  ((gb Γ.K a).stop j H/\({D with nx:=aE Γ r D}:Ends).nx σ H)\/((gb Γ.K a).go j H/\∃N:St->Hp->Prop,(∀σ' H',N σ' H'->∃m',m'<m/\W (j+1) m' σ' H')/\∀x H',(gb Γ.K a).gK j H x H'->ke Γ.K is.length (jH is) x σ H' λσ2 H2=>aE Γ body {({D with nx:=aE Γ r D}:Ends) with nx:=N,ct:=N,bk:=({D with nx:=aE Γ r D}:Ends).nx} σ2 H2)):
  aE Γ (.hX is .list [x] body::r) D σ H:=zR _ _ (λ_ _=>Iff.rfl) h
end
theorem EA(n:Nat):gN (n+1) (-1)=some n:=by
 unfold gN;have:¬(0:Int)<= -1:=by lia
 rw[if_neg this,if_pos (by lia)]
 congr 1
 lia
theorem Pa(h:jc p):lV p:=by
 cases p with
 |keep n=>trivial
 |put s=>exact h.1.2
 |cut s=>exact h.1.2
theorem gtI{x y:Int}(q:Q (.bl<|decide<|y<x) H):bX K .Gt (.int x) (.int y) H Q:=⟨trivial,q⟩
theorem afN(h:sg x)(hl:x.length<=1000000):good x:=⟨hl,h⟩
section
variable {Γ:bo}{D:Ends}{σ:St}{H:Hp}{r:List RS}{Q:VK}
theorem Pb(h:ak Γ a σ H λx H1=>ak Γ lo σ H1 λi H2=>∃i':Int,i=.int i'/\ak Γ hi σ H2 λj H3=>∃j':Int,j=.int j'/\sk Γ.K x (some i') (some j') H3 Q):ak Γ (.sl a (some lo)<|some hi) σ H Q:=h
theorem Pd{x:RE}(h:ak Γ x σ H λv H1=>∃n:Int,[v]=[.int n]/\ -(2 ^ 62)<=n/\n<2 ^ 62/\∃W:Nat->Nat->St->Hp->Prop,(∃m,W 0 m σ H1)/\∀j m σ H,W j m σ H->
  ((lj 0 n.toNat).stop j H/\({D with nx:=aE Γ r D}:Ends).nx σ H)\/((lj 0 n.toNat).go j H/\∃N:St->Hp->Prop,(∀σ' H',N σ' H'->∃m',m'<m/\W (j+1) m' σ' H')/\∀x H',(lj 0 n.toNat).gK j H x H'->eS i x σ H' λσ2 H2=>aE Γ body {({D with nx:=aE Γ r D}:Ends) with nx:=N,ct:=N,bk:=({D with nx:=aE Γ r D}:Ends).nx} σ2 H2)):
  aE Γ (.jA i .gZ [x] body::r) D σ H:=zR _ _ (λ_ _=>Iff.rfl) h
end
theorem t6{i j:Int}(h:Q (.int<|i - j) H):lJ K .Sub (.int i) (.int j) H Q:=⟨trivial,h⟩
theorem rf{x y:Int}(q:Q (.bl<|decide<|x<=y) H):bX K .LtE (.int x) (.int y) H Q:=⟨trivial,q⟩
theorem ltI{x y:Int}(q:Q (.bl<|decide<|x<y) H):bX K .Lt (.int x) (.int y) H Q:=⟨trivial,q⟩
theorem Pe{x y:Int}(q:Q (.bl<|decide<|y<=x) H):bX K .GtE (.int x) (.int y) H Q:=⟨trivial,q⟩
theorem afO{t a b:RE}(h:bD Γ t σ H λc H1=>if c=true then ak Γ a σ H1 Q else ak Γ b σ H1 Q):ak Γ (.oh t a b) σ H Q:=h
end L2.N
namespace L2
open PySem PySem.Spec PyProof.Rows
theorem zX{is:List Nat}{e:RE}(h:ak Γ e σ H λx H1=>ke Γ.K is.length (jH is) x σ H1 (aE Γ r D)):aE Γ (.oi is e::r) D σ H:=h
theorem t_{K:Frag}{i:Nat}{w:V}{Q:St->Hp->Prop}(ht:H t=some (.tup [v,w]))(q:Q ((σ.set i<|some v).set j<|some w) H):ke K [i,j].length (jH [i,j]) (.ref t) σ H Q:=
 ⟨t,_,rfl,.inl<|aM.of ht,rfl,_,_,rfl,_,_,rfl,rfl,q⟩
end L2
namespace L2.N
open PySem PySem.Spec L2.B
section
variable {K:Frag}{H:Hp}{Q:VK}{Γ:bo}{σ:St}{D:Ends}
theorem iP{r:List RE}(h:ak Γ a σ H λx H1=>∃c,x=.bl c/\if c=true then ak Γ (.and (b::r)) σ H1 Q else Q (.bl false) H1):ak Γ (.and (a::b::r)) σ H Q:=h
theorem o8(h:ak Γ a σ H Q):ak Γ (.and [a]) σ H Q:=h
theorem rg(h:ak Γ a σ H λx H1=>∃c,x=.bl c/\if c=true then Q (.bl true) H1 else ak Γ b σ H1 Q):ak Γ (.or [a,b]) σ H Q:=h
theorem zY{a b d:RE}(h:ak Γ a σ H λx H1=>ak Γ b σ H1 λy H2=>bX Γ.K op x y H2 λz H3=>∃k,z=.bl k/\(if k=true then ak Γ d σ H3 λw H4=>bX Γ.K cJ y w H4 Q else Q (.bl false) H3)):ak Γ (.lL op cJ a b d) σ H Q:=h
theorem zZ{a b d:RE}{QT:Bool->Hp->Prop}(h:ak Γ (.lL op cJ a b d) σ H λz H3=>∃k,z=.bl k/\QT k H3):bD Γ (.lL op cJ a b d) σ H QT:=h
theorem EB(h:aW Γ as σ H λvs H1=>yX Γ.K vs H1 λx H2=>jB Γ.K x H2 λb=>QT b H2):bD Γ (.xt CS as) σ H QT:=h
theorem Pf(h:aW Γ as σ H λvs H1=>yY Γ.K vs H1 λx H2=>jB Γ.K x H2 λb=>QT b H2):bD Γ (.xt CU as) σ H QT:=h
end
def gV:Option Nat->V
 |none=>.aB
 |some n=>.int n
def iz(H:Hp)(t:Addr)(a h:Nat)(g:Option Nat):Prop:=H t=some (.tup [.int a,.int h,gV g])
theorem afP(g:Option Nat):decide (gV g=.aB)=g.isNone:=by cases g<;>simp[gV]
section
variable {K:Frag}
inductive jW(vs:List V)(H:Hp)(Q:VK)(E:XK):Prop|i(t:Addr)(a h:Nat)(g:Option Nat)(_:vs=[.ref t])(_:iz H t a h g)(_:Q (.int (min a h:Nat)) H)
theorem afQ:cI (jW) (λE=>aL K [] [] (E:=E)) K7 oF:=by
 intro vs H Q E h;obtain⟨t,a,h,g,rfl,ha,q⟩:=h;refine bP<|lZ<|aj<|aQ<|ag rfl<|au<|aH ha rfl<|aj<|aQ<|ag rfl<|au<|aH ha rfl<|aA ?_;show Q (.int (if (h:Int) < (a:Int) then (h:Int) else (a:Int))) H
 rw[show(if (h:Int) < (a:Int) then (h:Int) else (a:Int))=((min a h:Nat):Int) by lia]
 exact q
inductive nJ(vs:List V)(H:Hp)(Q:VK)(E:XK):Prop|i(t:Addr)(a h:Nat)(g:Option Nat)(_:vs=[.ref t])(_:iz H t a h g)(_:Q (.int (max a h:Nat)) H)
theorem afR:cI (nJ) (λE=>aL K [] [] (E:=E)) K8 oF:=by
 intro vs H Q E h;obtain⟨t,a,h,g,rfl,ha,q⟩:=h;refine bP<|lZ<|aj<|aQ<|ag rfl<|au<|aH ha rfl<|aj<|aQ<|ag rfl<|au<|aH ha rfl<|aA ?_;show Q (.int (if (h:Int) >(a:Int) then (h:Int) else (a:Int))) H
 rw[show(if (h:Int) >(a:Int) then (h:Int) else (a:Int))=((max a h:Nat):Int) by lia]
 exact q
inductive EC(vs:List V)(H:Hp)(Q:VK)(E:XK):Prop|i(t:Addr)(a h:Nat)(g:Option Nat)(_:vs=[.ref t])(_:iz H t a h g)(_:Q (.bl<|decide<|a=h) H)
theorem afS:cI (EC) (λE=>aL K [] [] (E:=E)) K9 oF:=by
 intro vs H Q E h;obtain⟨t,a,h,g,rfl,ha,q⟩:=h;refine bP<|eZ<|aQ<|ag rfl<|au<|aH ha rfl<|aQ<|ag rfl<|au<|aH ha rfl<|iN ?_;rw[show decide ((a:Int)=(h:Int))=decide (a=h) by lia]
 exact q
inductive v5(vs:List V)(H:Hp)(Q:VK)(E:XK):Prop|i(g:Option Nat)(_:vs=[gV g])(_:Q (.bl true) H)
theorem afT:cI (v5) (λE=>aL K [("is_whole",lY)] [] (E:=E)) CV iH:=by
 intro vs H Q E h;obtain⟨g,rfl,q⟩:=h;refine bP<|rg<|eZ<|ag rfl<|au ⟨rfl,_,rfl,?_⟩;cases g with
 |none=>exact iT q rfl
 |some n=>
  exact iF (iP<|aP lY rfl<|aj<|ag rfl<|aA ⟨_,rfl,.inl ⟨_,rfl,_,rfl,iT (o8<|eZ<|ag rfl<|au<|N.Pe (q)) rfl⟩⟩) rfl
inductive rj(vs:List V)(H:Hp)(Q:VK)(E:XK):Prop|i(t:Addr)(a h:Nat)(g:Option Nat)(n:Nat)(_:vs=[.ref t,.int n])(_:iz H t a h g)(_:a<=n)(_:h<=n)(_:Q (.bl true) H)
theorem afU:cI (rj) (λE=>aL K [("is_between",gi),("is_goal",v5)] [] (E:=E)) CY CW:=by
 intro vs H Q E h;obtain⟨t,a,h,g,n,rfl,ha,h1,h2,q⟩:=h;refine YS<|gG<|cc<|jk<|ag rfl<|ny ha<|iF (b_<|dj<|ag rfl<|.inr ⟨_,aM.of ha,au<|nI ⟨_,rfl,iF (cf (bP<|iP<|aP gi rfl<|aj<|aQ<|ag rfl<|au<|aH ha rfl<|aj<|au<|aj<|ag rfl<|aA ⟨_,_,_,rfl,.inl ⟨_,rfl,by lia,by lia,_,rfl,iT ?_ rfl⟩⟩)) (rfl)⟩⟩) rfl
 refine iP<|aP gi rfl<|aj<|aQ<|ag rfl<|au<|aH ha rfl<|aj<|au<|aj<|ag rfl<|aA ⟨_,_,_,rfl,.inl ⟨_,rfl,by lia,by lia,_,rfl,iT ?_ rfl⟩⟩
 exact o8<|aP v5 rfl<|aj<|aQ<|ag rfl<|au<|aH ha rfl<|aA ⟨g,rfl,q⟩
variable {CP C:Addr}
theorem Pg{b:Bool}{QT:Bool->Hp->Prop}(h:σ[i]?=some (some<|.bl b))(q:QT b H):bD Γ (.v i) σ H QT:=⟨_,h,q⟩
end
theorem Ph{i k:Nat}{u w:V}{Q:St->Hp->Prop}(ht:H t=some (.tup [u,v,w]))(q:Q (((σ.set i<|some u).set j<|some v).set k<|some w) H):ke K [i,j,k].length (jH [i,j,k]) (.ref t) σ H Q:=
 ⟨t,_,rfl,.inl<|aM.of ht,rfl,_,_,rfl,_,_,rfl,_,_,rfl,rfl,q⟩
theorem v7(h:ak Γ a σ H λx H1=>ak Γ hi σ H1 λj H3=>∃j':Int,j=.int j'/\sk Γ.K x none (some j') H3 Q):ak Γ (.sl a none<|some hi) σ H Q:=h
theorem afV(xs:List V)(n:Nat):fK xs none (some (n:Int))=xs.take n:=by
 unfold fK;rw[HT.Bi,HT.pU];rw[zaW,Nat.sub_zero];by_cases h:n<=xs.length
 ·rw[zaT h]
 ·rw[Nat.min_eq_right (by lia),zav<|zqR _,zav (by lia)]
section
variable {K:Frag}
def gD:Option Nat->PyData
 |none=>.none
 |some n=>.int n
theorem afW(H:Hp)(g:Option Nat):Is H (gD g) (gV g):=by cases g<;>rfl
theorem ED(a h:Nat)(g:Option Nat):SeqAt.shaped (.tuple [.int a,.int h,gD g])=true:=by cases g<;>rfl
theorem EE{g:Option Nat}(ht:iz H t a h g):Is H (.tuple [.int a,.int h,gD g]) (.ref t):=⟨t,_,rfl,ht,.int a,[.int h,gV g],rfl,rfl,.int h,[gV g],rfl,rfl,gV g,[],rfl,afW H g,rfl⟩
theorem afX{a h:Nat}{g:Option Nat}(ht:iz H t a h g)(gY:iz H t' a h g)(q:Q (.bl false) H):bX K .NotEq (.ref t) (.ref t') H Q:=by
 refine⟨_,_,EE ht,EE gY,ED a h g,ED a h g,?_⟩;rw[SeqAt.eqv_refl _<|SeqAt.canLay_of_shaped<|ED a h g];exact q
end
abbrev Cu:=Nat×Nat×Option Nat
def jn(H:Hp)(v:V)(c:Cu):Prop:= ∃t,v=.ref t/\iz H t c.1 c.2.1 c.2.2
theorem jn.same(h:jn H v c)(s:av H H'):jn H' v c:=by
 obtain⟨t,e,h⟩:=h;exact⟨t,e,s _ _ h⟩
abbrev bS(H:Hp):List V->List Cu->Prop:=Paired (jn H)
theorem bS.same(h:bS H vs cs)(s:av H H'):bS H' vs cs:=L2.Paired.fZ h λ_ _ x=>x.same s
theorem iA:∀{vs:List V}{cs:List Cu}{i:Nat}{v:V},bS H vs cs->vs[i]?=some v->∃c,cs[i]?=some c/\jn H v c:=by
 intro vs cs i v p h;induction p generalizing i with
 |nil=>simp at h
 |cons x r ih=>cases i with|zero=>cases h;exact⟨_,rfl,x⟩|succ i=>exact ih (by simpa using h)
theorem z0:∀{vs:List V}{cs:List Cu}{i:Nat}{c:Cu},bS H vs cs->cs[i]?=some c->∃v,vs[i]?=some v/\jn H v c:=by
 intro _ _ i _ p h;induction p generalizing i with
 |nil=>simp at h
 |cons x r ih=>cases i with|zero=>cases h;exact⟨_,rfl,x⟩|succ i=>exact ih (by simpa using h)
def keyOf(c:Cu)(k:Nat):T3:=((min c.1 c.2.1:Nat),(max c.1 c.2.1:Nat),(k:Nat))
def iQ:Nat->List Cu->List T3
 |_,[]=>[]
 |k,c::cs=>keyOf c k::iQ (k+1) cs
theorem o9:∀(k:Nat) (cs:List Cu),(iQ k cs).length=cs.length
 |_,[]=>rfl
 |k,c::cs=>by simp[iQ,o9 (k+1) cs]
theorem EF:∀{k:Nat}{cs:List Cu}{t:T3},t∈iQ k cs->∃i c,cs[i]?=some c/\t=keyOf c (k+i)
 |k,c::cs,t,h=>by
  rcases zaa.mp h with rfl|h
  ·exact⟨0,c,rfl,rfl⟩
  ·obtain⟨i,c',e,rfl⟩:=EF h;exact⟨i+1,c',by simpa using e,by lia⟩
theorem keys_nodup:∀(k:Nat) (cs:List Cu),(iQ k cs).Nodup
 |_,[]=>List.nodup_nil
 |k,c::cs=>by
  refine zbi.mpr ⟨λh=>?_,keys_nodup (k+1) cs⟩;obtain⟨i,c',_,e⟩:=EF h;have:((k:Nat):Int)=((k+1+i:Nat):Int):=congrArg (λt:T3=>t.2.2) e;lia
theorem EG:∀(k:Nat) (cs:List Cu) (c:Cu),iQ k (cs++[c])=iQ k cs++[keyOf c<|k+cs.length]
 |k,[],c=>rfl
 |k,d::cs,c=>by
  show keyOf d k::iQ (k+1) (cs++[c])=_;rw[EG (k+1) cs c];show _=keyOf d k::(iQ (k+1) cs++[keyOf c<|k+(cs.length+1)]);rw[show k+1+cs.length=k+(cs.length+1) by lia]
def ij(cs:List Cu)(us:List T3):Prop:=us.Perm (iQ 0 cs)/\us.Pairwise λa b=>d5 a b=true
theorem Pj:∀{us ws:List T3},us.Perm ws->(us.Pairwise λa b=>d5 a b=true)->(ws.Pairwise λa b=>d5 a b=true)->us=ws
 |[],ws,h,_,_=>(List.nil_perm.mp h).symm
 |u::us,[],h,_,_=>absurd h.length_eq (by simp)
 |u::us,w::ws,h,hu,hw=>by
  have e:u=w:=by
   by_cases z:u=w
   ·exact z
   ·have h1:u∈ws:=by
     rcases zaa.mp (h.subset<|.head _) with x|x
     ·exact absurd x z
     ·exact x
    have h2:w∈us:=by
     rcases zaa.mp (h.symm.subset<|.head _) with x|x
     ·exact absurd x.symm z
     ·exact x
    have b:=(zbt.mp hu).1 w h2;rw[Lg ((zbt.mp hw).1 u h1)] at b;cases b
  subst e;rw[Pj (List.Perm.cons_inv h) (zbt.mp hu).2 (zbt.mp hw).2]
theorem ij.eq{us ws:List T3}(h:ij cs us)(h':ij cs ws):us=ws:=Pj (h.1.trans h'.1.symm) h.2 h'.2
def near(lo hi b e:Nat):Bool:=if b=hi then (decide (lo=hi)||decide (b=e)) else decide (b<hi)
abbrev Gr:=Nat×Nat×List Nat
def cm(gs:List Gr)(t:T3):List Gr:=match gs.getLast? with
 |none=>gs++[(t.1.toNat,t.2.1.toNat,[t.2.2.toNat])]
 |some g=>if near g.1 g.2.1 t.1.toNat t.2.1.toNat=true then gs.dropLast++[(g.1,max g.2.1 t.2.1.toNat,g.2.2++[t.2.2.toNat])] else gs++[(t.1.toNat,t.2.1.toNat,[t.2.2.toNat])]
def groups(us:List T3):List Gr:=us.foldl cm []
theorem Pk(us:List T3)(t:T3):groups (us++[t])=cm (groups us) t:=by unfold groups;rw[List.foldl_append];rfl
theorem Pl(n:Nat):∀(us:List T3) (gs:List Gr),(∀t∈us,t.2.2.toNat<n)->(∀g∈gs,g.2.2≠ []/\∀k∈g.2.2,k<n)->∀g∈us.foldl cm gs,g.2.2≠ []/\∀k∈g.2.2,k<n
 |[],gs,_,h=>h
 |t::us,gs,hu,h=>by
  refine Pl n us _ (λx hx=>hu x<|.tail _ hx) ?_;have ht:=hu t (.head _);have one:∀g∈gs++[((t.1.toNat,t.2.1.toNat,[t.2.2.toNat]):Gr)],g.2.2≠ []/\∀k∈g.2.2,k<n:=by
   intro g hg;rcases zae.mp hg with hg|hg
   ·exact h g hg
   ·rw[zad.mp hg];exact⟨by lia,λk hk=>by rw[zad.mp hk];exact ht⟩
  unfold cm
  split
  ·exact one
  ·rename_i g0 e0
   split
   ·intro g hg;rcases zae.mp hg with hg|hg
    ·exact h g (zbU _ hg)
    ·rw[zad.mp hg];refine⟨by simp,λk hk=>?_⟩
     rcases zae.mp hk with hk|hk
     ·exact (h g0 (zbV e0)).2 k hk
     ·rw[zad.mp hk];exact ht
   ·exact one
def least:List Nat->Nat
 |[]=>0
 |k::r=>r.foldl min k
theorem Pn:∀(r:List Nat) (k:Nat),r.foldl min k<=k/\(∀x∈r,r.foldl min k<=x)/\(r.foldl min k=k\/r.foldl min k∈r)
 |[],k=>⟨zqR _,nofun,.inl rfl⟩
 |x::r,k=>by
  obtain⟨a,b,c⟩:=Pn r (min k x);refine⟨zaw a<|Nat.min_le_left _ _,λy hy=>?_,?_⟩
  ·rcases zaa.mp hy with rfl|hy
   ·exact zaw a (Nat.min_le_right _ _)
   ·exact b y hy
  ·rcases c with c|c
   ·have e:(x::r).foldl min k=min k x:=c;by_cases z:k<=x
    ·exact .inl (by lia)
    ·exact .inr (by rw[e,Nat.min_eq_right (by lia)];exact .head _)
   ·exact .inr (.tail _ c)
theorem EH(h:ms≠ []):least ms∈ms/\∀x∈ms,least ms<=x:=by
 cases ms with
 |nil=>exact absurd rfl h
 |cons k r=>
  obtain⟨a,b,c⟩:=Pn r k;refine⟨?_,λx hx=>?_⟩
  ·rcases c with c|c
   ·show r.foldl min k∈k::r;rw[c];exact .head _
   ·exact .tail _ c
  ·rcases zaa.mp hx with rfl|hx
   ·exact a
   ·exact b x hx
def oneOf(cs:List Cu)(g:Gr):Cu:=
 let f:=(cs[least g.2.2]?).getD (0,0,none)
 if g.2.2.length=1 then f else if f.2.1<f.1 then (g.2.1,g.1,none) else (g.1,g.2.1,none)
def settle(cs:List Cu)(us:List T3):List Cu:=(groups us).map (oneOf cs)
theorem Po{QQ:List V->Hp->Addr->Prop}{te:TE}{fv:List (Str×Nat)}{a:Addr}(ha:H a=some (.lst xs))(hl:xs.length<=1000000)(P:Nat->List V->Hp->Prop)(p0:P 0 [] H)(pm:∀i ys H2 H3,P i ys H2->av H2 H3->P i ys H3)
  (step:∀i x ys H2,xs[i]?=some x->av H H2->P i ys H2->∀Q':VK,(∀y H3,av H2 H3->P (i+1) (ys++[y]) H3->Q' y H3)->te (some (.int (i:Nat))::some x::cW σ fv) H2 Q')
  (fin:∀ys H2 p,av H H2->P xs.length ys H2->H2 p=none->QQ ys H2 p):∃W:Nat->Nat->List V->Hp->Prop,(∃m,W 0 m [] H)/\∀i m ys H2,W i m ys H2->
   ((uP K a).stop i H2/\∀p,H2 p=none->QQ ys H2 p)\/
   ((uP K a).go i H2/\∀x H3,(uP K a).gK i H2 x H3->lG K (some 2) x H3 λzs=>n6 none (zs.map some++cW σ fv) H3 λb H5=>
    if b=true then te (zs.map some++cW σ fv) H5 λy H6=>ys.length<sizeLine/\∃m',m'<m/\W (i+1) m' (ys++[y]) H6 else ∃m',m'<m/\W (i+1) m' ys H5):=by
 refine⟨λi m ys H2=>m=xs.length - i/\i<=xs.length/\ys.length=i/\av H H2/\P i ys H2,⟨_,rfl,zqZ _,rfl,av.refl _,p0⟩,?_⟩;rintro i m ys H2 zq;obtain⟨rfl,hi,hy,s,p⟩:=qa5 zq;by_cases aU:i<xs.length
 ·refine .inr ⟨⟨xs,ar.of<|s _ _ ha,aU⟩,?_⟩;rintro x H3 ⟨T,hT,rfl,hx⟩;have eU:=hx xs xs[i] (ar.of<|s _ _ ha) (zaC aU);subst eU;have s3:=sameNew (o:=.tup [V.int (i:Nat),xs[i]]) hT;exact⟨T,_,rfl,aM.of aw,rfl,step i xs[i] ys _ (zaC aU) (s.trans s3) (pm _ _ _ _ p s3) _ λy H4 s4 p4=>⟨cX (by lia),xs.length - (i+1),by lia,rfl,aU,by simp[hy],(s.trans s3).trans s4,p4⟩⟩
 ·have ip:i=xs.length:=by lia
  subst ip;exact .inl ⟨⟨xs,ar.of<|s _ _ ha,rfl⟩,λq hq=>fin ys _ q s p hq⟩
section
variable {K:Frag}
inductive rk(vs:List V)(H:Hp)(Q:VK)(E:XK):Prop|i(lo hi:Nat)(t:Addr)(a h:Nat)(g:Option Nat)(_:vs=[.int lo,.int hi,.ref t])(_:iz H t a h g)(_:Q (.bl<|near lo hi (min a h)<|max a h) H)
theorem afY(vs:List V)(H:Hp)(Q:VK)(E:XK)(hh:rk vs H Q E):aE (aL K [("begin_of",jW),("is_empty",EC)] [] (E:=E)) La (Dn Q) (start K_ vs) H:=by
 obtain⟨lo,hi,t,a,h,g,rfl,ha,q⟩:=hh;refine YS<|b_<|aP jW rfl<|aj<|ag rfl<|aA ⟨t,a,h,g,rfl,ha,ag rfl<|iN ⟨_,rfl,?_⟩⟩;unfold near at q;by_cases e:min a h=hi
 ·rw[if_pos e] at q;refine iT ?_<|zqT (by lia)
  refine bP<|rg<|eZ<|ag rfl<|ag rfl<|iN ⟨_,rfl,?_⟩;by_cases e2:lo=hi
  ·rw[zqT e2] at q;exact iT q<|zqT (by lia)
  ·rw[zqF e2] at q;refine iF (aP EC rfl<|aj<|ag rfl<|aA ⟨t,a,h,g,rfl,ha,?_⟩)<|zqF (by lia)
   rw[show decide (a=h)=(false ||decide (min a h=max a h)) by lia]
   exact q
 ·rw[if_neg e] at q;refine iF (cf ?_)<|zqF (by lia)
  refine bP<|eZ<|aP jW rfl<|aj<|ag rfl<|aA ⟨t,a,h,g,rfl,ha,ag rfl<|N.ltI ?_⟩;rw[show decide (((min a h:Nat):Int) < (hi:Nat))=decide (min a h<hi) by lia]
  exact q
inductive EI(vs:List V)(H:Hp)(Q:VK)(E:XK):Prop|i(t:Addr)(a h:Nat)(g:Option Nat)(_:vs=[.ref t])(_:iz H t a h g)(_:Q (.bl<|decide<|h<a) H)
theorem afZ(vs:List V)(H:Hp)(Q:VK)(E:XK)(hh:EI vs H Q E):aE (aL K [] [] (E:=E)) Lu (Dn Q) (start oF vs) H:=by
 obtain⟨t,a,h,g,rfl,ha,q⟩:=hh;refine bP<|eZ<|aQ<|ag rfl<|au<|aH ha rfl<|aQ<|ag rfl<|au<|aH ha rfl<|N.ltI ?_;rw[show decide (((h:Nat):Int) < (a:Nat))=decide (h<a) by lia]
 exact q
def nums(ms:List Nat):List V:=ms.map λk=>V.int (k:Nat)
def z9(mk:List V->HO)(G:Addr)(H:Hp)(v:V)(g:Gr):Prop:= ∃t m,v=.ref t/\H t=some (mk [.int (g.1:Nat),.int (g.2.1:Nat),.ref m])/\H m=some (.lst<|nums g.2.2)/\t≠G/\m≠G
theorem z9.but{G:Addr}{g:Gr}(x:z9 mk G H v g)(b:aR G H H'):z9 mk G H' v g:=by
 obtain⟨t,m,e,h1,h2,n1,n2⟩:=x;exact⟨t,m,e,b _ _ h1 n1,b _ _ h2 n2,n1,n2⟩
abbrev fD(mk:List V->HO)(G:Addr)(H:Hp):List V->List Gr->Prop:=Paired (z9 mk G H)
theorem fD.but{G:Addr}{gs:List Gr}(x:fD mk G H vs gs)(b:aR G H H'):fD mk G H' vs gs:=L2.Paired.fZ x λ_ _ y=>y.but b
theorem jo{R:α->β->Prop}:∀{xs:List α}{ys:List β}{x:α}{y:β},Paired R xs ys->R x y->Paired R (xs++[x]) (ys++[y]):=by
 intro _ _ _ _ p h;induction p with|nil=>exact .cons h .nil|cons a _ ih=>exact .cons a ih
theorem o_(s:av H H'):aR c H H':=λb o e _=>s b o e
theorem Pp(h:aW Γ as σ H λvs H1=>zc Γ.K vs H1 Q):ak Γ (.xt ze as) σ H Q:=h
structure rm (cs:List Cu) (t:T3) (c:Cu):Prop where
 at':cs[t.2.2.toNat]?=some c
 e1:t.1=((min c.1 c.2.1:Nat):Int)
 e2:t.2.1=((max c.1 c.2.1:Nat):Int)
 e3:t.2.2=((t.2.2.toNat:Nat):Int)
theorem z_{us:List T3}(S:ij cs us){t:T3}(h:t∈us):∃c,rm cs t c:=by
 obtain⟨i,c,e,rfl⟩:=EF (S.1.subset h);rw[zaJ];exact⟨c,by exact e,rfl,rfl,rfl⟩
abbrev Aa:List (Str×Sp):=[("begin_of",jW),("end_of",nJ),("meet",rk)]
def Pq:List RS:=[.ite (.and [(.cmp .Gt (.blt .len [.v 2]) (.c (.int 0))),(.call 2 [(.ix (.ix (.v 2) (.neg (.c (.int 1)))) (.c (.int 0))),(.ix (.ix (.v 2) (.neg (.c (.int 1)))) (.c (.int 1))),(.ix (.v 0) (.v 5))])]) [.asg 6 (.bq .pop (.v 2) []),
   .drop (.bq .append (.v 2) [(.tup [(.ix (.v 6) (.c (.int 0))),(.blt .max [(.ix (.v 6) (.c (.int 1))),.v 4]),(.bin .Add (.ix (.v 6) (.c (.int 2))) (.lst [.v 5]))])])] [.drop (.bq .append (.v 2) [(.tup [.v 3,.v 4,(.lst [.v 5])])])]]
theorem af0{t:T3}:(cm gs t).length<=gs.length+1:=by
 unfold cm
 split
 ·simp
 ·split
  ·simp
  ·simp
theorem af1{l:Addr}{y:V}(hσ:σ[i]?=some (some<|.ref l))(hl:H l=some (.lst<|xs++[y]))(q:Q y (upd H l<|.lst xs)):ak Γ (.bq .pop (.v i) []) σ H Q:=by
 refine⟨_,hσ,.inl ⟨rfl,_,ar.of hl⟩,_,y,hl,by simp,?_⟩
 rw[zbI];exact q
theorem af2{l O G:Addr}{cs:List Cu}{t:T3}{c:Cu}{gs:List Gr}{u6:Option V}(hl:H l=some (.lst vs))(cU:bS H vs cs)(nl:l≠G)(k:rm cs t c)(hG:H G=some (.lst zs))(gv:fD .tup G H zs gs)(hn:gs.length<=1000)
  (aK:∀g∈gs,g.2.2.length<=1000)
  (hD:∀(y6:Option V) (dg:List V) H',aR G H H'->H' G=some (.lst dg)->fD .tup G H' dg (cm gs t)->D.nx [some<|.ref l,some<|.ref O,some<|.ref G,some<|.int t.1,some<|.int t.2.1,some<|.int t.2.2,y6] H'):
  aE (aL K Aa [] (E:=E)) Pq D [some<|.ref l,some<|.ref O,some<|.ref G,some<|.int t.1,some<|.int t.2.1,some<|.int t.2.2,u6] H:=by
 have lz:=Paired.length gv;have fresh:cm gs t=gs++[(t.1.toNat,t.2.1.toNat,[t.2.2.toNat])]->aE (aL K Aa [] (E:=E)) [.drop<|.bq .append (.v 2) [(.tup [.v 3,.v 4,(.lst [.v 5])])]] {D with nx:=aE (aL K Aa [] (E:=E)) [] D} [some<|.ref l,some<|.ref O,some<|.ref G,some<|.int t.1,some<|.int t.2.1,some<|.int t.2.2,u6] H:=by
  intro e;refine dA<|fu<|ag rfl ⟨.inl ⟨rfl,_,ar.of hG⟩,dY<|aj<|ag rfl<|aj<|ag rfl<|aj<|cA<|aj<|ag rfl<|aA ⟨dR,λm fm=>aA ⟨eM,λT fT=>?_⟩⟩⟩;have s1:=sameNew (o:=.lst [V.int t.2.2]) fm;have s2:=sameNew (o:=.tup [V.int t.1,V.int t.2.1,V.ref m]) fT;have pd:=s1.trans s2;have nm:m≠G:=λz=>by rw[z,hG] at fm;cases fm
  have nT:T≠G:=λz=>by rw[z,s1 _ _ hG] at fT;cases fT
  refine⟨zs,pd _ _ hG,cX (by lia),?_⟩
  have b3:aR G (upd (upd H m<|.lst [V.int t.2.2]) T<|.tup [V.int t.1,V.int t.2.1,V.ref m]) (upd (upd (upd H m<|.lst [V.int t.2.2]) T<|.tup [V.int t.1,V.int t.2.1,V.ref m]) G<|.lst<|zs++[.ref T]):=aR.upd;have bb:=(o_ pd).trans b3;refine hD u6 (zs++[.ref T]) _ bb aw ?_;rw[e];refine jo (gv.but bb) ⟨T,m,rfl,?_,?_,nT,nm⟩
  ·rw[b3 _ _ aw nT,show t.1=((t.1.toNat:Nat):Int) by rw[k.e1,zar],show t.2.1=((t.2.1.toNat:Nat):Int) by rw[k.e2,zar]]
   simp only[zar]
  ·rw[b3 _ _ (s2 _ _ aw) nm];show some (HO.lst [V.int t.2.2])=some (HO.lst [V.int ((t.2.2.toNat:Nat):Int)]);rw[<-k.e3]
 refine YS<|Ee<|b_<|dj<|ag rfl<|.inl ⟨_,ar.of hG,au<|N.gtI ⟨_,rfl,?_⟩⟩;rcases zbW gs with eg|⟨jX,g,eg⟩
 ·subst eg;cases gv;refine iF (iF (fresh ?_) rfl) rfl;unfold cm;rfl
 ·rw[zbX] at eg;subst eg;obtain⟨dZ,z,rfl,ua,gz⟩:=Ey gv;obtain⟨T,m,zq⟩:=qx2 gz;obtain⟨rfl,hT,hm,nT,nm⟩:=qa5 zq;have v9:(jX++[g]).getLast?=some g:=by simp
  refine iT ?_<|zqT (by rw[zqA];simp)
  have nK:dE (dZ++[V.ref T]) (-1)=some (V.ref T):=by
   unfold dE;rw[zqA];show(gN (dZ.length+1)<|-1).bind _=_;rw[EA];simp
  obtain⟨v,hv,tc,rfl,hc⟩:=z0 cU k.at';have af3:dE vs t.2.2=some (.ref tc):=by rw[k.e3];exact jz hv
  refine fW rk rfl<|aj<|aQ<|aQ<|ag rfl<|q_<|cB hG nK<|au<|aH hT rfl<|aj<|aQ<|aQ<|ag rfl<|q_<|cB hG nK<|au<|aH hT rfl<|aj<|aQ<|ag rfl<|ag rfl<|cB hl af3<|aA ?_;refine⟨g.1,g.2.1,tc,_,_,_,rfl,hc,d_ ?_⟩;have en:near g.1 g.2.1 (min c.1 c.2.1) (max c.1 c.2.1)=near g.1 g.2.1 t.1.toNat t.2.1.toNat:=by rw[k.e1,k.e2,zar,zar]
  rw[en];cases Pr:near g.1 g.2.1 t.1.toNat t.2.1.toNat with
  |false=>
   refine iF (fresh ?_) rfl;unfold cm;rw[v9];simp only[Pr];rfl
  |true=>
   refine iT ?_ rfl;have eg2:cm (jX++[g]) t=jX++[(g.1,max g.2.1 t.2.1.toNat,g.2.2++[t.2.2.toNat])]:=by
    unfold cm;rw[v9];simp only[Pr,if_true,zbI]
   refine CA<|af1 rfl hG ?_;have b1:aR G H (upd H G<|.lst dZ):=aR.upd;have jY:upd H G (.lst dZ) G=some (.lst dZ):=aw;have Ab:=b1 _ _ hT nT;have v_:=b1 _ _ hm nm;generalize upd H G (.lst dZ)=H1 at b1 jY Ab v_⊢;refine dA<|fu<|ag rfl ⟨.inl ⟨rfl,_,ar.of jY⟩,dY<|aj<|aQ<|ag rfl<|au<|aH Ab rfl<|aj<|lZ<|aj<|aQ<|ag rfl<|au<|aH Ab rfl<|aj<|ag rfl<|aA ?_⟩;have lg:=aK g (by simp)
   refine aj<|bp<|aQ<|ag rfl<|au<|aH Ab rfl<|cA<|aj<|ag rfl<|aA ⟨dR,λn1 f1=>?_⟩;have s2:=sameNew (o:=.lst [V.int t.2.2]) f1;refine .inl ⟨m,n1,nums g.2.2,[V.int t.2.2],rfl,rfl,s2 _ _ v_,aw,bY (by show(nums g.2.2).length+1<=_;unfold nums;rw[zah];lia),λm2 f2=>aA ⟨eM,λT2 f3=>?_⟩⟩
   have s3:=sameNew (o:=.lst (nums g.2.2++[V.int t.2.2])) f2;have jq:=s2.trans s3;obtain⟨cL,wa⟩:∃cL:Int,cL=(if t.2.1>((g.2.1:Nat):Int) then t.2.1 else ((g.2.1:Nat):Int)):=⟨_,rfl⟩
   have EJ:cL=((max g.2.1 t.2.1.toNat:Nat):Int):=by
    rw[wa,k.e2,zar]
    split<;>lia
   have EK:(upd (upd H1 n1<|.lst [V.int t.2.2]) m2<|.lst<|nums g.2.2++[V.int t.2.2]) T2=none:=f3;have s4:=sameNew (o:=.tup [V.int (g.1:Nat),V.int cL,V.ref m2]) EK;have eA:=jq.trans s4;have wb:m2≠G:=λz=>by rw[z,s2 _ _ jY] at f2;cases f2
   have wc:T2≠G:=λz=>by rw[z,jq _ _ jY] at EK;cases EK
   rw[<-wa];refine⟨dZ,eA _ _ jY,cX (by rw[zqA] at hn;have:=Paired.length ua;lia),?_⟩
   have wd:=s4 _ _ (aw (H:=upd H1 n1 (.lst [V.int t.2.2])) (a:=m2) (o:=.lst (nums g.2.2++[V.int t.2.2])));have we:(upd (upd (upd H1 n1<|.lst [V.int t.2.2]) m2<|.lst<|nums g.2.2++[V.int t.2.2]) T2<|.tup [V.int (g.1:Nat),V.int cL,V.ref m2]) T2=some (.tup [V.int (g.1:Nat),V.int cL,V.ref m2]):=aw;generalize (upd (upd (upd H1 n1<|.lst [V.int t.2.2]) m2<|.lst<|nums g.2.2++[V.int t.2.2]) T2<|.tup [V.int (g.1:Nat),V.int cL,V.ref m2])=H4 at eA wd we⊢;have b5:aR G H4 (upd H4 G<|.lst<|dZ++[.ref T2]):=aR.upd;have bb:aR G H (upd H4 G<|.lst<|dZ++[.ref T2]):=(b1.trans<|o_ eA).trans b5;refine hD _ (dZ++[.ref T2]) _ bb aw ?_;rw[eg2];refine jo (fD.but ua bb) ⟨T2,m2,rfl,?_,?_,wc,wb⟩
   ·rw[b5 _ _ we wc,EJ]
   ·rw[b5 _ _ wd wb];show some (HO.lst<|nums g.2.2++[V.int t.2.2])=some (HO.lst<|nums<|g.2.2++[t.2.2.toNat]);unfold nums;rw[zas];show some (HO.lst<|_++[V.int t.2.2])=some (HO.lst<|_++[V.int ((t.2.2.toNat:Nat):Int)]);rw[<-k.e3]
end
theorem wg{R:α->β->Prop}:∀{xs:List α}{ys:List β}{i:Nat}{x:α},Paired R xs ys->xs[i]?=some x->∃y,ys[i]?=some y/\R x y:=by
 intro _ _ i _ p h;induction p generalizing i with
 |nil=>simp at h
 |cons a r ih=>cases i with|zero=>cases h;exact⟨_,rfl,a⟩|succ i=>exact ih (by simpa using h)
theorem EL:∀(us:List T3) (gs:List Gr) (n:Nat),(∀g∈gs,g.2.2.length<=n)->gs.length<=n->(∀g∈us.foldl cm gs,g.2.2.length<=n+us.length)/\(us.foldl cm gs).length<=n+us.length
 |[],gs,n,h1,h2=>⟨h1,h2⟩
 |t::us,gs,n,h1,h2=>by
  have sS:(cm gs t).length<=n+1:=zaw af0 (by lia)
  have nH:∀g∈cm gs t,g.2.2.length<=n+1:=by
   have one:∀g∈gs++[((t.1.toNat,t.2.1.toNat,[t.2.2.toNat]):Gr)],g.2.2.length<=n+1:=by
    intro g hg;rcases zae.mp hg with hg|hg
    ·have:=h1 g hg;lia
    ·rw[zad.mp hg];show 1<=n+1;lia
   unfold cm
   split
   ·exact one
   ·rename_i g0 e0
    split
    ·intro g hg;rcases zae.mp hg with hg|hg
     ·have:=h1 g (zbU _ hg);lia
     ·rw[zad.mp hg];have:=h1 g0 (zbV e0);rw[zqA];show g0.2.2.length+1<=n+1;lia
    ·exact one
  obtain⟨a,b⟩:=EL us (cm gs t) (n+1) nH sS;rw[zau];exact⟨λg hg=>by have:=a g hg;lia,by show(us.foldl cm<|cm gs t).length<=_;lia⟩
theorem Ac(us:List T3):(∀g∈groups us,g.2.2.length<=us.length)/\(groups us).length<=us.length:=by
 have:=EL us [] 0 nofun (zqR _)
 rwa [zaJ] at this
theorem rn{α:Type}{l:List α}{i:Nat}{x:α}(h:l[i]?=some x):l.take (i+1)=l.take i++[x]:=by
 rw[List.take_succ_eq_append_getElem ((zak.mp h).1),(zak.mp h).2]
section
variable {K:Frag}
inductive EM(vs:List V)(H:Hp)(Q:VK)(E:XK):Prop|i(l:Addr)(xs:List V)(cs:List Cu)(_:vs=[.ref l])(_:H l=some (.lst xs))(_:bS H xs cs)(_:cs.length<64)(_:∀us G zs H',ij cs us->av H H'->H G=none->H' G=some (.lst zs)->fD .tup G H' zs (groups us)->Q (.ref G) H')
theorem af5(vs:List V)(H:Hp)(Q:VK)(E:XK)(hh:EM vs H Q E):aE (aL K Aa [] (E:=E)) Lw (Dn Q) (start Lv vs) H:=by
 obtain⟨l,xs,cs,rfl,hl,cU,hn,q⟩:=hh;have lx:=Paired.length cU;refine CA<|Pp<|aj (⟨_,rfl,l,rfl,⟨_,ar.of hl⟩,Po hl (by lia) (λi ys H2=>Paired (V3 H2) ys<|iQ 0<|cs.take i) .nil (λi ys H2 H3 p s=>L2.Paired.fZ p λv t ⟨a,e,h⟩=>⟨a,e,s _ _ h⟩) ?_ ?_⟩)
 ·intro i x ys H2 hx s2 p Q' kk;obtain⟨c,hc,t,rfl,ht⟩:=iA cU hx;have i7:=s2 _ _ ht;have hi:=(zak.mp hc).1;refine dY<|aj<|aP jW rfl<|aj<|ag rfl<|aA ⟨t,_,_,_,rfl,i7,aj<|aP nJ rfl<|aj<|ag rfl<|aA ⟨t,_,_,_,rfl,i7,aj<|ag rfl<|aA ⟨eM,λT fT=>?_⟩⟩⟩;have s3:=sameNew (o:=.tup [V.int (min c.1 c.2.1:Nat),V.int (max c.1 c.2.1:Nat),V.int (i:Nat)]) fT;refine kk _ _ s3 ?_;rw[rn hc,EG,zaJ,zaq,zaT (show i<=cs.length by lia)]
  exact jo (L2.Paired.fZ p λv t ⟨a,e,h⟩=>⟨a,e,s3 _ _ h⟩) ⟨T,rfl,aw⟩
 ·intro ys H2 p2 s2 p f2;rw[lx,zav<|zqR _] at p;have s3:=sameNew (o:=.lst ys) f2;refine aA ⟨p2,ys,iQ 0 cs,rfl,ar.of aw,L2.Paired.fZ p λv t ⟨a,e,h⟩=>⟨a,e,s3 _ _ h⟩,keys_nodup 0 cs,by rw[o9];exact hn,λO zs us fO p3 pm pw=>?_⟩
  have S:ij cs us:=⟨pm,pw⟩;have s4:=sameNew (o:=.lst zs) fO;have gm:=(s2.trans s3).trans s4;have hO:(upd (upd H2 p2<|.lst ys) O<|.lst zs) O=some (.lst zs):=aw;have p4:Paired (V3<|upd (upd H2 p2<|.lst ys) O<|.lst zs) zs us:=L2.Paired.fZ p3 λv t ⟨a,e,h⟩=>⟨a,e,s4 _ _ h⟩;generalize (upd (upd H2 p2<|.lst ys) O<|.lst zs)=H3 at gm hO p4⊢;have jr:=gm _ _ hl;have lu:us.length=cs.length:=by rw[pm.length_eq,o9]
  refine CA<|cA<|aA ⟨zqZ _,λG fG=>?_⟩;have s5:=sameNew (o:=.lst []) fG;refine Ez<|ag rfl ⟨O,rfl,⟨_,ar.of<|s5 _ _ hO⟩,iR (xs:=zs) (λi σ H5=>qX5 λ(ws:List V) (y3 y4 y5 y6:Option V)=>qA4 (σ=[some<|.ref l,some<|.ref O,some<|.ref G,y3,y4,y5,y6]) (av H3 H5) (H5 G=some (.lst ws)) (fD .tup G H5 ws (groups<|us.take i))) ?_ ?_ ?_ ?_⟩
  ·exact⟨[],none,none,none,none,rfl,s5,aw,.nil⟩
  ·rintro i σ H5 _ ⟨ws,y3,y4,y5,y6,rfl,s6,_,_⟩;exact ar.of<|s6 _ _ hO
  ·rintro i x σ H5 hi ⟨ws,y3,y4,y5,y6,rfl,s6,hG,gv⟩;obtain⟨t,ht,T,rfl,hT⟩:=wg p4 hi;refine Ph (s6 _ _ hT) ?_;obtain⟨c,k⟩:=z_ S (zaj ht);have bd:=Ac (us.take i);have li:(us.take i).length<=64:=by rw[zaq];lia
   refine af2 (s6 _ _ jr) ((cU.same gm).same s6) (bf jr fG) k hG gv (by lia) (λg hg=>by have:=bd.1 g hg;lia) λz6 dg H6 b6 EN EO=>⟨dg,_,_,_,z6,rfl,λb o e=>b6 _ _ (s6 _ _ e)<|bf e fG,EN,?_⟩
   rw[rn ht,Pk];exact EO
  ·rintro σ H5 ⟨ws,y3,y4,y5,y6,rfl,s6,hG,gv⟩;rw[(Paired.length p4),zav<|zqR _] at gv;exact bP<|ag rfl<|q us G ws H5 S (gm.trans s6) (gm.free fG) hG gv
inductive ER(vs:List V)(H:Hp)(Q:VK)(E:XK):Prop|i(l:Addr)(xs:List V)(cs:List Cu)(T m:Addr)(g:Gr)(_:vs=[.ref l,.ref T])(_:H l=some (.lst xs))(_:bS H xs cs)(_:H T=some (.tup [.int (g.1:Nat),.int (g.2.1:Nat),.ref m]))(_:H m=some (.lst<|nums g.2.2))(_:g.2.2≠ [])(_:(∀k∈g.2.2,k<cs.length))(_:∀r H',av H H'->jn H' r (oneOf cs g)->Q r H')
theorem Pw(ms:List Nat):nums ms=(ms.map λk=>((k:Nat):Int)).map V.int:=by rw[List.map_map];rfl
theorem Px(h:ms≠ []){x:Int}(hx:x∈ms.map λk=>((k:Nat):Int))(hm:∀n∈ms.map λk=>((k:Nat):Int),x<=n):x=((least ms:Nat):Int):=by
 obtain⟨k,hk,rfl⟩:=zaF.mp hx;obtain⟨a,b⟩:=EH h;have h1:=b k hk;have h2:=hm _ (zaF.mpr ⟨least ms,a,rfl⟩);lia
theorem af6(vs:List V)(H:Hp)(Q:VK)(E:XK)(hh:ER vs H Q E):aE (aL K [("is_backward",EI)] [] (E:=E)) Ly (Dn Q) (start Lx vs) H:=by
 obtain⟨l,xs,cs,T,m,g,rfl,hl,cU,hT,hm,cP,cQ,q⟩:=hh;have jD:=hm;rw[Pw] at jD;refine CA<|aQ<|ag rfl<|lZ<|aj<|aQ<|ag rfl<|au<|aH hT rfl<|aA ⟨_,ar.of jD,by simpa using cP,λx hx uV=>?_⟩
 rw[Px cP hx uV];have hk:=cQ _ (EH cP).1;have hc:=zaC hk;obtain⟨v,hv,tc,rfl,jO⟩:=z0 cU hc;refine cB hl (jz hv) ?_;unfold oneOf at q;rw[hc,Option.getD_some] at q;refine YS<|b_<|dj<|aQ<|ag rfl<|au<|aH hT rfl<|.inl ⟨_,ar.of hm,au<|iN ⟨_,rfl,?_⟩⟩;have ln:(nums g.2.2).length=g.2.2.length:=by unfold nums;rw[zah]
 by_cases e:g.2.2.length=1
 ·simp only[e,if_true] at q
  refine iT ?_<|zqT (by lia)
  exact bP<|ag rfl<|q _ _ (av.refl _) ⟨tc,rfl,jO⟩
 ·simp only[e,if_false] at q
  refine iF (cf ?_)<|zqF (by lia)
  refine bP<|afO<|fW EI rfl<|aj<|ag rfl<|aA ⟨tc,_,_,_,rfl,jO,d_ ?_⟩;by_cases b:(cs[least g.2.2]).2.1< (cs[least g.2.2]).1
  ·simp only[b,if_true] at q
   exact iT (dY<|aj<|aQ<|ag rfl<|au<|aH hT rfl<|aj<|aQ<|ag rfl<|au<|aH hT rfl<|aj<|au<|aA ⟨eM,λt' f'=>q _ _ (sameNew f') ⟨t',rfl,aw⟩⟩)<|zqT b
  ·simp only[b,if_false] at q
   exact iF (dY<|aj<|aQ<|ag rfl<|au<|aH hT rfl<|aj<|aQ<|ag rfl<|au<|aH hT rfl<|aj<|au<|aA ⟨eM,λt' f'=>q _ _ (sameNew f') ⟨t',rfl,aw⟩⟩)<|zqF b
inductive pe(vs:List V)(H:Hp)(Q:VK)(E:XK):Prop|i(l:Addr)(xs:List V)(cs:List Cu)(_:vs=[.ref l])(_:H l=some (.lst xs))(_:bS H xs cs)(_:cs.length<64)(_:∀us r zs H',ij cs us->av H H'->H r=none->H' r=some (.lst zs)->bS H' zs (settle cs us)->Q (.ref r) H')
theorem Py{us:List T3}(S:ij cs us):∀g∈groups us,g.2.2≠ []/\∀k∈g.2.2,k<cs.length:=
 Pl cs.length us [] (λt ht=>by
  obtain⟨c,k⟩:=z_ S ht;exact(zak.mp k.at').1) nofun
theorem af7(vs:List V)(H:Hp)(Q:VK)(E:XK)(hh:pe vs H Q E):aE (aL K [("gathered",EM),("as_one",ER)] [] (E:=E)) LB (Dn Q) (start Lz vs) H:=by
 obtain⟨l,xs,cs,rfl,hl,cU,hn,q⟩:=hh;refine bP<|vX<|aP EM rfl<|aj<|ag rfl<|aA ⟨l,xs,cs,rfl,hl,cU,hn,λus G zs H1 S s1 fG hG gv=>⟨G,rfl,⟨_,ar.of hG⟩,?_⟩⟩;have lu:us.length=cs.length:=by rw[S.1.length_eq,o9]
 have bd:=Ac us;have lz:=Paired.length gv;refine vW hG (by lia) (λi ys H2=>bS H2 ys<|((groups us).take i).map<|oneOf cs) .nil ?_ ?_
 ·intro i x ys H2 hx s2 p Q' kk;obtain⟨g,hg,T,m,rfl,hT,hm,_,_⟩:=wg gv hx;have ok:=Py S g (zaj hg);have pd:=s1.trans s2;refine aP ER rfl<|aj<|ag rfl<|aj<|ag rfl<|aA ⟨l,xs,cs,T,m,g,rfl,pd _ _ hl,cU.same pd,s2 _ _ hT,s2 _ _ hm,ok.1,ok.2,λr H3 s3 hr=>kk _ _ s3 ?_⟩;rw[rn hg,zas];exact jo (bS.same p s3) hr
 ·intro ys H2 p2 s2 p f2;rw[lz,zav<|zqR _] at p;have s3:=sameNew (o:=.lst ys) f2;exact q us p2 ys _ S ((s1.trans s2).trans s3) ((s1.trans s2).free f2) aw<|bS.same p s3
end
def iB(g:Gr):PyData:=.list [.int (g.1:Nat),.int (g.2.1:Nat),.list<|(g.2.2.map λk=>((k:Nat):Int)).map .int]
theorem af8(g:Gr):(iB g).canLay0=true/\(iB g).depth<=2:=by
 constructor
 ·show(true && (true && (PyData.canLayAll0 ((g.2.2.map λk=>((k:Nat):Int)).map .int) && true)))=true;rw[PyProof.Rows.canLayAll_ints];rfl
 ·show max 0 (max 0<|max (PyData.depthAll ((g.2.2.map λk=>((k:Nat):Int)).map .int)+1) 0)+1<=2;rw[PyProof.Rows.depthAll_ints];decide
theorem Pz:∀(gs:List Gr),PyData.canLayAll0 (gs.map iB)=true/\PyData.depthAll (gs.map iB)<=2
 |[]=>⟨rfl,zqZ _⟩
 |g::r=>by
  obtain⟨a,b⟩:=af8 g;obtain⟨c,d⟩:=Pz r;refine⟨?_,?_⟩
  ·show((iB g).canLay0 && PyData.canLayAll0 (r.map iB))=true;rw[a,c];rfl
  ·show max (iB g).depth (PyData.depthAll<|r.map iB)<=2;lia
theorem af9(gs:List Gr):SeqAt.shaped (.list<|gs.map iB)=true:=by
 obtain⟨c,d⟩:=Pz gs;unfold SeqAt.shaped;have e:(PyData.list<|gs.map iB).canLay0=true:=c;have e2:(PyData.list<|gs.map iB).depth<=64:=by show PyData.depthAll (gs.map iB)+1<=64;lia
 rw[e,zqT e2];rfl
theorem PF(H:Hp):∀ms:List Nat,IsL H ((ms.map λk=>((k:Nat):Int)).map PyData.int) (nums ms)
 |[]=>rfl
 |k::r=>⟨_,_,rfl,rfl,PF H r⟩
theorem PH{H:Hp}:∀{zs:List V}{gs:List Gr},fD .lst G H zs gs->IsL H (gs.map iB) zs:=by
 intro _ _ p;induction p with
 |nil=>rfl
 |cons x r ih=>obtain⟨t,m,rfl,h1,h2,_,_⟩:=x;exact⟨_,_,rfl,⟨t,_,rfl,h1,_,_,rfl,rfl,_,_,rfl,rfl,_,_,rfl,⟨m,_,rfl,h2,PF H _⟩,rfl⟩,ih⟩
section
variable {K:Frag}
theorem af_{gs:List Gr}(ha:H a=some (.lst xs))(hb:H b=some (.lst []))(hx:fD .lst G H xs gs)(q:Q (.bl<|decide<|gs≠ []) H):bX K .NotEq (.ref a) (.ref b) H Q:=by
 refine⟨.list<|gs.map iB,.list [],⟨a,xs,rfl,ha,PH hx⟩,⟨b,[],rfl,hb,rfl⟩,af9 gs,(rfl),?_⟩
 have e:(true ^^ PyData.eqv (.list<|gs.map iB) (.list []))=decide (gs≠ []):=by
  cases gs with
  |nil=>rfl
  |cons p r=>rfl
 rw[e];exact q
theorem PJ{u w:V}{Q:St->Hp->Prop}(ht:H t=some (.lst [u,v,w]))(q:Q (((σ.set i<|some u).set j<|some v).set k<|some w) H):ke K [i,j,k].length (jH [i,j,k]) (.ref t) σ H Q:=
 ⟨t,_,rfl,.inr<|ar.of ht,rfl,_,_,rfl,_,_,rfl,_,_,rfl,rfl,q⟩
def lsBody:List RS:=[.asg 5 (.c (.bl false)),
  .ite (.cmp .NotEq (.v 1) (.lst [])) [.oi [6,7,8] (.ix (.v 1) (.neg (.c (.int 1)))),
   .asg 5 (.or [(.cmp .Lt (.v 2) (.v 7)),(.and [(.cmp .Eq (.v 2) (.v 7)),(.or [(.cmp .Eq (.v 6) (.v 7)),(.cmp .Eq (.v 2) (.v 3))])])])] [],
  .ite (.v 5) [.set (.v 1) (.neg (.c (.int 1))) (.lst [.v 6,(.blt .max [.v 7,.v 3]),(.bin .Add (.v 8) (.lst [.v 4]))])] [.drop (.bq .append (.v 1) [(.lst [.v 2,.v 3,(.lst [.v 4])])])]]
def ES:List RS:=[.ite (.v 5) [.set (.v 1) (.neg<|.c<|.int 1)<|.lst [.v 6,(.blt .max [.v 7,.v 3]),(.bin .Add (.v 8)<|.lst [.v 4])]] [.drop<|.bq .append (.v 1) [(.lst [.v 2,.v 3,(.lst [.v 4])])]]]
theorem PK{G:Addr}{cs:List Cu}{t:T3}{c:Cu}{gs:List Gr}{u0 u6 u7 u8 u9 e7:Option V}(k:rm cs t c)(hG:H G=some (.lst zs))(gv:fD .lst G H zs gs)(hn:gs.length<=1000)
  (e:cm gs t=gs++[(t.1.toNat,t.2.1.toNat,[t.2.2.toNat])])
  (hD:∀(dg:List V) H',aR G H H'->H' G=some (.lst dg)->fD .lst G H' dg (cm gs t)->D.nx [u0,some<|.ref G,some<|.int t.1,some<|.int t.2.1,some<|.int t.2.2,some<|.bl false,u6,u7,u8,u9,e7] H'):
  aE (aL K [] [] (E:=E)) ES D [u0,some<|.ref G,some<|.int t.1,some<|.int t.2.1,some<|.int t.2.2,some<|.bl false,u6,u7,u8,u9,e7] H:=by
 have lz:=Paired.length gv;refine YS<|Pg rfl<|iF (dA<|fu<|ag rfl ⟨.inl ⟨rfl,_,ar.of hG⟩,cA<|aj<|ag rfl<|aj<|ag rfl<|aj<|cA<|aj<|ag rfl<|aA ⟨dR,λm fm=>aA ⟨eM,λT fT=>?_⟩⟩⟩) rfl;have s1:=sameNew (o:=.lst [V.int t.2.2]) fm;have s2:=sameNew (o:=.lst [V.int t.1,V.int t.2.1,V.ref m]) fT;have pd:=s1.trans s2;have nm:m≠G:=λz=>by lia
 have nT:T≠G:=λz=>by rw[z,s1 _ _ hG] at fT;cases fT
 refine⟨zs,pd _ _ hG,cX (by lia),?_⟩
 have b3:aR G (upd (upd H m<|.lst [V.int t.2.2]) T<|.lst [V.int t.1,V.int t.2.1,V.ref m]) (upd (upd (upd H m<|.lst [V.int t.2.2]) T<|.lst [V.int t.1,V.int t.2.1,V.ref m]) G<|.lst<|zs++[.ref T]):=aR.upd;have bb:=(o_ pd).trans b3;refine hD (zs++[.ref T]) _ bb aw ?_;rw[e];refine jo (gv.but bb) ⟨T,m,rfl,?_,?_,nT,nm⟩
 ·rw[b3 _ _ aw nT,show t.1=((t.1.toNat:Nat):Int) by rw[k.e1,zar],show t.2.1=((t.2.1.toNat:Nat):Int) by rw[k.e2,zar]]
  simp
 ·rw[b3 _ _ (s2 _ _ aw) nm];show some (HO.lst [V.int t.2.2])=some (HO.lst [V.int ((t.2.2.toNat:Nat):Int)]);rw[<-k.e3]
theorem aga{G T m:Addr}{cs:List Cu}{t:T3}{c:Cu}{dZ:List V}{jX:List Gr}{g:Gr}{u0 u9 e7:Option V}(k:rm cs t c)(hG:H G=some (.lst<|dZ++[.ref T]))(ua:fD .lst G H dZ jX)(hm:H m=some (.lst<|nums g.2.2))(nm:m≠G)(hn:g.2.2.length<=1000)
  (e:cm (jX++[g]) t=jX++[(g.1,max g.2.1 t.2.1.toNat,g.2.2++[t.2.2.toNat])])
  (hD:∀(dg:List V) H',aR G H H'->H' G=some (.lst dg)->fD .lst G H' dg (cm (jX++[g]) t)->D.nx [u0,some<|.ref G,some<|.int t.1,some<|.int t.2.1,some<|.int t.2.2,some<|.bl true,some<|.int (g.1:Nat),some<|.int (g.2.1:Nat),some<|.ref m,u9,e7] H'):
  aE (aL K [] [] (E:=E)) ES D [u0,some<|.ref G,some<|.int t.1,some<|.int t.2.1,some<|.int t.2.2,some<|.bl true,some<|.int (g.1:Nat),some<|.int (g.2.1:Nat),some<|.ref m,u9,e7] H:=by
 refine YS<|Pg rfl<|iT ?_ rfl;obtain⟨cL,wa⟩:∃cL:Int,cL=(if t.2.1>((g.2.1:Nat):Int) then t.2.1 else ((g.2.1:Nat):Int)):=⟨_,rfl⟩
 have EJ:cL=((max g.2.1 t.2.1.toNat:Nat):Int):=by
  rw[wa,k.e2,zar]
  split<;>lia
 refine O_<|cA<|aj<|ag rfl<|aj<|lZ<|aj<|ag rfl<|aj<|ag rfl<|aA ?_;refine aj<|bp<|ag rfl<|cA<|aj<|ag rfl<|aA ⟨dR,λn1 f1=>?_⟩;have s2:=sameNew (o:=.lst [V.int t.2.2]) f1;refine .inl ⟨m,n1,nums g.2.2,[V.int t.2.2],rfl,rfl,s2 _ _ hm,aw,bY (by show(nums g.2.2).length+1<=_;unfold nums;rw[zah];lia),λm2 f2=>aA ⟨eM,λT2 f3=>?_⟩⟩
 have s3:=sameNew (o:=.lst (nums g.2.2++[V.int t.2.2])) f2;have jq:=s2.trans s3;have s4:=sameNew (o:=.lst [V.int (g.1:Nat),V.int cL,V.ref m2]) f3;have eA:=jq.trans s4;have wb:m2≠G:=λz=>by rw[z,s2 _ _ hG] at f2;cases f2
 have wc:T2≠G:=λz=>by rw[z,jq _ _ hG] at f3;cases f3
 have wd:=s4 _ _ (aw (H:=upd H n1 (.lst [V.int t.2.2])) (a:=m2) (o:=.lst (nums g.2.2++[V.int t.2.2])));have we:(upd (upd (upd H n1<|.lst [V.int t.2.2]) m2<|.lst<|nums g.2.2++[V.int t.2.2]) T2<|.lst [V.int (g.1:Nat),V.int cL,V.ref m2]) T2=some (.lst [V.int (g.1:Nat),V.int cL,V.ref m2]):=aw;have eo:(HO.lst [V.int (g.1:Nat),V.int (if t.2.1>((g.2.1:Nat):Int) then t.2.1 else ((g.2.1:Nat):Int)),V.ref m2])=HO.lst [V.int (g.1:Nat),V.int cL,V.ref m2]:=by rw[wa]
 refine ag rfl<|q_ ⟨G,_, -1,dZ.length,rfl,rfl,(show(upd (upd (upd H n1<|.lst [V.int t.2.2]) m2<|.lst<|nums g.2.2++[V.int t.2.2]) T2<|.lst [V.int (g.1:Nat),V.int (if t.2.1>((g.2.1:Nat):Int) then t.2.1 else ((g.2.1:Nat):Int)),V.ref m2]) G=some (.lst<|dZ++[.ref T]) by rw[eo];exact eA _ _ hG),by rw[zqA];exact EA _,?_⟩
 have es:(dZ++[V.ref T]).set dZ.length (.ref T2)=dZ++[.ref T2]:=by rw[List.set_append_right _ _<|zqR _,Nat.sub_self];rfl
 rw[es]
 rw[eo];generalize (upd (upd (upd H n1<|.lst [V.int t.2.2]) m2<|.lst<|nums g.2.2++[V.int t.2.2]) T2<|.lst [V.int (g.1:Nat),V.int cL,V.ref m2])=H4 at eA wd we⊢;have b5:aR G H4 (upd H4 G<|.lst<|dZ++[.ref T2]):=aR.upd;have bb:aR G H (upd H4 G<|.lst<|dZ++[.ref T2]):=(o_ eA).trans b5;refine hD (dZ++[.ref T2]) _ bb aw ?_;rw[e];refine jo (fD.but ua bb) ⟨T2,m2,rfl,?_,?_,wc,wb⟩
 ·rw[b5 _ _ we wc,EJ]
 ·rw[b5 _ _ wd wb];unfold nums;rw[zas];show some (HO.lst<|_++[V.int t.2.2])=some (HO.lst<|_++[V.int ((t.2.2.toNat:Nat):Int)]);rw[<-k.e3]
theorem agb{G:Addr}{cs:List Cu}{t:T3}{c:Cu}{gs:List Gr}{u0 u5 u6 u7 u8 u9 e7:Option V}(k:rm cs t c)(hG:H G=some (.lst zs))(gv:fD .lst G H zs gs)(hn:gs.length<=1000)(aK:∀g∈gs,g.2.2.length<=1000)
  (hD:∀(y5 y6 y7 y8:Option V) (dg:List V) H',aR G H H'->H' G=some (.lst dg)->fD .lst G H' dg (cm gs t)->D.nx [u0,some<|.ref G,some<|.int t.1,some<|.int t.2.1,some<|.int t.2.2,y5,y6,y7,y8,u9,e7] H'):
  aE (aL K [] [] (E:=E)) lsBody D [u0,some<|.ref G,some<|.int t.1,some<|.int t.2.1,some<|.int t.2.2,u5,u6,u7,u8,u9,e7] H:=by
 refine CA<|au ?_;refine YS<|b_<|ag rfl<|cA<|aA ⟨zqZ _,λe0 fe=>?_⟩;have s1:=sameNew (o:=.lst []) fe;have wj:=fD.but gv (o_ s1);have jY:=s1 _ _ hG;refine af_ jY aw wj ⟨_,rfl,?_⟩;generalize upd H e0 (.lst [])=H1 at s1 wj jY⊢;have ET:=λy5 y6 y7 y8 dg H' b=>hD y5 y6 y7 y8 dg H' ((o_ s1).trans b);rcases zbW gs with eg|⟨jX,g,eg⟩
 ·subst eg;refine iF (cf ?_) rfl;exact PK k jY wj hn (by unfold cm;rfl) λdg H' b h1 h2=>ET _ _ _ _ dg H' b h1 h2
 ·rw[zbX] at eg;subst eg;refine iT ?_ (by simp)
  obtain⟨dZ,z,rfl,ua,gz⟩:=Ey wj;obtain⟨T,m,zq⟩:=qx2 gz;obtain⟨rfl,hT,hm,nT,nm⟩:=qa5 zq;have v9:(jX++[g]).getLast?=some g:=by simp
  have nK:dE (dZ++[V.ref T]) (-1)=some (V.ref T):=by
   unfold dE;rw[zqA];show(gN (dZ.length+1)<|-1).bind _=_;rw[EA];simp
  refine zX<|aQ<|ag rfl<|q_<|cB jY nK<|PJ hT ?_;have cont:∀nb:Bool,nb=near g.1 g.2.1 t.1.toNat t.2.1.toNat->aE (aL K [] [] (E:=E)) ES D [u0,some<|.ref G,some<|.int t.1,some<|.int t.2.1,some<|.int t.2.2,some<|.bl nb,some<|.int (g.1:Nat),some<|.int (g.2.1:Nat),some<|.ref m,u9,e7] H1:=by
   intro nb PL;cases nb with
   |true=>exact aga k jY ua hm nm (aK g (by simp)) (by unfold cm;rw[v9];simp only[<-PL,if_true,zbI]) λdg H' b h1 h2=>ET _ _ _ _ dg H' b h1 h2
   |false=>exact PK k jY wj hn (by unfold cm;rw[v9];simp only[<-PL];rfl) λdg H' b h1 h2=>ET _ _ _ _ dg H' b h1 h2
  have q1:t.1=((t.1.toNat:Nat):Int):=by rw[k.e1,zar]
  have q2:t.2.1=((t.2.1.toNat:Nat):Int):=by rw[k.e2,zar]
  refine CA<|rg<|eZ<|ag rfl<|ag rfl<|N.ltI ⟨_,rfl,?_⟩;by_cases c1:t.1< ((g.2.1:Nat):Int)
  ·refine iT (cont true ?_) (zqT c1);unfold near;rw[if_neg (by lia),zqT (by lia)]
  ·refine iF ?_ (zqF c1);refine iP<|eZ<|ag rfl<|ag rfl<|iN ⟨_,rfl,?_⟩;by_cases c2:t.1=((g.2.1:Nat):Int)
   ·refine iT (o8<|rg<|eZ<|ag rfl<|ag rfl<|iN ⟨_,rfl,?_⟩) (zqT c2);by_cases c3:((g.1:Nat):Int)=((g.2.1:Nat):Int)
    ·refine iT (cont true ?_) (zqT c3);unfold near;rw[if_pos (by lia),zqT (show g.1=g.2.1 by lia)];rfl
    ·refine iF (eZ<|ag rfl<|ag rfl<|iN<|cont _ ?_) (zqF c3);unfold near;rw[if_pos (by lia),zqF (show ¬g.1=g.2.1 by lia),Bool.false_or,zaH]
     simp only[decide_eq_true_eq];lia
   ·refine iF (cont false ?_) (zqF c2);unfold near;rw[if_neg (by lia),zqF (by lia)]
theorem PM(h:aW Γ as σ H λvs H1=>zf Γ.K vs H1 Q):ak Γ (.xt vy as) σ H Q:=h
theorem PN(h:aW Γ as σ H λvs H1=>zg Γ.K vs H1 Q):ak Γ (.xt vz as) σ H Q:=h
theorem Ad:¬(HT.br 3 0 none=0/\HT.br 3 3 (some 2)=3):=nofun
theorem jn.but{ws:List V}{c:Cu}(x:jn H v c)(hF:H F=some (.lst ws))(b:aR F H H'):jn H' v c:=by
 obtain⟨t,e,h⟩:=x;refine⟨t,e,b _ _ h λz=>?_⟩;have h':H t=some (.tup _):=h;rw[z,hF] at h';cases h'
def PQ:List RS:=[.asg 10 (.ix (.v 0) (.blt .min [.v 8])),
  .ite (.cmp .Eq (.blt .len [.v 8]) (.c (.int 1))) [.drop (.bq .append (.v 9) [.v 10])] [.ite (.cmp .Lt (.ix (.v 10) (.c (.int 1))) (.ix (.v 10) (.c (.int 0)))) [.drop (.bq .append (.v 9) [(.tup [.v 3,.v 2,.c .aB])])] [.drop (.bq .append (.v 9) [(.tup [.v 2,.v 3,.c .aB])])]]]
theorem agc{l F m:Addr}{ws:List V}{cs ds:List Cu}{g:Gr}{u1 u4 u5 u6 u7 e7:Option V}(hl:H l=some (.lst xs))(cU:bS H xs cs)(hm:H m=some (.lst<|nums g.2.2))(cP:g.2.2≠ [])(cQ:∀k∈g.2.2,k<cs.length)
  (hF:H F=some (.lst ws)) (nY:bS H ws ds) (hn:ds.length<=1000)
  (hD:∀(EU:Option V) (PR:List V) H',aR F H H'->H' F=some (.lst PR)->bS H' PR (ds++[oneOf cs g])->D.nx [some<|.ref l,u1,some<|.int (g.1:Nat),some<|.int (g.2.1:Nat),u4,u5,u6,u7,some<|.ref m,some<|.ref F,EU] H'):
  aE (aL K [] [] (E:=E)) PQ D [some<|.ref l,u1,some<|.int (g.1:Nat),some<|.int (g.2.1:Nat),u4,u5,u6,u7,some<|.ref m,some<|.ref F,e7] H:=by
 have lw:=Paired.length nY;have jD:=hm;rw[Pw] at jD;refine CA<|aQ<|ag rfl<|lZ<|aj<|ag rfl<|aA ⟨_,ar.of jD,by simpa using cP,λx hx uV=>?_⟩
 rw[Px cP hx uV];have hk:=cQ _ (EH cP).1;have hc:=zaC hk;obtain⟨v,hv,tc,rfl,jO⟩:=z0 cU hc;refine cB hl (jz hv) ?_;have eo:oneOf cs g=(if g.2.2.length=1 then cs[least g.2.2] else if (cs[least g.2.2]).2.1< (cs[least g.2.2]).1 then (g.2.1,g.1,none) else (g.1,g.2.1,none)):=by
  unfold oneOf;rw[hc,Option.getD_some]
 have ln:(nums g.2.2).length=g.2.2.length:=by unfold nums;rw[zah]
 refine YS<|b_<|dj<|ag rfl<|.inl ⟨_,ar.of hm,au<|iN ⟨_,rfl,?_⟩⟩;rw[ln];have new:∀a b:Nat,oneOf cs g=(a,b,none)->∀(t':Addr),H t'=none->D.nx [some<|.ref l,u1,some<|.int (g.1:Nat),some<|.int (g.2.1:Nat),u4,u5,u6,u7,some<|.ref m,some<|.ref F,some<|.ref tc] (upd (upd H t'<|.tup [.int (a:Nat),.int (b:Nat),.aB]) F<|.lst<|ws++[.ref t']):=by
  intro a b e t' ft;have s1:=sameNew (o:=.tup [V.int (a:Nat),V.int (b:Nat),V.aB]) ft;have nt:t'≠F:=λz=>by rw[z,hF] at ft;cases ft
  have b2:aR F (upd H t'<|.tup [.int (a:Nat),.int (b:Nat),.aB]) (upd (upd H t'<|.tup [.int (a:Nat),.int (b:Nat),.aB]) F<|.lst<|ws++[.ref t']):=aR.upd;have bb:=(o_ s1 (c:=F)).trans b2;refine hD _ (ws++[.ref t']) _ bb aw ?_;rw[e];exact jo (L2.Paired.fZ nY λ_ _ x=>x.but hF bb) ⟨t',rfl,b2 _ _ aw nt⟩
 by_cases e:g.2.2.length=1
 ·rw[if_pos e] at eo;refine iT ?_<|zqT (by lia)
  refine dA<|fu<|ag rfl ⟨.inl ⟨rfl,_,ar.of hF⟩,ag rfl ⟨ws,hF,cX (by lia),?_⟩⟩
  have bb:aR F H (upd H F<|.lst<|ws++[.ref tc]):=aR.upd;refine hD _ (ws++[.ref tc]) _ bb aw ?_;rw[eo];exact jo (L2.Paired.fZ nY λ_ _ x=>x.but hF bb)<|jn.but ⟨tc,rfl,jO⟩ hF bb
 ·rw[if_neg e] at eo;refine iF ?_<|zqF (by lia)
  refine YS<|b_<|aQ<|ag rfl<|au<|aH jO rfl<|aQ<|ag rfl<|au<|aH jO rfl<|N.ltI ⟨_,rfl,?_⟩;by_cases b:(cs[least g.2.2]).2.1< (cs[least g.2.2]).1
  ·rw[if_pos b] at eo;refine iT ?_<|zqT (by lia)
   refine dA<|fu<|ag rfl ⟨.inl ⟨rfl,_,ar.of hF⟩,dY<|aj<|ag rfl<|aj<|ag rfl<|aj<|au<|aA ⟨eM,λt' f'=>?_⟩⟩;exact⟨ws,sameNew f' _ _ hF,cX (by lia),new _ _ eo t' f'⟩
  ·rw[if_neg b] at eo;refine iF ?_<|zqF (by lia)
   refine dA<|fu<|ag rfl ⟨.inl ⟨rfl,_,ar.of hF⟩,dY<|aj<|ag rfl<|aj<|ag rfl<|aj<|au<|aA ⟨eM,λt' f'=>?_⟩⟩;exact⟨ws,sameNew f' _ _ hF,cX (by lia),new _ _ eo t' f'⟩
theorem agd(vs:List V)(H:Hp)(Q:VK)(E:XK)(hh:pe vs H Q E):aE (aL K [] [] (E:=E)) i8 (Dn Q) (start oI vs) H:=by
 obtain⟨l,xs,cs,rfl,hl,cU,hn,q⟩:=hh;have lx:xs.length=cs.length:=Paired.length cU;refine CA<|cA<|aA ⟨zqZ _,λG fG=>?_⟩;have s0:=sameNew (o:=.lst []) fG;have EV:upd H G (.lst []) G=some (.lst []):=aw;have tV:=s0 _ _ hl;have EW:=cU.same s0;refine Ez (body:=lsBody)<|Pp<|aj ?_;refine⟨_,rfl,l,rfl,⟨_,ar.of tV⟩,?_⟩;refine Po tV (by lia) (λi ys H2=>Paired (V3 H2) ys<|iQ 0<|cs.take i) .nil (λi ys H2 H3 p s=>L2.Paired.fZ p λv t ⟨a,e,h⟩=>⟨a,e,s _ _ h⟩) ?_ ?_
 ·intro i x ys H2 hx s2 p Q' kk;obtain⟨c,hc,t,rfl,ht⟩:=iA EW hx;have i7:=s2 _ _ ht;have hi:i<cs.length:=(zak.mp hc).1;refine dY<|aj<|PM<|aj<|v7<|ag rfl<|au ⟨2,rfl,.inr ⟨_,aM.of i7,Ad,λc1 f1=>aA ⟨c1,[(c.1:Int),(c.2.1:Int)],rfl,aM.of aw,by simp,λmn wk pf=>?_⟩⟩⟩
  have s3:=sameNew (o:=.tup (fK [V.int (c.1:Nat),V.int (c.2.1:Nat),gV c.2.2] none<|some 2)) f1;have gU:=s3 _ _ i7;refine aj<|PN<|aj<|v7<|ag rfl<|au ⟨2,rfl,.inr ⟨_,aM.of gU,Ad,λc2 f2=>aA ⟨c2,[(c.1:Int),(c.2.1:Int)],rfl,aM.of aw,by simp,λmx hmx PU=>?_⟩⟩⟩
  have s4:=sameNew (o:=.tup (fK [V.int (c.1:Nat),V.int (c.2.1:Nat),gV c.2.2] none<|some 2)) f2;have e1:mn=((min c.1 c.2.1:Nat):Int):=by
   have a1:=pf (c.1:Int) (by simp)
   have a2:=pf (c.2.1:Int) (by simp)
   simp only[zaa,zac,or_false] at wk
   lia
  have e2:mx=((max c.1 c.2.1:Nat):Int):=by
   have a1:=PU (c.1:Int) (by simp)
   have a2:=PU (c.2.1:Int) (by simp)
   simp only[zaa,zac,or_false] at hmx
   lia
  rw[e1,e2];refine aj<|ag rfl<|aA ⟨eM,λT fT=>?_⟩;have s5:=sameNew (o:=.tup [V.int (min c.1 c.2.1:Nat),V.int (max c.1 c.2.1:Nat),V.int (i:Nat)]) fT;have kR:=(s3.trans s4).trans s5;refine kk _ _ kR ?_;rw[rn hc,EG,zaJ,zaq,zaT (show i<=cs.length by lia)]
  exact jo (L2.Paired.fZ p λv t ⟨a,e,h⟩=>⟨a,e,kR _ _ h⟩) ⟨T,rfl,aw⟩
 ·intro ys H2 p2 s2 p f2;rw[lx,zav<|zqR _] at p;have s3:=sameNew (o:=.lst ys) f2;refine aA ⟨p2,ys,iQ 0 cs,rfl,ar.of aw,L2.Paired.fZ p λv t ⟨a,e,h⟩=>⟨a,e,s3 _ _ h⟩,keys_nodup 0 cs,by rw[o9];exact hn,λO zs us fO p3 pm pw=>?_⟩
  have S:ij cs us:=⟨pm,pw⟩;have s4:=sameNew (o:=.lst zs) fO;have gm:=(s2.trans s3).trans s4;have nO:O≠G:=λz=>by rw[z,(s2.trans s3) _ _ EV] at fO;cases fO
  have hO:(upd (upd H2 p2<|.lst ys) O<|.lst zs) O=some (.lst zs):=aw;have p4:Paired (V3<|upd (upd H2 p2<|.lst ys) O<|.lst zs) zs us:=L2.Paired.fZ p3 λv t ⟨a,e,h⟩=>⟨a,e,s4 _ _ h⟩;generalize (upd (upd H2 p2<|.lst ys) O<|.lst zs)=H3 at gm hO p4⊢;have PV:=gm _ _ EV;have jr:=gm _ _ tV;have Pu:=EW.same gm;have lu:us.length=cs.length:=by rw[pm.length_eq,o9]
  have lz:zs.length=us.length:=Paired.length p4;have nl:l≠G:=bf hl fG;refine⟨O,rfl,⟨_,ar.of hO⟩,iR (K:=K) (a:=O) (xs:=zs) (λi σ H5=>∃(ws:List V) (y2 y3 y4 y5 y6 y7 y8:Option V),σ=[some<|.ref l,some<|.ref G,y2,y3,y4,y5,y6,y7,y8,none,none]/\aR G H3 H5/\H5 G=some (.lst ws)/\fD .lst G H5 ws (groups<|us.take i)) ?_ ?_ ?_ ?_⟩
  ·exact⟨[],none,none,none,none,none,none,none,rfl,o_<|av.refl _,PV,.nil⟩
  ·rintro i σ H5 _ ⟨ws,y2,y3,y4,y5,y6,y7,y8,rfl,b5,_⟩;exact ar.of<|b5 _ _ hO nO
  ·rintro i x σ H5 hi ⟨ws,y2,y3,y4,y5,y6,y7,y8,rfl,b5,hG,gv⟩;obtain⟨t,ht,T,rfl,hT⟩:=wg p4 hi;have nT:T≠G:=λz=>by rw[z,PV] at hT;cases hT
   refine Ph (b5 _ _ hT nT) ?_;obtain⟨c,k⟩:=z_ S (zaj ht);have bd:=Ac (us.take i);have li:(us.take i).length<=64:=by rw[zaq];lia
   refine agb k hG gv (by lia) (λg hg=>by have:=bd.1 g hg;lia) λz5 z6 z7 z8 dg H6 b6 EN EO=>⟨dg,_,_,_,z5,z6,z7,z8,rfl,b5.trans b6,EN,?_⟩
   rw[rn ht,Pk];exact EO
  ·rintro σ H5 ⟨ws,y2,y3,y4,y5,y6,y7,y8,rfl,b5,hG,gv⟩;rw[lz,zav<|zqR _] at gv;have bd:=Ac us;have lg:ws.length=(groups us).length:=Paired.length gv;have sH:av H H5:=λb o e=>b5 _ _ (gm _ _<|s0 _ _ e) (bf e fG);have hl5:=sH _ _ hl;have agg:=cU.same sH;refine CA<|cA<|aA ⟨zqZ _,λF fF=>?_⟩;have s6:=sameNew (o:=.lst []) fF;refine Ez (body:=PQ)<|ag rfl ⟨G,rfl,⟨_,ar.of<|s6 _ _ hG⟩,iR (K:=K) (a:=G) (xs:=ws) (λi σ H7=>∃(rs:List V) (y2 y3 y8 EU:Option V),σ=[some<|.ref l,some<|.ref G,y2,y3,y4,y5,y6,y7,y8,some<|.ref F,EU]/\av H5 H7/\H7 F=some (.lst rs)/\bS H7 rs (((groups us).take i).map<|oneOf cs)) ?_ ?_ ?_ ?_⟩
   ·exact⟨[],y2,y3,y8,none,rfl,s6,aw,.nil⟩
   ·rintro i σ H7 _ ⟨rs,z2,z3,z8,PX,rfl,s7,_⟩;exact ar.of<|s7 _ _ hG
   ·rintro i x σ H7 hi ⟨rs,z2,z3,z8,PX,rfl,s7,hF,ds⟩;obtain⟨g,hg,T,m,rfl,hT,hm,_,_⟩:=wg gv hi;have ok:=Py S g (zaj hg);refine PJ (s7 _ _ hT) ?_;refine agc (s7 _ _ hl5) (agg.same s7) (s7 _ _ hm) ok.1 ok.2 hF ds (by rw[zah,zaq];lia) λy oQ H8 b8 hF8 ds8=>⟨oQ,_,_,_,y,rfl,λb o e=>b8 _ _ (s7 _ _ e)<|bf e fF,hF8,?_⟩
    rw[rn hg,zas];exact ds8
   ·rintro σ H7 ⟨rs,z2,z3,z8,PX,rfl,s7,hF,ds⟩;rw[lg,zav<|zqR _] at ds;exact bP<|ag rfl<|q us F rs H7 S (sH.trans s7) (sH.free fF) hF ds
end
theorem PY{QQ:List V->Hp->Addr->Prop}{te:TE}{fv:List (Str×Nat)}{a b:Addr}(ha:H a=some (.lst xs))(hb:H b=some (.lst ys))(hl:xs.length<=1000000)(P:Nat->List V->Hp->Prop)(p0:P 0 [] H)(pm:∀i zs H2 H3,P i zs H2->av H2 H3->P i zs H3)
  (step:∀i x y zs H2,xs[i]?=some x->ys[i]?=some y->av H H2->P i zs H2->∀Q':VK,(∀z H3,av H2 H3->P (i+1) (zs++[z]) H3->Q' z H3)->te (some x::some y::cW σ fv) H2 Q')
  (fin:∀zs H2 p,av H H2->P (min xs.length ys.length) zs H2->H2 p=none->QQ zs H2 p):∃W:Nat->Nat->List V->Hp->Prop,(∃m,W 0 m [] H)/\∀i m zs H2,W i m zs H2->
   ((ka K a b).stop i H2/\∀p,H2 p=none->QQ zs H2 p)\/
   ((ka K a b).go i H2/\∀x H3,(ka K a b).gK i H2 x H3->lG K (some 2) x H3 λws=>n6 none (ws.map some++cW σ fv) H3 λb H5=>
    if b=true then te (ws.map some++cW σ fv) H5 λy H6=>zs.length<sizeLine/\∃m',m'<m/\W (i+1) m' (zs++[y]) H6 else ∃m',m'<m/\W (i+1) m' zs H5):=by
 refine⟨λi m zs H2=>m=min xs.length ys.length - i/\i<=min xs.length ys.length/\zs.length=i/\av H H2/\P i zs H2,⟨_,rfl,zqZ _,rfl,av.refl _,p0⟩,?_⟩;rintro i m zs H2 zq;obtain⟨rfl,hi,hy,s,p⟩:=qa5 zq;by_cases aU:i<min xs.length ys.length
 ·have h1:i<xs.length:=by lia
  have h2:i<ys.length:=by lia
  refine .inr ⟨⟨xs,ys,ar.of<|s _ _ ha,ar.of<|s _ _ hb,h1,h2⟩,?_⟩;rintro x H3 ⟨T,hT,rfl,hx⟩;have eU:=hx xs ys xs[i] ys[i] (ar.of<|s _ _ ha) (ar.of<|s _ _ hb) (zaC h1) (zaC h2);subst eU;have s3:=sameNew (o:=.tup [xs[i],ys[i]]) hT;exact⟨T,_,rfl,aM.of aw,rfl,step i xs[i] ys[i] zs _ (zaC h1) (zaC h2) (s.trans s3) (pm _ _ _ _ p s3) _ λy H4 s4 p4=>⟨cX (by lia),min xs.length ys.length - (i+1),by lia,rfl,aU,by simp[hy],(s.trans s3).trans s4,p4⟩⟩
 ·have ip:i=min xs.length ys.length:=by lia
  subst ip;exact .inl ⟨⟨xs,ys,ar.of<|s _ _ ha,ar.of<|s _ _ hb,rfl⟩,λq hq=>fin zs _ q s p hq⟩
def Apart(cs:List Cu):Prop:= ∀i c d,cs[i]?=some c->cs[i+1]?=some d->near (min c.1 c.2.1) (max c.1 c.2.1) (min d.1 d.2.1) (max d.1 d.2.1)=false
theorem PZ(xs:List V):fK xs (some 1) none=xs.drop 1:=by
 unfold fK;have h:=HT.pU xs.length 0 1;rw[show((1:Nat):Int)=1 from rfl] at h
 rw[h,HT.Bi];by_cases z:1<=xs.length
 ·rw[zaT z,zav (by simp)]
 ·have:xs=[]:=zbT (by lia)
  subst this;rfl
section
variable {K:Frag}
inductive ub(vs:List V)(H:Hp)(Q:VK)(E:XK):Prop|i(n:Nat)(l:Addr)(xs:List V)(cs:List Cu)(_:vs=[.int n,.ref l])(_:H l=some (.lst xs))(_:bS H xs cs)(_:1<=cs.length)(_:cs.length<=40)(_:(∀c∈cs,c.1<=n/\c.2.1<=n))(_:Apart cs)(_:∀H',av H H'->Q .aB H')
theorem agj{CE:Addr}(vs:List V)(H:Hp)(Q:VK)(E:XK)(hh:ub vs H Q E):aE (aL K [("is_cursor",rj),("meet",rk),("begin_of",jW),("end_of",nJ)] [("MOST_CURSORS",.int 40)] (et:=[("NoCursor",CE)]) (E:=E)) C0 (Dn Q) (start CZ vs) H:=by
 obtain⟨n,l,xs,cs,rfl,hl,cU,h1,h2,cQ,hap,q⟩:=hh;have lx:=Paired.length cU;refine YS<|gG<|cc<|jk<|ag rfl<|lU hl<|iF ?_ rfl;refine cc<|zZ<|zY<|au<|dj<|ag rfl<|.inl ⟨_,ar.of hl,N.rf ⟨_,rfl,iT (vK<|N.rf ⟨_,rfl,?_⟩)<|zqT (by lia)⟩⟩
 rw[show decide (((xs.length:Nat):Int)<=40)=true from zqT (by lia)]
 refine iF (cf ?_) rfl;refine YS<|cc<|EB<|aj<|vX<|ag rfl ⟨l,rfl,⟨_,ar.of hl⟩,vW hl (by lia) (λi ys _=>ys=(List.replicate i true).map V.bl) rfl ?_ ?_⟩
 ·intro i x ys H2 hx s2 e Q' kk;obtain⟨c,hc,t,rfl,ht⟩:=iA cU hx;have b:=cQ c (zaj hc);refine aP rj rfl<|aj<|ag rfl<|aj<|ag rfl<|aA ⟨t,_,_,_,n,rfl,s2 _ _ ht,b.1,b.2,kk _ _ (av.refl _) ?_⟩;rw[e,zbY,zas];rfl
 ·intro ys H2 p2 s2 e f2;subst e;refine aA ⟨p2,List.replicate xs.length true,rfl,ar.of aw,d_<|iF (cf ?_) (by simp)⟩
  have jq:=s2.trans (sameNew (o:=.lst ((List.replicate xs.length true).map V.bl)) f2);have jr:=jq _ _ hl;generalize upd H2 p2 (.lst<|(List.replicate xs.length true).map V.bl)=H3 at jq jr⊢;refine YS<|Pf<|aj ?_;refine⟨_,rfl,_,rfl,_,rfl,.inl ⟨_,ar.of jr,λw fw=>⟨l,w,rfl,⟨_,ar.of<|sameNew fw _ _ jr⟩,⟨_,ar.of aw⟩,?_⟩⟩⟩;rw[PZ];have s4:=sameNew (o:=.lst (xs.drop 1)) fw;have hw:upd H3 w (.lst<|xs.drop 1) w=some (.lst<|xs.drop 1):=aw;have eA:=jq.trans s4;refine PY (s4 _ _ jr) hw (by lia) (λi zs _=>zs=(List.replicate i false).map V.bl) rfl (λ_ _ _ _ p _=>p) ?_ ?_
  ·intro i x y zs H5 hx hy s5 e Q' kk;rw[zbR,Nat.add_comm] at hy;obtain⟨c,hc,t,rfl,ht⟩:=iA cU hx;obtain⟨d,hd,t',rfl,gY⟩:=iA cU hy;have mh:=s5 _ _ (eA _ _ ht);refine aP rk rfl<|aj<|aP jW rfl<|aj<|ag rfl<|aA ⟨t,_,_,_,rfl,mh,aj<|aP nJ rfl<|aj<|ag rfl<|aA ⟨t,_,_,_,rfl,mh,aj<|ag rfl<|aA ⟨_,_,t',_,_,_,rfl,(s5 _ _ (eA _ _ gY)),?_⟩⟩⟩;rw[hap i c d hc hd];refine kk _ _ (av.refl _) ?_;rw[e,zbY,zas];rfl
  ·intro zs H5 p5 s5 e f5;subst e;refine aA ⟨p5,List.replicate (min xs.length (xs.drop 1).length) false,rfl,ar.of aw,d_<|iF ?_ (by simp)⟩
   exact q _<|(eA.trans s5).trans (sameNew (o:=.lst ((List.replicate (min xs.length (xs.drop 1).length) false).map V.bl)) f5)
end
def bg(c:Cu):Nat:=min c.1 c.2.1
def en(c:Cu):Nat:=max c.1 c.2.1
theorem agl(c:Cu):bg c<=en c:=by unfold bg en;lia
theorem P5(h1:lo<=hi)(h2:b<=e)(h:near lo hi b e=false):hi<=b/\lo<b:=by
 unfold near at h
 split at h
 ·lia
 ·lia
theorem agm{hi b e:Nat}(h:hi<b):near lo hi b e=false:=by
 unfold near;rw[if_neg (by lia)]
 exact zqF (by lia)
theorem agn{b e e':Nat}(h2:b<=e)(h3:e<=e')(h:near lo hi b e=false):near lo hi b e'=false:=by
 unfold near at h⊢
 split
 ·rename_i z
  rw[if_pos z,zbH] at h;rw[zbH];exact⟨h.1,zqF (by lia)⟩
 ·rename_i z
  rw[if_neg z] at h;exact h
def Ae(cs:List Cu):Prop:=cs.Pairwise λc d=>near (bg c) (en c) (bg d) (en d)=false
theorem Ae.apart(h:Ae cs):Apart cs:=by
 intro i c d hc hd;obtain⟨h1,e1⟩:=zak.mp hc;obtain⟨h2,e2⟩:=zak.mp hd;have:=zbF.mp h i (i+1) h1 h2 (by lia)
 rw[e1,e2] at this;exact this
def GI(cs:List Cu)(n:Nat)(g:Gr):Prop:=g.1<=g.2.1/\g.2.1<=n/\g.2.2≠ []/\∀k,g.2.2=[k]->∃c,cs[k]?=some c/\g.1=bg c/\g.2.1=en c
def EY(a b:Gr):Prop:=near a.1 a.2.1 b.1 b.2.1=false
theorem ago{t:T3}{c:Cu}(k:rm cs t c)(h:en c<=n):GI cs n (t.1.toNat,t.2.1.toNat,[t.2.2.toNat]):=by
 have e1:=k.e1▸zar _
 have e2:=k.e2▸zar _
 refine⟨?_,?_,by lia,λm hm=>?_⟩
 ·rw[e1,e2];exact agl c
 ·rw[e2];exact h
 ·cases hm;exact⟨c,k.at',e1,e2⟩
theorem P_(cs:List Cu)(n:Nat):∀(us:List T3) (gs:List Gr),(∀t∈us,∃c,rm cs t c/\en c<=n)->(∀g∈gs,GI cs n g)->gs.Pairwise EY->(∀g∈us.foldl cm gs,GI cs n g)/\(us.foldl cm gs).Pairwise EY
 |[],gs,_,h1,h2=>⟨h1,h2⟩
 |t::us,gs,hu,h1,h2=>by
  obtain⟨c,k,hc⟩:=hu t (.head _);have gn:=ago k hc;refine P_ cs n us _ (λx hx=>hu x<|.tail _ hx) ?_ ?_
  ·unfold cm
   split
   ·intro g hg;rcases zae.mp hg with hg|hg
    ·exact h1 g hg
    ·rw[zad.mp hg];exact gn
   ·rename_i g0 e0
    split
    ·intro g hg;rcases zae.mp hg with hg|hg
     ·exact h1 g (zbU _ hg)
     ·rw[zad.mp hg];have v8:=h1 g0 (zbV e0);refine⟨?_,?_,by simp,λm hm=>?_⟩
      ·have:=v8.1;lia
      ·have:=v8.2.1;have:=gn.2.1;lia
      ·cases hq:g0.2.2 with
       |nil=>exact absurd hq v8.2.2.1
       |cons a b=>
        have jD:=hm;rw[hq] at jD
        simp at jD
    ·intro g hg;rcases zae.mp hg with hg|hg
     ·exact h1 g hg
     ·rw[zad.mp hg];exact gn
  ·rcases zbW gs with eg|⟨jX,g,eg⟩
   ·subst eg;exact zbZ _ _
   ·rw[zbX] at eg;subst eg;have hg:=h1 g (by simp)
    have pw:=zca.mp h2;unfold cm;rw[show(jX++[g]).getLast?=some g by simp]
    show List.Pairwise EY (if near g.1 g.2.1 t.1.toNat t.2.1.toNat=true then _ else _)
    split
    ·rw[zbI];refine zca.mpr ⟨pw.1,zbZ _ _,λa ha b hb=>?_⟩;rw[zad.mp hb];exact agn hg.1 (Nat.le_max_left _ _)<|pw.2.2 a ha g<|.head _
    ·rename_i nn
     have Qa:=by simpa using nn
     refine zca.mpr ⟨h2,zbZ _ _,λa ha b hb=>?_⟩;rw[zad.mp hb];rcases zae.mp ha with ha|ha
     ·have x:=P5 (h1 a<|zaG _ ha).1 hg.1 (pw.2.2 a ha g<|.head _);have y:=P5 hg.1 (show t.1.toNat<=t.2.1.toNat from gn.1) Qa
      exact agm (show a.2.1<t.1.toNat by lia)
     ·rw[zad.mp ha];exact Qa
theorem wo{g:Gr}(h:GI cs n g):bg (oneOf cs g)=g.1/\en (oneOf cs g)=g.2.1:=by
 obtain⟨a,b,c,d⟩:=h;unfold oneOf;by_cases e:g.2.2.length=1
 ·obtain⟨k,hk⟩:=List.length_eq_one_iff.mp e;obtain⟨x,hx,e1,e2⟩:=d k hk
  simp only[hk,zba,if_true]
  show bg ((cs[k]?).getD _)=g.1/\en ((cs[k]?).getD _)=g.2.1;rw[hx];exact⟨e1.symm,e2.symm⟩
 ·simp only[e,if_false]
  split
  ·exact⟨by show min g.2.1 g.1=g.1;lia,by show max g.2.1 g.1=g.2.1;lia⟩
  ·exact⟨by show min g.1 g.2.1=g.1;lia,by show max g.1 g.2.1=g.2.1;lia⟩
theorem agp(gs:List Gr)(t:T3):cm gs t≠ []:=by
 unfold cm
 split
 ·simp
 ·split<;>simp
theorem Qc:∀(us:List T3) (gs:List Gr),(us≠ []\/gs≠ [])->us.foldl cm gs≠ []
 |[],gs,h=>by rcases h with h|h;exact absurd rfl h;exact h
 |t::us,gs,_=>Qc us _ (.inr<|agp gs t)
structure agq (cs ds:List Cu) (n:Nat):Prop where
 far:Ae ds
 inn:∀c∈ds,c.1<=n/\c.2.1<=n
 len:ds.length<=cs.length
 ne:cs≠ []->ds≠ []
theorem agt{us:List T3}(S:ij cs us)(hn:∀c∈cs,c.1<=n/\c.2.1<=n):agq cs (settle cs us) n:=by
 obtain⟨g1,g2⟩:=P_ cs n us [] (λt ht=>by
  obtain⟨c,k⟩:=z_ S ht;have:=hn c (zaj k.at');exact⟨c,k,by unfold en;lia⟩) nofun List.Pairwise.nil
 refine⟨?_,?_,?_,?_⟩
 ·unfold Ae settle;rw[List.pairwise_map];refine List.Pairwise.imp_of_mem (λ{a b} ha hb x=>?_) g2;rw[(wo<|g1 a ha).1,(wo<|g1 a ha).2,(wo<|g1 b hb).1,(wo<|g1 b hb).2];exact x
 ·intro c hc;obtain⟨g,hg,rfl⟩:=zaF.mp hc;have o:=wo (g1 g hg);have:=(g1 g hg).2.1;unfold en at o;lia
 ·unfold settle;rw[zah];have:=(EL us [] 0 nofun<|zqR _).2
  rw[S.1.length_eq,o9] at this;unfold groups;lia
 ·intro h;have:us≠ []:=λz=>by
   have:=S.1.length_eq;rw[z,o9] at this;exact h<|zbT this.symm
  intro z;exact Qc us [] (.inl this)<|List.map_eq_nil_iff.mp z
def EZ(v:V):Prop:=(∃i:Int,v=.int i/\i<0)\/(∃b,v=.bl b)\/∃s,v=.str s
def mi(v:V)(n:Nat)(H:Hp):Prop:=gh .tuple v H\/∃a xs,v=.ref a/\H a=some (.tup xs)/\(xs.length≠3\/∃x y z,xs=[x,y,z]/\
 (ma x 0 (n:Nat) H\/∃i:Int,x=.int i/\0<=i/\i<= (n:Nat)/\(ma y 0 (n:Nat) H\/∃j:Int,y=.int j/\0<=j/\j<= (n:Nat)/\EZ z)))
theorem mi.same(h:mi v n H)(s:av H H'):mi v n H':=by
 rcases h with h|⟨a,xs,rfl,ha,h⟩
 ·exact .inl (h.same s)
 ·refine .inr ⟨a,xs,rfl,s _ _ ha,?_⟩;rcases h with h|⟨x,y,z,rfl,h⟩
  ·exact .inl h
  ·refine .inr ⟨x,y,z,rfl,?_⟩;rcases h with h|⟨i,rfl,h1,h2,h⟩
   ·exact .inl (h.same s)
   ·refine .inr ⟨i,rfl,h1,h2,?_⟩;rcases h with h|h
    ·exact .inl (h.same s)
    ·exact .inr h
section
variable {K:Frag}
inductive E1(vs:List V)(H:Hp)(Q:VK)(E:XK):Prop|i(v:V)(_:vs=[v])(_:EZ v)(_:Q (.bl false) H)
theorem agu:cI (E1) (λE=>aL K [("is_whole",lY)] [] (E:=E)) CV iH:=by
 intro vs H Q E h;obtain⟨v,rfl,h,q⟩:=h
 rcases h with⟨i,rfl,hi⟩|⟨b,rfl⟩|⟨s,rfl⟩
 ·refine bP (rg<|eZ<|ag rfl<|au ⟨rfl,_,rfl,iF ?_<|zqF (by lia)⟩)
  refine iP<|aP lY rfl<|aj<|ag rfl<|aA ⟨_,rfl,.inl ⟨_,rfl,_,rfl,iT (o8<|eZ<|ag rfl<|au<|N.Pe ?_) rfl⟩⟩;rw[zqF (show ¬(0:Int)<=i by lia)]
  exact q
 ·refine bP (rg<|eZ<|ag rfl<|au ⟨rfl,_,rfl,iF ?_<|zqF (by lia)⟩)
  exact iP<|aP lY rfl<|aj<|ag rfl<|aA ⟨_,rfl,.inr ⟨.inl ⟨_,rfl⟩,_,rfl,iF q rfl⟩⟩
 ·refine bP (rg<|eZ<|ag rfl<|au ⟨rfl,_,rfl,iF ?_<|zqF (by simp)⟩)
  exact iP<|aP lY rfl<|aj<|ag rfl<|aA ⟨_,rfl,.inr ⟨.inr rfl,_,rfl,iF q rfl⟩⟩
inductive wq(vs:List V)(H:Hp)(Q:VK)(E:XK):Prop|i(v:V)(n:Nat)(_:vs=[v,.int n])(_:mi v n H)(_:Q (.bl false) H)
theorem agv:cI (wq) (λE=>aL K [("is_between",gi),("is_goal",jj v5 E1)] [] (E:=E)) CY CW:=by
 intro vs H Q E h;obtain⟨v,n,rfl,h,q⟩:=h;rcases h with h|⟨a,xs,rfl,ha,h⟩
 ·exact YS (gG<|cc<|jk<|ag rfl<|h.go<|iT (iT (bP<|au q) rfl) rfl)
 ·refine YS (gG<|cc<|jk<|ag rfl<|ny ha<|iF ?_ rfl);rcases h with h|⟨x,y,z,rfl,h⟩
  ·exact b_ (dj<|ag rfl<|.inr ⟨_,aM.of ha,au<|nI ⟨_,rfl,iT (bP<|au q) (by lia)⟩⟩)
  ·refine b_ (dj<|ag rfl<|.inr ⟨_,aM.of ha,au<|nI ⟨_,rfl,iF (cf ?_) (rfl)⟩⟩)
   rcases h with h|⟨i,rfl,h1,h2,h⟩
   ·exact bP (iP<|aP gi rfl<|aj<|aQ<|ag rfl<|au<|aH ha rfl<|aj<|au<|aj<|ag rfl<|aA ⟨_,_,_,rfl,.inr ⟨h,_,rfl,iF q rfl⟩⟩)
   ·refine bP (iP<|aP gi rfl<|aj<|aQ<|ag rfl<|au<|aH ha rfl<|aj<|au<|aj<|ag rfl<|aA ⟨_,_,_,rfl,.inl ⟨_,rfl,h1,h2,_,rfl,iT ?_ rfl⟩⟩);rcases h with h|⟨j,rfl,h3,h4,h⟩
    ·exact iP (aP gi rfl<|aj<|aQ<|ag rfl<|au<|aH ha rfl<|aj<|au<|aj<|ag rfl<|aA ⟨_,_,_,rfl,.inr ⟨h,_,rfl,iF q rfl⟩⟩)
    ·exact iP (aP gi rfl<|aj<|aQ<|ag rfl<|au<|aH ha rfl<|aj<|au<|aj<|ag rfl<|aA ⟨_,_,_,rfl,.inl ⟨_,rfl,h3,h4,_,rfl,iT (o8<|aP (jj v5 E1) rfl<|aj<|aQ<|ag rfl<|au<|aH ha rfl<|aA<|.inr ⟨_,rfl,h,q⟩) rfl⟩⟩)
def E2(v:V)(n:Nat)(H:Hp):Prop:=(∃c,jn H v c/\c.1<=n/\c.2.1<=n)\/mi v n H
def Af(v:V)(n:Nat)(H:Hp):Prop:=gh .list v H\/∃l xs,v=.ref l/\H l=some (.lst xs)/\(xs.length=0\/40<xs.length\/
 (xs.length<=40/\((∃dc o iq,xs=dc++o::iq/\(∀x∈dc++iq,E2 x n H)/\mi o n H)\/
  ∃cs i c d,bS H xs cs/\(∀c∈cs,c.1<=n/\c.2.1<=n)/\cs[i]?=some c/\cs[i+1]?=some d/\near (bg c) (en c) (bg d) (en d)=true)))
def Ag(CE:Addr):Sp:=λvs H Q E=>∃(n:Nat) (v:V),vs=[.int n,v]/\Af v n H/\∀H',av H H'->E (.ref CE) none H'
abbrev Qd:List (Str×Sp):=[("is_cursor",jj rj wq),("meet",rk),("begin_of",jW),("end_of",nJ)]
theorem agw{CE:Addr}(vs:List V)(H:Hp)(Q:VK)(E:XK)(hh:Ag CE vs H Q E):aE (aL K Qd [("MOST_CURSORS",.int 40)] (et:=[("NoCursor",CE)]) (E:=E)) C0 (Dn Q) (start CZ vs) H:=by
 obtain⟨n,v,rfl,h,q⟩:=hh;rcases h with h|⟨l,xs,rfl,hl,h⟩
 ·refine YS (gG<|cc<|jk<|ag rfl<|h.go<|iT (iT ?_ rfl) rfl);exact⟨dR,q _<|av.refl _⟩
 refine YS<|gG<|cc<|jk<|ag rfl<|lU hl<|iF ?_ rfl;rcases h with h|h|⟨hle,h⟩
 ·refine cc (zZ<|zY<|au<|dj<|ag rfl<|.inl ⟨_,ar.of hl,N.rf ⟨_,rfl,iF ⟨_,rfl,iT ?_ rfl⟩<|zqF (by lia)⟩⟩)
  exact⟨dR,q _<|av.refl _⟩
 ·refine cc (zZ<|zY<|au<|dj<|ag rfl<|.inl ⟨_,ar.of hl,N.rf ⟨_,rfl,iT (vK<|N.rf ⟨_,rfl,?_⟩)<|zqT (by lia)⟩⟩)
  rw[show decide (((xs.length:Nat):Int)<=40)=false from zqF (by lia)]
  exact iT ⟨dR,q _<|av.refl _⟩ rfl
 have h0:1<=xs.length:=by
  rcases h with⟨dc,o,iq,rfl,_⟩|⟨cs,i,c,d,cU,_,hc,_⟩
  ·rw[zqA,zau];lia
  ·have:=(zak.mp hc).1;have:=Paired.length cU;lia
 refine cc<|zZ<|zY<|au<|dj<|ag rfl<|.inl ⟨_,ar.of hl,N.rf ⟨_,rfl,iT (vK<|N.rf ⟨_,rfl,?_⟩)<|zqT (by lia)⟩⟩
 rw[show decide (((xs.length:Nat):Int)<=40)=true from zqT (by lia)]
 refine iF (cf ?_) rfl;rcases h with⟨dc,o,iq,rfl,hcu,ho⟩|⟨cs,j,c,d,cU,cQ,hc,hd,cP⟩
 ·refine YS (cc<|EB<|aj<|vX<|ag rfl ⟨l,rfl,⟨_,ar.of hl⟩,?_⟩);refine vW hl (by lia) (λi ys _=>∃bs:List Bool,ys=bs.map V.bl/\(dc.length<i->false∈bs)) ⟨[],rfl,λz=>absurd z<|zbE _⟩ ?_ ?_
  ·rintro i x ys H2 hx s2 ⟨bs,rfl,hb⟩ Q' kk;have odd:mi x n H->ak (aL K Qd [("MOST_CURSORS",.int 40)] (et:=[("NoCursor",CE)]) (E:=E)).calm (.call 0 [.v 0,.v 1]) (some x::cW [some<|V.int (n:Nat),some<|V.ref l] [("size",0)]) H2 Q':=by
    intro eU;refine aP (jj rj wq) rfl<|aj<|ag rfl<|aj<|ag rfl<|aA<|.inr ⟨x,n,rfl,eU.same s2,kk _ _ (av.refl _) ⟨bs++[false],by rw[zas];rfl,λ_=>by simp⟩⟩
   by_cases hi:i=dc.length
   ·have e:x=o:=by rw[hi] at hx;simpa using hx.symm
    rw[e] at odd;rw[e];exact odd ho
   ·have hm:x∈dc++iq:=by
     by_cases IQ:i<dc.length
     ·rw[zbw IQ] at hx;exact zaG _<|zaj hx
     ·rw[zbj (by lia)] at hx
      obtain⟨m,hm⟩:∃m,i - dc.length=m+1:=⟨i - dc.length - 1,by lia⟩
      rw[hm,List.getElem?_cons_succ] at hx;exact zaB _<|zaj hx
    rcases hcu x hm with⟨c,⟨t,rfl,ht⟩,b1,b2⟩|eU
    ·refine aP (jj rj wq) rfl (aj<|ag rfl<|aj<|ag rfl<|aA<|.inl ⟨t,_,_,_,n,rfl,s2 _ _ ht,b1,b2,kk _ _ (av.refl _) ⟨bs++[true],by rw[zas];rfl,λz=>?_⟩⟩)
     exact zaG _<|hb (by lia)
    ·exact odd eU
  ·rintro ys H2 p2 s2 ⟨bs,rfl,hb⟩ f2;have hf:=hb (by rw[zqA,zau];lia)
   have s3:=sameNew (o:=.lst (bs.map V.bl)) f2;refine aA ⟨p2,bs,rfl,ar.of aw,d_<|iT ?_ ?_⟩
   ·exact⟨dR,q _<|s2.trans s3⟩
   ·have:bs.all id=false:=by
     cases e:bs.all id with
     |false=>rfl
     |true=>exact absurd (zaO.mp e false hf) (by simp)
    simpa using this
 ·have lx:xs.length=cs.length:=Paired.length cU;refine YS<|cc<|EB<|aj<|vX<|ag rfl ⟨l,rfl,⟨_,ar.of hl⟩,?_⟩;refine vW hl (by lia) (λi ys _=>ys=(List.replicate i true).map V.bl) rfl ?_ ?_
  ·intro i x ys H2 hx s2 e Q' kk;obtain⟨c,hc,t,rfl,ht⟩:=iA cU hx;have b:=cQ c (zaj hc);refine aP (jj rj wq) rfl<|aj<|ag rfl<|aj<|ag rfl<|aA<|.inl ⟨t,_,_,_,n,rfl,s2 _ _ ht,b.1,b.2,kk _ _ (av.refl _) ?_⟩;rw[e,zbY,zas];rfl
  ·intro ys H2 p2 s2 e f2;subst e;have s3:=sameNew (o:=.lst ((List.replicate xs.length true).map V.bl)) f2;refine aA ⟨p2,List.replicate xs.length true,rfl,ar.of aw,d_<|iF (cf ?_) (by simp)⟩
   have jq:=s2.trans s3;have jr:=jq _ _ hl;generalize upd H2 p2 (.lst<|(List.replicate xs.length true).map V.bl)=H3 at jq jr⊢;refine YS<|Pf<|aj ?_;refine⟨_,rfl,_,rfl,_,rfl,.inl ⟨_,ar.of jr,λw fw=>⟨l,w,rfl,⟨_,ar.of<|sameNew fw _ _ jr⟩,⟨_,ar.of aw⟩,?_⟩⟩⟩;rw[PZ];have s4:=sameNew (o:=.lst (xs.drop 1)) fw;have hw:upd H3 w (.lst<|xs.drop 1) w=some (.lst<|xs.drop 1):=aw;have wm:=s4 _ _ jr;have eA:=jq.trans s4;refine PY wm hw (by lia) (λi zs _=>∃bs:List Bool,zs=bs.map V.bl/\(j<i->true∈bs)) ⟨[],rfl,λz=>absurd z<|zbE _⟩ (λ_ _ _ _ p _=>p) ?_ ?_
   ·rintro i x y zs H5 hx hy s5 ⟨bs,rfl,hb⟩ Q' kk;rw[zbR,Nat.add_comm] at hy;obtain⟨c',cC,t,rfl,ht⟩:=iA cU hx;obtain⟨d',nR,t',rfl,gY⟩:=iA cU hy;have mh:=s5 _ _ (eA _ _ ht);have EX:=s5 _ _ (eA _ _ gY);refine aP rk rfl<|aj<|aP jW rfl<|aj<|ag rfl<|aA ⟨t,_,_,_,rfl,mh,aj<|aP nJ rfl<|aj<|ag rfl<|aA ⟨t,_,_,_,rfl,mh,aj<|ag rfl<|aA ⟨_,_,t',_,_,_,rfl,EX,?_⟩⟩⟩;refine kk _ _ (av.refl _) ⟨bs++[near (bg c') (en c') (bg d')<|en d'],by rw[zas];rfl,λz=>?_⟩
    by_cases hi:i=j
    ·subst hi;rw[hc] at cC;rw[hd] at nR;cases cC;cases nR;rw[cP];simp
    ·exact zaG _ (hb (by lia))
   ·rintro zs H5 p5 s5 ⟨bs,rfl,hb⟩ f5;have hj:=(zak.mp hd).1;have hf:=hb (by rw[zao];lia)
    have s6:=sameNew (o:=.lst (bs.map V.bl)) f5;refine aA ⟨p5,bs,rfl,ar.of aw,d_<|iT ?_ ?_⟩
    ·exact⟨dR,q _<|(eA.trans s5).trans s6⟩
    ·exact zbD.mpr ⟨true,hf,rfl⟩
inductive E3(vs:List V)(H:Hp)(Q:VK)(E:XK):Prop|i(c:Int)(n:Nat)(_:vs=[.int c,.int n])(_:∀t a h g H',av H H'->iz H' t a h g->a<=n->h<=n->Q (.ref t) H')
theorem Qe:∃a:Nat,c % ((n:Nat)+1:Int)=(a:Nat)/\a<=n:=by
 have h1:=zax c (show((n:Nat)+1:Int)≠0 by lia)
 have h2:=zaA c (show(0:Int) < (n:Nat)+1 by lia)
 exact⟨(c % ((n:Nat)+1:Int)).toNat,by lia,by lia⟩
theorem agy(vs:List V)(H:Hp)(Q:VK)(E:XK)(hh:E3 vs H Q E):aE (aL K [("_law_mixed",jN)] [] (E:=E)) Dd (Dn Q) (start LC vs) H:=by
 obtain⟨c,n,rfl,q⟩:=hh;refine CA<|aP jN rfl<|aj<|ag rfl<|aj<|au<|aA ⟨_,_,rfl,?_⟩;have hm:=(Dk c 3).1;generalize mixed c 3=m at hm⊢;have n1:(0:Int) < (n:Nat)+1:=by lia
 refine CA<|aQ<|cA<|aj<|bp<|ag rfl<|bp<|ag rfl<|au<|eK ⟨n1,?_⟩;refine aj<|au<|aj<|ag rfl<|aj<|bp<|bp<|ag rfl<|au ⟨⟨by decide,by decide⟩,bp<|ag rfl<|au<|eK ⟨n1,aA ⟨F1,λl fl=>?_⟩⟩⟩
 have s1:=sameNew (o:=.lst [V.int<|m % ((n:Nat)+1:Int),V.int 0,V.int (n:Nat),V.int<|m / 7 % ((n:Nat)+1:Int)]) fl;obtain⟨v,hv,nK⟩:=L2.N.pick (its:=[V.int<|m % ((n:Nat)+1:Int),V.int 0,V.int (n:Nat),V.int<|m / 7 % ((n:Nat)+1:Int)]) (j:=m / 5 % 4) (zax _ (by decide)) (zaA _ (by decide))
 obtain⟨a,rfl,la⟩:∃a:Nat,v=.int a/\a<=n:=by
  simp only[zaa,zac,or_false] at hv
  rcases hv with rfl|rfl|rfl|rfl
  ·obtain⟨x,e,l⟩:=Qe (c:=m) (n:=n);exact⟨x,by rw[e],l⟩
  ·exact⟨0,rfl,zqZ _⟩
  ·exact⟨n,rfl,zqR _⟩
  ·obtain⟨x,e,l⟩:=Qe (c:=m / 7) (n:=n);exact⟨x,by rw[e],l⟩
 refine bp<|bp<|ag rfl<|au ⟨⟨by decide,by decide⟩,au ⟨(by show(0:Int) <4;decide),cB aw nK ?_⟩⟩
 generalize upd H l (.lst [V.int<|m % ((n:Nat)+1:Int),V.int 0,V.int (n:Nat),V.int<|m / 7 % ((n:Nat)+1:Int)])=H1 at s1⊢;refine CA<|lZ<|aj<|au<|aj<|lZ<|aj<|ag rfl<|aj<|bp<|ag rfl<|aQ<|cA<|aj<|au<|aj<|au<|aj<|au<|aj<|q_<|aj<|au<|aj<|q_<|aj<|au<|aj<|ag rfl<|aA ⟨RP,λl2 fl2=>?_⟩;have s2:=sameNew (o:=.lst [V.int 0,V.int 0,V.int 1,V.int<|-1,V.int 3,V.int<|-4,V.int 9,V.int (n:Nat)]) fl2;obtain⟨w,hw,agA⟩:=L2.N.pick (its:=[V.int 0,V.int 0,V.int 1,V.int<|-1,V.int 3,V.int<|-4,V.int 9,V.int (n:Nat)]) (j:=m / 23 % 8) (zax _ (by decide)) (zaA _ (by decide))
 obtain⟨d,rfl⟩:∃d:Int,w=.int d:=by
  simp only[zaa,zac,or_false] at hw
  rcases hw with rfl|rfl|rfl|rfl|rfl|rfl|rfl|rfl<;>exact⟨_,rfl⟩
 refine bp<|bp<|ag rfl<|au ⟨⟨by decide,by decide⟩,au ⟨(by show(0:Int) <8;decide),cB aw agA<|eK<|aA ?_⟩⟩
 obtain⟨h,lh,eh⟩:∃h:Nat,h<=n/\(if (if ((a:Nat):Int)+d< ((n:Nat):Int) then ((a:Nat):Int)+d else ((n:Nat):Int)) >0 then (if ((a:Nat):Int)+d< ((n:Nat):Int) then ((a:Nat):Int)+d else ((n:Nat):Int)) else (0:Int))=((h:Nat):Int):=by
  refine⟨(if (if ((a:Nat):Int)+d< ((n:Nat):Int) then ((a:Nat):Int)+d else ((n:Nat):Int)) >0 then (if ((a:Nat):Int)+d< ((n:Nat):Int) then ((a:Nat):Int)+d else ((n:Nat):Int)) else (0:Int)).toNat,?_,?_⟩
  ·split<;>split<;>lia
  ·split<;>split<;>lia
 show aE _ (Dd.drop 3) _ [some<|.int c,some<|.int n,some<|.int m,some<|.int a,some<|.int (if (if ((a:Nat):Int)+d< ((n:Nat):Int) then ((a:Nat):Int)+d else ((n:Nat):Int)) >0 then (if ((a:Nat):Int)+d< ((n:Nat):Int) then ((a:Nat):Int)+d else ((n:Nat):Int)) else (0:Int))] _
 rw[eh];have m9:0<=m / 3 % 9:=zax _ (by decide)
 refine bP<|dY<|aj<|ag rfl<|aj<|ag rfl<|aj<|aQ<|cA<|aj<|au<|aj<|au<|aj<|bp<|bp<|ag rfl<|au ⟨⟨by decide,by decide⟩,au ⟨(by show(0:Int) <9;decide),aj<|ag rfl<|aA ⟨F1,λl fl=>?_⟩⟩⟩
 have s3:=sameNew (o:=.lst [V.aB,V.aB,V.int<|m / 3 % 9,V.int m]) fl;obtain⟨v,hv,nK⟩:=L2.N.pick (its:=[V.aB,V.aB,V.int<|m / 3 % 9,V.int m]) (j:=m / 11 % 4) (zax _ (by decide)) (zaA _ (by decide))
 obtain⟨g,rfl⟩:∃g:Option Nat,v=gV g:=by
  simp only[zaa,zac,or_false] at hv
  rcases hv with rfl|rfl|rfl|rfl
  ·exact⟨none,rfl⟩
  ·exact⟨none,rfl⟩
  ·exact⟨some (m / 3 % 9).toNat,by show V.int _=V.int _;rw[show(((m / 3 % 9).toNat:Nat):Int)=m / 3 % 9 by lia]⟩
  ·exact⟨some m.toNat,by show V.int _=V.int _;rw[show((m.toNat:Nat):Int)=m by lia]⟩
 refine bp<|bp<|ag rfl<|au ⟨⟨by decide,by decide⟩,au ⟨(by show(0:Int) <4;decide),cB aw nK<|aA ⟨eM,λt ft=>?_⟩⟩⟩
 exact q t a h g _ ((((s1.trans s2).trans s3)).trans<|sameNew ft) aw la lh
inductive rq(vs:List V)(H:Hp)(Q:VK)(E:XK):Prop|i(f d:Addr)(xs ys:List V)(cs:List Cu)(_:vs=[.ref f,.ref d])(_:H f=some (.lst xs))(_:H d=some (.lst ys))(_:bS H xs cs)(_:bS H ys cs)(_:∀H',av H H'->Q (.bl true) H')
theorem agB(vs:List V)(H:Hp)(Q:VK)(E:XK)(hh:rq vs H Q E):aE (aL K [("_law_whole",qz)] [] (E:=E)) LD (Dn Q) (start De vs) H:=by
 obtain⟨f,d,xs,ys,cs,rfl,hf,hd,n_,iw,q⟩:=hh;have l1:=Paired.length n_;have l2:=Paired.length iw;refine YS<|gG<|cc<|jk<|ag rfl<|lU hf<|iF (b_<|dj<|ag rfl<|.inl ⟨_,ar.of hf,dj<|ag rfl<|.inl ⟨_,ar.of hd,nI ⟨_,rfl,iF (cf ?_) ?_⟩⟩⟩) rfl
 ·refine⟨_,rfl,_,rfl,f,d,rfl,⟨_,ar.of hf⟩,⟨_,ar.of hd⟩,zz (K:=K) (a:=f) (b:=d) (by lia) (λi σ H2=>∃v w,σ=[some (.ref f),some (.ref d),v,w]/\av H H2) ⟨none,none,rfl,av.refl _⟩
   (λi σ H2 ⟨_,_,_,s2⟩=>⟨ar.of (s2 _ _ hf),ar.of (s2 _ _ hd)⟩) ?_ ?_⟩
  ·rintro i x y σ H2 T hx hy ⟨v,w,rfl,s2⟩ hT;have s3:av H (upd H2 T<|.tup [x,y]):=s2.trans (sameNew hT);obtain⟨c,hc,t,rfl,ht⟩:=iA n_ hx;obtain⟨c',cC,t',rfl,gY⟩:=iA iw hy;rw[hc] at cC;cases cC;refine t_ aw ?_;generalize upd H2 T (.tup [V.ref t,V.ref t'])=H3 at s3⊢;have gU:=s3 _ _ ht;refine YS<|qS<|cc<|jk<|ag rfl<|ny gU<|iF (qS<|b_<|ag rfl<|ag rfl<|afX gU (s3 _ _ gY) ⟨_,rfl,iF (qS<|cc<|fW qz rfl<|aj<|aQ<|ag rfl<|au<|aH gU rfl<|aA ⟨_,rfl,d_<|iF (Ef<|cc<|fW qz rfl<|aj<|aQ<|ag rfl<|au<|aH gU rfl<|aA ⟨_,rfl,d_<|iF (cf (YS<|Ee<|b_<|aQ<|ag rfl<|au<|aH gU rfl<|au ⟨rfl,_,rfl,?_⟩)) rfl⟩) rfl⟩) rfl⟩) rfl;have fin:aE (aL K [("_law_whole",qz)] [] (E:=E)) [] {Dn Q with nx:=λσ H2=>∃v w,σ=[some<|.ref f,some<|.ref d,v,w]/\av H H2} [some<|.ref f,some<|.ref d,some<|.ref t,some<|.ref t'] H3:=⟨_,_,rfl,s3⟩
   cases hg:c.2.2 with
   |none=>exact iF (iF (cf ⟨_,_,rfl,s3⟩) rfl) (rfl)
   |some k=>
    refine iT (cc<|fW qz rfl<|aj<|aQ<|ag rfl<|au<|aH gU rfl<|aA ⟨(k:Nat),?_,d_<|iF (cf ⟨_,_,rfl,s3⟩) rfl⟩) (rfl)
    rw[hg];rfl
  ·rintro σ H2 ⟨v,w,rfl,s2⟩;exact bP<|au<|q _ s2
 ·simp;lia
def cD(c:Cu):PyData:=.tuple [.int (c.1:Nat),.int (c.2.1:Nat),gD c.2.2]
theorem agC(c:Cu):(cD c).canLay0=true/\(cD c).depth<=1:=by
 obtain⟨a,h,g⟩:=c;cases g<;>exact⟨rfl,zqR _⟩
theorem E5:∀(cs:List Cu),PyData.canLayAll0 (cs.map cD)=true/\PyData.depthAll (cs.map cD)<=1
 |[]=>⟨rfl,zqZ _⟩
 |g::r=>by
  obtain⟨a,b⟩:=agC g;obtain⟨c,d⟩:=E5 r;refine⟨?_,?_⟩
  ·show((cD g).canLay0 && PyData.canLayAll0 (r.map cD))=true;rw[a,c];rfl
  ·show max (cD g).depth (PyData.depthAll<|r.map cD)<=1;lia
theorem uc(cs:List Cu):SeqAt.shaped (.list<|cs.map cD)=true:=by
 obtain⟨c,d⟩:=E5 cs;unfold SeqAt.shaped;have e:(PyData.list<|cs.map cD).canLay0=true:=c;have e2:(PyData.list<|cs.map cD).depth<=64:=by show PyData.depthAll (cs.map cD)+1<=64;lia
 rw[e,zqT e2];rfl
theorem rA:∀{zs:List V}{cs:List Cu},bS H zs cs->IsL H (cs.map cD) zs:=by
 intro _ _ p;induction p with
 |nil=>rfl
 |cons x r ih=>obtain⟨t,rfl,h1⟩:=x;exact⟨_,_,rfl,EE h1,ih⟩
theorem agD{cs:List Cu}(ha:H a=some (.lst xs))(hb:H b=some (.lst ys))(hx:bS H xs cs)(hy:bS H ys cs)(q:Q (.bl false) H):bX K .NotEq (.ref a) (.ref b) H Q:=by
 refine⟨.list<|cs.map cD,.list<|cs.map cD,⟨a,xs,rfl,ha,rA hx⟩,⟨b,ys,rfl,hb,rA hy⟩,uc cs,uc cs,?_⟩;rw[SeqAt.eqv_refl _<|SeqAt.canLay_of_shaped<|uc cs];exact q
theorem agE{cs:List Cu}(ha:H a=some (.lst xs))(hb:H b=some (.lst ys))(hx:bS H xs cs)(hy:bS H ys cs)(q:Q (.bl true) H):bX K .Eq (.ref a) (.ref b) H Q:=by
 refine⟨.list<|cs.map cD,.list<|cs.map cD,⟨a,xs,rfl,ha,rA hx⟩,⟨b,ys,rfl,hb,rA hy⟩,uc cs,uc cs,?_⟩;rw[SeqAt.eqv_refl _<|SeqAt.canLay_of_shaped<|uc cs];exact q
abbrev wt(K:Frag):List (Str×Sp):=[("_law_cell_at",ku K),("_law_cursor",E3),("_law_mixed",jN)]
def E6:List RS:=[.asg 6 (.call 0 [.v 0,(.bin .Add (.bin .Add (.v 1) (.c (.int 1))) (.bin .Mod (.v 5) (.c (.int 6))))]),
  .drop (.bq .append (.v 4) [(.call 1 [(.bin .Add (.call 2 [.v 6,(.bin .FloorDiv (.v 5) (.c (.int 6)))]) (.v 5)),.v 2])])]
theorem ue{ws:List V}{cs:List Cu}(x:bS H vs cs)(hF:H F=some (.lst ws))(b:aR F H H'):bS H' vs cs:=L2.Paired.fZ x λ_ _ y=>jn.but y hF b
theorem agF{i st:Nat}{a L:Addr}{ns:List Int}{cs:List Cu}{u3 u6:Option V}(ha:ar K H0 a (ns.map V.int))(sm:av H0 H)(fL:H0 L=none)(hL:H L=some (.lst ys))(hc:bS H ys cs)(hn:cs.length<=1000)
  (k:∀(y6:Option V) (gO:List V) (c:Cu) (H':Hp),av H0 H'->H' L=some (.lst gO)->bS H' gO (cs++[c])->c.1<=n->c.2.1<=n->D.nx [some<|.ref a,some<|.int st,some<|.int n,u3,some<|.ref L,some<|.int (i:Nat),y6] H'):
  aE (aL K (wt K) [] (E:=E)) E6 D [some<|.ref a,some<|.int st,some<|.int n,u3,some<|.ref L,some<|.int (i:Nat),u6] H:=by
 refine CA<|aP (ku K) rfl<|aj<|ag rfl<|aj<|bp<|bp<|ag rfl<|au<|eK<|bp<|ag rfl<|au ⟨(by lia),eK<|aA ⟨a,ns,_,rfl,sm.seq ha,(by lia),?_⟩⟩
 refine dA<|fu<|ag rfl ⟨.inl ⟨rfl,_,ar.of hL⟩,aP E3 rfl<|aj<|bp<|aP jN rfl<|aj<|ag rfl<|aj<|bp<|ag rfl<|au ⟨⟨by decide,by decide⟩,aA ⟨_,_,rfl,ag rfl<|eK<|aj<|ag rfl<|aA ⟨_,n,rfl,λt a' h g H1 s1 ht la lh=>?_⟩⟩⟩⟩
 have E7:=s1 _ _ hL;have ly:=Paired.length hc;refine⟨ys,E7,cX (by lia),?_⟩
 have b1:aR L H1 (upd H1 L<|.lst<|ys++[.ref t]):=aR.upd;have nt:t≠L:=λz=>by rw[z] at ht;unfold iz at ht;rw[E7] at ht;cases ht
 have sm1:=λc o e=>b1 c o (s1 _ _<|sm _ _ e) (bf e fL);refine k _ (ys++[.ref t]) (a',h,g) _ sm1 aw ?_ la lh;exact jo (ue (hc.same s1) E7 b1) ⟨t,rfl,b1 _ _ ht nt⟩
def Ah(Γ:bo)(σ:St)(n:Nat)(e:RE):Prop:= ∀(H:Hp) (Q:VK),(∀v H',av H H'->mi v n H'->Q v H')->ak Γ e σ H Q
def Ev(Γ:bo)(σ:St)(e:RE)(v:V):Prop:= ∀(H:Hp) (Q:VK),Q v H->ak Γ e σ H Q
section
variable {Γ:bo}{σ:St}{n:Nat}
theorem ph:Ev Γ σ (.c v) v:=λH Q q=>au q
theorem E8(h:σ[i]?=some (some v)):Ev Γ σ (.v i) v:=λH Q q=>ag h q
theorem Qg{i j:Int}(h:Ev Γ σ a (.int i))(h':Ev Γ σ b (.int j)):Ev Γ σ (.bin .Add a b) (.int<|i+j):=λH Q q=>bp (h H _<|h' H _<|eK q)
theorem agH(h:∀H,gh .tuple v H):Ah Γ σ n (.c v):=λH Q q=>au (q v H (av.refl _)<|.inl<|h H)
theorem Qh{x y z:V}(h1:Ev Γ σ a x)(h2:Ev Γ σ b y)(h3:Ev Γ σ c z)(h:∀H,ma x 0 (n:Nat) H\/∃i:Int,x=.int i/\0<=i/\i<= (n:Nat)/\(ma y 0 (n:Nat) H\/∃j:Int,y=.int j/\0<=j/\j<= (n:Nat)/\EZ z)):Ah Γ σ n (.tup [a,b,c]):=λH Q q=>
 dY (aj<|h1 H _<|aj<|h2 H _<|aj<|h3 H _<|aA ⟨eM,λt ft=>q _ _ (sameNew ft)<|.inr ⟨t,_,rfl,aw,.inr ⟨x,y,z,rfl,h _⟩⟩⟩)
theorem agI{y:V}:Ah Γ σ n (.tup [.c x,.c y]):=λH Q q=>dY (aj<|au<|aj<|au<|aA ⟨cO,λt ft=>q _ _ (sameNew ft)<|.inr ⟨t,_,rfl,aw,.inl (by simp)⟩⟩)
theorem agJ{y z:V}:Ah Γ σ n (.lst [.c x,.c y,.c z]):=λH Q q=>cA (aj<|au<|aj<|au<|aj<|au<|aA ⟨eM,λt ft=>q _ _ (sameNew ft)<|.inl<|lU aw rfl⟩)
end
end
theorem agK{dc iq:List V}{o:V}(hl:H l=some (.lst (dc++o::iq)))(h:∀x∈dc++iq,E2 x n H)(ho:mi o n H):Af (.ref l) n H:=by
 refine .inr ⟨l,_,rfl,hl,?_⟩;by_cases z:(dc++o::iq).length<=40
 ·exact .inr (.inr ⟨z,.inl ⟨dc,o,iq,rfl,h,ho⟩⟩)
 ·exact .inr (.inl (by lia))
section
variable {Γ:bo}{σ:St}{n:Nat}{H0:Hp}
def mj(Γ:bo)(σ:St)(H0:Hp)(e:RE)(P:List V->Hp->Prop):Prop:= ∀(H1:Hp) (Q:VK),av H0 H1->(∀w zs H',av H1 H'->H' w=some (.lst zs)->P zs H'->Q (.ref w) H')->ak Γ e σ H1 Q
theorem agL(h:ak Γ a σ H λx H1=>ak Γ lo σ H1 λj H3=>∃j':Int,j=.int j'/\sk Γ.K x (some j') none H3 Q):ak Γ (.sl a (some lo) none) σ H Q:=h
theorem agM(xs:List V)(i:Nat):fK xs (some (i:Int)) none=xs.drop i:=by
 unfold fK;rw[HT.pU,HT.Bi];by_cases z:i<=xs.length
 ·rw[zaT z,zav (by simp)]
 ·rw[Nat.min_eq_right (by lia),List.drop_eq_nil_of_le<|zqR _,List.drop_eq_nil_of_le (by lia),List.take_nil]
theorem agN{l:Addr}{hi:RE}(e:σ[i]?=some (some<|.ref l))(hl:H0 l=some (.lst xs))(h:Ev Γ σ hi (.int (j:Nat))):mj Γ σ H0 (.sl (.v i) none<|some hi) λzs _=>zs=xs.take j:=λH1 Q s q=>
 v7 (ag e<|h H1 _ ⟨_,rfl,.inl ⟨xs,ar.of<|s _ _ hl,λw fw=>q w _ _ (sameNew fw) aw<|afV xs j⟩⟩)
theorem Qi{l:Addr}{lo:RE}(e:σ[i]?=some (some<|.ref l))(hl:H0 l=some (.lst xs))(h:Ev Γ σ lo (.int (j:Nat))):mj Γ σ H0 (.sl (.v i) (some lo) none) λzs _=>zs=xs.drop j:=λH1 Q s q=>
 agL (ag e<|h H1 _ ⟨_,rfl,.inl ⟨xs,ar.of<|s _ _ hl,λw fw=>q w _ _ (sameNew fw) aw<|agM xs j⟩⟩)
theorem agO{l:Addr}(e:σ[i]?=some (some<|.ref l))(hl:H0 l=some (.lst xs)):mj Γ σ H0 (.v i) λzs _=>zs=xs:=λH1 Q s q=>ag e (q l xs H1 (av.refl _) (s _ _ hl) rfl)
theorem E9{P P':List V->Hp->Prop}(h1:mj Γ σ H0 a P)(h2:mj Γ σ H0 b P')(st:∀zs H H',P zs H->av H H'->P zs H')(gf:∀zs H H',P' zs H->av H H'->P' zs H')(l1:∀zs H,P zs H->zs.length<=1000)(l2:∀zs H,P' zs H->zs.length<=1000):
  mj Γ σ H0 (.bin .Add a b) λzs H=>∃xs ys,zs=xs++ys/\P xs H/\P' ys H:=λH1 Q s q=>by
 refine bp<|h1 H1 _ s λw xs H2 s2 hw p=>h2 H2 _ (s.trans s2) λw' ys H3 s3 qY p'=>?_;have a1:=l1 _ _ p;have a2:=l2 _ _ p';refine .inl ⟨w,w',xs,ys,rfl,rfl,s3 _ _ hw,qY,bY (by lia),λz fz=>?_⟩
 exact q z _ _ ((s2.trans s3).trans<|sameNew fz) aw ⟨xs,ys,rfl,st _ _ _ p<|s3.trans<|sameNew fz,gf _ _ _ p'<|sameNew fz⟩
end
theorem agP(hc:bS H xs cs)(cQ:∀c∈cs,c.1<=n/\c.2.1<=n){x:V}(hx:x∈xs):E2 x n H:=by
 obtain⟨i,hi⟩:=List.getElem?_of_mem hx;obtain⟨c,h1,h2⟩:=iA hc hi;have:=cQ c (zaj h1);exact .inl ⟨c,h2,this.1,this.2⟩
theorem wu:∀(zs:List V) (H H':Hp),(λzs _=>zs=ys:List V->Hp->Prop) zs H->av H H'->(λzs _=>zs=ys:List V->Hp->Prop) zs H':=by lia
end L2.N
namespace L2
open PySem PySem.Spec PyProof.Rows
end L2
namespace L2.N
open PySem PySem.Spec L2.B
end L2.N
namespace L2.B
open PySem PySem.Spec PyProof.Rows
end L2.B
namespace L2.N
open PySem PySem.Spec L2.B
end L2.N
namespace L2.B
open PySem PySem.Spec PyProof.Rows
end L2.B
namespace L2.N
open PySem PySem.Spec L2.B
section
variable {K:Frag}
theorem Qj{z:Int}{k:Bool->Prop}(q:k (T==.int)):bT T (.int z) H k:=q
theorem agQ{z:Str}{k:Bool->Prop}(q:k (T==.str)):bT T (.str z) H k:=q
theorem Qk{is:List Nat}{x y:RE}(h:aW Γ [x,y] σ H λvs H1=>∃a b,vs=[.ref a,.ref b]/\(∃xs,ar Γ.K H1 a xs)/\(∃ys,ar Γ.K H1 b ys)/\∃W:Nat->Nat->St->Hp->Prop,(∃m,W 0 m σ H1)/\∀j m σ H,W j m σ H->
  ((ka Γ.K a b).stop j H/\({D with nx:=aE Γ r D}:Ends).nx σ H)\/((ka Γ.K a b).go j H/\∃N:St->Hp->Prop,(∀σ' H',N σ' H'->∃m',m'<m/\W (j+1) m' σ' H')/\∀x H',(ka Γ.K a b).gK j H x H'->ke Γ.K is.length (jH is) x σ H' λσ2 H2=>aE Γ body {({D with nx:=aE Γ r D}:Ends) with nx:=N,ct:=N,bk:=({D with nx:=aE Γ r D}:Ends).nx} σ2 H2)):
  aE Γ (.hX is .zip [x,y] body::r) D σ H:=h
variable {CP C CE CD:Addr}
end
end L2.N
namespace L2.B
open PySem PySem.Spec PyProof.Rows
end L2.B
namespace L2.N
open PySem PySem.Spec PyProof.Rows L2.B
end L2.N
namespace L2.B
open PySem PySem.Spec PyProof.Rows
end L2.B
namespace L2.N
open PySem PySem.Spec PyProof.Rows L2.B
end L2.N
namespace L2.N
open PySem PySem.Spec L2.B
end L2.N
namespace L2.B
open PySem PySem.Spec PyProof.Rows
inductive Ql(vs:List V)(H:Hp)(Q:VK)(E:XK):Prop|i(c:Int)(x:Str)(m:Int)(_:vs=[.int c,.str x,.int m])(_:good x)(_:x.length<=10000)(_:0<=m)(_:m<=100)(_:∀b H' ys ps q,av H H'->H b=none->H' b=some (.lst ys)->bc H' ys ps->(∀p∈ps,gE p)->ps.length<=101->ba ps<=40*m.toNat->Run x.cps.toList ps q->Q (.ref b) H')
theorem agR{K:Frag}(vs:List V)(H:Hp)(Q:VK)(E:XK)(h:Ql vs H Q E):aE (aL K adv [] (E:=E)) J4 {nx:=λ_ H'=>Q .aB H',rt:=Q} (start J3 vs) H:=by
 obtain⟨c,x,m,rfl,hx,oT,Qm,v_,k⟩:=h;refine⟨zqZ _,λb hb=>?_⟩;refine⟨_,rfl,m,rfl,by lia,by lia,A0 (lo:=0) (n:=m.toNat) (λi σ H2=>∃u v w z ys ps l1 l2 q,σ=[some (.int c),some (.str x),some (.int m),some (.ref b),some (.int ((l1.length:Nat):Int)),u,v,w,z]/\av H H2/\H2 b=some (.lst ys)/\bc H2 ys ps/\ps.length=i/\(∀p∈ps,gE p)/\
   ba ps<=40*i/\x.cps.toList=l1++l2/\Run l1 ps q)
  ⟨none,none,none,none,[],[],[],x.cps.toList,[],rfl,sameNew hb,aw,.nil,rfl,(λp hp=>by cases hp),zqR _,rfl,.nil⟩ ?_ ?_⟩
 ·rintro i σ H2 hi ⟨u,v,w,z,ys,ps,l1,l2,q,rfl,s2,wx,bV,hl,aK,ht,ex,dO⟩;have hlen:=Paired.length bV;have hxx:x.length=l1.length+l2.length:=by rw[len_list,ex];simp
  refine⟨_,rfl,_,rfl,c,_,rfl,?_⟩;generalize mixed c (50+(0+(i:Int)))=nm;refine⟨F2,λt1 nE=>?_⟩;have j0:0<=nm / 4 % 6:=zax _ (by decide)
  have j1:nm / 4 % 6<6:=zaA _ (by decide)
  obtain⟨n5,e5,n50,n51⟩:=adu (nm / 4 % 6) j0 j1;refine⟨_,rfl,⟨by decide,by decide⟩,(by show(0:Int) <6;decide),.inl ⟨_,_,_,_,rfl,rfl,ar.of aw,e5,?_⟩⟩
  have s3:av H (upd H2 t1<|.lst [.int 1,.int 2,.int 0,.int 3,.int 5,.int 40]):=s2.trans (sameNew nE);have rB:upd H2 t1 (.lst [.int 1,.int 2,.int 0,.int 3,.int 5,.int 40]) b=some (.lst ys):=by rw[aI<|bf wx nE];exact wx
  have sW:=bV.mono (aY<|sameNew (o:=.lst [.int 1,.int 2,.int 0,.int 3,.int 5,.int 40]) nE);generalize upd H2 t1 (.lst [.int 1,.int 2,.int 0,.int 3,.int 5,.int 40])=H3 at s3 rB sW;refine⟨_,rfl,_,rfl,bY (by lia),_,rfl,trivial,?_⟩
  obtain⟨lf,Qn⟩:∃lf,lf=(if (x.length:Int) - (l1.length:Int) <n5 then (x.length:Int) - (l1.length:Int) else n5):=⟨_,rfl⟩
  have lf0:0<=lf/\lf<=40/\lf<= (l2.length:Int):=by
   rw[Qn];split<;>lia
  show aE _ _ _ [some<|V.int c,some<|V.str x,some<|V.int m,some<|V.ref b,some<|V.int ((l1.length:Nat):Int),some<|V.int<|0+(i:Int),some<|V.int nm,some<|V.int n5,some<|V.int (if (x.length:Int) - (l1.length:Int) <n5 then (x.length:Int) - (l1.length:Int) else n5)] H3
  rw[<-Qn];obtain⟨la,lb,e2,E_⟩:∃la lb,l2=la++lb/\lf=(la.length:Int):=⟨l2.take lf.toNat,l2.drop lf.toNat,(zaL _ _).symm,by rw[zaq];lia⟩
  have app:∀(p:Pt) (H4:Hp),av H H4->H4 b=some (.lst ys)->bc H4 ys ps->∀t,H4 t=none->
    upd H4 t (.tup [.str p.word,p.val]) b=some (.lst ys)/\ys.length<sizeLine/\
     av H (upd (upd H4 t<|.tup [.str p.word,p.val]) b<|.lst<|ys++[.ref t])/\bc (upd (upd H4 t<|.tup [.str p.word,p.val]) b<|.lst<|ys++[.ref t]) (ys++[.ref t]) (ps++[p]):=by
   intro p H4 s4 Fb agV t ht;have Ai:b≠t:=bf Fb ht;refine⟨(by rw[aI Ai];exact Fb),cX (by lia),nv s4 hb<|sameBut (sameNew ht) aR.upd,?_⟩
   refine bc.snoc (agV.mono<|(sameBut (sameNew ht) aR.upd).cz Fb) ⟨t,rfl,?_⟩;rw[aI Ai.symm,aw]
  have Qo:∀p,gE p->∀q∈ps++[p],gE q:=by
   intro p hp q hq;rcases zae.mp hq with z|z
   ·exact aK q z
   ·rw[zad.mp z];exact hp
  have sgl:∀c∈la,SG.cps.contains c=true:=λc hc=>hx.2 c (by rw[ex,e2];simp[hc])
  refine⟨_,rfl,(by show(0:Int) <4;decide),_,rfl,?_⟩
  refine cZ (λh=>?_)<|λh=>?_
  ·have h3:nm % 4=3:=by
    have:=of_decide_eq_true (show decide (V.int (nm % 4)=V.int 3)=true from by rw[<-zaI (decide _)];exact h)
    injection this
   refine⟨_,rfl,.inl ⟨rfl,_,ar.of rB⟩,_,rfl,_,rfl,nm,n5,rfl,n50,by lia,λy H5 gy ly s5=>⟨cO,λt gY=>?_⟩⟩
   obtain⟨a1,a2,a3,a4⟩:=qa4 (app (.put y) H5 (s3.trans s5) (s5 _ _ rB) (sW.mono<|aY s5) t gY);refine⟨ys,a1,a2,?_⟩;refine⟨_,rfl,(by show(0:Int) <4;decide),trivial,_,rfl,iF ?_<|zqF (by lia)⟩
   have hr:=dO.app (Run.put (s:=y) Run.nil);rw[zai,zai] at hr;refine⟨_,_,_,_,ys++[V.ref t],ps++[Pt.put y],l1,l2,_,rfl,a3,aw,a4,by simp[hl],Qo _ ⟨gy,by lia⟩,?_,ex,hr⟩
   rw[vI];show ba ps+(y.length+0)<=_;lia
  ·have h3:nm % 4≠3:=λz=>h (by show(false ^^ decide (V.int (nm % 4)=V.int 3))=true;rw[z];rfl)
   have h4:nm % 4<3:=by have:=zaA nm (show(0:Int) <4 by decide);lia
   have fin:∀(p:Pt) (H5:Hp) (gO:List V) (q':List Nat),av H H5->H5 b=some (.lst gO)->bc H5 gO (ps++[p])->gE p->fo p<=40->Run (l1++la) (ps++[p]) q'->
     ∃u v w z ys ps iL l2 q,[some<|V.int c,some<|V.str x,some<|V.int m,some<|V.ref b,some<|V.int<|(l1.length:Int)+lf,some<|V.int<|0+(i:Int),some<|V.int nm,some<|V.int n5,some<|V.int lf]=
      [some<|.int c,some<|.str x,some<|.int m,some<|.ref b,some<|.int ((iL.length:Nat):Int),u,v,w,z]/\av H H5/\H5 b=some (.lst ys)/\bc H5 ys ps/\ps.length=i+1/\(∀p∈ps,gE p)/\
      ba ps<=40* (i+1)/\x.cps.toList=iL++l2/\Run iL ps q:=by
    intro p H5 gO q' s5 h5 hp5 rp tp hr;refine⟨some<|.int<|0+(i:Int),some<|.int nm,some<|.int n5,some<|.int lf,gO,ps++[p],l1++la,lb,q',?_,s5,h5,hp5,by simp[hl],Qo p rp,?_,by rw[ex,e2];simp,hr⟩
    ·rw[zqA,E_,zbr]
    ·rw[vI];have:ba [p]=fo p:=by simp[ba]
     lia
   refine⟨_,rfl,(by show(0:Int) <4;decide),_,rfl,?_⟩
   refine cZ (λh5=>?_)<|λh5=>?_
   ·refine⟨_,rfl,.inl ⟨rfl,_,ar.of rB⟩,_,rfl,_,rfl,_,rfl,_,rfl,_,rfl,_,rfl,bY (by lia),?_⟩
    rw[N3 (by rw[ex,e2]) lf E_]
    refine⟨cO,λt gY=>?_⟩;obtain⟨a1,a2,a3,a4⟩:=app (.cut ⟨la.toArray⟩) H3 s3 rB sW t gY;refine⟨ys,a1,a2,?_⟩;refine⟨_,rfl,(by show(0:Int) <4;decide),trivial,_,rfl,iT ?_<|zqT h4⟩
    refine⟨_,rfl,_,rfl,?_⟩;have hr:=dO.app (Run.cut (s:=⟨la.toArray⟩) Run.nil);rw[zai] at hr;have ll:(⟨la.toArray⟩:Str).length=la.length:=by rw[len_list]
    exact fin (.cut ⟨la.toArray⟩) _ _ _ a3 aw a4 ⟨⟨by rw[ll];lia,sgl⟩,by rw[ll];lia⟩ (by show(⟨la.toArray⟩:Str).length<=40;rw[ll];lia) hr
   ·refine⟨_,rfl,.inl ⟨rfl,_,ar.of rB⟩,_,rfl,cO,λt gY=>?_⟩;obtain⟨a1,a2,a3,a4⟩:=app (.keep lf) H3 s3 rB sW t gY;refine⟨ys,a1,a2,?_⟩;refine⟨_,rfl,(by show(0:Int) <4;decide),trivial,_,rfl,iT ?_<|zqT h4⟩
    refine⟨_,rfl,_,rfl,?_⟩;have hr:=dO.app (Run.keep (a:=la) E_ Run.nil);rw[zai] at hr;exact fin (.keep lf) _ _ _ a3 aw a4 lf0.1 (by show 0<=40;decide) hr
 ·rintro σ H2 ⟨u,v,w,z,ys,ps,l1,l2,q,rfl,s2,wx,bV,hl,aK,ht,ex,dO⟩;have hlen:=Paired.length bV;have hxx:x.length=l1.length+l2.length:=by rw[len_list,ex];simp
  refine⟨_,rfl,_,rfl,bY (by lia),_,rfl,trivial,cO,λt gY=>⟨dR,λd hd=>?_⟩⟩
  have Ai:b≠t:=bf wx gY;have tG:upd H2 t (.tup [.str "keep",.int<|(x.length:Int) - (l1.length:Int)]) b=some (.lst ys):=by rw[aI Ai];exact wx
  have mZ:b≠d:=bf tG hd;have Qp:t≠d:=λz=>by rw[<-z,aw] at hd;cases hd
  have s4:av H2 (upd (upd H2 t<|.tup [.str "keep",.int<|(x.length:Int) - (l1.length:Int)]) d<|.lst [.ref t]):=(sameNew gY).trans (sameNew hd);refine .inl ⟨b,d,ys,[.ref t],rfl,rfl,(by rw[aI mZ];exact tG),aw,bY (by simp;lia),λe he=>?_⟩
  have s5:=s4.trans (sameNew (o:=.lst (ys++[.ref t])) he);have he2:H2 e=none:=s4.free he;have hr:=dO.app (Run.keep (a:=l2) (n:=(x.length:Int) - (l1.length:Int)) (by lia) Run.nil)
  rw[zai,<-ex] at hr;have hte:t≠e:=λz=>by rw[<-z,aI Qp,aw] at he;cases he
  refine k e _ (ys++[.ref t]) (ps++[.keep<|(x.length:Int) - (l1.length:Int)]) _ (s2.trans s5) (s2.free he2) aw (bc.snoc (bV.mono<|aY s5) ⟨t,rfl,?_⟩) ?_ (by simp;lia) ?_ hr
  ·rw[aI hte,aI Qp,aw];rfl
  ·intro p hp;rcases zae.mp hp with z|z
   ·exact aK p z
   ·rw[zad.mp z];show(0:Int)<=_;lia
  ·rw[vI];show ba ps+(0+0)<=40*m.toNat;lia
abbrev ag0:List (Str×Sp):=[("_law_neat",zp),("_law_parts",Ql)]
inductive Fc(vs:List V)(H:Hp)(Q:VK)(E:XK):Prop|i(c:Int)(x:Str)(m:Int)(_:vs=[.int c,.str x,.int m])(_:good x)(_:x.length<=10000)(_:0<=m)(_:m<=100)(_:∀b H' ys ps q,av H H'->H b=none->H' b=some (.lst ys)->bc H' ys ps->(∀p∈ps,jc p)->chainOk "" ps=true->ps.length<=305->ba ps<=40*m.toNat->Run x.cps.toList ps q->Q (.ref b) H')
theorem ag1{K:Frag}(vs:List V)(H:Hp)(Q:VK)(E:XK)(h:Fc vs H Q E):aE (aL K ag0 [] (E:=E)) J7 {nx:=λ_ H'=>Q .aB H',rt:=Q} (start J6 vs) H:=by
 obtain⟨c,x,m,rfl,hx,oT,Qm,v_,k⟩:=h;refine⟨_,rfl,_,rfl,_,rfl,c,x,m,rfl,hx,oT,Qm,v_,λb H1 ys ps q s1 fb h1 hp hr hl ht dO=>⟨b,ys,ps,rfl,h1,hp,by lia,by lia,λd H2 zs s2 fd h2 hz=>?_⟩⟩
 obtain⟨g1,g2,_⟩:=NU ps hr (by lia)
 have r6:=NV ps;rw[DF ps hr] at r6;exact k d H2 zs (jf ps) q (s1.trans s2) (s1.free fd) h2 hz g2 g1 (by lia) (by rw[adw ps hr];exact ht)<|N2 dO
end L2.B
namespace L2.N
open PySem PySem.Spec L2.B
theorem wy(s:av H0 H)(f:H0 a=none)(b:aR a H H'):av H0 H':=λc o e=>b c o (s _ _ e) (bf e f)
theorem rC{o:HO}(h:H a=some o)(f:H b=none):b≠a:=by lia
end L2.N
namespace L2.lS
open PySem PySem.Spec L2.B L2.N
abbrev bg(c:Cu):Nat:=min c.1 c.2.1
abbrev en(c:Cu):Nat:=max c.1 c.2.1
abbrev Fd:=List Pt×Nat×Nat×List Cu
def Qq(l:List Nat)(s:Fd)(z:Cu×Str):Fd:=(s.1++[.keep<|(bg z.1:Int) - (s.2.1:Int),.put z.2,.cut<|gH l (bg z.1)<|en z.1],en z.1,s.2.2.1+bg z.1 - s.2.1+z.2.length,s.2.2.2++[(s.2.2.1+bg z.1 - s.2.1+z.2.length,s.2.2.1+bg z.1 - s.2.1+z.2.length,none)])
def cg(l:List Nat)(zs:List (Cu×Str)):Fd:=zs.foldl (Qq l) ([],0,0,[])
def kS(l:List Nat)(zs:List (Cu×Str)):List Pt:=(cg l zs).1++[.keep<|(l.length:Int) - ((cg l zs).2.1:Int)]
abbrev Aj(l:List Nat)(zs:List (Cu×Str)):List Cu:=(cg l zs).2.2.2
theorem Fe{zs:List (Cu×Str)}{i:Nat}{z:Cu×Str}(h:zs[i]?=some z):cg l (zs.take<|i+1)=Qq l (cg l<|zs.take i) z:=by
 unfold cg;rw[rn h,List.foldl_append];rfl
theorem ag2(h:Apart cs){i:Nat}{c d:Cu}(hc:cs[i]?=some c)(hd:cs[i+1]?=some d):en c<=bg d:=by
 have:=h i c d hc hd;unfold near at this
 split at this
 ·lia
 ·lia
structure Ak (l:List Nat) (zs:List (Cu×Str)) (i:Nat):Prop where
 run:∃r,Run (l.take (cg l<|zs.take i).2.1) (cg l<|zs.take i).1 r/\r.length<= (cg l<|zs.take i).2.1+1000*i
 pl:(cg l<|zs.take i).2.1<=l.length
 nx:∀z,zs[i]?=some z->(cg l<|zs.take i).2.1<=bg z.1
 raw:∀p∈ (cg l<|zs.take i).1,gE p
 ln:(cg l<|zs.take i).1.length=3*i
 tt:ba (cg l<|zs.take i).1<= (l.length+1000)*i
 lc:(cg l<|zs.take i).2.2.2.length=i
theorem Ff{a b:Nat}:(gH l a b).cps.toList=(l.take b).drop a:=rfl
theorem Qr{a b:Nat}(h:a<=b)(hb:b<=l.length):(gH l a b).length=b - a:=by
 rw[len_list,Ff,zao,zaq];lia
theorem ag3(l:List Nat)(zs:List (Cu×Str)):Ak l zs 0:=⟨⟨[],.nil,zqZ _⟩,zqZ _,λ_ _=>zqZ _,nofun,rfl,zqZ _,rfl⟩
theorem ag4{cs:List Cu}{tl:List Str}{i:Nat}{c:Cu}{t:Str}(A:Ak l (cs.zip tl) i)(hc:cs[i]?=some c)(ht:tl[i]?=some t)(hl:l.length<=100000)(gl:∀x∈l,SG.cps.contains x=true)(hA:Apart cs)(cQ:en c<=l.length)(gt:good t/\t.length<=1000):Ak l (cs.zip tl) (i+1):=by
 have hz:(cs.zip tl)[i]?=some (c,t):=by rw[zbe];exact⟨hc,ht⟩
 obtain⟨⟨r,run,lr⟩,pl,nx,raw,ln,tt,lc⟩:=A;have e:=Fe (l:=l) hz;have hb:=nx _ hz;generalize cg l ((cs.zip tl).take i)=s at*;have lH:s.2.1<=bg c:=hb;have g4:bg c<=en c:=by lia
 have gc:good (gH l (bg c)<|en c)/\(gH l (bg c)<|en c).length<=100000:=by
  have:=Qr g4 cQ;exact⟨⟨by lia,λx hx=>gl x<|zcb<|List.mem_of_mem_drop (by rw[Ff] at hx;exact hx)⟩,by lia⟩
 have k1:((l.take<|bg c).drop s.2.1).length=bg c - s.2.1:=by rw[zao,zaq];lia
 refine⟨?_,?_,λz h2=>?_,?_,?_,?_,?_⟩ <;>rw[e]
 ·refine⟨r++((l.take<|bg c).drop s.2.1++(t.cps.toList++[])),?_,?_⟩
  ·have h:=run.app (Run.keep (n:=(bg c:Int) - (s.2.1:Int)) (by rw[k1];lia)<|Run.put (s:=t)<|Run.cut (s:=gH l (bg c) (en c)) Run.nil)
   have ee:l.take s.2.1++((l.take<|bg c).drop s.2.1++((gH l (bg c)<|en c).cps.toList++[]))=l.take (en c):=by
    rw[Ff,zai,<-zaD];have h1:l.take s.2.1++(l.take<|bg c).drop s.2.1=l.take (bg c):=by
     conv=>rhs;rw[<-zaL s.2.1 (l.take<|bg c)]
     rw[List.take_take,zaT lH]
    rw[h1]
    conv=>rhs;rw[<-zaL (bg c) (l.take<|en c)]
    rw[List.take_take,zaT g4]
   rw[ee] at h;exact h
  ·rw[zqA,zqA,k1,zqA,<-len_list t];show _<=en c+1000* (i+1)
   simp
   lia
 ·exact cQ
 ·obtain⟨h3,h4⟩:=(zbe (z:=z)).mp h2;exact ag2 hA hc h3
 ·intro p hp;rcases zae.mp hp with h|h
  ·exact raw p h
  ·simp at h
   rcases h with rfl|rfl|rfl
   ·show(0:Int)<=_;lia
   ·exact⟨gt.1,by lia⟩
   ·exact gc
 ·show(s.1++_).length=_;rw[zqA,ln];show 3*i+3=_;lia
 ·show ba (s.1++_)<=_;rw[B.vI];show ba s.1+(0+(t.length+((gH l (bg c)<|en c).length+0)))<=_;have:=Qr g4 cQ;lia
 ·show(s.2.2.2++_).length=_;rw[zqA,lc];rfl
section
variable {K:Frag}{CP C:Addr}{H H':Hp}{p s lt lb lf:Addr}{l:List Nat}{k:Nat}{Γ:bo}{σ:St}{Q:VK}{E:XK}
def cq(CP C:Addr)(H:Hp)(p s lt lb lf:Addr)(l:List Nat)(k:Nat):Prop:= ∃dp dx v t ts,eL CP H p dp s v t (aF ts)/\dC C H s dx lt lb lf ts/\N.txt (aF ts) t.aC=l/\t.aC.length<=400/\ts.length<=400* (k+1)/\(aF ts).length<=50000* (k+1)/\l.length<=10000/\k<=4
theorem cq.same(P:cq CP C H p s lt lb lf l k)(h:av H H'):cq CP C H' p s lt lb lf l k:=by
 obtain⟨dp,dx,v,t,ts,zq⟩:=qx5 P;obtain⟨A,S,e⟩:=qa3 zq;exact⟨dp,dx,v,t,ts,A.same h,S.same h,e⟩
theorem wz{m:Str}(h:¬m="stock"/\ ¬m="node":=by decide+kernel):(jm s v).lookup m=none:=zT h.1 h.2
theorem wA(P:cq CP C H p s lt lb lf l k)(hm:Γ.ms j=(CP,kQ CP))(ho:∀Q1:VK,Q1 (.ref p) H->ak Γ o σ H Q1)(q:Q (.int (l.length:Nat)) H):ak Γ (.du j "size" o []) σ H Q:=by
 obtain⟨dp,dx,v,t,ts,zq⟩:=qx5 P;obtain⟨A,S,rfl,_⟩:=qa4 zq;exact qN CP (kQ CP) hm<|ho _ ⟨p,dp,_,rfl,A.ob,wz,p,dp,s,v,t,_,rfl,A,q⟩
theorem ag5{o ea eb:RE}(P:cq CP C H p s lt lb lf l k)(hm:Γ.ms j=(CP,tX CP C))(ho:∀Q1:VK,Q1 (.ref p) H->ak Γ o σ H Q1)(ha:∀Q1:VK,Q1 (.int (a:Nat)) H->ak Γ ea σ H Q1)(hb:∀Q1:VK,Q1 (.int (b:Nat)) H->ak Γ eb σ H Q1)(h1:a<=b)(h2:b<=l.length)(q:∀H',av H H'->Q (.str<|gH l a b) H'):ak Γ (.du j "part" o [ea,eb]) σ H Q:=by
 obtain⟨dp,dx,v,t,ts,A,S,rfl,c1,c2,c3,c4,c5⟩:=P;exact Ep CP (tX CP C) hm<|ho _ ⟨p,dp,_,rfl,A.ob,wz,ha _<|hb _ ⟨p,dp,s,dx,lt,lb,lf,v,t,ts,a,b,rfl,A,S,by lia,by lia,by lia,by lia,h1,h2,q⟩⟩
theorem Qs{n:Int}{t u:Str}{QQ:List V->Hp->Prop}(hk:∀(Q1:VK),Q1 (.int n) H->ak Γ ek σ H Q1)(hp:∀(H1:Hp) (Q1:VK),av H H1->Q1 (.str t) H1->ak Γ ep σ H1 Q1)(hc:∀(H1:Hp) (Q1:VK),av H H1->(∀H2,av H1 H2->Q1 (.str u) H2)->ak Γ ec σ H1 Q1)
  (q:∀xs H',av H H'->xs.length=3->bc H' xs [.keep n,.put t,.cut u]->QQ xs H'):aW Γ [.tup [.c<|.str "keep",ek],.tup [.c<|.str "put",ep],.tup [.c<|.str "cut",ec]] σ H QQ:=by
 refine aj<|dY<|aj<|au<|aj<|hk _<|aA ⟨cO,λa fa=>?_⟩;have s1:=sameNew (o:=.tup [V.str "keep",V.int n]) fa;have h1:upd H a (.tup [V.str "keep",V.int n]) a=some (.tup [V.str "keep",V.int n]):=aw;generalize upd H a (.tup [V.str "keep",V.int n])=H1 at s1 h1⊢;refine aj<|dY<|aj<|au<|aj<|hp _ _ s1<|aA ⟨cO,λb fb=>?_⟩;have s2:=sameNew (o:=.tup [V.str "put",V.str t]) fb;have h2:upd H1 b (.tup [V.str "put",V.str t]) b=some (.tup [V.str "put",V.str t]):=aw;refine aj<|dY<|aj<|au<|aj<|hc _ _ (s1.trans s2) λH3 s3=>aA ⟨cO,λc fc=>?_⟩;have s4:=sameNew (o:=.tup [V.str "cut",V.str u]) fc;exact aA<|q _ _ (((s1.trans s2).trans s3).trans s4) rfl<|.cons ⟨a,rfl,s4 _ _<|s3 _ _<|s2 _ _ h1⟩<|.cons ⟨b,rfl,s4 _ _<|s3 _ _ h2⟩<|.cons ⟨c,rfl,aw⟩ .nil
theorem Fg{xs ys:List V}{ps qs:List Pt}:bc H xs ps->bc H ys qs->bc H (xs++ys) (ps++qs):=Paired.app
structure fE (H:Hp) (a:Addr) (tl:List Str):Prop where
 h:H a=some (.lst<|tl.map V.str)
 g:∀t∈tl,good t/\t.length<=1000
theorem fE.same{tl:List Str}(T:fE H a tl)(h:av H H'):fE H' a tl:=⟨h _ _ T.h,T.g⟩
structure eR (H:Hp) (a:Addr) (n:Nat) (xs:List V) (cs:List Cu):Prop where
 h:H a=some (.lst xs)
 c:bS H xs cs
 i:∀c∈cs,c.1<=n/\c.2.1<=n
 o:1<=cs.length
 m:cs.length<=40
 a:Apart cs
theorem eR.same{a:Addr}{cs:List Cu}(T:eR H a n xs cs)(h:av H H'):eR H' a n xs cs:=⟨h _ _ T.h,T.c.same h,T.i,T.o,T.m,T.a⟩
def Al(H H':Hp)(v:V)(l:List Nat)(cs:List Cu)(tl:List Str):Prop:= ∃t a b ys zs us,v=.ref t/\H' t=some (.tup [.ref a,.ref b])/\H a=none/\H b=none/\H' a=some (.lst ys)/\bc H' ys (jf<|kS l<|cs.zip tl)/\H' b=some (.lst zs)/\ij (Aj l<|cs.zip tl) us/\bS H' zs (settle (Aj l<|cs.zip tl) us)
theorem Am{tl:List Str}(hl:l.length<=10000)(gl:∀x∈l,SG.cps.contains x=true)(hA:Apart cs)(cQ:∀c∈cs,c.1<=l.length/\c.2.1<=l.length)(gt:∀t∈tl,good t/\t.length<=1000)(e:tl.length=cs.length):∀i,i<=cs.length->Ak l (cs.zip tl) i
 | 0,_=>ag3 _ _
 |i+1,h=>by
  have h1:=h;have h2:i<tl.length:=by lia
  have hn:=cQ _ (zaQ h1);exact ag4 (Am hl gl hA cQ gt e i (by lia)) (zaC h1) (zaC h2) (by lia) gl hA (by lia)<|gt _<|zaQ h2
theorem Fh{tl:List Str}(hl:l.length<=10000)(gl:∀x∈l,SG.cps.contains x=true)(hA:Apart cs)(cQ:∀c∈cs,c.1<=l.length/\c.2.1<=l.length)(gt:∀t∈tl,good t/\t.length<=1000)(e:tl.length=cs.length)(h40:cs.length<=40)(h7:l.length<=1400):
  (∀p∈kS l (cs.zip tl),gE p)/\(∃r,Run l (kS l<|cs.zip tl) r/\r.length<=50000)/\(kS l<|cs.zip tl).length<=121/\ba (kS l<|cs.zip tl)<=100000:=by
 have ez:(cs.zip tl).take cs.length=cs.zip tl:=zav (by rw[List.length_zip];lia)
 obtain⟨⟨r,run,lr⟩,pl,nx,raw,ln,tt,lc⟩:=(Am hl gl hA cQ gt e cs.length (zqR _));rw[ez] at run lr pl raw ln tt;unfold kS;generalize cg l (cs.zip tl)=s at*;refine⟨λp hp=>?_,⟨r++l.drop s.2.1,?_,?_⟩,?_,?_⟩
 ·rcases zae.mp hp with h|h
  ·exact raw p h
  ·rw[zad.mp h];show(0:Int)<=_;lia
 ·have h:=run.app (Run.keep (a:=l.drop s.2.1) (n:=(l.length:Int) - (s.2.1:Int)) (by rw[zao];lia) Run.nil)
  rw[zai,zaL] at h;exact h
 ·rw[zqA,zao];lia
 ·rw[zqA];show _+1<=_;lia
 ·rw[B.vI];show ba s.1+(0+0)<=_;have:(l.length+1000)*cs.length<=2400*40:=Nat.mul_le_mul (by lia) h40
  lia
inductive mq(CP C:Addr)(vs:List V)(H:Hp)(Q:VK)(E:XK):Prop|i(p s lt lb lf lc lx:Addr)(l:List Nat)(k:Nat)(xs:List V)(cs:List Cu)(tl:List Str)(_:vs=[.ref p,.ref lc,.ref lx])(_:cq CP C H p s lt lb lf l k)(_:l.length<=1400)(_:(∀x∈l,SG.cps.contains x=true))(_:eR H lc l.length xs cs)(_:fE H lx tl)(_:tl.length=cs.length)(_:∀v H',av H H'->Al H H' v l cs tl->Q v H')
abbrev GEn(K:Frag)(CP C:Addr)(E:XK):bo:=aL K [("begin_of",jW),("end_of",nJ),("neat",Dt),("settled",pe)] [] [] [("part",CP,tX CP C),("size",CP,kQ CP)] (E:=E)
theorem ag8:cI (mq CP C) (λE=>GEn K CP C E) Me Md:=by
 intro vs H Q E h;obtain⟨p,s,lt,lb,lf,lc,lx,l,k,xs,cs,tl,rfl,P,hl,gl,Cs,Ts,eB,q⟩:=h;have wB:=Am (by lia) gl Cs.a Cs.i Ts.g eB
 have lcs:=Paired.length Cs.c;have wC:=Cs.m;refine CA<|cA<|aA ⟨zqZ _,λA fA=>?_⟩;have s1:=sameNew (o:=.lst []) fA;have nM:upd H A (.lst []) A=some (.lst []):=aw;generalize upd H A (.lst [])=H1 at s1 nM⊢;refine CA<|cA<|aA ⟨zqZ _,λB fB=>?_⟩;have s2:=sameNew (o:=.lst []) fB;have wD:upd H1 B (.lst []) B=some (.lst []):=aw;have rD:=s2 _ _ nM;have nN:A≠B:=bf nM fB;generalize upd H1 B (.lst [])=H2 at s2 wD rD⊢;have Fi:=s1.free fB;have eE:=s1.trans s2;refine CA<|au<|CA<|au ?_;refine Qk<|aj<|ag rfl<|aj<|ag rfl<|aA ⟨lc,lx,rfl,⟨_,ar.of<|eE _ _ Cs.h⟩,⟨_,ar.of<|eE _ _ Ts.h⟩,?_⟩;refine zz (K:=K) (a:=lc) (b:=lx) (xs:=xs) (ys:=tl.map V.str) (by rw[zah];lia) (λi σ H3=>i<=cs.length/\qX6 λ(u7 u8 u9 e7:Option V) (ys bs:List V)=>qA6 (σ=[some<|.ref p,some<|.ref lc,some<|.ref lx,some<|.ref A,some<|.ref B,some<|.int ((cg l<|(cs.zip tl).take i).2.1:Nat),some<|.int ((cg l<|(cs.zip tl).take i).2.2.1:Nat),u7,u8,u9,e7]) (av H H3) (H3 A=some (.lst ys)) (bc H3 ys (cg l<|(cs.zip tl).take i).1) (H3 B=some (.lst bs)) (bS H3 bs (cg l<|(cs.zip tl).take i).2.2.2))
  ⟨zqZ _,none,none,none,none,[],[],rfl,eE,rD,.nil,wD,.nil⟩ (λi σ H3 ⟨_,_,_,_,_,_,_,_,s3,_,_,_,_⟩=>⟨ar.of<|s3 _ _ Cs.h,ar.of<|s3 _ _ Ts.h⟩) ?_ ?_
 ·rintro i x y σ H3 T hx hy ⟨_,u7,u8,u9,e7,ys,bs,rfl,s3,pj,pA,rE,pB⟩ fT;obtain⟨c,hc,tc,rfl,ht⟩:=iA Cs.c hx;obtain⟨t,oW,rfl⟩:∃t,tl[i]?=some t/\y=.str t:=by
   rw[zaz] at hy;cases hh:tl[i]? with
   |none=>rw[hh] at hy;cases hy
   |some t=>rw[hh] at hy;cases hy;exact⟨t,rfl,rfl⟩
  have hi:i<cs.length:=(zak.mp hc).1;have e:=Fe (l:=l) (zs:=cs.zip tl) (z:=(c,t)) (by rw[zbe];exact⟨hc,oW⟩)
  have K1:=wB i (by lia)
  have Fj:=K1.nx (c,t) (by rw[zbe];exact⟨hc,oW⟩)
  have lnA:=K1.ln;have wF:=K1.lc;have lyA:=Paired.length pA;have lyB:bs.length=_:=Paired.length pB;have cQ:=Cs.i c (zaj hc);have gt:=Ts.g t (zaj oW);generalize cg l ((cs.zip tl).take i)=S at*;have s4:=sameNew (o:=.tup [V.ref tc,V.str t]) fT;refine t_ aw ?_;have nP:=s4 _ _ pj;have Qt:=s4 _ _ rE;have Qu:=pA.mono (aY s4);have Qw:=pB.same s4;generalize upd H3 T (.tup [V.ref tc,V.str t])=H4 at s4 nP Qt Qu Qw⊢;have kU:=s3.trans s4;have Qx:=kU _ _ ht;refine CA<|aP jW rfl<|aj<|ag rfl<|aA ⟨tc,_,_,_,rfl,Qx,?_⟩;refine CA<|aP nJ rfl<|aj<|ag rfl<|aA ⟨tc,_,_,_,rfl,Qx,?_⟩;have g4:bg c<=en c:=by show min _ _<=max _ _;lia
  refine dA<|fu<|ag rfl ⟨.inl ⟨rfl,_,ar.of nP⟩,cA<|Qs (n:=(bg c:Int) - (S.2.1:Int)) (t:=t) (u:=gH l (bg c) (en c)) (λQ1 q1=>bp<|ag rfl<|ag rfl<|t6 q1) (λH1 Q1 _ q1=>ag rfl q1) (λH1 Q1 s1 q1=>ag5 (P.same<|kU.trans s1) rfl (λQ1 q1=>ag rfl q1) (λQ1 q1=>ag rfl q1) (λQ1 q1=>ag rfl q1) g4 (by show max _ _<=_;lia) q1) λws H5 s5 lw pw=>⟨bY (by lia),λm fm=>?_⟩⟩
  have s6:=sameNew (o:=.lst ws) fm;have Qy:=pw.mono (aY s6);have Qz:upd H5 m (.lst ws) m=some (.lst ws):=aw;have gp:=s5.trans s6;generalize upd H5 m (.lst ws)=H6 at s6 Qz gp Qy⊢;refine⟨ys,ws,gp _ _ nP,Qz,bY (by lia),?_⟩
  have b7:aR A H6 (upd H6 A<|.lst<|ys++ws):=aR.upd;have QC:upd H6 A (.lst<|ys++ws) A=some (.lst<|ys++ws):=aw;have t7:eI H6 (upd H6 A<|.lst<|ys++ws):=λy us e=>b7 _ _ e (λz=>by rw[z,gp _ _ nP] at e;cases e)
  have Fl:=b7 _ _ (gp _ _ Qt) (Ne.symm nN);have QD:=(Fg (Qu.mono<|aY gp) Qy).mono t7;have QE:=ue (Qw.same gp) (gp _ _ nP) b7;have QF:av H (upd H6 A<|.lst<|ys++ws):=wy (kU.trans gp) fA b7;generalize upd H6 A (.lst<|ys++ws)=H7 at QC Fl QD QE QF⊢;refine CA<|bp<|bp<|bp<|ag rfl<|ag rfl<|eK<|ag rfl<|t6<|dj<|ag rfl ⟨bY gt.1.1,eK ?_⟩;have ei:((S.2.2.1:Nat):Int)+((min c.1 c.2.1:Nat):Int) - ((S.2.1:Nat):Int)+((t.length:Nat):Int)=((S.2.2.1+bg c - S.2.1+t.length:Nat):Int):=by
   have:S.2.1<=bg c:=Fj;show _+((bg c:Nat):Int) - _+_=_;lia
  rw[ei];refine dA<|fu<|ag rfl ⟨.inl ⟨rfl,_,ar.of Fl⟩,dY<|aj<|ag rfl<|aj<|ag rfl<|aj<|au<|aA ⟨eM,λtb Fm=>?_⟩⟩;have s8:=sameNew (o:=.tup [V.int ((S.2.2.1+bg c - S.2.1+t.length:Nat):Int),V.int ((S.2.2.1+bg c - S.2.1+t.length:Nat):Int),V.aB]) Fm;have qF:upd H7 tb (.tup [V.int ((S.2.2.1+bg c - S.2.1+t.length:Nat):Int),V.int ((S.2.2.1+bg c - S.2.1+t.length:Nat):Int),V.aB]) tb=some (.tup [V.int ((S.2.2.1+bg c - S.2.1+t.length:Nat):Int),V.int ((S.2.2.1+bg c - S.2.1+t.length:Nat):Int),V.aB]):=aw;generalize upd H7 tb (.tup [V.int ((S.2.2.1+bg c - S.2.1+t.length:Nat):Int),V.int ((S.2.2.1+bg c - S.2.1+t.length:Nat):Int),V.aB])=H8 at s8 qF⊢;have Fn:=s8 _ _ Fl;refine⟨bs,Fn,cX (by lia),?_⟩
  have b9:aR B H8 (upd H8 B<|.lst<|bs++[.ref tb]):=aR.upd;have t9:eI H8 (upd H8 B<|.lst<|bs++[.ref tb]):=λy us e=>b9 _ _ e (λz=>by rw[z,Fn] at e;cases e)
  refine CA<|ag rfl ⟨hi,_,_,_,_,ys++ws,bs++[.ref tb],by rw[e];rfl,wy (QF.trans s8) Fi b9,b9 _ _ (s8 _ _ QC) nN,by rw[e];exact(QD.mono<|aY s8).mono t9,aw,?_⟩
  rw[e];exact jo (ue (QE.same s8) Fn b9) ⟨tb,rfl,t9 _ _ qF⟩
 ·rintro σ H3 ⟨_,u7,u8,u9,e7,ys,bs,rfl,s3,pj,pA,rE,pB⟩;have ahb:xs.length=cs.length:=lcs;rw[ahb] at pA pB⊢;have ez:(cs.zip tl).take cs.length=cs.zip tl:=zav (by rw[List.length_zip];lia)
  rw[ez] at pA pB⊢;have K1:=wB cs.length (zqR _);have ln:=K1.ln;have wF:=K1.lc;rw[ez] at ln wF;obtain⟨o1,_,o3,o4⟩:=Fh (by lia) gl Cs.a Cs.i Ts.g eB wC hl
  have ly:=Paired.length pA;refine dA<|fu<|ag rfl ⟨.inl ⟨rfl,_,ar.of pj⟩,dY<|aj<|au<|aj<|bp<|wA (P.same s3) rfl (λQ1 q1=>ag rfl q1)<|ag rfl<|t6<|aA ⟨cO,λt ft=>?_⟩⟩;have s4:=sameNew (o:=.tup [V.str "keep",V.int<|(l.length:Int) - ((cg l<|cs.zip tl).2.1:Int)]) ft;have ht:upd H3 t (.tup [V.str "keep",V.int<|(l.length:Int) - ((cg l<|cs.zip tl).2.1:Int)]) t=some (.tup [V.str "keep",V.int<|(l.length:Int) - ((cg l<|cs.zip tl).2.1:Int)]):=aw;generalize upd H3 t (.tup [V.str "keep",V.int<|(l.length:Int) - ((cg l<|cs.zip tl).2.1:Int)])=H4 at s4 ht⊢;have nP:=s4 _ _ pj;refine⟨ys,nP,cX (by lia),?_⟩
  have b5:aR A H4 (upd H4 A<|.lst<|ys++[.ref t]):=aR.upd;have QG:upd H4 A (.lst<|ys++[.ref t]) A=some (.lst<|ys++[.ref t]):=aw;have t5:eI H4 (upd H4 A<|.lst<|ys++[.ref t]):=λy us e=>b5 _ _ e (λz=>by rw[z,nP] at e;cases e)
  have p5:bc (upd H4 A<|.lst<|ys++[.ref t]) (ys++[.ref t]) (kS l<|cs.zip tl):=(bc.snoc (p:=.keep ((l.length:Int) - ((cg l<|cs.zip tl).2.1:Int))) (pA.mono<|aY s4) ⟨t,rfl,ht⟩).mono t5;have QH:=b5 _ _ (s4 _ _ rE) (Ne.symm nN);have QI:=ue (pB.same s4) nP b5;have rF:av H (upd H4 A<|.lst<|ys++[.ref t]):=wy (s3.trans s4) fA b5;generalize upd H4 A (.lst<|ys++[.ref t])=H5 at QG p5 QH QI rF⊢;refine bP<|dY<|aj<|aP Dt rfl<|aj<|ag rfl<|aA ⟨A,_,_,rfl,QG,p5,by lia,o4,λa H6 za s6 fa ha pa=>?_⟩
  rw[DF _ o1] at pa;refine aj<|aP pe rfl<|aj<|ag rfl<|aA ⟨B,bs,_,rfl,s6 _ _ QH,QI.same s6,by lia,λus b zb H7 Sr s7 fb hb pb=>aA ⟨cO,λtt wG=>?_⟩⟩
  have s8:=sameNew (o:=.tup [V.ref a,V.ref b]) wG;exact q _ _ (((rF.trans s6).trans s7).trans s8) ⟨tt,a,b,za,zb,us,rfl,aw,rF.free fa,rF.free<|s6.free fb,s8 _ _<|s7 _ _ ha,pa.mono<|aY<|s7.trans s8,s8 _ _ hb,Sr,pb.same s8⟩
end
end L2.lS
namespace L2.N
open PySem PySem.Spec L2.B
def wH(P:V->Hp->Prop)(Γ:bo)(σ:St)(e:RE):Prop:= ∀(H:Hp) (Q:VK),(∀v H',av H H'->P v H'->Q v H')->ak Γ e σ H Q
section
variable {Γ:bo}{σ:St}{P:V->Hp->Prop}
theorem QJ(st:∀v H H',P v H->av H H'->P v H'):∀(es:List RE),(∀e∈es,wH P Γ σ e)->∀(H:Hp) (Q:List V->Hp->Prop),(∀vs H',av H H'->vs.length=es.length->(∀v∈vs,P v H')->Q vs H')->aW Γ es σ H Q
 |[],_,H,Q,q=>aA (q [] H (av.refl _) rfl nofun)
 |e::es,h,H,Q,q=>aj (h e (.head _) H _ λv H1 s1 o=>QJ st es (λe' DQ=>h e' (.tail _ DQ)) H1 _ λvs H2 s2 ln os=>q (v::vs) H2 (s1.trans s2) (by rw[zau,ln,zau]) (λw hw=>by
   rcases zaa.mp hw with rfl|hw
   ·exact st _ _ _ o s2
   ·exact os w hw))
theorem wI(h:∀H,P v H):wH P Γ σ (.c v):=λH Q q=>au (q v H (av.refl _)<|h H)
theorem ahc(h:∀a H,H a=some (.lst [v])->P (.ref a) H):wH P Γ σ (.lst [.c v]):=λH Q q=>cA (aj<|au<|aA ⟨dR,λa ha=>q _ _ (sameNew ha)<|h _ _ aw⟩)
theorem ahd(h:∀a H,H a=some (.tup [v])->P (.ref a) H):wH P Γ σ (.tup [.c v]):=λH Q q=>dY (aj<|au<|aA ⟨dR,λa ha=>q _ _ (sameNew ha)<|h _ _ aw⟩)
end
theorem QK(h1:x.length<=1000000)(h2:(x.cps.toList.all λc=>SG.cps.contains c)=true):good x:=⟨h1,λc hc=>zaO.mp h2 c hc⟩
end L2.N
namespace L2.lS
open PySem PySem.Spec L2.B L2.N
section
variable {K:Frag}{CP C CE CD CT:Addr}{H H':Hp}{p s lt lb lf:Addr}{l:List Nat}{k:Nat}{Γ:bo}{σ:St}{Q:VK}{E:XK}
abbrev QL(K:Frag)(CP C CD CT:Addr)(nc:Sp)(E:XK):bo:=aL K [("need_cursors",nc),("need_text",oS CT),("enter",mq CP C)] [] [] [("size",CP,kQ CP)] (et:=[("BadDeed",CD)]) (E:=E)
theorem ahe:cI (mq CP C) (λE=>QL K CP C CD CT ub E) Dg Df:=by
 intro vs H Q E h;obtain⟨p,s,lt,lb,lf,lc,lx,l,k,xs,cs,tl,rfl,P,hl,gl,Cs,Ts,eB,q⟩:=h;refine dA<|aP ub rfl<|aj<|wA P rfl (λQ1 q1=>ag rfl q1)<|aj<|ag rfl<|aA ⟨_,lc,xs,cs,rfl,Cs.h,Cs.c,Cs.o,Cs.m,Cs.i,Cs.a,λH1 s1=>?_⟩;have T1:=Ts.same s1;have C1:=Cs.same s1;refine YS<|gG<|cc<|jk<|ag rfl<|lU T1.h<|iF (b_<|dj<|ag rfl<|.inl ⟨_,ar.of T1.h,dj<|ag rfl<|.inl ⟨_,ar.of C1.h,nI ⟨_,rfl,iF (cf ?_) ?_⟩⟩⟩) rfl
 ·refine vZ (ag rfl ⟨lx,rfl,⟨_,ar.of T1.h⟩,iR (λi σ H2=>∃u3:Option V,σ=[some<|.ref p,some<|.ref lc,some<|.ref lx,u3]/\H2=H1) ⟨none,rfl,rfl⟩ (λi σ H2 _ ⟨_,_,e⟩=>e▸ar.of T1.h) ?_ ?_⟩)
  ·rintro i v σ H2 hv ⟨u3,rfl,rfl⟩;obtain⟨t,ht,rfl⟩:=zaF.mp (zaj hv);exact dA<|aP (oS CT) rfl<|aj<|ag rfl<|aA ⟨_,rfl,.inl ⟨t,rfl,(Ts.g t ht).1,⟨_,rfl,rfl⟩⟩⟩
  ·rintro σ H2 ⟨u3,rfl,rfl⟩;refine bP<|aP (mq CP C) rfl<|aj<|ag rfl<|aj<|ag rfl<|aj<|ag rfl<|aA ⟨p,s,lt,lb,lf,lc,lx,l,k,xs,cs,tl,rfl,P.same s1,hl,gl,C1,T1,eB,λv H3 s3 g=>q v H3 (s1.trans s3) ?_⟩;obtain⟨t,a,b,ys,zs,us,zq⟩:=qx6 g;obtain⟨e,h1,h2,h3,h4⟩:=qa5 zq;exact⟨t,a,b,ys,zs,us,e,h1,s1.free h2,s1.free h3,h4⟩
 ·rw[zah,eB,(Paired.length Cs.c)];simp
def EnB(H:Hp)(cv tv:V)(n:Nat)(CE CD CT:Addr)(E:XK):Prop:=(Af cv n H/\∀H',av H H'->E (.ref CE) none H')\/
 ∃lc xs cs,cv=.ref lc/\eR H lc n xs cs/\(((gh .list tv H\/∃lx ys,tv=.ref lx/\H lx=some (.lst ys)/\ys.length≠cs.length)/\∀H',av H H'->E (.ref CD) none H')\/
  ∃(lx:Addr) (ts:List Str) (o:V) (zs:List V),tv=.ref lx/\H lx=some (.lst (ts.map V.str++o::zs))/\(ts.map V.str++o::zs).length=cs.length/\(∀t∈ts,good t)/\lX o H/\∀H',av H H'->E (.ref CT) none H')
def Fo(CP C CE CD CT:Addr):Sp:=λvs H Q E=>∃(p s lt lb lf:Addr) (l:List Nat) (k:Nat) (cv tv:V),vs=[.ref p,cv,tv]/\cq CP C H p s lt lb lf l k/\EnB H cv tv l.length CE CD CT E
theorem ahg:cI (Fo CP C CE CD CT) (λE=>QL K CP C CD CT (jj ub<|Ag CE) E) Dg Df:=by
 intro vs H Q E h;obtain⟨p,s,lt,lb,lf,l,k,cv,tv,rfl,P,h⟩:=h;rcases h with⟨hb,q⟩|⟨lc,xs,cs,rfl,Cs,h⟩
 ·exact dA (aP (jj ub<|Ag CE) rfl<|aj<|wA P rfl (λQ1 q1=>ag rfl q1)<|aj<|ag rfl<|aA<|.inr ⟨_,cv,rfl,hb,q⟩)
 have lcs:=Paired.length Cs.c;refine dA<|aP (jj ub<|Ag CE) rfl<|aj<|wA P rfl (λQ1 q1=>ag rfl q1)<|aj<|ag rfl<|aA<|.inl ⟨_,lc,xs,cs,rfl,Cs.h,Cs.c,Cs.o,Cs.m,Cs.i,Cs.a,λH1 s1=>?_⟩;have C1:=Cs.same s1;rcases h with⟨h|⟨lx,ys,rfl,hy,hn⟩,q⟩|⟨lx,ts,o,zs,rfl,hy,hn,hg,hb,q⟩
 ·exact YS (gG<|cc<|jk<|ag rfl<|(h.same s1).go<|iT (iT (⟨dR,q _ s1⟩) rfl) rfl)
 ·refine YS (gG<|cc<|jk<|ag rfl<|lU (s1 _ _ hy)<|iF ?_ rfl);refine b_<|dj<|ag rfl<|.inl ⟨_,ar.of<|s1 _ _ hy,dj<|ag rfl<|.inl ⟨_,ar.of C1.h,nI ⟨_,rfl,iT ?_ ?_⟩⟩⟩
  ·exact⟨dR,q _ s1⟩
  ·lia
 ·have An:=s1 _ _ hy;refine YS<|gG<|cc<|jk<|ag rfl<|lU An<|iF ?_ rfl;refine b_<|dj<|ag rfl<|.inl ⟨_,ar.of An,dj<|ag rfl<|.inl ⟨_,ar.of C1.h,nI ⟨_,rfl,iF (cf ?_) ?_⟩⟩⟩
  ·refine vZ (ag rfl ⟨lx,rfl,⟨_,ar.of An⟩,iR (λi σ H2=>i<=ts.length/\∃u3:Option V,σ=[some<|.ref p,some<|.ref lc,some<|.ref lx,u3]/\H2=H1) ⟨zqZ _,none,rfl,rfl⟩ (λi σ H2 _ ⟨_,_,_,e⟩=>e▸ar.of An) ?_ ?_⟩)
   ·rintro i v σ H2 hv ⟨hi,u3,rfl,rfl⟩;by_cases e:i<ts.length
    ·rw[zbw (by rw[zah];exact e)] at hv
     obtain⟨t,ht,rfl⟩:=zaF.mp (zaj hv);exact dA<|aP (oS CT) rfl<|aj<|ag rfl<|aA ⟨_,rfl,.inl ⟨t,rfl,hg t ht,⟨e,_,rfl,rfl⟩⟩⟩
    ·have e':i=(ts.map V.str).length:=by rw[zah];lia
     rw[e',zbj<|zqR _,Nat.sub_self] at hv;cases hv;exact dA<|aP (oS CT) rfl<|aj<|ag rfl<|aA ⟨_,rfl,.inr ⟨hb.same s1,q _ s1⟩⟩
   ·rintro σ H2 ⟨hi,_⟩;rw[zqA,zah,zau] at hi;exact absurd hi (by lia)
  ·rw[hn,lcs];simp
variable {cs:List Addr}{bZ:Addr}
theorem Fp(hw:Γ.hs 0=zw Γ.K cs bZ)(kE:nG Γ.K cs bZ CX j)(hj:j<13)(xE:exmOne Γ.K (.ref CX) (.ref bZ)=some true)(q:∀H',av H H'->D.rt (.str<|jQ.getD j "") H'):
  BL Γ.K bZ 3 4 (λea=>aE {Γ with E:=E0,hv:=some ea} [.ret<|.yr 0<|.v 3]) D (.ref CX) none H:=by
 refine⟨xE,λea ob vs σ' mU hl mH=>?_⟩;have he:ExcAt (upd H ea<|.bO ob mL) ea CX:=⟨ob,vs,aw,mH⟩;refine bP ⟨_,(by rw[zbK (by lia)]),⟨ea,CX,rfl,he⟩,?_⟩
 rw[hw];exact⟨ea,CX,j,rfl,he,kE,hj,λH2 s2=>q _<|(sameNew mU).trans s2⟩
inductive pk(CP C:Addr)(vs:List V)(H:Hp)(Q:VK)(E:XK):Prop|i(p s lt lb lf:Addr)(l:List Nat)(k:Nat)(cv tv:V)(_:vs=[.ref p,cv,tv])(_:cq CP C H p s lt lb lf l k)(_:((Af cv l.length H/\∀H',av H H'->Q (.str "cursor") H')\/
 ∃lc xs cs,cv=.ref lc/\eR H lc l.length xs cs/\(((gh .list tv H\/∃lx ys,tv=.ref lx/\H lx=some (.lst ys)/\ys.length≠cs.length)/\∀H',av H H'->Q (.str "deed") H')\/
  ∃(lx:Addr) (ts:List Str) (o:V) (zs:List V),tv=.ref lx/\H lx=some (.lst (ts.map V.str++o::zs))/\(ts.map V.str++o::zs).length=cs.length/\(∀t∈ts,good t)/\lX o H/\∀H',av H H'->Q (.str "text") H')))
theorem ahh(kE:nG K cs bZ CE 7)(kD:nG K cs bZ CD 8)(kT:nG K cs bZ CT 0)(xE:exmOne K (.ref CE) (.ref bZ)=some true)(xD:exmOne K (.ref CD) (.ref bZ)=some true)(xT:exmOne K (.ref CT) (.ref bZ)=some true):cI (pk CP C) (λE=>aL K [("entered",Fo CP C CE CD CT)] [("InkError",.ref bZ)] (ht:=[("_law_word",zw K cs bZ)]) (E:=E)) M9 M8:=by
 intro vs H Q E h;obtain⟨p,s,lt,lb,lf,l,k,cv,tv,rfl,P,h⟩:=h;refine⟨bZ,rfl,dA<|aP (Fo CP C CE CD CT) rfl<|aj<|ag rfl<|aj<|ag rfl<|aj<|ag rfl<|aA ⟨p,s,lt,lb,lf,l,k,cv,tv,rfl,P,?_⟩⟩;rcases h with⟨hb,q⟩|⟨lc,xs,cs,rfl,Cs,⟨h,q⟩|⟨lx,ts,o,zs,rfl,hy,hn,hg,hb,q⟩⟩
 ·exact .inl ⟨hb,λH' s'=>Fp rfl kE (by lia) xE λH2 s2=>q _ (s'.trans s2)⟩
 ·exact .inr ⟨lc,xs,cs,rfl,Cs,.inl ⟨h,λH' s'=>Fp rfl kD (by lia) xD λH2 s2=>q _ (s'.trans s2)⟩⟩
 ·exact .inr ⟨lc,xs,cs,rfl,Cs,.inr ⟨lx,ts,o,zs,rfl,hy,hn,hg,hb,λH' s'=>Fp rfl kT (by lia) xT λH2 s2=>q _ (s'.trans s2)⟩⟩
end
section
variable {K:Frag}
inductive Fq(K:Frag)(vs:List V)(H:Hp)(Q:VK)(E:XK):Prop|i(a:Addr)(ns:List Int)(st n:Nat)(_:vs=[.ref a,.int st,.int n])(_:ar K H a (ns.map V.int))(_:∀l xs cs H',av H H'->H l=none->H' l=some (.lst xs)->bS H' xs cs->(∀c∈cs,c.1<=n/\c.2.1<=n)->1<=cs.length->cs.length<=40->Q (.ref l) H')
theorem ahi(vs:List V)(H:Hp)(Q:VK)(E:XK)(hh:Fq K vs H Q E):aE (aL K (wt K) [] (E:=E)) Dh (Dn Q) (start MV vs) H:=by
 obtain⟨a,ns,st,n,rfl,ha,q⟩:=hh;have cl:∀{σ:St}{H1:Hp}{Q':VK},av H H1->σ[0]?=some (some<|.ref a)->σ[1]?=some (some<|.int (st:Nat))->Q' (.int<|cell ns st) H1->ak (aL K (wt K) [] (E:=E)) (.call 0 [.v 0,.v 1]) σ H1 Q':=λs1 e0 e1 q'=>
  aP (ku K) rfl (aj<|ag e0<|aj<|ag e1<|aA ⟨a,ns,_,rfl,s1.seq ha,by lia,by rw[zar];exact q'⟩)
 refine CA<|bp<|au<|bp<|cl (av.refl _) rfl rfl<|au ⟨(by show(0:Int) <6;decide),eK ?_⟩
 have fin:∀m:Int,1<=m->m<=40->aE (aL K (wt K) [] (E:=E)) (Dh.drop 2) (Dn Q) [some<|.ref a,some<|.int st,some<|.int n,some<|.int m,none,none,none] H:=by
  intro m h1 h2;refine CA<|cA<|aA ⟨zqZ _,λL fL=>?_⟩;have s0:=sameNew (o:=.lst []) fL;refine Pd (body:=E6) (ag rfl ⟨m,rfl,by lia,by lia,A0 (lo:=0) (n:=m.toNat) (λi σ H2=>i<=m.toNat/\qX4 λ(ys:List V) (cs:List Cu) (u5 u6:Option V)=>qA6 (σ=[some (.ref a),some (.int st),some (.int n),some (.int m),some (.ref L),u5,u6]) (av H H2) (H2 L=some (.lst ys)) (bS H2 ys cs) (cs.length=i) (∀c∈cs,c.1<=n/\c.2.1<=n))
   ⟨zqZ _,[],[],none,none,rfl,s0,aw,.nil,rfl,λc hc=>by cases hc⟩ ?_ ?_⟩)
  ·rintro i σ H2 hi ⟨_,ys,cs,u5,u6,rfl,sm,hL,hc,lc,cQ⟩;rw[Int.zero_add];refine agF ha sm fL hL hc (by lia) λy6 gO c H' s' hL' cC l1 l2=>⟨hi,gO,cs++[c],_,y6,rfl,s',hL',cC,by rw[zqA,lc];rfl,λd hd=>?_⟩
   rcases zae.mp hd with hd|hd
   ·exact cQ d hd
   ·rw[zad.mp hd];exact⟨l1,l2⟩
  ·rintro σ H2 ⟨_,ys,cs,u5,u6,rfl,sm,hL,hc,lc,cQ⟩;exact bP<|ag rfl<|q L ys cs H2 sm fL hL hc cQ (by lia) (by lia)
 refine YS<|b_<|bp<|bp<|cl (av.refl _) rfl rfl<|au ⟨⟨by decide,by decide⟩,au ⟨(by show(0:Int) <9;decide),au<|iN ⟨_,rfl,cZ (λ_=>?_)<|λ_=>cf<|fin _ (by lia) (by lia)⟩⟩⟩
 exact CA<|au<|cf<|fin 40 (by decide) (by decide)
theorem Fs{es:List RE}{ix:RE}(st:∀v H H',P v H->av H H'->P v H')(hm:∀e∈es,wH P Γ σ e)(hn:es.length<=100){i:Int}(h0:0<=i)(h1:i<es.length)(hi:∀(H1:Hp) (Q1:VK),Q1 (.int i) H1->ak Γ ix σ H1 Q1)(q:∀v H',av H H'->P v H'->Q v H'):ak Γ (.ix (.lst es) ix) σ H Q:=by
 refine aQ<|cA<|QJ st es hm H _ λvs H1 s1 hl hv=>⟨bY (by lia),λa fa=>hi _ _ ?_⟩
 obtain⟨k,rfl⟩:=zbS h0;have hk:k<vs.length:=by lia
 have s2:=sameNew (o:=.lst vs) fa;exact cB (aw) (jz<|zaC hk)<|q _ _ (s1.trans s2)<|st _ _ _ (hv _<|zaQ hk) s2
theorem kW{j:Int}(h:0<j)(q:Q (.int<|i % j) H):lJ K .Mod (.int i) (.int j) H Q:=⟨h,q⟩
theorem wJ{j:Int}(h:A7 i j)(q:Q (.int<|i / j) H):lJ K .FloorDiv (.int i) (.int j) H Q:=⟨h,q⟩
inductive jd(K:Frag)(vs:List V)(H:Hp)(Q:VK)(E:XK):Prop|i(a:Addr)(ns:List Int)(st m:Nat)(_:vs=[.ref a,.int st,.int m])(_:ar K H a (ns.map V.int))(_:m<=40)(_:∀lx tl H',av H H'->H lx=none->fE H' lx tl->(∀t∈tl,t.length<=4)->tl.length=m->Q (.ref lx) H')
abbrev QM(K:Frag)(E:XK):bo:=aL K [("_law_mixed",jN),("_law_cell_at",ku K),("_law_text",sZ)] [] (E:=E)
theorem vC(vs:List V)(H:Hp)(Q:VK)(E:XK)(hh:jd K vs H Q E):aE (QM K E) M3 (Dn Q) (start M1 vs) H:=by
 obtain⟨a,ns,st,m,rfl,ha,hm,q⟩:=hh;refine CA<|cA<|aA ⟨zqZ _,λL fL=>?_⟩;have s0:=sameNew (o:=.lst []) fL;refine Pd (ag rfl ⟨m,rfl,by lia,by lia,A0 (lo:=0) (λi σ H2=>qX3 λ(tl:List Str) (u4 u5:Option V)=>qA5 (σ=[some (.ref a),some (.int st),some (.int m),some (.ref L),u4,u5]) (av H H2) (H2 L=some (.lst (tl.map V.str))) (tl.length=i) (∀t∈tl,good t/\t.length<=4))
  ⟨[],none,none,rfl,s0,aw,rfl,nofun⟩ ?_ ?_⟩)
 ·rintro i σ H2 hi ⟨tl,u4,u5,rfl,sm,hL,lt,ht⟩;have i6:=zax (0+(i:Int)) (show(6:Int)≠0 by decide)
  refine CA<|aP jN rfl<|aj<|aP (ku K) rfl<|aj<|ag rfl<|aj<|bp<|ag rfl<|bp<|ag rfl<|au<|kW (by decide)<|eK<|aA ⟨a,ns,_,rfl,sm.seq ha,by lia,?_⟩
  refine aj<|bp<|au<|bp<|ag rfl<|au<|wJ ⟨by decide,by decide⟩<|eK<|aA ⟨_,_,rfl,?_⟩
  have m0:=(Dk (cell ns ((st:Int)+(0+(i:Int)) % 6).toNat)<|30+(0+(i:Int)) / 6).1;generalize mixed (cell ns ((st:Int)+(0+(i:Int)) % 6).toNat) (30+(0+(i:Int)) / 6)=c at m0⊢;have c6:=zax c (show(6:Int)≠0 by decide)
  refine dA<|fu<|ag rfl ⟨.inl ⟨rfl,_,ar.of hL⟩,aP sZ rfl<|aj<|ag rfl<|aj<|Fs (P:=λv _=>∃n:Int,v=.int n/\0<=n/\n<=4) (λv H H' h s=>h) (λe he=>?_) (by decide) c6 (zaA c (show(0:Int) <6 by decide)) (λH1 Q1 q1=>bp<|ag rfl<|au<|kW (by decide) q1) λv H3 s3 hv=>?_⟩
  ·simp at he
   rcases he with rfl|rfl|rfl|rfl|rfl|rfl<;>exact wI λH=>⟨_,rfl,by decide,by decide⟩
  obtain⟨n,rfl,n0,n4⟩:=hv;refine aA ⟨_,_,rfl,n0,by lia,λx H4 gx lx s4=>?_⟩
  have eA:=s3.trans s4
  refine⟨_,(eA _ _ hL),cX (by rw[zah];lia),?_⟩
  have b5:aR L H4 (upd H4 L<|.lst<|tl.map V.str++[.str x]):=aR.upd;refine⟨tl++[x],_,_,rfl,wy (sm.trans eA) fL b5,zas▸aw,by rw[zqA,lt];rfl,λt h=>?_⟩
  rcases zae.mp h with h|h
  ·exact ht t h
  ·rw[zad.mp h];exact⟨gx,by lia⟩
 ·rintro σ H2 ⟨tl,u4,u5,rfl,sm,hL,lt,ht⟩;exact bP<|ag rfl<|q L tl H2 sm fL ⟨hL,λt h=>⟨(ht t h).1,by have:=(ht t h).2;lia⟩⟩ (λt h=>(ht t h).2) (by lia)
variable {H H':Hp}{l:List Nat}{Γ:bo}{σ:St}{Q:VK}{E:XK}
theorem ahl{c:Cu}(e:σ[j]?=some (some<|.ref tc))(ht:iz H tc c.1 c.2.1 c.2.2)(q:∀H',av H H'->Q (.int (bg c:Nat)) H'):ak Γ (.xt vy [(.sl (.v j) none<|some<|.c<|.int 2)]) σ H Q:=by
 refine PM<|aj<|v7<|ag e<|au ⟨2,rfl,.inr ⟨_,aM.of ht,Ad,λc1 f1=>aA ⟨c1,[(c.1:Int),(c.2.1:Int)],rfl,aM.of aw,by lia,λmn wk pf=>?_⟩⟩⟩
 have e1:mn=((bg c:Nat):Int):=by
  have a1:=pf (c.1:Int) (by simp)
  have a2:=pf (c.2.1:Int) (by simp)
  simp at wk
  lia
 rw[e1];exact q _ (sameNew f1)
theorem ahm{c:Cu}(e:σ[j]?=some (some<|.ref tc))(ht:iz H tc c.1 c.2.1 c.2.2)(q:∀H',av H H'->Q (.int (en c:Nat)) H'):ak Γ (.xt vz [(.sl (.v j) none<|some<|.c<|.int 2)]) σ H Q:=by
 refine PN<|aj<|v7<|ag e<|au ⟨2,rfl,.inr ⟨_,aM.of ht,Ad,λc1 f1=>aA ⟨c1,[(c.1:Int),(c.2.1:Int)],rfl,aM.of aw,by lia,λmn wk pf=>?_⟩⟩⟩
 have e1:mn=((en c:Nat):Int):=by
  have a1:=pf (c.1:Int) (by simp)
  have a2:=pf (c.2.1:Int) (by simp)
  simp at wk
  lia
 rw[e1];exact q _ (sameNew f1)
theorem ahn{a b:Nat}(h:a<=b):mK x (some (a:Int)) (some (b:Int))=gH x.cps.toList a b:=by
 have:=Oe (x:=x) a ((b - a:Nat):Int) (b - a) rfl;rw[show(a:Int)+((b - a:Nat):Int)=(b:Int) by lia] at this
 rw[this];unfold gH;rw[List.drop_take]
theorem QN(ha:H a=some (.lst xs))(hb:H b=some (.lst ys))(hl:xs.length+ys.length<=1000000)(q:∀c,H c=none->Q (.ref c) (upd H c<|.lst<|xs++ys)):lJ K .Add (.ref a) (.ref b) H Q:=.inl ⟨a,b,xs,ys,rfl,rfl,ha,hb,bY hl,q⟩
inductive uf(vs:List V)(H:Hp)(Q:VK)(E:XK):Prop|i(x:Str)(lc lx:Addr)(xs:List V)(cs:List Cu)(tl:List Str)(_:vs=[.str x,.ref lc,.ref lx])(_:good x)(_:x.length<=1400)(_:eR H lc x.length xs cs)(_:fE H lx tl)(_:tl.length=cs.length)(_:∀v H',av H H'->Al H H' v x.cps.toList cs tl->Q v H')
abbrev GDu(K:Frag)(E:XK):bo:=aL K [("_law_neat",zp),("_law_settled",pe)] [] (E:=E)
theorem ahp:cI (uf) (λE=>GDu K E) M6 M5:=by
 intro vs H Q E h;obtain⟨x,lc,lx,xs,cs,tl,rfl,gx,hl,Cs,Ts,eB,q⟩:=h;have ll:=len_list x;have ci:∀c∈cs,c.1<=x.cps.toList.length/\c.2.1<=x.cps.toList.length:=by rw[<-ll];exact Cs.i
 have wB:=Am (l:=x.cps.toList) (by lia) gx.2 Cs.a ci Ts.g eB
 have lcs:xs.length=cs.length:=Paired.length Cs.c;have wC:=Cs.m;have gl:∀c∈x.cps.toList,SG.cps.contains c=true:=gx.2;generalize hlx:x.cps.toList=l at*;refine CA<|cA<|aA ⟨zqZ _,λA fA=>?_⟩;have s1:=sameNew (o:=.lst []) fA;have nM:upd H A (.lst []) A=some (.lst []):=aw;generalize upd H A (.lst [])=H1 at s1 nM⊢;refine CA<|cA<|aA ⟨zqZ _,λB fB=>?_⟩;have s2:=sameNew (o:=.lst []) fB;have wD:upd H1 B (.lst []) B=some (.lst []):=aw;have rD:=s2 _ _ nM;have nN:A≠B:=bf nM fB;generalize upd H1 B (.lst [])=H2 at s2 wD rD⊢;have Fi:=s1.free fB;have eE:=s1.trans s2;refine CA<|au<|CA<|au ?_;refine Qk<|aj<|ag rfl<|aj<|ag rfl<|aA ⟨lc,lx,rfl,⟨_,ar.of<|eE _ _ Cs.h⟩,⟨_,ar.of<|eE _ _ Ts.h⟩,?_⟩;refine zz (K:=K) (a:=lc) (b:=lx) (xs:=xs) (ys:=tl.map V.str) (by rw[zah];lia) (λi σ H3=>i<=cs.length/\qX7 λ(A:Addr) (u7 u8 u9 e7:Option V) (ys bs:List V)=>qA7 (σ=[some<|.str x,some<|.ref lc,some<|.ref lx,some<|.ref A,some<|.ref B,some<|.int ((cg l<|(cs.zip tl).take i).2.1:Nat),some<|.int ((cg l<|(cs.zip tl).take i).2.2.1:Nat),u7,u8,u9,e7]) (av H H3) (A≠B) (H3 A=some (.lst ys)) (bc H3 ys (cg l<|(cs.zip tl).take i).1) (H3 B=some (.lst bs)) (bS H3 bs (cg l<|(cs.zip tl).take i).2.2.2))
  ⟨zqZ _,A,none,none,none,none,[],[],rfl,eE,nN,rD,.nil,wD,.nil⟩ (λi σ H3 ⟨_,_,_,_,_,_,_,_,_,s3,_,_,_,_,_⟩=>⟨ar.of<|s3 _ _ Cs.h,ar.of<|s3 _ _ Ts.h⟩) ?_ ?_
 ·clear rD nM fA nN;rintro i v y σ H3 T hx hy ⟨_,A,u7,u8,u9,e7,ys,bs,rfl,s3,nN,pj,pA,rE,pB⟩ fT;obtain⟨c,hc,tc,rfl,ht⟩:=iA Cs.c hx;obtain⟨t,oW,rfl⟩:∃t,tl[i]?=some t/\y=.str t:=by
   rw[zaz] at hy;cases hh:tl[i]? with
   |none=>rw[hh] at hy;cases hy
   |some t=>rw[hh] at hy;cases hy;exact⟨t,rfl,rfl⟩
  have hi:i<cs.length:=(zak.mp hc).1;have e:=Fe (l:=l) (zs:=cs.zip tl) (z:=(c,t)) (by rw[zbe];exact⟨hc,oW⟩)
  have K1:=wB i (by lia)
  have Fj:=K1.nx (c,t) (by rw[zbe];exact⟨hc,oW⟩)
  have lnA:=K1.ln;have wF:=K1.lc;have lyA:=Paired.length pA;have lyB:bs.length=_:=Paired.length pB;have gt:=Ts.g t (zaj oW);generalize cg l ((cs.zip tl).take i)=S at*;have s4:=sameNew (o:=.tup [V.ref tc,V.str t]) fT;refine t_ aw ?_;generalize upd H3 T (.tup [V.ref tc,V.str t])=H4 at s4⊢;refine CA<|ahl rfl ((s3.trans s4) _ _ ht) λH5 s5=>CA (ahm rfl (((s3.trans s4).trans s5) _ _ ht) λH6 s6=>?_);have iC:=(s4.trans s5).trans s6;have hA6:=iC _ _ pj;have QO:=iC _ _ rE;have pA6:=pA.mono (aY iC);have pB6:=pB.same iC;have qL:=s3.trans iC;have g4:bg c<=en c:=by show min _ _<=max _ _;lia
  refine CA<|bp<|ag rfl<|cA<|Qs (n:=(bg c:Int) - (S.2.1:Int)) (t:=t) (u:=gH l (bg c) (en c)) (λQ1 q1=>bp<|ag rfl<|ag rfl<|t6 q1) (λH1 Q1 _ q1=>ag rfl q1) (λH1 Q1 s1 q1=>Pb<|ag rfl<|ag rfl ⟨_,rfl,ag rfl ⟨_,rfl,bY gx.1,by rw[ahn g4,hlx];exact q1 _ (av.refl _)⟩⟩) λws H7 s7 lw pw=>⟨bY (by lia),λm fm=>?_⟩
  have s8:=sameNew (o:=.lst ws) fm;have QP:upd H7 m (.lst ws) m=some (.lst ws):=aw;have QR:=pw.mono (aY s8);have wK:=s7.trans s8;generalize upd H7 m (.lst ws)=H8 at s8 QP wK QR⊢;refine QN (wK _ _ hA6) QP (by lia) λA' QS=>?_
  have s9:=sameNew (o:=.lst (ys++ws)) QS;have QU:upd H8 A' (.lst<|ys++ws) A'=some (.lst<|ys++ws):=aw;have Ao:=wK.trans s9;have QV:=(Fg (pA6.mono<|aY wK) QR).mono (aY s9);have QW:A'≠B:=rC (wK _ _ QO) QS;generalize upd H8 A' (.lst<|ys++ws)=H9 at s9 QU Ao QV⊢;have QX:=Ao _ _ QO;have pB9:=pB6.same Ao;refine CA<|bp<|bp<|bp<|ag rfl<|ag rfl<|eK<|ag rfl<|t6<|dj<|ag rfl ⟨bY gt.1.1,eK ?_⟩;have ei:((S.2.2.1:Nat):Int)+((bg c:Nat):Int) - ((S.2.1:Nat):Int)+((t.length:Nat):Int)=((S.2.2.1+bg c - S.2.1+t.length:Nat):Int):=by
   have:S.2.1<=bg c:=Fj;lia
  rw[ei];refine dA<|fu<|ag rfl ⟨.inl ⟨rfl,_,ar.of QX⟩,dY<|aj<|ag rfl<|aj<|ag rfl<|aj<|au<|aA ⟨eM,λtb Fm=>?_⟩⟩;have sA:=sameNew (o:=.tup [V.int ((S.2.2.1+bg c - S.2.1+t.length:Nat):Int),V.int ((S.2.2.1+bg c - S.2.1+t.length:Nat):Int),V.aB]) Fm;have qF:upd H9 tb (.tup [V.int ((S.2.2.1+bg c - S.2.1+t.length:Nat):Int),V.int ((S.2.2.1+bg c - S.2.1+t.length:Nat):Int),V.aB]) tb=some (.tup [V.int ((S.2.2.1+bg c - S.2.1+t.length:Nat):Int),V.int ((S.2.2.1+bg c - S.2.1+t.length:Nat):Int),V.aB]):=aw;generalize upd H9 tb (.tup [V.int ((S.2.2.1+bg c - S.2.1+t.length:Nat):Int),V.int ((S.2.2.1+bg c - S.2.1+t.length:Nat):Int),V.aB])=HA at sA qF⊢;have Ft:=sA _ _ QX;refine⟨bs,Ft,cX (by lia),?_⟩
  have bB:aR B HA (upd HA B<|.lst<|bs++[.ref tb]):=aR.upd;have tB:eI HA (upd HA B<|.lst<|bs++[.ref tb]):=λy us e=>bB _ _ e (λz=>by rw[z,Ft] at e;cases e)
  refine CA<|ag rfl ⟨hi,A',_,_,_,_,ys++ws,bs++[.ref tb],by rw[e];rfl,wy ((qL.trans Ao).trans sA) Fi bB,QW,bB _ _ (sA _ _ QU) QW,by rw[e];exact(QV.mono<|aY sA).mono tB,aw,?_⟩
  rw[e];exact jo (ue (pB9.same sA) Ft bB) ⟨tb,rfl,tB _ _ qF⟩
 ·clear rD nM fA nN;rintro σ H3 ⟨_,A,u7,u8,u9,e7,ys,bs,rfl,s3,nN,pj,pA,rE,pB⟩;rw[lcs] at pA pB⊢;have ez:(cs.zip tl).take cs.length=cs.zip tl:=zav (by rw[List.length_zip];lia)
  rw[ez] at pA pB⊢;have K1:=wB cs.length (zqR _);have ln:=K1.ln;have wF:=K1.lc;rw[ez] at ln wF;obtain⟨o1,_,o3,o4⟩:=Fh (l:=l) (by lia) gl Cs.a ci Ts.g eB wC (by lia)
  have ly:=Paired.length pA;refine bP<|dY<|aj<|aP zp rfl<|aj<|bp<|ag rfl<|cA<|aj<|dY<|aj<|au<|aj<|bp<|dj<|ag rfl ⟨bY gx.1,ag rfl<|t6<|aA ⟨cO,λt ft=>aA ⟨dR,λm fm=>?_⟩⟩⟩;have s4:=sameNew (o:=.tup [V.str "keep",V.int<|(x.length:Int) - ((cg l<|cs.zip tl).2.1:Int)]) ft;have ht:upd H3 t (.tup [V.str "keep",V.int<|(x.length:Int) - ((cg l<|cs.zip tl).2.1:Int)]) t=some (.tup [V.str "keep",V.int<|(l.length:Int) - ((cg l<|cs.zip tl).2.1:Int)]):=by rw[<-ll];exact aw
  generalize upd H3 t (.tup [V.str "keep",V.int<|(x.length:Int) - ((cg l<|cs.zip tl).2.1:Int)])=H4 at s4 ht fm⊢;have s5:=sameNew (o:=.lst [V.ref t]) fm;have hm:upd H4 m (.lst [V.ref t]) m=some (.lst [V.ref t]):=aw;have mh:=s5 _ _ ht;have kR:=s4.trans s5;generalize upd H4 m (.lst [V.ref t])=H5 at s5 hm mh kR⊢;refine QN (kR _ _ pj) hm (by show _+1<=_;lia) λG fG=>?_
  have s6:=sameNew (o:=.lst (ys++[V.ref t])) fG;have hG:upd H5 G (.lst<|ys++[V.ref t]) G=some (.lst<|ys++[V.ref t]):=aw;have iC:=kR.trans s6;have p6:bc (upd H5 G<|.lst<|ys++[V.ref t]) (ys++[.ref t]) (kS l<|cs.zip tl):=bc.snoc (p:=.keep ((l.length:Int) - ((cg l<|cs.zip tl).2.1:Int))) (pA.mono<|aY iC) ⟨t,rfl,s6 _ _ mh⟩;generalize upd H5 G (.lst<|ys++[V.ref t])=H6 at s6 hG iC p6⊢;refine aA ⟨G,_,_,rfl,hG,p6,by lia,o4,λa H7 za s7 fa ha pa=>?_⟩
  have Ap:=iC.trans s7;refine aj<|aP pe rfl<|aj<|ag rfl<|aA ⟨B,bs,_,rfl,Ap _ _ rE,pB.same Ap,by lia,λus b zb H8 Sr s8 fb hb pb=>aA ⟨cO,λtt wG=>?_⟩⟩
  have s9:=sameNew (o:=.tup [V.ref a,V.ref b]) wG;exact q _ _ (((s3.trans Ap).trans s8).trans s9) ⟨tt,a,b,za,zb,us,rfl,aw,s3.free<|iC.free fa,s3.free<|Ap.free fb,s9 _ _<|s8 _ _ ha,pa.mono<|aY<|s8.trans s9,s9 _ _ hb,Sr,pb.same s9⟩
variable {CP C CE CD CT:Addr}{p s lt lb lf:Addr}{k:Nat}{cs:List Cu}{tl:List Str}{xs:List V}
theorem cq.but(P:cq CP C H p s lt lb lf l k){a:Addr}(ha:H a=some (.lst ys))(n:a≠lt/\a≠lb/\a≠lf)(b:aR a H H'):cq CP C H' p s lt lb lf l k:=by
 obtain⟨dp,dx,v,t,ts,zq⟩:=qx5 P;obtain⟨A,S,e⟩:=qa3 zq;have ni:∀{z:Addr}{o:HO},H z=some o->(∀ys,o≠ .lst ys)->z≠a:=λe h z=>by rw[z,ha] at e;cases e;exact h _ rfl
 have tb:eI H H':=λy us e=>b _ _ e (ni e nofun)
 exact⟨dp,dx,v,t,ts,⟨b _ _ A.ob (ni A.ob nofun),A.nd.mono tb,A.ok,A.pc⟩,⟨b _ _ S.ob (ni S.ob nofun),b _ _ S.tx<|Ne.symm n.1,b _ _ S.bg<|Ne.symm n.2.1,b _ _ S.fd<|Ne.symm n.2.2,S.n1,S.n2,S.n3⟩,e⟩
theorem cq.lists(P:cq CP C H p s lt lb lf l k):(∃ys,H lt=some (.lst ys))/\(∃ys,H lb=some (.lst ys))/\(∃ys,H lf=some (.lst ys))/\∃c d f,H s=some (.ins c d f):=by
 obtain⟨dp,dx,v,t,ts,zq⟩:=qx5 P;obtain⟨A,S,e⟩:=qa3 zq;exact⟨⟨_,S.tx⟩,⟨_,S.bg⟩,⟨_,S.fd⟩,_,_,_,S.ob⟩
theorem cq.fr(P:cq CP C H p s lt lb lf l k){a:Addr}(f:H a=none):a≠lt/\a≠lb/\a≠lf:=by
 obtain⟨⟨_,h1⟩,⟨_,h2⟩,⟨_,h3⟩,_⟩:=P.lists;exact⟨rC h1 f,rC h2 f,rC h3 f⟩
theorem eR.but{a b:Addr}(T:eR H a n xs cs)(n1:a≠b)(hb:H b=some (.lst ys))(u:aR b H H'):eR H' a n xs cs:=⟨u _ _ T.h n1,ue T.c hb u,T.i,T.o,T.m,T.a⟩
def jZ(H:Hp)(t a b:Addr)(l:List Nat)(cs:List Cu)(tl:List Str):Prop:= ∃ys zs us,H t=some (.tup [.ref a,.ref b])/\H a=some (.lst ys)/\bc H ys (jf<|kS l<|cs.zip tl)/\H b=some (.lst zs)/\ij (Aj l<|cs.zip tl) us/\bS H zs (settle (Aj l<|cs.zip tl) us)
theorem jZ.same(A:jZ H t a b l cs tl)(h:av H H'):jZ H' t a b l cs tl:=by
 obtain⟨ys,zs,us,zq⟩:=qx3 A;obtain⟨h1,h2,h3,h4,h5,h6⟩:=qa6 zq;exact⟨ys,zs,us,h _ _ h1,h _ _ h2,h3.mono<|aY h,h _ _ h4,h5,h6.same h⟩
theorem Al.at(G:Al H H' v l cs tl):∃t a b,v=.ref t/\H a=none/\H b=none/\jZ H' t a b l cs tl:=by
 obtain⟨t,a,b,ys,zs,us,zq⟩:=qx6 G;obtain⟨e,h1,h2,h3,h4,h5,h6,h7,h8⟩:=qa9 zq;exact⟨t,a,b,e,h2,h3,ys,zs,us,h1,h4,h5,h6,h7,h8⟩
theorem Fu{a b t' a' b':Addr}{E':XK}(A:jZ H t a b l cs tl)(B:jZ H t' a' b' l cs tl)(ej:σ[j]?=some (some<|.ref t))(ei:σ[i]?=some (some<|.ref a'))(q:∀H',av H H'->Q (.bl true) H'):aW Γ [(.ix (.v j)<|.c<|.int 0),.v i] σ H λvs H1=>qP vs H1 Q E':=by
 obtain⟨ys,zs,us,zq⟩:=qx3 A;obtain⟨h1,h2,h3,h4,h5,h6⟩:=qa6 zq;obtain⟨gO,dg,wL,zq⟩:=qx3 B;obtain⟨nH,sS,QY,QZ,Q0,Fv⟩:=qa6 zq;exact aj<|aQ<|ag ej<|au<|aH h1 rfl<|aj<|ag ei<|aA ⟨a,a',ys,gO,_,rfl,h2,sS,h3,QY,q⟩
theorem Fw{a b t' a' b':Addr}{E':XK}(A:jZ H t a b l cs tl)(B:jZ H t' a' b' l cs tl)(ej:σ[j]?=some (some<|.ref t))(ei:σ[i]?=some (some<|.ref b'))(q:∀H',av H H'->Q (.bl true) H'):aW Γ [(.ix (.v j)<|.c<|.int 1),.v i] σ H λvs H1=>rq vs H1 Q E':=by
 obtain⟨ys,zs,us,zq⟩:=qx3 A;obtain⟨h1,h2,h3,h4,h5,h6⟩:=qa6 zq;obtain⟨gO,dg,wL,zq⟩:=qx3 B;obtain⟨nH,sS,QY,QZ,Q0,Fv⟩:=qa6 zq;rw[Q0.eq h5] at Fv;exact aj<|aQ<|ag ej<|au<|aH h1 rfl<|aj<|ag ei<|aA ⟨b,b',zs,dg,_,rfl,h4,QZ,h6,Fv,q⟩
inductive Fx(CP C:Addr)(vs:List V)(H:Hp)(Q:VK)(E:XK):Prop|i(p s lt lb lf hd c1 c2:Addr)(x:Str)(k:Nat)(xs:List V)(cs:List Cu)(tl:List Str)(_:vs=[.ref p,.str x,.ref hd])(_:cq CP C H p s lt lb lf x.cps.toList k)(_:good x)(_:x.length<=1400)(_:H hd=some (.lst [.ref c1,.ref c2]))(_:eR H c1 x.length xs cs)(_:fE H c2 tl)(_:(∀t∈tl,t.length<=4))(_:tl.length=cs.length)(_:c1≠c2)(_:hd≠c1)(_:hd≠c2)(_:(c1≠lt/\c1≠lb/\c1≠lf))(_:(c2≠lt/\c2≠lb/\c2≠lf))(_:∀H',(∀b o,H b=some o->b≠c1->b≠c2->H' b=some o)->Q (.bl true) H')
abbrev Q2(K:Frag)(CP C:Addr)(E:XK):bo:=aL K [("_law_due",uf),("entered",mq CP C),("_law_same",qP),("_law_alike",rq)] [] (E:=E)
theorem wM(h:ak Γ a σ H λx H1=>oj Γ.K .list [x] H1 Q):ak Γ (.blt .list [a]) σ H Q:=h
theorem Q3(h:ak Γ o σ H λx H1=>rZ Γ.K "list" x H1/\p9 Γ.K .clear x [] H1 Q):ak Γ (.bq .clear o []) σ H Q:=h
theorem ahv(c:Cu):Apart [c]:=nofun
theorem ahw:good "x":=QK (by decide+kernel) (by decide+kernel)
theorem ahx:good "ab":=QK (by decide+kernel) (by decide+kernel)
theorem ahy(a:good x)(b:good y)(h:x.length+y.length<=1000000):good (x++y):=afN (vH a.2 b.2) (by rw[jg];exact h)
theorem ahz:cI (Fx CP C) (λE=>Q2 K CP C E) dw iI:=by
 intro vs H Q E h;obtain⟨p,s,lt,lb,lf,hd,c1,c2,x,k,xs,cs,tl,rfl,P,gx,lx,hh,Cs,Ts,t4,eB,jT,Aq,wN,Q4,Fy,q⟩:=h;have ll:=len_list x;have oc:=Cs.o;have lcs:xs.length=cs.length:=Paired.length Cs.c;obtain⟨t0,tr,rfl⟩:∃t0 tr,tl=t0::tr:=by
  cases tl with
  |nil=>exact absurd eB (by show ¬0=cs.length;lia)
  |cons t0 tr=>exact⟨t0,tr,rfl⟩
 have g0:=Ts.g t0 (.head _);have Q5:=t4 t0 (.head _);have h0:dE ((t0::tr).map V.str) 0=some (.str t0):=jz (j:=0) rfl;have lx1:("x":Str).length=1:=by decide+kernel
 refine O_<|bp<|aQ<|aQ<|ag rfl<|au<|cB hh (i:=1) rfl<|au<|cB Ts.h h0<|au ⟨bY (by lia),?_⟩
 refine aQ<|ag rfl<|au<|cB hh (i:=1) rfl<|au ⟨c2,_,0,0,rfl,rfl,Ts.h,?_,?_⟩
 ·unfold gN;rw[if_pos<|zaE _,if_pos (by rw[zah,zau];lia)];rfl
 have b1:aR c2 H (upd H c2<|.lst<|((t0++"x")::tr).map V.str):=aR.upd;have T1:fE (upd H c2 (.lst (((t0++"x")::tr).map V.str))) c2 ((t0++"x")::tr):=⟨aw,λt ht=>by
  rcases zaa.mp ht with rfl|ht
  ·exact⟨ahy g0.1 ahw (by lia),by rw[jg];lia⟩
  ·exact Ts.g t (.tail _ ht)⟩
 have P1:=P.but Ts.h Fy b1;have C1:=Cs.but jT Ts.h b1;have oX:=b1 _ _ hh wN;show aE (Q2 K CP C E) _ _ _ (upd H c2<|.lst<|((t0++"x")::tr).map V.str);generalize upd H c2 (.lst<|((t0++"x")::tr).map V.str)=H1 at b1 T1 P1 C1 oX⊢;have e1:((t0++"x")::tr).length=cs.length:=eB;generalize (t0++"x")::tr=tl at T1 e1⊢;refine zX<|aP uf rfl<|aj<|ag rfl<|aj<|wM<|aQ<|ag rfl<|au<|cB oX (i:=0) rfl ⟨_,.inl<|ar.of C1.h,λd1 f1=>?_⟩;have s2:=sameNew (o:=.lst xs) f1;have D2:eR (upd H1 d1<|.lst xs) d1 x.length xs cs:=⟨aw,C1.c.same s2,C1.i,C1.o,C1.m,C1.a⟩;generalize upd H1 d1 (.lst xs)=H2 at s2 D2⊢;refine aj<|wM<|aQ<|ag rfl<|au<|cB (s2 _ _ oX) (i:=1) rfl ⟨_,.inl<|ar.of<|s2 _ _ T1.h,λd2 f2=>?_⟩;have s3:=sameNew (o:=.lst (tl.map V.str)) f2;have D3:fE (upd H2 d2<|.lst<|tl.map V.str) d2 tl:=⟨aw,T1.g⟩;have Q6:=s2.trans s3;generalize upd H2 d2 (.lst<|tl.map V.str)=H3 at s3 D3 Q6⊢;refine aA ⟨x,d1,d2,xs,cs,tl,rfl,gx,lx,D2.same s3,D3,e1,λv H4 s4 G4=>?_⟩;obtain⟨t3,a3,a4,rfl,_,_,A4⟩:=G4.at;obtain⟨_,_,_,gU,_⟩:=id A4;refine t_ gU ?_;have gm:=Q6.trans s4;have ent:∀{cs:List Cu}{tl:List Str}{xs:List V}{H1:Hp}{Q1:VK},cq CP C H1 p s lt lb lf x.cps.toList k->eR H1 c1 x.length xs cs->fE H1 c2 tl->tl.length=cs.length->(∀t a b H',av H1 H'->jZ H' t a b x.cps.toList cs tl->Q1 (.ref t) H')->mq CP C [.ref p,.ref c1,.ref c2] H1 Q1 E:=λP Cs Ts e kk=>⟨p,s,lt,lb,lf,c1,c2,_,k,_,_,_,rfl,P,by lia,gx.2,by rw[<-ll];exact Cs,Ts,e,λv H' s' G=>by
  obtain⟨t,a,b,rfl,_,_,A⟩:=G.at;exact kk t a b H' s' A⟩
 refine CA<|aP (mq CP C) rfl<|aj<|ag rfl<|aj<|aQ<|ag rfl<|au<|cB (gm _ _ oX) (i:=0) rfl<|aj<|aQ<|ag rfl<|au<|cB (gm _ _ oX) (i:=1) rfl<|aA<|ent (P1.same gm) (C1.same gm) (T1.same gm) e1 λt5 a5 b5 H5 s5 A5=>?_;have ug:=A4.same s5;refine YS<|gG<|cc<|fW qP rfl<|Fu A5 ug rfl rfl λH6 s6=>d_ (iF ?_ rfl);refine cc<|fW rq rfl<|Fw (A5.same s6) (ug.same s6) rfl rfl λH7 s7=>d_ (iF (cf ?_) rfl);have wO:=((gm.trans s5).trans s6).trans s7;have Fz:=wO _ _ oX;have C7:=C1.same wO;have T7:=T1.same wO;have P7:=P1.same wO;obtain⟨xi,xl,rfl⟩:∃xi xl,xs=xi++[xl]:=by
  have cP:xs≠ []:=λz=>by rw[z] at lcs;exact absurd lcs (by show ¬0=cs.length;lia)
  exact⟨_,_,(List.dropLast_concat_getLast cP).symm⟩
 have oT:(xi++[xl])[xi.length]?=some xl:=by simp
 obtain⟨c,hc,tc,rfl,wQ⟩:=iA C7.c oT;have hci:=C7.i c (zaj hc);have wQ:H7 tc=some (.tup [.int c.1,.int c.2.1,gV c.2.2]):=wQ;refine CA<|aQ<|aQ<|ag rfl<|au<|cB Fz (i:=0) rfl<|q_<|cB C7.h (Hn _ _) ?_;refine dA<|Q3<|aQ<|ag rfl<|au<|cB Fz (i:=0) rfl ⟨.inl ⟨rfl,_,ar.of C7.h⟩,_,C7.h,?_⟩;have b8:aR c1 H7 (upd H7 c1<|.lst []):=aR.upd;have h8:upd H7 c1 (.lst []) c1=some (.lst []):=aw;have FA:=b8 _ _ Fz Aq;have T8:fE (upd H7 c1<|.lst []) c2 tl:=⟨b8 _ _ T7.h<|Ne.symm jT,T7.g⟩;have P8:=P7.but C7.h Q4 b8;have Ar:=b8 _ _ wQ (λz=>by rw[z,C7.h] at wQ;cases wQ)
 generalize upd H7 c1 (.lst [])=H8 at b8 h8 FA T8 P8 Ar⊢;refine dA<|fu<|aQ<|ag rfl<|au<|cB FA (i:=0) rfl ⟨.inl ⟨rfl,_,ar.of h8⟩,ag rfl ⟨_,h8,cX<|zqZ _,?_⟩⟩;have b9:aR c1 H8 (upd H8 c1<|.lst<|[]++[.ref tc]):=aR.upd;have h9:upd H8 c1 (.lst<|[]++[.ref tc]) c1=some (.lst [.ref tc]):=aw;have FC:=b9 _ _ FA Aq;have T9:fE (upd H8 c1<|.lst<|[]++[.ref tc]) c2 tl:=⟨b9 _ _ T8.h<|Ne.symm jT,T8.g⟩;have P9:=P8.but h8 Q4 b9;have As:=b9 _ _ Ar (λz=>by rw[z,h8] at Ar;cases Ar)
 generalize upd H8 c1 (.lst<|[]++[.ref tc])=H9 at b9 h9 FC T9 P9 As⊢;refine dA<|Q3<|aQ<|ag rfl<|au<|cB FC (i:=1) rfl ⟨.inl ⟨rfl,_,ar.of T9.h⟩,_,T9.h,?_⟩;have bA:aR c2 H9 (upd H9 c2<|.lst []):=aR.upd;have hA:upd H9 c2 (.lst []) c2=some (.lst []):=aw;have FD:=bA _ _ FC wN;have Q7:=bA _ _ h9 jT;have PA:=P9.but T9.h Fy bA;have Au:=bA _ _ As (λz=>by rw[z,T9.h] at As;cases As)
 generalize upd H9 c2 (.lst [])=HA at bA hA FD Q7 PA Au⊢;refine dA<|fu<|aQ<|ag rfl<|au<|cB FD (i:=1) rfl ⟨.inl ⟨rfl,_,ar.of hA⟩,au ⟨_,hA,cX<|zqZ _,?_⟩⟩;have bB:aR c2 HA (upd HA c2<|.lst<|[]++[.str "ab"]):=aR.upd;have TB:fE (upd HA c2<|.lst<|[]++[.str "ab"]) c2 ["ab"]:=⟨aw,λt ht=>by rw[zad.mp ht];exact⟨ahx,by decide+kernel⟩⟩
 have FE:=bB _ _ FD wN;have Q8:=bB _ _ Q7 jT;have PB:=PA.but hA Fy bB;have FF:=bB _ _ Au (λz=>by rw[z,hA] at Au;cases Au)
 generalize upd HA c2 (.lst<|[]++[.str "ab"])=HB at bB TB FE Q8 PB FF⊢;have one:∀{a:Addr}{H1:Hp},H1 a=some (.lst [.ref tc])->iz H1 tc c.1 c.2.1 c.2.2->eR H1 a x.length [.ref tc] [c]:=λh ht=>⟨h,.cons ⟨tc,rfl,ht⟩ .nil,λd hd=>by rw[zad.mp hd];exact hci,zqR _,(by show 1<=40;decide),ahv c⟩
 refine zX<|aP uf rfl<|aj<|ag rfl<|aj<|cA<|aj<|ag rfl<|aA ⟨dR,λd1 f1=>?_⟩;have sC:=sameNew (o:=.lst [V.ref tc]) f1;have kO:upd HB d1 (.lst [V.ref tc]) d1=some (.lst [V.ref tc]):=aw;generalize upd HB d1 (.lst [V.ref tc])=HC at sC kO⊢;refine aj<|cA<|aj<|au<|aA ⟨dR,λd2 f2=>?_⟩;have sD:=sameNew (o:=.lst [V.str "ab"]) f2;have TD:fE (upd HC d2<|.lst [V.str "ab"]) d2 ["ab"]:=⟨aw,TB.g⟩;have FG:=sC.trans sD;generalize upd HC d2 (.lst [V.str "ab"])=HD at sD TD FG⊢;refine aA ⟨x,d1,d2,_,[c],["ab"],rfl,gx,lx,one (sD _ _ kO)<|FG _ _ FF,TD,rfl,λv HE sE G=>?_⟩;obtain⟨FH,a3',a4',rfl,_,_,AE⟩:=G.at;obtain⟨_,_,_,E4,_⟩:=id AE;refine t_ E4 ?_;have rG:=FG.trans sE;refine CA<|aP (mq CP C) rfl<|aj<|ag rfl<|aj<|aQ<|ag rfl<|au<|cB (rG _ _ FE) (i:=0) rfl<|aj<|aQ<|ag rfl<|au<|cB (rG _ _ FE) (i:=1) rfl<|aA<|ent (PB.same rG) (one (rG _ _ Q8)<|rG _ _ FF) (TB.same rG) rfl λt5 a5 b5 HF sF AF=>?_;have Q9:=AE.same sF;refine bP<|iP<|aP qP rfl<|Fu AF Q9 rfl rfl λHG sG=>⟨_,rfl,iT ?_ rfl⟩;refine o8<|aP rq rfl<|Fw (AF.same sG) (Q9.same sG) rfl rfl λHH sH=>q _ λb o e m1 m2=>?_;exact sH _ _<|sG _ _<|sF _ _<|rG _ _<|bB _ _ (bA _ _ (b9 _ _ (b8 _ _ (wO _ _<|b1 _ _ e m2) m1) m1) m2) m2
variable {T:Addr}{r:List Nat}{hs:List V}
def FI(CP C:Addr)(H:Hp)(p:Addr)(r:List Nat):Prop:= ∃dp s dx lt lb lf v t ts,eL CP H p dp s v t (aF ts)/\dC C H s dx lt lb lf ts/\N.txt (aF ts) t.aC=r/\t.aC.length<=1000/\ts.length<=10000/\(aF ts).length<=500000/\r.length<=1000000
theorem cq.tx(P:cq CP C H p s lt lb lf l k):FI CP C H p l:=by
 obtain⟨dp,dx,v,t,ts,A,S,e,c1,c2,c3,c4,c5⟩:=P;exact⟨dp,s,dx,lt,lb,lf,v,t,ts,A,S,e,by lia,by lia,by lia,by lia⟩
theorem FJ(X:FI CP C H p r)(q:∀H',av H H'->Q (.str ⟨r.toArray⟩) H'):∃p' dx fs,V.ref p=.ref p'/\H p'=some (.ins CP dx fs)/\fs.lookup ("text":Str)=none/\q8 CP C [.ref p] H Q E':=by
 obtain⟨dp,s,dx,lt,lb,lf,v,t,ts,zq⟩:=qx9 X;obtain⟨A,S,er,c1,c2,c3,c4⟩:=qa7 zq;refine⟨p,dp,_,rfl,A.ob,wz,p,dp,s,dx,lt,lb,lf,v,t,ts,rfl,A,S,c1,c2,c3,by lia,λH' s'=>?_⟩
 unfold tx;rw[er];exact q _ s'
theorem ahB{a:Addr}(P:cq CP C H p s lt lb lf l k)(hk:k<=3)(ha:H a=some (.lst ys))(na:a≠lt/\a≠lb/\a≠lf)(pv:bc H ys ps)(ok:∀q∈ps,jc q)(ch:chainOk "" ps=true)(run:Run l ps r)(lr:r.length<=50000)(lp:ps.length<=400)
  (q:∀p' H',gF s lt lb lf H H'->cq CP C H' p s lt lb lf l (k+1)->FI CP C H' p' r->Q (.ref p') H'):tY CP C [.ref p,.ref a] H Q E':=by
 obtain⟨dp,dx,v,t,ts,A,S,rfl,c1,c2,c3,c4,c5⟩:=P;refine⟨p,dp,s,dx,lt,lb,lf,a,v,t,ts,ys,ps,r,rfl,A,S,by lia,by lia,by lia,by lia,ha,na.1,na.2.1,na.2.2,pv,ok,ch,run,λp' o6 v' t' us H' b _ S' A' er l1 l2 l3=>?_⟩
 refine q p' H' b ⟨dp,dx,v,t,ts++us,?_,S',?_,c1,?_,?_,c4,by lia⟩ ⟨o6,s,dx,lt,lb,lf,v',t',ts++us,A',S',er,by lia,?_,?_,by lia⟩
 ·rw[iy];exact(A.but S b).grow _
 ·rw[iy,zN A.pc]
 ·rw[zqA];lia
 ·rw[iy,zqA];lia
 ·rw[zqA];lia
 ·rw[iy,zqA];lia
theorem FK(H:Hp):∀tl:List Str,IsL H (tl.map PyData.str) (tl.map V.str)
 |[]=>rfl
 |t::r=>⟨_,_,rfl,rfl,FK H r⟩
theorem Q_:∀(tl:List Str),(∀t∈tl,good t)->PyData.canLayAll0 (tl.map PyData.str)=true/\PyData.depthAll (tl.map PyData.str)<=1
 |[],_=>⟨rfl,zqZ _⟩
 |t::r,h=>by
  obtain⟨c,d⟩:=Q_ r λt ht=>h t (.tail _ ht);refine⟨?_,?_⟩
  ·show(PyData.strOk t && PyData.canLayAll0 (r.map PyData.str))=true;rw[DJ (h t<|.head _).2,c];rfl
  ·show max 0 (PyData.depthAll<|r.map PyData.str)<=1;lia
theorem ahC(cs:List Cu)(h:∀t∈tl,good t):SeqAt.shaped (.list [.list<|cs.map cD,.list<|tl.map PyData.str])=true:=by
 obtain⟨c,d⟩:=Q_ tl h;obtain⟨c2,d2⟩:=E5 cs;unfold SeqAt.shaped;have e:(PyData.list [.list<|cs.map cD,.list<|tl.map PyData.str]).canLay0=true:=by
  show(PyData.canLayAll0 (cs.map cD) && (PyData.canLayAll0 (tl.map PyData.str) && true))=true;rw[c,c2];rfl
 have e2:(PyData.list [.list<|cs.map cD,.list<|tl.map PyData.str]).depth<=64:=by
  show max (PyData.depthAll (cs.map cD)+1) (max (PyData.depthAll (tl.map PyData.str)+1) 0)+1<=64;lia
 rw[e,zqT e2];rfl
theorem ahD{v a b a' b':Addr}(hg:∀t∈tl,good t)(hu:H u=some (.lst [.ref a,.ref b]))(hv:H v=some (.lst [.ref a',.ref b']))(ha:H a=some (.lst xs))(Dr:H a'=some (.lst xs))(c:bS H xs cs)(hb:H b=some (.lst<|tl.map V.str))(lH:H b'=some (.lst<|tl.map V.str))(q:Q (.bl false) H):bX K .NotEq (.ref u) (.ref v) H Q:=by
 have sh:=ahC cs hg;refine⟨.list [.list<|cs.map cD,.list<|tl.map PyData.str],.list [.list<|cs.map cD,.list<|tl.map PyData.str],⟨u,_,rfl,hu,⟨_,_,rfl,⟨a,xs,rfl,ha,rA c⟩,⟨_,_,rfl,⟨b,_,rfl,hb,FK H tl⟩,rfl⟩⟩⟩,⟨v,_,rfl,hv,⟨_,_,rfl,⟨a',xs,rfl,Dr,rA c⟩,⟨_,_,rfl,⟨b',_,rfl,lH,FK H tl⟩,rfl⟩⟩⟩,sh,sh,?_⟩;rw[SeqAt.eqv_refl _<|SeqAt.canLay_of_shaped sh];exact q
theorem wR(x:bS H vs cs)(t:eI H H'):bS H' vs cs:=Paired.fZ x λ_ _ ⟨a,e,h⟩=>⟨a,e,t _ _ h⟩
def fX(T s lt lb lf:Addr)(H H':Hp):Prop:= ∀z o,H z=some o->z≠T->z≠s->z≠lt->z≠lb->z≠lf->H' z=some o
theorem fX.cz(b:fX T s lt lb lf H H')(hT:H T=some (.lst hs))(P:cq CP C H p s lt lb lf l k):eI H H':=λy us e=>by
 obtain⟨⟨_,h1⟩,⟨_,h2⟩,⟨_,h3⟩,_,_,_,h4⟩:=P.lists;exact b _ _ e (λz=>by lia) (λz=>by lia) (λz=>by lia) (λz=>by lia) (λz=>by lia)
abbrev Off(T lt lb lf a:Addr):Prop:=a≠T/\a≠lt/\a≠lb/\a≠lf
theorem fX.lst(b:fX T s lt lb lf H H')(P:cq CP C H p s lt lb lf l k){a:Addr}(n:Off T lt lb lf a)(h:H a=some (.lst ys)):H' a=some (.lst ys):=by
 obtain⟨_,_,_,_,_,_,h4⟩:=P.lists;exact b _ _ h n.1 (λz=>by lia) n.2.1 n.2.2.1 n.2.2.2
def e8(Z:List Addr)(H:Hp)(v:V):Prop:= ∃(t a b:Addr) (ys zs:List V),v=.ref t/\H t=some (.tup [.ref a,.ref b])/\a∉Z/\b∉Z/\H a=some (.lst ys)/\H b=some (.lst zs)/\((∃ps,bc H ys ps/\bc H zs ps/\∀p∈ps,lV p)\/∃cs,bS H ys cs/\bS H zs cs)
variable {Z:List Addr}
theorem e8.keep(h:e8 Z H v)(tb:eI H H')(kl:∀a ys,a∉Z->H a=some (.lst ys)->H' a=some (.lst ys)):e8 Z H' v:=by
 obtain⟨t,a,c,ys,zs,zq⟩:=qx5 h;obtain⟨e,h1,h2,h3,h4,h5,h6⟩:=qa7 zq;refine⟨t,a,c,ys,zs,e,tb _ _ h1,h2,h3,kl _ _ h2 h4,kl _ _ h3 h5,?_⟩;rcases h6 with⟨ps,k1,k2,k3⟩|⟨cs,k1,k2⟩
 ·exact .inl ⟨ps,k1.mono tb,k2.mono tb,k3⟩
 ·exact .inr ⟨cs,wR k1 tb,wR k2 tb⟩
theorem e8.same(h:e8 Z H v)(s:av H H'):e8 Z H' v:=h.keep (aY s) λ_ _ _ e=>s _ _ e
theorem e8.more(h:e8 Z H v)(f:H c=none):e8 (c::Z) H v:=by
 obtain⟨t,a,b,ys,zs,zq⟩:=qx5 h;obtain⟨e,h1,h2,h3,h4,h5,h6⟩:=qa7 zq;refine⟨t,a,b,ys,zs,e,h1,λhm=>?_,λhm=>?_,h4,h5,h6⟩
 ·rcases zaa.mp hm with z|z
  ·rw[z,f] at h4;cases h4
  ·exact h2 z
 ·rcases zaa.mp hm with z|z
  ·rw[z,f] at h5;cases h5
  ·exact h3 z
theorem e8.less(h:e8 (c::Z) H v):e8 Z H v:=by
 obtain⟨t,a,b,ys,zs,zq⟩:=qx5 h;obtain⟨e,h1,h2,h3,h4⟩:=qa5 zq;exact⟨t,a,b,ys,zs,e,h1,λhm=>h2<|.tail _ hm,λhm=>h3<|.tail _ hm,h4⟩
theorem fX.kl(b:fX T s lt lb lf H H')(P:cq CP C H p s lt lb lf l k)(hz:∀a∈ [T,lt,lb,lf],a∈Z):∀a ys,a∉Z->H a=some (.lst ys)->H' a=some (.lst ys):=λa ys n e=>
 b.lst P ⟨λz=>n<|hz a (by simp[z]),λz=>n<|hz a (by simp[z]),λz=>n<|hz a (by simp[z]),λz=>n<|hz a (by simp[z])⟩ e
theorem ahE(h0:σ[j]?=some (some<|.ref T))(hL:H T=some (.lst hs))(hh:∀y∈hs,e8 Z H y)(kk:∀r H',H' r=some (.lst [])->Q (.ref r) H'):
  ak Γ (.comp (some 2) [] .list [.v j] (some<|.cmp .NotEq (.v 0)<|.v 1)<|.v 0) σ H Q:=by
 refine⟨_,h0,T,rfl,⟨_,ar.of hL⟩,λi m ys H2=>m=hs.length - i/\i<=hs.length/\ys=[]/\H2=H,⟨_,rfl,zqZ _,rfl,rfl⟩,?_⟩;rintro i m ys H2 ⟨rfl,hi,rfl,rfl⟩;by_cases aU:i<hs.length
 ·refine .inr ⟨⟨hs,hs[i],ar.of hL,by simp⟩,?_⟩
  rintro y H3 ⟨rfl,hx⟩;obtain⟨t,a,b,ys,zs,zq⟩:=qx5 (hh y (zaj<|hx hs<|ar.of hL));obtain⟨rfl,ht,na,nb,ha,hb,h⟩:=qa7 zq;refine⟨t,_,rfl,aM.of ht,rfl,?_⟩;have fin:∃m',m'<hs.length - i/\m'=hs.length - (i+1)/\i+1<=hs.length/\([]:List V)=[]/\H3=H3:=⟨hs.length - (i+1),by lia,rfl,aU,rfl,rfl⟩
  rcases h with⟨ps,k1,k2,k3⟩|⟨cs,k1,k2⟩
  ·exact b_ (ag rfl<|ag rfl<|B.adk ha hb k1 k2 k3 ⟨_,rfl,fin⟩)
  ·exact b_ (ag rfl<|ag rfl<|agD ha hb k1 k2 ⟨_,rfl,fin⟩)
 ·have ip:i=hs.length:=by lia
  subst ip;exact .inl ⟨⟨hs,ar.of hL,zqR _⟩,λq hq=>kk q _ aw⟩
theorem Ra(b:aR T H H'):fX T s lt lb lf H H':=λz o e n _ _ _ _=>b z o e n
theorem ahF(b:gF s lt lb lf H H'):fX T s lt lb lf H H':=λz o e _ n1 n2 n3 n4=>b z o e n1 n2 n3 n4
theorem av.z(b:av H H'):fX T s lt lb lf H H':=λz o e _ _ _ _ _=>b z o e
theorem fX.trans(a:fX T s lt lb lf H H')(b:fX T s lt lb lf H' H2):fX T s lt lb lf H H2:=λz o e n1 n2 n3 n4 n5=>b z o (a z o e n1 n2 n3 n4 n5) n1 n2 n3 n4 n5
theorem jZ.keep(A:jZ H t a b l cs tl)(tb:eI H H')(ha:∀ys,H a=some (.lst ys)->H' a=some (.lst ys))(hb:∀ys,H b=some (.lst ys)->H' b=some (.lst ys)):jZ H' t a b l cs tl:=by
 obtain⟨ys,zs,us,zq⟩:=qx3 A;obtain⟨h1,h2,h3,h4,h5,h6⟩:=qa6 zq;exact⟨ys,zs,us,tb _ _ h1,ha _ h2,h3.mono tb,hb _ h4,h5,wR h6 tb⟩
theorem eR.keep{a:Addr}(A:eR H a n xs cs)(tb:eI H H')(ha:∀ys,H a=some (.lst ys)->H' a=some (.lst ys)):eR H' a n xs cs:=⟨ha _ A.h,wR A.c tb,A.i,A.o,A.m,A.a⟩
theorem cq.ob(P:cq CP C H p s lt lb lf l k):∃dp v,H p=some (.ins CP dp<|jm s v):=by
 obtain⟨dp,dx,v,t,ts,A,_⟩:=qx5 P;exact⟨dp,v,A.ob⟩
theorem cq.off(P:cq CP C H p s lt lb lf l k)(hT:H T=some (.lst hs)){a:Addr}(f:H a=none):Off T lt lb lf a:=⟨rC hT f,P.fr f⟩
theorem FL(al:∀z∈Z,∃o,H z=some o)(f:H a=none):a∉Z:=λh=>by
 obtain⟨o,e⟩:=al a h;rw[f] at e;cases e
theorem Rb{a:Addr}{us:List V}{rs:List RS}(al:∀z∈Z,∃o,H z=some o)(mT:T∈Z)(hT:H T=some (.lst hs))(lh:hs.length<=100)(hd:∀y∈hs,e8 Z H y)(e4:σ[4]?=some (some<|.ref T))(ej:σ[j]?=some (some<|.ref t))(ht:H t=some (.tup us))(hi:dE us i=some (.ref a))(ha:H a=some (.lst ys))(na:a∉Z)(kd:(∃ps,bc H ys ps/\∀p∈ps,lV p)\/∃cs,bS H ys cs)
  (q:∀v H',aR T H H'->H' T=some (.lst<|hs++[v])->(∀y∈hs++[v],e8 Z H' y)->aE Γ rs D σ H'):
  aE Γ (.drop (.bq .append (.v 4) [(.tup [(.ix (.v j)<|.c<|.int i),(.blt .list [(.ix (.v j)<|.c<|.int i)])])])::rs) D σ H:=by
 refine dA<|fu<|ag e4 ⟨.inl ⟨rfl,_,ar.of hT⟩,dY<|aj<|aQ<|ag ej<|au<|aH ht hi<|aj<|wM<|aQ<|ag ej<|au<|aH ht hi ⟨ys,.inl<|ar.of ha,λcp Rc=>?_⟩⟩;have s1:=sameNew (o:=.lst ys) Rc;have h1:upd H cp (.lst ys) cp=some (.lst ys):=aw;generalize upd H cp (.lst ys)=H1 at s1 h1⊢;refine aA ⟨cO,λt3 f3=>?_⟩;have s2:=sameNew (o:=.tup [V.ref a,V.ref cp]) f3;have h3:upd H1 t3 (.tup [V.ref a,V.ref cp]) t3=some (.tup [V.ref a,V.ref cp]):=aw;generalize upd H1 t3 (.tup [V.ref a,V.ref cp])=H2 at s2 h3⊢;have eE:=s1.trans s2;have Rf:=eE _ _ hT;have d2:e8 Z H2 (.ref t3):=by
  refine⟨t3,a,cp,ys,ys,rfl,h3,na,(FL al Rc),eE _ _ ha,s2 _ _ h1,?_⟩;rcases kd with⟨ps,k1,k2⟩|⟨cs,k1⟩
  ·exact .inl ⟨ps,k1.mono<|aY eE,k1.mono<|aY eE,k2⟩
  ·exact .inr ⟨cs,k1.same eE,k1.same eE⟩
 refine⟨hs,Rf,cX (by lia),?_⟩
 have b3:aR T H2 (upd H2 T<|.lst<|hs++[.ref t3]):=aR.upd;have FH:eI H2 (upd H2 T<|.lst<|hs++[.ref t3]):=λy us e=>b3 _ _ e (λz=>by lia)
 have kl:∀a ys,a∉Z->H2 a=some (.lst ys)->upd H2 T (.lst<|hs++[.ref t3]) a=some (.lst ys):=λa ys n e=>b3 _ _ e λz=>n (z ▸ mT);refine q (.ref t3) _ (λz o e n=>b3 _ _ (eE _ _ e) n) aw λy hy=>?_;rcases zae.mp hy with hy|hy
 ·exact((hd y hy).same eE).keep FH kl
 ·rw[zad.mp hy];exact d2.keep FH kl
theorem cq.ahH(P:cq CP C H p s lt lb lf l k){a c:Addr}(ha:H a=some (.lst ys))(hc:H c=some (.lst zs))(na:a≠lt/\a≠lb/\a≠lf)(nc:c≠lt/\c≠lb/\c≠lf)(b:∀z o,H z=some o->z≠a->z≠c->H' z=some o):cq CP C H' p s lt lb lf l k:=by
 obtain⟨dp,dx,v,t,ts,zq⟩:=qx5 P;obtain⟨A,S,e⟩:=qa3 zq;have ni:∀{z a:Addr}{o:HO}{ys:List V},H a=some (.lst ys)->H z=some o->(∀ys,o≠ .lst ys)->z≠a:=λha e h z=>by rw[z,ha] at e;cases e;exact h _ rfl
 have tb:eI H H':=λy us e=>b _ _ e (ni ha e nofun) (ni hc e nofun)
 exact⟨dp,dx,v,t,ts,⟨b _ _ A.ob (ni ha A.ob nofun) (ni hc A.ob nofun),A.nd.mono tb,A.ok,A.pc⟩,⟨b _ _ S.ob (ni ha S.ob nofun) (ni hc S.ob nofun),b _ _ S.tx (Ne.symm na.1)<|Ne.symm nc.1,b _ _ S.bg (Ne.symm na.2.1)<|Ne.symm nc.2.1,b _ _ S.fd (Ne.symm na.2.2)<|Ne.symm nc.2.2,S.n1,S.n2,S.n3⟩,e⟩
inductive ui(CP C:Addr)(vs:List V)(H:Hp)(Q:VK)(E:XK):Prop|i(p s lt lb lf lc lx T:Addr)(x:Str)(k:Nat)(xs hs:List V)(cs:List Cu)(tl:List Str)(_:vs=[.ref p,.str x,.ref lc,.ref lx,.ref T])(_:cq CP C H p s lt lb lf x.cps.toList k)(_:k<=3)(_:good x)(_:x.length<=1400)(_:eR H lc x.length xs cs)(_:fE H lx tl)(_:(∀t∈tl,t.length<=4))(_:tl.length=cs.length)(_:H T=some (.lst hs))(_:hs.length<=20)(_:(∀y∈hs,e8 [T,lt,lb,lf] H y))(_:(T≠lt/\T≠lb/\T≠lf))(_:∀gT H',fX T s lt lb lf H H'->cq CP C H' p s lt lb lf x.cps.toList (k+1)->H' T=some (.lst gT)->gT.length<=hs.length+2->(∀y∈gT,e8 [T,lt,lb,lf] H' y)->Q (.bl true) H')
abbrev GEl(K:Frag)(CP C:Addr)(E:XK):bo:=aL K [("_law_due",uf),("entered",mq CP C),("_law_same",qP),("_law_alike",rq),("_law_done",vL),("_law_again",Fx CP C)] [] [] [("text",CP,q8 CP C),("changed",CP,tY CP C)] (E:=E)
theorem Rg:(⟨x.cps.toList.toArray⟩:Str)=x:=rfl
theorem ahJ:cI (ui CP C) (λE=>GEl K CP C E) fS lT:=by
 intro vs H Q E h;obtain⟨p,s,lt,lb,lf,lc,lx,T,x,k,xs,hs,cs,tl,rfl,P,hk,gx,hl,Cs,Ts,t4,eB,hT,lh,hd,nT,q⟩:=h;have ll:=len_list x;have ci:∀c∈cs,c.1<=x.cps.toList.length/\c.2.1<=x.cps.toList.length:=by rw[<-ll];exact Cs.i
 obtain⟨o1,⟨r,run,lr⟩,o3,o4⟩:=Fh (l:=x.cps.toList) (by lia) gx.2 Cs.a ci Ts.g eB Cs.m (by lia)
 obtain⟨n1,n2,_⟩:=NU _ o1 o4;have n3:=NV (kS x.cps.toList<|cs.zip tl);rw[DF _ o1] at n3;have run':=N2 run;have FN:∀p∈jf (kS x.cps.toList<|cs.zip tl),lV p:=λp hp=>Pa (n2 p hp);refine zX<|aP uf rfl<|aj<|ag rfl<|aj<|ag rfl<|aj<|ag rfl<|aA ⟨x,lc,lx,xs,cs,tl,rfl,gx,hl,Cs,Ts,eB,λv H1 s1 G1=>?_⟩;obtain⟨t5,a5,b5,zq⟩:=qx3 G1.at;obtain⟨rfl,fa5,fb5,A1⟩:=qa4 zq;obtain⟨_,_,_,mh,_⟩:=id A1;have oa5:=P.off hT fa5;have ob5:=P.off hT fb5;refine t_ mh ?_;have C1:=Cs.same s1;have T1:=Ts.same s1;refine CA<|cA<|aj<|wM<|ag rfl ⟨xs,.inl<|ar.of C1.h,λc1 f1=>?_⟩;have s2:=sameNew (o:=.lst xs) f1;have iK:upd H1 c1 (.lst xs) c1=some (.lst xs):=aw;have Av:=(P.same s1).off (s1 _ _ hT) f1;generalize upd H1 c1 (.lst xs)=H2 at s2 iK⊢;have eE:=s1.trans s2;refine aj<|wM<|ag rfl ⟨_,.inl<|ar.of<|s2 _ _ T1.h,λc2 f2=>?_⟩;have s3:=sameNew (o:=.lst (tl.map V.str)) f2;have nX:upd H2 c2 (.lst<|tl.map V.str) c2=some (.lst<|tl.map V.str):=aw;have Aw:=(P.same eE).off (eE _ _ hT) f2;have jT:c1≠c2:=bf iK f2;have FO:=s3 _ _ iK;generalize upd H2 c2 (.lst<|tl.map V.str)=H3 at s3 nX FO⊢;have pE:=eE.trans s3;refine aA ⟨cO,λhn f3=>?_⟩;have s4:=sameNew (o:=.lst [V.ref c1,V.ref c2]) f3;have wU:upd H3 hn (.lst [V.ref c1,V.ref c2]) hn=some (.lst [V.ref c1,V.ref c2]):=aw;have ohn:=(P.same pE).off (pE _ _ hT) f3;have Aq:hn≠c1:=rC FO f3;have wN:hn≠c2:=rC nX f3;have Ax:=s4 _ _ FO;have wV:=s4 _ _ nX;have kU:=pE.trans s4;have A4:=A1.same ((s2.trans s3).trans s4);generalize upd H3 hn (.lst [V.ref c1,V.ref c2])=H4 at s4 wU Ax wV kU A4⊢;have C4:eR H4 c1 x.length xs cs:=⟨Ax,Cs.c.same kU,Cs.i,Cs.o,Cs.m,Cs.a⟩;have T4:fE H4 c2 tl:=⟨wV,Ts.g⟩;refine CA<|aP (mq CP C) rfl<|aj<|ag rfl<|aj<|aQ<|ag rfl<|au<|cB wU (i:=0) rfl<|aj<|aQ<|ag rfl<|au<|cB wU (i:=1) rfl<|aA ⟨p,s,lt,lb,lf,c1,c2,_,k,xs,cs,tl,rfl,P.same kU,by lia,gx.2,by rw[<-ll];exact C4,T4,eB,λv H5 s5 G5=>?_⟩
 obtain⟨t8,a8,b8,zq⟩:=qx3 G5.at;obtain⟨rfl,Rh,Ri,A5⟩:=qa4 zq;have P4:=P.same kU;have FP:=kU _ _ hT;have Rj:=P4.off FP Rh;have ob8:=P4.off FP Ri;obtain⟨_,_,_,Rk,_⟩:=id A5;have rF:=kU.trans s5;have ug:=A4.same s5;refine YS<|qS<|cc<|jk<|ag rfl<|ny Rk<|iF ?_ rfl;refine qS<|b_<|dj<|ag rfl<|.inr ⟨_,aM.of Rk,au<|nI ⟨_,rfl,iF ?_ rfl⟩⟩;refine Ef<|b_<|ag rfl<|cA<|aj<|ag rfl<|aj<|ag rfl<|aA ⟨cO,λu6 f6=>?_⟩;have s6:=sameNew (o:=.lst [V.ref lc,V.ref lx]) f6;have Rl:upd H5 u6 (.lst [V.ref lc,V.ref lx]) u6=some (.lst [V.ref lc,V.ref lx]):=aw;generalize upd H5 u6 (.lst [V.ref lc,V.ref lx])=H6 at s6 Rl⊢;have gp:=s5.trans s6;have qL:=kU.trans gp;refine ahD (λt ht=>(Ts.g t ht).1) (gp _ _ wU) Rl (gp _ _ Ax) (qL _ _ Cs.h) (Cs.c.same qL) (gp _ _ wV) (qL _ _ Ts.h) ⟨_,rfl,iF (cf ?_) rfl⟩;refine YS<|qS<|cc<|fW qP rfl<|Fu (A5.same s6) (ug.same s6) rfl rfl λH7 s7=>d_ (iF ?_ rfl);have FQ:=s6.trans s7;refine qS<|cc<|fW rq rfl<|Fw (A5.same FQ) (ug.same FQ) rfl rfl λH8 s8=>d_ (iF ?_ rfl);have Rm:=FQ.trans s8;have s08:=rF.trans Rm;have P8:=P.same s08;refine Ef<|b_<|qN CP (q8 CP C) rfl<|ag rfl<|FJ P8.tx λH9 s9=>?_;rw[Rg];refine ag rfl<|tK ⟨_,rfl,iF (cf ?_) (by simp)⟩
 have wW:=Rm.trans s9;have FR:=rF.trans wW;have P9:=P.same FR;have A9:=A5.same wW;have A9':=ug.same wW;have wX:=FR _ _ hT;obtain⟨y8,z8,w8,zq⟩:=qx3 (id A9);obtain⟨k1,k2,k3,k4,k5,k6⟩:=qa6 zq;have hd9:∀y∈hs,e8 [c2,c1,T,lt,lb,lf] H9 y:=λy hy=>((((((hd y hy).same s1).more f1).same s2).more f2).same<|s3.trans<|s4.trans<|s5.trans wW);have mm:∀a∈ [T,lt,lb,lf],a∈ [c2,c1,T,lt,lb,lf]:=λa h=>.tail _ (.tail _ h);have wY:=s5.trans wW;have Ay:∀z∈ [c2,c1,T,lt,lb,lf],∃o,H4 z=some o:=λz hz=>by
  obtain⟨⟨_,h1⟩,⟨_,h2⟩,⟨_,h3⟩,_⟩:=P4.lists
  simp only[zaa,zac,or_false] at hz
  rcases hz with rfl|rfl|rfl|rfl|rfl|rfl
  ·exact⟨_,wV⟩
  ·exact⟨_,Ax⟩
  ·exact⟨_,FP⟩
  ·exact⟨_,h1⟩
  ·exact⟨_,h2⟩
  ·exact⟨_,h3⟩
 refine Rb (λz hz=>(Ay z hz).imp λo e=>wY _ _ e) (by simp) wX (by lia) hd9 rfl rfl k1 (i:=0) rfl k2 (FL Ay Rh) (.inl ⟨_,k3,FN⟩) λv1 HA bA FT hdA=>?_
 have zA:fX T s lt lb lf H9 HA:=Ra bA;have tA:=zA.cz wX P9;have PA:=P9.but wX nT bA;refine Rb (λz hz=>?_) (by simp) FT (by rw[zqA];show _+1<=_;lia) hdA rfl rfl (tA _ _ k1) (i:=1) rfl (zA.lst P9 ob8 k4) (FL Ay Ri) (.inr ⟨_,wR k6 tA⟩) λv2 HB bB Az hdB=>?_
 ·by_cases e:z=T
  ·exact⟨_,by rw[e];exact FT⟩
  ·obtain⟨o,h⟩:=Ay z hz;exact⟨o,bA _ _ (wY _ _ h) e⟩
 have PB:=PA.but FT nT bB;have zB:fX T s lt lb lf H9 HB:=zA.trans (Ra bB);have tB:=zB.cz wX P9;have lsB:∀{a:Addr}{ys:List V},Off T lt lb lf a->H9 a=some (.lst ys)->HB a=some (.lst ys):=λn h=>zB.lst P9 n h;obtain⟨dp,vp,mH⟩:=PB.ob;refine bP<|iP<|eZ<|qN CP (q8 CP C) rfl<|DW CP (tY CP C) rfl<|ag rfl ⟨p,dp,_,rfl,mH,wz,aQ<|ag rfl<|au<|aH (tB _ _ k1) (i:=0) rfl<|ahB PB hk (lsB Rj k2) Rj.2 (k3.mono tB) n2 n1 run' lr (by lia) λp' HC bC PC XC=>?_⟩
 refine FJ XC λHD sD=>?_;have zC:fX T s lt lb lf HB HC:=ahF bC;have zD:fX T s lt lb lf H9 HD:=(zB.trans zC).trans (av.z sD);have tD:=zD.cz wX P9;have wZ:∀{a:Addr}{ys:List V},Off T lt lb lf a->H9 a=some (.lst ys)->HD a=some (.lst ys):=λn h=>zD.lst P9 n h;have AD:=A9'.keep tD (λ_=>wZ oa5) (λ_=>wZ ob5);obtain⟨yd,zd,ud,zq⟩:=qx3 (id AD);obtain⟨q1,q2,q3,q4,q5,q6⟩:=qa6 zq;refine aP vL rfl<|aj<|ag rfl<|aj<|ag rfl<|aA ⟨x,a5,yd,_,r,rfl,gx,q2,q3,λp hp=>Dp<|n2 p hp,run',by lia,qO ⟨_,rfl,iT ?_ (by simp)⟩⟩
 have CD:=(C4.same wY).keep tD (λ_=>wZ Av);have TD:fE HD c2 tl:=⟨wZ Aw<|wY _ _ wV,Ts.g⟩;have PD:=PC.same sD;have hTD:HD T=some (.lst<|hs++[v1]++[v2]):=by
  obtain⟨_,_,_,_,_,_,hss⟩:=PB.lists;exact sD _ _<|bC _ _ Az (λz=>by rw[z,hss] at Az;cases Az) nT.1 nT.2.1 nT.2.2
 have Rn:fX T s lt lb lf HB HD:=zC.trans (av.z sD);have A_:∀y∈hs++[v1]++[v2],e8 [c2,c1,T,lt,lb,lf] HD y:=λy hy=>(hdB y hy).keep (Rn.cz Az PB) (Rn.kl PB mm);refine o8<|aP (Fx CP C) rfl<|aj<|ag rfl<|aj<|ag rfl<|aj<|ag rfl<|aA ⟨p,s,lt,lb,lf,hn,c1,c2,x,k+1,xs,cs,tl,rfl,PD,gx,hl,wZ ohn<|wY _ _ wU,CD,TD,t4,eB,jT,Aq,wN,Av.2,Aw.2,λHE bE=>?_⟩;have tE:eI HD HE:=λy us e=>bE _ _ e (λz=>by rw[z,CD.h] at e;cases e) (λz=>by rw[z,TD.h] at e;cases e)
 refine q (hs++[v1]++[v2]) HE (λz o e m1 m2 m3 m4 m5=>?_) (PD.ahH CD.h TD.h Av.2 Aw.2 bE) (bE _ _ hTD (Ne.symm Av.1)<|Ne.symm Aw.1) (by rw[zqA,zqA];exact zqR _) λy hy=>?_
 ·exact bE _ _ (zD _ _ (FR _ _ e) m1 m2 m3 m4 m5) (bf (s1 _ _ e) f1) (bf (eE _ _ e) f2)
 ·exact((A_ y hy).keep tE λa ys n e=>bE _ _ e (λz=>n (by simp[z])) (λz=>n (by simp[z]))).less.less
theorem ahY(e:σ[j]?=some (some v)):mj Γ σ H0 (.lst [.v j]) λzs _=>zs=[v]:=λH1 Q s q=>cA (aj<|ag e<|aA ⟨dR,λa fa=>q a _ _ (sameNew fa) aw rfl⟩)
theorem ahZ:mj Γ σ H0 (.lst [.c v]) λzs _=>zs=[v]:=λH1 Q s q=>cA (aj<|au<|aA ⟨dR,λa fa=>q a _ _ (sameNew fa) aw rfl⟩)
theorem Ro{i m:Nat}{a:Addr}{at':Nat}(ei:σ[i]?=some (some<|.ref a))(ej:σ[j]?=some (some<|.int (at':Nat)))(em:σ[m]?=some (some v))(ha:H a=some (.lst xs))(hl:xs.length<=100):
  mj Γ σ H (.bin .Add (.bin .Add (.sl (.v i) none<|some<|.v j)<|.lst [.v m])<|.sl (.v i) (some<|.bin .Add (.v j)<|.c<|.int 1) none) λzs _=>zs=xs.take at'++[v]++xs.drop (at'+1):=λH1 Q s q=>by
 refine E9 (E9 (agN ei ha (E8 ej)) (ahY em) wu wu (λzs H e=>by rw[e,zaq];lia) (λzs H e=>by rw[e];show 1<=1000;decide)) (Qi ei ha (show Ev Γ σ (.bin .Add (.v j) (.c (.int 1))) (.int ((at'+1:Nat):Int)) from by
   have:=Qg (Γ:=Γ) (E8 ej) (ph (σ:=σ) (v:=.int 1))
   rwa [show((at':Nat):Int)+1=((at'+1:Nat):Int) by lia] at this)) (λzs H H' h _=>h) wu (λzs H ⟨ys,ws,e,e1,e2⟩=>by rw[e,e1,e2,zqA,zaq];show _+1<=_;lia) (λzs H e=>by rw[e,zao];lia) H1 Q s λw zs H' s' h ⟨ys,ws,e,⟨y1,y2,e1,e2,e3⟩,e4⟩=>q w zs H' s' h (by rw[e,e1,e2,e3,e4])
inductive FU(CP C:Addr)(vs:List V)(H:Hp)(Q:VK)(E:XK):Prop|i(p s lt lb lf lc lx:Addr)(l:List Nat)(k:Nat)(xs:List V)(cs:List Cu)(tl:List Str)(c:Int)(_:vs=[.ref p,.ref lc,.ref lx,.int c])(_:cq CP C H p s lt lb lf l k)(_:eR H lc l.length xs cs)(_:fE H lx tl)(_:tl.length=cs.length)(_:∀H',av H H'->Q (.bl true) H')
abbrev uj(K:Frag)(CP C:Addr)(E:XK):bo:=aL K [("_law_told",pk CP C)] [] [] [("size",CP,kQ CP)] (E:=E)
abbrev sR(p lc lx:Addr)(c:Int)(at' n:Nat)(od no:V)(bd:Addr):St:=[some<|.ref p,some<|.ref lc,some<|.ref lx,some<|.int c,some<|.int (at':Nat),some<|.int (n:Nat),some od,some no,some<|.ref bd]
theorem ah0(s:Str):(s==s)=true:=by simp
theorem ah1:cI (FU CP C) (λE=>uj K CP C E) d6 jK:=by
 intro vs H Q E h;obtain⟨p,s,lt,lb,lf,lc,lx,l,k,xs,cs,tl,c,rfl,P,Cs,Ts,eB,q⟩:=h;have lcs:xs.length=cs.length:=Paired.length Cs.c;have oc:=Cs.o;have wC:=Cs.m;have kA:(0:Int) < ((xs.length:Nat):Int):=by lia
 obtain⟨at',Rp⟩:=zbS (zax (c / 5) (show((xs.length:Nat):Int)≠0 by lia))
 have lat:=zaA (c / 5) kA;rw[Rp] at lat;have nK:at'<cs.length:=by lia
 refine CA<|bp<|bp<|ag rfl<|au<|wJ ⟨by decide,by decide⟩<|dj<|ag rfl<|.inl ⟨_,ar.of Cs.h,kW kA ?_⟩
 rw[Rp];refine CA<|wA P rfl (λQ1 q1=>ag rfl q1) ?_;generalize hn:l.length=n at*;have m5:=zax (c / 5) (show(5:Int)≠0 by decide)
 have l5:=zaA (c / 5) (show(0:Int) <5 by decide)
 refine CA<|Fs (P:=λv H=>mi v n H) (λv H H' h s=>h.same s) (λe he=>?_) (by decide) m5 l5 (λH1 Q1 q1=>bp<|bp<|ag rfl<|au<|wJ ⟨by decide,by decide⟩<|au<|kW (by decide) q1) λod H1 s1 hod=>?_
 ·simp only[zaa,zac,or_false] at he
  rcases he with rfl|rfl|rfl|rfl|rfl
  ·exact Qh ph (Qg (E8 rfl) ph) ph λH=>.inr ⟨0,rfl,zaE _,by lia,.inl<|.inr ⟨_,rfl,.inr (by lia)⟩⟩
  ·exact agH λH=>rfl
  ·exact agI
  ·exact agJ
  ·exact Qh ph ph ph λH=>.inl (.inl<|.inl ⟨_,rfl⟩)
 have m6:=zax (c / 5) (show(6:Int)≠0 by decide)
 have l6:=zaA (c / 5) (show(0:Int) <6 by decide)
 refine CA<|Fs (P:=lX) (λv H H' h s=>h.same s) (λe he=>?_) (by decide) m6 l6 (λH1 Q1 q1=>bp<|bp<|ag rfl<|au<|wJ ⟨by decide,by decide⟩<|au<|kW (by decide) q1) λno H2 s2 Bk=>?_
 ·simp only[zaa,zac,or_false] at he
  rcases he with rfl|rfl|rfl|rfl|rfl|rfl
  ·exact wI λH=>.inr rfl
  ·exact wI λH=>.inl ⟨_,rfl,by decide+kernel,by decide+kernel⟩
  ·exact wI λH=>.inr (Qj rfl)
  ·exact ahc λa H h=>.inr (lU h rfl)
  ·exact wI λH=>.inl ⟨_,rfl,by decide+kernel,by decide+kernel⟩
  ·exact ahd λa H h=>.inr (ny h rfl)
 have eE:=s1.trans s2;have T2:=Ts.same eE;refine CA<|Ro (xs:=tl.map V.str) (at':=at') rfl rfl rfl T2.h (by rw[zah];lia) H2 _ (av.refl _) λbd zs H3 s3 mZ ez=>?_
 subst ez;have pE:=eE.trans s3;have ah4:=Bk.same s3;have ah5:=hod.same (s2.trans s3);have P3:=P.same pE;have C3:=Cs.same pE;have T3:=Ts.same pE;have q3:∀H',av H3 H'->Q (.bl true) H':=λH' s'=>q _ (pE.trans s');have AA:((tl.map V.str).take at'++[no]++(tl.map V.str).drop (at'+1)).length=cs.length:=by
  rw[zqA,zqA,zaq,zao,zah];show min _ _+1+_=_;lia
 have fin:∀{Q1:VK}{w:Str}{σ:St}{H4:Hp},(∀H',av H4 H'->Q1 (.bl true) H')->∀H',av H4 H'->ak (uj K CP C E) (.c<|.str w) σ H' λy H5=>bX K .Eq (.str w) y H5 Q1:=λq H' s'=>au (qO (by rw[ah0];exact q _ s'))
 show aE (uj K CP C E) (d6.drop 5) (Dn Q) (sR p lc lx c at' n od no bd) H3;have Rq:mj (uj K CP C E) (sR p lc lx c at' n od no bd) H3 (.bin .Add (.v 8)<|.lst [(.c<|.str "a")]) λzs _=>zs=(tl.map V.str).take at'++[no]++(tl.map V.str).drop (at'+1)++[.str "a"]:=λH1 Q s q=>by
  refine E9 (agO rfl mZ) ahZ wu wu (λzs H e=>by rw[e,AA];lia) (λzs H e=>by rw[e];show 1<=1000;decide) H1 Q s λw zs H' s' h ⟨y1,y2,e,e1,e2⟩=>q w zs H' s' h (by rw[e,e1,e2])
 refine YS<|b_<|bp<|ag rfl<|au<|kW (by decide)<|au<|iN ⟨_,rfl,cZ (λ_=>?_)<|λ_=>cf ?_⟩
 ·refine bP (eZ<|aP (pk CP C) rfl<|aj<|ag rfl<|aj<|Ro (xs:=xs) (at':=at') rfl rfl rfl C3.h (by lia) H3 _ (av.refl _) λw zs H4 s4 hw ez=>aj (Rq H4 _ s4 λw2 Rr H5 s5 jl AG=>aA ?_))
  subst ez;have kR:=s4.trans s5;refine⟨p,s,lt,lb,lf,l,k,_,_,rfl,P3.same kR,.inl ⟨?_,fin λH' s'=>q3 _ (kR.trans s')⟩⟩;rw[hn];have hw5:H5 w=some (.lst (xs.take at'++od::xs.drop (at'+1))):=by rw[s5 _ _ hw];simp
  refine agK hw5 (λx hx=>?_)<|ah5.same kR;have C5:=C3.same kR;refine agP C5.c C5.i ?_;rcases zae.mp hx with h|h
  ·exact zcb h
  ·exact List.mem_of_mem_drop h
 refine YS<|b_<|bp<|ag rfl<|au<|kW (by decide)<|au<|iN ⟨_,rfl,cZ (λ_=>?_)<|λ_=>cf ?_⟩
 ·refine bP (eZ<|aP (pk CP C) rfl<|aj<|ag rfl<|aj<|ag rfl<|aj<|Rq H3 _ (av.refl _) λw2 Rr H5 s5 jl AG=>aA ?_);subst AG;refine⟨p,s,lt,lb,lf,l,k,_,_,rfl,P3.same s5,.inr ⟨lc,xs,cs,rfl,by rw[hn];exact C3.same s5,.inl ⟨.inr ⟨w2,_,rfl,jl,?_⟩,fin λH' s'=>q3 _ (s5.trans s')⟩⟩⟩
  rw[zqA,AA];show _+1≠_;lia
 refine YS<|b_<|bp<|ag rfl<|au<|kW (by decide)<|au<|iN ⟨_,rfl,cZ (λ_=>?_)<|λ_=>cf ?_⟩
 ·refine bP (eZ<|aP (pk CP C) rfl<|aj<|ag rfl<|aj<|ag rfl<|aj<|Qi (j:=1) rfl mZ ph H3 _ (av.refl _) λw2 Rr H5 s5 jl AG=>aA ?_);subst AG;refine⟨p,s,lt,lb,lf,l,k,_,_,rfl,P3.same s5,.inr ⟨lc,xs,cs,rfl,by rw[hn];exact C3.same s5,.inl ⟨.inr ⟨w2,_,rfl,jl,?_⟩,fin λH' s'=>q3 _ (s5.trans s')⟩⟩⟩
  rw[zao,AA];lia
 refine YS<|b_<|bp<|ag rfl<|au<|kW (by decide)<|au<|iN ⟨_,rfl,cZ (λ_=>?_)<|λ_=>cf ?_⟩
 ·refine bP (eZ<|aP (pk CP C) rfl<|aj<|ag rfl<|aj<|ag rfl<|aj ?_);refine aQ<|cA<|aj<|au<|aj<|au<|aj<|au<|aj<|lZ<|aj<|ag rfl<|aA ⟨_,.inl ⟨ar.of T3.h,λtt wG=>?_⟩⟩;have s4:=sameNew (o:=.tup (tl.map V.str)) wG;have Rt:upd H3 tt (.tup<|tl.map V.str) tt=some (.tup<|tl.map V.str):=aw;generalize upd H3 tt (.tup<|tl.map V.str)=H4 at s4 Rt⊢;refine aj<|aes λdd fdd=>aA ⟨RO,λll Ru=>?_⟩;have s5:=sameNew (o:=.dK []) fdd;have Rv:upd H4 dd (.dK []) dd=some (.dK []):=aw;generalize upd H4 dd (.dK [])=H5 at s5 Rv Ru⊢;have s6:=sameNew (o:=.lst [V.aB,V.str "a",V.int 1,V.ref tt,V.ref dd]) Ru;have iO:upd H5 ll (.lst [V.aB,V.str "a",V.int 1,V.ref tt,V.ref dd]) ll=some (.lst [V.aB,V.str "a",V.int 1,V.ref tt,V.ref dd]):=aw;have iC:=(s4.trans s5).trans s6;have Rw:=s6 _ _ (s5 _ _ Rt);have Rx:=s6 _ _ Rv;generalize upd H5 ll (.lst [V.aB,V.str "a",V.int 1,V.ref tt,V.ref dd])=H6 at s6 iO iC Rw Rx⊢;refine bp<|bp<|ag rfl<|au<|wJ ⟨by decide,by decide⟩<|au<|kW (by decide) ?_
  have go:∀v:V,gh .list v H6->aW (uj K CP C E) [] (sR p lc lx c at' n od no bd) H6 λvs H7=>pk CP C (.ref p:: .ref lc::v::vs) H7 (λz H8=>ak (uj K CP C E) (.c<|.str "deed") (sR p lc lx c at' n od no bd) H8 λy H9=>bX K .Eq z y H9 Q) E:=λv hv=>
   aA ⟨p,s,lt,lb,lf,l,k,_,_,rfl,P3.same iC,.inr ⟨lc,xs,cs,rfl,by rw[hn];exact C3.same iC,.inl ⟨.inl hv,fin λH' s'=>q3 _ (iC.trans s')⟩⟩⟩
  have c5:c / 5 % 5=0\/c / 5 % 5=1\/c / 5 % 5=2\/c / 5 % 5=3\/c / 5 % 5=4:=by lia
  rcases c5 with e|e|e|e|e<;>rw[e]
  ·exact cB iO rfl (go _ rfl)
  ·exact cB iO rfl (go _<|agQ rfl)
  ·exact cB iO rfl (go _<|Qj rfl)
  ·exact cB iO rfl (go _<|ny Rw rfl)
  ·exact cB iO rfl (go _<|adX Rx rfl)
 refine bP<|eZ<|aP (pk CP C) rfl<|aj<|ag rfl<|aj<|ag rfl<|aj<|ag rfl<|aA ⟨p,s,lt,lb,lf,l,k,_,_,rfl,P3,.inr ⟨lc,xs,cs,rfl,by rw[hn];exact C3,.inr ⟨bd,tl.take at',no,(tl.drop<|at'+1).map V.str,rfl,?_,?_,λt ht=>(Ts.g t<|zcb ht).1,ah4,fin q3⟩⟩⟩
 ·rw[mZ,List.map_take,List.map_drop];simp
 ·rw[<-AA,List.map_take,List.map_drop];simp
end
section
variable {K:Frag}{CP C:Addr}{H H' H0:Hp}{a p s lt lb lf lc lx T:Addr}{x:Str}{k:Nat}{Γ:bo}{σ:St}{Q:VK}{E:XK}{cs:List Cu}{tl:List Str}{xs hs:List V}{ns:List Int}
abbrev GL(K:Frag)(CP C:Addr)(E:XK):bo:=aL K [("_law_text",sZ),("_law_cell_at",ku K),("_law_size",DN),("_law_change",Fc),("_law_mixed",jN),("paper_of",Ex CP C),("_law_done",vL),("_law_settled",pe),("_law_drawn",Fq K),("_law_texts",jd K),("_law_entered",ui CP C),("_law_refused",FU CP C)] [] [] [("changed",CP,tY CP C),("text",CP,q8 CP C)] (E:=E)
structure LA (K:Frag) (CP C:Addr) (H0 H:Hp) (a p s lt lb lf lc lx T:Addr) (ns:List Int) (x:Str) (k:Nat) (xs hs:List V) (cs:List Cu) (tl:List Str):Prop where
 h0:ar K H0 a (ns.map V.int)
 s0:av H0 H
 f:H0 T=none/\H0 s=none/\H0 lt=none/\H0 lb=none/\H0 lf=none
 P:cq CP C H p s lt lb lf x.cps.toList k
 gx:good x
 FV:x.length<=1400
 Cs:eR H lc x.length xs cs
 Ts:fE H lx tl
 t4:∀t∈tl,t.length<=4
 eB:tl.length=cs.length
 hT:H T=some (.lst hs)
 lh:hs.length<=2*k
 hd:∀y∈hs,e8 [T,lt,lb,lf] H y
 nT:T≠lt/\T≠lb/\T≠lf
 oc:Off T lt lb lf lc
 ol:Off T lt lb lf lx
theorem LA.same(A:LA K CP C H0 H a p s lt lb lf lc lx T ns x k xs hs cs tl)(h:av H H'):LA K CP C H0 H' a p s lt lb lf lc lx T ns x k xs hs cs tl:=
 ⟨A.h0,A.s0.trans h,A.f,A.P.same h,A.gx,A.FV,A.Cs.same h,A.Ts.same h,A.t4,A.eB,h _ _ A.hT,A.lh,λy hy=>(A.hd y hy).same h,A.nT,A.oc,A.ol⟩
theorem LA.sc(A:LA K CP C H0 H a p s lt lb lf lc lx T ns x k xs hs cs tl):ar K H a (ns.map V.int):=A.s0.seq A.h0
theorem FW(A:LA K CP C H0 H a p s lt lb lf lc lx T ns x k xs hs cs tl)(hk:k<=3){l2:Addr}{t2:List Str}(T2:fE H l2 t2)(t4:∀t∈t2,t.length<=4)(e2:t2.length=cs.length)(q:∀gT H',LA K CP C H0 H' a p s lt lb lf lc lx T ns x (k+1) xs gT cs tl->Q (.bl true) H'):ui CP C [.ref p,.str x,.ref lc,.ref l2,.ref T] H Q E:=by
 have lh:=A.lh;refine⟨p,s,lt,lb,lf,lc,l2,T,x,k,xs,hs,cs,t2,rfl,A.P,hk,A.gx,A.FV,A.Cs,T2,t4,e2,A.hT,by lia,A.hd,A.nT,λgT H' z P' hT' l' nR=>q gT H' ?_⟩
 obtain⟨f1,f2,f3,f4,f5⟩:=A.f;exact⟨A.h0,λb o e=>z _ _ (A.s0 _ _ e) (bf e f1) (bf e f2) (bf e f3) (bf e f4)<|bf e f5,A.f,P',A.gx,A.FV,A.Cs.keep (z.cz A.hT A.P)<|λ_=>z.lst A.P A.oc,⟨z.lst A.P A.ol A.Ts.h,A.Ts.g⟩,A.t4,A.eB,hT',by lia,nR,A.nT,A.oc,A.ol⟩
abbrev sL(a:Addr)(x:Str)(u2:Option V)(p lc lx T:Addr)(u7:Option V):St:=[some<|.ref a,some<|.str x,u2,some<|.ref p,some<|.ref lc,some<|.ref lx,some<|.ref T,u7]
theorem ah9(A:LA K CP C H0 H a p s lt lb lf lc lx T ns x k xs hs cs tl)(hk:k<=3)(q:∀H',Q (.bl true) H'):aE (GL K CP C E) (dJ.drop 10) (Dn Q) (sL a x u2 p lc lx T u7) H:=by
 exact bP<|iP<|aP (ui CP C) rfl<|aj<|ag rfl<|aj<|ag rfl<|aj<|ag rfl<|aj<|ag rfl<|aj<|ag rfl<|aA<|FW A hk A.Ts A.t4 A.eB λgT H1 A1=>⟨_,rfl,iT (o8<|eZ<|ahE rfl A1.hT A1.hd λr8 H8 h8=>cA (aA ⟨zqZ _,λe9 f9=>agE (sameNew f9 _ _ h8) aw .nil .nil<|q _⟩)) rfl⟩
def FX:List RS:=[.ite (.or [(.not<|.call 11 [.v 3,.v 4,.v 5,(.call 4 [.v 7,(.c<|.int 6)])]),(.cmp .NotEq (.du 1 "text" (.v 3) [])<|.v 1)]) [.ret<|.c<|.bl false] []]
theorem ah_{c:Int}(A:LA K CP C H0 H a p s lt lb lf lc lx T ns x k xs hs cs tl)(q:∀H',LA K CP C H0 H' a p s lt lb lf lc lx T ns x k xs hs cs tl->av H H'->D.nx (sL a x u2 p lc lx T<|some<|.int c) H'):aE (GL K CP C E) FX D (sL a x u2 p lc lx T<|some<|.int c) H:=by
 refine YS<|gG<|cc<|fW (FU CP C) rfl<|aj<|ag rfl<|aj<|ag rfl<|aj<|ag rfl<|aj<|aP jN rfl<|aj<|ag rfl<|aj<|au<|aA ⟨_,_,rfl,aA ⟨p,s,lt,lb,lf,lc,lx,_,k,xs,cs,tl,_,rfl,A.P,(len_list x)▸A.Cs,A.Ts,A.eB,λH1 s1=>d_<|iF ?_ rfl⟩⟩
 have A1:=A.same s1;exact b_<|qN CP (q8 CP C) rfl<|ag rfl<|FJ A1.P.tx λH2 s2=>ag rfl<|tK ⟨_,rfl,iF (cf<|q _ (A1.same s2)<|s1.trans s2) (by lia)⟩
theorem aia(ns:List Int)(lo hi:Int):∃ms:List Int,fK (ns.map V.int) (some lo) (some hi)=ms.map V.int:=by
 refine⟨(ns.drop<|HT.br ns.length 0<|some lo).take<|HT.br ns.length ns.length (some hi) - HT.br ns.length 0 (some lo),?_⟩;unfold fK;rw[zah,<-List.map_drop,<-List.map_take]
inductive AH(K:Frag)(vs:List V)(H:Hp)(Q:VK)(E:XK):Prop|i(a:Addr)(ns:List Int)(_:vs=[.ref a])(_:ar K H a (ns.map V.int))(_:∀H',Q (.bl true) H')
theorem aib(vs:List V)(H:Hp)(Q:VK)(E:XK)(hh:AH K vs H Q E):aE (GL K CP C E) dJ (Dn Q) (start jb vs) H:=by
 obtain⟨a,ns,rfl,ha,q⟩:=hh;refine CA<|aP sZ rfl<|aj<|aP (ku K) rfl<|aj<|ag rfl<|aj<|au<|aA ⟨a,ns,_,rfl,ha,by decide,?_⟩
 refine aj<|aP DN rfl<|aj<|aP (ku K) rfl<|aj<|ag rfl<|aj<|au<|aA ⟨a,ns,_,rfl,ha,by decide,aA ⟨_,rfl,λn0 n1 n2=>aA ⟨_,_,rfl,n1,by lia,λy H1 gy ly s1=>?_⟩⟩⟩
 have ly4:y.length<=400:=by lia
 have lyl:=len_list y;have gX:=s1.seq ha;refine CA<|aP Fc rfl<|aj<|aP (ku K) rfl<|aj<|ag rfl<|aj<|au<|aA ⟨a,ns,_,rfl,gX,by decide,aj<|ag rfl ?_⟩
 have m9:=zax (mixed (cell ns (2:Int).toNat) 3) (show(9:Int)≠0 by decide)
 have l9:=zaA (mixed (cell ns (2:Int).toNat) 3) (show(0:Int) <9 by decide)
 refine aj<|bp<|aP jN rfl<|aj<|aP (ku K) rfl<|aj<|ag rfl<|aj<|au<|aA ⟨a,ns,_,rfl,gX,by decide,aj<|au<|aA ⟨_,_,rfl,au<|kW (by decide)<|aA ⟨_,y,_,rfl,gy,by lia,m9,by lia,λb H2 ys ps r s2 fb hb pv ok ch lp tp run=>?_⟩⟩⟩
 have rl:=run.len
 have lr:r.length<=720:=by lia
 refine CA<|DW CP (tY CP C) rfl<|aP (Ex CP C) rfl<|aj<|ag rfl<|aA ⟨y,rfl,gy,λp0 dp s dx lt lb lf v t ts H3 s3 S3 A3 e3 l1 l2 l3 fp fs jt flb FY=>?_⟩;refine⟨p0,dp,_,rfl,A3.ob,wz,ag rfl ⟨p0,dp,s,dx,lt,lb,lf,b,v,t,ts,ys,ps,r,rfl,A3,S3,by lia,by lia,by lia,by rw[e3];lia,s3 _ _ hb,bf hb jt,bf hb flb,bf hb FY,pv.mono<|aY s3,ok,ch,by rw[e3];exact run,λp o6 v' t' us H4 b4 _ S4 A4 er iL l2' l3'=>?_⟩⟩
 have eA:av H2 H4:=λz o e=>b4 _ _ (s3 _ _ e) (bf e fs) (bf e jt) (bf e flb) (bf e FY);have P4:cq CP C H4 p s lt lb lf r 0:=⟨o6,dx,v',t',ts++us,A4,S4,er,by lia,by rw[zqA];lia,by rw[iy,zqA];lia,by lia,by lia⟩
 have FN:∀p∈ps,lV p:=λp hp=>Pa (ok p hp);refine CA<|aP vL rfl<|aj<|ag rfl<|aj<|ag rfl<|aA ⟨y,b,ys,ps,r,rfl,gy,eA _ _ hb,pv.mono<|aY eA,λp hp=>Dp<|ok p hp,run,by lia,?_⟩
 have Ry:(⟨r.toArray⟩:Str).length=r.length:=by simp[Str.length]
 have gx:good ⟨r.toArray⟩:=⟨by rw[Ry];lia,λc hc=>run.good (λc hc=>gy.2 c hc) FN c (by simpa using hc)⟩
 have er':(⟨r.toArray⟩:Str).cps.toList=r:=by simp
 rw[<-er'] at P4;generalize (⟨r.toArray⟩:Str)=x at P4 Ry gx⊢;have vJ:=s2.seq gX;have Rz:=eA.seq vJ;refine CA<|aP pe rfl<|aj<|aP (Fq K) rfl<|aj<|ag rfl<|aj<|au<|aj<|dj<|ag rfl ⟨bY (by lia),aA ⟨a,ns,3,x.length,rfl,Rz,λl0 tZ AI H5 s5 f5 h5 c5 in5 RA Q5=>?_⟩⟩
 refine aA ⟨l0,tZ,AI,rfl,h5,c5,by lia,λwL lc xs H6 Sr s6 fl hl hc=>?_⟩
 have TS:=agt Sr in5;have one:1<= (settle AI wL).length:=List.length_pos_iff.mpr (TS.ne (λz=>by rw[z] at RA;exact absurd RA (by decide)))
 have C6:eR H6 lc x.length xs (settle AI wL):=⟨hl,hc,TS.inn,one,zaw TS.len Q5,TS.far.apart⟩;generalize settle AI wL=cs at C6;have gp:=s5.trans s6;have lcs:xs.length=cs.length:=Paired.length C6.c;have wC:=C6.m;have oc6:=P4.fr (s5.free fl);have P6:=P4.same gp;refine CA<|aP (jd K) rfl<|aj<|ag rfl<|aj<|au<|aj<|dj<|ag rfl<|.inl ⟨_,ar.of C6.h,aA ⟨a,ns,10,xs.length,rfl,gp.seq Rz,by lia,λlx tl H7 s7 flx T7 t4 eB=>?_⟩⟩
 have ol7:=P6.fr flx;refine CA<|cA<|aA ⟨zqZ _,λT fT=>?_⟩;have s8:=sameNew (o:=.lst []) fT;have RB:upd H7 T (.lst []) T=some (.lst []):=aw;have P7:=P6.same s7;have nT:=P7.fr fT;have C7:=C6.same s7;generalize upd H7 T (.lst [])=H8 at s8 RB⊢;have s28:av H2 H8:=(eA.trans gp).trans (s7.trans s8);have A8:LA K CP C H2 H8 a p s lt lb lf lc lx T ns x 0 xs [] cs tl:=⟨vJ,s28,⟨((eA.trans gp).trans s7).free fT,fs,jt,flb,FY⟩,P7.same s8,gx,by lia,C7.same s8,T7.same s8,t4,by lia,RB,zqR _,(λy hy=>by cases hy),nT,⟨bf C7.h fT,oc6⟩,⟨bf T7.h fT,ol7⟩⟩
 refine YS<|cc<|fW (ui CP C) rfl<|aj<|ag rfl<|aj<|ag rfl<|aj<|ag rfl<|aj<|ag rfl<|aj<|ag rfl<|aA<|FW A8 (by decide) A8.Ts A8.t4 A8.eB λhs9 H9 A9=>d_ (iF (cf ?_) rfl)
 refine YS<|cc<|fW (ui CP C) rfl<|aj<|ag rfl<|aj<|ag rfl<|aj<|ag rfl<|aj<|aP (jd K) rfl<|aj<|ag rfl<|aj<|au<|aj<|dj<|ag rfl<|.inl ⟨_,ar.of A9.Cs.h,aA ⟨a,ns,16,xs.length,rfl,A9.sc,by lia,λl2 t2 HA sA f2 T2 t42 e2=>?_⟩⟩
 refine aj<|ag rfl<|aA<|FW (A9.same sA) (by decide) T2 t42 (by lia) λhsB HB AB=>d_ (iF (cf ?_) rfl)
 obtain⟨ms,ems⟩:=aia ns 22 25;refine vZ (body:=FX)<|Pb<|ag rfl<|au ⟨_,rfl,au ⟨_,rfl,.inl ⟨_,AB.sc,λL fL=>?_⟩⟩⟩;have sC:=sameNew (o:=.lst (fK (ns.map V.int) (some 22)<|some 25)) fL;rw[ems] at sC⊢;have hL:upd HB L (.lst<|ms.map V.int) L=some (.lst<|ms.map V.int):=aw;generalize upd HB L (.lst<|ms.map V.int)=HC at sC hL⊢;have AC:=AB.same sC;refine⟨L,rfl,⟨_,ar.of hL⟩,iR (K:=K) (a:=L) (xs:=ms.map V.int) (λi σ HD=>∃(u7:Option V),σ=sL a x (some (.ref b)) p lc lx T u7/\av HC HD/\LA K CP C H2 HD a p s lt lb lf lc lx T ns x 2 xs hsB cs tl)
  ⟨none,rfl,av.refl _,AC⟩ (λi σ HD _ ⟨_,_,sD,_⟩=>ar.of (sD _ _ hL)) ?_ ?_⟩
 ·rintro i v σ HD hv ⟨u7,rfl,sD,AD⟩;obtain⟨c,_,rfl⟩:=zaF.mp (zaj hv);exact ah_ AD λHE AE sE=>⟨_,rfl,sD.trans sE,AE⟩
 ·rintro σ HD ⟨u7,rfl,_,AD⟩;exact ah9 AD (by decide) q
end
end L2.lS
namespace L2
open PySem PySem.Spec PyProof.Rows
open PySem.W (Frag nsIn findIn isFn keepIn codeIn fnOf mg_of mg_none_of)
def fY(st:Stmt):List Str:=(iE st).args.map (·.arg)
structure Top (P:Program) (w:World) (K:Frag) (mg:Str->Option Value) (base:Heap):Prop where
 X:K.In base
 G:base.Ns mainGlobals mg
def bj(K:Frag)(x:Str)(st:Stmt):Prop:= ∃f fd,nsIn K mainGlobals x=some (some<|.ref f)/\mG K x x st f fd
def j4(K:Frag)(C:Addr)(x q:Str)(st:Stmt):Prop:= ∃f fd,findIn K (.ref C) x=some (some<|.ref f)/\isFn K (.ref f)=true/\mG K x q st f fd
structure AJ (K:Frag) (x:Str) (C:Addr):Prop where
 g:nsIn K mainGlobals x=some (some<|.ref C)
 m:makesIn K C=true
 k:keepIn K (.ref C)=true
structure fH (K:Frag) (p:Str×V):Prop where
 ex:∃u,nsIn K mainGlobals p.1=some (some u)/\RelV p.2 u
structure pF (K:Frag) (p:Str×Addr):Prop where
 g:nsIn K mainGlobals p.1=some (some<|.ref p.2)
 x:PySem.W.excIn K p.2 [.type "ValueError",.type "Exception",.type "BaseException",.type "object"] "ValueError.__new__"=true
section
variable {P:Program}{w:World}{K:Frag}{mg:Str->Option Value}{base:Heap}{x q:Str}{st:Stmt}{f C:Addr}{fd:FuncData}{k:Nat}{sp:Sp}
theorem dfk{od an:Option Addr}{gw:Array (Option Value)}{kV doc pm bx ct:Value}(a:nsIn K mainGlobals x=some (some<|.ref f))(l:K.lookup f=some ⟨oc,od,.func<|fnOf x x (iE st) (dU st) (dW st) .none kV doc pm an bx ct,gw⟩)
  (c:codeIn K bx x=true) (k:keepIn K (.ref f)=true):bj K x st:=⟨f,_,a,HJ l c k⟩
theorem dmk{od an:Option Addr}{gw:Array (Option Value)}{kV doc pm bx ct:Value}(a:findIn K (.ref C) x=some (some<|.ref f))(i:isFn K (.ref f)=true)(l:K.lookup f=some ⟨oc,od,.func<|fnOf x q (iE st) (dU st) (dW st) .none kV doc pm an bx ct,gw⟩)
  (c:codeIn K bx q=true) (k:keepIn K (.ref f)=true):j4 K C x q st:=⟨f,_,a,i,HJ l c k⟩
theorem aio{t:Tok}(h:nsIn K mainGlobals x=some (some<|.str y t)):fH K (x,.str y):=⟨_,h,⟨_,rfl⟩⟩
theorem aip{y:Int}{t:Tok}(h:nsIn K mainGlobals x=some (some<|.int y t)):fH K (x,.int y):=⟨_,h,⟨_,rfl⟩⟩
theorem aiq{y:Addr}(h:nsIn K mainGlobals x=some (some<|.ref y)):fH K (x,.ref y):=⟨_,h,rfl⟩
theorem air(h:findIn K (.ref C) y=some none):g7 K C y:=h
theorem Top.gv(Z:Top P w K mg base)(h:fH K p):vj mg p:=by
 obtain⟨u,a,b⟩:=h.ex;exact⟨u,mg_of Z.X Z.G a,b⟩
theorem Top.no(Z:Top P w K mg base)(h:nsIn K mainGlobals x=some none):mg x=none:=mg_none_of Z.X Z.G h
theorem Top.exc(Z:Top P w K mg base)(h:pF K p):yS mg base p:=aeh Z.X Z.G h.g h.x
structure js (P:Program) (w:World) (K:Frag) (mg:Str->Option Value) (base:Heap) (k:Nat) (st:Stmt) (sp:Sp):Prop where
 ok:∀{x q:Str}{f:Addr}{fd:FuncData},mG K x q st f fd->cK P w K mg base (e_ P w) k f fd (fY st) sp
theorem js.or(A:js P w K mg base k st a)(C:js P w K mg base k st b):js P w K mg base k st (B.jj a b):=⟨λF=>(A.ok F).or<|C.ok F⟩
theorem rH{N P:List Str}{sc:Scope}(a:sc.kind=.function:=by kernel_rfl)(b:sc.isCoroutine=false:=by kernel_rfl)(c:sc.isGenerator=false:=by kernel_rfl)(d:N.Nodup:=by decide+kernel)(e:N.take P.length=P:=by kernel_rfl)(f:∀x∈P,sc.names.lookup x=some .local\/sc.names.lookup x=some .cell:=by decide+kernel)(g:∀y∈sc.names,y.2≠ .free:=by decide+kernel):lB N P sc:=⟨a,b,c,d,e,f,g⟩
theorem dL{N0 bl:List Str}{tab:List (Str×Sp)}{gt:List (Str×V)}{dk:List (Addr×List (Key×V))}{mt kt:List (Str×Addr×Sp)}{et:List (Str×Addr)}{ht:List (Str×Sp)}{body:List RS}(Z:Top P w K mg base)
  (qw:∀vs H Q E,sp vs H Q E->aE (aL K tab gt dk mt kt et ht E) body {nx:=λ_ H'=>Q .aB H',rt:=Q} (start N0 vs) H)
  (hm:∀{CX:cb}{Γ:bo}{X:Cx},dF CX (sM N (dW st) (tab.map (·.1)) (gt.map (·.1)) bl (mt.map (·.1)) (kt.map (·.1)) (et.map (·.1)) (ht.map (·.1))) Γ X->dD X (dU st) (aE Γ body)) (k:Nat)
  (len:∀vs H Q E,sp vs H Q E->vs.length=(fY st).length:=by intro _ _ _ _ h;first|(cases h;subst_eqs;show List.length (_::_)=_;kernel_rfl)|repeat (first|(obtain⟨rfl,_⟩:=h;kernel_rfl)|(obtain⟨_,h⟩:=h)))
  (Ct:∀p∈tab,eF P w K mg base k p.1 p.2:=by repeat (first|exact l8|refine l_ (eF.mono (by assumption) (by first|decide|lia)) ?_))
  (qu:∀p∈gt,vj mg p:=by repeat (first|exact l8|refine l_ (Top.gv (by assumption) (by assumption)) ?_))
  (qv:∀y∈bl,mg y=none:=by repeat (first|exact l8|refine l_ (Top.no (by assumption) (by assumption)) ?_))
  (Cv:∀q∈dk,Jw P w K q:=by repeat (first|exact l8|refine l_ (by assumption) ?_))
  (Cw:∀p∈mt,qp P w K mg base k p:=by repeat (first|exact l8|refine l_ (qp.mono (by assumption) (by first|decide|lia)) ?_))
  (Cy:∀p∈kt,qt P w K mg base k p:=by repeat (first|exact l8|refine l_ (qt.mono (by assumption) (by first|decide|lia)) ?_))
  (het:∀p∈et,yS mg base p:=by repeat (first|exact l8|refine l_ (Top.exc (by assumption) (by assumption)) ?_))
  (Cz:∀p∈ht,oE P w K mg base k p.1 p.2:=by repeat (first|exact l8|refine l_ (oE.mono (by assumption) (by first|decide|lia)) ?_))
  (S:lB N (fY st) (dW st):=by exact rH) (hN:N0.length=N.length:=by kernel_rfl):js P w K mg base (k+1) st sp:=
 ⟨λF=>YN F S tab gt bl mt kt et ht body hm Ct qu qv dk Cv Cw Cy het Cz len λvs H Q E h=>by
  have r:=qw vs H Q E h;unfold start at r⊢;rw[hN] at r;exact r⟩
def Bd(x q:Str)(st:Stmt):Prop:= ∀(kV doc pm:Value) (an:Option Addr) (bx ct:Value) (us:List Value),us.length=(fY st).length->bindArgs (fnOf x q (iE st) (dU st) (dW st) .none kV doc pm an bx ct) ⟨us,[]⟩=pure ((fY st).zip us)
theorem ais(hp:(fY st).length=1)(h:∀(kV doc pm:Value) (an:Option Addr) (bx ct a0:Value),bindArgs (fnOf x q (iE st) (dU st) (dW st) .none kV doc pm an bx ct) ⟨[a0],[]⟩=pure ((fY st).zip [a0])):Bd x q st:=λkV doc pm an bx ct us hl=>by
 rcases us with _|⟨a0,_|⟨_,_⟩⟩ <;>first|exact h kV doc pm an bx ct _|exact absurd (hl.trans hp) (by simp)
theorem ait(hp:(fY st).length=2)(h:∀(kV doc pm:Value) (an:Option Addr) (bx ct a0 a1:Value),bindArgs (fnOf x q (iE st) (dU st) (dW st) .none kV doc pm an bx ct) ⟨[a0,a1],[]⟩=pure ((fY st).zip [a0,a1])):Bd x q st:=λkV doc pm an bx ct us hl=>by
 rcases us with _|⟨a0,_|⟨a1,_|⟨_,_⟩⟩⟩ <;>first|exact h kV doc pm an bx ct _ _|exact absurd (hl.trans hp) (by simp)
theorem aiu(hp:(fY st).length=3)(h:∀(kV doc pm:Value) (an:Option Addr) (bx ct a0 a1 a2:Value),bindArgs (fnOf x q (iE st) (dU st) (dW st) .none kV doc pm an bx ct) ⟨[a0,a1,a2],[]⟩=pure ((fY st).zip [a0,a1,a2])):Bd x q st:=λkV doc pm an bx ct us hl=>by
 rcases us with _|⟨a0,_|⟨a1,_|⟨a2,_|⟨_,_⟩⟩⟩⟩ <;>first|exact h kV doc pm an bx ct _ _ _|exact absurd (hl.trans hp) (by simp)
theorem aiv(hp:(fY st).length=4)(h:∀(kV doc pm:Value) (an:Option Addr) (bx ct a0 a1 a2 a3:Value),bindArgs (fnOf x q (iE st) (dU st) (dW st) .none kV doc pm an bx ct) ⟨[a0,a1,a2,a3],[]⟩=pure ((fY st).zip [a0,a1,a2,a3])):Bd x q st:=λkV doc pm an bx ct us hl=>by
 rcases us with _|⟨a0,_|⟨a1,_|⟨a2,_|⟨a3,_|⟨_,_⟩⟩⟩⟩⟩ <;>first|exact h kV doc pm an bx ct _ _ _ _|exact absurd (hl.trans hp) (by simp)
theorem aiw(hp:(fY st).length=5)(h:∀(kV doc pm:Value) (an:Option Addr) (bx ct a0 a1 a2 a3 a4:Value),bindArgs (fnOf x q (iE st) (dU st) (dW st) .none kV doc pm an bx ct) ⟨[a0,a1,a2,a3,a4],[]⟩=pure ((fY st).zip [a0,a1,a2,a3,a4])):Bd x q st:=λkV doc pm an bx ct us hl=>by
 rcases us with _|⟨a0,_|⟨a1,_|⟨a2,_|⟨a3,_|⟨a4,_|⟨_,_⟩⟩⟩⟩⟩⟩ <;>first|exact h kV doc pm an bx ct _ _ _ _ _|exact absurd (hl.trans hp) (by simp)
theorem w4(hb:Bd x q st:=by first|exact ais (by kernel_rfl) λ_ _ _ _ _ _ _=>rfl|exact ait (by kernel_rfl) λ_ _ _ _ _ _ _ _=>rfl|exact aiu (by kernel_rfl) λ_ _ _ _ _ _ _ _ _=>rfl|exact aiv (by kernel_rfl) λ_ _ _ _ _ _ _ _ _ _=>rfl|exact aiw (by kernel_rfl) λ_ _ _ _ _ _ _ _ _ _ _=>rfl|exact akB (by kernel_rfl) λ_ _ _ _ _ _ _ _ _ _ _ _=>rfl|exact akC (by kernel_rfl) λ_ _ _ _ _ _ _ _ _ _ _ _ _=>rfl|exact akD (by kernel_rfl) λ_ _ _ _ _ _=>rfl):Bd x q st:=hb
theorem dT(Z:Top P w K mg base)(D:bj K x st)(R:js P w K mg base k st sp)(hb:Bd x x st:=by exact w4):eF P w K mg base k x sp:=by
 obtain⟨f,fd,a,F⟩:=D;exact⟨f,fd,_,R.ok F,mg_of Z.X Z.G a,F.kp,F.binds hb⟩
theorem dM(D:j4 K C x q st)(c:gu K C)(R:js P w K mg base k st sp)(hb:Bd x q st:=by exact w4):qp P w K mg base k (x,C,sp):=by
 obtain⟨f,fd,a,i,F⟩:=D;exact⟨c,f,fd,_,⟨a,i,F.kp⟩,R.ok F,F.binds hb⟩
theorem dI(Z:Top P w K mg base)(D:j4 K C "__init__" q st)(M:AJ K cn C)(R:js P w K mg base k st sp)(hb:Bd "__init__" q st:=by exact w4):qt P w K mg base (k+1) (cn,C,sp):=by
 obtain⟨f,fd,a,i,F⟩:=D;exact⟨k,f,fd,_,zqR _,⟨M.m,a,i,M.k⟩,R.ok F,mg_of Z.X Z.G M.g,F.binds hb⟩
theorem dH{N N0 bl:List Str}{gt:List (Str×V)}(Z:Top P w K mg base)(D:bj K x st)
  (qw:∀vs H Q,sp vs H Q E0->aE (aL K [] gt) body {nx:=λ_ H'=>Q .aB H',rt:=Q} (start N0 vs) H)
  (hm:∀{CX:cb}{Γ:bo}{X:Cx},dF CX (sM N (dW st) [] (gt.map (·.1)) bl (md:=1)) Γ X->dD X (dU st) (aE Γ body)) (k:Nat)
  (len:∀vs H Q E,sp vs H Q E->vs.length=(fY st).length:=by intro _ _ _ _ h;first|(cases h;subst_eqs;show List.length (_::_)=_;kernel_rfl)|repeat (first|(obtain⟨rfl,_⟩:=h;kernel_rfl)|(obtain⟨_,h⟩:=h)))
  (qu:∀p∈gt,vj mg p:=by repeat (first|exact l8|refine l_ (Top.gv (by assumption) (by assumption)) ?_))
  (qv:∀y∈bl,mg y=none:=by repeat (first|exact l8|refine l_ (Top.no (by assumption) (by assumption)) ?_))
  (S:lB N (fY st) (dW st):=by exact rH) (hb:Bd x x st:=by exact w4) (hN:N0.length=N.length:=by kernel_rfl):oE P w K mg base (k+1) x sp:=by
 obtain⟨f,fd,a,F⟩:=D;exact YQ F S (mg_of Z.X Z.G a) (F.binds hb) gt bl body hm qu qv len λvs H Q h=>by
  have r:=qw vs H Q h;unfold start at r⊢;rw[hN] at r;exact r
theorem dN(Z:Top P w K mg base)(D:bj K x st){N:List Str}(no:∀vs H Q E,¬sp vs H Q E)(S:lB N (fY st) (dW st))(hb:Bd x x st:=by exact w4):eF P w K mg base (k+1) x sp:=by
 obtain⟨f,fd,a,F⟩:=D;exact YO F S (mg_of Z.X Z.G a) (F.binds hb) no
theorem eF.l{a b:Sp}(T:eF P w K mg base k x (B.jj a b)):eF P w K mg base k x a:=T.weak λ_ _ _ _ h=>.inl h
theorem eF.r{a b:Sp}(T:eF P w K mg base k x (B.jj a b)):eF P w K mg base k x b:=T.weak λ_ _ _ _ h=>.inr h
theorem aix{h:Heap}{fa:Addr}(X:K.In h)(G:h.Ns mainGlobals mg)(FZ:mg x=some (.ref fa))(D:bj K x st)
  (R:∀base,Top P w K mg base->js P w K mg base k st sp) (hp:fY st=[y]:=by kernel_rfl)
  (hb:∀(kV doc pm:Value) (an:Option Addr) (bx ct a0:Value),bindArgs (fnOf x x (iE st) (dU st) (dW st) .none kV doc pm an bx ct) ⟨[a0],[]⟩=pure [(y,a0)]:=by exact λ_ _ _ _ _ _ _=>rfl):
  ∃fd:FuncData,(∀(s:Shared) (v:Value),BindsTo s fd ⟨[v],[]⟩ [(y,v)])/\∀base:Heap,K.In base->base.Ns mainGlobals mg->cK P w K mg base uK k fa fd [y] (λvs H Q _=>sp vs H Q E0):=by
 obtain⟨f,fd,e,F⟩:=D;cases FZ.symm.trans (mg_of X G e);have F':=F;obtain⟨oc,od,kV,doc,pm,an,bx,ct,gw,zq⟩:=qx9 F'.ex;obtain⟨rfl,lk,gJ⟩:=qa3 zq;refine⟨_,λs v=>.of_eq<|hb kV doc pm an bx ct v,λbase X2 G2=>?_⟩;have r:=(R base ⟨X2,G2⟩).ok F;rw[hp] at r;exact cK.top r
def RC(K:Frag)(cs:List Addr)(bZ D:Addr)(j:Nat):Bool:=(cs.zipIdx.all λc=>kitOne K (.ref D) (.ref c.1)==some (decide<|c.2=j)) && kitOne K (.ref D) (.ref bZ)==some true && kitOne K (.ref D) (.type "ValueError")==some true
structure uk (K:Frag) (cs:List Addr) (bZ D:Addr) (j:Nat):Prop where
 c:sf K D
 b:RC K cs bZ D j=true
 x:exmOne K (.ref D) (.ref bZ)=some true
theorem uk.F0{cs:List Addr}{bZ D:Addr}(h:uk K cs bZ D j):B.nG K cs bZ D j:=by
 have b:=h.b
 simp only[RC,zab,beq_iff_eq,zaO] at b
 refine⟨h.c,λi c e=>b.1.1 (c,i) ?_,b.1.2,b.2⟩;rw[List.mem_zipIdx_iff_getElem?];exact e
end
end L2
namespace L2.lS
open PySem PySem.Spec PyProof.Rows L2.B
theorem all_mk{P:Program}{w:World}{K:Frag}{h:Heap}{mg:Str->Option Value}{fa pG rJ w5 pH rK um uq w6 w9 w_ rL pI xa xb xf xg:Addr}(X:K.In h)(G:h.Ns mainGlobals mg)(FZ:mg "law"=some (.ref fa))
  (akE:fH K ("InkError",.ref w5))
  (akF:fH K ("BadText",.ref pH))
  (akG:fH K ("BadChange",.ref rK))
  (akH:fH K ("BadFit",.ref um))
  (akI:fH K ("NoPlace",.ref uq))
  (akJ:fH K ("BadSide",.ref w6))
  (akK:fH K ("NoMark",.ref w9))
  (akL:fH K ("NoNode",.ref w_))
  (akM:fH K ("NoCursor",.ref rL))
  (akN:fH K ("BadDeed",.ref pI))
  (akO:fH K ("BadLetter",.ref xa))
  (akP:fH K ("NoLetter",.ref xb))
  (akQ:fH K ("NoHand",.ref xf))
  (akR:fH K ("NoNote",.ref xg))
  (aiy:AJ K "Stock" pG)
  (aiz:AJ K "Paper" rJ)
  (rM:sO K pG)
  (mr:nh K rJ)
  (akS:pF K ("BadText",pH))
  (akT:pF K ("BadChange",rK))
  (akU:pF K ("BadFit",um))
  (akV:pF K ("NoPlace",uq))
  (akW:pF K ("NoCursor",rL))
  (akX:pF K ("BadDeed",pI))
  (RD:uk K [pH,rK,um,uq,w6,w9,w_,rL,pI,xa,xb,xf,xg] w5 pH 0)
  (RF:uk K [pH,rK,um,uq,w6,w9,w_,rL,pI,xa,xb,xf,xg] w5 rL 7)
  (RG:uk K [pH,rK,um,uq,w6,w9,w_,rL,pI,xa,xb,xf,xg] w5 pI 8)
  (a0:bj K "is_whole" LF)
  (a1:bj K "is_between" LG)
  (a2:bj K "is_word" LH)
  (a3:bj K "is_text" LI)
  (a4:bj K "need_text" LJ)
  (a5:bj K "is_part" LK)
  (a6:bj K "may_follow" LL)
  (a7:bj K "need_change" LM)
  (a8:bj K "part_size" LN)
  (a9:bj K "sizes" LO)
  (a10:bj K "add_keep" LP)
  (a11:bj K "add_texts" LQ)
  (a12:bj K "neat" LR)
  (a13:bj K "many_upto" LS)
  (a14:bj K "begin_of" LU)
  (a15:bj K "end_of" LV)
  (a16:bj K "is_empty" LW)
  (a17:bj K "is_backward" LX)
  (a18:bj K "is_goal" LY)
  (a19:bj K "is_cursor" L6)
  (a20:bj K "meet" L8)
  (a21:bj K "need_cursors" L9)
  (a22:bj K "gathered" Ma)
  (a23:bj K "as_one" Mb)
  (a24:bj K "settled" Mc)
  (a25:bj K "enter" Mf)
  (a26:bj K "entered" Mg)
  (a27:bj K "height_of" Mi)
  (a28:bj K "size_of" Mj)
  (a29:bj K "ends_of" Ml)
  (a30:bj K "made" Mm)
  (a31:bj K "turned_right" Mn)
  (a32:bj K "turned_left" Mo)
  (a33:bj K "leveled" Mp)
  (RH:bj K "joined" Mq)
  (RJ:bj K "last_out" Mr)
  (RK:bj K "first_out" Ms)
  (a37:bj K "sewn" Mt)
  (a38:bj K "cut_in_two" Mu)
  (RL:bj K "parted" Mv)
  (RM:bj K "pieces_of" Mw)
  (a41:j4 K pG "__init__" "Stock.__init__" Mx)
  (a42:j4 K pG "put" "Stock.put" My)
  (a43:j4 K pG "read" "Stock.read" Mz)
  (a44:j4 K pG "ends_ahead" "Stock.ends_ahead" MA)
  (a45:bj K "node_put" MB)
  (a46:bj K "paper_of" MC)
  (a47:bj K "need_fit" MD)
  (a48:bj K "texts_of" ME)
  (a49:j4 K rJ "__init__" "Paper.__init__" MF)
  (a50:j4 K rJ "size" "Paper.size" MG)
  (a51:j4 K rJ "text" "Paper.text" MH)
  (a52:j4 K rJ "part" "Paper.part" MI)
  (a53:j4 K rJ "changed" "Paper.changed" MJ)
  (a54:bj K "_law_cell_at" MK)
  (a55:bj K "_law_whole" ML)
  (a56:bj K "_law_mixed" MM)
  (a57:bj K "_law_text" MN)
  (a58:bj K "_law_size" MO)
  (a59:bj K "_law_parts" MP)
  (a60:bj K "_law_neat" MQ)
  (a61:bj K "_law_change" MR)
  (a62:bj K "_law_done" MS)
  (a63:bj K "_law_same" MT)
  (a64:bj K "_law_word" fQ)
  (a65:bj K "_law_cursor" MU)
  (a66:bj K "_law_drawn" MZ)
  (a67:bj K "_law_settled" i9)
  (a68:bj K "_law_alike" M0)
  (a69:bj K "_law_texts" M4)
  (a70:bj K "_law_due" M7)
  (a71:bj K "_law_again" dz)
  (a72:bj K "_law_entered" fU)
  (a73:bj K "_law_told" M_)
  (a74:bj K "_law_refused" eG)
  (a75:bj K "law" dX)
  (akY:fH K ("SIGNS",.str SG))
  (akZ:fH K ("MOST_CURSORS",.int 40))
  (ak0:nsIn K mainGlobals "ValueError"=some none)
  (ak1:nsIn K mainGlobals "all"=some none)
  (ak2:nsIn K mainGlobals "any"=some none)
  (ak3:nsIn K mainGlobals "bool"=some none)
  (ak4:nsIn K mainGlobals "enumerate"=some none)
  (ak5:nsIn K mainGlobals "int"=some none)
  (ak6:nsIn K mainGlobals "isinstance"=some none)
  (ak7:nsIn K mainGlobals "len"=some none)
  (ak8:nsIn K mainGlobals "list"=some none)
  (ak9:nsIn K mainGlobals "max"=some none)
  (ak_:nsIn K mainGlobals "min"=some none)
  (ala:nsIn K mainGlobals "range"=some none)
  (alb:nsIn K mainGlobals "sorted"=some none)
  (alc:nsIn K mainGlobals "str"=some none)
  (ald:nsIn K mainGlobals "sum"=some none)
  (ale:nsIn K mainGlobals "tuple"=some none)
  (alf:nsIn K mainGlobals "zip"=some none)
  :∃fd:FuncData,(∀(s:Shared) (v:Value),BindsTo s fd ⟨[v],[]⟩ [("_law_script",v)])/\∀base:Heap,K.In base->base.Ns mainGlobals mg->cK P w K mg base uK 108 fa fd ["_law_script"] (λvs H Q _=>(AH K) vs H Q E0):=by
 have ajy:=RD.F0;have ajz:=RD.x;have ajA:=RF.F0;have ajB:=RF.x;have ajC:=RG.F0;have ajD:=RG.x;refine aix X G FZ a75 λbase Z=>?_;have T0:=dT Z a0 (dL Z adC @Z9 0);have T1:=dT Z a1 (dL Z aei @Z_ 1);have T2:=dT Z a2 (dL Z adG @aaa 0);have T3:=dT Z a3 (dL Z adD @aab 0);have T4:=dT Z a4 (dL Z adF @aac 1);have T5:=dT Z a5 (dL Z adI @aad 1);have alg:=T5.weak (a:=Dl) λ_ _ _ _ h=>adK h;have T6:=dT Z a6 (dL Z aco @aae 0);have T7:=dT Z a7 (dL Z (acz (et:=[("BadChange",rK)])) @aaf 2);have T8:=dT Z a8 (dL Z acp @aag 0);have T9:=dT Z a9 (dL Z acB @aah 3);have T10:=dT Z a10 (dL Z acH @aai 0);have T11:=dT Z a11 (dL Z L2.B.vC @aaj 0);have T12:=dT Z a12 (dL Z acJ @aak 1);have T13:=dT Z a13 (dL Z aeg @aal 0);have T14:=dT Z a14 (dL Z N.afQ @aam 0);have T15:=dT Z a15 (dL Z N.afR @aan 0);have T16:=dT Z a16 (dL Z N.afS @aao 0);have T17:=dT Z a17 (dL Z N.afZ @aap 0);have T18:=dT Z a18 (js.or (dL Z N.afT @LZ 1)<|dL Z N.agu @LZ 1);have alq:=T18.l;have T19:=dT Z a19 (js.or (dL Z N.afU @L7 2)<|dL Z N.agv @L7 2);have alr:=T19.l;have T20:=dT Z a20 (dL Z N.afY @aaq 1);have T21:=dT Z a21 (js.or (dL Z N.agj @L_ 3)<|dL Z N.agw @L_ 3);have alu:=T21.l;have T22:=dT Z a22 (dL Z N.af5 @aar 2);have T23:=dT Z a23 (dL Z N.af6 @aas 1);have T24:=dT Z a24 (dL Z N.af7 @aat 3);have T28:=dT Z a28 (dL Z N.aeI @aaC 0);have T27:=dT Z a27 (dL Z N.aeH @aaB 0);have T29:=dT Z a29 (dL Z N.aeJ @aaD 0);have T30:=dT Z a30 (dL Z N.aeL @aaE 1);have T31:=dT Z a31 (dL Z N.aeM @aaF 2);have T32:=dT Z a32 (dL Z N.aeN @aaG 2);have T33:=dT Z a33 (dL Z N.aeP @aaH 3);have R34:∀n,eF P w K mg base (4+n+1) "joined" (N.jU n):=by
  intro n;induction n with
  |zero=>exact dN Z RH (N:=vm) N.aeQ rH
  |succ n ih=>exact dT Z RH (dL Z (N.aeS n) @aaI<|4+n+1)
 have T34:=R34 64;have T44:=dM a44 rM.cl (dL Z (N.ae2 rM) @aaS 1);have T38:=dT Z a38 (dL Z N.ae4 @aaM 2);have R39:∀n,eF P w K mg base (69+n+1) "parted" (N.me pG n):=by
  intro n;induction n with
  |zero=>exact dN Z RL (N:=CN) (N.ae5 pG) rH
  |succ n ih=>exact dT Z RL (dL Z (N.ae7 n) @aaN<|69+n+1)
 have T39:=R39 32;have R40:∀n,eF P w K mg base (0+n+1) "pieces_of" (N.tR n):=by
  intro n;induction n with
  |zero=>exact dN Z RM (N:=CO) N.aeX rH
  |succ n ih=>exact dT Z RM (dL Z (N.aeY n) @aaO<|0+n+1)
 have T40:=R40 32;have T43:=dM a43 rM.cl (dL Z (aeC rM) @aaR 2);have T48:=dT Z a48 (dL Z N.vC @aaW 33);have T50:=dM a50 mr.cl (dL Z (N.afo mr) @aaY 1);have T52:=dM a52 mr.cl (dL Z (N.afq mr) @aa0 102);have T25:=dT Z a25 (dL Z ag8 @aax 103);have RN:=dT Z a26 (js.or (dL Z (ahe (CD:=pI) (CT:=pH)) @Mh 104)<|dL Z ahg @Mh 104);have alP:=RN.l;have alQ:=RN.r;have R35:∀n,eF P w K mg base (69+n+1) "last_out" (N.vS n):=by
  intro n;induction n with
  |zero=>exact dN Z RJ (N:=sQ) N.aeT rH
  |succ n ih=>exact dT Z RJ (dL Z (N.aeV n) @aaJ<|69+n+1)
 have T35:=R35 32;have R36:∀n,eF P w K mg base (69+n+1) "first_out" (N.vV n):=by
  intro n;induction n with
  |zero=>exact dN Z RK (N:=sQ) N.ae_ rH
  |succ n ih=>exact dT Z RK (dL Z (N.afb n) @aaK<|69+n+1)
 have T36:=R36 32;have T37:=dT Z a37 (dL Z N.afd @aaL 102);have T41:=dI Z a41 aiy (dL Z (ael rM) @aaP 0);have T42:=dM a42 rM.cl (dL Z (aen rM) @aaQ 2);have T45:=dT Z a45 (dL Z N.afj @aaT 69);have T49:=dI Z a49 aiz (dL Z (N.afn mr) @aaX 0);have T46:=dT Z a46 (dL Z N.afL @aaU 70);have T47:=dT Z a47 (dL Z (N.afy mr) @aaV 103);have T51:=dM a51 mr.cl (dL Z (N.afp mr) @aaZ 34);have T53:=dM a53 mr.cl (dL Z (N.afK mr) @aa1 104);have T54:=dT Z a54 (dL Z acq @aa2 0);have T55:=dT Z a55 (dL Z ad3 @aa3 0);have T56:=dT Z a56 (dL Z acr @aa4 0);have T57:=dT Z a57 (dL Z acT @aa5 1);have T58:=dT Z a58 (dL Z adt @aa6 0);have T59:=dT Z a59 (dL Z agR @aa7 2);have T60:=dT Z a60 (dL Z ac1 @aa8 0);have T61:=dT Z a61 (dL Z ag1 @aa9 3);have T62:=dT Z a62 (dL Z adY @aa_ 0);have T63:=dT Z a63 (dL Z ad2 @aba 1);have T64:=dH (sp:=zw K [pH,rK,um,uq,w6,w9,w_,rL,pI,xa,xb,xf,xg] w5) Z a64 adW @abj 0;have T65:=dT Z a65 (dL Z N.agy @abk 1);have T66:=dT Z a66 (dL Z ahi @abm 2);have T67:=dT Z a67 (dL Z N.agd @abt 0);have T68:=dT Z a68 (dL Z N.agB @abu 1);have T69:=dT Z a69 (dL Z L2.lS.vC @abw 2);have T70:=dT Z a70 (dL Z ahp @abz 1);have T71:=dT Z a71 (dL Z ahz @abM 105);have T72:=dT Z a72 (dL Z ahJ @abV 106);have T73:=dT Z a73 (dL Z (ahh ajA ajC ajy ajB ajD ajz) @abZ 105);have T74:=dT Z a74 (dL Z ah1 @ab_ 106);exact dL Z aib @acn 107
theorem walk{l:PySem.W.OpenLaw}{q:Program}{loose:List Str}{XP:(Str->Option Value)->Heap->Prop}{YP:World->Heap->Prop}{d:DefRec}{K:Params->Frag}(hn:l.most=some 63)(uI:d.params.defaults=[])
  (hY:∀(w:World) (h:Heap),YP w h->(K w.params).In h)
  (F:∀(w:World) (mg:Str->Option Value) (fa:Addr) (h:Heap),(K w.params).In h->h.Ns mainGlobals mg->mg d.name=some (.ref fa)->
   ∃fd:FuncData,(∀(s:Shared) (u:Value),BindsTo s fd ⟨[u],[]⟩ [("_law_script",u)])/\∀base:Heap,(K w.params).In base->base.Ns mainGlobals mg->cK l.prog w (K w.params) mg base uK 108 fa fd ["_law_script"] ((λK=>(λvs H Q _=>(AH K) vs H Q E0)) (K w.params))):
  PySem.W.WalkO q loose XP YP l.row.toRowW d [] (λf vs=>PySem.call f vs):=
 L2.Ve (n:=63) (k:=108) (x:="_law_script") (CX:=λ_=>uK) (sp:=λw=>(λK=>(λvs H Q _=>(AH K) vs H Q E0)) (K w.params)) hn (by decide) uI ⟨rfl,by decide,by decide,rfl⟩ hY F (λ_ _ a ns hl _ hS=>⟨a,ns,rfl,hS,λ_=>rfl⟩) λ_ _ _ _ _ z=>z
end L2.lS
namespace PySem.W.Fast
def tw16385100053405332406:=()
def tw6109321445355692072:=()
def tw5642615536757991754:=()
def tw7624343230761038235:=()
def tw5570592933456984575:=()
def tw6490247376895032146:=()
def tw9701709668027998599:=()
def tw7136014198001304577:=()
def tw2758343470705919489:=()
def tw16281015227119422902:=()
def tw16357198702333561970:=()
def tw8413355724694671686:=()
def tw8390442337446699439:=()
def tw12031242682222216080:=()
def tw14028796652347563682:=()
def tw10557668054004761438:=()
def tw12514762847287424219:=()
def tw13245475983120885285:=()
def tw13887574911077741911:=()
def tw14846471716836615131:=()
def tw322057200846207556:=()
def tw768361320658335471:=()
def tw138649807251428872:=()
def tw10220926836731240697:=()
def tw13863802226281230357:=()
def tw11352008895627406516:=()
def tw14812990799197118247:=()
def tw10125029428499765544:=()
def tw17796336610021622530:=()
def tw2295287280623866680:=()
def tw5612570071179411627:=()
def tw5762343344556888262:=()
def tw18098600072964812982:=()
def tw10591511504636384397:=()
def tw13705360891297149099:=()
def tw13746668322255056588:=()
def tw13152797124935750960:=()
def tw16551896450857034735:=()
def tw18080426991613481548:=()
def tw17459821643786420853:=()
def tw2647766481990285722:=()
def tw4543461601579988562:=()
def tw6814566164737650148:=()
def tw17242608671318444024:=()
def tw7954421644201328036:=()
def tw4911931412430501273:=()
def tw16904376403821859286:=()
def tw12379639584143315924:=()
def tw17366144822204494108:=()
def tw5506164662940763173:=()
def tw4221787211121974401:=()
def tw13057526684084445614:=()
def tw17284351828204346182:=()
def tw14084877115189289883:=()
def tw5916066131556303406:=()
def tw10951392447414631375:=()
def tw14073372205445036129:=()
def tw15126389268892023167:=()
def tw9509337016201012900:=()
def tw846892564699400854:=()
def tw8234124660247548069:=()
def tw8835387614385912264:=()
def tw6421511897156072110:=()
def tw15683924348542282635:=()
def tw4023287167844378053:=()
def tw17695935369180588640:=()
def tw8130904714580093558:=()
def tw7453117025594665993:=()
def tw13303728675381564877:=()
def tw8326247697707610111:=()
def tw7716990177243919218:=()
def tw10705541896840583050:=()
def tw11040504274617226781:=()
def tw14318761081753441202:=()
def tw8493125904088451805:=()
def tw17649321845437337249:=()
def tw15285650069103088904:=()
def tw7463223925481715642:=()
def tw2253407593078685881:=()
def tw11593837375987019701:=()
def tw2834235929982268196:=()
def tw14784230447644001464:=()
def tw12845077355246833116:=()
def tw15869347520853365355:=()
def tw17971969151538811869:=()
def tw788547433565595593:=()
def tw16947859067759529427:=()
def tw1068495973615144886:=()
def tw17829866279795016078:=()
def tw13531412475106592962:=()
def tw4890795485112286155:=()
def tw5900985809461154198:=()
def tw4479770216388254004:=()
def tw11948654809703513833:=()
def tw5765739434183873759:=()
def tw18094611090176197631:=()
def tw2715176061012225143:=()
def tw9665184334539027510:=()
def tw10959187270589189715:=()
def tw1426431185611128316:=()
def tw1873435855340028274:=()
def tw6817040202773779243:=()
def tw4949953080292738822:=()
def tw6947836077369150919:=()
def tw2617394915606384649:=()
def tw3024761020356517966:=()
def tw15772990141740931449:=()
def tw3697901960306795037:=()
def tw6691517303840299690:=()
def tw2828331998562079572:=()
def tw3467629989062622439:=()
def tw3687026925206969807:=()
def tw3462913152689282651:=()
def tw10181681683688896387:=()
def tw8559217599583463034:=()
def tw16641983342826582590:=()
def tw10283721399955340068:=()
def tw14590830424493390291:=()
def tw10225154561890449831:=()
def tw13791219093026858167:=()
def tw3025524705467577259:=()
def tw12331346834974553606:=()
def tw16875724743158914340:=()
def tw6591138157371871131:=()
def tw16154942520000598971:=()
def tw18178983944375577653:=()
def tw892564166340866207:=()
def tw17908615660683966367:=()
def tw5150429981432589931:=()
def tw1792461152482451927:=()
def tw6852543684175774343:=()
def tw4281601048671309357:=()
def tw1053334298190104125:=()
def tw11431761602125305818:=()
def tw8554962736905367351:=()
def tw10104235559047979506:=()
def tw8575149311361334715:=()
def tw13573496375768428806:=()
def tw1558088796206755942:=()
def tw12999198374761489033:=()
def tw11270413226150513724:=()
def tw16507179263107799313:=()
def tw1683269217595134695:=()
def tw1970517521083492936:=()
def tw18288107095513689317:=()
def tw3375422062040524823:=()
def tw18360153900428624329:=()
def tw14773122165218921635:=()
def tw11807784880396227899:=()
def tw16454063762307051906:=()
def tw6042409546892006241:=()
def tw9095949181319518410:=()
def tw16135944802294658808:=()
def tw4523734851971650698:=()
def tw6945601424704537518:=()
def tw7351074442381434729:=()
def tw16581398148234766818:=()
def tw16036598549265641558:=()
def tw13537536999552033012:=()
def tw18214866297298479412:=()
def tw15132568906075042310:=()
def tw11540972714385264197:=()
def tw13327143537106391712:=()
def tw9345919736622582156:=()
def tw12386697819059597769:=()
def tw15580879907871857833:=()
def tw18162545525038092299:=()
def tw1012723046622538374:=()
def tw18081632587189052138:=()
def tw7360185855049807770:=()
def tw12023847494647346498:=()
def tw9842357559962456634:=()
def tw23126916438343385:=()
def tw1912579160033617457:=()
def tw4889139186828991232:=()
def tw17831075023928285677:=()
def tw14136144375351124606:=()
def tw317155654528568113:=()
def tw1219182344184908881:=()
def tw10668727214567914056:=()
def tw6025797541645005645:=()
def tw12149830366350209370:=()
def tw14168494589537071927:=()
def tw11819526754314423565:=()
def tw14346950500107120166:=()
def tw3336830890753177292:=()
def tw10188268459529487218:=()
def tw4924415271786571878:=()
def tw15566006209684943899:=()
def tw5568273842895919426:=()
def tw11532547298042334145:=()
def tw4713720168152375710:=()
def tw14462252711418273879:=()
def tw15802843505686905127:=()
def tw17077952092057485718:=()
def tw2033397606141501703:=()
def tw6214456617443194229:=()
def tw9282704413522980000:=()
def tw5145888412657810507:=()
def tw17950286364718146016:=()
def tw11010862229498434992:=()
def tw16184967430015764569:=()
def tw7552329436412991272:=()
def tw18335675788574594053:=()
def tw338785742181481265:=()
def tw14146894482306517936:=()
def tw1043517679417171398:=()
def tw14046304851835806175:=()
def tw5140525742394284715:=()
def tw322111790276814396:=()
def tw17208425156934215183:=()
def tw6939455563854146777:=()
def tw10560769373449638558:=()
def tw9109969423439628013:=()
def tw7605206942562804218:=()
def tw11223290685536910568:=()
def tw15791100665260956546:=()
def tw10837846044910547438:=()
def tw18197866789120560976:=()
def tw3658582024485904438:=()
def tw18299999592708705291:=()
def tw12371079750669096182:=()
def tw15337339815984321644:=()
def tw3128072671075589759:=()
def tw18385327816702221326:=()
def tw7934733934634185307:=()
def tw12404005361607209809:=()
def tw12130665039087517180:=()
def tw2711883283041763085:=()
def tw13212806659918944048:=()
def tw14979011854532247039:=()
def tw823525089967014633:=()
def tw14262793236916685004:=()
def tw8216829295699296871:=()
def tw2975823036103330054:=()
def tw10477315828207295815:=()
def tw5772386307084246504:=()
def tw17654612298297086003:=()
def tw13182151810423427925:=()
def tw1204078475962548910:=()
def tw17988075708707551574:=()
def tw1594518739570646635:=()
def tw16661745470286197078:=()
def tw17297923584139751107:=()
def tw9836247191150783334:=()
def tw3377559915054352144:=()
def tw1262171334045171237:=()
def tw13107437048312425462:=()
def tw785170325641511204:=()
def tw14478400912258607618:=()
def tw5732551784485792888:=()
def tw2563512043775248822:=()
def tw7524697163755180853:=()
def tw6245601909249681879:=()
def tw12351184347933231040:=()
def tw17361524360212281295:=()
def tw6126961434975765362:=()
def tw5790692701234680614:=()
def tw16738348217414132475:=()
def tw1887035459467579379:=()
def tw12757580244894148680:=()
def tw3181023178927401814:=()
def tw11873183669364242269:=()
def tw322226741141866925:=()
def tw17628136979805151861:=()
def tw8232530063213337268:=()
def tw1166659125190348271:=()
def tw15065091079041499879:=()
def tw14204829364938151946:=()
def tw11397301387032231887:=()
def tw240175203982992612:=()
end PySem.W.Fast
open PySem PySem.W PyProof.Rows
set_option maxHeartbeats 0 in
theorem PySem.Challenge.cw_inkloom_k31_texts_entered_holds : PySem.Challenge.rw_inkloom_k31_texts_entered.Holds := by
 w_on;o_law;k_head;(case hw=>w_witness2)
 k_fill
 refine L2.lS.walk (l:=PySem.Challenge.rw_inkloom_k31_texts_entered) rfl rfl (λw h Y=>PySem.W.kIn_of Y) ?F
 case F=>
  intro w mg fa h KX G j8
  refine' L2.lS.all_mk KX G j8 ..
  all_goals try first | refine' L2.dfk .. | refine' L2.aiq .. | refine' L2.AJ.mk .. | refine' L2.dmk .. | refine' L2.aip .. | refine' L2.aio .. | refine' L2.pF.mk .. | refine' L2.uk.mk (L2.sf.mk ..) .. | refine' L2.B.sO.mk (L2.gu.mk ..) .. | refine' L2.B.nh.mk (L2.gu.mk ..) ..
  all_goals try refine' L2.air ..
  all_goals try first | k_is | k_exc | kernel_rfl
