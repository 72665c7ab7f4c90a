import PyProof.Rows.All
import Wide.All
import OpenK.AllK
import Wide.FinOn
import Lean
import PyProof.EqAt
import PyProof.EqKinds
import PyProof.TupleCall
import PyProof.Rows.EqDataRows
import PyProof.DictList
import PyProof.FactsAll.dict_1
import PyProof.FactsAll.subtypes_4
import KE.KTryMore
import PyProof.WalksEnum
import PyProof.EnumMake
import PyProof.ListStr
import PyProof.TupleOfStr
import PyProof.Dict
import PyProof.ToksMono
import PyProof.StrCalls6
import PyProof.StrWalks
import PyProof.ConsumeWalk
import PyProof.CallStr
import PyProof.MeetsStr
import KE.KIntText
import PyProof.StrCalls2
import PyProof.StrOps2
import KE.KDictSum
import PyProof.ReprRoads
import PyProof.CallFns
import KE.KDictOf
import PyProof.DictTruth
import PyProof.ListRange
import KE.KRevIter
import PyProof.Rows.Range3
import KE.KSortTup
import PyProof.WalksMore
import PyProof.TupleIter
import PyProof.SliceList
import PyProof.ZipIter
import PyProof.ListNew
import PyProof.StrLawsIn
import PyProof.Rows.StrCut
import PySem.Challenge.RW_inkloom_k39_letters_refused
set_option Elab.async false
set_option linter.all false
set_option maxRecDepth 100000
set_option compiler.extract_closed false
noncomputable section
namespace Internal
def AC:=@PySem.wpAny_bind
def AT:=@if_neg
def BT:=@if_pos
def Ch:=@PySem.wpAny_pure
def Cl:=@congrArg
def Db:=@PySem.Paired.length
def Do:=@PySem.Heap.lt_size
def Ev:=@decide_eq_true_eq
def EQ:=@PySem.Heap.get?_push_of_some
def Fa:=@Ne.symm
def Fk:=@PySem.wpAny_mono
def Fr:=@or_false
def FM:=@PySem.wpAny_holding
def Gc:=@PySem.Heap.get?_push_size
def Go:=@PySem.mem_of_lookup
def GE:=@if_false
def GM:=@PySem.Heap.size_push
def GT:=@if_true
def Id:=@PySem.wpAny_field
def Ix:=@PySem.call_meets
def IN:=@PySem.Paired.snoc
def IO:=@of_decide_eq_true
def IR:=@PySem.F.plainAttrs_list
def KB:=@beq_iff_eq
def KF:=@PySem.wpAny_passesOwn
def KK:=@PySem.wpAny_Call_Name_kw
def KM:=@PySem.wpAny_newObj_type
def LE:=@PySem.Heap.get?_update_other
def MZ:=@PySem.wpAny_standAt
def M2:=@PySem.codeAny_mono
def No:=@LawfulBEq.eq_of_beq
def NE:=@PySem.lookup_relabel_local
def On:=@PySem.wpAny_truthy_bool
def Op:=@PyProof.Rows.callWith_type1
def Os:=@PySem.sizeLine_eq
def Pi:=@PySem.typeIs_str
def PP:=@PySem.F.plainAttrs_str
def Re:=@Nat.ne_of_gt
def Rs:=@PySem.Heap.get?_update_self
def Sc:=@Nat.lt_trans
def SL:=@PySem.wpAny_attempt
def ST:=@Nat.sub_self
def SZ:=@PySem.wpAny_pyNext_list_item
def Tk:=@PySem.wpAny_pyIter_list
def Tm:=@PySem.Calls.spliced_nil
def TD:=@PySem.Calls.spliced_cons
def TW:=@PySem.wpAny_callSpecial?_slot
def Uf:=@PyProof.Rows.subscriptTail_builtinR
def UF:=@PySem.Calls.callWith_builtin
def UV:=@PySem.Calls.evalArgs_plain
def Wp:=@PySem.F.slot_list_append
def WF:=@Option.isSome_map
def WG:=@PySem.tupleKind_room_in1
def WH:=@PySem.Obj.isFreed_of_fields
def WP:=@List.take_add_one
def XL:=@PyProof.Rows.slot_tuple_getitem
def XV:=@List.take_succ_eq_append_getElem
abbrev wl:=PySem.Addr
abbrev wn:=PySem.Shared
abbrev wv:=PySem.Value
abbrev ww:=PySem.Program
abbrev wE:=PySem.World
abbrev wP:=PySem.Around
abbrev wS:=PySem.Stmt
abbrev wT:=PySem.Heap
abbrev xz:=Bool
abbrev x0:=PySem.FuncData
abbrev zn:=String
abbrev zv:=PySem.PyData
section
open PySem PySem.Spec PyProof.Rows
abbrev ac:=List Str
abbrev ad:=List (wl×Obj)
abbrev aW:=wv->wn->Prop
abbrev bn:=List Nat
abbrev bv:=Str->Option wv
abbrev ce:=List wv
abbrev db:=List wl
abbrev em:=List (Str×wl)
abbrev eJ:=List (Str×Nat)
abbrev im:=List Expr
abbrev io:=Option Int
abbrev j_:=Array wv
abbrev lm:=Option wl
abbrev pi:=List wS
abbrev pp:=Option wv
abbrev pr:=List Int
abbrev sw:=Unit->wn->Prop
abbrev tz:=List Env
abbrev ul:=List (Str×NameKind)
abbrev v0:=List (Str×wv)
abbrev v4:=Option Nat
end
theorem O{b:Sort u}{a:b}:a=a:=rfl
theorem dz:1≤PySem.sizeLine:=by decide
theorem bQ:2≤PySem.sizeLine:=by decide
theorem yU:3≤PySem.sizeLine:=by decide
theorem G4:4≤PySem.sizeLine:=by decide
theorem j0:5≤PySem.sizeLine:=by decide
theorem RA:6≤PySem.sizeLine:=by decide
open PySem.W (Frag InstAt callWith_K cellsFrom_some codeRec_of emptyDict exmOne handedIn hasDictIn hideAll hideAll_get instObj kia_one kitOne kitx_dict kitx_list lookIn makesIn methodObj nsIn of_hideAll plainGet plainGet_of plainOver takerIn)
theorem zqT{p:Prop}[Decidable p](h:p):decide p=true:=decide_eq_true h
theorem zqF{p:Prop}[Decidable p](h: ¬p):decide p=false:=decide_eq_false h
theorem zqA{α:Type}{a b:List α}:(a++b).length=a.length+b.length:=List.length_append
theorem zqR(n:Nat):n≤n:=Nat.le_refl n
theorem zqZ(n:Nat):0≤n:=Nat.zero_le n
def zaa:=@Bool.and_eq_true
def zac:=@List.append_nil
def zad:=@List.mem_cons
def zae:=@List.not_mem_nil
def zaf:=@List.length_map
def zag:=@List.mem_singleton
def zah:=@List.size_toArray
def zai:=@Nat.ne_of_lt
def zaj:=@Option.some.inj
def zak:=@List.mem_append
def zal:=@Bool.false_ne_true
def zam:=@List.append_assoc
def zan:=@List.getElem?_map
def zao:=@Nat.lt_of_lt_of_le
def zap:=@Nat.le_trans
def zaq:=@Nat.le_of_ble_eq_true
def zar:=@List.mem_cons_of_mem
def zas:=@List.mem_cons_self
def zat:=@List.getElem?_eq_some_iff
def zau:=@List.mem_append_right
def zav:=@List.length_take
def zaw:=@List.mem_of_getElem?
def zax:=@List.getElem?_eq_getElem
def zay:=@List.map_append
def zaz:=@List.length_cons
def zaA:=@List.map_cons
def zaB:=@Int.toNat_natCast
def zaC:=@List.length_drop
def zaD:=@List.length_eq_zero_iff
def zaE:=@Bool.true_xor
def zaF:=@List.replicate_succ
def zaG:=@Bool.false_xor
def zaH:=@List.find?_cons
def zaI:=@Int.le_refl
def zaJ:=@Bool.not_eq_true'
def zaK:=@Int.eq_ofNat_of_zero_le
def zaL:=@Nat.lt_irrefl
def zaM:=@List.take_of_length_le
def zaN:=@List.length_range
def zaO:=@List.take_length
def zaP:=@List.sum_cons
def zaQ:=@List.mem_append_left
def zaR:=@List.length_set
def zaS:=@List.lookup_cons
def zaT:=@List.flatten_cons
def zaU:=@List.take_append_drop
def zaV:=@List.mem_of_mem_drop
def zaW:=@List.cons_append
def zaX:=@Nat.le_of_eq
def zaY:=@Nat.le_succ
def zaZ:=@List.getElem?_append_right
def zba:=@List.length_replicate
def zbb:=@List.map_nil
def zbc:=@List.all_cons
def zbd:=@Bool.false_eq_true
def zbe:=@List.getD_eq_getElem?_getD
def zbf:=@Int.natCast_add
def zbg:=@Nat.le_of_lt
def zbh:=@List.any_cons
def zbi:=@Nat.le_of_succ_le
def zbj:=@List.drop_zero
def zbk:=@List.all_eq_true
def zbl:=@List.drop_eq_getElem_cons
def zbm:=@List.getElem?_set_self
def zbn:=@Bool.eq_iff_iff
def zbo:=@Nat.lt_succ_self
def zbp:=@List.nodup_cons
def zbq:=@List.of_mem_zip
def zbr:=@Option.isSome_iff_exists
def zbs:=@Bool.or_false
def zbt:=@List.length_nil
def zbu:=@Option.map_some
def zbv:=@List.lookup_append
def zbw:=@Nat.lt_succ_of_lt
def zbx:=@Bool.or_eq_true
def zby:=@List.getElem_mem
def zbz:=@List.drop_length
def zbA:=@List.mem_of_mem_take
def zbB:=@Nat.le_add_left
def zbC:=@List.filterMap_cons
def zbD:=@Array.length_toList
def zbE:=@List.mem_filterMap
def zbF:=@List.getElem?_append_left
def zbG:=@List.length_singleton
def zbH:=@List.length_dropLast
def zbI:=@List.length_filter_le
def zbJ:=@Option.ne_none_iff_exists'
def zbK:=@Array.eq_empty_of_size_eq_zero
def zbL:=@List.getLast?_append
def zbM:=@List.getElem?_range
open PySem PySem.Spec
section
open PyProof.Rows
abbrev Key:=Sum Int Str
abbrev mo:=List (List Key×wl×wv)
def tT:Key->wv->xz
 |.inl k,v=>Value.isInt k v
 |.inr x,v=>Value.isStrOf x v
def RB(w:wE):Key->Int
 |.inl k=>hashInt k
 |.inr x=>hashStr w x
theorem mY:∀{k:Key}{v:wv},tT k v=true->(∃i t,k=Sum.inl i/\v=Value.int i t)\/(∃x t,k=Sum.inr x/\v=Value.str x t)
 |.inl i,v,h=>by
  obtain⟨t,e⟩:=Value.isInt_shape (k:=i) (v:=v) h;exact .inl ⟨i,t,rfl,e⟩
 |.inr x,v,h=>by
  obtain⟨t,e⟩:=Value.isStrOf_shape (x:=x) (v:=v) h;exact .inr ⟨x,t,rfl,e⟩
theorem RC(i:Int)(t:Tok):tT (.inl i) (.int i t)=true:=by simp[tT,Value.isInt]
theorem RD(x:Str)(t:Tok):tT (.inr x) (.str x t)=true:=by simp[tT,Value.isStrOf]
theorem RF(a b:Int):decide ((Sum.inl a:Key)=Sum.inl b)=(a==b):=by
 by_cases e:a=b
 ·subst e;simp
 ·have h:¬(Sum.inl a:Key)=Sum.inl b:=λq=>e (Sum.inl.inj q);rw[zqF h];exact(beq_eq_false_iff_ne.mpr e).symm
theorem RG(a b:Str):decide ((Sum.inr a:Key)=Sum.inr b)=decide (a=b):=by
 by_cases e:a=b
 ·subst e;simp
 ·have h:¬(Sum.inr a:Key)=Sum.inr b:=λq=>e (Sum.inr.inj q);rw[zqF h,zqF e]
theorem RH(a:Int)(b:Str):decide ((Sum.inl a:Key)=Sum.inr b)=false:=zqF (λq=>nomatch q)
theorem RJ(a:Str)(b:Int):decide ((Sum.inr a:Key)=Sum.inl b)=false:=zqF (λq=>nomatch q)
def fU(prog:ww)(w:wE):PySem.KeyKind prog w Key where
 is:=tT
 hash:=RB w
 inj:=λv a b ha hb=>by
  rcases mY ha with⟨i,t,rfl,rfl⟩|⟨x,t,rfl,rfl⟩
  ·rcases mY hb with⟨j,u,rfl,e⟩|⟨y,u,rfl,e⟩
   ·injection e with e1 _;rw[e1]
   ·exact nomatch e
  ·rcases mY hb with⟨j,u,rfl,e⟩|⟨y,u,rfl,e⟩
   ·exact nomatch e
   ·injection e with e1 _;rw[e1]
 byValue:=λk v h=>by
  rcases mY h with⟨i,t,rfl,rfl⟩|⟨x,t,rfl,rfl⟩ <;>rfl
 pyHash:=λhv h=>by
  rcases mY hv with⟨i,t,rfl,rfl⟩|⟨x,t,rfl,rfl⟩
  ·exact wpAny_pyHash_int h
  ·exact wpAny_pyHash_str h
 eqBool:=λhu hv h=>by
  rcases mY hu with⟨i,t,rfl,rfl⟩|⟨x,t,rfl,rfl⟩
  ·rcases mY hv with⟨j,u,rfl,rfl⟩|⟨y,u,rfl,rfl⟩
   ·rw[RF] at h;exact wpAny_eqBool_int h
   ·rw[RH] at h;exact SeqAt.EqAt.int_str i t y u _ _ _ _ h
  ·rcases mY hv with⟨j,u,rfl,rfl⟩|⟨y,u,rfl,rfl⟩
   ·rw[RJ] at h;exact SeqAt.EqAt.str_int x t j u _ _ _ _ h
   ·rw[RG] at h;exact wpAny_eqBool_str h
 «strs»:=λk x t v h=>by
  rcases mY h with⟨i,u,rfl,e⟩|⟨y,u,rfl,e⟩
  ·exact nomatch e
  ·injection e with e1 _
   subst e1;cases v<;>rfl
theorem G5(prog:ww)(w:wE)(i:Int)(t:Tok):(fU prog w).is (.inl i) (.int i t)=true:=RC i t
theorem G6(prog:ww)(w:wE)(x:Str)(t:Tok):(fU prog w).is (.inr x) (.str x t)=true:=RD x t
inductive V where
 |av|bl (b:xz)|int (i:Int)|str (x:Str)|gZ (b:Array UInt8)|gI (b:UInt64)|ref (a:wl)|ty (n:zn)
 deriving DecidableEq
abbrev sK:=Option V
abbrev on:=List (List Key×V)
abbrev ii:=List (Key×V)
abbrev cr:=List (Str×V)
abbrev be:=List V
def RelV:V->wv->Prop
 |.av,u=>u=Value.none
 |.bl b,u=>u=Value.bool b
 |.int i,u=>∃t,u=Value.int i t
 |.str x,u=>∃t,u=Value.str x t
 |.gZ b,u=>∃t,u=Value.bytes b t
 |.gI b,u=>∃t,u=Value.float b t
 |.ref a,u=>u=Value.ref a
 |.ty n,u=>u=Value.type n
abbrev Vals:be->ce->Prop:=Paired RelV
theorem Vals.length{xs:be}{us:ce}(r:Vals xs us):xs.length=us.length:=Db r
theorem Vals.get:∀{xs:be}{us:ce}{i:Nat}{x:V},Vals xs us->xs[i]?=some x->∃u,us[i]?=some u/\RelV x u:=by
 intro _ _ i x h
 induction h generalizing i with
 |nil=>intro e;simp at e
 |cons r _ ih=>
  intro e;cases i with
  |zero=>simp at e;subst e;exact⟨_,rfl,r⟩
  |succ i=>
   obtain⟨u,h1,h2⟩:=ih (by simpa using e)
   exact⟨u,by simpa using h1,h2⟩
theorem Vals.set{x:V}{u:wv}(r:RelV x u):∀{xs:be}{us:ce} (i:Nat),Vals xs us->Vals (xs.set i x) (us.set i u)
 |_,_,_,.nil=>.nil
 |_,_,0,.cons _ t=>.cons r t
 |_,_,i+1,.cons q t=>.cons q (Vals.set r i t)
theorem Vals.append:∀{xs ys:be}{us ws:ce},Vals xs us->Vals ys ws->Vals (xs++ys) (us++ws):=by
 intro _ _ _ _ h s
 induction h with
 |nil=>exact s
 |cons r _ i=>exact .cons r i
theorem Vals.take:∀{xs:be}{us:ce} (n:Nat),Vals xs us->Vals (xs.take n) (us.take n)
 |_,_,0,_=>.nil
 |_,_,_+1,.nil=>.nil
 |_,_,n+1,.cons r t=>.cons r (Vals.take n t)
theorem Vals.drop:∀{xs:be}{us:ce} (n:Nat),Vals xs us->Vals (xs.drop n) (us.drop n)
 |_,_,0,r=>r
 |_,_,_+1,.nil=>.nil
 |_,_,n+1,.cons _ t=>Vals.drop n t
def iI:sK->pp->Prop
 |some v,some u=>RelV v u
 |none,none=>True
 |_,_=>False
def KV{κ:Type}:List (κ×V)->List (κ×wv)->Prop:=Paired fun(p:κ×V) (q:κ×wv)=>p.1=q.1/\RelV p.2 q.2
def kV:Key->V
 |.inl i=>.int i
 |.inr x=>.str x
inductive HO where
 |lst (xs:be)
 |tup (xs:be)
 |dK (az:ii)|dT (az:on)
 |set (S:Int->xz) (n:Nat)
 |ins (C dx:wl) (fs:cr)
 |own (x:wl)
 |xd (fs:cr)
 |met (f x:wl)
 |jt (lo hi:Int)
 |bW (o:Obj) (u:HO)
 |lU (ps:j_)
 |ext (φ:wT->Prop)
abbrev Hp:=wl->Option HO
abbrev ge:=xz->Hp->Prop
def upd(H:Hp)(a:wl)(o:HO):Hp:=λb=>if b=a then some o else H b
theorem aw{H:Hp}{a:wl}{o:HO}:upd H a o a=some o:=by unfold upd;rw[BT rfl]
theorem aC{H:Hp}{a b:wl}{o:HO}(h:b≠a):upd H a o b=H b:=by unfold upd;rw[AT h]
theorem yV{H:Hp}{a:wl}{o u:HO}:upd (upd H a o) a u=upd H a u:=by
 funext b;unfold upd;split<;>rfl
theorem bX{H:Hp}{a b:wl}{o u:HO}(h:H a=some o)(h':H b=some u)(d:o≠u):a≠b:=by
 intro e;subst e;rw[h] at h';exact d (zaj h')
theorem aO{H:Hp}{a b:wl}{o:HO}(h:H a=some o)(h':H b=none):a≠b:=by
 intro e;subst e;rw[h] at h';cases h'
section
variable (P:ww) (w:wE)
def cP(H:Hp)(h:wT)(a:wl):HO->Prop
 |.lst xs=>xs.length<=sizeLine/\∃(ay:ce) (n:Nat),Vals xs ay/\h.get? a=some {cls:=.type "list",data:=.seq ay.toArray n}
 |.tup xs=>xs.length<=sizeLine/\∃ay:ce,Vals xs ay/\IsTup h a ay.toArray
 |.dK az=>az.length<=sizeLine/\(a==sysModules)=false/\∃vs,KV az vs/\h.DictOf (fU P w) a vs
 |.dT az=>az.length<=sizeLine/\(a==sysModules)=false/\∃xs:mo,
   Paired (fun(p:List Key×V) (q:List Key×wl×wv)=>p.1=q.1/\H q.2.1=some (.tup<|p.1.map kV)/\RelV p.2 q.2.2) az xs/\
   ∃o es ep,h.get? a=some o/\o.ExactDict/\o.data=.dict es ep/\es.toList=xs.map (entryOfKey<|tupleKind<|fU P w)/\(xs.map (·.1)).Nodup
 |.set S n=>h.SetOf (intKind P w) a S n
 |.ins C dx fs=>H dx=some (.own a)/\fs.length<=1000/\dx≠a/\h.get? a=some (instObj C dx)/\
   ∃mA,h.Ns1 dx mA/\(∀f,iI (fs.lookup f)<|mA f)/\PySem.Within mA (fs.map (·.1))
 |.own _=>∃o,h.get? a=some o
 |.xd fs=>∃mA,h.Ns1 a mA/\∀f,iI (fs.lookup f) (mA f)
 |.jt lo hi=>∃t u v,h.get? a=some {cls:=.type "range",data:=.fields #[.int lo t,.int hi u,.int 1 v]}
 |.bW o u=>h.get? a=some o/\cP H h a u
 |.lU ps=>h.get? a=some {cls:=.none,data:=.fields ps}
 |.met f x=>h.get? a=some (methodObj (.ref f)<|.ref x)
 |.ext φ=>φ h/\(∃o,h.get? a=some o)/\∀h1 h2:wT,φ h1->(∀o,h1.get? a=some o->h2.get? a=some o)->φ h2
def cC(H:Hp)(h:wT):Prop:= ∀a o,H a=some o->cP P w H h a o
end
section
variable {P:ww}{w:wE}{H g:Hp}{h h':wT}{a:wl}{o:HO}
theorem cP.lt(x:cP P w H h a o):a<h.objs.size:=by
 cases o with
 |lst xs=>obtain⟨_,_,_,_,e⟩:=x;exact Do e
 |tup xs=>obtain⟨_,_,_,p⟩:=x;exact p.lt
 |dK az=>obtain⟨_,_,_,_,o,_,_,e,_⟩:=x;exact Do e
 |dT az=>obtain⟨_,_,_,_,o,_,_,e,_⟩:=x;exact Do e
 |set S n=>obtain⟨o,_,_,_,e,_⟩:=x;exact Do e
 |ins C dx fs=>obtain⟨_,_,_,e,_⟩:=x;exact Do e
 |own y=>obtain⟨_,e⟩:=x;exact Do e
 |xd fs=>obtain⟨_,⟨_,_,_,e,_⟩,_⟩:=x;exact Do e
 |jt lo hi=>obtain⟨_,_,_,e⟩:=x;exact Do e
 |bW ob u=>obtain⟨e,_⟩:=x;exact Do e
 |lU ps=>exact Do (show h.get? a=some _ from x)
 |met f y=>exact Do (show h.get? a=some _ from x)
 |ext φ=>obtain⟨_,⟨_,e⟩,_⟩:=x;exact Do e
theorem Paired.g6{α β:Type}{F G:α->β->Prop}:∀{l₁:List α}{l₂:List β},Paired F l₁ l₂->(∀a b,F a b->G a b)->Paired G l₁ l₂:=by
 intro _ _ h f
 induction h with
 |nil=>exact .nil
 |cons r _ i=>exact .cons (f _ _ r) i
theorem cP.oU(x:cP P w H h a o)(k:∀b u,(b=a\/H b=some (.own a))->h.get? b=some u->h'.get? b=some u)
  (ho:∀b,H b=some (.own a)->g b=some (.own a)) (ht:∀b xs,H b=some (.tup xs)->g b=some (.tup xs)):cP P w g h' a o:=by
 induction o with
 |lst xs=>obtain⟨z,ay,n,r,e⟩:=x;exact⟨z,ay,n,r,k _ _ (.inl rfl) e⟩
 |tup xs=>obtain⟨z,ay,r,ob,e,c⟩:=x;exact⟨z,ay,r,ob,k _ _ (.inl rfl) e,c⟩
 |dK az=>obtain⟨z,y,vs,r,ob,es,ep,e,c⟩:=x;exact⟨z,y,vs,r,ob,es,ep,k _ _ (.inl rfl) e,c⟩
 |dT az=>
  obtain⟨z,y,xs,r,ob,es,ep,e,c⟩:=x;exact⟨z,y,xs,Paired.g6 r λp q z=>⟨z.1,ht _ _ z.2.1,z.2.2⟩,ob,es,ep,k _ _ (.inl rfl) e,c⟩
 |set S n=>obtain⟨ob,es,ep,t,e,c⟩:=x;exact⟨ob,es,ep,t,k _ _ (.inl rfl) e,c⟩
 |ins C dx fs=>
  obtain⟨d,z,ne,e,mA,⟨od,es,ep,e2,c⟩,r⟩:=x;exact⟨ho _ d,z,ne,k _ _ (.inl rfl) e,mA,⟨od,es,ep,k _ _ (.inr d) e2,c⟩,r⟩
 |own y=>obtain⟨ob,e⟩:=x;exact⟨ob,k _ _ (.inl rfl) e⟩
 |xd fs=>obtain⟨mA,⟨od,es,ep,e,c⟩,r⟩:=x;exact⟨mA,⟨od,es,ep,k _ _ (.inl rfl) e,c⟩,r⟩
 |jt lo hi=>obtain⟨t,u,v,e⟩:=x;exact⟨t,u,v,k _ _ (.inl rfl) e⟩
 |bW ob u ih=>obtain⟨e,q⟩:=x;exact⟨k _ _ (.inl rfl) e,ih q⟩
 |lU ps=>
  have e:h.get? a=some {cls:=.none,data:=.fields ps}:=x;show h'.get? a=some {cls:=.none,data:=.fields ps};exact k a _ (.inl rfl) e
 |met f y=>
  have e:h.get? a=some (methodObj (.ref f)<|.ref y):=x;show h'.get? a=some (methodObj (.ref f)<|.ref y);exact k a _ (.inl rfl) e
 |ext φ=>obtain⟨p,⟨o,e⟩,st⟩:=x;exact⟨st _ _ p λo q=>k _ _ (.inl rfl) q,⟨o,k _ _ (.inl rfl) e⟩,st⟩
theorem cC.lt(x:cC P w H h)(e:H a=some o):a<h.objs.size:=(x a o e).lt
theorem cC.fresh(x:cC P w H h)(e:h.objs.size<=a):H a=none:=by
 cases q:H a with
 |none=>rfl
 |some u=>exact absurd (zao (x.lt q) e) (zaL _)
theorem cC.kept(x:cC P w H h)(k:∀b u,h.get? b=some u->h'.get? b=some u):cC P w H h':=λa o e=>
 (x a o e).oU (λb u _ q=>k b u q) (λ_ q=>q) λ_ _ q=>q
theorem cC.laid(x:cC P w H h)(k:∀b u,h.get? b=some u->h'.get? b=some u)(hp:h.objs.size<=a)(new:cP P w (upd H a o) h' a o):cC P w (upd H a o) h':=λb u e=>by
 have hn:=x.fresh hp;by_cases hb:b=a
 ·subst hb;rw[aw] at e;cases e;exact new
 ·rw[aC hb] at e;exact(x b u e).oU (λc v _ q=>k c v q) (λc q=>by rw[aC<|aO q hn];exact q) λc xs q=>by rw[aC<|aO q hn];exact q
end
def Rd(H:Hp)(a:wl)(u:HO):Prop:=H a=some u\/∃o,H a=some (.bW o u)
theorem Rd.ok{P:ww}{w:wE}{H:Hp}{h:wT}{a:wl}{u:HO}(r:Rd H a u)(x:cC P w H h):cP P w H h a u:=by
 rcases r with r|⟨o,r⟩
 ·exact x a u r
 ·obtain⟨_,q⟩:=x a _ r;exact q
def vU:Option HO->Prop
 |some (.lst _)=>True
 |some (.dK _)=>True
 |some (.dT _)=>True
 |some (.set _ _)=>True
 |some (.ins _ _ _)=>True
 |some (.ext _)=>True
 |_=>False
section
variable {P:ww}{w:wE}{H:Hp}{h a:wT}{x e:wl}{d:HO}
theorem cC.write(ok:cC P w H h)(mu:vU (H x))(he:e=x\/H e=some (.own x))(k:∀b u,b≠e->h.get? b=some u->a.get? b=some u)(tU:∃u,a.get? e=some u)
  (new:cP P w (upd H x d) a x d):cC P w (upd H x d) a:=λb u q=>by
 have G7:∀c y,H c=some (.own y)->c≠x:=λc y r z=>by subst z;rw[r] at mu;exact mu
 have RK:∀c xs,H c=some (.tup xs)->c≠x:=λc xs r z=>by subst z;rw[r] at mu;exact mu
 by_cases hb:b=x
 ·subst hb;rw[aw] at q;cases q;exact new
 ·rw[aC hb] at q;by_cases qR:b=e
  ·have q':H b=some (.own x):=by
    rcases he with z|z
    ·exact absurd (qR.trans z) hb
    ·rw[qR];exact z
   rw[q] at q';cases q';obtain⟨v,hv⟩:=tU;exact⟨v,by rw[qR];exact hv⟩
  ·refine(ok b u q).oU (λc v hc r=>k c v ?_ r) (λc r=>by rw[aC<|G7 c b r];exact r) λc xs r=>by rw[aC<|RK c xs r];exact r
   rcases hc with rfl|hc
   ·exact qR
   ·rintro rfl;rcases he with z|z
    ·exact G7 c b hc z
    ·rw[hc] at z;cases z;exact hb rfl
end
structure Un (fs ex:db) (H H':Hp) (h h':wT):Prop where
 keep:∀b o,h.get? b=some o->H b=none->b∉fs->b∉ex->h'.get? b=some o
 slot:∀b o,h.get? b=some o->H b=none->b∈fs->b∉ex->∃sl,h'.get? b=some {o with slots:=sl}
 free:∀b o,h.get? b=some o->H b=none->b∉ex->H' b=none
 there:∀b o,h.get? b=some o->b∉ex->∃o',h'.get? b=some o'
 eg:∀b xs,H b=some (.tup xs)->H' b=some (.tup xs)
 gJ:∀b o u,H b=some (.bW o u)->H' b=some (.bW o u)
 ij:∀b ps,H b=some (.lU ps)->∃more,H' b=some (.lU<|ps++more)
section
variable {c vV d ex':db}{H H1 H2:Hp}{h f h2 h':wT}{a x e:wl}{o:HO}
theorem Un.any(u:Un c d H H1 h f){b:wl}{ob:Obj}(q:h.get? b=some ob)(n:H b=none)(hx:b∉d):∃sl,f.get? b=some {ob with slots:=sl}:=by
 by_cases hb:b∈c
 ·exact u.slot b ob q n hb hx
 ·exact⟨ob.slots,u.keep b ob q n hb hx⟩
theorem Un.kept(k:∀b u,h.get? b=some u->h'.get? b=some u):Un c d H H h h':=
 ⟨λb ob q _ _ _=>k b ob q,λb ob q _ _ _=>⟨ob.slots,k b ob q⟩,λ_ _ _ n _=>n,λb ob q _=>⟨ob,k b ob q⟩,λ_ _ q=>q,λ_ _ _ q=>q,λ_ ps q=>⟨#[],by rw[q];simp⟩⟩
theorem Un.refl:Un c d H H h h:=Un.kept λ_ _ q=>q
theorem Un.laid(k:∀b u,h.get? b=some u->h'.get? b=some u)(hp:h.objs.size<=a)(hn:H a=none):Un c d H (upd H a o) h h' where
 keep:=λb u q _ _ _=>k b u q
 slot:=λb u q _ _ _=>⟨u.slots,k b u q⟩
 free:=λb u q n _=>by rw[aC<|zai<|zao (Do q) hp];exact n
 there:=λb u q _=>⟨u,k b u q⟩
 eg:=λb xs q=>by rw[aC<|aO q hn];exact q
 gJ:=λb u xs q=>by rw[aC<|aO q hn];exact q
 ij:=λb ps q=>⟨#[],by rw[aC<|aO q hn,q];simp⟩
theorem Un.write(mu:vU (H x))(he:e=x\/H e=some (.own x))(k:∀b u,b≠e->h.get? b=some u->h'.get? b=some u)(tU:∃u,h'.get? e=some u):Un c d H (upd H x o) h h':=by
 have hx:∀b,H b=none->b≠x:=λb n z=>by subst z;rw[n] at mu;exact mu
 have hb:∀b,H b=none->b≠e:=λb n z=>by
  subst z;rcases he with r|r
  ·exact hx b n r
  ·rw[n] at r;cases r
 have hm:∀b u,H b=some u-> ¬vU (some u)->b≠x:=λb u q nm z=>by subst z;rw[q] at mu;exact nm mu
 refine⟨λb u q n _ _=>k b u (hb b n) q,λb u q n _ _=>⟨u.slots,k b u (hb b n) q⟩,λb u q n _=>by rw[aC (hx b n)];exact n,λb u q _=>?_,
  λb xs q=>by rw[aC (hm b _ q λz=>z)];exact q,λb u xs q=>by rw[aC (hm b _ q λz=>z)];exact q,λb ps q=>⟨#[],by rw[aC (hm b _ q λz=>z),q];simp⟩⟩
 by_cases qR:b=e
 ·subst qR;exact tU
 ·exact⟨u,k b u qR q⟩
end
def lV(h:wT)(H:Hp):db:=(List.range h.objs.size).filter λa=>(H a).isSome
def mZ(h:wT)(H:Hp):wT:=hideAll h (lV h H)
theorem RL(h:wT)(H:Hp):(mZ h H).objs.size=h.objs.size:=PySem.W.hideAll_size _ _
theorem RM{h:wT}{H:Hp}{b:wl}{o:Obj}(e:h.get? b=some o)(n:H b=none):(mZ h H).get? b=some o:=
 hideAll_get _ e λhm=>by
  have q:(H b).isSome=true:=(List.mem_filter.mp hm).2;rw[n] at q;simp at q
theorem RN{h:wT}{H:Hp}{b:wl}{o:Obj}(e:(mZ h H).get? b=some o):h.get? b=some o/\H b=none:=by
 have e':h.get? b=some o:=of_hideAll (lV h H) e;refine⟨e',?_⟩;cases q:H b with
 |none=>rfl
 |some x=>
  have hm:b∈lV h H:=List.mem_filter.mpr ⟨List.mem_range.mpr<|Do e',by simp[q]⟩
  have z:(mZ h H).get? b=none:=PySem.W.hideAll_none (lV h H) hm;rw[z] at e;cases e
structure Mod (K:Frag) (mg:bv) (base:wT):Prop where
 qS:K.In base
 glob:base.Ns mainGlobals mg
 blt:∃mb,base.Ns builtinsNs mb/\∀x:Str,x≠"__name__"->mb x=bootBuiltins x
 nolimit:base.NoLimit
structure Cx where
 prog:ww
 w:wE
 K:Frag
 mg:Str->pp
 base:wT
 A:wP
 N:ac
 s₀:wn
 H₀:Hp
 env:Env
 outer:tz
 stack:tz
 ex:db
 fn:Str->xz
 calm:xz
 pn:ad
 xe:wv->wn->Prop
def cw(l:tz):db:=l.filterMap (·.frame)
abbrev Cx.fs(X:Cx):db:=cw X.outer
def yW(sc:Scope)(x:Str):Prop:=sc.names.lookup x=some .local\/sc.names.lookup x=some .cell\/sc.names.lookup x=some .free
def Loc(sc:Scope)(x:Str):Prop:=sc.names.lookup x=some .local\/sc.names.lookup x=some .cell
def Look(env:Env)(h:wT)(m:bv)(x:Str)(u:wv):Prop:=
 (env.kindOf x=some .local/\m x=some u)\/((env.kindOf x=some .cell\/env.kindOf x=some .free)/\∃c,env.cells.lookup x=some c/\h.IsCell c (some u))
structure Cx.Ok (X:Cx):Prop where
 mod:Mod X.K X.mg X.base
 kind:X.env.scope.kind=.function
 glob:X.env.globals=mainGlobals
 blt:X.env.builtins=builtinsNs
 above:X.s₀.heap.objs.size<=X.env.locals
 inj:∀x y c,X.env.cells.lookup x=some c->X.env.cells.lookup y=some c->x=y
 has:∀x,(X.env.kindOf x=some .cell\/X.env.kindOf x=some .free)->∃c,X.env.cells.lookup x=some c
 yX:∀x c,X.fn x=true->X.env.cells.lookup x=some c->X.s₀.heap.objs.size<=c
 hd:X.calm=true->X.A.handled=none
 frames:X.A.frames=some X.stack
 ju:X.stack=X.outer\/(X.stack=X.env::X.outer/\X.env.frame=some X.env.locals)
 G8:∀b∈X.ex,b≠X.env.locals/\∀x c,X.env.cells.lookup x=some c->c≠b
 bs:∀b o,X.base.get? b=some o->X.s₀.heap.get? b=some o/\X.H₀ b=none
 oV:X.base.objs.size<=X.s₀.heap.objs.size
 yY:∀b o,X.base.get? b=some o->b∉X.ex
 yZ:∀b∈X.ex,b∉X.fs
 j1:X.s₀.heap.FunFrames X.base X.outer
 qT:∀b∈X.fs,X.H₀ b=none
structure Inv (X:Cx) (y':ad) (σ:List sK) (H:Hp) (s:wn):Prop where
 ok:X.Ok
 os:s.os=X.s₀.os
 bare:AllBare s.gens
 base:Un X.fs X.ex X.H₀ H X.s₀.heap s.heap
 loc:∃m,s.heap.Ns X.env.locals m/\∀(i:Nat) (x:Str) (v:V),X.N[i]?=some x->σ[i]?=some (some v)->yW X.env.scope x->∃u,RelV v u/\Look X.env s.heap m x u
 cell:∀x c,X.env.cells.lookup x=some c->∃v,s.heap.IsCell c v
 free:H X.env.locals=none
 iJ:∀x c,X.env.cells.lookup x=some c->H c=none
 pin:∀p∈X.pn++y',s.heap.get? p.1=some p.2/\H p.1=none/\p.1≠X.env.locals/\p.1∉X.fs/\∀v,p.2.data≠ .cell v
 aF:cC X.prog X.w H s.heap
 len:σ.length=X.N.length
section
variable {X:Cx}{f:ad}{g:List sK}{H w:Hp}{s:wn}{h':wT}
theorem Cx.Ok.RO(ok:X.Ok){b:wl}{o:Obj}(e:X.base.get? b=some o):b∉X.fs:=λhb=>by
 have:=(ok.j1.mem hb).1;rw[e] at this;cases this
theorem Inv.bs(I:Inv X f g H s):∀b o,X.base.get? b=some o->s.heap.get? b=some o/\H b=none:=λb o e=>
 ⟨I.base.keep b o (I.ok.bs b o e).1 (I.ok.bs b o e).2 (I.ok.RO e)<|I.ok.yY b o e,I.base.free b o (I.ok.bs b o e).1 (I.ok.bs b o e).2<|I.ok.yY b o e⟩
theorem Inv.bk(I:Inv X f g H s):∀b o,X.base.get? b=some o->s.heap.get? b=some o:=λb o e=>(I.bs b o e).1
theorem Inv.mod(I:Inv X f g H s):Mod X.K X.mg X.base:=I.ok.mod
theorem Inv.du(I:Inv X f g H s):X.K.In s.heap:=I.ok.mod.qS.keeps I.bk
theorem Inv.lt(I:Inv X f g H s):X.env.locals<s.heap.objs.size:=let ⟨_,hn,_⟩:=I.loc;hn.lt
theorem Inv.sz(I:Inv X f g H s):X.s₀.heap.objs.size<=s.heap.objs.size:=zap I.ok.above (zbg I.lt)
theorem Inv.G9(I:Inv X f g H s){a:wl}(h:s.heap.objs.size<=a):a∉X.fs:=λhb=>by
 obtain⟨_,o,ho,_⟩:=I.ok.j1.mem hb;exact absurd (zao (Do ho)<|zap I.sz h)<|zaL _
theorem Inv.qU(I:Inv X f g H s):∀x c,X.env.cells.lookup x=some c->c≠X.env.locals:=λx c e z=>by
 obtain⟨v,o,ho,hd⟩:=I.cell x c e;obtain⟨m,⟨o',es,ep,eL,qW,_⟩,_⟩:=I.loc;rw[z,eL] at ho;cases ho;rw[qW] at hd;cases hd
theorem Inv.j1(I:Inv X f g H s):s.heap.FunFrames X.base X.outer:=by
 have all:∀(l:tz),(∀b∈cw l,b∈X.fs)->X.s₀.heap.FunFrames X.base l->s.heap.FunFrames X.base l:=by
  intro l
  induction l with
  |nil=>intro _ _;trivial
  |cons env r ih=>
   intro hs hl;obtain⟨hk,⟨L,o,hf,hn,ho,hd⟩,hr⟩:=hl;have hL:L∈X.fs:=hs L (by unfold cw;rw[zbC,hf];exact zas)
   obtain⟨sl,e⟩:=I.base.slot L o ho (I.ok.qT L hL) hL λz=>I.ok.yZ L z hL;exact⟨hk,⟨L,_,hf,hn,e,hd⟩,ih (λb hb=>hs b (by unfold cw;rw[zbC,hf];exact zar _ hb)) hr⟩
 exact all X.outer (λ_ hb=>hb) I.ok.j1
theorem Inv.stack(I:Inv X f g H s):s.heap.FunFrames X.base X.stack:=by
 rcases I.ok.ju with e|⟨e,hf⟩
 ·rw[e];exact I.j1
 ·rw[e];obtain⟨m,hn,_⟩:=I.loc;refine .cons (by rw[I.ok.kind];decide) hf hn ?_ I.j1
  exact Heap.get?_none_of_le<|zap I.ok.oV I.ok.above
theorem Inv.y2(I:Inv X f g H s):∀b∈cw X.stack,b∈X.env.locals::X.fs:=λb hb=>by
 rcases I.ok.ju with e|⟨e,hf⟩
 ·rw[e] at hb;exact zar _ hb
 ·rw[e] at hb;unfold cw at hb;rw[zbC,hf] at hb;exact hb
theorem Inv.y3(I:Inv X f g H s):∀b∈cw X.stack,H b=none:=λb hb=>by
 rcases zad.mp (I.y2 b hb) with e|hb
 ·rw[e];exact I.free
 ·obtain⟨_,o,ho,_⟩:=I.ok.j1.mem hb;exact I.base.free b o ho (I.ok.qT b hb) λz=>I.ok.yZ b z hb
theorem Inv.step{g':Array GenState}{t':Nat}{d':Drawn}{ch:db}(I:Inv X f g H s)
  (cx:∀b∈ch,(b∈X.ex\/X.s₀.heap.objs.size<=b)/\b≠X.env.locals/\(∀x c,X.env.cells.lookup x=some c->c≠b)/\∀p∈X.pn++f,p.1≠b)
  (keep:∀b o,b≠X.env.locals->b∉X.fs->b∉ch->s.heap.get? b=some o->H b=none->h'.get? b=some o)
  (slot:∀b o,b≠X.env.locals->b∈X.fs->b∉ch->s.heap.get? b=some o->H b=none->∃sl,h'.get? b=some {o with slots:=sl}) (free:∀b o,b∉ch->s.heap.get? b=some o->H b=none->w b=none)
  (there:∀b o,b∉ch->s.heap.get? b=some o->∃o',h'.get? b=some o')
  (eg:∀b xs,H b=some (.tup xs)->w b=some (.tup xs)) (gJ:∀b o u,H b=some (.bW o u)->w b=some (.bW o u)) (ij:∀b ps,H b=some (.lU ps)->∃more,w b=some (.lU<|ps++more))
  (ns:∀m,s.heap.Ns X.env.locals m->h'.Ns X.env.locals m) (aF:cC X.prog X.w w h') (hg:AllBare g'):
  Inv X f g w {s with heap:=h',gens:=g',drawn:=d',toks:=t'}:=by
 have G_:∀b o,X.s₀.heap.get? b=some o->b≠X.env.locals:=λb o e=>zai (zao (Do e) I.ok.above);have y4:∀b o,X.s₀.heap.get? b=some o->b∉X.ex->b∉ch:=λb o e hx hb=>by
  rcases (cx b hb).1 with z|z
  ·exact hx z
  ·exact absurd (zao (Do e) z) (zaL _)
 have cellK:∀x c,X.env.cells.lookup x=some c->∀v,s.heap.IsCell c v->h'.IsCell c v:=λx c e v ⟨o,ho,hd⟩=>by
  have kJ:c∉ch:=λz=>(cx c z).2.2.1 x c e rfl;by_cases hc:c∈X.fs
  ·obtain⟨sl,q⟩:=slot c o (I.qU x c e) hc kJ ho (I.iJ x c e);exact⟨_,q,hd⟩
  ·exact⟨o,keep c o (I.qU x c e) hc kJ ho<|I.iJ x c e,hd⟩
 refine⟨I.ok,I.os,hg,⟨λb o e n hb hx=>?_,λb o e n hb hx=>?_,λb o e n hx=>?_,λb o e hx=>?_,λb xs e=>eg b xs<|I.base.eg b xs e,λb o xs e=>gJ b o xs<|I.base.gJ b o xs e,λb ps e=>?_⟩,?_,λx c e=>?_,?_,λx c e=>?_,λp hp=>?_,aF,I.len⟩
 ·exact keep b o (G_ b o e) hb (y4 b o e hx) (I.base.keep b o e n hb hx) (I.base.free b o e n hx)
 ·obtain⟨sl,e1⟩:=I.base.slot b o e n hb hx;obtain⟨B0,e2⟩:=slot b _ (G_ b o e) hb (y4 b o e hx) e1 (I.base.free b o e n hx);exact⟨B0,e2⟩
 ·obtain⟨o',e1⟩:=I.base.there b o e hx;exact free b o' (y4 b o e hx) e1<|I.base.free b o e n hx
 ·obtain⟨o',e1⟩:=I.base.there b o e hx;exact there b o' (y4 b o e hx) e1
 ·obtain⟨m1,e1⟩:=I.base.ij b ps e;obtain⟨m2,e2⟩:=ij b _ e1;exact⟨m1++m2,by rw[e2,Array.append_assoc]⟩
 ·obtain⟨m,hn,hl⟩:=I.loc;refine⟨m,ns m hn,λi x v e1 e2 e3=>?_⟩;obtain⟨u,r,l⟩:=hl i x v e1 e2 e3;refine⟨u,r,?_⟩;rcases l with l|⟨k,c,e,z⟩
  ·exact .inl l
  ·exact .inr ⟨k,c,e,cellK x c e _ z⟩
 ·obtain⟨v,z⟩:=I.cell x c e;exact⟨v,cellK x c e v z⟩
 ·obtain⟨m,⟨o,_,_,ho,_⟩,_⟩:=I.loc;exact free _ o (λz=>(cx _ z).2.1 rfl) ho I.free
 ·obtain⟨v,o,ho,hd⟩:=I.cell x c e;exact free c o (λz=>(cx c z).2.2.1 x c e rfl) ho<|I.iJ x c e
 ·obtain⟨e,n,ne,nf,d⟩:=I.pin p hp;have kJ:p.1∉ch:=λz=>(cx p.1 z).2.2.2 p hp rfl;exact⟨keep p.1 p.2 ne nf kJ e n,free p.1 p.2 kJ e n,ne,nf,d⟩
theorem Inv.un{t':Nat}(I:Inv X f g H s)(u:Un X.fs [] H w s.heap h')(aF:cC X.prog X.w w h'):Inv X f g w {s with heap:=h',toks:=t'}:=by
 obtain⟨m,⟨o,es,ep,ho,r⟩,_⟩:=id I.loc;obtain⟨sl,hL⟩:=u.any ho I.free (by simp)
 exact I.step (g':=s.gens) (d':=s.drawn) (ch:=[]) (λ_ z=>nomatch z) (λb o _ hb _ e n=>u.keep b o e n hb (by simp)) (λb o _ hb _ e n=>u.slot b o e n hb (by simp)) (λb o _ e n=>u.free b o e n (by simp)) (λb o _ e=>u.there b o e (by simp)) u.eg u.gJ u.ij (λm' hm=>by
  obtain⟨o',B1,B2,eL,r'⟩:=hm;rw[ho] at eL;cases eL;exact⟨_,B1,B2,hL,r'⟩) aF I.bare
theorem Inv.call{g':Array GenState}{t':Nat}{d':Drawn}{ch:db}(I:Inv X f g H s)(u:Un (cw X.stack) ch H w s.heap h')(aF:cC X.prog X.w w h')(hg:AllBare g')
  (cx:∀b∈ch,(b∈X.ex\/X.s₀.heap.objs.size<=b)/\b≠X.env.locals/\(∀x c,X.env.cells.lookup x=some c->c≠b)/\∀p∈X.pn++f,p.1≠b):
  Inv X f g w {s with heap:=h',gens:=g',drawn:=d',toks:=t'}:=by
 obtain⟨m,⟨o,es,ep,ho,r⟩,_⟩:=id I.loc;obtain⟨sl,hL⟩:=u.any ho I.free λz=>(cx _ z).2.1 rfl;exact I.step (ch:=ch) cx (λb o hL hb hc e n=>u.keep b o e n (λz=>(zad.mp (I.y2 b z)).elim hL hb) hc) (λb o _ _ hc e n=>u.any e n hc) (λb o hc e n=>u.free b o e n hc) (λb o hc e=>u.there b o e hc) u.eg u.gJ u.ij (λm' hm=>by
  obtain⟨o',B1,B2,eL,r'⟩:=hm;rw[ho] at eL;cases eL;exact⟨_,B1,B2,hL,r'⟩) aF hg
theorem Inv.turned{t':Nat}{it:wl}(I:Inv X f g H s)(k:∀b o,b≠it->s.heap.get? b=some o->h'.get? b=some o)(hn:H it=none)(hL:it≠X.env.locals)
  (h1:it∈X.ex\/X.s₀.heap.objs.size<=it) (h2:∀x c,X.env.cells.lookup x=some c->c≠it) (h3:∀p∈X.pn++f,p.1≠it):Inv X f g H {s with heap:=h',toks:=t'}:=by
 have Ha:∀b u,H b=some u->b≠it:=λb u e z=>by rw[z,hn] at e;cases e
 refine I.step (g':=s.gens) (d':=s.drawn) (ch:=[it]) (λb hb=>?_) (λb o _ _ hc e _=>k b o (λz=>hc (by simp[z])) e) (λb o _ _ hc e _=>⟨o.slots,k b o (λz=>hc (by simp[z])) e⟩) (λ_ _ _ _ n=>n)
  (λb o hc e=>⟨o,k b o (λz=>hc (by simp[z])) e⟩) (λ_ _ e=>e) (λ_ _ _ e=>e) (λb ps e=>⟨#[],by rw[e];simp⟩) (λm hm=>?_) (λb u e=>?_) I.bare
 ·have e:b=it:=by simpa using hb
  subst e;exact⟨h1,hL,h2,h3⟩
 ·obtain⟨o,es,ep,ho,r⟩:=hm;exact⟨o,es,ep,k _ o (Fa hL) ho,r⟩
 ·refine(I.aF b u e).oU (λc v hc q=>k c v ?_ q) (λ_ q=>q) λ_ _ q=>q;rcases hc with z|z
  ·rw[z];exact Ha b u e
  ·exact Ha c _ z
theorem Inv.tok(I:Inv X f g H s)(t:Nat):Inv X f g H {s with toks:=t}:=I.un (h':=s.heap) (t':=t) Un.refl I.aF
theorem Inv.kept{t':Nat}(I:Inv X f g H s)(k:∀b u,s.heap.get? b=some u->h'.get? b=some u):Inv X f g H {s with heap:=h',toks:=t'}:=I.un (Un.kept k) (I.aF.kept k)
theorem Inv.laid{a:wl}{o:HO}{t':Nat}(I:Inv X f g H s)(k:∀b u,s.heap.get? b=some u->h'.get? b=some u)(hp:s.heap.objs.size<=a)(new:cP X.prog X.w (upd H a o) h' a o):
  Inv X f g (upd H a o) {s with heap:=h',toks:=t'}:=I.un (Un.laid k hp<|I.aF.fresh hp) (I.aF.laid k hp new)
theorem Inv.write{x e:wl}{o:HO}{t':Nat}(I:Inv X f g H s)(mu:vU (H x))(he:e=x\/H e=some (.own x))(k:∀b u,b≠e->s.heap.get? b=some u->h'.get? b=some u)(tU:∃u,h'.get? e=some u)
  (new:cP X.prog X.w (upd H x o) h' x o):Inv X f g (upd H x o) {s with heap:=h',toks:=t'}:=I.un (Un.write mu he k tU) (I.aF.write mu he k tU new)
theorem Inv.tV{X':ad}(I:Inv X f g H s)(h:∀p∈X',s.heap.get? p.1=some p.2/\H p.1=none/\p.1≠X.env.locals/\p.1∉X.fs/\∀v,p.2.data≠ .cell v):Inv X X' g H s:=
 ⟨I.ok,I.os,I.bare,I.base,I.loc,I.cell,I.free,I.iJ,λp hp=>(zak.mp hp).elim (λz=>I.pin p<|zaQ _ z)<|h p,I.aF,I.len⟩
theorem Hb{N:ac}(hN:N.Nodup){i j:Nat}{x:Str}(a:N[i]?=some x)(b:N[j]?=some x):i=j:=by
 obtain⟨h1,e1⟩:=zat.mp a;obtain⟨h2,e2⟩:=zat.mp b;exact(List.getElem_inj hN).mp<|e1.trans e2.symm
theorem Hc{M:Model}{A:wP}{E:aW}{i:Nat}{x:Str}{v:V}{u:wv}{Q:sw}(I:Inv X f g H s)(hN:X.N.Nodup)(hi:X.N[i]?=some x)(hx:Loc X.env.scope x)(r:RelV v u)
  (h:∀s',Inv X f (g.set i<|some v) H s'->(∃a,Heap.SameBut a s.heap s'.heap/\(a=X.env.locals\/X.env.cells.lookup x=some a))->Q () s') (hf:X.fn x=true\/X.env.scope.names.lookup x=some .local:=by first|exact .inl rfl|exact .inr rfl|assumption):wpAny M A (storeName X.env x u) Q E s:=by
 obtain⟨m,hn,hl⟩:=id I.loc;have RP:(X.env.scope.kind==.class ||(X.env.scope.kind==.module && X.env.locals !=X.env.globals))=false:=by rw[I.ok.kind];rfl
 have He:i<g.length:=by rw[I.len];exact(zat.mp hi).1
 have qU:=I.qU;have tracked:∀{a:wl}{h':wT},(∃o,s.heap.get? a=some o/\H a=none)->Heap.SameBut a s.heap h'->cC X.prog X.w H h':=λ{a h'} ha hs b ob e=>by
  obtain⟨_,_,B3⟩:=ha;refine(I.aF b ob e).oU (λc w' hc q=>(hs.2 c ?_).trans q) (λ_ q=>q) λ_ _ q=>q;rintro rfl;rcases hc with rfl|hc
  ·rw[B3] at e;cases e
  ·rw[B3] at hc;cases hc
 rcases hx with hk|hk
 ·refine wpAny_storeName_local hk hn (λh' B4 hs=>?_) RP;obtain⟨oL,_,_,RQ,_⟩:=id hn;refine h _ ⟨I.ok,I.os,I.bare,⟨λb o e n hb hx=>?_,λb o e n hb hx=>?_,I.base.free,λb o e hx=>?_,I.base.eg,I.base.gJ,I.base.ij⟩,⟨_,B4,λj y v' e1 e2 e3=>?_⟩,λy c e=>?_,I.free,I.iJ,λp hp=>?_,tracked ⟨oL,RQ,I.free⟩ hs,by simpa using I.len⟩ ⟨_,hs,.inl rfl⟩
  ·exact(hs.2 b<|zai<|zao (Do e) I.ok.above).trans (I.base.keep b o e n hb hx)
  ·obtain⟨sl,e1⟩:=I.base.slot b o e n hb hx;exact⟨sl,(hs.2 b<|zai<|zao (Do e) I.ok.above).trans e1⟩
  ·obtain⟨o',e1⟩:=I.base.there b o e hx;exact⟨o',(hs.2 b<|zai<|zao (Do e) I.ok.above).trans e1⟩
  ·by_cases hj:j=i
   ·subst hj;rw[hi] at e1;cases e1;rw[zbm He] at e2;cases e2;exact⟨u,r,.inl ⟨hk,by simp⟩⟩
   ·rw[List.getElem?_set_ne<|Fa hj] at e2;obtain⟨u',r',q⟩:=hl j y v' e1 e2 e3;refine⟨u',r',?_⟩;rcases q with⟨k,e⟩|⟨k,c,e,z⟩
    ·refine .inl ⟨k,?_⟩;have:y≠x:=λe=>hj (Hb hN e1<|e ▸ hi)
     simp[this,e]
    ·exact .inr ⟨k,c,e,z.sameBut hs<|qU y c e⟩
  ·obtain⟨w',z⟩:=I.cell y c e;exact⟨w',z.sameBut hs<|qU y c e⟩
  ·obtain⟨e,n,ne,nf,d⟩:=I.pin p hp;exact⟨(hs.2 p.1 ne).trans e,n,ne,nf,d⟩
 ·have B6:X.fn x=true:=by
   rcases hf with z|z
   ·exact z
   ·rw[z] at hk;cases hk
  obtain⟨c,hc⟩:=I.ok.has x (.inl hk);obtain⟨w',z⟩:=I.cell x c hc;refine wpAny_storeName_cell I.ok.kind hk hc z<|λh' tW hs=>?_;obtain⟨oc,Hf,RU⟩:=id z;refine h {s with heap:=h'} ⟨I.ok,I.os,I.bare,⟨λb o e n hb hx=>?_,λb o e n hb hx=>?_,I.base.free,λb o e hx=>?_,I.base.eg,I.base.gJ,I.base.ij⟩,⟨m,hn.sameBut hs<|Fa<|qU x c hc,λj y v' e1 e2 e3=>?_⟩,λy c' e=>?_,I.free,I.iJ,λp hp=>?_,tracked ⟨oc,Hf,I.iJ x c hc⟩ hs,by simpa using I.len⟩ ⟨c,hs,.inr hc⟩
  ·exact(hs.2 b<|zai<|zao (Do e)<|I.ok.yX x c B6 hc).trans (I.base.keep b o e n hb hx)
  ·obtain⟨sl,e1⟩:=I.base.slot b o e n hb hx;exact⟨sl,(hs.2 b<|zai<|zao (Do e)<|I.ok.yX x c B6 hc).trans e1⟩
  ·obtain⟨o',e1⟩:=I.base.there b o e hx;exact⟨o',(hs.2 b<|zai<|zao (Do e)<|I.ok.yX x c B6 hc).trans e1⟩
  ·by_cases hj:j=i
   ·subst hj;rw[hi] at e1;cases e1;rw[zbm He] at e2;cases e2;exact⟨u,r,.inr ⟨.inl hk,c,hc,tW⟩⟩
   ·rw[List.getElem?_set_ne<|Fa hj] at e2;obtain⟨u',r',q⟩:=hl j y v' e1 e2 e3;refine⟨u',r',?_⟩;rcases q with q|⟨k,c',e,z'⟩
    ·exact .inl q
    ·refine .inr ⟨k,c',e,z'.sameBut hs ?_⟩;rintro rfl;exact hj<|Hb hN e1<|I.ok.inj _ _ _ e hc ▸ hi
  ·by_cases Hg:c'=c
   ·subst Hg;exact⟨_,tW⟩
   ·obtain⟨w2,z2⟩:=I.cell y c' e;exact⟨w2,z2.sameBut hs Hg⟩
  ·obtain⟨e,n,ne,nf,d⟩:=I.pin p hp;refine⟨(hs.2 p.1 ?_).trans e,n,ne,nf,d⟩;intro q;rw[q,Hf] at e;have q':oc=p.2:=zaj e;exact d w' (by rw[<-q'];exact RU)
theorem B7{M:Model}{A:wP}{E:aW}{i:Nat}{x:Str}{v:V}{u:wv}{Q:sw}(I:Inv X f g H s)(hN:X.N.Nodup)(hi:X.N[i]?=some x)(hx:Loc X.env.scope x)(r:RelV v u)
  (h:∀s',Inv X f (g.set i<|some v) H s'->Q () s') (hf:X.fn x=true\/X.env.scope.names.lookup x=some .local:=by first|exact .inl rfl|exact .inr rfl|assumption):wpAny M A (storeName X.env x u) Q E s:=
 Hc I hN hi hx r (λs' I' _=>h s' I') hf
theorem Inv.B8{s':wn}{ch:db}(I:Inv X f g H s)(ho:s'.os=s.os)(u:Un (cw X.stack) ch H w s.heap s'.heap)(aF:cC X.prog X.w w s'.heap)(hg:AllBare s'.gens)
  (cx:∀b∈ch,(b∈X.ex\/X.s₀.heap.objs.size<=b)/\b≠X.env.locals/\(∀x c,X.env.cells.lookup x=some c->c≠b)/\∀p∈X.pn++f,p.1≠b):Inv X f g w s':=by
 obtain⟨h',g',d',t',o'⟩:=s';have e:o'=s.os:=ho;subst e;exact I.call (g':=g') (t':=t') (d':=d') u aF hg cx
end
abbrev XK:=wv->lm->Hp->Prop
abbrev St:=List sK
abbrev VK:=V->Hp->Prop
abbrev TE:=St->Hp->VK->Prop
abbrev TT:=St->Hp->(ge)->Prop
abbrev TA:=St->Hp->(be->Hp->Prop)->Prop
structure Ends where
 nx:St->Hp->Prop
 rt:VK
 bk:St->Hp->Prop:=λ_ _=>False
 ct:St->Hp->Prop:=λ_ _=>False
abbrev TS:=Ends->St->Hp->Prop
inductive EP(X:Cx)(y':ad)(σ:St)(Q:VK)(u:wv)(s':wn):Prop|i(v H')(_:Inv X y' σ H' s')(_:RelV v u)(_:Q v H')
inductive TP(X:Cx)(y':ad)(σ:St)(Q:ge)(b:xz)(s':wn):Prop|i(H')(_:Inv X y' σ H' s')(_:Q b H')
inductive AP(X:Cx)(y':ad)(σ:St)(Q:be->Hp->Prop)(us:ce)(s':wn):Prop|i(vs H')(_:Inv X y' σ H' s')(_:Vals vs us)(_:Q vs H')
def SP(X:Cx)(y':ad)(D:Ends)(f:Flow)(s':wn):Prop:=
 match f with
 |.next=>∃K' H',Inv X y' K' H' s'/\D.nx K' H'
 |.brk=>∃K' H',Inv X y' K' H' s'/\D.bk K' H'
 |.cont=>∃K' H',Inv X y' K' H' s'/\D.ct K' H'
 |.ret u=>∃v K' H',Inv X y' K' H' s'/\RelV v u/\D.rt v H'
def PE(X:Cx)(e:Expr)(t:TE):Prop:=
 ∀(y':ad) (s:wn) (σ:St) (H:Hp) (Q:VK),Inv X y' σ H s->t σ H Q->wpAny (model X.prog X.w) X.A (eval e X.env) (EP X y' σ Q) X.xe s
def PT(X:Cx)(e:Expr)(t:TT):Prop:=
 ∀(y':ad) (s:wn) (σ:St) (H:Hp) (Q:ge),Inv X y' σ H s->t σ H Q->wpAny (model X.prog X.w) X.A (isTrue e X.env<|eval e X.env) (TP X y' σ Q) X.xe s
def PW(X:Cx)(e:Expr)(t:TT):Prop:=
 ∀(whole:Sem wv) (y':ad) (s:wn) (σ:St) (H:Hp) (Q:ge),Inv X y' σ H s->t σ H Q->wpAny (model X.prog X.w) X.A (isTrue e X.env whole) (TP X y' σ Q) X.xe s
theorem PW.pt{X:Cx}{e:Expr}{t:TT}(h:PW X e t):PT X e t:=h _
def PA(X:Cx)(es:im)(t:TA):Prop:=
 ∀(pos:Pos) (y':ad) (s:wn) (σ:St) (H:Hp) (Q:be->Hp->Prop),Inv X y' σ H s->t σ H Q->wpAny (model X.prog X.w) X.A (spliced<|backTo pos<|starEach es X.env) (AP X y' σ Q) X.xe s
def PS(X:Cx)(st:wS)(t:TS):Prop:=
 ∀(y':ad) (s:wn) (σ:St) (H:Hp) (D:Ends),Inv X y' σ H s->t D σ H->wpAny (model X.prog X.w) X.A (exec st X.env) (SP X y' D) X.xe s
def dg(X:Cx)(st:pi)(t:TS):Prop:=
 ∀(y':ad) (s:wn) (σ:St) (H:Hp) (D:Ends),Inv X y' σ H s->t D σ H->wpAny (model X.prog X.w) X.A (execs st X.env) (SP X y' D) X.xe s
theorem aU{α:Type}{t:Sem α}{Q Q':α->wn->Prop}{M:Model}{A:wP}{E:aW}{s:wn}(h:wpAny M A t Q E s)(hQ:∀a s,Q a s->Q' a s):wpAny M A t Q' E s:=Fk h hQ λ_ _ x=>x
section
variable {X:Cx}
def B9(i:Nat):TE:=λσ H Q=>∃v,σ[i]?=some (some v)/\Q v H
def tC(v:V):TE:=λ_ H Q=>Q v H
theorem RV{i:Nat}{x:Str}{pos:Pos}(hN:X.N[i]?=some x)(hv:yW X.env.scope x)(hd:(x==("__debug__":Str))=false:=by decide)(i8:(x==("__classdict__":Str))=false:=by decide):PE X (.Name x pos) (B9 i):=by
 intro y' s σ H Q I h;obtain⟨v,e,h⟩:=h;obtain⟨m,hn,hl⟩:=I.loc;obtain⟨u,r,l⟩:=hl i x v hN e hv;have V':EP X y' σ Q u s:=⟨v,H,I,r,h⟩;rcases l with⟨hk,hm⟩|⟨hk,c,hc,Hh⟩
 ·exact wpAny_Name (wpAny_loadName_local I.ok.kind hk hn hm V') hd
 ·rcases hk with hk|hk
  ·exact wpAny_Name (wpAny_loadName_cell I.ok.kind hk hc Hh V') hd
  ·exact wpAny_Name (wpAny_loadName_free I.ok.kind hk hc Hh V' i8) hd
theorem RW{i j pos}:PE X (.Constant (.int i) j pos) (tC<|.int i):=λ_ _ _ H _ I h=>wpAny_Constant_int ⟨.int i,H,I.tok _,⟨_,rfl⟩,h⟩
theorem RX{b j pos}:PE X (.Constant (.bool b) j pos) (tC<|.bl b):=λ_ _ _ H _ I h=>Constant_bool ⟨.bl b,H,I,rfl,h⟩
theorem RY{j pos}:PE X (.Constant .none j pos) (tC .av):=λ_ _ _ H _ I h=>Constant_none ⟨.av,H,I,rfl,h⟩
theorem RZ{x j pos}:PE X (.Constant (.str x) j pos) (tC<|.str x):=λ_ _ _ H _ I h=>Calls.Constant_str ⟨.str x,H,I.tok _,⟨_,rfl⟩,h⟩
def Gl(X:Cx)(x:Str):Prop:=X.env.kindOf x=some .globalImplicit
theorem vW{E:aW}{y':ad}{s:wn}{σ:St}{H:Hp}{x:Str}{u:wv}{pos:Pos}{Q:aW}(I:Inv X y' σ H s)(hg:Gl X x)(hm:X.mg x=some u)(h:Q u s)
  (hd:(x==("__debug__":Str))=false:=by decide):wpAny (model X.prog X.w) X.A (eval (.Name x pos) X.env) Q E s:=
 Calls.Name_function_global I.ok.kind hg (Calls.loadGlobal_global (by rw[I.ok.glob];exact I.mod.glob.keeps I.bk) hm h) hd
theorem qX{E:aW}{y':ad}{s:wn}{σ:St}{H:Hp}{x:Str}{u:wv}{pos:Pos}{Q:aW}(I:Inv X y' σ H s)(hg:Gl X x)(hm:X.mg x=none)(hv:bootBuiltins x=some u)(h:Q u s)
  (hn:x≠"__name__":=by decide) (hd:(x==("__debug__":Str))=false:=by decide):wpAny (model X.prog X.w) X.A (eval (.Name x pos) X.env) Q E s:=by
 obtain⟨mb,h1,h2⟩:=I.mod.blt;exact Calls.Name_function_global I.ok.kind hg (Calls.loadGlobal_builtin (by rw[I.ok.glob];exact I.mod.glob.keeps I.bk) hm (by rw[I.ok.blt];exact h1.keeps I.bk) ((h2 x hn).trans hv) h) hd
theorem Hi{x:Str}{v:V}{u:wv}{pos:Pos}(hg:Gl X x)(hm:X.mg x=some u)(r:RelV v u)(hd:(x==("__debug__":Str))=false:=by decide):PE X (.Name x pos) (tC v):=
 λ_ _ _ H _ I h=>vW I hg hm ⟨v,H,I,r,h⟩ hd
theorem Hj{x:Str}{v:V}{u:wv}{pos:Pos}(hg:Gl X x)(hm:X.mg x=none)(hv:bootBuiltins x=some u)(r:RelV v u)(hn:x≠"__name__":=by decide)(hd:(x==("__debug__":Str))=false:=by decide):PE X (.Name x pos) (tC v):=
 λ_ _ _ H _ I h=>qX I hg hm hv ⟨v,H,I,r,h⟩ hn hd
variable {a b:Expr}{g i:TE}{f:Pos}
def PC(X:Cx)(op:CmpOp)(a b:Expr)(t:TE):Prop:=
 ∀(y':ad) (s:wn) (σ:St) (H:Hp) (Q:VK),Inv X y' σ H s->t σ H Q->
  wpAny (model X.prog X.w) X.A (eval a X.env) (λv G'=>wpAny (model X.prog X.w) X.A (eval b X.env) (λu J'=>wpAny (model X.prog X.w) X.A (compareOp op v u) (EP X y' σ Q) X.xe J') X.xe G') X.xe s
def tB(t:TE):TT:=λσ H Q=>t σ H λx H1=>∃c,x=.bl c/\Q c H1
theorem Hk{op:CmpOp}{t:TE}(h:PC X op a b t)(h1:behindInMarks op b=false:=by first|exact ai0 _ (by decide) (by decide)|rfl):PT X (.Compare a [op] [b] f) (tB t):=by
 intro y' s σ H Q I hw;refine wpAny_isTrue_Compare1 (aU (h y' s σ H _ I hw) λv s1 h1=>aU h1 λu s2 h2=>aU h2 λc s3 ⟨x,H1,I1,r1,q1⟩=>?_) h1;obtain⟨d,rfl,q⟩:=q1;cases r1;exact On ⟨H1,I1,q⟩
variable {j l:TT}{k:im}
def Hl(t u:TT):TT:=λσ H Q=>t σ H λc H1=>if c=true then u σ H1 Q else Q false H1
def Hm(t u:TT):TT:=λσ H Q=>t σ H λc H1=>if c=true then Q true H1 else u σ H1 Q
def Hn(t:TT):TT:=λσ H Q=>t σ H λc H1=>Q (!c) H1
theorem pw_and1(ha:PT X a j):PW X (.BoolOp .And [a] f) j:=by
 intro wh y' s σ H Q I h;refine isTrue_and<|aU (ha y' s σ H Q I h) λc s1 e=>?_;cases c with
 |true=>exact isTrue_and_nil e
 |false=>exact e
theorem pw_or1(ha:PT X a j):PW X (.BoolOp .Or [a] f) j:=by
 intro wh y' s σ H Q I h;refine isTrue_or<|aU (ha y' s σ H Q I h) λc s1 e=>?_;cases c with
 |false=>exact isTrue_or_nil e
 |true=>exact e
theorem pw_and(ha:PT X a j)(hb:PW X (.BoolOp .And (b::k) f) l):PW X (.BoolOp .And (a::b::k) f) (Hl j l):=by
 intro wh y' s σ H Q I h;refine isTrue_and<|aU (ha y' s σ H _ I h) λc s1 ⟨H1,I1,q1⟩=>?_;cases c with
 |true=>exact hb wh y' s1 σ H1 Q I1 q1
 |false=>exact⟨H1,I1,q1⟩
theorem pw_or(ha:PT X a j)(hb:PW X (.BoolOp .Or (b::k) f) l):PW X (.BoolOp .Or (a::b::k) f) (Hm j l):=by
 intro wh y' s σ H Q I h;refine isTrue_or<|aU (ha y' s σ H _ I h) λc s1 ⟨H1,I1,q1⟩=>?_;cases c with
 |true=>exact⟨H1,I1,q1⟩
 |false=>exact hb wh y' s1 σ H1 Q I1 q1
theorem R0(ha:PT X a j):PT X (.UnaryOp .Not a f) (Hn j):=by
 intro y' s σ H Q I h;exact isTrue_not (aU (ha y' s σ H (λc H1=>Q (!c) H1) I h) λ_ _⟨a,b,c⟩=>⟨a,b,c⟩)
def Ho(g i:TE):TE:=λσ H Q=>g σ H λx H1=>∃c,x=.bl c/\if c=true then i σ H1 Q else Q (.bl false) H1
def R1(g i:TE):TE:=λσ H Q=>g σ H λx H1=>∃c,x=.bl c/\if c=true then Q (.bl true) H1 else i σ H1 Q
theorem R3{op}{t:TE}(h:PE X a t):PE X (.BoolOp op [a] f) t:=λy' s σ H Q I hw=>BoolOp_one (h y' s σ H Q I hw)
theorem R4(ha:PE X a g)(hb:PE X (.BoolOp .And (b::k) f) i):PE X (.BoolOp .And (a::b::k) f) (Ho g i):=by
 intro y' s σ H Q I h;refine BoolOp_and<|aU (ha y' s σ H _ I h) λv s1 ⟨x,H1,I1,r1,q1⟩=>?_;obtain⟨c,rfl,q1⟩:=q1;cases r1;refine On ?_;cases c with
 |true=>exact hb y' s1 σ H1 Q I1 q1
 |false=>exact⟨.bl false,H1,I1,rfl,q1⟩
def Hq(t:TT)(g i:TE):TE:=λσ H Q=>t σ H λc H1=>if c=true then g σ H1 Q else i σ H1 Q
theorem R5{c:Expr}(hc:PT X c j)(ha:PE X a g)(hb:PE X b i):PE X (.IfExp c a b f) (Hq j g i):=by
 intro y' s σ H Q I h;refine wpAny_IfExp<|aU (hc y' s σ H _ I h) λd s1 ⟨H1,I1,q1⟩=>?_;cases d with
 |true=>exact ha y' s1 σ H1 Q I1 q1
 |false=>exact hb y' s1 σ H1 Q I1 q1
end
def aE(K:Frag)(H:Hp)(a:wl)(xs:be):Prop:=
 Rd H a (.lst xs)\/
  ∃(o:Obj) (ay:j_) (n:Nat),K.lookup a=some o/\o.cls=.type "list"/\o.dict=none/\o.data=.seq ay n/\ay.size<=sizeLine/\Vals xs ay.toList
def aP(K:Frag)(H:Hp)(a:wl)(xs:be):Prop:=
 Rd H a (.tup xs)\/
  ∃(o:Obj) (ay:j_) (n:Nat),K.lookup a=some o/\o.cls=.type "tuple"/\o.data=.seq ay n/\ay.size<=sizeLine/\Vals xs ay.toList
def R6:wv->sK
 |.none=>some .av
 |.bool b=>some (.bl b)
 |.int i _=>some (.int i)
 |.str x _=>some (.str x)
 |.bytes b _=>some (.gZ b)
 |.float b _=>some (.gI b)
 |.ref a=>some (.ref a)
 |.type n=>some (.ty n)
 |_=>none
theorem RelV.abs{x:V}{u:wv}(r:RelV x u):R6 u=some x:=by
 cases x with
 |av=>cases r;rfl
 |bl _=>cases r;rfl
 |int _=>obtain⟨t,rfl⟩:=r;rfl
 |str _=>obtain⟨t,rfl⟩:=r;rfl
 |gZ _=>obtain⟨t,rfl⟩:=r;rfl
 |gI _=>obtain⟨t,rfl⟩:=r;rfl
 |ref _=>cases r;rfl
 |ty _=>cases r;rfl
theorem RelV.inj{x y:V}{u:wv}(r:RelV x u)(q:RelV y u):x=y:=zaj (r.abs.symm.trans q.abs)
theorem Vals.inj:∀{xs ys:be}{us:ce},Vals xs us->Vals ys us->xs=ys:=by
 intro xs ys us h
 induction h generalizing ys with
 |nil=>intro k;cases k;rfl
 |cons r _ i=>
  intro k;cases k with
  |cons r' t'=>rw[r.inj r',i t']
section
variable {X:Cx}{c:ad}{f:St}{H:Hp}{s:wn}{a:wl}{b g:be}
theorem aE.of{K:Frag}(h:H a=some (.lst b)):aE K H a b:=.inl (.inl h)
theorem aP.of{K:Frag}(h:H a=some (.tup b)):aP K H a b:=.inl (.inl h)
theorem Inv.list(I:Inv X c f H s)(h:aE X.K H a b):∃ay:ce,Vals b ay/\PlainL s.heap a ay.toArray/\b.length<=sizeLine:=by
 rcases h with h|⟨o,ay,n,hk,hc,hd,hs,hz,r⟩
 ·obtain⟨z,ay,n,r,e⟩:=h.ok I.aF;exact⟨ay,r,⟨_,n,e,rfl,rfl,rfl⟩,z⟩
 ·refine⟨ay.toList,r,⟨o,n,I.du a o hk,hc,hd,by simpa using hs⟩,?_⟩
  have e:=r.length
  simp only[zbD] at e
  lia
theorem Inv.tuple(I:Inv X c f H s)(h:aP X.K H a b):∃ay:ce,Vals b ay/\IsTup s.heap a ay.toArray/\b.length<=sizeLine:=by
 rcases h with h|⟨o,ay,n,hk,hc,hs,hz,r⟩
 ·obtain⟨z,ay,r,p⟩:=h.ok I.aF;exact⟨ay,r,p,z⟩
 ·refine⟨ay.toList,r,⟨o,I.du a o hk,hc,n,by simpa using hs⟩,?_⟩
  have e:=r.length
  simp only[zbD] at e
  lia
theorem Inv.Hr(I:Inv X c f H s)(h:aE X.K H a b)(h':aE X.K H a g):b=g:=by
 obtain⟨ay,r,⟨o,n,e,_,_,d⟩,_⟩:=I.list h;obtain⟨its',r',⟨o',n',e',_,_,d'⟩,_⟩:=I.list h';rw[e] at e';cases e';rw[d] at d'
 injection d' with d1 _
 have:ay=its':=by simpa using Cl Array.toList d1
 subst this;exact r.inj r'
end
section
variable {X:Cx}{j:wS}{k:pi}{t u:TS}{e:Expr}{g:TE}{i:Pos}
def B_:TS:=λD σ H=>D.nx σ H
def Hs(t u:TS):TS:=λD σ H=>t {D with nx:=u D} σ H
theorem Ht:dg X [] B_:=λ_ _ σ H _ I h=>wpAny_execs_nil ⟨σ,H,I,h⟩
theorem R7(h1:PS X j t)(h2:dg X k u):dg X (j::k) (Hs t u):=by
 intro y' s σ H D I h;refine wpAny_execs_cons<|aU (h1 y' s σ H {D with nx:=u D} I h) λf s1 q=>?_
 cases f with
 |next=>
  obtain⟨K',H',I',q⟩:=q;exact h2 y' s1 K' H' D I' q
 |ret v=>exact q
 |brk=>exact q
 |cont=>exact q
def R8:TS:=λD σ H=>D.bk σ H
def Hu:TS:=λD σ H=>D.ct σ H
theorem R9:PS X (.Continue i) Hu:=λ_ _ σ H _ I h=>wpAny_Continue ⟨σ,H,I,h⟩
theorem Inv.quiet{y':ad}{σ:St}{H:Hp}{s:wn}(I:Inv X y' σ H s):interactive X.env=false:=by simp[interactive,I.ok.kind]
def Hv(g:TE):TS:=λD σ H=>g σ H λ_ H1=>D.nx σ H1
theorem R_(he:PE X e g)(hs:swapsWith e none i.line X.env=pure false:=by rfl):PS X (.Expr e i) (Hv g):=by
 intro y' s σ H D I h;exact wpAny_Expr_any (aU (he y' s σ H _ I h) λv s1 ⟨x,H1,I1,r1,q1⟩=>⟨σ,H1,I1,q1⟩) I.quiet hs
def Hw(g:TE):TS:=λD σ H=>g σ H D.rt
theorem Sa(he:PE X e g):PS X (.Return (some e) i) (Hw g):=by
 intro y' s σ H D I h;exact wpAny_Return_some<|aU (he y' s σ H _ I h) λv s1 ⟨x,H1,I1,r1,q1⟩=>⟨x,σ,H1,I1,r1,q1⟩
def Sb:TS:=λD _ H=>D.rt .av H
def Hx(c:TT)(t u:TS):TS:=λD σ H=>c σ H λb H1=>if b=true then t D σ H1 else u D σ H1
theorem Se{c:Expr}{a b:pi}{tc:TT}(hc:PT X c tc)(ha:dg X a t)(hb:dg X b u):PS X (.If c a b i) (Hx tc t u):=by
 intro y' s σ H D I h;refine wpAny_If<|aU (hc y' s σ H _ I h) λd s1 ⟨H1,I1,q1⟩=>?_;cases d with
 |true=>exact ha y' s1 σ H1 D I1 q1
 |false=>exact hb y' s1 σ H1 D I1 q1
def Sf:TS:=λ_ _ _=>False
end
abbrev TG:=V->St->Hp->(St->Hp->Prop)->Prop
abbrev kN:=be->St->Hp->(St->Hp->Prop)->Prop
def PG(X:Cx)(target:Expr)(t:TG):Prop:=
 ∀(y':ad) (s:wn) (σ:St) (H:Hp) (v:V) (u:wv) (Q:St->Hp->Prop),Inv X y' σ H s->RelV v u->t v σ H Q->
  wpAny (model X.prog X.w) X.A (assign target X.env u) (λ_ s'=>∃K' H',Inv X y' K' H' s'/\Q K' H') X.xe s
def qY(X:Cx)(ts:im)(t:kN):Prop:=
 ∀(y':ad) (s:wn) (σ:St) (H:Hp) (vs:be) (us:ce) (Q:St->Hp->Prop),Inv X y' σ H s->Vals vs us->t vs σ H Q->
  wpAny (model X.prog X.w) X.A (assignInOrder ((assignEach ts X.env).map (·.2)) us) (λ_ s'=>∃K' H',Inv X y' K' H' s'/\Q K' H') X.xe s
abbrev Ca:=V->V->V->Hp->(Hp->Prop)->Prop
def Hy(X:Cx)(t:Ca):Prop:=
 ∀(y':ad) (s:wn) (σ:St) (H:Hp) (o i v:V) (ov iv u:wv) (Q:Hp->Prop),Inv X y' σ H s->RelV o ov->RelV i iv->RelV v u->t o i v H Q->
  wpAny (model X.prog X.w) X.A (setItem ov iv u) (λ_ s'=>∃H',Inv X y' σ H' s'/\Q H') X.xe s
section
variable {X:Cx}{d:Pos}
def fV(i:Nat):TG:=λv σ H Q=>Q (σ.set i<|some v) H
theorem tX{i:Nat}{x:Str}(hN:X.N.Nodup)(hi:X.N[i]?=some x)(hx:Loc X.env.scope x)(hf:X.fn x=true\/X.env.scope.names.lookup x=some .local:=by first|exact .inl rfl|exact .inr rfl|assumption):PG X (.Name x d) (fV i):=by
 intro y' s σ H v u Q I r h;exact wpAny_assign_Name<|B7 I hN hi hx r (λs' I'=>⟨_,H,I',h⟩) hf
def y7:kN:=λvs σ H Q=>vs=[]/\Q σ H
def tY(t:TG)(u:kN):kN:=λvs σ H Q=>∃v r,vs=v::r/\t v σ H λK' H'=>u r K' H' Q
theorem Cb:qY X [] y7:=by
 intro y' s σ H vs us Q I r h;obtain⟨e,h⟩:=h;subst e;cases r;exact assignInOrder_nil ⟨σ,H,I,h⟩
theorem vX{e:Expr}{es:im}{t:TG}{u:kN}(h1:PG X e t)(h2:qY X es u)
  (hs:(assignEach (e::es) X.env).map (·.2)=assign e X.env::(assignEach es X.env).map (·.2):=by rfl):qY X (e::es) (tY t u):=by
 intro y' s σ H vs us Q I r h;obtain⟨v,vr,e1,h⟩:=h;subst e1;cases r with
 |cons r rr=>
  rw[hs];refine assignInOrder_cons<|aU (h1 y' s σ H _ _ _ I r h) λ_ s1 ⟨σ1,H1,I1,q1⟩=>?_;exact h2 y' s1 σ1 H1 _ _ Q I1 rr q1
def y8(K:Frag)(n:Nat)(t:kN):TG:=λv σ H Q=>∃a xs,v=.ref a/\aP K H a xs/\xs.length=n/\t xs σ H Q
theorem Hz{es:im}{k:Nat}{t:kN}{n:Nat}(hc:X.calm=true)(h:qY X es t)
  (hn:(assignEach es X.env).length=n:=by rfl) (i9:(assignEach es X.env).findIdx? (·.1)=none:=by rfl):PG X (.Tuple es k d) (y8 X.K n t):=by
 intro y' s σ H v u Q I r hw;obtain⟨a,xs,e1,hq,hl,hw⟩:=hw;subst e1;cases r;obtain⟨ay,rv,ht,hz⟩:=I.tuple hq;refine assign_Tuple_tuple (I.ok.hd hc) ht (by simp[hn,<-hl,rv.length]) i9 λh' hx=>?_
 have I1:Inv X y' σ H {s with heap:=h'}:=I.kept (t':=s.toks) λb o e=>hx b o (zai<|Do e) e
 exact h y' _ σ H xs _ Q I1 (by simpa using rv) hw
def HE(to ti:TE)(t:Ca):TG:=λv σ H Q=>to σ H λo H1=>ti σ H1 λi H2=>t o i v H2 λH3=>Q σ H3
theorem Sg{o i:Expr}{to ti:TE}{t:Ca}(ho:PE X o to)(hi:PE X i ti)(hs:Hy X t)
  (ha:∀v,assign (.Subscript o i d) X.env v=(do
   let ov <-holding [v] (eval o X.env)
   let iv <-holding [v,ov] (eval i X.env)
   standAt d
   holding [v,ov,iv] (setItem ov iv v)
   release [v,ov,iv] []):=by intro _;rfl):PG X (.Subscript o i d) (HE to ti t):=by
 intro y' s σ H v u Q I r h;rw[ha];refine AC<|FM<|aU (ho y' s σ H _ I h) λov s1 ⟨x,H1,I1,r1,q1⟩=>?_;refine AC<|FM<|aU (hi y' s1 σ H1 _ I1 q1) λiv s2 ⟨y,H2,I2,r2,q2⟩=>?_;refine AC<|MZ<|AC<|FM<|aU (hs y' s2 σ H2 x y v ov iv u _ I2 r1 r2 r q2) λ_ s3 ⟨H3,I3,q3⟩=>?_;exact wpAny_release ⟨σ,H3,I3,q3⟩
def lW(te:TE)(g:TG):TS:=λD σ H=>te σ H λx H1=>g x σ H1 D.nx
theorem HF{tg e:Expr}{te:TE}{g:TG}(he:PE X e te)(hg:PG X tg g)(hs:swapsWithSole [tg] e d.line X.env=pure false:=by rfl)(hw:swappedStores [tg] e X.env=pure none:=by rfl)
  (h1:(assignEach [tg] X.env).map (·.2)=[assign tg X.env]:=by rfl):PS X (.Assign [tg] e d) (lW te g):=by
 intro y' s σ H D I h;refine wpAny_Assign_stores (aU (he y' s σ H _ I h) λv s1 ⟨x,H1,I1,r1,q1⟩=>?_) hs hw;rw[h1];exact aU (hg y' s1 σ H1 x v _ I1 r1 q1) λ_ s2 q=>q
theorem Sh{i:Nat}{x:Str}{e:Expr}{te:TE}{pos':Pos}(hN:X.N.Nodup)(hi:X.N[i]?=some x)(hx:Loc X.env.scope x)(he:PE X e te)(hs:swapsWith e (some<|.Name x pos') d.line X.env=pure false:=by rfl)(hf:X.fn x=true\/X.env.scope.names.lookup x=some .local:=by first|exact .inl rfl|exact .inr rfl|assumption):
  PS X (.Assign [.Name x pos'] e d) (lW te<|fV i):=by
 intro y' s σ H D I h;refine wpAny_Assign_Name (aU (he y' s σ H _ I h) λv s1 ⟨y,H1,I1,r1,q1⟩=>?_) hs;exact B7 I1 hN hi hx r1 (λs2 I2=>⟨_,H1,I2,q1⟩) hf
def HG(c:TT)(tb:TS):TS:=λD σ H=>∃W:Nat->St->Hp->Prop,(∃m,W m σ H)/\∀m σ H,W m σ H->
 c σ H λb H1=>if b=true then ∃N:St->Hp->Prop,(∀K' H',N K' H'->∃m',m'<m/\W m' K' H')/\tb {D with nx:=N,ct:=N,bk:=D.nx} σ H1 else D.nx σ H1
theorem Si{c:Expr}{body:pi}{tc:TT}{tb:TS}(hp:PassesOwn (model X.prog X.w) X.A X.env X.xe)(hc:PT X c tc)(hb:dg X body tb):PS X (.While c body [] d) (HG tc tb):=by
 intro y' s σ H D I h;obtain⟨W,⟨m0,w0⟩,turn⟩:=h;refine wpAny_While<|codeAny_whileLoop (λn s'=>∃K' H',Inv X y' K' H' s'/\W n K' H') ?_ m0 ⟨σ,H,I,w0⟩;rintro n s1 ⟨σ1,H1,I1,w1⟩;refine KF hp<|aU (hc y' s1 σ1 H1 _ I1<|turn n σ1 H1 w1) λb s2 ⟨H2,I2,q2⟩=>?_;cases b with
 |true=>
  obtain⟨N,hN,q2⟩:=q2;rw[BT rfl];refine KF hp<|aU (hb y' s2 σ1 H2 _ I2 q2) λf s3 q3=>?_;cases f with
  |next=>
   obtain⟨σ3,H3,I3,n3⟩:=q3;obtain⟨m',hm,w3⟩:=hN σ3 H3 n3;exact⟨m',hm,σ3,H3,I3,w3⟩
  |cont=>
   obtain⟨σ3,H3,I3,n3⟩:=q3;obtain⟨m',hm,w3⟩:=hN σ3 H3 n3;exact⟨m',hm,σ3,H3,I3,w3⟩
  |brk=>exact q3
  |ret v=>exact q3
 |false=>
  rw[AT zal];exact wpAny_execs_nil ⟨σ1,H2,I2,q2⟩
end
structure It where
 go:Nat->Hp->Prop
 jv:Nat->Hp->V->Hp->Prop
 stop:Nat->Hp->Prop
def j2(X:Cx)(y':ad)(H:Hp)(b:wl):Prop:=
 H b=none/\b≠X.env.locals/\b∉X.fs/\(b∈X.ex\/X.s₀.heap.objs.size<=b)/\(∀x c,X.env.cells.lookup x=some c->c≠b)/\∀p∈X.pn++y',p.1≠b
theorem Inv.Cc{X:Cx}{y':ad}{σ:St}{H H':Hp}{s:wn}{b:wl}(I:Inv X y' σ H s)(hb:s.heap.objs.size<=b)(hn:H' b=none):j2 X y' H' b:=by
 refine⟨hn,Re<|zao I.lt hb,I.G9 hb,.inr<|zap I.sz hb,λx c e z=>?_,λp hp z=>?_⟩
 ·obtain⟨v,q⟩:=I.cell x c e;exact absurd (zao q.lt (by rw[z];exact hb))<|zaL _
 ·exact absurd (zao (Do (I.pin p hp).1) (by rw[z];exact hb)) (zaL _)
structure Turn (P:ww) (w:wE) (K:Frag) (tg:Expr) (J:It) (fp:db) (it:wl) (tn:Nat->wT->Prop):Prop where
 mem:it∈fp
 obj:∀i h,tn i h->∀b∈fp,∃o,h.get? b=some o/\∀v,o.data≠ .cell v
 keep:∀i h h',tn i h->(∀b∈fp,∀o,h.get? b=some o->h'.get? b=some o)->tn i h'
 item:∀(X:Cx),X.prog=P->X.w=w->X.K=K->X.calm=true->∀(i:Nat) (y':ad) (s:wn) (σ:St) (H:Hp) (E:aW),Inv X y' σ H s->(∀b∈fp,j2 X y' H b)->tn i s.heap->J.go i H->
  wpAny (model P w) X.A (pyNext (.ref it)) (λr s1=>∃u,r=some u/\
   wpAny (model P w) X.A (letOwnedTupleGo tg (.ref it) u) (λ_ s2=>∃x H',Inv X y' σ H' s2/\RelV x u/\J.jv i H x H'/\tn (i+1) s2.heap/\∀b∈fp,H' b=none) E s1) E s
 done:∀(X:Cx),X.prog=P->X.w=w->X.K=K->X.calm=true->∀(i:Nat) (y':ad) (s:wn) (σ:St) (H:Hp) (E:aW),Inv X y' σ H s->(∀b∈fp,j2 X y' H b)->tn i s.heap->J.stop i H->
  wpAny (model P w) X.A (pyNext<|.ref it) (λr s1=>r=none/\Inv X y' σ H s1) E s
 self:∀(A:wP) (i:Nat) (s:wn) (Q:aW) (E:aW),tn i s.heap->Q (.ref it) s->wpAny (model P w) A (pyIter<|.ref it) Q E s
abbrev TI:=St->Hp->(It->Hp->Prop)->Prop
def HH(X:Cx)(y':ad)(σ:St)(tg:Expr)(R:It->Hp->Prop)(qZ:wv)(s2:wn):Prop:=
 ∃(it:wl) (fp:db) (tn:Nat->wT->Prop) (J:It) (H':Hp),qZ=.ref it/\Inv X y' σ H' s2/\Turn X.prog X.w X.K tg J fp it tn/\tn 0 s2.heap/\(∀b∈fp,j2 X y' H' b)/\R J H'
def PI(X:Cx)(tg iter:Expr)(wi:TI):Prop:=
 ∀(y':ad) (s:wn) (σ:St) (H:Hp) (R:It->Hp->Prop),Inv X y' σ H s->wi σ H R->
  wpAny (model X.prog X.w) X.A (eval iter X.env) (λv s1=>wpAny (model X.prog X.w) X.A (pyIter v) (HH X y' σ tg R) X.xe s1) X.xe s
theorem Cd{M:Model}{A:wP}{E:aW}{s:wn}{tg:Expr}{it:wl}{u:wv}{o:Obj}{n:zn}{vs:j_}{Q:sw}(ho:s.heap.get? it=some o)(hc:o.cls=.type n)(hd:o.data=.fields vs)
    (hn:["enumerate","zip","dict_itemiterator","dict_reverseitemiterator","odict_iterator","itertools.zip_longest","itertools.pairwise"].contains n=false) (hQ:Q () s):wpAny M A (letOwnedTupleGo tg (.ref it) u) Q E s:=by
  unfold letOwnedTupleGo;cases tg<;>first
    |exact Ch hQ
    | (cases u<;>first
        |exact Ch hQ
        | (refine AC (wpAny_load ho ?_)
           rw[hc,hd];show wpAny M A (if (["enumerate","zip","dict_itemiterator","dict_reverseitemiterator","odict_iterator","itertools.zip_longest","itertools.pairwise"].contains n && vs[0]?==some (rawInt _))=true then _ else _) Q E s
           rw[AT (by intro h;rw[hn,Bool.false_and] at h;cases h)]
           exact Ch hQ))
def iK(K:Frag)(a:wl):It:=
 ⟨λi H=>∃xs x,aE K H a xs/\xs[i]?=some x,λi H x H'=>H'=H/\∀xs,aE K H a xs->xs[i]?=some x,λi H=>∃xs,aE K H a xs/\xs.length<=i⟩
def Sj(K:Frag)(a:wl):It:=
 ⟨λi H=>∃xs x,aP K H a xs/\xs[i]?=some x,λi H x H'=>H'=H/\∀xs,aP K H a xs->xs[i]?=some x,λi H=>∃xs,aP K H a xs/\xs.length<=i⟩
def ik(lo:Int)(n:Nat):It:=⟨λi _=>i<n,λi H x H'=>H'=H/\x=.int (lo+i),λi _=>n<=i⟩
theorem y9{P:ww}{w:wE}{K:Frag}{tg:Expr}(a it:wl):Turn P w K tg (iK K a) [it] it (λi h=>h.IsListIter it a i) where
 mem:=by simp
 obj:=λi h st b hb=>by
  have e:b=it:=by simpa using hb
  subst e;obtain⟨o,e,c,d⟩:=st;exact⟨o,e,λv z=>by rw[d] at z;cases z⟩
 keep:=λi h h' st k=>st.at λo e=>k it (by simp) o e
 item:=by
  intro X hP hw hK hc i y' s σ H E I hf st hg;subst hP hw hK;obtain⟨xs,x,hq,hx⟩:=hg;obtain⟨ay,rv,p,hz⟩:=I.list hq;obtain⟨u,hu,ru⟩:=rv.get hx;obtain⟨f0,f1,f2,f3,f4,f5⟩:=hf it (by simp)
  refine SZ st p.isList (x:=u) (by simpa using hu) λh' i_ sb=>?_
  have I1:Inv X y' σ H {s with heap:=h'}:=I.turned (t':=s.toks) (λb o hb e=>(sb.2 b hb).trans e) f0 f1 f3 f4 f5
  obtain⟨o,e,c,d⟩:=id i_;exact⟨u,rfl,Cd (s:={s with heap:=h'}) e c d (by decide) ⟨x,H,I1,ru,⟨rfl,λys hy=>by rw[I.Hr hy hq];exact hx⟩,i_,λb hb=>(hf b hb).1⟩⟩
 done:=by
  intro X hP hw hK hc i y' s σ H E I hf st hg;subst hP hw hK;obtain⟨xs,hq,hx⟩:=hg;obtain⟨ay,rv,p,hz⟩:=I.list hq;obtain⟨f0,f1,f2,f3,f4,f5⟩:=hf it (by simp)
  have hl:=rv.length;exact wpAny_pyNext_list_end (I.ok.hd hc) st p.isList (by simp;lia) λh' eb=>⟨rfl,I.turned (t':=s.toks) (λb o hb e=>eb b o hb e) f0 f1 f3 f4 f5⟩
 self:=λ_ _ _ _ _ st h=>wpAny_pyIter_listiter st h
theorem Sk{P:ww}{w:wE}{K:Frag}{tg:Expr}(it:wl)(lo:Int)(n:Nat):Turn P w K tg (ik lo n) [it] it (λi h=>IsRangeIter h it (lo+(i:Nat)*1) ((n:Int) - (i:Nat)) 1) where
 mem:=by simp
 obj:=λi h st b hb=>by
  have e:b=it:=by simpa using hb
  subst e;exact⟨_,st,λv z=>by
   have z':Data.fields _=Data.cell v:=z;cases z'⟩
 keep:=λi h h' st k=>k it (by simp) _ st
 item:=by
  intro X hP hw hK hc i y' s σ H E I hf st hg;subst hP hw hK;obtain⟨f0,f1,f2,f3,f4,f5⟩:=hf it (by simp)
  have W:=Walks.range (prog:=X.prog) (w:=X.w) (I.ok.hd hc) it lo 1 n;refine W.item i s _ _ hg st λv h' tk hv i_ kk=>?_;obtain⟨t,rfl⟩:=hv;have I1:Inv X y' σ H {s with heap:=h',toks:=tk}:=I.turned (λb o hb e=>kk b o (by simpa using hb) e) f0 f1 f3 f4 f5
  refine⟨_,rfl,Cd (s:={s with heap:=h',toks:=tk}) (n:="range_iterator") i_ rfl rfl (by decide) ⟨.int<|lo+i,H,I1,⟨t,?_⟩,⟨rfl,rfl⟩,i_,λb hb=>(hf b hb).1⟩⟩
  rw[Int.mul_one]
 done:=by
  intro X hP hw hK hc i y' s σ H E I hf st hg;subst hP hw hK;obtain⟨f0,f1,f2,f3,f4,f5⟩:=hf it (by simp)
  exact wpAny_pyNext_range_end (I.ok.hd hc) st (by have:n<=i:=hg;lia) λh' eb=>⟨rfl,I.turned (t':=s.toks) (λb o hb e=>eb b o hb e) f0 f1 f3 f4 f5⟩
 self:=λ_ _ _ _ _ st h=>wpAny_pyIter_rangeiter st h
section
variable {X:Cx}{c:Expr}
def vY(K:Frag)(tl:TE):TI:=λσ H R=>tl σ H λx H1=>∃a,x=.ref a/\(∃xs,aE K H1 a xs)/\R (iK K a) H1
def Sl(K:Frag)(tl:TE):TI:=λσ H R=>tl σ H λx H1=>∃a,x=.ref a/\(∃xs,aP K H1 a xs)/\R (Sj K a) H1
theorem Sm{l:Expr}{tl:TE}(hl:PE X l tl):PI X c l (vY X.K tl):=by
 intro y' s σ H R I h;refine aU (hl y' s σ H _ I h) λv s1 ⟨x,H1,I1,r1,q1⟩=>?_;obtain⟨a,e,⟨xs,hq⟩,q⟩:=q1;subst e;cases r1;obtain⟨ay,rv,p,hz⟩:=I1.list hq;refine Tk p.isList ?_;refine⟨s1.heap.objs.size,[s1.heap.objs.size],_,_,H1,rfl,I1.kept (t':=s1.toks) λb o e=>EQ _ e,y9 a _,⟨_,Gc _ rfl,rfl,rfl⟩,λb hb=>?_,q⟩;have e:b=s1.heap.objs.size:=by simpa using hb
 subst e;exact I1.Cc (zqR _)<|I1.aF.fresh<|zqR _
theorem HI{y':ad}{σ:St}{H:Hp}{s:wn}{R:It->Hp->Prop}{E:aW}{lo hi:Int}{t u v:Tok}{tk:Nat}(I:Inv X y' σ H s)(h1: -(2 ^ 62)<=lo)(h2:lo<2 ^ 62)(h3: -(2 ^ 62)<=hi)(h4:hi<2 ^ 62)
  (q:R (ik lo (hi - lo).toNat) H):wpAny (model X.prog X.w) X.A (pyIter<|.ref s.heap.objs.size) (HH X y' σ c R) E {s with heap:=s.heap.push {cls:=.type "range",data:=.fields #[.int lo t,.int hi u,.int 1 v]},toks:=tk}:=by
 refine wpAny_pyIter_range (IsRange.new ..) (small_one h1 h2 h3 h4) ?_;have I1:Inv X y' σ H {s with heap:=s.heap.push {cls:=.type "range",data:=.fields #[.int lo t,.int hi u,.int 1 v]},toks:=tk}:=I.kept λb o e=>EQ _ e
 refine⟨(s.heap.push {cls:=.type "range",data:=.fields #[.int lo t,.int hi u,.int 1 v]}).objs.size,[(s.heap.push {cls:=.type "range",data:=.fields #[.int lo t,.int hi u,.int 1 v]}).objs.size],_,_,H,rfl,
  I1.kept (t':=tk) λb o e=>EQ _ e,Sk _ lo (hi - lo).toNat,?_,λb hb=>?_,q⟩
 ·have e1:lo+((0:Nat):Int)*1=lo:=by simp
  have e2:(((hi - lo).toNat:Nat):Int) - ((0:Nat):Int)=Builtin.Range.rangeSize lo hi 1:=by rw[rangeSize_one];split<;>omega
  show IsRangeIter _ _ (lo+((0:Nat):Int)*1) ((((hi - lo).toNat:Nat):Int) - ((0:Nat):Int)) 1;rw[e1,e2];exact Gc _ rfl
 ·have e:b=(s.heap.push {cls:=.type "range",data:=.fields #[.int lo t,.int hi u,.int 1 v]}).objs.size:=by simpa using hb
  subst e;exact I1.Cc (zqR _)<|I1.aF.fresh<|zqR _
def HJ(ta:TA):TI:=λσ H R=>ta σ H λvs H1=>∃j:Int,vs=[.int j]/\ -(2 ^ 62)<=j/\j<2 ^ 62/\R (ik 0 j.toNat) H1
def HK(ta:TA):TI:=λσ H R=>ta σ H λvs H1=>∃i j:Int,vs=[.int i,.int j]/\(-(2 ^ 62)<=i/\i<2 ^ 62/\ -(2 ^ 62)<=j/\j<2 ^ 62)/\R (ik i (j - i).toNat) H1
theorem Sn{a:Expr}{ta:TA}{p pos:Pos}(hg:Gl X "range")(hm:X.mg "range"=none)(ha:PA X [a] ta)(hs:starEach [a] X.env=[(false,eval a X.env)]:=by rfl):PI X c (.Call (.Name "range" p) [a] [] pos) (HJ ta):=by
 intro y' s σ H R I h;refine Call_<|qX I hg hm boot_range<|Op (aU (ha pos y' s σ H _ I h) λus s1 ⟨vs,H1,I1,r1,q1⟩=>?_) hs rfl;obtain⟨j,e,q1,q2,q⟩:=q1;subst e;cases r1 with
 |cons r rr=>
  cases rr;obtain⟨t,rfl⟩:=r;exact call_range_1<|HI I1 (by lia) (by lia) q1 q2 (by simpa using q)
theorem So{a b:Expr}{ta:TA}{p pos:Pos}(hg:Gl X "range")(hm:X.mg "range"=none)(ha:PA X [a,b] ta)(hs:starEach [a,b] X.env=[(false,eval a X.env),(false,eval b X.env)]:=by rfl)(iL:starEach [b] X.env=[(false,eval b X.env)]:=by rfl):
  PI X c (.Call (.Name "range" p) [a,b] [] pos) (HK ta):=by
 intro y' s σ H R I h;refine Call_<|qX I hg hm boot_range<|Op (aU (ha pos y' s σ H _ I h) λus s1 ⟨vs,H1,I1,r1,q1⟩=>?_) (by rw[hs,iL]) (by rw[iL];rfl)
 obtain⟨i,j,e,⟨q1,q2,q3,q4⟩,q⟩:=q1;subst e;cases r1 with
 |cons r rr=>
  cases rr with
  |cons r' rr=>
   cases rr;obtain⟨t,rfl⟩:=r;obtain⟨t',rfl⟩:=r';exact call_range_2<|HI I1 q1 q2 q3 q4 q
def y_(wi:TI)(g:TG)(tb:TS):TS:=λD σ H=>wi σ H λJ H1=>∃W:Nat->Nat->St->Hp->Prop,(∃m,W 0 m σ H1)/\∀i m σ H,W i m σ H->
 (J.stop i H/\D.nx σ H)\/(J.go i H/\∃N:St->Hp->Prop,(∀K' H',N K' H'->∃m',m'<m/\W (i+1) m' K' H')/\∀x H',J.jv i H x H'->g x σ H' λσ2 H2=>tb {D with nx:=N,ct:=N,bk:=D.nx} σ2 H2)
def tZ(fp:db)(h:wT):ad:=fp.filterMap λb=>(h.get? b).map λo=>(b,o)
theorem za{fp:db}{h:wT}{b:wl}{o:Obj}(hb:b∈fp)(e:h.get? b=some o):(b,o)∈tZ fp h:=zbE.mpr ⟨b,hb,by rw[e];rfl⟩
theorem Sq{fp:db}{h:wT}{p:wl×Obj}(hp:p∈tZ fp h):p.1∈fp/\h.get? p.1=some p.2:=by
 obtain⟨b,hb,e⟩:=zbE.mp hp;cases q:h.get? b with
 |none=>rw[q] at e;cases e
 |some o=>
  rw[q] at e;have e':(b,o)=p:=zaj e;subst e';exact⟨hb,q⟩
theorem Inv.pinned{y':ad}{σ:St}{H:Hp}{s:wn}{fp:db}(I:Inv X y' σ H s)(hf:∀b∈fp,j2 X y' H b)(ho:∀b∈fp,∃o,s.heap.get? b=some o/\∀v,o.data≠ .cell v):Inv X (y'++tZ fp s.heap) σ H s:=
 I.tV λp hp=>(zak.mp hp).elim (λz=>I.pin p<|zau _ z) λz=>by
  obtain⟨hb,e⟩:=Sq z;obtain⟨f0,f1,f2,_⟩:=hf p.1 hb;obtain⟨o,e',d⟩:=ho p.1 hb;rw[e] at e';cases e';exact⟨e,f0,f1,f2,d⟩
theorem Inv.Ce{y' pl:ad}{σ:St}{H:Hp}{s:wn}(I:Inv X (y'++pl) σ H s):Inv X y' σ H s:=I.tV λp hp=>I.pin p (zau _<|zaQ _ hp)
theorem HL{iter:Expr}{body:pi}{wi:TI}{g:TG}{tb:TS}{pos:Pos}(hp:PassesOwn (model X.prog X.w) X.A X.env X.xe)(hc:X.calm=true)(hi:PI X c iter wi)(hg:PG X c g)(hb:dg X body tb)
  (hs:∀x,foldedSetIterable iter X.env x=pure x:=by intro _;rfl):PS X (.For c iter body [] pos) (y_ wi g tb):=by
 intro y' s σ H D I h;refine wpAny_For (aU (hi y' s σ H _ I h) λv s1 h1=>aU h1 λqZ s2 h2=>?_) hs;obtain⟨it,fp,tn,J,H2,e,I2,T,vZ,f2,W,⟨m0,w0⟩,turn⟩:=h2;subst e;have q5:∀{H':Hp},(∀b∈fp,H' b=none)->∀b∈fp,j2 X y' H' b:=λhn b hb=>⟨hn b hb,(f2 b hb).2⟩;refine codeAny_forLoop_any (λn s'=>∃i K' H',Inv X y' K' H' s'/\tn i s'.heap/\(∀b∈fp,H' b=none)/\W i n K' H') ?_ m0 ⟨0,σ,H2,I2,vZ,λb hb=>(f2 b hb).1,w0⟩;rintro n s3 ⟨i,σ3,H3,I3,HM,HN,w3⟩;rcases turn i n σ3 H3 w3 with⟨stop,qn⟩|⟨go,N,hN,step⟩
 ·refine KF hp (aU (T.done X rfl rfl rfl hc i y' s3 σ3 H3 X.xe I3 (q5 HN) HM stop) λr s4 ⟨hr,I4⟩=>?_);subst hr;exact wpAny_execs_nil ⟨σ3,H3,I4,qn⟩
 ·refine KF hp (aU (T.item X rfl rfl rfl hc i y' s3 σ3 H3 X.xe I3 (q5 HN) HM go) λr s4 ⟨u,hr,h4⟩=>?_);subst hr;refine KF hp<|aU h4 λ_ s5 ⟨x,H5,I5,r5,y5,q8,Cf⟩=>?_;have v3:=I5.pinned (q5 Cf) (T.obj _ _ q8);refine KF hp<|aU (hg _ s5 σ3 H5 x u _ v3 r5<|step x H5 y5) λ_ s6 ⟨σ6,H6,I6,q6⟩=>?_;refine KF hp<|aU (hb _ s6 σ6 H6 _ I6 q6) λf s7 q7=>?_;have again:∀{σ7:St}{H7:Hp},Inv X (y'++tZ fp s5.heap) σ7 H7 s7->N σ7 H7->∃m,m<n/\∃i K' H',Inv X y' K' H' s7/\tn i s7.heap/\(∀b∈fp,H' b=none)/\W i m K' H':=λ{σ7 H7} I7 n7=>by
   obtain⟨m',hm,w7⟩:=hN σ7 H7 n7;refine⟨m',hm,i+1,σ7,H7,I7.Ce,T.keep _ _ _ q8 λb hb o e=>(I7.pin (b,o)<|zau _<|zau _<|za hb e).1,λb hb=>?_,w7⟩;obtain⟨o,e,d⟩:=T.obj _ _ q8 b hb;exact(I7.pin (b,o)<|zau _<|zau _<|za hb e).2.1
  cases f with
  |next=>obtain⟨σ7,H7,I7,n7⟩:=q7;exact again I7 n7
  |cont=>obtain⟨σ7,H7,I7,n7⟩:=q7;exact again I7 n7
  |brk=>obtain⟨σ7,H7,I7,q7⟩:=q7;exact⟨σ7,H7,I7.Ce,q7⟩
  |ret v=>obtain⟨x7,σ7,H7,I7,r7,q7⟩:=q7;exact⟨x7,σ7,H7,I7.Ce,r7,q7⟩
end
theorem m4{K:Frag}{a:wl}{xs:be}{g:TG}{tb:TS}{D:Ends}{σ:St}{H:Hp}(Pv:Nat->St->Hp->Prop)(h0:Pv 0 σ H)(hl:∀i σ H,i<=xs.length->Pv i σ H->aE K H a xs)
  (hs:∀i x σ H,xs[i]?=some x->Pv i σ H->g x σ H λσ2 H2=>tb {D with nx:=Pv (i+1),ct:=Pv (i+1),bk:=D.nx} σ2 H2) (hd:∀σ H,Pv xs.length σ H->D.nx σ H):
  ∃W:Nat->Nat->St->Hp->Prop,(∃m,W 0 m σ H)/\∀i m σ H,W i m σ H->
   ((iK K a).stop i H/\D.nx σ H)\/((iK K a).go i H/\∃N:St->Hp->Prop,(∀K' H',N K' H'->∃m',m'<m/\W (i+1) m' K' H')/\∀x H',(iK K a).jv i H x H'->g x σ H' λσ2 H2=>tb {D with nx:=N,ct:=N,bk:=D.nx} σ2 H2):=by
 refine⟨λi m σ H=>m=xs.length - i/\i<=xs.length/\Pv i σ H,⟨xs.length,by simp,zqZ _,h0⟩,?_⟩
 rintro i m σ H ⟨rfl,hi,p⟩;have q:=hl i σ H hi p;by_cases bY:i<xs.length
 ·refine .inr ⟨⟨xs,xs[i],q,by simp[bY]⟩,Pv<|i+1,λK' H' p'=>⟨xs.length - (i+1),by omega,rfl,bY,p'⟩,λx H' y=>?_⟩
  obtain⟨e,y⟩:=y;subst e;exact hs i x σ _ (y xs q) p
 ·have e:i=xs.length:=by omega
  subst e;exact .inl ⟨⟨xs,q,zqR _⟩,hd σ H p⟩
abbrev R2:=V->V->Hp->VK->Prop
def bH(X:Cx)(f:wv->wv->Sem wv)(r:R2):Prop:=
 ∀(y':ad) (s:wn) (σ:St) (H:Hp) (x y:V) (v u:wv) (Q:VK),Inv X y' σ H s->RelV x v->RelV y u->r x y H Q->
  wpAny (model X.prog X.w) X.A (f v u) (EP X y' σ Q) X.xe s
def zb(X:Cx)(f:wv->Sem wv)(r:V->Hp->VK->Prop):Prop:=
 ∀(y':ad) (s:wn) (σ:St) (H:Hp) (x:V) (v:wv) (Q:VK),Inv X y' σ H s->RelV x v->r x H Q->
  wpAny (model X.prog X.w) X.A (f v) (EP X y' σ Q) X.xe s
def dh(X:Cx)(f:wv)(r:be->Hp->VK->Prop):Prop:=
 ∀(y':ad) (s:wn) (σ:St) (H:Hp) (xs:be) (us:ce) (Q:VK),Inv X y' σ H s->Vals xs us->r xs H Q->
  wpAny (model X.prog X.w) X.A (call f us) (EP X y' σ Q) X.xe s
def Sr(X:Cx)(r:V->Hp->(ge)->Prop):Prop:=
 ∀(y':ad) (s:wn) (σ:St) (H:Hp) (x:V) (v:wv) (Q:ge),Inv X y' σ H s->RelV x v->r x H Q->
  wpAny (model X.prog X.w) X.A (truthy v) (TP X y' σ Q) X.xe s
def gk(r:R2)(ta tb:TE):TE:=λσ H Q=>ta σ H λx H1=>tb σ H1 λy H2=>r x y H2 Q
def HP(r:V->Hp->VK->Prop)(ta:TE):TE:=λσ H Q=>ta σ H λx H1=>r x H1 Q
def rI(C:Int->Int->Prop)(g:Int->Int->V):R2:=λx y H Q=>∃i j,x=.int i/\y=.int j/\C i j/\Q (g i j) H
def m7(g:Int->Int->V):R2:=λx y H Q=>∃i j,x=.int i/\y=.int j/\Q (g i j) H
def rU(g:Int->V):V->Hp->VK->Prop:=λx H Q=>∃i,x=.int i/\Q (g i) H
section
variable {X:Cx}{a b c:Expr}{d e tc:TE}{k:Pos}
theorem Cg(ha:PE X a d)(hb:PE X b e){y':ad}{s:wn}{σ:St}{H:Hp}{R:V->V->Hp->Prop}(I:Inv X y' σ H s)
  (h:d σ H λx H1=>e σ H1 λy H2=>R x y H2) {Q:aW}{f:wv->wv->Sem wv}
  (hf:∀v u s2 x y H2,Inv X y' σ H2 s2->RelV x v->RelV y u->R x y H2->wpAny (model X.prog X.w) X.A (f v u) Q X.xe s2):
  wpAny (model X.prog X.w) X.A (eval a X.env) (λv G'=>wpAny (model X.prog X.w) X.A (eval b X.env) (λu J'=>wpAny (model X.prog X.w) X.A (f v u) Q X.xe J') X.xe G') X.xe s:=by
 refine aU (ha y' s σ H _ I h) λv s1 ⟨x,H1,I1,r1,q1⟩=>?_;refine aU (hb y' s1 σ H1 _ I1 q1) λu s2 ⟨y,H2,I2,r2,q2⟩=>?_;exact hf v u s2 x y H2 I2 r1 r2 q2
theorem HQ{op:Operator}{r:R2}(ho:bH X (binaryOp op) r)(ha:PE X a d)(hb:PE X b e):PE X (.BinOp a op b k) (gk r d e):=by
 intro y' s σ H Q I h;exact wpAny_BinOp<|Cg ha hb I h λv u s2 x y H2 I2 rx ry q=>ho y' s2 σ H2 x y v u Q I2 rx ry q
theorem Ss{op:UnaryOp}{r:V->Hp->VK->Prop}(ho:zb X (unaryOp op) r)(ha:PE X a d):PE X (.UnaryOp op a k) (HP r d):=by
 intro y' s σ H Q I h;exact UnaryOp_<|aU (ha y' s σ H _ I h) λv s1 ⟨x,H1,I1,r1,q1⟩=>ho y' s1 σ H1 x v Q I1 r1 q1
theorem zd{f:wv->wv->Sem wv}{C:Int->Int->Prop}{g:Int->Int->Int}
  (rule:∀(i j:Int) (t u:Tok) (s:wn) (Q:aW) (E:aW),C i j->Q (.int (g i j) s.toks) {s with toks:=s.toks+1}->wpAny (model X.prog X.w) X.A (f (.int i t)<|.int j u) Q E s):
  bH X f (rI C λi j=>.int (g i j)):=by
 intro y' s σ H x y v u Q I rx ry h;obtain⟨i,j,rfl,rfl,hc,q⟩:=h;obtain⟨t,rfl⟩:=rx;obtain⟨t',rfl⟩:=ry;exact rule i j t t' s _ _ hc ⟨.int<|g i j,H,I.tok _,⟨_,rfl⟩,q⟩
theorem HR{f:wv->wv->Sem wv}{g:Int->Int->Int}
  (rule:∀(i j:Int) (t u:Tok) (s:wn) (Q:aW) (E:aW),Q (.int (g i j) s.toks) {s with toks:=s.toks+1}->wpAny (model X.prog X.w) X.A (f (.int i t)<|.int j u) Q E s):
  bH X f (m7 λi j=>.int (g i j)):=by
 intro y' s σ H x y v u Q I rx ry h;obtain⟨i,j,rfl,rfl,q⟩:=h;obtain⟨t,rfl⟩:=rx;obtain⟨t',rfl⟩:=ry;exact rule i j t t' s _ _ ⟨.int<|g i j,H,I.tok _,⟨_,rfl⟩,q⟩
theorem ze{f:wv->wv->Sem wv}{g:Int->Int->xz}
  (rule:∀(i j:Int) (t u:Tok) (s:wn) (Q:aW) (E:aW),Q (.bool<|g i j) s->wpAny (model X.prog X.w) X.A (f (.int i t)<|.int j u) Q E s):
  bH X f (m7 λi j=>.bl (g i j)):=by
 intro y' s σ H x y v u Q I rx ry h;obtain⟨i,j,rfl,rfl,q⟩:=h;obtain⟨t,rfl⟩:=rx;obtain⟨t',rfl⟩:=ry;exact rule i j t t' s _ _ ⟨.bl<|g i j,H,I,rfl,q⟩
def j3(i j:Int):Prop:=0<j/\j<1073741824
def Ci(i j:Int):Prop:=0<=j/\j<=1000000/\i.natAbs<2 ^ 64
def zf(i j:Int):Prop:=(-(2 ^ 64) <i/\i<2 ^ 64)\/(-(2 ^ 64) <j/\j<2 ^ 64)
theorem zf.ok{i j:Int}(h:zf i j):IntMulOk i j:=by
 rcases h with⟨h1,h2⟩|⟨h1,h2⟩
 ·exact .of_left (intBits_le_64 h1 h2)
 ·exact .of_right (intBits_le_64 h1 h2)
theorem Su:bH X (binaryOp .Add) (m7 λi j=>.int (i+j)):=HR λ_ _ _ _ _ _ _ q=>add_int q
theorem Sw:bH X (binaryOp .Sub) (m7 λi j=>.int (i - j)):=HR λ_ _ _ _ _ _ _ q=>sub_int q
theorem Sx:bH X (binaryOp .Mult) (rI zf λi j=>.int (i*j)):=zd λ_ _ _ _ _ _ _ hc q=>mul_int q hc.ok
theorem Sy:bH X (binaryOp .FloorDiv) (rI j3 λi j=>.int (i / j)):=zd λi j _ _ _ _ _ hc q=>by
 have h1:(0:Int) <j:=hc.1;have h2:j<1073741824:=hc.2;exact floordiv_int (by omega) (by rw[Int.fdiv_eq_ediv_of_nonneg i (by omega)];exact q)<|.inl<|PyProof.noPylong_small (by omega)
theorem Sz:bH X (binaryOp .Mod) (rI (λ_ j=>0<j) λi j=>.int (i % j)):=zd λi j _ _ _ _ _ hc q=>by
 have h1:(0:Int) <j:=hc;exact mod_int' (by omega) (by rw[Int.fmod_eq_emod_of_nonneg i (by omega)];exact q)
theorem SD:bH X (binaryOp .Pow) (rI Ci λi j=>.int (i ^ j.toNat)):=zd λ_ _ _ _ _ _ _ hc q=>pow_int_small hc.1 hc.2.1 hc.2.2 q
theorem SE{f:wv->Sem wv}{g:Int->Int}
  (rule:∀(i:Int) (t:Tok) (s:wn) (Q:aW) (E:aW),Q (.int (g i) s.toks) {s with toks:=s.toks+1}->wpAny (model X.prog X.w) X.A (f<|.int i t) Q E s):
  zb X f (rU λi=>.int (g i)):=by
 intro y' s σ H x v Q I rx h;obtain⟨i,rfl,q⟩:=h;obtain⟨t,rfl⟩:=rx;exact rule i t s _ _ ⟨.int<|g i,H,I.tok _,⟨_,rfl⟩,q⟩
theorem SF:zb X (unaryOp .USub) (rU λi=>.int (-i)):=SE λ_ _ _ _ _ q=>neg_int q
end
def q9:V->V->xz
 |.av,.av=>true|.av,.int _=>true|.int _,.av=>true|.av,.bl _=>true|.bl _,.av=>true|.av,.str _=>true|.str _,.av=>true
 |.int _,.int _=>true|.bl _,.bl _=>true|.str _,.str _=>true|.gZ _,.gZ _=>true
 |.int _,.str _=>true|.str _,.int _=>true|.bl _,.str _=>true|.str _,.bl _=>true
 |_,_=>false
def SH:R2:=λx y H Q=>q9 x y=true/\Q (.bl<|decide<|x=y) H
def SI:R2:=λx y H Q=>q9 x y=true/\Q (.bl<|!decide (x=y)) H
theorem HS{i j:Int}:decide (V.int i=V.int j)=(i==j):=by
 rw[zbn]
 simp
theorem HU{i j:xz}:decide (V.bl i=V.bl j)=(i==j):=by
 rw[zbn]
 simp
theorem ja{i j:Str}:decide (V.str i=V.str j)=(i==j):=by
 rw[zbn]
 simp
theorem HV{i j:Array UInt8}:decide (V.gZ i=V.gZ j)=(i.toList==j.toList):=by
 rw[zbn];cases i;cases j
 simp
section
variable {X:Cx}{a b c:Expr}{g l o:TE}{w:Pos}
theorem cO{y':ad}{σ:St}{H:Hp}{s:wn}{Q:VK}{k k':xz}(I:Inv X y' σ H s)(q:Q (.bl k) H)(e:k=k'):EP X y' σ Q (.bool k') s:=by
 subst e;exact⟨.bl k,H,I,rfl,q⟩
theorem SJ:bH X (compareOp .Eq) SH:=by
 intro y' s σ H x y v u Q I rx ry h;obtain⟨hs,q⟩:=h;cases x with
 |av=>
  cases rx;cases y with
  |av=>cases ry;exact PySem.EqNone.eq_none_none (cO I q (by simp))
  |bl j=>cases ry;exact PySem.EqNone.eq_none_bool (cO I q (by simp))
  |int j=>obtain⟨t',rfl⟩:=ry;exact PySem.EqNone.eq_none_int (cO I q (by simp))
  |str j=>obtain⟨t',rfl⟩:=ry;exact PySem.EqNone.eq_none_str (cO I q (by simp))
  |_=>exact absurd (show false=true from hs) zal
 |bl i=>
  cases rx;cases y with
  |av=>cases ry;exact PySem.EqNone.eq_bool_none (cO I q (by simp))
  |bl j=>cases ry;exact eq_bool (cO I q HU)
  |str j=>obtain⟨t',rfl⟩:=ry;exact PySem.EqMixed.eq_bool_str (cO I q (by simp))
  |_=>exact absurd (show false=true from hs) zal
 |int i=>
  obtain⟨t,rfl⟩:=rx;cases y with
  |av=>cases ry;exact PySem.EqNone.eq_int_none (cO I q (by simp))
  |int j=>obtain⟨t',rfl⟩:=ry;exact eq_int (cO I q HS)
  |str j=>obtain⟨t',rfl⟩:=ry;exact PySem.EqMixed.eq_int_str (cO I q (by simp))
  |_=>exact absurd (show false=true from hs) zal
 |str i=>
  obtain⟨t,rfl⟩:=rx;cases y with
  |av=>cases ry;exact PySem.EqNone.eq_str_none (cO I q (by simp))
  |bl j=>cases ry;exact PySem.EqMixed.eq_str_bool (cO I q (by simp))
  |int j=>obtain⟨t',rfl⟩:=ry;exact PySem.EqMixed.eq_str_int (cO I q (by simp))
  |str j=>obtain⟨t',rfl⟩:=ry;exact eq_str (cO I q ja)
  |_=>exact absurd (show false=true from hs) zal
 |gZ i=>
  obtain⟨t,rfl⟩:=rx;cases y with
  |gZ j=>obtain⟨t',rfl⟩:=ry;exact PySem.W.eq_bytes (cO I q HV)
  |_=>exact absurd (show false=true from hs) zal
 |_=>cases y<;>exact absurd (show false=true from hs) zal
theorem SK:bH X (compareOp .NotEq) SI:=by
 intro y' s σ H x y v u Q I rx ry h;obtain⟨hs,q⟩:=h;cases x with
 |av=>
  cases rx;cases y with
  |av=>cases ry;exact PySem.EqNone.ne_none_none (cO I q (by simp))
  |bl j=>cases ry;exact PySem.EqNone.ne_none_bool (cO I q (by simp))
  |int j=>obtain⟨t',rfl⟩:=ry;exact PySem.EqNone.ne_none_int (cO I q (by simp))
  |str j=>obtain⟨t',rfl⟩:=ry;exact PySem.EqNone.ne_none_str (cO I q (by simp))
  |_=>exact absurd (show false=true from hs) zal
 |bl i=>
  cases rx;cases y with
  |av=>cases ry;exact PySem.EqNone.ne_bool_none (cO I q (by simp))
  |bl j=>cases ry;exact ne_bool (cO I q<|Cl not HU)
  |str j=>obtain⟨t',rfl⟩:=ry;exact PySem.EqMixed.ne_bool_str (cO I q (by simp))
  |_=>exact absurd (show false=true from hs) zal
 |int i=>
  obtain⟨t,rfl⟩:=rx;cases y with
  |av=>cases ry;exact PySem.EqNone.ne_int_none (cO I q (by simp))
  |int j=>obtain⟨t',rfl⟩:=ry;exact ne_int (cO I q<|Cl not HS)
  |str j=>obtain⟨t',rfl⟩:=ry;exact PySem.EqMixed.ne_int_str (cO I q (by simp))
  |_=>exact absurd (show false=true from hs) zal
 |str i=>
  obtain⟨t,rfl⟩:=rx;cases y with
  |av=>cases ry;exact PySem.EqNone.ne_str_none (cO I q (by simp))
  |bl j=>cases ry;exact PySem.EqMixed.ne_str_bool (cO I q (by simp))
  |int j=>obtain⟨t',rfl⟩:=ry;exact PySem.EqMixed.ne_str_int (cO I q (by simp))
  |str j=>obtain⟨t',rfl⟩:=ry;exact ne_str (cO I q<|Cl not ja)
  |_=>exact absurd (show false=true from hs) zal
 |gZ i=>
  obtain⟨t,rfl⟩:=rx;cases y with
  |gZ j=>obtain⟨t',rfl⟩:=ry;exact PySem.W.ne_bytes (cO I q<|Cl not HV)
  |_=>exact absurd (show false=true from hs) zal
 |_=>cases y<;>exact absurd (show false=true from hs) zal
theorem SM:bH X (compareOp .Lt) (m7 λi j=>.bl (decide<|i<j)):=ze λ_ _ _ _ _ _ _ q=>lt_int q
theorem SN:bH X (compareOp .LtE) (m7 λi j=>.bl (decide<|i<=j)):=ze λ_ _ _ _ _ _ _ q=>le_int q
theorem SO:bH X (compareOp .Gt) (m7 λi j=>.bl (decide<|j<i)):=ze λ_ _ _ _ _ _ _ q=>gt_int q
theorem SQ:bH X (compareOp .GtE) (m7 λi j=>.bl (decide<|j<=i)):=ze λ_ _ _ _ _ _ _ q=>ge_int q
theorem SR:bH X (compareOp .In) (λx y H Q=>∃i j,x=.str i/\y=.str j/\Q (.bl<|!(Builtin.Str.occurrences j i 0 j.length 1).isEmpty) H):=by
 intro y' s σ H x y v u Q I rx ry h;obtain⟨i,j,rfl,rfl,q⟩:=h;obtain⟨t,rfl⟩:=rx;obtain⟨t',rfl⟩:=ry;exact in_str<|cO I q rfl
theorem SS:bH X (compareOp .Is) (λx y H Q=>y=.av/\Q (.bl<|decide<|x=.av) H):=by
 intro y' s σ H x y v u Q I rx ry h;obtain⟨rfl,q⟩:=h;cases ry;refine is_none_gen<|cO I q ?_;cases x<;>first
  | (cases rx;rfl)
  | (obtain⟨t,rfl⟩:=rx;rfl)
theorem SU:bH X (compareOp .IsNot) (λx y H Q=>y=.av/\Q (.bl<|!decide (x=.av)) H):=by
 intro y' s σ H x y v u Q I rx ry h;obtain⟨rfl,q⟩:=h;cases ry;refine isnot_none_gen<|cO I q ?_;cases x<;>first
  | (cases rx;rfl)
  | (obtain⟨t,rfl⟩:=rx;rfl)
theorem SV:bH X (compareOp .NotIn) (λx y H Q=>∃i j,x=.str i/\y=.str j/\Q (.bl<|!(!(Builtin.Str.occurrences j i 0 j.length 1).isEmpty)) H):=by
 intro y' s σ H x y v u Q I rx ry h;obtain⟨i,j,rfl,rfl,q⟩:=h;obtain⟨t,rfl⟩:=rx;obtain⟨t',rfl⟩:=ry;exact notIn_str<|cO I q rfl
theorem bH.or{f:wv->wv->Sem wv}{r r':R2}(h:bH X f r)(h':bH X f r'):bH X f (λx y H Q=>r x y H Q\/r' x y H Q):=by
 intro y' s σ H x y v u Q I rx ry q;rcases q with q|q
 ·exact h y' s σ H x y v u Q I rx ry q
 ·exact h' y' s σ H x y v u Q I rx ry q
theorem SW{op:CmpOp}{r:R2}(ho:bH X (compareOp op) r)(ha:PE X a g)(hb:PE X b l)(hm:behindInMarks op b=false):PE X (.Compare a [op] [b] w) (gk r g l):=by
 intro y' s σ H Q I h;exact wpAny_Compare1 (Cg ha hb I h λv u s2 x y H2 I2 rx ry q=>ho y' s2 σ H2 x y v u Q I2 rx ry q) hm
def t6(t:TE):TT:=λσ H Q=>t σ H λx H'=>∃k,x=.bl k/\Q k H'
theorem SX{op:CmpOp}{r:R2}(ho:bH X (compareOp op) r)(ha:PE X a g)(hb:PE X b l)(hm:behindInMarks op b=false):PT X (.Compare a [op] [b] w) (t6<|gk r g l):=by
 intro y' s σ H Q I h;refine wpAny_isTrue_Compare1 (aU (ha y' s σ H _ I h) λv s1 ⟨x,H1,I1,r1,q1⟩=>aU (hb y' s1 σ H1 _ I1 q1) λu s2 ⟨y,H2,I2,r2,q2⟩=>
  aU (ho y' s2 σ H2 x y v u _ I2 r1 r2 q2) λc s3 ⟨z,H3,I3,r3,k,e,q3⟩=>?_) hm
 subst e;cases r3;exact On ⟨H3,I3,q3⟩
def zg(r r':R2)(g l o:TE):TE:=λσ H Q=>g σ H λx H1=>l σ H1 λy H2=>r x y H2 λz H3=>∃k,z=.bl k/\
 (if k=true then o σ H3 λw' H4=>r' y w' H4 Q else Q (.bl false) H3)
theorem SY{op g7:CmpOp}{r r':R2}(ho:bH X (compareOp op) r)(eL:bH X (compareOp g7) r')(ha:PE X a g)(hb:PE X b l)(hc:PE X c o)
  (hm:lastMarks [op,g7] [b,c]=false:=by with_unfolding_all rfl):PE X (.Compare a [op,g7] [b,c] w) (zg r r' g l o):=by
 intro y' s σ H Q I h;refine Compare_chain (aU (ha y' s σ H _ I h) λv s1 ⟨x,H1,I1,r1,q1⟩=>chain_link (aU (hb y' s1 σ H1 _ I1 q1) λu s2 ⟨y,H2,I2,r2,q2⟩=>
  aU (ho y' s2 σ H2 x y v u _ I2 r1 r2 q2) λd s3 ⟨z,H3,I3,r3,k,e,q3⟩=>?_)) hm
 subst e;cases r3;refine On ?_;cases k with
 |false=>exact ite_ff ⟨.bl false,H3,I3,rfl,q3⟩
 |true=>exact ite_tt (chain_last<|aU (hc y' s3 σ H3 _ I3 q3) λw' s4 ⟨z',H4,I4,r4,q4⟩=>eL y' s4 σ H4 y z' u w' Q I4 r2 r4 q4)
def HW(K:Frag)(x:V)(H:Hp)(k:xz):Prop:=
 match x with
 |.av=>k=false
 |.bl b=>k=b
 |.int i=>k=(i !=0)
 |.str y=>y.length<=sizeLine/\k=((y.length:Int) !=0)
 |.gZ y=>y.size<=sizeLine/\k=((y.size:Int) !=0)
 |.ref p=>(∃xs,aE K H p xs/\k= !xs.isEmpty)\/(∃xs,aP K H p xs/\k= !xs.isEmpty)\/∃az,H p=some (.dK az)/\k= !az.isEmpty
 |_=>False
theorem S0{κ:Type}{az:List (κ×V)}{vs:List (κ×wv)}(r:KV az vs):(!vs.isEmpty)= !az.isEmpty:=by
 cases r<;>rfl
theorem HX{xs:be}{ay:ce}(r:Vals xs ay):(!ay.toArray.isEmpty)= !xs.isEmpty:=by
 cases r<;>simp
theorem q_:(sizeLine:Nat) <2 ^ 63:=by rw[Os];decide
theorem HY:Sr X (λx H Q=>∃k,HW X.K x H k/\Q k H):=by
 intro y' s σ H x v Q I rx h;obtain⟨k,e,q⟩:=h;have hl:=q_;have hs:sizeLine=16777216:=Os;cases x with
 |av=>
  cases rx;have e':k=false:=e;subst e';exact truthy_none ⟨H,I,q⟩
 |bl b=>
  cases rx;have e':k=b:=e;subst e';exact On ⟨H,I,q⟩
 |int i=>
  obtain⟨t,rfl⟩:=rx;have e':k=(i !=0):=e;subst e';exact PySem.P.truthy_int ⟨H,I,q⟩
 |str y=>
  obtain⟨t,rfl⟩:=rx;obtain⟨hy,e'⟩:y.length<=sizeLine/\k=((y.length:Int) !=0):=e;subst e';exact PySem.P.truthy_str (by lia) ⟨H,I.tok _,q⟩
 |gZ y=>
  obtain⟨t,rfl⟩:=rx;obtain⟨hy,e'⟩:y.size<=sizeLine/\k=((y.size:Int) !=0):=e;subst e';exact PySem.W.truthy_bytes (by lia) ⟨H,I.tok _,q⟩
 |ref p=>
  cases rx;have e':(∃xs,aE X.K H p xs/\k= !xs.isEmpty)\/(∃xs,aP X.K H p xs/\k= !xs.isEmpty)\/∃az,H p=some (.dK az)/\k= !az.isEmpty:=e;rcases e' with⟨xs,hx,e'⟩|⟨xs,hx,e'⟩|⟨az,hx,e'⟩
  ·subst e';obtain⟨ay,r,pl,hz⟩:=I.list hx;have hlen:=r.length;exact wpAny_truthy_list pl.isList (by simp only[zah];lia) ⟨H,I.tok _,by rw[HX r];exact q⟩
  ·subst e';obtain⟨ay,r,pl,hz⟩:=I.tuple hx;have hlen:=r.length;exact truthy_tuple pl (by simp only[zah];lia) ⟨H,I.tok _,by rw[HX r];exact q⟩
  ·subst e';obtain⟨hz,hS,vs,r,m⟩:az.length<=sizeLine/\(p==sysModules)=false/\∃vs,KV az vs/\s.heap.DictOf (fU X.prog X.w) p vs:=I.aF p _ hx;have hlen:az.length=vs.length:=Db r;exact wpAny_truthy_dict hS m (by lia) ⟨H,I.tok _,by rw[S0 r];exact q⟩
 |_=>exact(show False from e).elim
theorem S_:bH X (binaryOp .Add) (λx y H Q=>∃i j,x=.str i/\y=.str j/\i.length+j.length<=sizeLine/\Q (.str<|i++j) H):=by
 intro y' s σ H x y v u Q I rx ry h;obtain⟨i,j,rfl,rfl,hz,q⟩:=h;obtain⟨t,rfl⟩:=rx;obtain⟨t',rfl⟩:=ry;exact add_str (λt' tk=>⟨.str<|i++j,H,I.tok _,⟨_,rfl⟩,q⟩) hz
theorem vals1{x:V}{us:ce}(r:Vals [x] us):∃u,us=[u]/\RelV x u:=by
 cases r with
 |cons r1 r2=>cases r2;exact⟨_,rfl,r1⟩
theorem vals2{x y:V}{us:ce}(r:Vals [x,y] us):∃u w',us=[u,w']/\RelV x u/\RelV y w':=by
 cases r with
 |cons r1 r2=>
  cases r2 with
  |cons r3 r4=>cases r4;exact⟨_,_,rfl,r1,r3⟩
theorem Ta(hc:X.calm=true):dh X (.builtin "max") (λxs H Q=>∃i j,xs=[.int i,.int j]/\Q (.int (if j>i then j else i)) H):=by
 intro y' s σ H xs us Q I r h;obtain⟨i,j,rfl,q⟩:=h;obtain⟨u,w',rfl,⟨t,rfl⟩,⟨t',rfl⟩⟩:=vals2 r;refine max_two_ints (I.ok.hd hc) λh' tk k=>⟨_,H,I.kept k,?_,q⟩;by_cases hj:j>i
 ·rw[BT hj,BT hj];exact⟨_,rfl⟩
 ·rw[AT hj,AT hj];exact⟨_,rfl⟩
theorem Tb(hc:X.calm=true):dh X (.builtin "min") (λxs H Q=>∃i j,xs=[.int i,.int j]/\Q (.int (if j<i then j else i)) H):=by
 intro y' s σ H xs us Q I r h;obtain⟨i,j,rfl,q⟩:=h;obtain⟨u,w',rfl,⟨t,rfl⟩,⟨t',rfl⟩⟩:=vals2 r;refine min_two_ints (I.ok.hd hc) λh' tk k=>⟨_,H,I.kept k,?_,q⟩;by_cases hj:j<i
 ·rw[BT hj,BT hj];exact⟨_,rfl⟩
 ·rw[AT hj,AT hj];exact⟨_,rfl⟩
theorem Tc:dh X (.type "int") (λxs H Q=>(∃i,xs=[.int i]/\Q (.int i) H)\/∃k,xs=[.bl k]/\Q (.int (if k then 1 else 0)) H):=by
 intro y' s σ H xs us Q I r h;rcases h with⟨i,rfl,q⟩|⟨k,rfl,q⟩
 ·obtain⟨u,rfl,t,rfl⟩:=vals1 r;exact call_int_int ⟨.int i,H,I,⟨_,rfl⟩,q⟩
 ·obtain⟨u,rfl,r1⟩:=vals1 r;cases r1;exact call_int_bool ⟨.int (if k then 1 else 0),H,I.tok _,⟨_,rfl⟩,q⟩
def HZ(K:Frag)(x:V)(H:Hp)(n:Nat):Prop:=
 match x with
 |.str y=>y.length<=sizeLine/\n=y.length
 |.gZ y=>y.size<=sizeLine/\n=y.size
 |.ref p=>(∃xs,aE K H p xs/\n=xs.length)\/∃xs,aP K H p xs/\n=xs.length
 |_=>False
theorem Td:dh X (.builtin "len") (λxs H Q=>∃x n,xs=[x]/\HZ X.K x H n/\Q (.int n) H):=by
 intro y' s σ H xs us Q I r h;obtain⟨x,n,rfl,e,q⟩:=h;obtain⟨u,rfl,rx⟩:=vals1 r;have hl:=q_;have hs:sizeLine=16777216:=Os;cases x with
 |str y=>
  obtain⟨t,rfl⟩:=rx;obtain⟨hy,e'⟩:y.length<=sizeLine/\n=y.length:=e;subst e';exact len_str (by lia) ⟨.int _,H,I.tok _,⟨_,rfl⟩,q⟩
 |gZ y=>
  obtain⟨t,rfl⟩:=rx;obtain⟨hy,e'⟩:y.size<=sizeLine/\n=y.size:=e;subst e';exact PySem.W.len_bytes (by lia) ⟨.int _,H,I.tok _,⟨_,rfl⟩,q⟩
 |ref p=>
  cases rx;have e':(∃xs,aE X.K H p xs/\n=xs.length)\/∃xs,aP X.K H p xs/\n=xs.length:=e;rcases e' with⟨xs,hx,e'⟩|⟨xs,hx,e'⟩
  ·subst e';obtain⟨ay,r',pl,hz⟩:=I.list hx;have hlen:=r'.length;exact Calls.call_len_list pl.isList (by simp only[zah];lia) ⟨.int xs.length,H,I.tok _,⟨_,by simp only[zah];rw[hlen]⟩,q⟩
  ·subst e';obtain⟨ay,r',pl,hz⟩:=I.tuple hx;have hlen:=r'.length;exact len_tuple pl (by simp only[zah];lia) ⟨.int xs.length,H,I.tok _,⟨_,by simp only[zah];rw[hlen]⟩,q⟩
 |_=>exact(show False from e).elim
end
structure rf (h:wT) (x dx C:wl) (mA:bv):Prop where
 obj:h.get? x=some (instObj C dx)
 ns:h.Ns1 dx mA
 ne:dx≠x
theorem Te{h:wT}{dx:wl}{mA:bv}(n:h.Ns1 dx mA):∃od,h.get? dx=some od/\∀name,lookIn name od=some (mA name):=by
 obtain⟨o,es,ep,ho,hd,hk,_,hm⟩:=n;refine⟨o,ho,λname=>?_⟩;have e:=hm name;unfold nsFind findBy at e;rw[<-Array.find?_toList] at e;unfold lookIn;rw[hd]
 dsimp only
 split
 ·rename_i y q
  rw[q] at e;exact Cl some e
 ·rename_i q
  rw[q] at e;have a:es.toList.any (·.refKey)=false:=by
   rw[List.any_eq_false];intro y hy;obtain⟨z,t,Tf⟩:=hk y (Array.mem_toList_iff.mp hy)
   simp[DictEntry.refKey,Tf]
  have a':¬es.toList.any (·.refKey)=true:=by rw[a];exact zal
  rw[AT a'];exact Cl some e
theorem rf.look{h:wT}{x dx C:wl}{mA:bv}(I:rf h x dx C mA):∃od,InstAt h x (instObj C dx) C (some od)/\∀name,lookIn name od=some (mA name):=
 let ⟨od,ho,hl⟩:=Te I.ns
 ⟨od,⟨I.obj,rfl,rfl,ho⟩,hl⟩
section
variable {j:ww}{w:wE}{A:wP}{E:aW}{s:wn}{K:Frag}{x e C f:wl}{i:bv}{c:Str}{v:wv}
theorem get_map{expr:xz}{Q:aW}(X:K.In s.heap)(I:rf s.heap x e C i)(hg:plainGet K C c=true)(hh:hasDictIn K C=true)
  (ha:PySem.W.findIn K (.ref C) c=some none) (hv:i c=some v) (Tg:handedIn v=true) (h:Q v {s with toks:=s.toks+1}):
  wpAny (model j w) A (getAttr (.ref x) c expr) Q E s:=by
 obtain⟨od,J,hl⟩:=I.look;exact PySem.W.get_value X J (plainGet_of hg).1 (PySem.W.findObj_own hh ha rfl (by rw[hl,hv])) Tg h
theorem Th{pl:Sem xz}{Q:wv×ce->wn->Prop}(X:K.In s.heap)(I:rf s.heap x e C i)(hg:plainGet K C c=true)
  (hf:PySem.W.findIn K (.ref C) c=some (some<|.ref f)) (ht:PySem.W.isFn K (.ref f)=true) (hv:i c=none) (h:Q (.ref f,[.ref x]) s):
  wpAny (model j w) A (getMethod (.ref x) c pl) Q E s:=by
 obtain⟨od,J,hl⟩:=I.look;exact PySem.W.method_fn X J (plainGet_of hg).1 (plainGet_of hg).2 hf (beq_iff_eq.mp ht) (by show(lookIn c od).map (·.isSome)=some false;rw[hl,hv];rfl) h
theorem Ti{ns:ac}{Q:sw}(X:K.In s.heap)(I:rf s.heap x e C i)
  (hs:PySem.W.findIn K (.ref C) "__setattr__"=some (some<|.builtin "object.__setattr__")) (hp:plainOver K C=true) (ht:takerIn K C c=some none) (hh:hasDictIn K C=true)
  (hw:PySem.Within i ns) (hsz:ns.length<=sizeLine)
  (h:∀h',rf h' x e C (λy=>if y=c then some v else i y)->Heap.SameBut e s.heap h'->Q () {s with heap:=h',toks:=s.toks+2}):
  wpAny (model j w) A (setAttr (.ref x) c v) Q E s:=by
 obtain⟨od,J,hl⟩:=I.look;refine PySem.W.set_plain X J hs<|PySem.W.osa_open (s:={s with toks:=s.toks+1}) (r:=none) X J hp ht λb=>?_
 obtain⟨cd,hc,qW⟩:=PySem.W.any_some hh;have hx:s.heap.get? x=some ⟨.ref C,some e,.plain,#[]⟩:=I.obj;refine AC<|Ch<|AC<|AC<|wpAny_loadPart hx<|AC<|PySem.W.Looks.here (s:={s with toks:=s.toks+1}) (PySem.W.looks_clsIn X hc) ?_
 rw[qW];refine Ch (a:=some e)<|AC<|Ch<|AC ?_;refine wpAny_nsSet1 (s:={s with toks:=s.toks+1}) I.ns λh' v9 iL=>?_
 obtain⟨oD,esD,epD,Tj,Tn,m8⟩:=v9.count (PySem.Within.cons c v hw);refine AC<|wpAny_lookBehind Tj (by rw[Tn];exact pastItsLine_dict (zap m8 (by rw[zaz];lia))) ?_
 exact Ch<|h _ ⟨(iL.2 _<|Fa I.ne).trans I.obj,v9,I.ne⟩ iL
theorem To{R:Result->wn->Prop}{vs:ce}{kw:v0}(X:K.In s.heap)(hm:makesIn K C=true)
  (hi:PySem.W.findIn K (.ref C) "__init__"=some (some<|.ref f)) (hf:PySem.W.typeIn K (.ref f)=some (.type "function"))
  (h:codeAny (model j w) (A.under (.builtin "type.__call__" ⟨.ref C::vs,kw⟩)) (.call (.ref f) ⟨.ref (s.heap.objs.size+1)::vs,kw⟩) (PySem.W.InitBack (s.heap.objs.size+1) R)
   {s with heap:=(s.heap.push emptyDict).push (instObj C s.heap.objs.size)}):
  codeAny (model j w) A (.call (.ref C) ⟨vs,kw⟩) R s:=by
 obtain⟨hh,g,d,t,os⟩:=s;exact PySem.W.make_core (PySem.W.makes_of X hm) (PySem.W.looks_findIn X hi) (λself=>PySem.W.bind_fn X self hf) (.inl rfl) h
end
def aI(f:Str)(v:V):cr->cr
 |[]=>[(f,v)]
 |(g,x)::r=>if g=f then (g,v)::r else (g,x)::aI f v r
theorem H_(f g:Str)(v:V):∀fs:cr,(aI f v fs).lookup g=if g=f then some v else fs.lookup g
 |[]=>by
  show List.lookup g [(f,v)]=_;by_cases h:g=f
  ·have hb:(g==f)=true:=beq_iff_eq.mpr h
   simp only[List.lookup,hb,BT h]
  ·have hb:(g==f)=false:=beq_eq_false_iff_ne.mpr h
   simp only[List.lookup,hb,AT h]
 |(k,x)::r=>by
  have ih:=H_ f g v r;rw[show aI f v ((k,x)::r)=(if k=f then (k,v)::r else (k,x)::aI f v r) from rfl]
  by_cases hk:k=f
  ·rw[BT hk];by_cases h:g=k
   ·have hb:(g==k)=true:=beq_iff_eq.mpr h
    simp only[List.lookup,hb,BT<|h.trans hk]
   ·have hb:(g==k)=false:=beq_eq_false_iff_ne.mpr h
    simp only[List.lookup,hb,AT (λe:g=f=>h (e.trans hk.symm))]
  ·rw[AT hk];by_cases h:g=k
   ·have hb:(g==k)=true:=beq_iff_eq.mpr h
    simp only[List.lookup,hb,AT (λe:g=f=>hk (h.symm.trans e))]
   ·have hb:(g==k)=false:=beq_eq_false_iff_ne.mpr h
    simp only[List.lookup,hb]
    exact ih
theorem Cj(f:Str)(v:V):∀fs:cr,f∈ (aI f v fs).map (·.1)/\∀g,g∈fs.map (·.1)->g∈ (aI f v fs).map (·.1)
 |[]=>⟨by simp[aI],λg h=>by simp at h⟩
 |(k,x)::r=>by
  obtain⟨i1,i2⟩:=Cj f v r;rw[show aI f v ((k,x)::r)=(if k=f then (k,v)::r else (k,x)::aI f v r) from rfl]
  by_cases hk:k=f
  ·rw[BT hk];subst hk;exact⟨by simp,λg h=>by simpa using h⟩
  ·rw[AT hk];refine⟨?_,λg h=>?_⟩
   ·rw[zaA];exact zar _ i1
   ·rw[zaA] at h⊢;rcases zad.mp h with e|e
    ·exact zad.mpr (.inl e)
    ·exact zar _ (i2 g e)
theorem Ia(f:Str)(v:V):∀fs:cr,(aI f v fs).length<=fs.length+1
 |[]=>by simp[aI]
 |(k,x)::r=>by
  have ih:=Ia f v r;rw[show aI f v ((k,x)::r)=(if k=f then (k,v)::r else (k,x)::aI f v r) from rfl]
  by_cases hk:k=f
  ·rw[BT hk,zaz,zaz];lia
  ·rw[AT hk,zaz,zaz];lia
theorem iI.some_of{v:V}{o:pp}(r:iI (some v) o):∃u,o=some u/\RelV v u:=by
 cases o with
 |none=>exact(show False from r).elim
 |some u=>exact⟨u,rfl,r⟩
theorem iI.none_of{o:pp}(r:iI none o):o=none:=by
 cases o with
 |none=>rfl
 |some u=>exact(show False from r).elim
theorem Tp{v:V}{u:wv}(r:RelV v u):handedIn u=true:=by
 cases v with
 |av=>cases (show u=Value.none from r);rfl
 |bl b=>cases (show u=Value.bool b from r);rfl
 |int i=>obtain⟨t,e⟩:=(show ∃t,u=Value.int i t from r);cases e;rfl
 |str x=>obtain⟨t,e⟩:=(show ∃t,u=Value.str x t from r);cases e;rfl
 |gZ b=>obtain⟨t,e⟩:=(show ∃t,u=Value.bytes b t from r);cases e;rfl
 |gI b=>obtain⟨t,e⟩:=(show ∃t,u=Value.float b t from r);cases e;rfl
 |ref a=>cases (show u=Value.ref a from r);rfl
 |ty n=>cases (show u=Value.type n from r);rfl
section
variable {P:ww}{w:wE}{H H':Hp}{h h':wT}{a C c:wl}{b vV:cr}
theorem zh(aF:cC P w H h)(e:H a=some (.ins C c b)):∃mA,rf h a c C mA/\(∀f,iI (b.lookup f)<|mA f)/\PySem.Within mA (b.map (·.1))/\b.length<=1000/\H c=some (.own a):=by
 obtain⟨d,z,ne,ob,mA,n,r,q⟩:=(show cP P w H h a (.ins C c b) from aF a _ e)
 exact⟨mA,⟨ob,n,ne⟩,r,q,z,d⟩
end
structure fE (K:Frag) (C:wl):Prop where
 pg:plainGet K C Str.empty=true
 hd:hasDictIn K C=true
 po:plainOver K C=true
 sa:PySem.W.findIn K (.ref C) "__setattr__"=some (some<|.builtin "object.__setattr__")
theorem fE.get{K:Frag}{C:wl}(c:fE K C)(f:Str):plainGet K C f=true:=c.pg
def eh(K:Frag)(C:wl)(f:Str):Prop:=PySem.W.findIn K (.ref C) f=some none
theorem eh.Tq{K:Frag}{C:wl}{f:Str}(n:eh K C f):takerIn K C f=some none:=by
 unfold takerIn;rw[show PySem.W.findIn K (.ref C) f=some none from n]
 rfl
structure Meth (K:Frag) (C:wl) (m:Str) (f:wl):Prop where
 at_:PySem.W.findIn K (.ref C) m=some (some<|.ref f)
 fn:PySem.W.isFn K (.ref f)=true
 kp:PySem.W.keepIn K (.ref f)=true
section
variable {X:Cx}{i:ad}{j:St}{H:Hp}{s:wn}{a C p:wl}{d:cr}{f:Str}{v:V}{A:wP}{E:aW}
theorem Tr{b:xz}{Q:aW}(I:Inv X i j H s)(e:H a=some (.ins C p d))(c:fE X.K C)(n:eh X.K C f)(l:d.lookup f=some v)
  (h:∀u s',Inv X i j H s'->RelV v u->Q u s'):wpAny (model X.prog X.w) A (getAttr (.ref a) f b) Q E s:=by
 obtain⟨mA,O,r,_,_,_⟩:=zh I.aF e;obtain⟨u,hu,ru⟩:=iI.some_of (v:=v) (o:=mA f) (by rw[<-l];exact r f)
 exact get_map I.du O (c.get f) c.hd n hu (Tp ru)<|h u _ (I.tok _) ru
theorem Ib{m:Str}{g:wl}{pl:Sem xz}{Q:wv×ce->wn->Prop}(I:Inv X i j H s)(e:H a=some (.ins C p d))(c:fE X.K C)(k:Meth X.K C m g)(l:d.lookup m=none)
  (h:Q (.ref g,[.ref a]) s):wpAny (model X.prog X.w) A (getMethod (.ref a) m pl) Q E s:=by
 obtain⟨mA,O,r,_,_,_⟩:=zh I.aF e;have hn:mA m=none:=iI.none_of (by rw[<-l];exact r m)
 exact Th I.du O (c.get m) k.at_ k.fn hn h
theorem Ts{y:V}{u:wv}{Q:sw}(I:Inv X i j H s)(e:H a=some (.ins C p d))(c:fE X.K C)(n:eh X.K C f)(hl:d.length<1000)(ry:RelV y u)
  (h:∀s',Inv X i j (upd H a<|.ins C p<|aI f y d) s'->Q () s'):wpAny (model X.prog X.w) A (setAttr (.ref a) f u) Q E s:=by
 obtain⟨mA,O,r,wi,_,ho⟩:=zh I.aF e;have hz:(d.map (·.1)).length<=sizeLine:=by rw[zaf,Os];lia
 refine Ti I.du O c.sa c.po n.Tq c.hd wi hz λh' O' sb=>h _ ?_;have hd:∃o,h'.get? p=some o:=let ⟨o,_,_,e',_⟩:=O'.ns;⟨o,e'⟩;refine I.write (x:=a) (e:=p) (by rw[e];exact True.intro) (.inr ho) (λb q hb z=>(sb.2 b hb).trans z) hd ?_
 refine⟨by rw[aC O.ne];exact ho,?_,O.ne,O'.obj,_,O'.ns,λg=>?_,λg hg=>?_⟩
 ·have:=Ia f y d;lia
 ·show iI ((aI f y d).lookup g) (if g=f then some u else mA g)
  rw[H_];by_cases q:g=f
  ·rw[BT q,BT q];exact ry
  ·rw[AT q,AT q];exact r g
 ·by_cases q:g=f
  ·rw[q];exact(Cj f y d).1
  ·refine(Cj f y d).2 g (wi g λz=>hg ?_);show(if g=f then some u else mA g)=none
   rw[AT q];exact z
theorem Inv.made(I:Inv X i j H s):Inv X i j (upd (upd H s.heap.objs.size<|.own<|s.heap.objs.size+1) (s.heap.objs.size+1)<|.ins C s.heap.objs.size [])
  {s with heap:=(s.heap.push emptyDict).push (instObj C s.heap.objs.size)}:=by
 have e1:(s.heap.push emptyDict).get? s.heap.objs.size=some emptyDict:=Gc s.heap rfl;have e2:((s.heap.push emptyDict).push<|instObj C s.heap.objs.size).get? (s.heap.objs.size+1)=some (instObj C s.heap.objs.size):=by
  have:=Gc (s.heap.push emptyDict) (o:=instObj C s.heap.objs.size) rfl
  rwa [GM] at this
 have e3:(s.heap.push emptyDict).Ns s.heap.objs.size (λ_=>none):=⟨emptyDict,#[],_,e1,rfl,(λe he=>absurd he (by simp)),λ_=>rfl⟩
 have I1:=I.laid (a:=s.heap.objs.size) (o:=.own (s.heap.objs.size+1)) (h':=s.heap.push emptyDict) (t':=s.toks) (λb u q=>EQ _ q) (zqR _) ⟨_,e1⟩;refine I1.laid (a:=s.heap.objs.size+1) (o:=.ins C s.heap.objs.size []) (t':=s.toks) (λb u q=>EQ _ q) (zaX<|GM _ _) ?_;have ne:s.heap.objs.size≠s.heap.objs.size+1:=zai (zbo _);refine⟨by rw[aC ne,aw],zqZ _,ne,e2,λ_=>none,(Heap.Ns1.of_empty e3).at λo q=>EQ _ q,λ_=>True.intro,λy hy=>absurd rfl hy⟩
theorem Tt{prog:ww}{w:wE}{env:Env}{e:Expr}{f:Str}{pos:Pos}{s:wn}{Q:aW}(hb:attributeBase e f env (eval e env)=eval e env)
  (h:wpAny (model prog w) A (eval e env) (λo G'=>wpAny (model prog w) A (getAttr o f true) Q E G') E s):wpAny (model prog w) A (eval (.Attribute e f pos) env) Q E s:=
 Attribute_any_ h (by rw[arm_eval_Attribute,hb])
end
def zi(K:Frag)(ta:TE)(f:Str):TE:=λσ H Q=>ta σ H λx H1=>∃a C dx fs v,x=.ref a/\H1 a=some (.ins C dx fs)/\fE K C/\eh K C f/\fs.lookup f=some v/\Q v H1
def zj(K:Frag)(ta tv:TE)(f:Str):TS:=λD σ H=>tv σ H λy H1=>ta σ H1 λx H2=>∃a C dx fs,x=.ref a/\H2 a=some (.ins C dx fs)/\fE K C/\eh K C f/\fs.length<1000/\
 D.nx σ (upd H2 a<|.ins C dx<|aI f y fs)
section
variable {X:Cx}{o e d:Expr}{f:Str}{g i Tu:Pos}{b j:TE}
theorem Tv(he:PE X e b)(hb:attributeBase e f X.env (eval e X.env)=eval e X.env):PE X (.Attribute e f g) (zi X.K b f):=by
 intro y' s σ H Q I h;refine Tt hb<|aU (he y' s σ H _ I h) λu s1 ⟨x,H1,I1,rx,a,C,dx,fs,v,ex,ea,c,n,l,q⟩=>?_;subst ex;obtain rfl:u=Value.ref a:=rx;exact Tr I1 ea c n l λu' s2 I2 ru=>⟨v,H1,I2,ru,q⟩
theorem Ic(ha:PE X o b)(hv:PE X d j)(hs:swapsWith d (some<|.Attribute o f i) g.line X.env=pure false):PS X (.Assign [.Attribute o f i] d g) (zj X.K b j f):=by
 intro y' s σ H D I h;refine plainObj_wpAny_Assign_Attribute (aU (hv y' s σ H _ I h) λu s1 ⟨y,H1,I1,ry,q⟩=>aU (ha y' s1 σ H1 _ I1 q) λov s2 ⟨x,H2,I2,rx,a,C,dx,fs,ex,ea,c,n,l,q2⟩=>?_) hs;subst ex;obtain rfl:ov=Value.ref a:=rx;exact Ts I2 ea c n l ry λs3 I3=>⟨σ,_,I3,q2⟩
end
section
variable {X:Cx}{y':ad}{σ:St}{H:Hp}{s:wn}{A:wP}{E:aW}{Q:aW}{c:wv}{b:xz}
inductive j4 (K:Frag) (H:Hp):V->wv->Prop where
 |av:j4 K H .av (.type "NoneType")
 |bl (x:xz):j4 K H (.bl x) (.type "bool")
 |int (i:Int):j4 K H (.int i) (.type "int")
 |str (x:Str):j4 K H (.str x) (.type "str")
 |gI (x:UInt64):j4 K H (.gI x) (.type "float")
 |lst {a:wl}{xs:be} (e:H a=some (.lst xs)):j4 K H (.ref a) (.type "list")
 |bW {a:wl}{o:Obj}{xs:be} (e:H a=some (.bW o<|.lst xs)):j4 K H (.ref a) (.type "list")
 |tup {a:wl}{xs:be} (e:H a=some (.tup xs)):j4 K H (.ref a) (.type "tuple")
 |dK {a:wl}{az:ii} (e:H a=some (.dK az)):j4 K H (.ref a) (.type "dict")
 |dT {a:wl}{az:on} (e:H a=some (.dT az)):j4 K H (.ref a) (.type "dict")
 |ins {a C dx:wl}{fs:cr} (e:H a=some (.ins C dx fs)) (cl:fE K C) (ha:PySem.W.findIn K (.ref C) "__class__"=some (some<|.builtin "object.__class__"))
   (hn:PySem.W.specialIn K (.builtin "object.__class__") "__get__"=some (some<|.builtin "getset_descriptor.__get__")) (oW:PySem.W.takesIn K (.builtin "object.__class__")=some true)
   (hm:PySem.W.mroIn K C (.type "object")=some true):j4 K H (.ref a) (.ref C)
theorem m_{x:V}{u t:wv}(I:Inv X y' σ H s)(rx:RelV x u)(ty:j4 X.K H x t)(e:kitOne X.K t c=some b)(h:∀tk,Q (.bool b) {s with toks:=tk}):
  wpAny (model X.prog X.w) A (call (.builtin "isinstance") [u,c]) Q E s:=by
 cases ty with
 |av=>cases (show u=Value.none from rx);exact kia_one PySem.W.kitx_none I.du True.intro e (λz=>nomatch z) h
 |bl y=>cases (show u=Value.bool y from rx);exact kia_one PySem.W.kitx_bool I.du True.intro e (λz=>nomatch z) h
 |int i=>obtain⟨t,q⟩:=(show ∃t,u=Value.int i t from rx);cases q;exact kia_one PySem.W.kitx_int I.du True.intro e (λz=>nomatch z) h
 |str y=>obtain⟨t,q⟩:=(show ∃t,u=Value.str y t from rx);cases q;exact kia_one PySem.W.kitx_str I.du True.intro e (λz=>nomatch z) h
 |gI y=>obtain⟨t,q⟩:=(show ∃t,u=Value.float y t from rx);cases q;exact kia_one PySem.W.kitx_float I.du True.intro e (λz=>nomatch z) h
 | @lst a xs ea=>
  cases (show u=Value.ref a from rx)
  obtain⟨_,_,n,_,h1⟩:=(show cP X.prog X.w H s.heap a (.lst xs) from I.aF a _ ea)
  exact kia_one kitx_list I.du ⟨_,h1,rfl⟩ e (λz=>nomatch z) h
 | @bW a ob xs ea=>
  cases (show u=Value.ref a from rx)
  obtain⟨_,_,_,n,_,h1⟩:=(show cP X.prog X.w H s.heap a (.bW ob<|.lst xs) from I.aF a _ ea)
  exact kia_one kitx_list I.du ⟨_,h1,rfl⟩ e (λz=>nomatch z) h
 | @tup a xs ea=>
  cases (show u=Value.ref a from rx)
  obtain⟨_,_,_,p⟩:=(show cP X.prog X.w H s.heap a (.tup xs) from I.aF a _ ea)
  obtain⟨o,h1,h2,_⟩:=p;exact kia_one PySem.W.kitx_tuple I.du ⟨o,h1,h2⟩ e (λz=>nomatch z) h
 | @dK a az ea=>
  cases (show u=Value.ref a from rx)
  obtain⟨_,_,vs,_,p⟩:=(show cP X.prog X.w H s.heap a (.dK az) from I.aF a _ ea)
  obtain⟨o,es,ep,h1,h2,_⟩:=p;exact kia_one kitx_dict I.du ⟨o,h1,h2.1⟩ e (λz=>nomatch z) h
 | @dT a az ea=>
  cases (show u=Value.ref a from rx)
  obtain⟨_,_,xs,_,o,es,ep,h1,h2,_⟩:=(show cP X.prog X.w H s.heap a (.dT az) from I.aF a _ ea)
  exact kia_one kitx_dict I.du ⟨o,h1,h2.1⟩ e (λz=>nomatch z) h
 | @ins a C dx fs ea cl ha hn oW hm=>
  cases (show u=Value.ref a from rx)
  obtain⟨mA,O,_⟩:=zh I.aF ea;obtain⟨od,J,_⟩:=O.look;exact kia_one (PySem.W.kitx_own (cl.get _) cl.hd ha hn oW hm) I.du J e (λz=>nomatch z) h
end
structure dW (k:Nat) (A:wP):Prop where
 hd:A.handled=none
 dp:A.depth+3*k+5<recursionLimit
 un:A.units+16*k+200<cLine
 gd:A.guards=some []:=by rfl
theorem dW.mono{j k:Nat}{A:wP}(r:dW k A)(h:j<=k):dW j A:=⟨r.hd,by have:=r.dp;lia,by have:=r.un;lia,r.gd⟩
theorem dW.deeper{k:Nat}{A:wP}(r:dW (k+1) A)(env:Env):dW k (A.deeper env):=
 ⟨r.hd,by have:=r.dp;show A.depth+1+3*k+5<_;lia,by have:=r.un;show A.units+3+16*k+200<_;lia,r.gd⟩
theorem Tw{A:wP}{C:wl}{us:ce}{kw:v0}:(A.under<|.builtin "type.__call__" ⟨.ref C::us,kw⟩).depth=A.depth+1:=by
 first|rfl|simp[Around.under,Code.weight,Code.isCreation,Code.isGuard,Code.isCaller,Code.frames,Code.isFrame,guardIds]
theorem Tx{A:wP}{C:wl}{us:ce}{kw:v0}:(A.under<|.builtin "type.__call__" ⟨.ref C::us,kw⟩).units=A.units+1:=by
 first|rfl|simp[Around.under,Code.cUnits,Code.frames,Code.isFrame]
theorem dW.make{k:Nat}{A:wP}(r:dW (k+1) A)(C:wl)(us:ce)(kw:v0):dW k (A.under<|.builtin "type.__call__" ⟨.ref C::us,kw⟩):=
 ⟨r.hd,by have:=r.dp;rw[Tw];lia,by have:=r.un;rw[Tx];lia,by first|exact r.gd|simp[Around.under,Code.guards,Code.isGuard,guardIds,pushGuards,r.gd]⟩
theorem dW.depth{k:Nat}{A:wP}(r:dW k A):A.depth<recursionLimit:=by have:=r.dp;lia
theorem dW.units{k:Nat}{A:wP}(r:dW k A):A.units+64<cLine:=by have:=r.un;lia
def iM:TA:=λ_ H Q=>Q [] H
def d0(ta:TE)(tr:TA):TA:=λσ H Q=>ta σ H λx H1=>tr σ H1 λxs H2=>Q (x::xs) H2
section
variable {X:Cx}{e:Expr}{a:im}{d:TE}{t:TA}{c:Pos}
theorem t_:PA X [] iM:=λ_ _ _ _ H Q I h=>Tm ⟨[],H,I,.nil,h⟩
theorem ng(ha:PE X e d)(hr:PA X a t)(hs:starEach (e::a) X.env=(false,eval e X.env)::starEach a X.env:=by rfl):PA X (e::a) (d0 d t):=by
 intro c y' s σ H Q I h;rw[hs];show wpAny _ _ (spliced ((false,eval e X.env)::backTo c (starEach a X.env))) _ _ s;refine TD<|aU (ha y' s σ H _ I h) λu s1 ⟨x,H1,I1,r1,q1⟩=>?_;exact aU (hr c y' s1 σ H1 _ I1 q1) λus s2 ⟨xs,H2,I2,r2,q2⟩=>⟨x::xs,H2,I2,.cons r1 r2,q2⟩
def Ie(t:TA):TE:=λσ H Q=>t σ H λxs H1=>xs.length<=sizeLine/\∀p,H1 p=none->Q (.ref p) (upd H1 p<|.tup xs)
def Ig(t:TA):TE:=λσ H Q=>t σ H λxs H1=>xs.length<=sizeLine/\∀p,H1 p=none->Q (.ref p) (upd H1 p<|.lst xs)
theorem Tz{x1}(h:PA X a t):PE X (.Tuple a x1 c) (Ie t):=by
 intro y' s σ H Q I hq;refine wpAny_Tuple_spliced<|aU (h c y' s σ H _ I hq) λus s1 ⟨xs,H1,I1,r,z,q⟩=>⟨by rw[<-r.length];exact z,?_⟩
 have hf:H1 s1.heap.objs.size=none:=I1.aF.fresh (zqR _);refine⟨.ref s1.heap.objs.size,upd H1 s1.heap.objs.size<|.tup xs,I1.laid (t':=s1.toks) (λb u e=>EQ _ e) (zqR _) ?_,rfl,q _ hf⟩;exact⟨z,us,r,⟨_,Gc _ rfl,rfl,_,rfl⟩⟩
theorem TB(h:PA X a t):PE X (.List a c) (Ig t):=by
 intro y' s σ H Q I hq;refine wpAny_List_spliced<|aU (h c y' s σ H _ I hq) λus s1 ⟨xs,H1,I1,r,z,q⟩=>⟨by rw[<-r.length];exact z,?_⟩
 have hf:H1 s1.heap.objs.size=none:=I1.aF.fresh (zqR _);refine⟨.ref s1.heap.objs.size,upd H1 s1.heap.objs.size<|.lst xs,I1.laid (t':=s1.toks) (λb u e=>EQ _ e) (zqR _) ?_,rfl,q _ hf⟩;exact⟨z,us,0,r,Gc _ rfl⟩
end
abbrev Sp:=be->Hp->VK->XK->Prop
abbrev le:=List (Str×Sp)
abbrev cE:=tz->Hp->wn->XK->wv->wn->Prop
structure nh (P:ww) (w:wE) (K:Frag) (mg:bv) (base:wT) (A:wP) (outer:tz) (s:wn) (H:Hp):Prop where
 frames:A.frames=some outer
 mod:Mod K mg base
 bs:∀b o,base.get? b=some o->s.heap.get? b=some o/\H b=none
 oV:base.objs.size<=s.heap.objs.size
 j1:s.heap.FunFrames base outer
 qT:∀b∈cw outer,H b=none
 aF:cC P w H s.heap
 bare:AllBare s.gens
def CE(outer:tz)(P:ww)(w:wE)(H:Hp)(s:wn)(Q:VK)(u:wv)(s':wn):Prop:=
 ∃v H',s'.os=s.os/\AllBare s'.gens/\Un (cw outer) [] H H' s.heap s'.heap/\cC P w H' s'.heap/\RelV v u/\Q v H'
def CR(CX:cE)(outer:tz)(P:ww)(w:wE)(H:Hp)(s:wn)(Q:VK)(E:XK)(r:Result)(s':wn):Prop:=
 match r with
 |.ok (.ret u)=>CE outer P w H s Q u s'
 |.ok _=>False
 |.error e=>CX outer H s E e s'
structure c_ (P:ww) (w:wE) (K:Frag) (mg:bv) (base:wT) (CX:cE) (k:Nat) (f:wl) (fd:x0) (ps:ac) (sp:Sp):Prop where
 len:∀vs H Q E,sp vs H Q E->vs.length=ps.length
 run:∀(A:wP) (outer:tz) (s:wn) (H:Hp) (args:Args) (us:ce) (vs:be) (Q:VK) (E:XK),dW k A->nh P w K mg base A outer s H->BindsTo s fd args (ps.zip us)->Vals vs us->sp vs H Q E->
  codeAny (model P w) A (.call (.ref f) args) (CR CX outer P w H s Q E) s
theorem c_.mono{P:ww}{w:wE}{K:Frag}{mg:bv}{base:wT}{CX:cE}{j k:Nat}{f:wl}{fd:x0}{ps:ac}{sp:Sp}(F:c_ P w K mg base CX j f fd ps sp)(h:j<=k):
  c_ P w K mg base CX k f fd ps sp:=⟨F.len,λA outer s H args us vs Q E hr=>F.run A outer s H args us vs Q E<|hr.mono h⟩
theorem nh.make{P:ww}{w:wE}{K:Frag}{mg:bv}{base:wT}{A:wP}{outer:tz}{s:wn}{H:Hp}(e:nh P w K mg base A outer s H)(C:wl)(us:ce)(kw:v0):
  nh P w K mg base (A.under<|.builtin "type.__call__" ⟨.ref C::us,kw⟩) outer s H:=⟨by first|exact e.frames| (simpa[Around.under,Code.envs,Code.isFrame,pushEnvs] using e.frames),e.mod,e.bs,e.oV,e.j1,e.qT,e.aF,e.bare⟩
section
variable {X:Cx}{a:ad}{c:St}{H:Hp}{s e:wn}
theorem Inv.Ck(I:Inv X a c H s):nh X.prog X.w X.K X.mg X.base X.A X.stack s H:=
 ⟨I.ok.frames,I.ok.mod,I.bs,zap I.ok.oV I.sz,I.stack,I.y3,I.aF,I.bare⟩
theorem Inv.after{Q:VK}{u:wv}(I:Inv X a c H s)(h:CE X.stack X.prog X.w H s Q u e):EP X a c Q u e:=by
 obtain⟨v,H',os,bare,un,aF,r,q⟩:=h;obtain⟨hh,g,d,t,zk⟩:=e;obtain rfl:zk=s.os:=os;exact⟨v,H',I.call (h':=hh) (g':=g) (d':=d) (t':=t) (ch:=[]) un aF bare<|λb z=>absurd z (by simp),r,q⟩
end
def Cm(sp:Sp)(g8:be)(E:XK)(t:TA):TE:=λσ H Q=>t σ H λvs H1=>sp (vs++g8) H1 Q E
def ni(C:wl)(m:Str)(sp:Sp)(g8:be)(E:XK)(ta:TE)(t:TA):TE:=λσ H Q=>ta σ H λx H1=>∃a dx fs,x=.ref a/\H1 a=some (.ins C dx fs)/\fs.lookup m=none/\
 t σ H1 λvs H2=>sp (x::(vs++g8)) H2 Q E
def zl(C:wl)(sp:Sp)(g8:be)(E:XK)(t:TA):TE:=λσ H Q=>t σ H λvs H1=>∀x dx,H1 x=none->H1 dx=none->dx≠x->
 sp (.ref x::(vs++g8)) (upd (upd H1 dx<|.own x) x<|.ins C dx []) (λv H2=>v=.av/\Q (.ref x) H2) E
def Binds(K:Frag)(fd:x0)(ps:ac)(ds:ce):Prop:=
 ∀(s:wn) (us:ce),K.In s.heap->(us++ds).length=ps.length->BindsTo s fd ⟨us,[]⟩ (ps.zip<|us++ds)
theorem Binds.all{K:Frag}{fd:x0}{ps:ac}(h:∀us:ce,us.length=ps.length->bindArgs fd ⟨us,[]⟩=pure (ps.zip us)):Binds K fd ps []:=λs us _ hl=>by
 rw[zac] at hl⊢;exact .of_eq<|h us hl
def Passes(CX:cE)(X:Cx)(E:XK):Prop:= ∀(y':ad) (σ:St) (H:Hp) (s:wn) (e:wv) (s':wn),Inv X y' σ H s->CX X.stack H s E e s'->X.xe e s'
section
variable {X:Cx}{g:cE}{k:Nat}{f C:wl}{i:x0}{c:ac}{j:Sp}{b:be}{a:ce}{E:XK}{x m:Str}{p l W':Pos}{e o:Expr}{d:im}{ta:TE}{t:TA}
theorem Cn{y':ad}{σ:St}{H:Hp}{s:wn}{Q:VK}{us:ce}{vs:be}(F:c_ X.prog X.w X.K X.mg X.base g k f i c j)(hr:dW k X.A)(hb:Binds X.K i c a)(hd:Vals b a)(hx:Passes g X E)
  (I:Inv X y' σ H s) (r:Vals vs us) (h:j (vs++b) H Q E):wpAny (model X.prog X.w) X.A (call (.ref f) us) (EP X y' σ Q) X.xe s:=by
 have r2:Vals (vs++b) (us++a):=r.append hd;have hl:(us++a).length=c.length:=by rw[<-r2.length];exact F.len _ _ _ _ h
 refine wpAny_call<|M2 (F.run X.A X.stack s H ⟨us,[]⟩ (us++a) (vs++b) Q E hr I.Ck (hb s us I.du hl) r2 h) λr s' hq=>?_;cases r with
 |error e=>exact hx y' σ H s e s' I hq
 |ok fl=>
  cases fl with
  |ret u=>exact I.after hq
  |next=>exact False.elim hq
  |brk=>exact False.elim hq
  |cont=>exact False.elim hq
theorem TC(F:c_ X.prog X.w X.K X.mg X.base g k f i c j)(hr:dW k X.A)(hg:Gl X x)(hm:X.mg x=some (.ref f))(hk:PySem.W.keepIn X.K (.ref f)=true)(hb:Binds X.K i c a)(hd:Vals b a)(hx:Passes g X E)
  (ha:PA X (e::d) t) (nj:(x==("__debug__":Str))=false:=by decide) (he:starEach (e::d) X.env=(false,eval e X.env)::starEach d X.env:=by rfl) (kO:(backTo l<|starEach d X.env).any (·.1)=false:=by rfl):
  PE X (.Call (.Name x p) (e::d) [] l) (Cm j b E t):=by
 intro y' s σ H Q I h;refine KK<|vW I hg hm ?_ nj;refine callWith_K (h₀:=X.base) I.ok.mod.qS hk (aU (ha l y' s σ H _ I h) λus s1 ⟨vs,H1,I1,r,q⟩=>⟨I1.du,?_⟩) he kO;exact Cn F hr hb hd hx I1 r q
structure Mk (K:Frag) (C f:wl):Prop where
 makes:makesIn K C=true
 init:PySem.W.findIn K (.ref C) "__init__"=some (some<|.ref f)
 fn:PySem.W.isFn K (.ref f)=true
 kp:PySem.W.keepIn K (.ref C)=true
theorem TF{y':ad}{σ:St}{H:Hp}{s:wn}{Q:VK}{us:ce}{vs:be}(M:Mk X.K C f)(F:c_ X.prog X.w X.K X.mg X.base g k f i c j)(hr:dW (k+1) X.A)(hb:Binds X.K i c a)(hd:Vals b a)
  (hx:Passes g X E) (I:Inv X y' σ H s) (r:Vals vs us)
  (h:∀x dx,H x=none->H dx=none->dx≠x->j (.ref x::(vs++b)) (upd (upd H dx<|.own x) x<|.ins C dx []) (λv H2=>v=.av/\Q (.ref x) H2) E):
  wpAny (model X.prog X.w) X.A (call (.ref C) us) (EP X y' σ Q) X.xe s:=by
 have hq:=h (s.heap.objs.size+1) s.heap.objs.size (I.aF.fresh<|zaY _) (I.aF.fresh<|zqR _) (zai<|zbo _);have I2:=Inv.made (C:=C) I;have r2:Vals (V.ref (s.heap.objs.size+1)::(vs++b)) (Value.ref (s.heap.objs.size+1)::(us++a)):=.cons rfl (r.append hd);have hl:(Value.ref (s.heap.objs.size+1)::us++a).length=c.length:=by
  have e:=r2.length;rw[F.len _ _ _ _ hq] at e;exact e.symm
 refine wpAny_call (To (f:=f) I.du M.makes M.init (beq_iff_eq.mp M.fn) (M2 (F.run _ X.stack _ _ ⟨Value.ref (s.heap.objs.size+1)::us,[]⟩ (Value.ref (s.heap.objs.size+1)::(us++a)) _ _ E (hr.make C us [])
  (I2.Ck.make C us []) (hb _ (Value.ref (s.heap.objs.size+1)::us) I2.du hl) r2 hq) λr s' v_=>?_))
 cases r with
 |error e=>exact hx y' σ _ _ e s' I2 v_
 |ok fl=>
  cases fl with
  |ret u=>
   obtain⟨v,H',I3,rv,ev,q3⟩:=I2.after v_;subst ev;exact⟨rv,⟨V.ref<|s.heap.objs.size+1,H',I3,rfl,q3⟩⟩
  |next=>exact False.elim v_
  |brk=>exact False.elim v_
  |cont=>exact False.elim v_
theorem TH(M:Mk X.K C f)(F:c_ X.prog X.w X.K X.mg X.base g k f i c j)(hr:dW (k+1) X.A)(hg:Gl X x)(hm:X.mg x=some (.ref C))(hb:Binds X.K i c a)(hd:Vals b a)(hx:Passes g X E)
  (ha:PA X (e::d) t) (nj:(x==("__debug__":Str))=false:=by decide) (he:starEach (e::d) X.env=(false,eval e X.env)::starEach d X.env:=by rfl) (kO:(backTo l<|starEach d X.env).any (·.1)=false:=by rfl):
  PE X (.Call (.Name x p) (e::d) [] l) (zl C j b E t):=by
 intro y' s σ H Q I h;refine KK<|vW I hg hm ?_ nj;refine callWith_K (h₀:=X.base) I.ok.mod.qS M.kp (aU (ha l y' s σ H _ I h) λus s1 ⟨vs,H1,I1,r,q⟩=>⟨I1.du,?_⟩) he kO;exact TF M F hr hb hd hx I1 r q
end
structure oX (N P:ac) (sc:Scope):Prop where
 kind:sc.kind=.function
 co:sc.isCoroutine=false
 gen:sc.isGenerator=false
 nd:N.Nodup
 pre:N.take P.length=P
 par:∀x∈P,sc.names.lookup x=some .local\/sc.names.lookup x=some .cell
 TJ:∀y∈sc.names,y.2≠ .free
theorem Ih{kindOf:Str->Option NameKind}{x:Str}:∀{binds:v0}{m:bv},(∀v,(x,v)∉binds)->bindL kindOf binds m x=m x
 |[],_,_=>rfl
 |(n,v)::r,m,h=>by
  unfold bindL;rw[Ih λw hw=>h w (zar _ hw)]
  split
  ·have:x≠n:=by rintro rfl;exact h v zas
   simp[this]
  ·rfl
theorem Ii{kindOf:Str->Option NameKind}{x:Str}:∀{binds:v0}{m:bv},(∀v,(x,v)∉binds)->bindC kindOf binds m x=m x
 |[],_,_=>rfl
 |(n,v)::r,m,h=>by
  unfold bindC;rw[Ii λw hw=>h w (zar _ hw)]
  split
  ·rfl
  ·have:x≠n:=by rintro rfl;exact h v zas
   simp[this]
theorem Ij{kindOf:Str->Option NameKind}{x:Str}{v:wv}:∀{P:ac}{vs:ce}{i:Nat}{m:bv},P.Nodup->P[i]?=some x->vs[i]?=some v->kindOf x=some .local->
  bindL kindOf (P.zip vs) m x=some v
 |[],_,_,_,_,h,_,_=>by simp at h
 |_::_,[],_,_,_,_,h,_=>by simp at h
 |p::P,w::vs,0,m,nd,h1,h2,hk=>by
  simp at h1 h2;subst h1;subst h2
  show bindL kindOf ((p,w)::P.zip vs) m p=_;unfold bindL;rw[Ih λv hv=>(zbp.mp nd).1 (zbq hv).1,BT hk]
  simp
 |p::P,w::vs,i+1,m,nd,h1,h2,hk=>by
  show bindL kindOf ((p,w)::P.zip vs) m x=_;unfold bindL;exact Ij (i:=i) (zbp.mp nd).2 (by simpa using h1) (by simpa using h2) hk
theorem Ik{kindOf:Str->Option NameKind}{x:Str}{v:wv}:∀{P:ac}{vs:ce}{i:Nat}{m:bv},P.Nodup->P[i]?=some x->vs[i]?=some v->kindOf x≠some .local->
  bindC kindOf (P.zip vs) m x=some v
 |[],_,_,_,_,h,_,_=>by simp at h
 |_::_,[],_,_,_,_,h,_=>by simp at h
 |p::P,w::vs,0,m,nd,h1,h2,hk=>by
  simp at h1 h2;subst h1;subst h2
  show bindC kindOf ((p,w)::P.zip vs) m p=_;unfold bindC;rw[Ii λv hv=>(zbp.mp nd).1 (zbq hv).1,AT hk]
  simp
 |p::P,w::vs,i+1,m,nd,h1,h2,hk=>by
  show bindC kindOf ((p,w)::P.zip vs) m x=_;unfold bindC;exact Ik (i:=i) (zbp.mp nd).2 (by simpa using h1) (by simpa using h2) hk
def start(N:ac)(vs:be):St:=vs.map some++List.replicate (N.length - vs.length) none
def nk(CX:cE)(P:ww)(w:wE)(K:Frag)(mg:bv)(base:wT)(N:ac)(qual:Str)(scope:Scope)(f:wl)(cd:wv)(A:wP)(outer:tz)(s:wn)(H:Hp)(E:XK):Cx where
 prog:=P
 w:=w
 K:=K
 mg:=mg
 base:=base
 A:=A.deeper (envOfC qual scope s.heap.objs.size f cd)
 N:=N
 s₀:=s
 H₀:=H
 env:=envOfC qual scope s.heap.objs.size f cd
 outer:=outer
 stack:=envOfC qual scope s.heap.objs.size f cd::outer
 ex:=[]
 calm:=true
 fn:=λ_=>true
 pn:=[]
 xe:=λe s'=>wpAny (model P w) (A.deeper<|envOfC qual scope s.heap.objs.size f cd) (leaving (envOfC qual scope s.heap.objs.size f cd) e) (λ_ iN=>CX outer H s E e iN) (λe' iN=>CX outer H s E e' iN) s'
theorem Il{sc:Scope}{n:Nat}{x:Str}(h:sc.names.lookup x=some .cell):∃c,(cellsFrom n sc.names []).lookup x=some c:=by
 have q:=cellsFrom_some sc.names n [] (.inl h);exact zbr.mp q
theorem Im{CX:cE}{P:ww}{w:wE}{K:Frag}{mg:bv}{base:wT}{N ps:ac}{qual:Str}{scope:Scope}{f:wl}{cd:wv}{A:wP}{outer:tz}{s s1:wn}{H:Hp}{E:XK}{us:ce}{vs:be}
  (S:oX N ps scope) (hd:A.handled=none) (e0:nh P w K mg base A outer s H) (hl:vs.length=ps.length) (r:Vals vs us)
  (x:InCallC s s.heap.objs.size (bindL (envOfC qual scope s.heap.objs.size f cd).kindOf (ps.zip us) λ_=>none) (cellsFrom (s.heap.objs.size+1) scope.names []) (bindC (envOfC qual scope s.heap.objs.size f cd).kindOf (ps.zip us) λ_=>none) s1):
  Inv (nk CX P w K mg base N qual scope f cd A outer s H E) [] (start N vs) H s1:=by
 have kO:ps.length<=N.length:=by have:=Cl List.length S.pre;rw[zav] at this;lia
 obtain⟨h1,tk,rfl,hk⟩:=x.done;have wa:∀b:wl,b∉ (nk CX P w K mg base N qual scope f cd A outer s H E).ex:=λb z=>absurd (show b∈ ([]:db) from z) (by simp)
 refine⟨⟨e0.mod,S.kind,rfl,rfl,zqR _,λy z c h1 h2=>?_,λy hy=>?_,λy c _ h=>?_,λ_=>hd,Around.frames_deeper e0.frames,.inr ⟨rfl,rfl⟩,λb z=>absurd z (wa b),e0.bs,e0.oV,λb _ _=>wa b,λb z=>absurd z (wa b),e0.j1,e0.qT⟩,
  rfl,e0.bare,Un.kept hk,⟨_,x.toInCall.ns,λi y v h1 h2 h3=>?_⟩,λy c h=>⟨_,x.cell y c h⟩,e0.aF.fresh (zqR _),λy c h=>?_,λp hp=>absurd (show p∈ ([]:ad) from hp) (by simp),e0.aF.kept hk,?_⟩
 ·exact name_of_addr x.apart (Go h1) (Go h2)
 ·have hy:scope.names.lookup y=some .cell\/scope.names.lookup y=some .free:=hy;rcases hy with hy|hy
  ·exact Il hy
  ·exact absurd rfl (S.TJ _<|Go hy)
 ·exact zbg (x.above y c<|Go h)
 ·have hi:i<vs.length:=by
   unfold start at h2;by_cases hi:i<vs.length
   ·exact hi
   ·rw[zaZ (by simpa using hi)] at h2
    rw[List.getElem?_replicate] at h2
    split at h2<;>cases h2
  have ha:vs[i]?=some v:=by
   unfold start at h2;rw[zbF (by simpa using hi),zan] at h2
   cases e:vs[i]? with
   |none=>rw[e] at h2;cases h2
   |some a=>rw[e] at h2;cases h2;rfl
  obtain⟨u,hu,rv⟩:=r.get ha;have hp:ps[i]?=some y:=by
   rw[<-S.pre,List.getElem?_take_of_lt (by lia)];exact h1
  have Io:ps.Nodup:=by rw[<-S.pre];exact S.nd.sublist (List.take_sublist _ _)
  refine⟨u,rv,?_⟩;rcases S.par y (zaw hp) with k|k
  ·exact .inl ⟨k,Ij Io hp hu k⟩
  ·obtain⟨c,e⟩:=Il (n:=s.heap.objs.size+1) k;refine .inr ⟨.inl k,c,e,?_⟩;have q:=x.cell y c e;rw[Ik Io hp hu (by show scope.names.lookup y≠_;rw[k];decide)] at q
   exact q
 ·exact e0.aF.fresh (zbg<|x.above y c<|Go h)
 ·unfold start;show _=N.length;rw[zqA,zaf,zba];lia
theorem TK{CX:cE}{P:ww}{w:wE}{K:Frag}{mg:bv}{base:wT}{k:Nat}{f:wl}{name qual:Str}{params:Arguments}{body:pi}{scope:Scope}{dV kV T' pm bI ct oc:wv}{an od:lm}
  {il:Array pp}{N ps:ac}{sp:Sp} (lk:K.lookup f=some ⟨oc,od,.func<|PySem.W.fnOf name qual params body scope dV kV T' pm an bI ct,il⟩) (i8:PySem.W.codeIn K bI qual=true) (S:oX N ps scope)
  (len:∀vs H Q E,sp vs H Q E->vs.length=ps.length)
  (Co:∀(A:wP) (outer:tz) (s:wn) (H:Hp) (vs:be) (Q:VK) (E:XK),dW k (A.deeper (envOfC qual scope s.heap.objs.size f bI))->sp vs H Q E->
   ∃t,dg (nk CX P w K mg base N qual scope f bI A outer s H E) body t/\t {nx:=λ_ H'=>Q .av H',rt:=Q} (start N vs) H):
  c_ P w K mg base CX (k+1) f (PySem.W.fnOf name qual params body scope dV kV T' pm an bI ct) ps sp:=by
 refine⟨len,λA outer s H args us vs Q E hr e0 hb r jw=>?_⟩;have hl:=len _ _ _ _ jw;have KX:K.In s.heap:=e0.mod.qS.keeps λb o e=>(e0.bs b o e).1;have lim:s.heap.NoLimit:=e0.mod.nolimit.keeps λb o e=>(e0.bs b o e).1;have Cp:∀y∈ps.zip us,scope.names.lookup y.1=some .local\/(scope.names.lookup y.1=some .cell/\((cellsFrom (s.heap.objs.size+1) scope.names []).lookup y.1).isSome=true):=λ⟨n,v⟩ hy=>by
  rcases S.par n (zbq hy).1 with q|q
  ·exact .inl q
  ·exact .inr ⟨q,cellsFrom_some _ _ _<|.inl q⟩
 refine codeAny_call_function hr.depth (KX _ _ lk) rfl S.co S.gen rfl (codeRec_of KX i8)<|hb _ _ _ _ ?_;refine wpAny_newFunctionEnv_cells S.kind Cp λenv he s1 x=>?_;subst he;refine⟨lim.keeps x.toInCall.keep,codeAny_func ?_⟩;obtain⟨t,ht,hq⟩:=Co A outer s H vs Q E (hr.deeper _) jw;have I:Inv (nk CX P w K mg base N qual scope f bI A outer s H E) [] (start N vs) H s1:=Im S hr.hd e0 hl r x;refine Fk (ht [] s1 (start N vs) H _ I hq) (λfl s' hs=>?_) λe s' hs=>hs;have V':∀{K':St}{H':Hp}{v:V}{u:wv},Inv (nk CX P w K mg base N qual scope f bI A outer s H E) [] K' H' s'->RelV v u->Q v H'->CE outer P w H s Q u s':=
  λ{K' H' v u} J rv q=>⟨v,H',J.os,J.bare,J.base,J.aF,rv,q⟩
 cases fl with
 |ret u=>
  obtain⟨v,K',H',J,rv,q⟩:=hs;exact V' J rv q
 |next=>
  obtain⟨K',H',J,q⟩:=hs;exact V' (v:=V.av) (u:=Value.none) J rfl q
 |brk=>
  obtain⟨_,_,_,q⟩:=hs;exact False.elim q
 |cont=>
  obtain⟨_,_,_,q⟩:=hs;exact False.elim q
section
variable {X:Cx}{x:Str}{p b:Pos}{e:Expr}{a:im}{t:TA}{c T:zn}{r:be->Hp->VK->Prop}
def gK(r:be->Hp->VK->Prop)(t:TA):TE:=λσ H Q=>t σ H λvs H1=>r vs H1 Q
theorem zm(hc:dh X (.builtin c) r)(hg:Gl X x)(hm:X.mg x=none)(hv:bootBuiltins x=some (.builtin c))(ha:PA X (e::a) t)(hn:x≠"__name__":=by decide)(nj:(x==("__debug__":Str))=false:=by decide)
  (he:starEach (e::a) X.env=(false,eval e X.env)::starEach a X.env:=by rfl) (kO:(backTo b<|starEach a X.env).any (·.1)=false:=by rfl):PE X (.Call (.Name x p) (e::a) [] b) (gK r t):=by
 intro y' s σ H Q I h;refine KK<|qX I hg hm hv ?_ hn nj;exact PyProof.Rows.callWith_builtin1 (aU (ha b y' s σ H _ I h) λus s1 ⟨vs,H1,I1,r1,q1⟩=>hc y' s1 σ H1 vs us Q I1 r1 q1) he kO
theorem Ip(hc:dh X (.type T) r)(hg:Gl X x)(hm:X.mg x=none)(hv:bootBuiltins x=some (.type T))(ha:PA X (e::a) t)(hn:x≠"__name__":=by decide)(nj:(x==("__debug__":Str))=false:=by decide)
  (he:starEach (e::a) X.env=(false,eval e X.env)::starEach a X.env:=by rfl) (kO:(backTo b<|starEach a X.env).any (·.1)=false:=by rfl):PE X (.Call (.Name x p) (e::a) [] b) (gK r t):=by
 intro y' s σ H Q I h;refine KK<|qX I hg hm hv ?_ hn nj;exact Op (aU (ha b y' s σ H _ I h) λus s1 ⟨vs,H1,I1,r1,q1⟩=>hc y' s1 σ H1 vs us Q I1 r1 q1) he kO
end
end
namespace HT
open PySem PyProof.Rows
section
variable {a:ww}{w:wE}{A:wP}{E:aW}{s:wn}
theorem TL{t b:wl}{vs ws:ce}{Q:aW}(ht:IsTup s.heap t vs.toArray)(hb:IsTup s.heap b ws.toArray)(hv:vs≠ [])
  (h1:ws=[]->Q (.ref t) s) (h2:ws≠ []->Q (.ref s.heap.objs.size) {s with heap:=s.heap.push {cls:=.type "tuple",data:=.seq (vs++ws).toArray}})
  (hsz:vs.length+ws.length<=sizeLine):wpAny (model a w) A (binaryOp .Add (.ref t)<|.ref b) Q E s:=by
 obtain⟨⟨cls,dd,data,sl⟩,ho,hc,n,hd⟩:=id ht;obtain⟨⟨ai3,Iq,data2,wb⟩,gm,oY,n2,hd2⟩:=id hb
 simp only at hc hd oY hd2
 subst hc hd oY hd2;have e:vs.toArray++ws.toArray=(vs++ws).toArray:=by simp
 by_cases hw:ws=[]
 ·exact concat_meets ⟨_,ho,rfl⟩ ⟨_,gm,rfl⟩ noFill_tuple_add seq_tuple_add PySem.F.slot_tuple_add PySem.F.entry_tuple_add (PySem.F.args_tuple_add_2 _ _)
   (tuple_addW1 t b vs.toArray ws.toArray n n2 dd Iq sl wb (by simpa using hv) (by simp[hw])) ⟨ho,gm,h1 hw⟩
 ·refine concat_meets ⟨_,ho,rfl⟩ ⟨_,gm,rfl⟩ noFill_tuple_add seq_tuple_add PySem.F.slot_tuple_add PySem.F.entry_tuple_add (PySem.F.args_tuple_add_2 _ _)
   (tuple_addW2 t b vs.toArray ws.toArray n n2 dd Iq sl wb (by simpa using hv) (by simpa using hw) (by rw[zah,zah];exact hsz)) ⟨ho,gm,?_⟩
  rw[e];exact h2 hw
def bu(n d:Nat):io->Nat
 |none=>d
 |some v=>if v<0 then (v+(n:Int)).toNat else min v.toNat n
theorem Ir(n d:Nat):bu n d none=d:=rfl
theorem oZ(n d k:Nat):bu n d (some (k:Int))=min k n:=by
 show(if (k:Int) <0 then ((k:Int)+(n:Int)).toNat else min (k:Int).toNat n)=min k n
 rw[AT (by lia),zaB]
theorem Cq(n d:Nat)(hd:d<=n)(o:io):bu n d o<=n:=by
 cases o with
 |none=>exact hd
 |some v=>
  show(if v<0 then (v+(n:Int)).toNat else min v.toNat n)<=n
  by_cases hv:v<0
  ·rw[BT hv];lia
  ·rw[AT hv];exact Nat.min_le_right _ _
theorem Iu(v:Int)(n d:Nat):(if v<0 then max (v+(n:Int)) 0 else min v (n:Int))=((bu n d (some v):Nat):Int):=by
 show(if v<0 then max (v+(n:Int)) 0 else min v (n:Int))=(((if v<0 then (v+(n:Int)).toNat else min v.toNat n):Nat):Int)
 by_cases hv:v<0
 ·simp only[BT hv];lia
 ·simp only[AT hv];lia
theorem TM(lo hi:io)(n:Nat):Builtin.Slice.sliceAdjust lo hi 1 (n:Int)=(((bu n 0 lo:Nat):Int),((bu n n hi:Nat):Int)):=by
 have h1:¬((1:Int) <0):=by lia
 unfold Builtin.Slice.sliceAdjust
 simp only[h1,GE]
 refine Prod.ext ?_ ?_
 ·cases lo with
  |none=>rfl
  |some v=>exact Iu v n 0
 ·cases hi with
  |none=>rfl
  |some v=>exact Iu v n n
theorem TN(i j:Nat):Builtin.Slice.slicePlaces (i:Int) (j:Int) 1=j - i:=by
 unfold Builtin.Slice.slicePlaces;have h1:(1:Int) >0:=by lia
 simp only[h1,GT,Int.ediv_one]
 split<;>lia
theorem Iv{v:wv}{o:io}{Q:io->wn->Prop}(p:IsPart v o)(h:Q o s):wpAny (model a w) A (Builtin.Slice.slicePartIndex v) Q E s:=by
 cases p with
 |none=>exact slicePart_none h
 |int i t=>exact slicePart_int h
theorem TQ{sl:wl}{vl vu:wv}{lo hi:io}{n:Nat}{Q:Int×Int×Nat->wn->Prop}(hs:s.heap.IsSliceOf sl vl vu .none)(pl:IsPart vl lo)(pu:IsPart vu hi)
  (h:Q (((bu n 0 lo:Nat):Int),1,bu n n hi - bu n 0 lo) s):wpAny (model a w) A (Builtin.Slice.sliceApplied (.ref sl)<|pure (n:Int)) Q E s:=by
 obtain⟨os,wc,Iw,zo⟩:=id hs;unfold Builtin.Slice.sliceApplied Builtin.Slice.sliceFields;refine AC<|AC<|Id wc zo (x:=vl) rfl<|AC<|Id wc zo (x:=vu) rfl<|AC<|Id wc zo (x:=.none) rfl<|Ch ?_;refine AC<|slicePart_none ?_;show wpAny _ _ (if ((1:Int)==0)=true then _ else _) _ _ s
 rw[AT (by decide)]
 refine AC<|Iv pl<|AC<|Iv pu<|AC<|Ch ?_;show wpAny _ _ (match Builtin.Slice.sliceAdjust lo hi 1 (n:Int) with|(lo,hi)=>pure (lo,(1:Int),Builtin.Slice.slicePlaces lo hi 1)) _ _ s
 rw[TM lo hi n];show wpAny _ _ (pure (((bu n 0 lo:Nat):Int),(1:Int),Builtin.Slice.slicePlaces ((bu n 0 lo:Nat):Int) ((bu n n hi:Nat):Int) 1)) _ _ s;rw[TN];exact Ch h
theorem TR(xs:j_)(i k:Nat):((List.range k).filterMap fun(m:Nat)=>xs[((i:Int)+(m:Int)*1).toNat]?).toArray=((xs.toList.drop i).take k).toArray:=by
 have e:(fun(m:Nat)=>xs[((i:Int)+(m:Int)*1).toNat]?)=λm=>xs[i+m]?:=by
  funext m
  have:((i:Int)+(m:Int)*1).toNat=i+m:=by lia
  rw[this]
 rw[e];have:=pick_run xs i k;rw[List.filterMap_map] at this;have e2:((λx=>xs[x]?)∘λx=>i+x)=λm=>xs[i+m]?:=rfl;rw[e2] at this;rw[this]
theorem TU{t sl:wl}{items:j_}{vl vu:wv}{lo hi:io}{Q:aW}(ht:IsTup s.heap t items)(hs:s.heap.IsSliceOf sl vl vu .none)(pl:IsPart vl lo)(pu:IsPart vu hi)
  (hw:¬(bu items.size 0 lo=0/\bu items.size items.size hi=items.size))
  (h:Q (.ref s.heap.objs.size) {s with heap:=s.heap.push {cls:=.type "tuple",data:=.seq ((items.toList.drop<|bu items.size 0 lo).take<|bu items.size items.size hi - bu items.size 0 lo).toArray}})
  (hsz:items.size<=sizeLine):wpAny (model a w) A (getItem (.ref t)<|.ref sl) Q E s:=by
 have zq:sizeOk (.seq ((items.toList.drop<|bu items.size 0 lo).take<|bu items.size items.size hi - bu items.size 0 lo).toArray):=by
  show((items.toList.drop<|bu items.size 0 lo).take<|bu items.size items.size hi - bu items.size 0 lo).toArray.size<=sizeLine;rw[zah,zav,zaC,zbD];omega
 have hj:bu items.size items.size hi<=items.size:=Cq _ _ (zqR _) hi;obtain⟨os,wc,Iw,zo⟩:=id hs;have TV:s.TypeIs (.ref sl) "slice":=⟨os,wc,Iw⟩;unfold getItem
 try with_reducible refine FM ?_
 first|refine AC (Ch ?_)|skip
 refine AC<|wpAny_sequenceKey ht.typeIs (by decide) ?_
 refine AC (TW (name:=Str.ofString "__getitem__") ht.typeIs XL
  (wpAny_call_entry XL ht.typeIs entry_tuple_getitem ?_ (args_tuple_getitem _ _)))
 show wpAny _ _ (Builtin.Tuple.tupleItemsOf (.ref t) >>=_) _ _ s;refine AC<|tupleItemsOf_ ht ?_;refine AC<|wpAny_typeOf TV ?_;rw[BT (by decide)]
 refine AC<|TQ hs pl pu ?_;have Cr:¬((((bu items.size 0 lo:Nat):Int)==0 && (1:Int)==1 && (bu items.size items.size hi - bu items.size 0 lo)==items.size)=true):=by
  intro q;rw[zaa,zaa] at q;have q1:((bu items.size 0 lo:Nat):Int)=0:=No q.1.1;have q2:bu items.size items.size hi - bu items.size 0 lo=items.size:=No q.2;exact hw ⟨by omega,by omega⟩
 show wpAny _ _ (if (((bu items.size 0 lo:Nat):Int)==0 && (1:Int)==1 && (bu items.size items.size hi - bu items.size 0 lo)==items.size)=true then _ else _) _ _ s
 rw[AT Cr,TR]
 first
  |exact AC (m:=Builtin.Tuple.tupleExact _) (KM (Ch ⟨_,rfl,Ch h⟩) zq)
  |exact AC (m:=Builtin.Tuple.tupleExact _) (KM (AC<|Ch<|Ch ⟨_,rfl,Ch h⟩) zq)
  |exact AC (AC (m:=Builtin.Tuple.tupleExact _)<|KM (Ch<|Ch ⟨_,rfl,Ch h⟩) zq)
  |exact AC (AC (m:=Builtin.Tuple.tupleExact _)<|KM (Ch ⟨_,rfl,Ch h⟩) zq)
end
end HT
section
open PyProof.Rows
abbrev TO:=St->Hp->(io->Hp->Prop)->Prop
def PO(X:Cx)(e:Option Expr)(t:TO):Prop:=
 ∀(y':ad) (s:wn) (σ:St) (H:Hp) (Q:io->Hp->Prop),Inv X y' σ H s->t σ H Q->
  wpAny (model X.prog X.w) X.A (evalPart e X.env) (λu s'=>∃o H',Inv X y' σ H' s'/\IsPart u o/\Q o H') X.xe s
def Iy:TO:=λ_ H Q=>Q none H
def zr(t:TE):TO:=λσ H Q=>t σ H λx H1=>∃i,x=.int i/\Q (some i) H1
theorem intsAre_of{ns:pr}:∀{us:ce},Vals (ns.map V.int) us->IntsAre us ns:=by
 induction ns with
 |nil=>intro us r;rw[zbb] at r;cases r;exact .nil
 |cons n ns ih=>
  intro us r;rw[zaA] at r;cases r with
  |cons r1 r2=>
   obtain⟨t,e⟩:=r1;subst e;exact .cons n t<|ih r2
section
variable {X:Cx}{e:Expr}{f:TE}{c d:Option Expr}{g j:TO}{pos k:Pos}
theorem TX:PO X none Iy:=by
 intro y' s σ H Q I h;rw[evalPart_none];exact Ch ⟨none,H,I,.none,h⟩
theorem TY(h:PE X e f):PO X (some e) (zr f):=by
 intro y' s σ H Q I hw;rw[evalPart_some];refine aU (h y' s σ H _ I hw) λu s1 ⟨x,H1,I1,r1,q1⟩=>?_;obtain⟨i,rfl,q⟩:=q1;obtain⟨t,rfl⟩:=r1;exact⟨some i,H1,I1,.int i t,q⟩
def zt(X:Cx)(r:V->io->io->Hp->VK->Prop):Prop:=
 ∀(y':ad) (s:wn) (σ:St) (H:Hp) (x:V) (v vl vu:wv) (c d:io) (sl:wl) (Q:VK),Inv X y' σ H s->RelV x v->s.heap.IsSliceOf sl vl vu .none->IsPart vl c->IsPart vu d->r x c d H Q->
  ∃T id,typeLookup (.type T) "__getitem__"=pure (some<|.builtin id)/\s.TypeIs v T/\wpAny (model X.prog X.w) X.A (getItem v<|.ref sl) (EP X y' σ Q) X.xe s
def Cs(r:V->io->io->Hp->VK->Prop)(f:TE)(g j:TO):TE:=λσ H Q=>f σ H λx H1=>g σ H1 λl H2=>j σ H2 λu H3=>r x l u H3 Q
theorem TZ{r:V->io->io->Hp->VK->Prop}(hr:zt X r)(he:PE X e f)(hl:PO X c g)(hu:PO X d j):PE X (.Subscript e (.Slice c d none k) pos) (Cs r f g j):=by
 intro y' s σ H Q I h;refine Subscript_<|aU (he y' s σ H _ I h) λv s1 ⟨x,H1,I1,r1,q1⟩=>?_;refine wpAny_Slice<|aU (hl y' s1 σ H1 _ I1 q1) λvl s2 ⟨l,H2,I2,pl,q2⟩=>aU (hu y' s2 σ H2 _ I2 q2) λvu s3 ⟨u,H3,I3,pu,q3⟩=>?_;rw[evalPart_none];refine Ch ?_;have I4:Inv X y' σ H3 {s3 with heap:=s3.heap.push {cls:=.type "slice",data:=.fields #[vl,vu,.none]}}:=I3.kept (t':=s3.toks) λb ob q=>EQ _ q
 obtain⟨T,id,hT,ht,hg⟩:=hr y' {s3 with heap:=s3.heap.push {cls:=.type "slice",data:=.fields #[vl,vu,.none]}} σ H3 x v vl vu l u s3.heap.objs.size Q I4 r1 (Heap.IsSliceOf.new ..) pl pu q3
 show wpAny (model X.prog X.w) X.A (subscriptTail e (.Slice c d none k) v<|.ref s3.heap.objs.size) (EP X y' σ Q) X.xe {s3 with heap:=s3.heap.push {cls:=.type "slice",data:=.fields #[vl,vu,.none]}}
 exact tail_any (ops:=[.ref s3.heap.objs.size,v]) ht hT hg (by with_unfolding_all rfl)
def jb(xs:be)(c d:io):be:=(xs.drop<|HT.bu xs.length 0 c).take (HT.bu xs.length xs.length d - HT.bu xs.length 0 c)
theorem Iz(xs:be)(c d:io):(jb xs c d).length<=xs.length:=by
 unfold jb;rw[zav,zaC];lia
def T_(K:Frag):V->io->io->Hp->VK->Prop:=λx c d H Q=>∃a xs,x=.ref a/\aP K H a xs/\
 ¬(HT.bu xs.length 0 c=0/\HT.bu xs.length xs.length d=xs.length)/\∀p,H p=none->Q (.ref p) (upd H p<|.tup<|jb xs c d)
theorem Ua:zt X (T_ X.K):=by
 intro y' s σ H x v vl vu c d sl Q I rx hs pl pu h;obtain⟨a,xs,rfl,hx,hw,q⟩:=h;cases rx;obtain⟨ay,r,ht,hz⟩:=I.tuple hx;have hlen:ay.toArray.size=xs.length:=by rw[zah];exact r.length.symm
 refine⟨"tuple",_,PyProof.Rows.slot_tuple_getitem.lookup,ht.typeIs,?_⟩;refine HT.TU ht hs pl pu (by rw[hlen];exact hw) ?_ (by rw[hlen];exact hz)
 rw[hlen];refine⟨.ref s.heap.objs.size,_,I.laid (t':=s.toks) (o:=.tup (jb xs c d)) (λb ob q=>EQ _ q) (zqR _) ?_,rfl,q _<|I.aF.fresh<|zqR _⟩;exact⟨zap (Iz xs c d) hz,_,(r.drop<|HT.bu xs.length 0 c).take<|HT.bu xs.length xs.length d - HT.bu xs.length 0 c,IsTup.new _ _⟩
def IA(K:Frag):R2:=λx y H Q=>∃a b xs ys,x=.ref a/\y=.ref b/\aP K H a xs/\aP K H b ys/\xs≠ []/\xs.length+ys.length<=sizeLine/\
 (ys=[]->Q (.ref a) H)/\(ys≠ []->∀p,H p=none->Q (.ref p) (upd H p<|.tup<|xs++ys))
theorem Vals.Ct{xs:be}{us:ce}(r:Vals xs us):us=[]↔xs=[]:=by
 cases r with
 |nil=>simp
 |cons _ _=>simp
theorem Ub:bH X (binaryOp .Add) (IA X.K):=by
 intro y' s σ H x y v u Q I rx ry h;obtain⟨a,b,xs,ys,rfl,rfl,ha,hb,hx,hz,q1,q2⟩:=h;cases rx;cases ry;obtain⟨ay,r1,p1,_⟩:=I.tuple ha;obtain⟨o5,r2,k,_⟩:=I.tuple hb;refine HT.TL p1 k (λz=>hx<|r1.Ct.mp z) (λz=>⟨.ref a,H,I,rfl,q1<|r2.Ct.mp z⟩) (λz=>?_) (by rw[<-r1.length,<-r2.length];exact hz)
 refine⟨.ref s.heap.objs.size,_,I.laid (t':=s.toks) (o:=.tup (xs++ys)) (λb ob q=>EQ _ q) (zqR _) ?_,rfl,q2 (λw=>z<|r2.Ct.mpr w) _<|I.aF.fresh<|zqR _⟩;exact⟨by rw[zqA];exact hz,_,r1.append r2,IsTup.new _ _⟩
end
def lX(n:Nat)(i:Int):v4:=if 0<=i then (if i<n then some i.toNat else none) else if -(n:Int)<=i then some (i+n).toNat else none
def jx{α:Type}(xs:List α)(i:Int):Option α:=(lX xs.length i).bind λj=>xs[j]?
theorem IB{n:Nat}{i:Int}{j:Nat}(h:lX n i=some j):seqIndex? i n=some j/\j<n/\ -(n:Int)<=i/\i<n:=by
 unfold lX at h;by_cases h0:0<=i
 ·rw[BT h0] at h;by_cases h1:i<n
  ·rw[BT h1] at h;have e:i.toNat=j:=zaj h;exact⟨by rw[seqIndex_of h0 h1,e],by lia,by lia,h1⟩
  ·rw[AT h1] at h;cases h
 ·rw[AT h0] at h;by_cases h1: -(n:Int)<=i
  ·rw[BT h1] at h;have e:(i+n).toNat=j:=zaj h;exact⟨by rw[seqIndex_neg (by lia) h1,e],by lia,h1,by lia⟩
  ·rw[AT h1] at h;cases h
theorem Cu{α:Type}{xs:List α}{i:Int}{v:α}(h:jx xs i=some v):∃j,seqIndex? i xs.length=some j/\xs[j]?=some v/\j<xs.length/\ -(xs.length:Int)<=i/\i<xs.length:=by
 unfold jx at h;cases e:lX xs.length i with
 |none=>rw[e] at h;cases h
 |some j=>
  rw[e] at h;obtain⟨h1,h2,h3,h4⟩:=IB e;exact⟨j,h1,h,h2,h3,h4⟩
theorem fH{α:Type}{xs:List α}{j:Nat}{v:α}(h:xs[j]?=some v):jx xs (j:Int)=some v:=by
 have hj:j<xs.length:=(zat.mp h).1;have e:lX xs.length (j:Int)=some j:=by
  unfold lX;rw[BT (by lia),BT (by lia)];simp
 unfold jx;rw[e];exact h
def IC(b:Expr):Prop:= ∀o i,subscripted b false o i=operate [o,i] (getItem o i)
def lY(X:Cx)(r:R2):Prop:=
 ∀(value ZB:Expr) (y':ad) (s:wn) (σ:St) (H:Hp) (x y:V) (v u:wv) (Q:VK),Inv X y' σ H s->RelV x v->RelV y u->r x y H Q->
  subscripted ZB false v u=operate [v,u] (getItem v u)->wpAny (model X.prog X.w) X.A (subscriptTail value ZB v u) (EP X y' σ Q) X.xe s
def rg(X:Cx)(id:zn)(r:V->be->Hp->VK->Prop):Prop:=
 ∀(y':ad) (s:wn) (σ:St) (H:Hp) (x:V) (xs:be) (v:wv) (us:ce) (Q:VK),Inv X y' σ H s->RelV x v->Vals xs us->r x xs H Q->
  wpAny (model X.prog X.w) X.A (call (.builtin id) (v::us)) (EP X y' σ Q) X.xe s
section
variable {X:Cx}{a b:Expr}{d g:TE}{pos:Pos}
theorem lY.or{r r':R2}(h:lY X r)(h':lY X r'):lY X (λx y H Q=>r x y H Q\/r' x y H Q):=by
 intro value ZB y' s σ H x y v u Q I rx ry q hs;rcases q with q|q
 ·exact h value ZB y' s σ H x y v u Q I rx ry q hs
 ·exact h' value ZB y' s σ H x y v u Q I rx ry q hs
theorem Uc{r:R2}(hr:lY X r)(ha:PE X a d)(hb:PE X b g)(hs:IC b):PE X (.Subscript a b pos) (gk r d g):=by
 intro y' s σ H Q I h;exact Subscript_<|Cg ha hb I h λv u s2 x y H2 I2 rx ry q=>hr a b y' s2 σ H2 x y v u Q I2 rx ry q (hs _ _)
def ID(K:Frag):R2:=λx y H Q=>∃p xs i v,x=.ref p/\y=.int i/\aE K H p xs/\jx xs i=some v/\Q v H
def IE(K:Frag):R2:=λx y H Q=>∃p xs i v,x=.ref p/\y=.int i/\aP K H p xs/\jx xs i=some v/\Q v H
def IF:R2:=λx y H Q=>∃z i c,x=.str z/\y=.int i/\z.length<=sizeLine/\jx z.cps.toList i=some c/\Q (.str ⟨#[c]⟩) H
theorem Ud:lY X (ID X.K):=by
 intro value ZB y' s σ H x y v u Q I rx ry h hs;obtain⟨p,xs,i,z,rfl,rfl,hq,he,q⟩:=h;cases rx;obtain⟨t,rfl⟩:=ry;obtain⟨ay,r,pl,hz⟩:=I.list hq;obtain⟨j,h1,h2,h3,h4,h5⟩:=Cu he;obtain⟨w,ew,kP⟩:=r.get h2;have hl:=r.length;have hn:=q_;have V':EP X y' σ Q w s:=⟨z,H,I,kP,q⟩;by_cases h0:0<=i
 ·have hj:i.toNat=j:=by
   rw[seqIndex_of h0 h5] at h1;exact zaj h1
  exact item_listR pl.isList h0 (by lia) (by rw[hj];simpa using ew) V' hs
 ·have hj:(i+(ay.toArray.size:Int)).toNat=j:=by
   rw[seqIndex_neg (by lia) h4] at h1
   rw[zah,<-hl];exact zaj h1
  exact Uf (x:=w) pl.isList.typeIs slot_list_getitem.lookup
   (wpAny_getItem_list_neg (Q:=λr s'=>r=w/\EP X y' σ Q r s') pl.isList (by lia) (by rw[zah] <;>lia) (by lia) (by rw[hj];simpa using ew) ⟨rfl,V'⟩) hs
theorem Ue:lY X (IE X.K):=by
 intro value ZB y' s σ H x y v u Q I rx ry h hs;obtain⟨p,xs,i,z,rfl,rfl,hq,he,q⟩:=h;cases rx;obtain⟨t,rfl⟩:=ry;obtain⟨ay,r,pl,hz⟩:=I.tuple hq;obtain⟨j,h1,h2,h3,h4,h5⟩:=Cu he;obtain⟨w,ew,kP⟩:=r.get h2;have hl:=r.length;have hn:=q_;have V':EP X y' σ Q w s:=⟨z,H,I,kP,q⟩;exact Uf (x:=w) pl.typeIs slot_tuple_getitem.lookup
  (getItem_tuple (j:=j) (Q:=λr s'=>r=w/\EP X y' σ Q r s') pl (by lia) (by lia) (by rw[zah,<-hl];exact h1) (by simpa using ew) ⟨rfl,V'⟩) hs
theorem Ug:lY X IF:=by
 intro value ZB y' s σ H x y v u Q I rx ry h hs;obtain⟨z,i,c,rfl,rfl,hz,he,q⟩:=h;obtain⟨t,rfl⟩:=rx;obtain⟨t',rfl⟩:=ry;obtain⟨j,h1,h2,h3,h4,h5⟩:=Cu he;have hl:z.cps.toList.length=z.length:=by simp[Str.length]
 rw[hl] at h1 h4 h5;have hn:=q_;exact tail_any (Pi s z t) slot_str_getitem.lookup (getItem_str (c:=c) (by
  have e1:decide (i< -(2 ^ 63:Int))=false:=zqF (by lia)
  have e2:decide (i≥2 ^ 63)=false:=zqF (by lia)
  rw[e1,e2,zbs]) (by rw[h1];simpa using h2) ⟨.str ⟨#[c]⟩,H,I.tok _,⟨_,rfl⟩,q⟩) hs
theorem Uh(ay:ce)(n j:Nat)(u:wv):Obj.mapSeq (·.setIfInBounds j u) {cls:=.type "list",data:=.seq ay.toArray n}={cls:=.type "list",data:=.seq (ay.set j u).toArray n}:=by
 simp[Obj.mapSeq]
theorem Inv.lst{y':ad}{σ:St}{H:Hp}{s:wn}{p:wl}{xs:be}(I:Inv X y' σ H s)(h:H p=some (.lst xs)):
  ∃(ay:ce) (n:Nat),Vals xs ay/\s.heap.get? p=some {cls:=.type "list",data:=.seq ay.toArray n}/\xs.length<=sizeLine:=by
 obtain⟨z,ay,n,r,e⟩:=I.aF p _ h;exact⟨ay,n,r,e,z⟩
theorem Inv.Ui{y':ad}{σ:St}{H:Hp}{s:wn}{p:wl}{xs ys:be}{ay its':ce}{n n':Nat}{f:Obj->Obj}(I:Inv X y' σ H s)(h:H p=some (.lst xs))
  (ho:s.heap.get? p=some {cls:=.type "list",data:=.seq ay.toArray n}) (hf:f {cls:=.type "list",data:=.seq ay.toArray n}={cls:=.type "list",data:=.seq its'.toArray n'}) (r:Vals ys its') (hz:ys.length<=sizeLine) (t:Nat):
  Inv X y' σ (upd H p<|.lst ys) {s with heap:=s.heap.update p f,toks:=t}:=by
 have e:(s.heap.update p f).get? p=some {cls:=.type "list",data:=.seq its'.toArray n'}:=by
  rw[Rs f ho (by rw[hf] <;>rfl),hf]
 refine I.write (x:=p) (e:=p) (by rw[h];trivial) (.inl rfl) (λb u hb q=>(LE _ _<|Fa hb).trans q) ⟨_,e⟩ ?_
 exact⟨hz,its',n',r,e⟩
def Cv:V->V->V->Hp->(Hp->Prop)->Prop:=λo i v H Q=>∃p xs k j,o=.ref p/\i=.int k/\H p=some (.lst xs)/\lX xs.length k=some j/\Q (upd H p<|.lst<|xs.set j v)
theorem set_list:Hy X Cv:=by
 intro y' s σ H o i v ov iv u Q I ro ri rv h;obtain⟨p,xs,k,j,rfl,rfl,hp,hj,q⟩:=h;cases ro;obtain⟨t,rfl⟩:=ri;obtain⟨ay,n,r,ho,hz⟩:=I.lst hp;obtain⟨h1,h2,h3,h4⟩:=IB hj;have hl:=r.length;have hn:=q_;have I':Inv X y' σ (upd H p<|.lst<|xs.set j v) {s with heap:=s.heap.update p (Obj.mapSeq (·.setIfInBounds j u))}:=
  I.Ui hp ho (Uh ay n j u) (r.set rv j) (by rw[zaR];exact hz) s.toks
 by_cases h0:0<=k
 ·have hk:k.toNat=j:=by
   rw[seqIndex_of h0 h4] at h1;exact zaj h1
  exact PySem.W.ki_setAt ho h0 (by lia) (by rw[zah,<-hl];exact h4) (by rw[hk];exact⟨_,I',q⟩)
 ·have hk:(k+(ay.toArray.size:Int)).toNat=j:=by
   rw[seqIndex_neg (by lia) h3] at h1
   rw[zah,<-hl];exact zaj h1
  exact PySem.W.ki_setBack ho (by lia) (by rw[zah,<-hl];exact h3) (by lia) (by rw[hk];exact⟨_,I',q⟩)
theorem Cw(lo hi:io)(n:Nat):(sliceBounds lo hi none n).1=((HT.bu n 0 lo:Nat):Int)/\(sliceBounds lo hi none n).2.1=((HT.bu n n hi:Nat):Int)/\(sliceBounds lo hi none n).2.2=1:=by
 refine⟨?_,?_,rfl⟩
 ·cases lo with
  |none=>simp[sliceBounds,HT.bu]
  |some i=>
   simp only[sliceBounds,HT.bu,Option.getD_none,show(1:Int) >0 by decide,GT]
   by_cases h:i<0
   ·simp only[h,GT] <;>lia
   ·simp only[h,GE] <;>lia
 ·cases hi with
  |none=>simp[sliceBounds,HT.bu]
  |some i=>
   simp only[sliceBounds,HT.bu,Option.getD_none,show(1:Int) >0 by decide,GT]
   by_cases h:i<0
   ·simp only[h,GT] <;>lia
   ·simp only[h,GE] <;>lia
theorem Uj(ay:ce)(lo hi:io):slicePick ay.toArray lo hi none=((ay.drop<|HT.bu ay.length 0 lo).take<|HT.bu ay.length ay.length hi - HT.bu ay.length 0 lo).toArray:=by
 obtain⟨h1,h2,h3⟩:=Cw lo hi ay.toArray.size;unfold slicePick;rw[h1,h2,h3]
 simp only[sliceRange_one,pick_run,zah] <;>rfl
def Uk(K:Frag):V->io->io->Hp->VK->Prop:=λx lo hi H Q=>∃a xs,x=.ref a/\aE K H a xs/\∀p,H p=none->Q (.ref p) (upd H p<|.lst<|jb xs lo hi)
theorem Ul:zt X (Uk X.K):=by
 intro y' s σ H x v vl vu lo hi sl Q I rx hs pl pu h;obtain⟨a,xs,rfl,hx,q⟩:=h;cases rx;obtain⟨ay,r,ht,hz⟩:=I.list hx;have hlen:=r.length;refine⟨"list",_,slot_list_getitem.lookup,ht.isList.typeIs,?_⟩;refine wpAny_getItem_list_slice ht.isList hs pl pu .none (by simp) ?_ (by rw[zah] <;>lia)
 rw[Uj,<-hlen];refine⟨.ref s.heap.objs.size,_,I.laid (t':=s.toks) (o:=.lst (jb xs lo hi)) (λb ob q=>EQ _ q) (zqR _) ?_,rfl,q _<|I.aF.fresh<|zqR _⟩;exact⟨zap (Iz xs lo hi) hz,_,0,(r.drop<|HT.bu xs.length 0 lo).take<|HT.bu xs.length xs.length hi - HT.bu xs.length 0 lo,Gc _ rfl⟩
def jc:V->xz
 |.av=>true
 |.bl _=>true
 |.int _=>true
 |.str _=>true
 |_=>false
def iO:V->V->xz
 |.av,.av=>true
 |.bl a,.bl b=>a==b
 |.bl a,.int b=>(if a then 1 else 0)==b
 |.int a,.bl b=>a==(if b then 1 else 0)
 |.int a,.int b=>a==b
 |.str a,.str b=>a==b
 |_,_=>false
theorem Um{A:wP}{s:wn}{y x:V}{u v:wv}(ry:RelV y u)(rx:RelV x v)(fy:jc y=true)(fx:jc x=true):SeqAt.EqAt A s u v (iO y x):=by
 cases y with
 |av=>
  cases ry;cases x with
  |av=>cases rx;exact SeqAt.EqAt.same _
  |bl b=>cases rx;exact SeqAt.EqAt.none_bool b
  |int b=>obtain⟨t,rfl⟩:=rx;exact SeqAt.EqAt.none_int b t
  |str b=>obtain⟨t,rfl⟩:=rx;exact SeqAt.EqAt.none_str b t
  |_=>exact absurd (show false=true from fx) zal
 |bl a=>
  cases ry;cases x with
  |av=>cases rx;exact SeqAt.EqAt.bool_none a
  |bl b=>cases rx;exact SeqAt.EqAt.bool_bool a b
  |int b=>obtain⟨t,rfl⟩:=rx;exact SeqAt.EqAt.bool_int a b t
  |str b=>obtain⟨t,rfl⟩:=rx;exact SeqAt.EqAt.bool_str a b t
  |_=>exact absurd (show false=true from fx) zal
 |int a=>
  obtain⟨t',rfl⟩:=ry;cases x with
  |av=>cases rx;exact SeqAt.EqAt.int_none a t'
  |bl b=>cases rx;exact SeqAt.EqAt.int_bool a t' b
  |int b=>obtain⟨t,rfl⟩:=rx;exact SeqAt.EqAt.int_int a t' b t
  |str b=>obtain⟨t,rfl⟩:=rx;exact SeqAt.EqAt.int_str a t' b t
  |_=>exact absurd (show false=true from fx) zal
 |str a=>
  obtain⟨t',rfl⟩:=ry;cases x with
  |av=>cases rx;exact SeqAt.EqAt.str_none a t'
  |bl b=>cases rx;exact SeqAt.EqAt.str_bool a t' b
  |int b=>obtain⟨t,rfl⟩:=rx;exact SeqAt.EqAt.str_int a t' b t
  |str b=>obtain⟨t,rfl⟩:=rx;exact SeqAt.EqAt.str_str a t' b t
  |_=>exact absurd (show false=true from fx) zal
 |_=>exact absurd (show false=true from fy) zal
def gp(x:V)(u:wv):xz:=match u with
 |.none=>iO .av x
 |.bool b=>iO (.bl b) x
 |.int i _=>iO (.int i) x
 |.str z _=>iO (.str z) x
 |_=>false
theorem Cy{x y:V}{u:wv}(r:RelV y u)(f:jc y=true):gp x u=iO y x:=by
 cases y with
 |av=>cases r;rfl
 |bl b=>cases r;rfl
 |int i=>obtain⟨t,rfl⟩:=r;rfl
 |str z=>obtain⟨t,rfl⟩:=r;rfl
 |_=>exact absurd (show false=true from f) zal
theorem zu{x:V}:∀{xs:be}{us:ce},Vals xs us->xs.all jc=true->us.any (gp x)=xs.any λy=>iO y x:=by
 intro _ _ h
 induction h with
 |nil=>exact λ_=>rfl
 |cons r _ i=>
  intro f;rw[zbc,zaa] at f;rw[zbh,zbh,Cy r f.1,i f.2]
theorem we{A:wP}{s:wn}{x:V}{v:wv}(rx:RelV x v)(fx:jc x=true):∀{xs:be}{us:ce},Vals xs us->xs.all jc=true->∀u∈us,SeqAt.EqAt A s u v (gp x u):=by
 intro _ _ h
 induction h with
 |nil=>exact λ_ u hu=>by cases hu
 |cons r _ i=>
  intro f u' hu;rw[zbc,zaa] at f;rcases zad.mp hu with rfl|hu
  ·rw[Cy r f.1];exact Um r rx f.1 fx
  ·exact i f.2 u' hu
def g_(x:V)(xs:be):xz:=xs.any λy=>iO y x
def Cz(K:Frag)(neg:xz):R2:=λx y H Q=>∃p xs,y=.ref p/\(aE K H p xs\/aP K H p xs)/\jc x=true/\xs.all jc=true/\Q (.bl (if neg then !g_ x xs else g_ x xs)) H
theorem Uo:bH X (compareOp .In) (Cz X.K false):=by
 intro y' s σ H x y v u Q I rx ry h;obtain⟨p,xs,rfl,hq,fx,fs,q⟩:=h;cases ry;rcases hq with hq|hq
 ·obtain⟨ay,r,pl,hz⟩:=I.list hq;refine SeqAt.in_listAt (gp x) pl.isList (λw hw=>we rx fx r fs w (by simpa using hw)) ⟨.bl _,H,I,rfl,?_⟩
  rw[show ay.toArray.any (gp x)=ay.any (gp x) by simp,zu r fs]
  exact q
 ·obtain⟨ay,r,pl,hz⟩:=I.tuple hq;refine SeqAt.in_tupleAt (gp x) pl (λw hw=>we rx fx r fs w (by simpa using hw)) ⟨.bl _,H,I,rfl,?_⟩
  rw[show ay.toArray.any (gp x)=ay.any (gp x) by simp,zu r fs]
  exact q
theorem Up:bH X (compareOp .NotIn) (Cz X.K true):=by
 intro y' s σ H x y v u Q I rx ry h;obtain⟨p,xs,rfl,hq,fx,fs,q⟩:=h;cases ry;rcases hq with hq|hq
 ·obtain⟨ay,r,pl,hz⟩:=I.list hq;refine SeqAt.notIn_listAt (gp x) pl.isList (λw hw=>we rx fx r fs w (by simpa using hw)) ⟨.bl _,H,I,rfl,?_⟩
  rw[show ay.toArray.any (gp x)=ay.any (gp x) by simp,zu r fs]
  exact q
 ·obtain⟨ay,r,pl,hz⟩:=I.tuple hq;refine SeqAt.notIn_tupleAt (gp x) pl (λw hw=>we rx fx r fs w (by simpa using hw)) ⟨.bl _,H,I,rfl,?_⟩
  rw[show ay.toArray.any (gp x)=ay.any (gp x) by simp,zu r fs]
  exact q
theorem dh.or{f:wv}{r r':be->Hp->VK->Prop}(h:dh X f r)(h':dh X f r'):dh X f (λxs H Q=>r xs H Q\/r' xs H Q):=by
 intro y' s σ H xs us Q I rs q;rcases q with q|q
 ·exact h y' s σ H xs us Q I rs q
 ·exact h' y' s σ H xs us Q I rs q
theorem Uq:dh X (.type "list") (λxs H Q=>∃p ys,xs=[.ref p]/\(aE X.K H p ys\/aP X.K H p ys)/\∀l,H l=none->Q (.ref l) (upd H l<|.lst ys)):=by
 intro y' s σ H xs us Q I r h;obtain⟨p,ys,rfl,hq,q⟩:=h;obtain⟨u,rfl,rx⟩:=vals1 r;cases rx;have V':∀(ay:ce),Vals ys ay->ys.length<=sizeLine->∀(h':wT) (c':Nat),(∀b o',s.heap.get? b=some o'->h'.get? b=some o')->
   h'.get? s.heap.objs.size=some {cls:=.type "list",dict:=none,data:=.seq ay.toArray c',slots:= #[]}->EP X y' σ Q (.ref s.heap.objs.size) {s with heap:=h'}:=λay r' hz h' c' kp e=>
  ⟨.ref s.heap.objs.size,_,I.laid (t':=s.toks) kp (zqR _) (show cP X.prog X.w _ h' _ (.lst ys) from⟨hz,ay,c',r',e⟩),rfl,q _<|I.aF.fresh<|zqR _⟩
 rcases hq with hq|hq
 ·obtain⟨ay,r',pl,hz⟩:=I.list hq;have hlen:=r'.length;obtain⟨o,ho,hc,n,hd⟩:=pl.isList;exact call_list_seq p (.inl rfl) ho hc hd (λh' c' kp e=>V' ay r' hz h' c' kp e) (by simp only[zah] <;>lia)
 ·obtain⟨ay,r',pl,hz⟩:=I.tuple hq;have hlen:=r'.length;obtain⟨o,ho,hc,n,hd⟩:=pl;exact call_list_seq p (.inr rfl) ho hc hd (λh' c' kp e=>V' ay r' hz h' c' kp e) (by simp only[zah] <;>lia)
def wg(K:Frag)(T:zn)(x:V)(H:Hp):Prop:=match x with
 |.str _=>T="str"
 |.int _=>T="int"
 |.ref p=>(T="list"/\∃xs,aE K H p xs)\/(T="tuple"/\∃o,K.lookup p=some o/\o.cls=.type "tuple"/\o.dict=none)\/
   (T="dict"/\((∃az,H p=some (.dK az))\/∃az,H p=some (.dT az)))\/(T="set"/\∃S n,H p=some (.set S n))
 |_=>False
theorem IG{y':ad}{σ:St}{H:Hp}{s:wn}{T:zn}{x:V}{v:wv}(I:Inv X y' σ H s)(r:RelV x v)(ty:wg X.K T x H):
  s.TypeIs v T/\∀a,v=.ref a->∃ob,s.heap.get? a=some ob/\ob.dict=none:=by
 cases x with
 |str z=>
  obtain⟨t,rfl⟩:=r;cases (show T="str" from ty)
  exact⟨Pi s z t,λ_ e=>nomatch e⟩
 |int i=>
  obtain⟨t,rfl⟩:=r;cases (show T="int" from ty)
  exact⟨typeIs_int s i t,λ_ e=>nomatch e⟩
 |ref p=>
  cases r;rcases ty with⟨rfl,xs,hq⟩|⟨rfl,o,hk,hc,hd⟩|⟨rfl,hk⟩|⟨rfl,S,n,hk⟩
  ·obtain⟨ay,_,pl,_⟩:=I.list hq;refine⟨pl.isList.typeIs,λa e=>?_⟩;cases e;obtain⟨o,n,e,c,hd,_⟩:=pl;exact⟨o,e,hd⟩
  ·refine⟨⟨o,I.du p o hk,hc⟩,λa e=>?_⟩;cases e;exact⟨o,I.du _ o hk,hd⟩
  ·have z:∃o,s.heap.get? p=some o/\o.ExactDict:=by
    rcases hk with⟨az,hk⟩|⟨az,hk⟩
    ·obtain⟨_,_,_,_,o,_,_,e,ex,_⟩:=I.aF p _ hk;exact⟨o,e,ex⟩
    ·obtain⟨_,_,_,_,o,_,_,e,ex,_⟩:=I.aF p _ hk;exact⟨o,e,ex⟩
   obtain⟨o,e,ex⟩:=z;refine⟨⟨o,e,ex.1⟩,λa e2=>?_⟩;cases e2;exact⟨o,e,ex.2.1⟩
  ·obtain⟨o,_,_,_,e,ex,_⟩:=I.aF p _ hk;refine⟨⟨o,e,ex.1⟩,λa e2=>?_⟩;cases e2;exact⟨o,e,ex.2.1⟩
 |_=>exact False.elim ty
def Ur(K:Frag)(T:zn)(r:V->be->Hp->VK->Prop)(to:TE):TE:=λσ H Q=>to σ H λx H1=>wg K T x H1/\r x [] H1 Q
def Us(K:Frag)(T:zn)(r:V->be->Hp->VK->Prop)(to:TE)(t:TA):TE:=λσ H Q=>to σ H λx H1=>wg K T x H1/\t σ H1 λxs H2=>r x xs H2 Q
variable {o e:Expr}{f:im}{k:TE}{t:TA}{j:Str}{l c:Pos}{T i:zn}{r:V->be->Hp->VK->Prop}
theorem Ut(pa:PlainAttrs T)(slot:Slot T j i)(CA:typeOf (.builtin i)=pure (.type "method_descriptor"))(hm:rg X i r)(ho:PE X o k)
  (CG:attributeBase o j X.env (eval o X.env)=eval o X.env:=by rfl) (CH:(l.endLine==c.line)=true:=by rfl):PE X (.Call (.Attribute o j l) [] [] c) (Ur X.K T r k):=by
 intro y' s σ H Q I h;refine wpAny_Call_method0_late CG CH<|aU (ho y' s σ H _ I h) λv s1 ⟨x,H1,I1,r1,ty,q1⟩=>?_;obtain⟨h1,h2⟩:=IG I1 r1 ty;exact⟨T,i,pa,slot,CA,h1,h2,UF rfl<|PySem.evalArgs_none<|hm y' s1 σ H1 x [] v [] Q I1 r1 .nil q1⟩
theorem Uu(pa:PlainAttrs T)(slot:Slot T j i)(CA:typeOf (.builtin i)=pure (.type "method_descriptor"))(hm:rg X i r)(ho:PE X o k)(ha:PA X (e::f) t)
  (CG:attributeBase o j X.env (eval o X.env)=eval o X.env:=by rfl)
  (Uv:((backTo c (starEach (e::f) X.env)).all (λx=> !x.1) && (backToKw c (keywordEach [] X.env)).all (λx=>x.1.isSome)
   && decide ((e::f).length+([]:List Keyword).length+(if ([]:List Keyword).isEmpty then 0 else 1) <30))=true:=by rfl)
  (CH:(l.endLine==c.line)=true:=by rfl) (hs:starEach (e::f) X.env=(false,eval e X.env)::starEach f X.env:=by rfl) (Uw:(backTo c<|starEach f X.env).any (·.1)=false:=by rfl):
  PE X (.Call (.Attribute o j l) (e::f) [] c) (Us X.K T r k t):=by
 intro y' s σ H Q I h;refine wpAny_Call_method_late CG Uv CH rfl<|aU (ho y' s σ H _ I h) λv s1 ⟨x,H1,I1,r1,ty,q1⟩=>?_;obtain⟨h1,h2⟩:=IG I1 r1 ty;refine⟨T,i,pa,slot,CA,h1,h2,?_⟩;have hA:=ha c y' s1 σ H1 _ I1 q1;rw[hs] at hA⊢;refine UF (by show(false ||(backTo c<|starEach f X.env).any (·.1))=false;rw[Uw] <;>rfl)<|UV ?_
 exact aU hA λus s2 ⟨vs,H2,I2,r2,q2⟩=>hm y' s2 σ H2 x vs v us Q I2 r1 r2 q2
end
theorem Vals.one:∀{x:V}{us:ce},Vals [x] us->∃u,us=[u]/\RelV x u:=by
 intro _ _ h;cases h with
 |cons r k=>cases k;exact⟨_,rfl,r⟩
theorem Vals.zero:∀{us:ce},Vals [] us->us=[]
 |_,.nil=>rfl
theorem Vals.dropLast{xs:be}{us:ce}(h:Vals xs us):Vals xs.dropLast us.dropLast:=by
 induction h with
 |nil=>exact .nil
 |cons r t ih=>
  cases t with
  |nil=>exact .nil
  |cons q t'=>exact .cons r ih
theorem Vals.rep{xs:be}{us:ce}(h:Vals xs us):∀k:Nat,Vals (List.replicate k xs).flatten (List.replicate k us).flatten
 | 0=>.nil
 |k+1=>by
  rw[zaF,zaF,zaT,zaT];exact Vals.append h<|Vals.rep h k
theorem Ux{α:Type}(l:List α):l.eraseIdx (l.length - 1)=l.dropLast:=by
 induction l with
 |nil=>rfl
 |cons a r ih=>
  cases r with
  |nil=>rfl
  |cons b r=>
   have e:(a::b::r).length - 1=((b::r).length - 1)+1:=by
    have h1:(a::b::r).length=r.length+2:=rfl;have h2:(b::r).length=r.length+1:=rfl;lia
   rw[e,List.eraseIdx_cons_succ,ih]
   all_goals rfl
theorem foldl_rep(ay:ce):∀(k:Nat) (N':ce),
  List.foldl (λx1 x2=>x1++x2) N'.toArray (List.replicate k ay.toArray)=(N'++(List.replicate k ay).flatten).toArray
 | 0,N'=>by simp
 |k+1,N'=>by
  have e:N'.toArray++ay.toArray=(N'++ay).toArray:=by simp
  have e2:(N'++ay)++(List.replicate k ay).flatten=N'++(List.replicate (k+1) ay).flatten:=by
   rw[zaF,zaT,zam]
  rw[<-e2,<-foldl_rep ay k (N'++ay),<-e,zaF,List.foldl_cons]
section
variable {X:Cx}{a:ad}{c:St}{H:Hp}{s:wn}{l b:wl}{g d zs:be}
theorem Inv.ua{ay its':ce}{n:Nat}{f:j_->j_}{t':Nat}(I:Inv X a c H s)(hH:H l=some (.lst g))
  (e:s.heap.get? l=some {cls:=.type "list",data:=.seq ay.toArray n}) (hf:f ay.toArray=its'.toArray) (hv:Vals d its') (hz:d.length<=sizeLine):
  Inv X a c (upd H l<|.lst d) {s with heap:=s.heap.update l (Obj.mapSeq f),toks:=t'}:=by
 have q:=PySem.IsL.update e f;rw[hf] at q;refine I.write (x:=l) (e:=l) (by rw[hH];exact trivial) (.inl rfl) (λb' u hb hu=>(LE s.heap (Obj.mapSeq f)<|Fa hb).trans hu) ⟨_,q⟩ ?_
 exact⟨hz,its',_,hv,q⟩
theorem Inv.IH{ay:ce}{t':Nat}(I:Inv X a c H s)(hv:Vals d ay)(hz:d.length<=sizeLine):
  Inv X a c (upd H s.heap.objs.size<|.lst d) {s with heap:=s.heap.push {cls:=.type "list",data:=.seq ay.toArray},toks:=t'}:=
 I.laid (λ_ _ q=>EQ _ q) (zqR _) ⟨hz,ay,0,hv,Gc _ rfl⟩
theorem Inv.fresh(I:Inv X a c H s):H s.heap.objs.size=none:=I.aF.fresh (zqR _)
theorem Inv.o6(I:Inv X a c H s)(hH:H l=some (.lst g)):g.length<=sizeLine/\∃(ay:ce) (n:Nat),Vals g ay/\g.length=ay.length/\s.heap.get? l=some {cls:=.type "list",data:=.seq ay.toArray n}:=by
 obtain⟨z,ay,n,r,e⟩:=I.aF l _ hH;exact⟨z,ay,n,r,r.length,e⟩
theorem II{n:Nat}(h:n<=sizeLine):Builtin.List.listTooLong n=false:=by
 unfold Builtin.List.listTooLong;exact zqF (by lia)
end
section
variable {X:Cx}
def Uy:V->be->Hp->VK->Prop:=λx vs H Q=>∃l xs y,x=.ref l/\vs=[y]/\H l=some (.lst xs)/\xs.length<sizeLine/\Q .av (upd H l<|.lst<|xs++[y])
theorem Uz:rg X "list.append" Uy:=by
 intro y' s σ H x vs v us Q I rx rv h;obtain⟨l,xs,y,rfl,rfl,hH,hz,q⟩:=h;cases rx;obtain⟨u,rfl,ru⟩:=rv.one;obtain⟨z,ay,n,r,hl,e⟩:=I.o6 hH;refine Ix Wp ⟨_,e,rfl⟩ F.entry_list_append (F.args_list_append_2 _ _) (PySem.list_append l ay.toArray n u (by rw[zah];lia)) ⟨e,?_⟩
 refine⟨.av,_,I.ua (its':=ay++[u]) hH e (by simp) (r.append<|.cons ru .nil) ?_,rfl,q⟩
 rw[zqA,zbG];lia
def UA:V->be->Hp->VK->Prop:=λx vs H Q=>∃l b xs zs,x=.ref l/\vs=[.ref b]/\H l=some (.lst xs)/\H b=some (.lst zs)/\xs.length+zs.length<=sizeLine/\Q .av (upd H l<|.lst<|xs++zs)
theorem UB:rg X "list.extend" UA:=by
 intro y' s σ H x vs v us Q I rx rv h;obtain⟨l,b,xs,zs,rfl,rfl,hH,hB,hz,q⟩:=h;cases rx;obtain⟨u,rfl,ru⟩:=rv.one;cases ru;obtain⟨z,ay,n,r,hl,e⟩:=I.o6 hH;obtain⟨z2,o5,n2,r2,o7,e2⟩:=I.o6 hB;have hsz:ay.toArray.size+o5.toArray.size<=sizeLine:=by rw[zah,zah];lia
 have CI:¬(!ay.toArray.isEmpty && Builtin.List.listTooLong (ay.toArray.size+o5.toArray.size))=true:=by
  rw[II hsz,Bool.and_false];exact zal
 refine Ix F.slot_list_extend ⟨_,e,rfl⟩ F.entry_list_extend (F.args_list_extend_2 _ _)
  (AutoSeq1.list_extend_list_list_0 l ay.toArray n b o5.toArray n2 CI (by rw[zah];lia) (by lia)) ⟨e,e2,?_⟩
 refine⟨.av,_,I.ua (its':=ay++o5) hH e (by simp) (r.append r2) ?_,rfl,q⟩
 rw[zqA];lia
def UC:V->be->Hp->VK->Prop:=λx vs H Q=>∃l xs y,x=.ref l/\vs=[]/\H l=some (.lst xs)/\xs[xs.length - 1]?=some y/\Q y (upd H l<|.lst xs.dropLast)
theorem UD:rg X "list.pop" UC:=by
 intro y' s σ H x vs v us Q I rx rv h;obtain⟨l,xs,y,rfl,rfl,hH,hy,q⟩:=h;cases rx;have CJ:=rv.zero;subst CJ;obtain⟨z,ay,n,r,hl,e⟩:=I.o6 hH;obtain⟨u,hu,ru⟩:=r.get hy;have UE:ay.toArray[ay.toArray.size - 1]?=some u:=by
  show ay.toArray[ay.length - 1]?=some u;rw[<-Array.getElem?_toList,<-hl];exact hu
 refine Ix F.slot_list_pop ⟨_,e,rfl⟩ F.entry_list_pop (F.args_list_pop_1 _) (MeetsSeq.list_pop_last l ay.toArray n u UE (by rw[zah];lia)) ⟨e,?_⟩
 refine⟨y,_,I.ua (its':=ay.dropLast) hH e ?_ r.dropLast ?_,ru,q⟩
 ·show ay.toArray.eraseIdxIfInBounds (ay.toArray.size - 1)=ay.dropLast.toArray;rw[zah,List.eraseIdxIfInBounds_toArray,Ux]
 ·rw[zbH];lia
def UG:V->be->Hp->VK->Prop:=λx vs H Q=>∃l xs,x=.ref l/\vs=[]/\H l=some (.lst xs)/\Q .av (upd H l<|.lst [])
theorem UH:rg X "list.clear" UG:=by
 intro y' s σ H x vs v us Q I rx rv h;obtain⟨l,xs,rfl,rfl,hH,q⟩:=h;cases rx;have CJ:=rv.zero;subst CJ;obtain⟨z,ay,n,r,hl,e⟩:=I.o6 hH;refine Ix F.slot_list_clear ⟨_,e,rfl⟩ F.entry_list_clear (F.args_list_clear_1 _) (AutoSeq1.list_clear_list_0 l ay.toArray n (by rw[zah];lia)) ⟨e,?_⟩
 exact⟨.av,_,I.ua (its':=[]) (d:=[]) hH e rfl .nil<|zqZ _,rfl,q⟩
def IJ:R2:=λx y H Q=>∃l b xs zs,x=.ref l/\y=.ref b/\H l=some (.lst xs)/\H b=some (.lst zs)/\xs.length+zs.length<=sizeLine/\∀p,H p=none->Q (.ref p) (upd H p<|.lst<|xs++zs)
theorem UI:bH X (binaryOp .Add) IJ:=by
 intro y' s σ H x y v u Q I rx ry h;obtain⟨l,b,xs,zs,rfl,rfl,hH,hB,hz,q⟩:=h;cases rx;cases ry;obtain⟨z,ay,n,r,hl,e⟩:=I.o6 hH;obtain⟨z2,o5,n2,r2,o7,e2⟩:=I.o6 hB;refine PySem.P.add_list e e2 ?_ (by rw[zah,zah];lia)
 have ea:ay.toArray++o5.toArray=(ay++o5).toArray:=by simp
 rw[ea];exact⟨.ref _,_,I.IH (t':=s.toks) (r.append r2) (by rw[zqA];lia),rfl,q _ I.fresh⟩
def IL:R2:=λx y H Q=>∃l k xs,x=.ref l/\y=.int k/\H l=some (.lst xs)/\ -(2 ^ 63)<=k/\k<2 ^ 63/\xs.length*k.toNat<=sizeLine/\
 ∀p,H p=none->Q (.ref p) (upd H p<|.lst (List.replicate k.toNat xs).flatten)
theorem len_rep{α:Type}(xs:List α)(k:Nat):(List.replicate k xs).flatten.length=k*xs.length:=by
 induction k with
 |zero=>simp
 |succ k ih=>rw[zaF,zaT,zqA,ih,Nat.succ_mul,Nat.add_comm]
theorem UJ:bH X (binaryOp .Mult) IL:=by
 intro y' s σ H x y v u Q I rx ry h;obtain⟨l,k,xs,rfl,rfl,hH,h1,h2,hz,q⟩:=h;cases rx;obtain⟨t,rfl⟩:=ry;obtain⟨z,ay,n,r,hl,e⟩:=I.o6 hH;have hlen:ay.toArray.size*k.toNat<=sizeLine:=by rw[zah,<-hl];exact hz
 have UK:¬ay.toArray.size*k.toNat>(2 ^ 63 - 1) / 8:=by
  have:(sizeLine:Nat)<= (2 ^ 63 - 1) / 8:=by decide
  lia
 have UL:¬(!Builtin.List.listFitsIndex k)=true:=by
  rw[fitsIndex_both h1 h2];exact zal
 have CI:¬Builtin.List.listTooLong (ay.toArray.size*k.toNat)=true:=by
  rw[II hlen];exact zal
 have UM:List.foldl (λx1 x2=>x1++x2) #[] (List.replicate (if ay.toArray.isEmpty=true then 0 else k.toNat) ay.toArray)=(List.replicate k.toNat ay).flatten.toArray:=by
  have f0:∀m:Nat,List.foldl (λx1 x2=>x1++x2) #[] (List.replicate m ay.toArray)=(List.replicate m ay).flatten.toArray:=λm=>by
   have:=foldl_rep ay m [];rw[List.nil_append] at this;exact this
  rw[f0];cases ay with
  |nil=>simp
  |cons a r'=>rw[AT (by simp)]
 refine wpAny_binaryOp_repeat_ref (T:="list") (U:="int") (by decide) ⟨_,e,rfl⟩ (λs'=>typeIs_int s' k t) noFill_list_mul F.fills_int_mul F.slot_int_rmul repeat_list F.slot_int_index.lookup
  (Ix F.slot_int_rmul (typeIs_int s k t) F.entry_int_rmul (F.args_int_rmul_2 _ _) (int___rmul___int_list k t l ay.toArray n)
   ⟨e,rfl,⟨_,e,rfl⟩,Ix F.slot_list_mul ⟨_,e,rfl⟩ F.entry_list_mul (F.args_list_mul_2 _ _) (AutoListH.list___mul___list_int_3 l ay.toArray n k t UL UK CI) ⟨e,?_⟩⟩)
 rw[UM];exact⟨.ref _,_,I.IH (t':=s.toks) (r.rep k.toNat) (by rw[len_rep,Nat.mul_comm];exact hz),rfl,q _ I.fresh⟩
end
end
namespace IM
open PySem PySem.W PySem.Calls PyProof.Rows
theorem UN{P:Params}{h:wT}:∀(ns:pr) (vs:ce),WellAll P h vs (ns.map WData.int)->IntsAre vs ns:=by
 intro ns
 induction ns with
 |nil=>
  intro vs w;rw[zbb] at w;cases w;exact .nil
 |cons n ns ih=>
  intro vs w;rw[zaA] at w;cases w with
  |cons a b=>
   cases a;exact .cons _ _<|ih _ b
theorem UO{l:OpenLaw}{n:Nat}(hn:l.most=some n){P:Params}{h:wT}{args:List WData}{vals:ce}
  (j5:l.row.toRowW.claim.pre args=true) (kQ:WellAll P h vals args):
  ∃a vs ns,vals=[Value.ref a]/\args=[WData.list<|ns.map WData.int]/\h.get? a=some {cls:=.type "list",data:=.seq vs.toArray}/\IntsAre vs ns/\ns.length<=n:=by
 have UP:WShape.hasAll [] args [.list .int]=true:=(pre_splitW j5).1;have hc:l.pre.holds [] {args:=args}=true:=(pre_splitW j5).2;obtain⟨d,r,rfl,h1,h2⟩:=hasAllW_cons UP;obtain rfl:=hasAllW_nil h2;obtain⟨xs,rfl,h3⟩:=hasW_list h1;obtain⟨ns,rfl⟩:=items_int h3;have hlen:ns.length<=n:=by
  unfold OpenLaw.pre at hc;have h4:(WTm.not<|.lt (.lit<|.int (n:Int))<|.len<|.arg 0).holds [] {args:=[.list<|ns.map .int]}=true:=by
   have h4:=(holds_andW hc).1;rw[hn] at h4;exact h4
  have h5:=condW_of h4 (w_not<|w_lt w_lit<|w_len_list<|w_arg rfl);rw[zaf] at h5;refine Nat.le_of_not_lt λq=>?_;have q':(n:Int) < ((ns.length:Nat):Int):=by omega
  first
   | (rw[zqT q'] at h5;exact absurd h5 (by decide))
   | (simp at h5;omega)
 cases kQ with
 |cons w1 w2=>
  cases w2;cases w1 with
  |list ho wj=>exact⟨_,_,ns,rfl,rfl,ho,UN ns _ wj,hlen⟩
theorem UQ(l:OpenLaw)(args:List WData):l.row.toRowW.claim.post args (.bool true) args=true:=
 postW_of (r:=l.row.toRowW) (X:=(true==true))
  (show WShape.has [] (.bool true) .bool=true by first|rfl|decide|simp[WShape.has,WShape.arms,WShape.armsAll])
  (show(WTm.eq .res<|.lit<|.bool true).value [] {args:=args,res:=some (.bool true),after:=args}=some (.bool<|true==true) from w_eq_bool (w_res rfl) w_lit) rfl
theorem UR{l:OpenLaw}{n:Nat}{q:ww}{loose:ac}{XP:(bv)->wT->Prop}{YP:wE->wT->Prop}{d:DefRec}
  (hn:l.most=some n) (wk:d.params.defaults=[])
  (call:∀(w:wE) (s₀ G':wn) (mg mb:bv) (fa:wl) (o:Obj) (pm cd T':wv) (a:wl) (vs:ce) (ns:pr),
   Ground q loose [] XP w s₀ mg mb G'.heap->YP w G'.heap->
   G'.heap.get? fa=some o->o.data=.func (docDef d.name d.params d.body d.scope pm cd T')->G'.heap.CodeRec cd d.name->mg d.name=some (.ref fa)->
   G'.heap.get? a=some {cls:=.type "list",data:=.seq vs.toArray}->IntsAre vs ns->ns.length<=n->G'.gens= #[]->
   codeAny (model l.prog w) callerA (.call (.ref fa) ⟨[.ref a],[]⟩) (λr s'=>r=.ok (.ret (.bool true))/\OldK G'.heap s'.heap/\s'.os=G'.os/\AllBare s'.gens) G'):
  WalkO q loose XP YP l.row.toRowW d [] (λf vs=>PySem.call f vs):=by
 intro w s₀ G' mg mb G Y fa o pm cd T' dV kV ho hd i8 hD jy hg args vals as j5 ai4 hrd kQ zw;obtain rfl:dV=.none:=Dflts.none hD wk;obtain rfl:kV=.none:=Dflts.noKw hD;obtain⟨a,vs,ns,rfl,rfl,CK,hints,hlen⟩:=UO hn j5 kQ;refine enter_call<|M2 (call w s₀ G' mg mb fa o pm cd T' a vs ns G Y ho (fd_plain hd) i8 jy CK hints hlen hg) λr s' hq=>?_;obtain⟨rfl,h2,h3,h4⟩:=hq;exact⟨.inl ⟨.bool true,.bool true,[],rfl,λ_=>rfl,.bool true,UQ l _,λ_=>⟨List.Pairwise.nil,λ_ hm=>(nomatch hm)⟩⟩,h2,h3,h4⟩
section
variable {prog:ww}{w:wE}{A:wP}{E:aW}{s:wn}{K:Frag}
end
end IM
section
open PyProof.Rows
theorem US:∀{vs:ce}{ns:pr},IntsAre vs ns->Vals (ns.map V.int) vs:=by
 intro _ _ h
 induction h with
 |nil=>exact .nil
 |cons n t _ i=>exact .cons ⟨t,rfl⟩ i
def CM(H:Hp):Prop:= ∀b,H b=none\/∃o xs,H b=some (.bW o<|.lst xs)
theorem UT{P:ww}{w:wE}{K:Frag}{mg mb:bv}{CX:cE}{k:Nat}{fa a:wl}{fd:x0}{x:Str}{sp:Sp}{G':wn}{vs:ce}{ns:pr}
  (KX:K.In G'.heap) (zx:G'.heap.Ns mainGlobals mg) (hb:G'.heap.Ns builtinsNs mb) (UU:∀x:Str,x≠"__name__"->mb x=bootBuiltins x) (UW:G'.heap.NoLimit) (hg:G'.gens= #[])
  (ha:G'.heap.get? a=some {cls:=.type "list",data:=.seq vs.toArray}) (hi:IntsAre vs ns) (hl:ns.length<=sizeLine) (hr:dW k callerA)
  (F:∀base:wT,K.In base->base.Ns mainGlobals mg->c_ P w K mg base CX k fa fd [x] sp) (UX:∀(s:wn) (u:wv),BindsTo s fd ⟨[u],[]⟩ [(x,u)])
  (jw:∀H:Hp,CM H->aE K H a (ns.map V.int)->sp [.ref a] H (λv _=>v=.bl true) λ_ _ _=>False)
  (CO:∀H e s',CX [] H G' (λ_ _ _=>False) e s'->False):
  codeAny (model P w) callerA (.call (.ref fa) ⟨[.ref a],[]⟩) (λr s'=>r=.ok (.ret<|.bool true)/\OldK G'.heap s'.heap/\s'.os=G'.os/\AllBare s'.gens) G':=by
 have rv:=US hi;have ub:=hi.length;have core:∀H:Hp,CM H->aE K H a (ns.map V.int)->cC P w H G'.heap->(∀b,H b≠none->b=a)->(H a≠none->K.lookup a=none)->
   codeAny (model P w) callerA (.call (.ref fa) ⟨[.ref a],[]⟩) (λr s'=>r=.ok (.ret<|.bool true)/\OldK G'.heap s'.heap/\s'.os=G'.os/\AllBare s'.gens) G':=by
  intro H hO hS aF hA hK;have o8:∀{b:wl}{o:Obj},G'.heap.get? b=some o->H b=none->(mZ G'.heap H).get? b=some o:=λe n=>RM e n;have wa:∀{b:wl}{o:Obj}{es:Array DictEntry}{ep:Nat},G'.heap.get? b=some o->o.data=.dict es ep->H b=none:=λ{b o es ep} e d=>by
   cases q:H b with
   |none=>rfl
   |some u=>
    have e':b=a:=hA b (by rw[q];simp)
    subst e';rw[ha] at e;cases e;have d':Data.seq vs.toArray _=Data.dict es ep:=d;cases d'
  have zy:∀{b:wl}{m:bv},G'.heap.Ns b m->(mZ G'.heap H).Ns b m:=λ{b m} ⟨o,es,ep,e,d,r⟩=>⟨o,es,ep,o8 e<|wa e d,d,r⟩;have IP:K.In (mZ G'.heap H):=λb o e=>o8 (KX b o e) (by
   cases q:H b with
   |none=>rfl
   |some u=>
    have e':b=a:=hA b (by rw[q];simp)
    subst e';rw[hK (by rw[q];simp)] at e;cases e)
  have hM:Mod K mg (mZ G'.heap H):=⟨IP,zy zx,⟨mb,zy hb,UU⟩,let ⟨mc,h1,h2⟩:=UW;⟨mc,zy h1,h2⟩⟩;have e0:nh P w K mg (mZ G'.heap H) callerA [] G' H:=⟨rfl,hM,λb o e=>RN e,zaX<|RL _ _,trivial,λb hb=>absurd (show b∈ ([]:db) from hb) (by simp),aF,.of_eq hg⟩
  refine M2 ((F _ IP<|zy zx).run callerA [] G' H ⟨[.ref a],[]⟩ [.ref a] [.ref a] _ _ hr e0 (UX G'<|.ref a) (.cons rfl .nil)<|jw H hO hS) λr s' h=>?_;cases r with
  |error e=>exact(CO H e s' h).elim
  |ok fl=>
   cases fl with
   |next=>exact False.elim h
   |brk=>exact False.elim h
   |cont=>exact False.elim h
   |ret u=>
    obtain⟨v,H',os,bare,un,UY,r',q⟩:=h;have q':v=.bl true:=q;subst q';obtain rfl:u=Value.bool true:=r';refine⟨rfl,OldK.of_keep λb o e=>?_,os,bare⟩;cases q:H b with
    |none=>exact un.keep b o e q (by intro z;exact absurd (show b∈ ([]:db) from z) (by simp)) (by simp)
    |some u=>
     rcases hO b with z|⟨ob,xs,z⟩
     ·rw[q] at z;cases z
     ·have z2:=un.gJ b ob _ z;obtain⟨e1,_⟩:=aF b _ z;obtain⟨e2,_⟩:=UY b _ z2;rw[e] at e1;cases e1;exact e2
 cases hk:K.lookup a with
 |some o=>
  have e:=KX a o hk;rw[ha] at e;cases e;refine core (λ_=>none) (λ_=>.inl rfl) (.inr ⟨_,vs.toArray,_,hk,rfl,rfl,rfl,by rw[zah,ub];exact hl,by simpa using rv⟩) (λb u z=>by have z':(none:Option HO)=some u:=z;cases z') (λb z=>absurd rfl z) λz=>absurd rfl z
 |none=>
  refine core (λb=>if b=a then some (.bW {cls:=.type "list",data:=.seq vs.toArray}<|.lst<|ns.map V.int) else none) (λb=>?_) (.inl<|.inr ⟨{cls:=.type "list",data:=.seq vs.toArray},BT rfl⟩) (λb u z=>?_) (λb z=>?_) λ_=>hk
  ·by_cases hb:b=a
   ·exact .inr ⟨_,_,BT hb⟩
   ·exact .inl (AT hb)
  ·by_cases hb:b=a
   ·have z':=(BT hb).symm.trans z;cases z';subst hb;exact⟨ha,by rw[zaf];exact hl,vs,_,rv,ha⟩
   ·have z':=(AT hb).symm.trans z;cases z'
  ·by_cases hb:b=a
   ·exact hb
   ·exact absurd (AT hb) z
theorem UZ{l:PySem.W.OpenLaw}{n k:Nat}{q:ww}{loose:ac}{XP:(bv)->wT->Prop}{YP:wE->wT->Prop}{d:DefRec}{K:Params->Frag}{CX:wE->cE}{sp:wE->Sp}{x:Str}
  (hn:l.most=some n) (v9:n<=sizeLine) (wk:d.params.defaults=[]) (hr:dW k callerA)
  (hY:∀(w:wE) (h:wT),YP w h->(K w.params).In h)
  (F:∀(w:wE) (mg:bv) (fa:wl) (h:wT),(K w.params).In h->h.Ns mainGlobals mg->mg d.name=some (.ref fa)->
   ∃fd:x0,(∀(s:wn) (u:wv),BindsTo s fd ⟨[u],[]⟩ [(x,u)])/\
    ∀base:wT,(K w.params).In base->base.Ns mainGlobals mg->c_ l.prog w (K w.params) mg base (CX w) k fa fd [x] (sp w))
  (jw:∀(w:wE) (H:Hp) (a:wl) (ns:pr),ns.length<=n->CM H->aE (K w.params) H a (ns.map V.int)->sp w [.ref a] H (λv _=>v=.bl true) λ_ _ _=>False)
  (CO:∀(w:wE) (H:Hp) (s:wn) (e:wv) (s':wn),CX w [] H s (λ_ _ _=>False) e s'->False):
  PySem.W.WalkO q loose XP YP l.row.toRowW d [] (λf vs=>PySem.call f vs):=by
 refine IM.UR hn wk λw s₀ G' mg mb fa o pm cd T' a vs ns G Y ho hd i8 jy CK hints hlen hg=>?_;have KX:=hY w _ Y;obtain⟨fd,hb,hF⟩:=F w mg fa _ KX G.T.g jy;exact UT KX G.T.g G.T.b G.T.builtins G.T.nolimit hg CK hints (zap hlen v9) hr hF hb (λH hO hS=>jw w H a ns hlen hO hS) λH e s'=>CO w H G' e s'
def inClass(s:wS)(j:Nat):wS:=match s with
 |.ClassDef _ _ _ body _ _ _ _ _ _ _=>body.getD j (.Pass ⟨0,0,0,0⟩)
 |_=>.Pass ⟨0,0,0,0⟩
def jz(s:wS):Arguments:=match s with
 |.FunctionDef _ a _ _ _ _ _ _ _ _=>a
 |_=> {posonlyargs:=[],args:=[],vararg:=none,kwonlyargs:=[],kw_defaults:=[],kwarg:=none,defaults:=[]}
def ej(s:wS):pi:=match s with
 |.FunctionDef _ _ b _ _ _ _ _ _ _=>b
 |_=>[]
def e_(s:wS):Scope:=match s with
 |.FunctionDef _ _ _ _ _ _ sc _ _ _=>sc
 |_=> {kind:=.function,names:=[],isGenerator:=false,isCoroutine:=false}
abbrev wm:cE:=λ_ _ _ _ _ _=>False
abbrev E0:XK:=λ_ _ _=>False
structure o9 (K:Frag) (x qual:Str) (st:wS) (f:wl) (fd:x0):Prop where
 ex:∃(oc:wv) (od:lm) (kV T' pm:wv) (an:lm) (bI ct:wv) (il:Array pp),
  fd=PySem.W.fnOf x qual (jz st) (ej st) (e_ st) .none kV T' pm an bI ct/\K.lookup f=some ⟨oc,od,.func fd,il⟩/\PySem.W.codeIn K bI qual=true
 kp:PySem.W.keepIn K (.ref f)=true
section
variable {P:ww}{w:wE}{K:Frag}{mg:bv}{base:wT}
theorem o9.binds{x qual:Str}{st:wS}{f:wl}{fd:x0}{ps:ac}(F:o9 K x qual st f fd)
  (h:∀(kV T' pm:wv) (an:lm) (bI ct:wv) (us:ce),us.length=ps.length->bindArgs (PySem.W.fnOf x qual (jz st) (ej st) (e_ st) .none kV T' pm an bI ct) ⟨us,[]⟩=pure (ps.zip us)):Binds K fd ps []:=by
 obtain⟨oc,od,kV,T',pm,an,bI,ct,il,rfl,lk,i8⟩:=F.ex;exact .all<|h kV T' pm an bI ct
theorem IQ{x qual:Str}{st:wS}{f:wl}{oc:wv}{od an:lm}{il:Array pp}{kV T' pm bI ct:wv}(l:K.lookup f=some ⟨oc,od,.func<|PySem.W.fnOf x qual (jz st) (ej st) (e_ st) .none kV T' pm an bI ct,il⟩)
  (c:PySem.W.codeIn K bI qual=true) (k:PySem.W.keepIn K (.ref f)=true):o9 K x qual st f (PySem.W.fnOf x qual (jz st) (ej st) (e_ st) .none kV T' pm an bI ct):=⟨⟨oc,od,kV,T',pm,an,bI,ct,il,rfl,l,c⟩,k⟩
end
theorem jA{A B:Prop}(h:B):if false=true then A else B:=by
 rw[AT zal];exact h
theorem hJ{A B:Prop}(h:A):if true=true then A else B:=by
 rw[BT rfl];exact h
theorem kR{c A B:Prop}[Decidable c](h1:c->A)(h2:¬c->B):if c then A else B:=by
 by_cases h:c
 ·rw[BT h];exact h1 h
 ·rw[AT h];exact h2 h
def au(H H':Hp):Prop:= ∀b o,H b=some o->H' b=some o
theorem au.refl(H:Hp):au H H:=λ_ _ h=>h
theorem au.trans{H H1 H2:Hp}(a:au H H1)(b:au H1 H2):au H H2:=λc o h=>b c o (a c o h)
theorem au.free{H H':Hp}(e:au H H'){l:wl}(h:H' l=Option.none):H l=Option.none:=by
 cases q:H l with
 |none=>rfl
 |some o=>
  rw[e l o q] at h;cases h
theorem au.seq{K:Frag}{H H':Hp}{a:wl}{xs:be}(e:au H H')(h:aE K H a xs):aE K H' a xs:=by
 rcases h with(h|⟨o,h⟩)|h
 ·exact .inl (.inl<|e _ _ h)
 ·exact .inl (.inr ⟨o,e _ _ h⟩)
 ·exact .inr h
section
variable {c:Type} [DecidableEq c]
def jB(az:List (c×V))(k:c):sK:=(az.find? λkv=>decide (kv.1=k)).map (·.2)
def putK(az:List (c×V))(k:c)(v:V):List (c×V):=
 if (az.any λkv=>decide (kv.1=k))=true then az.map (λkv=>if kv.1=k then (kv.1,v) else kv) else az++[(k,v)]
def uc(az:List (c×V))(k:c):List (c×V):=az.filter λkv=>decide (kv.1≠k)
theorem CQ{p:c×V}{r:List (c×V)}{k:c}(e:p.1=k):jB (p::r) k=some p.2:=by simp[jB,zaH,e]
theorem CU{p:c×V}{r:List (c×V)}{k:c}(e:¬p.1=k):jB (p::r) k=jB r k:=by simp[jB,zaH,e]
theorem IS(k:c):∀az:List (c×V),(az.any λkv=>decide (kv.1=k))=(jB az k).isSome
 |[]=>rfl
 |p::r=>by
  rw[zbh];by_cases e:p.1=k
  ·simp only[CQ e,zqT e,Bool.true_or,Option.isSome_some]
  ·rw[CU e,zqF e,Bool.false_or];exact IS k r
theorem IT(az:List (c×V))(k:c)(v:V):(putK az k v).length<=az.length+1:=by
 unfold putK
 split
 ·rw[zaf];lia
 ·rw[zqA,zaz,zbt];lia
theorem iI.wo{o:sK}{u:pp}(r:iI o u):o.isSome=u.isSome:=by
 cases o with
 |none=>cases u with
  |none=>rfl
  |some _=>exact(show False from r).elim
 |some _=>cases u with
  |none=>exact(show False from r).elim
  |some _=>rfl
theorem KV.val{az:List (c×V)}{vs:List (c×wv)}(r:KV az vs)(k:c):iI (jB az k) (valueAt vs k):=by
 unfold KV at r
 induction r with
 |nil=>exact True.intro
 | @cons p q ps qs h t ih=>
  obtain⟨h1,h2⟩:=h;by_cases e:p.1=k
  ·have e':q.1=k:=h1.symm.trans e;have b:valueAt (q::qs) k=some q.2:=by simp[valueAt,zaH,e']
   rw[CQ e,b];exact h2
  ·have e':¬q.1=k:=λz=>e (h1.trans z);have b:valueAt (q::qs) k=valueAt qs k:=by simp[valueAt,zaH,e']
   rw[CU e,b];exact ih
theorem KV.any{az:List (c×V)}{vs:List (c×wv)}(r:KV az vs)(k:c):(az.any λkv=>decide (kv.1=k))=vs.any λkv=>decide (kv.1=k):=by
 unfold KV at r
 induction r with
 |nil=>rfl
 |cons h t ih=>rw[zbh,zbh,ih,h.1]
theorem KV.CW{az:List (c×V)}{vs:List (c×wv)}(r:KV az vs)(k:c){y:V}{u:wv}(ry:RelV y u):
  KV (az.map λkv=>if kv.1=k then (kv.1,y) else kv) (vs.map λkv=>if kv.1=k then (kv.1,u) else kv):=by
 unfold KV at r⊢
 induction r with
 |nil=>exact .nil
 | @cons p q ps qs h t ih=>
  rw[zaA,zaA];refine .cons ?_ ih;obtain⟨h1,h2⟩:=h;by_cases e:p.1=k
  ·rw[BT e,BT<|h1.symm.trans e];exact⟨h1,ry⟩
  ·rw[AT e,AT<|λz=>e<|h1.trans z];exact⟨h1,h2⟩
theorem KV.put{az:List (c×V)}{vs:List (c×wv)}(r:KV az vs)(k:c){y:V}{u:wv}(ry:RelV y u):KV (putK az k y) (stored vs k u):=by
 unfold putK stored;rw[r.any k];by_cases e:(vs.any λkv=>decide (kv.1=k))=true
 ·rw[BT e,BT e];exact r.CW k ry
 ·rw[AT e,AT e];exact IN r ⟨rfl,ry⟩
theorem KV.drop{az:List (c×V)}{vs:List (c×wv)}(r:KV az vs)(k:c):KV (uc az k) (without vs k):=by
 unfold KV at r⊢;unfold uc without
 induction r with
 |nil=>exact .nil
 | @cons p q ps qs h t ih=>
  obtain⟨h1,h2⟩:=h;rw[List.filter_cons,List.filter_cons];by_cases e:p.1=k
  ·have a:¬decide (p.1≠k)=true:=by simp[e]
   have b:¬decide (q.1≠k)=true:=by simp[h1.symm.trans e]
   rw[AT a,AT b];exact ih
  ·have e':¬q.1=k:=λz=>e (h1.trans z);have a:decide (p.1≠k)=true:=by simp[e]
   have b:decide (q.1≠k)=true:=by simp[e']
   rw[BT a,BT b];exact .cons ⟨h1,h2⟩ ih
theorem KV.length{az:List (c×V)}{vs:List (c×wv)}(r:KV az vs):az.length=vs.length:=Db r
theorem U0(az:List (c×V))(k:c):(uc az k).length<=az.length:=zbI _ _
end
theorem wq{P:ww}{w:wE}{k:Key}{u:wv}(r:RelV (kV k) u):(fU P w).is k u=true:=by
 cases k with
 |inl i=>obtain⟨t,e⟩:=(show ∃t,u=Value.int i t from r);subst e;exact G5 P w i t
 |inr x=>obtain⟨t,e⟩:=(show ∃t,u=Value.str x t from r);subst e;exact G6 P w x t
theorem IU{P:ww}{w:wE}:∀{ks:List Key}{us:ce},Vals (ks.map kV) us->ItemsAre (fU P w) ks us
 |[],_,r=>by rw[zbb] at r;cases r;exact .nil
 |k::ks,_,r=>by
  rw[zaA] at r;cases r with
  |cons h t=>exact .cons (wq h) (IU t)
abbrev KT(H:Hp):on->mo->Prop:=Paired λp q=>p.1=q.1/\H q.2.1=some (.tup<|p.1.map kV)/\RelV p.2 q.2.2
theorem KT.val{H:Hp}{az:on}{xs:mo}(r:KT H az xs)(k:List Key):iI (jB az k) ((atKey xs k).map (·.2)):=by
 induction r with
 |nil=>exact True.intro
 | @cons p q ps qs h t ih=>
  obtain⟨h1,_,h2⟩:=h;by_cases e:p.1=k
  ·have e':q.1=k:=h1.symm.trans e;have b:atKey (q::qs) k=some q.2:=by simp[atKey,zaH,e']
   rw[CQ e,b];exact h2
  ·have e':¬q.1=k:=λz=>e (h1.trans z);have b:atKey (q::qs) k=atKey qs k:=by simp[atKey,zaH,e']
   rw[CU e,b];exact ih
theorem KT.CW{H:Hp}{az:on}{xs:mo}(r:KT H az xs)(k:List Key){y:V}{u:wv}(ry:RelV y u):
  KT H (az.map λkv=>if kv.1=k then (kv.1,y) else kv) (xs.map<|putAt k u):=by
 induction r with
 |nil=>exact .nil
 | @cons p q ps qs h t ih=>
  rw[zaA,zaA];refine .cons ?_ ih;obtain⟨h1,h2,h3⟩:=h;unfold putAt;by_cases e:p.1=k
  ·rw[BT e,BT<|h1.symm.trans e];exact⟨h1,h2,ry⟩
  ·rw[AT e,AT<|λz=>e<|h1.trans z];exact⟨h1,h2,h3⟩
theorem KT.put{H:Hp}{az:on}{xs:mo}(r:KT H az xs)(k:List Key){b:wl}{y:V}{u:wv}(hb:H b=some (.tup<|k.map kV))(ry:RelV y u):
  KT H (putK az k y) (storedH xs k b u):=by
 have e:(az.any λkv=>decide (kv.1=k))=(atKey xs k).isSome:=by
  rw[IS,(r.val k).wo,WF]
 unfold putK storedH;rw[e];by_cases q:(atKey xs k).isSome=true
 ·rw[BT q,BT q];exact r.CW k ry
 ·rw[AT q,AT q];exact IN r ⟨rfl,hb,ry⟩
theorem KT.keeps{H H':Hp}{az:on}{xs:mo}(r:KT H az xs)(ht:∀b ys,H b=some (.tup ys)->H' b=some (.tup ys)):KT H' az xs:=
 Paired.g6 r λ_ _ z=>⟨z.1,ht _ _ z.2.1,z.2.2⟩
section
variable {P:ww}{w:wE}{H:Hp}{h:wT}{a:wl}
theorem IV{u:HO}(ok:cC P w H h)(e:Rd H a u):cP P w H h a u:=e.ok ok
theorem zz{az:ii}(ok:cC P w H h)(e:Rd H a (.dK az)):az.length<=sizeLine/\(a==sysModules)=false/\∃vs,KV az vs/\h.DictOf (fU P w) a vs:=
 show cP P w H h a (.dK az) from IV ok e
theorem CY{az:ii}(ok:cC P w H h)(e:H a=some (.dK az)):az.length<=sizeLine/\(a==sysModules)=false/\∃vs,KV az vs/\h.DictOf (fU P w) a vs:=zz ok (.inl e)
theorem zA{ks:List Key}(ok:cC P w H h)(e:H a=some (.tup<|ks.map kV)):(tupleKind<|fU P w).is h ks a:=by
 obtain⟨_,ay,r,o,h1,h2,n,h3⟩:=(show cP P w H h a (.tup<|ks.map kV) from ok a _ e)
 exact⟨o,ay.toArray,n,h1,h2,h3,by simpa using IU r⟩
theorem zB{az:on}(ok:cC P w H h)(e:Rd H a (.dT az)):az.length<=sizeLine/\(a==sysModules)=false/\
  ∃xs,KT H az xs/\h.DictOfH (tupleKind<|fU P w) a xs:=by
 obtain⟨z,y,xs,r,o,es,ep,h1,h2,h3,h4,h5⟩:=(show cP P w H h a (.dT az) from IV ok e)
 refine⟨z,y,xs,r,o,es,ep,h1,h2,h3,h4,λx hx=>?_,h5⟩;have all:∀{l:on}{m:mo},KT H l m->∀x∈m,(tupleKind<|fU P w).is h x.1 x.2.1:=by
  intro l m q
  induction q with
  |nil=>intro x hx;exact nomatch hx
  | @cons p q ps qs hq t ih=>
   intro x hx;rcases zad.mp hx with e|hx
   ·subst e;exact zA ok (by rw[<-hq.1];exact hq.2.1)
   ·exact ih x hx
 exact all r x hx
theorem U1{az:on}(ok:cC P w H h)(e:H a=some (.dT az)):az.length<=sizeLine/\(a==sysModules)=false/\
  ∃xs,KT H az xs/\h.DictOfH (tupleKind<|fU P w) a xs:=zB ok (.inl e)
end
def jC(H:Hp)(a:wl)(y:V)(r:sK):Prop:=
 (∃az k,Rd H a (.dK az)/\y=kV k/\r=jB az k)\/∃az k b,Rd H a (.dT az)/\y=.ref b/\H b=some (.tup<|k.map kV)/\r=jB az k
def ud(H:Hp)(a:wl)(y v:V)(H':Hp):Prop:=
 (∃az k,H a=some (.dK az)/\y=kV k/\az.length<sizeLine/\H'=upd H a (.dK<|putK az k v))\/
 ∃az k b,H a=some (.dT az)/\y=.ref b/\H b=some (.tup<|k.map kV)/\az.length<sizeLine/\H'=upd H a (.dT<|putK az k v)
theorem jC.k{H:Hp}{a:wl}{az:ii}{k:Key}(e:H a=some (.dK az)):jC H a (kV k) (jB az k):=.inl ⟨az,k,.inl e,rfl,rfl⟩
theorem ud.k{H:Hp}{a:wl}{az:ii}{k:Key}{v:V}(e:H a=some (.dK az))(hl:az.length<sizeLine):ud H a (kV k) v (upd H a<|.dK<|putK az k v):=.inl ⟨az,k,e,rfl,hl,rfl⟩
section
variable {X:Cx}{d:ad}{f:St}{H:Hp}{s:wn}{a:wl}{y v:V}{u r:wv}{o:sK}{A:wP}{E:aW}
theorem Inv.big(I:Inv X d f H s):sysModules<s.heap.objs.size:=by
 have h:mainGlobals<s.heap.objs.size:=(I.mod.glob.keeps I.bk).lt;exact Sc (by decide) h
theorem U2{Q:aW}(hu:A.units+1<cLine)(I:Inv X d f H s)(g:jC H a y o)(ry:RelV y u)(h:∀s',Inv X d f H s'->Q (.bool o.isSome) s'):
  wpAny (model X.prog X.w) A (compareOp .In u<|.ref a) Q E s:=by
 rcases g with⟨az,k,e,ey,l⟩|⟨az,k,b,e,ey,eb,l⟩
 ·subst ey;obtain⟨z,hd,vs,rel,dd⟩:=zz I.aF e;refine wpAny_in_of (wq ry) hd dd.mapOf ?_;rw[<-(rel.val k).wo,<-l];exact h _<|I.tok _
 ·subst ey;cases (show u=Value.ref b from ry)
  obtain⟨z,hd,xs,rel,dd⟩:=zB I.aF e;refine wpAny_in_heap (WG hu) (zA I.aF eb) hd dd ?_;have q:=(rel.val k).wo;rw[WF] at q;rw[<-q,<-l];exact h _<|I.tok _
theorem U3{Q:aW}(hu:A.units+1<cLine)(I:Inv X d f H s)(g:jC H a y o)(ry:RelV y u)(h:∀s',Inv X d f H s'->Q (.bool<|!o.isSome) s'):
  wpAny (model X.prog X.w) A (compareOp .NotIn u<|.ref a) Q E s:=by
 rcases g with⟨az,k,e,ey,l⟩|⟨az,k,b,e,ey,eb,l⟩
 ·subst ey;obtain⟨z,hd,vs,rel,dd⟩:=zz I.aF e;refine wpAny_notIn_of (wq ry) hd dd.mapOf ?_;rw[<-(rel.val k).wo,<-l];exact h _<|I.tok _
 ·subst ey;cases (show u=Value.ref b from ry)
  obtain⟨z,hd,xs,rel,dd⟩:=zB I.aF e;refine wpAny_notIn_heap (WG hu) (zA I.aF eb) hd dd ?_;have q:=(rel.val k).wo;rw[WF] at q;rw[<-q,<-l];exact h _<|I.tok _
theorem CZ{h':wT}{t':Nat}{ob:HO}(I:Inv X d f H s)(mu:vU (H a))(hs:Heap.SameBut a s.heap h')(he:∃q,h'.get? a=some q)(new:cP X.prog X.w (upd H a ob) h' a ob):
  Inv X d f (upd H a ob) {s with heap:=h',toks:=t'}:=
 I.write (x:=a) (e:=a) mu (.inl rfl) (λb q hb z=>(hs.2 b hb).trans z) he new
theorem IW{P:ww}{w:wE}{H':Hp}{h':wT}{az:ii}{vs:List (Key×wv)}(z:az.length<=sizeLine)(hd:(a==sysModules)=false)(rel:KV az vs)(dd:h'.DictOf (fU P w) a vs):
  cP P w H' h' a (.dK az):=⟨z,hd,vs,rel,dd⟩
theorem U4{H':Hp}{Q:sw}(hu:A.units+1<cLine)(I:Inv X d f H s)(g:ud H a y v H')(ry:RelV y u)(rv:RelV v r)(h:∀s',Inv X d f H' s'->Q () s'):
  wpAny (model X.prog X.w) A (setItem (.ref a) u r) Q E s:=by
 rcases g with⟨az,k,e,ey,l,eH⟩|⟨az,k,b,e,ey,eb,l,eH⟩
 ·subst ey eH;obtain⟨z,hd,vs,rel,dd⟩:=CY I.aF e;have hz:vs.length<=sizeLine:=by rw[<-rel.length];exact z
  have hl:(putK az k v).length<=sizeLine:=by have:=IT az k v;omega
  refine wpAny_setItem_pairs (hsz:=hz) (wq ry) dd λh' rj hs=>h _ ?_;have he:∃q,h'.get? a=some q:=let ⟨q,_,_,hq,_⟩:=rj;⟨q,hq⟩;exact CZ I (by rw[e];exact True.intro) hs he<|IW hl hd (rel.put k rv) rj
 ·subst ey eH;cases (show u=Value.ref b from ry)
  obtain⟨z,hd,xs,rel,dd⟩:=U1 I.aF e;have hz:xs.length<=sizeLine:=by rw[<-Db rel];exact z
  have hl:(putK az k v).length<=sizeLine:=by have:=IT az k v;omega
  refine wpAny_setItem_heap (hsz:=hz) (WG hu) (zA I.aF eb) dd λh' rj hs=>h _ ?_;obtain⟨q,es,ep,hq,h2,h3,h4,_,h5⟩:=rj;refine CZ I (by rw[e];exact True.intro) hs ⟨q,hq⟩ ⟨hl,hd,_,(rel.put k eb rv).keeps λc ys ec=>?_,q,es,ep,hq,h2,h3,h4,h5⟩
  rw[aC<|bX ec e<|λz=>nomatch z];exact ec
end
section
variable {X:Cx}{c:ad}{d:St}{H:Hp}{s:wn}{a:wl}{b:ii}{k:Key}{u:wv}{A:wP}{E:aW}
theorem U5{v:V}{more:ce}{Q:aW}(I:Inv X c d H s)(e:H a=some (.dK b))(ry:RelV (kV k) u)(l:jB b k=some v)(hm:more=[]\/∃x,more=[x])
  (h:∀w' s',Inv X c d (upd H a<|.dK<|uc b k) s'->RelV v w'->Q w' s'):wpAny (model X.prog X.w) A (call (.builtin "dict.pop") (.ref a::u::more)) Q E s:=by
 obtain⟨z,hd,vs,rel,dd⟩:=CY I.aF e;obtain⟨w',hw,kP⟩:=iI.some_of (v:=v) (o:=valueAt vs k) (by rw[<-l];exact rel.val k)
 have hp:(keyPart u).isSome=true:=by
  cases k with
  |inl i=>obtain⟨t,q⟩:=(show ∃t,u=Value.int i t from ry);subst q;rfl
  |inr x=>obtain⟨t,q⟩:=(show ∃t,u=Value.str x t from ry);subst q;rfl
 have ha:argsOk "dict.pop" ⟨.ref a::u::more,[]⟩:=by
  rcases hm with q|⟨x,q⟩
  ·subst q;exact PySem.F.args_dict_pop_2 _ _
  ·subst q;exact PySem.F.args_dict_pop_3 _ _ _
 refine call_meetsIn PySem.F.slot_dict_pop dd.typeIs PySem.F.entry_dict_pop ha (meets_dict_pop_there (fU X.prog X.w) a (wq ry) more hm hp)
  ⟨vs,w',dd,by rw[<-rel.length];exact z,hw,λh' rj hs=>h w' _ ?_ kP⟩
 have he:∃q,h'.get? a=some q:=let ⟨q,_,_,hq,_⟩:=rj;⟨q,hq⟩;exact CZ I (by rw[e];exact True.intro) hs he<|IW (zap (U0 b k) z) hd (rel.drop k) rj
end
def U6(td ty:TE):TE:=λσ H Q=>td σ H λx H1=>ty σ H1 λy H2=>∃a v,x=.ref a/\jC H2 a y (some v)/\Q v H2
def C0(ty td:TE):TE:=λσ H Q=>ty σ H λy H1=>td σ H1 λx H2=>∃a o,x=.ref a/\jC H2 a y o/\Q (.bl o.isSome) H2
def C1(ty td:TE):TE:=λσ H Q=>ty σ H λy H1=>td σ H1 λx H2=>∃a o,x=.ref a/\jC H2 a y o/\Q (.bl<|!o.isSome) H2
def IX(td ty tv:TE):TS:=λD σ H=>tv σ H λv H1=>td σ H1 λx H2=>ty σ H2 λy H3=>∃a H4,x=.ref a/\ud H3 a y v H4/\D.nx σ H4
section
variable {X:Cx}{o i e d:Expr}{f j Tu:Pos}{b c k:TE}
theorem U7(hu:X.A.units+1<cLine)(hi:PE X i c)(ho:PE X o b):PC X .In i o (C0 c b):=by
 intro y' s σ H Q I h;refine aU (hi y' s σ H _ I h) λiv s1 ⟨y,H1,I1,ry,q1⟩=>aU (ho y' s1 σ H1 _ I1 q1) λu s2 ⟨x,H2,I2,rx,a,ov,ex,g,q2⟩=>?_;subst ex;obtain rfl:u=Value.ref a:=rx;exact U2 hu I2 g ry λs3 I3=>⟨.bl ov.isSome,H2,I3,rfl,q2⟩
theorem U8(hu:X.A.units+1<cLine)(hi:PE X i c)(ho:PE X o b):PC X .NotIn i o (C1 c b):=by
 intro y' s σ H Q I h;refine aU (hi y' s σ H _ I h) λiv s1 ⟨y,H1,I1,ry,q1⟩=>aU (ho y' s1 σ H1 _ I1 q1) λu s2 ⟨x,H2,I2,rx,a,ov,ex,g,q2⟩=>?_;subst ex;obtain rfl:u=Value.ref a:=rx;exact U3 hu I2 g ry λs3 I3=>⟨.bl<|!ov.isSome,H2,I3,rfl,q2⟩
theorem U9(hu:X.A.units+1<cLine)(ho:PE X o b)(hi:PE X i c)(hv:PE X d k)(hs:swapsWith d (some<|.Subscript o i j) f.line X.env=pure false):
  PS X (.Assign [.Subscript o i j] d f) (IX b c k):=by
 intro y' s σ H D I h;refine wpAny_Assign_Subscript (aU (hv y' s σ H _ I h) λr s1 ⟨v,H1,I1,rv,q1⟩=>aU (ho y' s1 σ H1 _ I1 q1) λu s2 ⟨x,H2,I2,rx,q2⟩=>aU (hi y' s2 σ H2 _ I2 q2) λiv s3 ⟨y,H3,I3,ry,a,H4,ex,g,q3⟩=>?_) hs;subst ex;obtain rfl:u=Value.ref a:=rx;exact U4 hu I3 g ry rv λs4 I4=>⟨σ,H4,I4,q3⟩
end
theorem U_{P:ww}{w:wE}{H:Hp}(h:wT)(hb:sysModules<h.objs.size):cP P w H (h.push {cls:=.type "dict",data:=.dict #[]}) h.objs.size (.dK []):=
 ⟨zqZ _,beq_eq_false_iff_ne.mpr<|Fa<|zai hb,[],.nil,Heap.DictOf.new h⟩
def Va:TE:=λ_ H Q=>∀p,H p=none->Q (.ref p) (upd H p<|.dT [])
def zC(H:Hp)(a:wl):Prop:=(∃az,Rd H a<|.dK az)\/∃az,Rd H a (.dT az)
theorem Vb{X:Cx}{y':ad}{σ:St}{H:Hp}{s:wn}{a:wl}(I:Inv X y' σ H s)(d:zC H a):
  s.TypeIs (.ref a) "dict"/\(∀b,Value.ref a=.ref b->∃ob,s.heap.get? b=some ob/\ob.dict=none)/\(a==sysModules)=false:=by
 rcases d with⟨az,e⟩|⟨az,e⟩
 ·obtain⟨_,hd,vs,_,dd⟩:=zz I.aF e;refine⟨dd.typeIs,λb q=>?_,hd⟩;cases q;obtain⟨ob,_,_,h1,h2,_⟩:=dd;exact⟨ob,h1,h2.2.1⟩
 ·obtain⟨_,hd,xs,_,dd⟩:=zB I.aF e;refine⟨dd.typeIs,λb q=>?_,hd⟩;cases q;obtain⟨ob,_,_,h1,h2,_⟩:=dd;exact⟨ob,h1,h2.2.1⟩
def Vc(td ty tx:TE):TE:=λσ H Q=>td σ H λx H1=>∃a,x=.ref a/\zC H1 a/\ty σ H1 λy H2=>tx σ H2 λz H3=>∃o,jC H3 a y o/\Q (o.getD z) H3
end
set_option maxHeartbeats 4000000
section
open PyProof.Rows
theorem ue:∀(names:ul) (n:Nat) (N':em),cellsFrom n names N'=cellsFrom n names []++N':=by
 intro names
 induction names with
 |nil=>intros;rfl
 |cons y r ih=>
  intro n N';obtain⟨name,kind⟩:=y;unfold cellsFrom
  split
  ·rw[ih (n+1) ((name,n)::N'),ih (n+1) [(name,n)],zam];rfl
  ·exact ih n N'
theorem Vd{x:Str}{c:wl}:∀(names:ul) (n:Nat),(x,c)∈cellsFrom n names []->(x,NameKind.cell)∈names:=by
 intro names
 induction names with
 |nil=>intro n h;cases h
 |cons y r ih=>
  intro n h;obtain⟨name,kind⟩:=y;unfold cellsFrom at h
  split at h
  ·rename_i hk
   rw[ue] at h;rcases zak.mp h with h|h
   ·exact zar _ (ih _ h)
   ·cases zag.mp h;rw[show kind=.cell by simpa using hk];exact zas
  ·exact zar _ (ih _ h)
theorem IY{x:Str}{c:wl}:∀(l:em),(x,c)∈l->∃c,l.lookup x=some c:=by
 intro l
 induction l with
 |nil=>intro h;cases h
 |cons y r ih=>
  intro h;rw[zaS];cases e:x==y.1 with
  |true=>exact⟨_,rfl⟩
  |false=>
   rcases zad.mp h with h|h
   ·rw[<-h] at e;simp at e
   ·exact ih h
theorem IZ{x:Str}:∀(names:ul) (n:Nat),(x,NameKind.cell)∈names->∃c,(x,c)∈cellsFrom n names []:=by
 intro names
 induction names with
 |nil=>intro n h;cases h
 |cons y r ih=>
  intro n h;obtain⟨name,kind⟩:=y;unfold cellsFrom
  split
  ·rw[ue];rcases zad.mp h with h|h
   ·cases h;exact⟨n,zau _<|.head _⟩
   ·obtain⟨c,hc⟩:=ih (n+1) h;exact⟨c,zaQ _ hc⟩
  ·rename_i hk
   rcases zad.mp h with h|h
   ·cases h;exact absurd rfl hk
   ·exact ih n h
theorem Ve{M:Model}{A:wP}{E:aW}{s:wn}{scope:Scope}{globals:wl}{closure:em}{qual:Str}{outer:Env}{Q:Env->wn->Prop}
  (hQ:∀h',h'.Ns s.heap.objs.size (λ_=>none)->(∀b o,s.heap.get? b=some o->h'.get? b=some o)->CellsOk h' (s.heap.objs.size+1) (cellsFrom (s.heap.objs.size+1) scope.names [])->
   Q (newEnv scope s.heap.objs.size globals (cellsFrom (s.heap.objs.size+1) scope.names closure) qual none .none (some outer) builtinsNs) {s with heap:=h'}):
  wpAny M A (newFunctionEnv scope globals closure [] qual none .none<|some outer) Q E s:=by
 simp only[newFunctionEnv,Option.isSome_some,GT]
 refine AC<|wpAny_alloc ?_;refine AC<|wpAny_layCells _ (λname kind cells=>by cases Vf:kind==NameKind.cell<;>simp[Vf]) _ _ _ _ ?_
 rw[show({s with heap:=s.heap.push {cls:=.type "dict",data:=.dict #[]}}:wn).heap.objs.size=s.heap.objs.size+1 from GM ..]
 have ok:=cellsFrom_ok scope.names (s.heap.push {cls:=.type "dict",data:=.dict #[]}) (s.heap.objs.size+1) [] ⟨λ_ _ hm=>(nomatch hm),List.Pairwise.nil⟩ (by rw[GM];exact zqR _)
 rw[GM] at ok;refine AC ?_;rw[List.forIn_nil];exact Ch<|Ch<|hQ _ ((Heap.Ns.new s.heap<|.type "dict").keeps<|pushCells_keeps _ _) (λb o e=>pushCells_keeps _ _ b o<|EQ _ e) ok
section
variable {X:Cx}{d:ad}{f:St}{H:Hp}{s:wn}{a:wl}{o:HO}
theorem Inv.Vg(I:Inv X d f H s)(hn:H a=none)(h0:X.s₀.heap.objs.size<=a)(hL:a≠X.env.locals)(hC:∀x c,X.env.cells.lookup x=some c->c≠a)
  (hp:∀p∈X.pn++d,p.1≠a) (new:cP X.prog X.w (upd H a o) s.heap a o):Inv X d f (upd H a o) s:=by
 have Vh:∀b u,X.s₀.heap.get? b=some u->b≠a:=λb u e=>zai (zao (Do e) h0);have wt:∀b u,H b=some u->b≠a:=λb u e=>aO e hn;refine⟨I.ok,I.os,I.bare,⟨I.base.keep,I.base.slot,λb u e n hx=>?_,I.base.there,λb xs e=>?_,λb u xs e=>?_,λb ps e=>?_⟩,I.loc,I.cell,?_,λx c e=>?_,λp q=>?_,λb u e=>?_,I.len⟩
 ·rw[aC<|Vh b u e];exact I.base.free b u e n hx
 ·have z:=I.base.eg b xs e;rw[aC<|wt b _ z];exact z
 ·have z:=I.base.gJ b u xs e;rw[aC<|wt b _ z];exact z
 ·obtain⟨m,z⟩:=I.base.ij b ps e;exact⟨m,by rw[aC<|wt b _ z];exact z⟩
 ·rw[aC<|Fa hL];exact I.free
 ·rw[aC<|hC x c e];exact I.iJ x c e
 ·obtain⟨z1,z2,z3⟩:=I.pin p q;exact⟨z1,by rw[aC<|hp p q];exact z2,z3⟩
 ·by_cases hb:b=a
  ·subst hb;rw[aw] at e;cases e;exact new
  ·rw[aC hb] at e;exact(I.aF b u e).oU (λ_ _ _ q=>q) (λc q=>by rw[aC<|wt c _ q];exact q) λc xs q=>by rw[aC<|wt c _ q];exact q
end
def dA(cells:em):ul->em->em
 |[],N'=>N'
 |(n,k)::r,N'=>dA cells r (if k=.free then (n,(cells.lookup n).getD 0)::N' else N')
theorem I_(env:Env):∀(names:ul) (N':em),(∀y∈names,y.2=.free->∃c,env.cells.lookup y.1=some c)->
  (forIn names N' (fun(x:Str×NameKind) (cs:em)=>match x with
   |(name,kind)=>if (kind==NameKind.free)=true then do let a <-cellOf env name;pure (ForInStep.yield ((name,a)::cs)) else pure (ForInStep.yield cs)):Sem em)=pure (dA env.cells names N')
 |[],N',_=>rfl
 |(n,k)::r,N',h=>by
  have hr:=λwu=>I_ env r wu λy hy=>h y (zar _ hy);rw[List.forIn_cons];by_cases hk:k=.free
  ·subst hk;obtain⟨c,e⟩:=h (n,.free) zas rfl;have e':cellOf env n=pure c:=by unfold cellOf;rw[e]
   have ec:dA env.cells ((n,.free)::r) N'=dA env.cells r ((n,c)::N'):=by simp[dA,e]
   rw[ec,<-hr]
   simp[e']
  ·have hb:(k==NameKind.free)=false:=by simpa using hk
   have ec:dA env.cells ((n,k)::r) N'=dA env.cells r N':=by simp[dA,hk]
   rw[ec,<-hr]
   simp[hb]
theorem Vi{scope:Scope}{env:Env}(h:∀y∈scope.names,y.2=.free->∃c,env.cells.lookup y.1=some c):closureFor scope env=pure (dA env.cells scope.names []):=by
 have:=I_ env scope.names [] h
 simp only[closureFor]
 rw[<-this]
 simp
theorem Ja{cells:em}:∀(names:ul) (N':em) (x:Str) (c:wl),(dA cells names N').lookup x=some c->(N'.lookup x=some c)\/((x,.free)∈names/\(cells.lookup x).getD 0=c)
 |[],N',x,c,h=>.inl h
 |(n,k)::r,N',x,c,h=>by
  simp only[dA] at h
  rcases Ja r _ x c h with z|⟨z1,z2⟩
  ·by_cases hk:k=.free
   ·subst hk
    simp only[GT] at z
    rw[zaS] at z;by_cases hx:x==n
    ·simp only[hx] at z
     have Vj:x=n:=No hx;subst Vj;exact .inr ⟨zas,zaj z⟩
    ·have lZ:(x==n)=false:=by simpa using hx
     simp only[lZ] at z
     exact .inl z
   ·simp only[AT hk] at z
    exact .inl z
  ·exact .inr ⟨zar _ z1,z2⟩
theorem C2{cells:em}:∀(names:ul) (N':em) (x:Str),((x,NameKind.free)∈names\/∃c,N'.lookup x=some c)->∃c,(dA cells names N').lookup x=some c
 |[],N',x,h=>by
  rcases h with h|h
  ·cases h
  ·exact h
 |(n,k)::r,N',x,h=>by
  simp only[dA]
  refine C2 r _ x ?_;rcases h with h|⟨c,h⟩
  ·rcases zad.mp h with e|h
   ·cases e;refine .inr ?_
    simp[zaS]
   ·exact .inl h
  ·refine .inr ?_;by_cases hk:k=.free
   ·simp only[BT hk,zaS]
    cases hx:x==n
    ·exact⟨c,h⟩
    ·exact⟨_,rfl⟩
   ·simp only[AT hk];exact⟨c,h⟩
theorem C3{env:Env}:∀(names:ul) (x:Str),
  (names.map fun(n,k)=>if (k==NameKind.free && env.scope.kind==.function && env.kindOf n==some .cell) then (n,NameKind.cell) else (n,k)).lookup x=
   (names.lookup x).map λk=>if (k==NameKind.free && env.scope.kind==.function && env.kindOf x==some .cell) then NameKind.cell else k
 |[],_=>rfl
 |(n,k)::r,x=>by
  have ih:=C3 (env:=env) r x;show List.lookup x ((if (k==NameKind.free && env.scope.kind==.function && env.kindOf n==some .cell)=true then (n,NameKind.cell) else (n,k))::_)=_
  cases hx:x==n with
  |true=>
   have e:x=n:=No hx;subst e;by_cases hc:(k==NameKind.free && env.scope.kind==.function && env.kindOf x==some .cell)=true
   ·rw[BT hc];simp only[zaS,beq_self_eq_true,zbu];rw[BT hc]
   ·rw[AT hc];simp only[zaS,beq_self_eq_true,zbu];rw[AT hc]
  |false=>
   by_cases hc:(k==NameKind.free && env.scope.kind==.function && env.kindOf n==some .cell)=true
   ·rw[BT hc];simp only[zaS,hx];exact ih
   ·rw[AT hc];simp only[zaS,hx];exact ih
section
variable {a:ww}{w:wE}{A:wP}{R:Result->wn->Prop}{s:wn}
theorem Vk{elt target iter:Expr}{ifs:im}{scope:Scope}{pos:Pos}{it N':wv}{env:Env}(I:Nat->wn->Prop)
  (turn:∀n s,I n s->wpAny (model a w) A (pyNext it) (λr G'=>match r with
   |none=>R (.ok .next) G'
   |some v=>wpAny (model a w) A (letOwnedTupleGo target it v) (λ_ Jb=>wpAny (model a w) A (assign target env v) (λ_ J'=>
     wpAny (model a w) A (forIn ifs true λc r=>if r=true then do let ok <-isTrue c env (eval c env);pure (ForInStep.yield ok) else pure (ForInStep.yield r)) (λok P'=>
      if ok=true then wpAny (model a w) A (eval elt env) (λx s₄=>
       wpAny (model a w) A (call (.builtin "list.append") [N',x]) (λ_ s₅=>∃m,m<n/\I m s₅) (λ_ _=>False) s₄) (λ_ _=>False) P'
      else ∃m,m<n/\I m P') (λ_ _=>False) J') (λ_ _=>False) Jb) (λ_ _=>False) G') (λ_ _=>False) s)
  (n:Nat) (h:I n s):codeAny (model a w) A (.compLoop (.ListComp elt [⟨target,iter,ifs,0⟩] scope pos) 0 it N' env) R s:=by
 refine codeAny_loop rfl I (λn s hI=>?_) n h;show wpAny _ A ((compTurn (.ListComp elt [⟨target,iter,ifs,0⟩] scope pos) 0 it N' env).onRaise (λx=>do noteFrame x env;theTreesLotGoes x)) _ _ s
 refine wpAny_noted ?_;rw[compTurn_list];refine AC<|MZ<|AC<|Fk (turn n s hI) (λr G' X4=>?_) λ_ _ h'=>h'.elim;cases r with
 |none=>exact Ch X4
 |some v=>
  refine AC<|Fk X4 (λ_ Jb Vl=>?_) λ_ _ h'=>h'.elim;refine AC<|Fk Vl (λ_ J' h₂=>AC<|Fk h₂ (λok P' h₃=>?_) λ_ _ h'=>h'.elim) λ_ _ h'=>h'.elim;cases ok with
  |false=>exact Ch ⟨rfl,h₃⟩
  |true=>
   exact AC<|AC<|Fk h₃ (λx s₄ h₄=>AC<|Fk h₄ (λ_ s₅ h₅=>Ch<|Ch ⟨rfl,h₅⟩) λ_ _ h'=>h'.elim) λ_ _ h'=>h'.elim
end
def iP(X:Cx)(scope:Scope)(N:ac)(ex:db)(C:wl)(s:wn)(H:Hp):Cx where
 prog:=X.prog
 w:=X.w
 K:=X.K
 mg:=X.mg
 base:=X.base
 A:=X.A
 N:=N
 s₀:=s
 H₀:=H
 env:=compEnvC scope (cellsFrom (C+1) scope.names<|dA X.env.cells scope.names []) C X.env
 outer:=X.stack
 stack:=X.stack
 ex:=ex
 fn:=λx=>decide (scope.names.lookup x=some .cell)
 calm:=X.calm
 pn:=[]
 xe:=λ_ _=>False
structure l7 (X:Cx) (scope:Scope) (ln:ac) (fv:eJ):Prop where
 kind:scope.kind=.function
 own:∀y∈scope.names,y.2=.cell->scope.names.lookup y.1=some .cell
 locals:∀y∈scope.names,y.2=.local->scope.names.lookup y.1=some .local
 free:∀y∈scope.names,y.2=.free->(X.env.kindOf y.1=some .cell\/X.env.kindOf y.1=some .free)
 Vm:∀p∈fv,X.N[p.2]?=some p.1/\scope.names.lookup p.1=some .free
def da(σ:St)(fv:eJ):St:=fv.map λp=>(σ[p.2]?).join
def j6(K:Frag):v4->V->Hp->(be->Prop)->Prop
 |none,x,_,Q=>Q [x]
 |some n,x,H,Q=>if n=102 then ∃a xs,x=.ref a/\aE K H a xs/\xs.length=2/\Q xs else ∃a xs,x=.ref a/\aP K H a xs/\xs.length=n/\Q xs
theorem Vn{K:Frag}{n:Nat}{x:V}{H:Hp}{P Q:be->Prop}(h:j6 K (some n) x H P)(k:∀xs,P xs->Q xs):j6 K (some n) x H Q:=by
 by_cases e:n=102
 ·have h:if n=102 then ∃a xs,x=.ref a/\aE K H a xs/\xs.length=2/\P xs else ∃a xs,x=.ref a/\aP K H a xs/\xs.length=n/\P xs:=h
  show if n=102 then ∃a xs,x=.ref a/\aE K H a xs/\xs.length=2/\Q xs else ∃a xs,x=.ref a/\aP K H a xs/\xs.length=n/\Q xs
  rw[BT e] at h⊢;obtain⟨a,xs,e1,e2,e3,q⟩:=h;exact⟨a,xs,e1,e2,e3,k _ q⟩
 ·have h:if n=102 then ∃a xs,x=.ref a/\aE K H a xs/\xs.length=2/\P xs else ∃a xs,x=.ref a/\aP K H a xs/\xs.length=n/\P xs:=h
  show if n=102 then ∃a xs,x=.ref a/\aE K H a xs/\xs.length=2/\Q xs else ∃a xs,x=.ref a/\aP K H a xs/\xs.length=n/\Q xs
  rw[AT e] at h⊢;obtain⟨a,xs,e1,e2,e3,q⟩:=h;exact⟨a,xs,e1,e2,e3,k _ q⟩
def nB:Option TT->TT
 |none=>λ_ H k=>k true H
 |some t=>t
def uf(K:Frag)(wi:TI)(tk:v4)(fv:eJ)(tc:Option TT)(te:TE):TE:=λσ H Q=>
 wi σ H λJ H1=>∃W:Nat->Nat->be->Hp->Prop,(∃m,W 0 m [] H1)/\∀i m ys H2,W i m ys H2->
  (J.stop i H2/\∀p,H2 p=none->Q (.ref p) (upd H2 p<|.lst ys))\/
  (J.go i H2/\∀x H3,J.jv i H2 x H3->j6 K tk x H3 λxs=>
   nB tc (xs.map some++da σ fv) H3 λb H5=>
    if b=true then te (xs.map some++da σ fv) H5 λy H6=>ys.length<sizeLine/\∃m',m'<m/\W (i+1) m' (ys++[y]) H6
    else ∃m',m'<m/\W (i+1) m' ys H5)
section
variable {X:Cx}{A:ad}{s:St}{H:Hp}{f j:wn}{a:Scope}{g:ac}{n:eJ}{w:db}{B:wT}{D C:wl}{m:bv}{t:Nat}
theorem l7.cells(S:l7 X a g n)(I:Inv X A s H f){x:Str}{c:wl}(h:(dA X.env.cells a.names []).lookup x=some c):X.env.cells.lookup x=some c/\(x,NameKind.free)∈a.names:=by
 rcases Ja _ _ _ _ h with z|⟨z1,z2⟩
 ·cases z
 ·obtain⟨c',e⟩:=I.ok.has x (S.free _ z1 rfl);rw[e] at z2;have z3:c'=c:=z2;subst z3;exact⟨e,z1⟩
theorem l7.Jc(S:l7 X a g n)(I:Inv X A s H f):closureFor a X.env=pure (dA X.env.cells a.names []):=
 Vi λy hy hk=>I.ok.has y.1 (S.free y hy hk)
theorem Vo(S:l7 X a g n)(I:Inv X A s H f)(f2:∀b∈w,j2 X A H b)(rk:∀b∈w,∃o,f.heap.get? b=some o)
  (os:j.os=f.os) (gens:j.gens=f.gens) (k3:∀b o,f.heap.get? b=some o->j.heap.get? b=some o) (hD:D=f.heap.objs.size) (h3:j.heap.objs.size=f.heap.objs.size+1) (hC:C=j.heap.objs.size)
  (k4:∀b o,j.heap.get? b=some o->B.get? b=some o) (zx:B.Ns C m) (ck:CellsOk B (C+1) (cellsFrom (C+1) a.names [])):
  Inv (iP X a (g++n.map (·.1)) (D::w) C j H) [] (g.map (λ_=>none)++da s n) H {j with heap:=B,toks:=t}:=by
 have cl:∀{x c},(dA X.env.cells a.names []).lookup x=some c->X.env.cells.lookup x=some c:=λh=>(S.cells I h).1;have C4:∀{x c},(dA X.env.cells a.names []).lookup x=some c->c<f.heap.objs.size:=λh=>by
  obtain⟨v,q⟩:=I.cell _ _ (cl h);exact q.lt
 have Vp:∀b∈w,b<f.heap.objs.size:=λb hb=>by obtain⟨o,e⟩:=rk b hb;exact Do e
 have Jd:∀b∈D::w,b<=f.heap.objs.size:=λb hb=>by
  rcases zad.mp hb with e|hb
  ·rw[e,hD];exact zqR _
  ·exact zbg (Vp b hb)
 have Je:∀x,(relabel a X.env).names.lookup x=(a.names.lookup x).map λk=>if (k==NameKind.free && X.env.scope.kind==.function && X.env.kindOf x==some .cell) then NameKind.cell else k:=λx=>C3 a.names x
 have Vq:∀x,a.names.lookup x=some .free->((relabel a X.env).names.lookup x=some .cell\/(relabel a X.env).names.lookup x=some .free):=λx e=>by
  rw[Je,e]
  simp only[zbu]
  split
  ·exact .inl rfl
  ·exact .inr rfl
 have Vr:∀x,((relabel a X.env).names.lookup x=some .cell\/(relabel a X.env).names.lookup x=some .free)->(x,NameKind.free)∈a.names\/(x,NameKind.cell)∈a.names:=λx e=>by
  rw[Je] at e;cases q:a.names.lookup x with
  |none=>rw[q] at e;rcases e with e|e<;>cases e
  |some k=>
   rw[q] at e;have hm:(x,k)∈a.names:=Go q
   simp only[zbu] at e
   by_cases hk:k=.free
   ·rw[hk] at hm;exact .inl hm
   ·have hb:(k==NameKind.free)=false:=by simpa using hk
    simp only[hb,Bool.false_and,zbd,GE] at e
    rcases e with e|e
    ·rw[zaj e] at hm;exact .inr hm
    ·exact absurd (zaj e) hk
 have lk:∀{x c},(cellsFrom (C+1) a.names<|dA X.env.cells a.names []).lookup x=some c->(x,c)∈cellsFrom (C+1) a.names []\/(dA X.env.cells a.names []).lookup x=some c:=λ{x c} h=>by
  rw[ue,zbv] at h;cases e:(cellsFrom (C+1) a.names []).lookup x with
  |none=>rw[e] at h;exact .inr h
  |some d=>rw[e] at h;cases h;exact .inl (Go e)
 have lo:∀{x c},(x,NameKind.cell)∈a.names->(cellsFrom (C+1) a.names<|dA X.env.cells a.names []).lookup x=some c->(x,c)∈cellsFrom (C+1) a.names []:=λ{x c} hx h=>by
  obtain⟨d,hd⟩:=IZ a.names (C+1) hx;obtain⟨d',e⟩:=IY _ hd;rw[ue,zbv,e] at h;cases h;exact Go e
 have lh:∀{x},(x,NameKind.free)∈a.names\/(x,NameKind.cell)∈a.names->∃c,(cellsFrom (C+1) a.names<|dA X.env.cells a.names []).lookup x=some c:=λ{x} hx=>by
  rw[ue,zbv];cases e:(cellsFrom (C+1) a.names []).lookup x with
  |some d=>exact⟨d,rfl⟩
  |none=>
   rcases hx with hx|hx
   ·exact C2 _ _ x (.inl hx)
   ·obtain⟨d,hd⟩:=IZ a.names (C+1) hx;obtain⟨d',e'⟩:=IY _ hd;rw[e] at e';cases e'
 have lf:∀{x c},a.names.lookup x=some .free->(dA X.env.cells a.names []).lookup x=some c->(cellsFrom (C+1) a.names<|dA X.env.cells a.names []).lookup x=some c:=λ{x c} hx h=>by
  rw[ue,zbv];cases e:(cellsFrom (C+1) a.names []).lookup x with
  |none=>exact h
  |some d=>
   have:=S.own _ (Vd _ _<|Go e) rfl;rw[hx] at this;cases this
 have sC:f.heap.objs.size<C:=by rw[hC,h3];exact zbo _
 refine⟨⟨I.ok.mod,S.kind,I.ok.glob,I.ok.blt,zaX hC.symm,λx y c h1 h2=>?_,λx hx=>lh (Vr x hx),λx c h e=>?_,I.ok.hd,I.ok.frames,.inl rfl,λb hb=>⟨?_,λx c e=>?_⟩,λb o e=>⟨k3 b o (I.bs b o e).1,(I.bs b o e).2⟩,?_,λb o e hb=>?_,λb hb hf=>?_,?_,I.y3⟩,
  rfl,?_,Un.kept λb u e=>k4 b u e,⟨m,zx,λi x v e1 e2 e3=>?_⟩,λx c e=>?_,I.aF.fresh ?_,λx c e=>(lk e).elim (λz=>I.aF.fresh (zbg (zao sC (zbi (ck.empty x c z).2)))) λz=>I.iJ x c (cl z),λp hp=>absurd (show p∈ ([]:ad) from hp) (by simp),I.aF.kept λb u e=>k4 b u (k3 b u e),?_⟩
 ·rcases lk h1 with z1|z1<;>rcases lk h2 with z2|z2
  ·exact PySem.name_of_addr ck.apart z1 z2
  ·exact absurd (Sc (C4 z2) sC) (Nat.not_lt_of_le<|zbi (ck.empty _ _ z1).2)
  ·exact absurd (Sc (C4 z1) sC) (Nat.not_lt_of_le<|zbi (ck.empty _ _ z2).2)
  ·exact I.ok.inj x y c (cl z1) (cl z2)
 ·exact zap (zaX hC.symm) (zbi (ck.empty x c<|lo (Go<|IO h) e).2)
 ·show b≠C;have:=Jd b hb;rw[hC,h3];exact zai (Nat.lt_succ_of_le this)
 ·rcases lk e with e|e
  ·exact Re (Nat.lt_of_le_of_lt (Jd b hb)<|zao sC<|zbi (ck.empty x c e).2)
  have q1:=C4 e;rcases zad.mp hb with z|z
  ·rw[z,hD];exact zai q1
  ·exact(f2 b z).2.2.2.2.1 x c (cl e)
 ·show X.base.objs.size<=j.heap.objs.size;have:=zap I.ok.oV I.sz;lia
 ·have e2:=(I.bs b o e).1;have o_:b∈D::w:=hb;rcases zad.mp o_ with z|z
  ·have:=Do e2;rw[z,hD] at this;exact zaL _ this
  ·rcases (f2 b z).2.2.2.1 with q|q
   ·exact I.ok.yY b o e q
   ·exact absurd (zao (Do (I.ok.bs b o e).1) q) (zaL _)
 ·have Jf:b∈cw X.stack:=hf;have o_:b∈D::w:=hb;rcases zad.mp o_ with z|z
  ·rcases zad.mp (I.y2 b Jf) with q|q
   ·have:=I.lt;rw[<-q,z,hD] at this;exact zaL _ this
   ·exact I.G9 (by rw[z,hD];exact zqR _) q
  ·rcases zad.mp (I.y2 b Jf) with q|q
   ·exact(f2 b z).2.1 q
   ·exact(f2 b z).2.2.1 q
 ·exact PySem.Heap.FunFrames.of_keeps (λb o e _=>⟨o,k3 b o e,rfl⟩) I.stack
 ·show AllBare j.gens;rw[gens];exact I.bare
 ·have hi:g.length<=i:=by
   by_cases hi:i<g.length
   ·exfalso
    rw[zbF (by simpa using hi),zan] at e2
    cases q:g[i]? with
    |none=>rw[q] at e2;cases e2
    |some y=>rw[q] at e2;cases e2
   ·lia
  have rm:(g++n.map (·.1))[i]?=some x:=e1;rw[zaZ hi,zan] at rm;rw[zaZ (by simpa using hi),zaf] at e2
  unfold da at e2;rw[zan] at e2;cases q:n[i - g.length]? with
  |none=>rw[q] at rm;cases rm
  |some p=>
   rw[q] at rm e2;have ex:p.1=x:=zaj rm;have ev:(s[p.2]?).join=some v:=zaj e2;obtain⟨g1,g2⟩:=S.Vm p (zaw q);rw[ex] at g1 g2;have Vs:s[p.2]?=some (some v):=by
    cases z:s[p.2]? with
    |none=>rw[z] at ev;cases ev
    |some o=>rw[z] at ev;rw[show o=some v from ev]
   have hk:=S.free _ (Go g2) rfl;obtain⟨m2,v9,hl⟩:=I.loc;obtain⟨u,r,l⟩:=hl p.2 x v g1 Vs (by rcases hk with k|k;exact .inr (.inl k);exact .inr (.inr k))
   refine⟨u,r,.inr ?_⟩;rcases l with⟨k,_⟩|⟨_,c,ec,z⟩
   ·rcases hk with k'|k'<;>(rw[k] at k';cases k')
   ·refine⟨Vq x g2,c,?_,?_⟩
    ·obtain⟨c',e'⟩:=C2 (cells:=X.env.cells) a.names [] x (.inl<|Go g2);have:=cl e';rw[ec] at this;cases this;exact lf g2 e'
    ·obtain⟨o,ho,hd⟩:=z;exact⟨o,k4 c o<|k3 c o ho,hd⟩
 ·rcases lk e with e|e
  ·exact⟨none,(ck.empty x c e).1⟩
  obtain⟨v,o,ho,hd⟩:=I.cell x c (cl e);exact⟨v,o,k4 c o<|k3 c o ho,hd⟩
 ·show f.heap.objs.size<=C;rw[hC,h3];exact zaY _
 ·show(g.map (λ_=>none)++da s n).length=(g++n.map (·.1)).length
  simp[da]
end
structure C5 (Φ:Cx->Prop) (P:ww) (w:wE) (K:Frag) (tg:Expr) (J:It) (fp:db) (it:wl) (tn:Nat->wT->Prop):Prop where
 mem:it∈fp
 obj:∀i h,tn i h->∀b∈fp,∃o,h.get? b=some o/\∀v,o.data≠ .cell v
 keep:∀i h h',tn i h->(∀b∈fp,∀o,h.get? b=some o->h'.get? b=some o)->tn i h'
 item:∀(X:Cx),X.prog=P->X.w=w->X.K=K->Φ X->∀(i:Nat) (y':ad) (s:wn) (σ:St) (H:Hp) (E:aW),Inv X y' σ H s->(∀b∈fp,j2 X y' H b)->tn i s.heap->J.go i H->
  wpAny (model P w) X.A (pyNext (.ref it)) (λr s1=>∃u,r=some u/\
   wpAny (model P w) X.A (letOwnedTupleGo tg (.ref it) u) (λ_ s2=>∃x H',Inv X y' σ H' s2/\RelV x u/\J.jv i H x H'/\tn (i+1) s2.heap/\∀b∈fp,H' b=none) E s1) E s
 done:∀(X:Cx),X.prog=P->X.w=w->X.K=K->Φ X->∀(i:Nat) (y':ad) (s:wn) (σ:St) (H:Hp) (E:aW),Inv X y' σ H s->(∀b∈fp,j2 X y' H b)->tn i s.heap->J.stop i H->
  wpAny (model P w) X.A (pyNext<|.ref it) (λr s1=>r=none/\Inv X y' σ H s1) E s
 self:∀(A:wP) (i:Nat) (s:wn) (Q:aW) (E:aW),tn i s.heap->Q (.ref it) s->wpAny (model P w) A (pyIter<|.ref it) Q E s
def zD(Φ:Cx->Prop)(X:Cx)(tg iter:Expr)(wi:TI):Prop:=
 ∀(y':ad) (s:wn) (σ:St) (H:Hp) (R:It->Hp->Prop),Inv X y' σ H s->wi σ H R->
  wpAny (model X.prog X.w) X.A (eval iter X.env) (λv s1=>wpAny (model X.prog X.w) X.A (pyIter v) (λqZ s2=>
   ∃(it:wl) (fp:db) (tn:Nat->wT->Prop) (J:It) (H':Hp),qZ=.ref it/\Inv X y' σ H' s2/\C5 Φ X.prog X.w X.K tg J fp it tn/\tn 0 s2.heap/\(∀b∈fp,j2 X y' H' b)/\R J H') X.xe s1) X.xe s
abbrev Calm(X:Cx):Prop:=X.calm=true
theorem PI.p{X:Cx}{tg iter:Expr}{wi:TI}(h:PI X tg iter wi):zD Calm X tg iter wi:=λy' s σ H R I q=>
 aU (h y' s σ H R I q) λv s1 h1=>aU h1 λqZ s2 ⟨it,fp,tn,J,H',e,I',T,st,f,r⟩=>⟨it,fp,tn,J,H',e,I',⟨T.mem,T.obj,T.keep,T.item,T.done,T.self⟩,st,f,r⟩
section
variable {X:Cx}{G:ad}{A:St}{H:Hp}{w:wn}{a:Scope}{l:ac}{f:eJ}{Y K N:Expr}{B:im}{d:Pos}
 {J:It}{j:db}{R:wl}{P:Nat->wT->Prop}{L:v4}{M:Option TT}{U:TE}{k:VK}{Z:wv->wl->Result->wn->Prop}{E:aW}
def zE(Ψ:Hp->Prop)(X:Cx)(a:Scope)(l:ac)(f:eJ)(K:Expr)(L:v4):Prop:=
 ∀(ex:db) (C:wl) (s:wn) (H:Hp),Ψ H->∃g,PG (iP X a (l++f.map (·.1)) ex C s H) K g/\
  ∀(x:V) (pre φ:St) (H':Hp) (Q:St->Hp->Prop),pre.length=l.length->j6 X.K L x H' (λxs=>xs.length=l.length->Q (xs.map some++φ) H')->g x (pre++φ) H' Q
def zF(X:Cx)(a:Scope)(l:ac)(f:eJ)(K:Expr)(L:v4):Prop:=
 ∀(ex:db) (C:wl) (s:wn) (H:Hp),∃g,PG (iP X a (l++f.map (·.1)) ex C s H) K g/\
  ∀(x:V) (pre φ:St) (H':Hp) (Q:St->Hp->Prop),pre.length=l.length->j6 X.K L x H' (λxs=>xs.length=l.length->Q (xs.map some++φ) H')->g x (pre++φ) H' Q
def zG(X:Cx)(a:Scope)(N0:ac)(B:im)(M:Option TT):Prop:=
 match M with
 |none=>B=[]
 |some t=>∃c,B=[c]/\∀(ex:db) (C:wl) (s:wn) (H:Hp),PT (iP X a N0 ex C s H) c t
theorem Jg{Φ:Cx->Prop}{Ψ:Hp->Prop}(S:l7 X a l f)(hc:∀Xc:Cx,Xc.A=X.A->Xc.calm=X.calm->Xc.H₀=H->Φ Xc)(hΨ:Ψ H)(hg:zE Ψ X a l f K L)(ht:zG X a (l++f.map (·.1)) B M)
  (he:∀(ex:db) (C:wl) (s:wn) (H:Hp),PE (iP X a (l++f.map (·.1)) ex C s H) Y U)
  (I:Inv X G A H w) (T:C5 Φ X.prog X.w X.K K J j R P) (st:P 0 w.heap) (f2:∀b∈j,j2 X G H b)
  (h:∃W:Nat->Nat->be->Hp->Prop,(∃m,W 0 m [] H)/\∀i m ys H2,W i m ys H2->
   (J.stop i H2/\∀p,H2 p=none->k (.ref p) (upd H2 p<|.lst ys))\/
   (J.go i H2/\∀x H3,J.jv i H2 x H3->j6 X.K L x H3 λxs=>
    nB M (xs.map some++da A f) H3 λb H5=>
     if b=true then U (xs.map some++da A f) H5 λy H6=>ys.length<sizeLine/\∃m',m'<m/\W (i+1) m' (ys++[y]) H6
     else ∃m',m'<m/\W (i+1) m' ys H5))
  (Vt:∀D C H' s' m,Inv X G A H' s'->s'.heap.Ns C m->H' C=none->C≠X.env.locals->X.s₀.heap.objs.size<=C->(∀x c,X.env.cells.lookup x=some c->c≠C)->(∀p∈X.pn++G,p.1≠C)->k (.ref D) H'->Z (.ref D) C (.ok .next) s'):
  wpAny (model X.prog X.w) X.A (newList []) (λN' P'=>wpAny (model X.prog X.w) X.A (newFunctionEnv a X.env.globals (dA X.env.cells a.names []) [] X.env.qual none .none (some X.env)) (λJh s₄=>
   codeAny (model X.prog X.w) X.A (.compStart (.ListComp Y [⟨K,N,B,0⟩] a d) 0 (.ref R) N' {Jh with scope:=relabel a X.env}) (Z N' Jh.locals) s₄) E P') E w:=by
 obtain⟨W,⟨m0,w0⟩,turn⟩:=h;refine KM<|Ve λX4 zH zI ck=>?_
 dsimp only at zH zI ck⊢
 generalize wx:({w with heap:=w.heap.push {cls:=.type "list",dict:=none,data:=.seq ([]:ce).toArray}}:wn)=P'
 have zJ:w.heap.push {cls:=.type "list",dict:=none,data:=.seq ([]:ce).toArray}=P'.heap:=by rw[<-wx]
 rw[zJ] at zH zI ck⊢;have Ji:P'.os=w.os:=by rw[<-wx]
 have Vu:P'.gens=w.gens:=by rw[<-wx]
 have rn:P'.heap.objs.size=w.heap.objs.size+1:=by rw[<-zJ,GM]
 have k3:∀b o,w.heap.get? b=some o->P'.heap.get? b=some o:=λb o e=>by rw[<-zJ];exact EQ _ e
 have k4:=zI;have gD:P'.heap.get? w.heap.objs.size=some {cls:=.type "list",dict:=none,data:=.seq ([]:ce).toArray}:=by rw[<-zJ];exact Gc _ rfl
 generalize eD:w.heap.objs.size=D at gD;generalize eC:P'.heap.objs.size=C at zH zI ck⊢;have zK:D≠C:=by rw[<-eD,<-eC,rn];exact zai (zbo _)
 have rk:∀b∈j,∃o,w.heap.get? b=some o:=λb hb=>by obtain⟨o,e,_⟩:=T.obj 0 _ st b hb;exact⟨o,e⟩
 have Jj:∀b∈j,b≠D:=λb hb=>by obtain⟨o,e⟩:=rk b hb;rw[<-eD];exact zai (Do e)
 have Vv:∀b∈j,b≠C:=λb hb=>by
  obtain⟨o,e⟩:=rk b hb;have:=Do e;rw[<-eC,rn];exact zai (zbw this)
 generalize eX:iP X a (l++f.map (·.1)) (D::j) C P' H=Xc;have I4:∀t,Inv Xc [] (l.map (λ_=>none)++da A f) H {P' with heap:=X4,toks:=t}:=λt=>by
  rw[<-eX];exact Vo S I f2 rk Ji Vu k3 eD.symm rn eC.symm k4 zH ck
 have xL:Xc.env.locals=C:=by rw[<-eX];rfl
 have wy:Xc.ex=D::j:=by rw[<-eX];rfl
 have Vw:Xc.fs=cw X.stack:=by rw[<-eX];rfl
 have xP:Xc.prog=X.prog:=by rw[<-eX];rfl
 have xw:Xc.w=X.w:=by rw[<-eX];rfl
 have xK:Xc.K=X.K:=by rw[<-eX];rfl
 have xA:Xc.A=X.A:=by rw[<-eX];rfl
 have xc:Φ Xc:=hc Xc xA (by rw[<-eX];rfl) (by rw[<-eX];rfl)
 have Jk:Xc.pn=[]:=by rw[<-eX];rfl
 have C6:Xc.xe=λ_ _=>False:=by rw[<-eX];rfl
 have C7:Xc.env=compEnvC a (cellsFrom (C+1) a.names<|dA X.env.cells a.names []) C X.env:=by rw[<-eX];rfl
 have cF:∀x c,Xc.env.cells.lookup x=some c->∀b∈D::j,c≠b:=λx c e b hb=>((I4 0).ok.G8 b (by rw[wy];exact hb)).2 x c e
 have sF:∀b∈D::j,b∉Xc.fs:=λb hb hf=>by
  have:=(I4 0).ok.yZ b (by rw[wy];exact hb)
  exact this hf
 have q5:∀{H':Hp}{oD:Obj},(∀b∈j,H' b=none)->∀b∈j,j2 Xc [(D,oD)] H' b:=λhn b hb=>
  ⟨hn b hb,by rw[xL];exact Vv b hb,sF b (zar _ hb),.inl (by rw[wy];exact zar _ hb),λx c e=>cF x c e b (zar _ hb),λp hp=>by
   rw[Jk] at hp;rcases zag.mp (show p∈ [(D,_)] from hp) with rfl
   exact(Jj b hb).symm⟩
 have loop:∀s₄:wn,s₄={P' with heap:=X4}->
   codeAny (model X.prog X.w) X.A (.compLoop (.ListComp Y [⟨K,N,B,0⟩] a d) 0 (.ref R) (.ref D)<|compEnvC a (cellsFrom (C+1) a.names<|dA X.env.cells a.names []) C X.env) (Z (.ref D) C) s₄:=by
  rintro s₄ rfl;refine Vk (λn s'=>∃i pre ys ay nn H',Inv Xc [(D,{cls:=.type "list",data:=.seq (List.toArray ay) nn})] (pre++da A f) H' s'/\pre.length=l.length/\P i s'.heap/\(∀b∈j,H' b=none)/\Vals ys ay/\ys.length<=sizeLine/\W i n ys H') ?_ m0
   ⟨0,l.map<|λ_=>none,[],[],0,H,(I4 _).tV<|λp hp=>?_,by simp,T.keep 0 _ _ st<|λb _ o e=>k4 b o<|k3 b o e,λb hb=>(f2 b hb).1,.nil,zqZ _,w0⟩
  rotate_left
  ·have C8:=zag.mp hp;subst C8;refine⟨k4 _ _ gD,I.aF.fresh<|zaX eD,by rw[xL];exact zK,sF D zas,λv z=>by cases z⟩
  rintro n s' ⟨i,pre,ys,ay,nn,H',I',j5,i_,Jl,hv,hz,w'⟩;have ai6:=I'.pin (D,_) (zau _ zas);rcases turn i n ys H' w' with⟨stop,qn⟩|⟨go,step⟩
  ·have td:=T.done Xc xP xw xK xc i _ s' _ H' (λ_ _=>False) I' (q5 Jl) i_ stop;rw[xA] at td;refine aU td λr s1 ⟨hr,I1⟩=>?_;subst hr;have C9:=I1.pin (D,_) (zau _ zas);have b1:=I1.base;rw[Vw,wy] at b1;have Jm:Xc.s₀=P':=by rw[<-eX];rfl
   have Vx:Xc.H₀=H:=by rw[<-eX];rfl
   rw[Jm,Vx] at b1;have nD:∀b o,w.heap.get? b=some o->b∉j->b∉D::j:=λb o e hb hm=>by
    rcases zad.mp hm with z|z
    ·have:=Do e;rw[z,eD] at this;exact zaL _ this
    ·exact hb z
   have un:Un (cw X.stack) j H H' w.heap s1.heap:=⟨λb o e nb hb hx=>b1.keep b o (k3 b o e) nb hb (nD b o e hx),λb o e nb hb hx=>b1.slot b o (k3 b o e) nb hb (nD b o e hx),λb o e nb hx=>b1.free b o (k3 b o e) nb (nD b o e hx),
    λb o e hx=>b1.there b o (k3 b o e) (nD b o e hx),b1.eg,b1.gJ,b1.ij⟩
   have Vy:s1.os=w.os:=by rw[I1.os,Jm,Ji]
   have Jn:=I1.aF;rw[xP,xw] at Jn;have J1:Inv X G A H' s1:=I.B8 Vy un Jn I1.bare λb hb=>⟨(f2 b hb).2.2.2.1,(f2 b hb).2.1,(f2 b hb).2.2.2.2.1,(f2 b hb).2.2.2.2.2⟩;have Vz:∀x c,X.env.cells.lookup x=some c->c≠D:=λx c e=>by
    obtain⟨v,q⟩:=I.cell x c e;rw[<-eD];exact zai q.lt
   have VA:∀x c,X.env.cells.lookup x=some c->c≠C:=λx c e=>by
    obtain⟨v,q⟩:=I.cell x c e;rw[<-eC,rn];exact zai (zbw q.lt)
   have pD:∀p∈X.pn++G,p.1≠D:=λp hp=>by rw[<-eD];exact zai (Do (I.pin p hp).1)
   have pC:∀p∈X.pn++G,p.1≠C:=λp hp=>by
    rw[<-eC,rn];exact zai (zbw<|Do (I.pin p hp).1)
   have lD:D≠X.env.locals:=by rw[<-eD];exact Re I.lt
   have lC:C≠X.env.locals:=by
    rw[<-eC,rn];exact Re (zbw I.lt)
   have J2:Inv X G A (upd H' D<|.lst ys) s1:=Inv.Vg J1 C9.2.1 (by rw[<-eD];exact I.sz) lD Vz pD ⟨hz,ay,nn,hv,C9.1⟩
   obtain⟨mC,Jo,_⟩:=I1.loc;rw[xL] at Jo;have fC:H' C=none:=by have:=I1.free;rw[xL] at this;exact this
   exact Vt D C _ s1 mC J2 Jo (by rw[aC<|Fa zK];exact fC) lC (by rw[<-eC,rn];exact Nat.le_succ_of_le I.sz) VA pC<|qn D C9.2.1
  ·have ti:=T.item Xc xP xw xK xc i _ s' _ H' (λ_ _=>False) I' (q5 Jl) i_ go;rw[xA] at ti;refine aU ti λr s4 ⟨u,hr,h4⟩=>?_;subst hr;refine aU h4 λ_ s5 ⟨x,H5,I5,r5,y5,q8,Cf⟩=>?_;have v3:=I5.pinned (q5 Cf) (T.obj _ _ q8);obtain⟨g,pg,gq⟩:=hg (D::j) C P' H hΨ;rw[eX] at pg;have rd:=step x H5 y5;have Jp:=pg _ s5 _ H5 x u (λσ6 H6=>∃xs:be,σ6=xs.map some++da A f/\xs.length=l.length/\H6=H5/\
     nB M (xs.map some++da A f) H5 λb H5=>
     if b=true then U (xs.map some++da A f) H5 λy H6=>ys.length<sizeLine/\∃m',m'<n/\W (i+1) m' (ys++[y]) H6
     else ∃m',m'<n/\W (i+1) m' ys H5) v3 r5 (gq x pre (da A f) H5 _ j5 (by
      cases L with
      |none=>exact λhl=>⟨_,rfl,hl,rfl,rd⟩
      |some k0=>exact Vn rd λxs rd hl=>⟨xs,rfl,hl,rfl,rd⟩))
   rw[xA,xP,xw,C6,C7] at Jp;refine aU Jp λ_ s6 ⟨σ6,H6,I6,xs,e6,l_,eH,Jq⟩=>?_;subst e6 eH;have Jr:∀{H7:Hp}{σ7:St}{s7:wn},Inv Xc ([(D,{cls:=.type "list",data:=.seq (List.toArray ay) nn})]++tZ j s5.heap) σ7 H7 s7->P (i+1) s7.heap/\(∀b∈j,H7 b=none)/\s7.heap.get? D=some {cls:=.type "list",data:=.seq (List.toArray ay) nn}/\H7 D=none:=λ{H7 σ7 s7} I7=>by
    refine⟨T.keep _ _ _ q8 λb hb o e=>(I7.pin (b,o)<|zau _<|zau _<|za hb e).1,λb hb=>?_,?_,?_⟩
    ·obtain⟨o,e,d1⟩:=T.obj _ _ q8 b hb;exact(I7.pin (b,o)<|zau _<|zau _<|za hb e).2.1
    ·exact(I7.pin (D,_)<|zau _<|zaQ _ zas).1
    ·exact(I7.pin (D,_)<|zau _<|zaQ _ zas).2.1
   have tests:wpAny (model X.prog X.w) X.A (forIn B true λc r=>if r=true then do let ok <-isTrue c (compEnvC a (cellsFrom (C+1) a.names<|dA X.env.cells a.names []) C X.env) (eval c<|compEnvC a (cellsFrom (C+1) a.names<|dA X.env.cells a.names []) C X.env);pure (ForInStep.yield ok) else pure (ForInStep.yield r))
     (λok s7=>∃H7,Inv Xc ([(D,{cls:=.type "list",data:=.seq (List.toArray ay) nn})]++tZ j s5.heap) (xs.map some++da A f) H7 s7/\
      if ok=true then U (xs.map some++da A f) H7 λy H6=>ys.length<sizeLine/\∃m',m'<n/\W (i+1) m' (ys++[y]) H6
      else ∃m',m'<n/\W (i+1) m' ys H7) (λ_ _=>False) s6:=by
    cases M with
    |none=>
     have C_:B=[]:=ht;subst C_;exact wpAny_tests_nil ⟨_,I6,Jq⟩
    |some t=>
     obtain⟨c,C_,pt⟩:=(show ∃c,B=[c]/\∀(ex:db) (C:wl) (s:wn) (H:Hp),PT (iP X a (l++f.map (·.1)) ex C s H) c t from ht)
     subst C_;have Js:=pt (D::j) C P' H;rw[eX] at Js;have q:=Js _ s6 _ _ _ I6 Jq;rw[xA,xP,xw,C6,C7] at q;exact wpAny_tests_one<|aU q λb s7 ⟨H7,I7,q7⟩=>⟨H7,I7,q7⟩
   refine aU tests λok s7 ⟨H7,I7,q7⟩=>?_;cases ok with
   |false=>
    simp only[zbd,GE] at q7⊢
    obtain⟨m',hm,w7⟩:=q7;obtain⟨t7,f7,d7,n7⟩:=Jr I7;refine⟨m',hm,i+1,xs.map some,ys,ay,nn,H7,I7.tV<|λp hp=>?_,by simpa using l_,t7,f7,hv,hz,w7⟩
    exact I7.pin p<|zau _<|zaQ _ hp
   |true=>
    simp only[GT] at q7⊢
    have q:=he (D::j) C P' H;rw[eX] at q;have q:=q _ s7 _ H7 _ I7 q7;rw[xA,xP,xw,C6,C7] at q;refine aU q λuy s8 ⟨y,H8,I8,r8,bY,m',hm,w8⟩=>?_;obtain⟨t8,f8,d8,n8⟩:=Jr I8;have hl:=hv.length;refine Ix Wp ⟨_,d8,rfl⟩ F.entry_list_append (F.args_list_append_2 _ _) (PySem.list_append D ay.toArray nn uy (by rw[zah];lia)) ⟨d8,?_⟩
    have I9:∀t,Inv Xc [] (xs.map some++da A f) H8 {s8 with heap:=s8.heap.update D (Obj.mapSeq (·.push uy)),toks:=t}:=λt=>
     (I8.tV (X':=[])<|λp hp=>absurd hp (by simp)).turned (it:=D) (t':=t) (λb o hb e=>(LE s8.heap (Obj.mapSeq (·.push uy))<|Fa hb).trans e) n8 (by rw[xL];exact zK) (.inl (by rw[wy];exact zas)) (λx c e=>cF x c e D zas)
      (λp hp=>by rw[Jk] at hp;exact absurd hp (by simp))
    have g9:=PySem.IsL.update d8 (·.push uy);obtain⟨n9,VB⟩:∃n9,(s8.heap.update D (Obj.mapSeq (·.push uy))).get? D=some {cls:=.type "list",data:=.seq (ay++[uy]).toArray n9}:=
     ⟨_,by rw[show(ay++[uy]).toArray=ay.toArray.push uy by simp];exact g9⟩
    refine⟨m',hm,i+1,xs.map some,ys++[y],ay++[uy],n9,H8,(I9 _).tV<|λp hp=>?_,by simpa using l_,?_,f8,hv.append<|.cons r8 .nil,?_,w8⟩
    ·have C8:=zag.mp hp;subst C8;exact⟨VB,n8,by rw[xL];exact zK,sF D zas,λv z=>by cases z⟩
    ·exact T.keep _ _ _ t8 λb hb o e=>(LE s8.heap (Obj.mapSeq (·.push uy))<|Fa<|Jj b hb).trans e
    ·rw[zqA,zbG];lia
 have VC:P 0 X4:=T.keep 0 _ _ st λb _ o e=>k4 b o (k3 b o e);have e4:({w with heap:=X4}:wn)={P' with heap:=X4}:=by rw[<-wx]
 exact codeAny_compStart_list (loop _ e4)<|T.self X.A 0 _ _ _ VC<|loop _ e4
end
section
variable {X:Cx}{c:Scope}{f:ac}{d:eJ}{l j g:Expr}{n:im}{w:Pos}{p:TI}{r:v4}{t:Option TT}{u:TE}
theorem VD{Φ:Cx->Prop}{Ψ:Hp->Prop}(S:l7 X c f d)(hc:∀H,Ψ H->∀Xc:Cx,Xc.A=X.A->Xc.calm=X.calm->Xc.H₀=H->Φ Xc)(hΨ:∀y' σ H s,Inv X y' σ H s->Ψ H)(hi:zD Φ X j g p)(hg:zE Ψ X c f d j r)(ht:zG X c (f++d.map (·.1)) n t)
  (he:∀(ex:db) (C:wl) (s:wn) (H:Hp),PE (iP X c (f++d.map (·.1)) ex C s H) l u) (hs:∀x,foldedSetIterable g X.env x=pure x:=by intro _;rfl):
  PE X (.ListComp l [⟨j,g,n,0⟩] c w) (uf X.K p r d t u):=by
 intro y' s σ H Q I h;rw[eval_ListComp];refine wpAny_comprehension_free (use:=none) rfl hs (S.Jc I) S.kind S.locals<|aU (hi y' s σ H _ I h) λv s1 h1=>aU h1 λqZ s2 h2=>?_;obtain⟨it,fp,tn,J,H2,e,I2,T,vZ,f2,hW⟩:=h2;subst e;refine Jg (Z:=λN' C=>compPost (model X.prog X.w) X.A X.xe none (EP X y' σ Q) N' C) S (hc H2<|hΨ _ _ _ _ I2) (hΨ _ _ _ _ I2) hg ht he I2 T vZ f2 hW ?_;intro D C H' s' m I' ns hn hL h0 nC hp q;refine⟨m,ns,λh' sb=>⟨.ref D,H',?_,rfl,q⟩⟩;exact I'.turned (it:=C) (t':=s'.toks) (λb o hb e=>sb.extBut b o hb e) hn hL (.inr h0) nC hp
theorem VE{Φ:Cx->Prop}{Ψ:Hp->Prop}{i:Nat}{y:Str}{py Jt:Pos}(hN:X.N.Nodup)(ip:X.N[i]?=some y)(hy:Loc X.env.scope y)(VF:swapsWith (.ListComp l [⟨j,g,n,0⟩] c w) (some<|.Name y py) Jt.line X.env=pure true)
  (S:l7 X c f d) (hc:∀H,Ψ H->∀Xc:Cx,Xc.A=X.A->Xc.calm=X.calm->Xc.H₀=H->Φ Xc) (hΨ:∀y' σ H s,Inv X y' σ H s->Ψ H) (hi:zD Φ X j g p) (hg:zE Ψ X c f d j r) (ht:zG X c (f++d.map (·.1)) n t)
  (he:∀(ex:db) (C:wl) (s:wn) (H:Hp),PE (iP X c (f++d.map (·.1)) ex C s H) l u) (hs:∀x,foldedSetIterable g X.env x=pure x:=by intro _;rfl)
  (hf:X.fn y=true\/X.env.scope.names.lookup y=some .local:=by first|exact .inl rfl|exact .inr rfl|assumption):
  PS X (.Assign [.Name y py] (.ListComp l [⟨j,g,n,0⟩] c w) Jt) (lW (uf X.K p r d t u)<|fV i):=by
 intro y' s σ H D I h;rw[exec_Assign_Name_used _ _ _ _ VF];refine AC<|MZ<|AC ?_;show wpAny _ X.A (do let _ <-comprehension (.ListComp l [⟨j,g,n,0⟩] c w) c X.env _ (newList []) false (eval g X.env) (some<|assign (.Name y py) X.env)) _ _ s
 refine AC (Fk (wpAny_comprehension_free (use:=some (assign (.Name y py) X.env)) (Q:=λ_ s'=>SP X y' D .next s') rfl hs (S.Jc I) S.kind S.locals
  (aU (hi y' s σ H _ I h) λv s1 h1=>aU h1 λqZ s2 h2=>?_)) (λ_ s' hq=>Ch (Ch hq)) λ_ _ e=>e)
 obtain⟨it,fp,tn,J,H2,e,I2,T,vZ,f2,hW⟩:=h2;subst e;refine Jg (k:=λx H1=>fV i x σ H1 D.nx) (Z:=λN' C=>compPost (model X.prog X.w) X.A X.xe (some<|assign (.Name y py) X.env) (λ_ s'=>SP X y' D .next s') N' C) S (hc H2<|hΨ _ _ _ _ I2) (hΨ _ _ _ _ I2) hg ht he I2 T vZ f2 hW ?_;intro Da C H' s' m I' ns hn hL h0 nC hp q;show wpAny _ X.A (assign (.Name y py) X.env<|.ref Da) _ _ _;refine wpAny_assign_Name<|Hc I' hN ip hy (v:=.ref Da) rfl (λs4 I4 ⟨a,sb,ha⟩=>?_) hf;have VG:C≠a:=by
  rcases ha with z|z
  ·rw[z];exact hL
  ·exact Fa (nC _ _ z)
 refine⟨m,ns.sameBut sb VG,λh' VH=>⟨_,H',?_,q⟩⟩;exact I4.turned (it:=C) (t':=s4.toks) (λb o hb e=>VH.extBut b o hb e) hn hL (.inr h0) nC hp
theorem VI(S:l7 X c f d)(hc:X.calm=true)(hi:PI X j g p)(hg:zF X c f d j r)(ht:zG X c (f++d.map (·.1)) n t)
  (he:∀(ex:db) (C:wl) (s:wn) (H:Hp),PE (iP X c (f++d.map (·.1)) ex C s H) l u) (hs:∀x,foldedSetIterable g X.env x=pure x:=by intro _;rfl):
  PE X (.ListComp l [⟨j,g,n,0⟩] c w) (uf X.K p r d t u):=
 VD (Φ:=Calm) (Ψ:=λ_=>True) S (λ_ _ Xc _ e _=>e.trans hc) (λ_ _ _ _ _=>trivial) hi.p (λex C s H _=>hg ex C s H) ht he hs
end
section
variable {X:Cx}{c:Scope}{m:eJ}
theorem VJ{env:Env}{x:Str}(h:c.names.lookup x=some .cell):(relabel c env).names.lookup x=some .cell:=(C3 c.names x).trans (by rw[h];rfl)
theorem VL{x:Str}{px:Pos}(hl:Loc c x)(rp:(x::m.map (·.1)).Nodup):zF X c [x] m (.Name x px) none:=by
 intro ex C s H;have VM:Loc (iP X c ([x]++m.map (·.1)) ex C s H).env.scope x:=hl.imp NE VJ;refine⟨fV 0,tX (X:=iP X c ([x]++m.map (·.1)) ex C s H) rp rfl VM<|hl.elim (λhl=>.inr<|NE hl) λhl=>.inl (zqT hl),λv pre φ H' Q hp h=>?_⟩;obtain⟨a,rfl⟩:∃a,pre=[a]:=by
  match pre,hp with
  |[a],_=>exact⟨a,rfl⟩
 exact h rfl
theorem VN{x y:Str}{px py pos:Pos}{k:Nat}(hc:X.calm=true)(hx:c.names.lookup x=some .local)(hy:c.names.lookup y=some .local)(rp:(x::y::m.map (·.1)).Nodup):zF X c [x,y] m (.Tuple [.Name x px,.Name y py] k pos) (some 2):=by
 intro ex C s H;generalize eX:iP X c ([x,y]++m.map (·.1)) ex C s H=Xc;have xN:Xc.N=x::y::m.map (·.1):=by rw[<-eX];rfl
 have xc:Xc.calm=true:=by rw[<-eX];exact hc
 have lx:Xc.env.scope.names.lookup x=some .local:=by rw[<-eX];exact NE hx
 have ly:Xc.env.scope.names.lookup y=some .local:=by rw[<-eX];exact NE hy
 have p1:PG Xc (.Name x px) (fV 0):=tX (by rw[xN];exact rp) (by rw[xN];rfl) (.inl lx) (.inr lx)
 have p2:PG Xc (.Name y py) (fV 1):=tX (by rw[xN];exact rp) (by rw[xN];rfl) (.inl ly) (.inr ly)
 have xK:Xc.K=X.K:=by rw[<-eX];rfl
 refine⟨y8 Xc.K 2<|tY (fV 0)<|tY (fV 1) y7,Hz xc<|vX p1<|vX p2 Cb,λv pre φ H' Q hp h=>?_⟩;obtain⟨a,b,rfl⟩:∃a b,pre=[a,b]:=by
  match pre,hp with
  |[a,b],_=>exact⟨a,b,rfl⟩
 obtain⟨a',xs,rfl,e2,e3,q⟩:=h;obtain⟨v1,v2,rfl⟩:∃v1 v2,xs=[v1,v2]:=by
  match xs,e3 with
  |[v1,v2],_=>exact⟨v1,v2,rfl⟩
 exact⟨a',_,rfl,by rw[xK];exact e2,rfl,v1,_,rfl,v2,_,rfl,rfl,q rfl⟩
theorem bH.imp{f:wv->wv->Sem wv}{r r':R2}(h:bH X f r)(i:∀x y H Q,r' x y H Q->r x y H Q):bH X f r':=λy' s σ H x y v u Q I rx ry q=>h y' s σ H x y v u Q I rx ry (i _ _ _ _ q)
theorem dh.imp{f:wv}{r r':be->Hp->VK->Prop}(h:dh X f r)(i:∀xs H Q,r' xs H Q->r xs H Q):dh X f r':=λy' s σ H xs us Q I rv q=>h y' s σ H xs us Q I rv (i _ _ _ q)
def Ju(K:Frag):R2:=λx y H Q=>match x,y with
 |.int i,.int j=>Q (.int<|i+j) H
 |.str i,.str j=>i.length+j.length<=sizeLine/\Q (.str<|i++j) H
 |.ref l,.ref b=>IJ (.ref l) (.ref b) H Q\/IA K (.ref l) (.ref b) H Q
 |_,_=>False
theorem VO:bH X (binaryOp .Add) (Ju X.K):=by
 refine bH.imp ((Su.or S_).or<|UI.or Ub) λx y H Q h=>?_;cases x<;>cases y<;>first
  |exact False.elim h
  |exact .inl (.inl ⟨_,_,rfl,rfl,h⟩)
  |exact .inl (.inr ⟨_,_,rfl,rfl,h⟩)
  |exact .inr h
def me(C:Int->Int->Prop)(g:Int->Int->V):R2:=λx y H Q=>match x,y with
 |.int i,.int j=>C i j/\Q (g i j) H
 |_,_=>False
theorem Dc{C:Int->Int->Prop}{g:Int->Int->V}(x y:V)(H:Hp)(Q:VK)(h:me C g x y H Q):rI C g x y H Q:=by
 cases x<;>cases y<;>first
  |exact False.elim h
  |exact⟨_,_,rfl,rfl,h⟩
theorem wz{g:Int->Int->V}(x y:V)(H:Hp)(Q:VK)(h:me (λ_ _=>True) g x y H Q):m7 g x y H Q:=by
 cases x<;>cases y<;>first
  |exact False.elim h
  |exact⟨_,_,rfl,rfl,h.2⟩
def Jv:R2:=λx y H Q=>match x,y with
 |.int i,.int j=>zf i j/\Q (.int<|i*j) H
 |.ref l,.int k=>IL (.ref l) (.int k) H Q
 |_,_=>False
theorem VP:bH X (binaryOp .Mult) Jv:=by
 refine bH.imp (Sx.or UJ) λx y H Q h=>?_;cases x<;>cases y<;>first
  |exact False.elim h
  |exact .inl ⟨_,_,rfl,rfl,h⟩
  |exact .inr h
def jd(K:Frag):Operator->R2
 |.Add=>Ju K
 |.Sub=>me (λ_ _=>True) λi j=>.int (i - j)
 |.Mult=>Jv
 |.FloorDiv=>me j3 λi j=>.int (i / j)
 |.Mod=>me (λ_ j=>0<j) λi j=>.int (i % j)
 |.Pow=>me Ci λi j=>.int (i ^ j.toNat)
 |_=>λ_ _ _ _=>False
theorem VQ(op:Operator):bH X (binaryOp op) (jd X.K op):=by
 cases op<;>first
  |exact VO
  |exact bH.imp Sw wz
  |exact VP
  |exact bH.imp Sy Dc
  |exact bH.imp Sz Dc
  |exact bH.imp SD Dc
  |exact λ_ _ _ _ _ _ _ _ _ _ _ _ h=>False.elim h
mutual
def Is(H:Hp):zv->V->Prop
 |.none,v=>v=.av
 |.bool b,v=>v=.bl b
 |.int i,v=>v=.int i
 |.str x,v=>v=.str x
 |.list xs,v=>∃a vs,v=.ref a/\H a=some (.lst vs)/\IsL H xs vs
 |.tuple xs,v=>∃a vs,v=.ref a/\H a=some (.tup vs)/\IsL H xs vs
 |.dict _,_=>False
def IsL(H:Hp):List zv->be->Prop
 |[],vs=>vs=[]
 |d::ds,vs=>∃v r,vs=v::r/\Is H d v/\IsL H ds r
end
mutual
theorem Is.reads{y':ad}{σ:St}{H:Hp}{s:wn}(I:Inv X y' σ H s):∀(d:zv) (v:V) (u:wv),Is H d v->RelV v u->∃as,Reads s.heap u d as
 |.none,v,u,h,r=>by rw[show v=.av from h] at r;rw[show u=.none from r];exact⟨_,.none⟩
 |.bool b,v,u,h,r=>by rw[show v=.bl b from h] at r;rw[show u=.bool b from r];exact⟨_,.bool b⟩
 |.int i,v,u,h,r=>by rw[show v=.int i from h] at r;obtain⟨t,e⟩:=r;rw[e];exact⟨_,.int i t⟩
 |.str x,v,u,h,r=>by rw[show v=.str x from h] at r;obtain⟨t,e⟩:=r;rw[e];exact⟨_,.str x t⟩
 |.list xs,v,u,h,r=>by
  obtain⟨a,vs,e,hH,hl⟩:=(show ∃a vs,v=.ref a/\H a=some (.lst vs)/\IsL H xs vs by simpa only[Is] using h)
  rw[e] at r;rw[show u=.ref a from r]
  obtain⟨_,ay,n,hv,hg⟩:=I.aF a _ hH;obtain⟨as,q⟩:=IsL.reads I xs vs ay hl hv;exact⟨_,.list hg rfl rfl (by simpa using q)⟩
 |.tuple xs,v,u,h,r=>by
  obtain⟨a,vs,e,hH,hl⟩:=(show ∃a vs,v=.ref a/\H a=some (.tup vs)/\IsL H xs vs by simpa only[Is] using h)
  rw[e] at r;rw[show u=.ref a from r]
  obtain⟨_,ay,hv,o,hg,hc,n,hd⟩:=I.aF a _ hH;obtain⟨as,q⟩:=IsL.reads I xs vs ay hl hv;exact⟨_,.tuple hg hc hd (by simpa using q)⟩
 |.dict _,v,u,h,r=>by simp only[Is] at h
theorem IsL.reads{y':ad}{σ:St}{H:Hp}{s:wn}(I:Inv X y' σ H s):∀(ds:List zv) (vs:be) (us:ce),IsL H ds vs->Vals vs us->∃as,ReadsAll s.heap us ds as
 |[],vs,us,h,r=>by
  rw[show vs=[] from h] at r
  cases r;exact⟨_,.nil⟩
 |d::ds,vs,us,h,r=>by
  obtain⟨v,q,e,h1,h2⟩:=(show ∃v r,vs=v::r/\Is H d v/\IsL H ds r by simpa only[IsL] using h)
  rw[e] at r;cases r with
  |cons r1 r2=>
   obtain⟨as,q1⟩:=Is.reads I d v _ h1 r1;obtain⟨bs,q2⟩:=IsL.reads I ds q _ h2 r2;exact⟨_,.cons q1 q2⟩
end
def VR:V->xz
 |.gI _=>false
 |.gZ _=>false
 |_=>true
def VS:R2:=λx y H Q=>∃a b xs,x=.ref a/\y=.ref b/\H a=some (.lst xs)/\H b=some (.lst xs)/\xs.all VR=true/\Q (.bl true) H
def rq(neg:xz):R2:=λx y H Q=>match q9 x y with
 |true=>Q (.bl<|neg ^^ decide (x=y)) H
 |false=>∃d e,Is H d x/\Is H e y/\SeqAt.shaped d=true/\SeqAt.shaped e=true/\Q (.bl<|neg ^^ PyData.eqv d e) H
def VT:R2:=λx y H Q=>rq false x y H Q\/VS x y H Q
theorem VU(hu:X.A.units+64<cLine):bH X (compareOp .Eq) (rq false):=by
 intro y' s σ H x y v u Q I rx ry h;unfold rq at h;by_cases hs:q9 x y=true
 ·rw[hs] at h
  simp only[zaG] at h
  exact SJ y' s σ H x y v u Q I rx ry ⟨hs,h⟩
 ·rw[show q9 x y=false by simpa using hs] at h
  obtain⟨d,e,h1,h2,h3,h4,q⟩:=h;rw[zaG] at q;obtain⟨as,r1⟩:=Is.reads I d x v h1 rx;obtain⟨bs,r2⟩:=Is.reads I e y u h2 ry;exact eq_dataH r1 r2 h3 h4 hu ⟨.bl _,H,I,rfl,q⟩
theorem VV(hu:X.A.units+64<cLine):bH X (compareOp .NotEq) (rq true):=by
 intro y' s σ H x y v u Q I rx ry h;unfold rq at h;by_cases hs:q9 x y=true
 ·rw[hs] at h
  simp only[zaE] at h
  exact SK y' s σ H x y v u Q I rx ry ⟨hs,h⟩
 ·rw[show q9 x y=false by simpa using hs] at h
  obtain⟨d,e,h1,h2,h3,h4,q⟩:=h;rw[zaE] at q;obtain⟨as,r1⟩:=Is.reads I d x v h1 rx;obtain⟨bs,r2⟩:=Is.reads I e y u h2 ry;exact ne_dataH r1 r2 h3 h4 hu ⟨.bl _,H,I,rfl,q⟩
def ai7(K:Frag)(H:Hp)(a:wl):Prop:=(∃xs,aE K H a xs)\/(∃xs,aP K H a xs)\/∃az,H a=some (.dK az)
def zL(K:Frag)(neg:xz):R2:=λx y H Q=>match y with
 |.str j=>∃i,x=.str i/\Q (.bl (if neg then !(!(Builtin.Str.occurrences j i 0 j.length 1).isEmpty) else !(Builtin.Str.occurrences j i 0 j.length 1).isEmpty)) H
 |.ref p=>match x with
  |.ref _=>False
  |x=>Cz K neg x (.ref p) H Q
 |_=>False
theorem VW(hu:X.A.units+64<cLine):bH X (compareOp .In) (zL X.K false):=by
 intro y' s σ H x y v u Q I rx ry h;cases y with
 |str j=>
  obtain⟨i,e,q⟩:=h;exact SR y' s σ H x _ v u Q I rx ry ⟨i,j,e,rfl,q⟩
 |ref p=>
  cases x with
  |ref a=>exact False.elim h
  |_=>exact Uo y' s σ H _ _ v u Q I rx ry h
 |_=>exact False.elim h
theorem VX(hu:X.A.units+64<cLine):bH X (compareOp .NotIn) (zL X.K true):=by
 intro y' s σ H x y v u Q I rx ry h;cases y with
 |str j=>
  obtain⟨i,e,q⟩:=h;exact SV y' s σ H x _ v u Q I rx ry ⟨i,j,e,rfl,q⟩
 |ref p=>
  cases x with
  |ref a=>exact False.elim h
  |_=>exact Up y' s σ H _ _ v u Q I rx ry h
 |_=>exact False.elim h
theorem VY{M:Model}{A:wP}{E:aW}{s:wn}{Q:aW}{v:wv}{d:xz}(hv:∀id,v≠ .builtin id)(h:Q (.bool<|v==.bool d) s):wpAny M A (compareOp .Is v<|.bool d) Q E s:=by
 cases v<;>first|exact Ch h|exact absurd rfl (hv _)
theorem VZ{M:Model}{A:wP}{E:aW}{s:wn}{Q:aW}{v:wv}{d:xz}(hv:∀id,v≠ .builtin id)(h:Q (.bool<|!(v==.bool d)) s):wpAny M A (compareOp .IsNot v<|.bool d) Q E s:=by
 cases v<;>first|exact Ch h|exact absurd rfl (hv _)
def Jw:R2:=λx y H Q=>match y with
 |.bl b=>Q (.bl<|decide<|x=.bl b) H
 |_=>y=.av/\Q (.bl<|decide<|x=.av) H
def Jx:R2:=λx y H Q=>match y with
 |.bl b=>Q (.bl<|!decide (x=.bl b)) H
 |_=>y=.av/\Q (.bl<|!decide (x=.av)) H
theorem V0:bH X (compareOp .Is) Jw:=by
 intro y' s σ H x y v u Q I rx ry h;cases y with
 |bl b=>
  cases ry;have nb:∀id,v≠ .builtin id:=λid z=>by
   subst z;cases x<;>first
    | (obtain⟨t,e⟩:=rx;cases e;done)
    | (cases rx;done)
  refine VY nb<|cO I (show Q (.bl<|decide<|x=.bl b) H from h) ?_
  cases x<;>first
   | (cases rx;rfl)
   | (obtain⟨t,rfl⟩:=rx;rfl)
   | (cases rx;rename_i a;cases a<;>cases b<;>rfl)
 |_=>exact SS y' s σ H x _ v u Q I rx ry h
theorem V1:bH X (compareOp .IsNot) Jx:=by
 intro y' s σ H x y v u Q I rx ry h;cases y with
 |bl b=>
  cases ry;have nb:∀id,v≠ .builtin id:=λid z=>by
   subst z;cases x<;>first
    | (obtain⟨t,e⟩:=rx;cases e;done)
    | (cases rx;done)
  refine VZ nb<|cO I (show Q (.bl<|!decide (x=.bl b)) H from h) ?_
  cases x<;>first
   | (cases rx;rfl)
   | (obtain⟨t,rfl⟩:=rx;rfl)
   | (cases rx;rename_i a;cases a<;>cases b<;>rfl)
 |_=>exact SU y' s σ H x _ v u Q I rx ry h
def dB(K:Frag):CmpOp->R2
 |.Eq=>rq false
 |.NotEq=>rq true
 |.Lt=>me (λ_ _=>True) λi j=>.bl (decide<|i<j)
 |.LtE=>me (λ_ _=>True) λi j=>.bl (decide<|i<=j)
 |.Gt=>me (λ_ _=>True) λi j=>.bl (decide<|j<i)
 |.GtE=>me (λ_ _=>True) λi j=>.bl (decide<|j<=i)
 |.In=>zL K false
 |.NotIn=>zL K true
 |.Is=>Jw
 |.IsNot=>Jx
theorem zM(hu:X.A.units+64<cLine)(op:CmpOp):bH X (compareOp op) (dB X.K op):=by
 cases op with
 |Eq=>exact VU hu
 |NotEq=>exact VV hu
 |Lt=>exact bH.imp SM wz
 |LtE=>exact bH.imp SN wz
 |Gt=>exact bH.imp SO wz
 |GtE=>exact bH.imp SQ wz
 |In=>exact VW hu
 |NotIn=>exact VX hu
 |Is=>exact V0
 |IsNot=>exact V1
inductive Ty where|int|str|bool|list|tuple|dict
 deriving DecidableEq
def Ty.nm:Ty->zn
 |.int=> "int" |.str=> "str" |.bool=> "bool" |.list=> "list" |.tuple=> "tuple" |.dict=> "dict"
def cy(T:Ty)(x:V)(H:Hp)(Q:xz->Prop):Prop:=match x with
 |.av=>Q false
 |.bl _=>Q (T==.bool ||T==.int)
 |.int _=>Q (T==.int)
 |.str _=>Q (T==.str)
 |.ref a=>match H a with
  |some (.lst _)=>Q (T==.list)
  |some (.bW _<|.lst _)=>Q (T==.list)
  |some (.tup _)=>Q (T==.tuple)
  |some (.dK _)=>Q (T==.dict)
  |some (.dT _)=>Q (T==.dict)
  |_=>False
 |_=>False
theorem pd(K:Frag)(S T:Ty):kitOne K (.type S.nm) (.type T.nm)=some (S==T ||(S==.bool && T==.int)):=by
 cases S<;>cases T<;>rfl
theorem V2(K:Frag)(T:Ty):kitOne K (.type "NoneType") (.type T.nm)=some false:=by
 cases T<;>rfl
theorem V3(hc:X.calm=true):dh X (.builtin "sum") (λxs H Q=>∃(p:wl) (ns:pr),xs=[.ref p]/\aE X.K H p (ns.map V.int)/\Q (.int ns.sum) H):=by
 intro y' s σ H xs us Q I r h;obtain⟨p,ns,rfl,hq,q⟩:=h;obtain⟨u,rfl,ru⟩:=vals1 r;cases ru;obtain⟨ay,rv,pl,hz⟩:=I.list hq;have hi:=intsAre_of rv;obtain⟨xs,hx⟩:=hi.allInts.items;have wA:s.heap.IsList p (intItems xs):=hx ▸ pl.isList;refine sum_intListG (I.ok.hd hc) wA λh' tk t' hk=>?_;have e1:ns=xs.toList.map (·.1):=by
  rw[<-nums_intItems,<-hx];exact(show numsOf ay.toArray.toList=ns from hi.numsOf).symm
 have e2:preSum (numAt xs) xs.size=ns.sum:=by
  rw[preSum_eq,zaM (by simp),e1]
 rw[e2];exact⟨.int ns.sum,H,I.kept (t':=tk) hk,⟨t',rfl⟩,q⟩
theorem Jy:∀{ts:ac}{us:ce},Vals (ts.map V.str) us->∃l:List (Str×Tok),us=strValues l/\l.map (·.1)=ts
 |[],_,.nil=>⟨[],rfl,rfl⟩
 |x::ts,_,.cons ⟨t,e⟩ r=>by
  obtain⟨l,e1,e2⟩:=Jy r;subst e e1;exact⟨(x,t)::l,rfl,by simp[e2]⟩
def rJoin(K:Frag):V->be->Hp->VK->Prop:=λx vs H Q=>∃(sep:Str) (p:wl) (ts:ac),x=.str sep/\vs=[.ref p]/\aE K H p (ts.map V.str)/\JoinOk sep ts=true/\Q (.str<|Txt.join sep ts) H
theorem V4:rg X "str.join" (rJoin X.K):=by
 intro y' s σ H x vs v us Q I rx rv h;obtain⟨sep,p,ts,rfl,rfl,hq,hj,q⟩:=h;obtain⟨t,rfl⟩:=rx;obtain⟨u,rfl,ru⟩:=vals1 rv;cases ru;obtain⟨ay,rv,pl,hz⟩:=I.list hq;obtain⟨l,rfl,e2⟩:=Jy rv;exact SC.join pl.isList e2 hj λt' k=>⟨.str _,H,I.tok k,⟨t',rfl⟩,q⟩
def V_:V->be->Hp->VK->Prop:=λx vs H Q=>∃z y,x=.str z/\vs=[.str y]/\z.length<=sizeLine/\Q (.str<|Txt.lstripChars z y) H
theorem Wa:rg X "str.lstrip" V_:=by
 intro y' s σ H x vs v us Q I rx rv h;obtain⟨z,y,rfl,rfl,hz,q⟩:=h;obtain⟨t,rfl⟩:=rx;obtain⟨u,rfl,⟨t2,rfl⟩⟩:=vals1 rv;refine call_gives F.slot_str_lstrip (Pi _ _ _) F.entry_str_lstrip (F.args_str_lstrip_2 _ _) (gives_str_lstrip_chars z y t t2)<|post_val_or_made (λ_=>fits_stripped _ _ _ hz) λt' k=>?_;exact⟨.str _,H,I.tok k,⟨t',rfl⟩,q⟩
def Wb:V->be->Hp->VK->Prop:=λx vs H Q=>∃z y i,x=.str z/\vs=[.str y,.int i]/\Q (.bl<|decide (fromIndex z.length i+y.length<=z.length) && Builtin.Str.subAt z y (fromIndex z.length i)) H
theorem Wc:rg X "str.startswith" Wb:=by
 intro y' s σ H x vs v us Q I rx rv h;obtain⟨z,y,i,rfl,rfl,q⟩:=h;obtain⟨t,rfl⟩:=rx;obtain⟨u,w,rfl,⟨t2,rfl⟩,⟨t3,rfl⟩⟩:=vals2 rv;exact call_gives F.slot_str_startswith (Pi _ _ _) F.entry_str_startswith (F.args_str_startswith_3 _ _ _) (gives_str_startswith_from z y i t t2 t3) ⟨.bl _,H,I,rfl,q⟩
def mf{α:Type}(xs:List α)(lo hi:io):List α:=(xs.drop<|HT.bu xs.length 0 lo).take (HT.bu xs.length xs.length hi - HT.bu xs.length 0 lo)
def j7(z:Str)(lo hi:io):Str:=⟨(mf z.cps.toList lo hi).toArray⟩
theorem Wd(z:Str)(lo hi:io):((Builtin.Str.strSliceIndices lo hi 1 z.length).filterMap (z.cps[·]?))=mf z.cps.toList lo hi:=by
 obtain⟨h1,h2,h3⟩:=Cw lo hi z.length;have e0:Builtin.Str.strSliceIndices lo hi 1 z.length=sliceRange (sliceBounds lo hi none z.length).1 (sliceBounds lo hi none z.length).2.1 (sliceBounds lo hi none z.length).2.2:=rfl;have hz:z.cps.toList.length=z.length:=by simp[Str.length]
 rw[e0,h1,h2,h3,sliceRange_one,pick_run];unfold mf;rw[hz]
def zN(K:Frag)(neg:xz):R2:=λx y H Q=>∃p xs d es,y=.ref p/\aE K H p xs/\Is H d x/\IsL H es xs/\SeqAt.shaped d=true/\d.depth<=60/\(∀e∈es,SeqAt.shaped e=true)/\Q (.bl<|neg ^^ es.any λe=>PyData.eqv e d) H
open Classical in
end
def nE:HO:=.ext λ_=>True
structure zO (ob:Obj) (cls:wv) (vs:j_):Prop where
 cls:ob.cls=cls
 data:ob.data=.fields vs
 We:vs[2]?=some .none
 dict:ob.dict=none
def ExcAt(H:Hp)(ea D:wl):Prop:= ∃ob vs,H ea=some (.bW ob nE)/\zO ob (.ref D) vs
structure ug (K:Frag) (D:wl):Prop where
 wB:PySem.W.findIn K (.ref D) "__getattribute__"=some (some<|.builtin "BaseException.__getattribute__")
 wC:PySem.W.findIn K (.ref D) "__getattr__"=some none
 hk:(PySem.W.clsIn K D).isSome=true
 ha:PySem.W.findIn K (.ref D) "__class__"=some (some<|.builtin "object.__class__")
 hn:PySem.W.specialIn K (.builtin "object.__class__") "__get__"=some (some<|.builtin "getset_descriptor.__get__")
 oW:PySem.W.takesIn K (.builtin "object.__class__")=some true
 hm:PySem.W.mroIn K D (.type "object")=some true
 hb:PySem.W.mroIn K D (.type "BaseException")=some true
def cV:V->wv
 |.ref a=>.ref a
 |.ty n=>.type n
 |_=>.none
def mh(K:Frag):be->Hp->VK->Prop
 |[.ref ea,c],H,Q=>∃D b,ExcAt H ea D/\ug K D/\((∃C,c=.ref C)\/∃n,c=.ty n)/\kitOne K (.ref D) (cV c)=some b/\Q (.bl b) H
 |_,_,_=>False
def Jz(sp:Sp)(hv:lm)(t:TA):TE:=λσ H Q=>t σ H λvs H1=>(∃ea D,hv=some ea/\ExcAt H1 ea D)/\sp vs H1 Q E0
def Dd(C:wl)(E:XK)(t:TA):TS:=λ_ σ H=>t σ H λvs H1=>vs.length<=sizeLine/\E (.ref C) none H1
def De(K:Frag)(C:wl)(i n:Nat)(th:wl->TS)(D:Ends):XK:=λcls _ H'=>exmOne K cls (.ref C)=some true/\
 ∀(ea:wl) (ob:Obj) (vs:j_) (K':St),H' ea=none->K'.length=n->zO ob cls vs->th ea {nx:=λ_ _=>False,rt:=D.rt} (K'.set i<|some<|.ref ea) (upd H' ea<|.bW ob nE)
def pe(K:Frag)(C:wl)(i n:Nat)(tb:XK->TS)(th:wl->TS):TS:=λD σ H=>tb (De K C i n th D) {nx:=D.nx,rt:=D.rt} σ H
def Wf(K:Frag)(C:wl)(i:Nat)(th:wl->TS)(D:Ends)(σ:St):XK:=λcls _ H'=>exmOne K cls (.ref C)=some true/\
 ∀(ea:wl) (ob:Obj) (vs:j_),H' ea=none->zO ob cls vs->th ea {nx:=λ_ _=>False,rt:=D.rt} (σ.set i<|some<|.ref ea) (upd H' ea<|.bW ob nE)
def Wg(K:Frag)(C:wl)(i k:Nat)(sp:Sp)(ta:TA)(th:wl->TS):TS:=λD σ H=>ta σ H λvs H1=>sp vs H1 (λv H2=>D.nx (σ.set k<|some v) H2) (Wf K C i th D σ)
inductive nF where|len|min|max|sum|int|list|tuple|abs
 deriving DecidableEq
inductive je where|append|pop|extend|join|lstrip|starts|reverse|clear|index|find|count|JA|Df
 deriving DecidableEq
inductive IK where|list|tup|jt|zP|zip|Wh|txt|Wi|Wj
 deriving DecidableEq
inductive RE where
 |v (i:Nat)|c (x:V)|g (j:Nat)
 |bin (op:Operator) (a b:RE)|neg (a:RE)
 |cmp (op:CmpOp) (a b:RE)|wD (op g7:CmpOp) (a b d:RE)|JB (op g7 JC:CmpOp) (a b d f:RE)
 |and (as:List RE)|or (as:List RE)|not (a:RE)|jD (t a b:RE)
 |call (j:Nat) (as:List RE)|blt (b:nF) (as:List RE)|iQ (T:Ty) (a:RE)
 |cG (m:je) (o:RE) (as:List RE)
 |ix (a b:RE)|sl (a:RE) (lo hi:Option RE)
 |tup (as:List RE)|lst (as:List RE)
 |comp (tk:v4) (fv:eJ) (k:IK) (ay:List RE) (cond:Option RE) (elt:RE)
 |dR (a c:RE)|mi (j:Nat) (a:RE)|rz|same (a b:RE)
 |Wk|Wl (a b:RE)|wF (a b:RE)|wG (a b:RE)|Wm (o a b:RE)|inD (a b:RE)|JD (a b:RE)
 |xt (T:Frag->TA->TE) (as:List RE)|xm (T:Frag->TE->TA->TE) (o:RE) (as:List RE)
 |fld (o:RE) (f:Str)|aG (j:Nat) (m:Str) (o:RE) (as:List RE)|make (j:Nat) (as:List RE)
abbrev jp:=List RE
structure aS where
 K:Frag
 fs:Nat->Sp
 gv:Nat->V
 E:XK
 sd:wl->ii->Prop
 ms:Nat->wl×Sp
 kt:Nat->wl×Sp
 ex:Nat->wl
 hs:Nat->Sp
 hv:lm
abbrev aS.calm(Γ:aS):aS:={Γ with E:=E0}
inductive RS where
 |asg (i:Nat) (e:RE)|zQ (i:Nat) (e:RE)|set (o ix e:RE)
 |drop (e:RE)|ret (e:RE)|Wn
 |ite (c:RE) (t e:List RS)
 |nG (i:Nat) (k:IK) (ay:jp) (body:List RS)
 |zR (is:bn) (k:IK) (ay:jp) (body:List RS)
 |rA (c:RE) (body:List RS)
 |pass|brk|cont|never
 |Wo (o lo hi e:RE)|cH (o:RE) (f:Str) (e:RE)
 |zS (is:bn) (e:RE)|dput (o i e:RE)|ff (j:Nat) (as:jp)|kS (n i j:Nat) (body su:List RS)|Wq (k i j f:Nat) (as:jp) (su:List RS)
 |xs (T:aS->TS)
abbrev ci:=List RS
def j8(K:Frag)(x:V)(H:Hp)(Q:xz->Prop):Prop:=match x with
 |.av=>Q false
 |.bl b=>Q b
 |.int i=>Q (i !=0)
 |.str y=>y.length<=sizeLine/\Q ((y.length:Int) !=0)
 |.ref p=>(∃xs,aE K H p xs/\Q (!xs.isEmpty))\/(∃xs,aP K H p xs/\Q (!xs.isEmpty))\/∃az,H p=some (.dK az)/\Q (!az.isEmpty)
 |_=>False
theorem JE{K:Frag}{x:V}{H:Hp}{Q:xz->Prop}(h:j8 K x H Q):∃k,HW K x H k/\Q k:=by
 cases x with
 |av=>exact⟨_,rfl,h⟩
 |bl b=>exact⟨_,rfl,h⟩
 |int i=>exact⟨_,rfl,h⟩
 |str y=>exact⟨_,⟨h.1,rfl⟩,h.2⟩
 |ref p=>
  rcases h with⟨xs,h1,h2⟩|⟨xs,h1,h2⟩|⟨xs,h1,h2⟩
  ·exact⟨_,.inl ⟨xs,h1,rfl⟩,h2⟩
  ·exact⟨_,.inr<|.inl ⟨xs,h1,rfl⟩,h2⟩
  ·exact⟨_,.inr<|.inr ⟨xs,h1,rfl⟩,h2⟩
 |_=>exact False.elim h
def gr(K:Frag)(t:TE):TT:=λσ H Q=>t σ H λx H1=>j8 K x H1 λb=>Q b H1
def Dg(K:Frag)(t:TE):TE:=λσ H Q=>t σ H λx H1=>j8 K x H1 λb=>Q (.bl<|!b) H1
def JF:V->Hp->VK->Prop:=λx H Q=>match x with|.int i=>Q (.int<|-i) H|_=>False
def ub(K:Frag)(x:V)(H:Hp)(Q:Nat->Prop):Prop:=match x with
 |.str y=>y.length<=sizeLine/\Q y.length
 |.ref p=>(∃xs,aE K H p xs/\Q xs.length)\/∃xs,aP K H p xs/\Q xs.length
 |_=>False
def signs(x:Str):be:=x.cps.toList.map λc=>V.str ⟨#[c]⟩
def JG:TE:=λ_ H Q=>∀p,H p=none->Q (.ref p) (upd H p<|.dK [])
def kT(K:Frag):nF->be->Hp->VK->Prop
 |.len,[x],H,Q=>ub K x H λn=>Q (.int n) H
 |.min,[.int i,.int j],H,Q=>Q (.int (if j<i then j else i)) H
 |.max,[.int i,.int j],H,Q=>Q (.int (if j>i then j else i)) H
 |.min,[.ref p],H,Q=>∃ns:pr,aE K H p (ns.map V.int)/\ns≠ []/\∀m:Int,m∈ns->(∀n∈ns,m<=n)->Q (.int m) H
 |.max,[.ref p],H,Q=>∃ns:pr,aE K H p (ns.map V.int)/\ns≠ []/\∀m:Int,m∈ns->(∀n∈ns,n<=m)->Q (.int m) H
 |.sum,[.ref p],H,Q=>∃ns:pr,aE K H p (ns.map V.int)/\Q (.int ns.sum) H
 |.int,[.int i],H,Q=>Q (.int i) H
 |.int,[.bl k],H,Q=>Q (.int (if k then 1 else 0)) H
 |.list,[.ref p],H,Q=>∃ys,(aE K H p ys\/aP K H p ys)/\∀l,H l=none->Q (.ref l) (upd H l<|.lst ys)
 |.list,[.str x],H,Q=>x.length<=sizeLine/\∀l,H l=none->Q (.ref l) (upd H l<|.lst<|signs x)
 |_,_,_,_=>False
def pf(T:Ty):be->Hp->VK->Prop
 |[x,.ty n],H,Q=>n=T.nm/\cy T x H λb=>Q (.bl b) H
 |_,_,_=>False
def Dh(K:Frag):je->V->be->Hp->VK->Prop
 |.append,.ref l,[y],H,Q=>∃xs,H l=some (.lst xs)/\xs.length<sizeLine/\Q .av (upd H l<|.lst<|xs++[y])
 |.pop,.ref l,[],H,Q=>∃xs y,H l=some (.lst xs)/\xs[xs.length - 1]?=some y/\Q y (upd H l<|.lst xs.dropLast)
 |.extend,.ref l,[.ref b],H,Q=>∃xs zs,H l=some (.lst xs)/\H b=some (.lst zs)/\xs.length+zs.length<=sizeLine/\Q .av (upd H l<|.lst<|xs++zs)
 |.join,.str sep,[.ref p],H,Q=>∃ts:ac,aE K H p (ts.map V.str)/\JoinOk sep ts=true/\Q (.str<|Txt.join sep ts) H
 |.lstrip,.str z,[.str y],H,Q=>z.length<=sizeLine/\Q (.str<|Txt.lstripChars z y) H
 |.starts,.str z,[.str y,.int i],H,Q=>Q (.bl<|decide (fromIndex z.length i+y.length<=z.length) && Builtin.Str.subAt z y (fromIndex z.length i)) H
 |.clear,.ref l,[],H,Q=>∃xs,H l=some (.lst xs)/\Q .av (upd H l<|.lst [])
 |.Df,.ref l,[y],H,Q=>∃xs,aE K H l xs/\jc y=true/\xs.all jc=true/\g_ y xs=true/\Q (.int (xs.findIdx (λz=>iO z y):Nat)) H
 |_,_,_,_,_=>False
def zT:je->zn
 |.join|.lstrip|.starts|.find|.count=> "str"
 |_=> "list"
def uh(K:Frag)(m:je)(to:TE)(t:TA):TE:=λσ H Q=>to σ H λx H1=>wg K (zT m) x H1/\t σ H1 λxs H2=>Dh K m x xs H2 Q
def ui(K:Frag):V->io->io->Hp->VK->Prop:=λx lo hi H Q=>match x with
 |.str z=>z.length<=sizeLine/\Q (.str<|j7 z lo hi) H
 |.ref a=>(∃xs,aE K H a xs/\∀p,H p=none->Q (.ref p) (upd H p<|.lst<|jb xs lo hi))\/
  (∃xs,aP K H a xs/\ ¬(HT.bu xs.length 0 lo=0/\HT.bu xs.length xs.length hi=xs.length)/\∀p,H p=none->Q (.ref p) (upd H p<|.tup<|jb xs lo hi))
 |_=>False
def rB(az:ii)(k:Key):sK:=(az.find? λkv=>decide (kv.1=k)).map (·.2)
def JH(sd:wl->ii->Prop):R2:=λx y H Q=>∃p az k v,x=.ref p/\y=kV k/\sd p az/\rB az k=some v/\Q v H
def rC(K:Frag)(sd:wl->ii->Prop):R2:=λx y H Q=>ID K x y H Q\/IE K x y H Q\/IF x y H Q\/JH sd x y H Q
def Wr(r r' r2:R2)(ta tb tc td:TE):TT:=λσ H Q=>ta σ H λx H1=>tb σ H1 λy H2=>r x y H2 λz H3=>∃k,z=.bl k/\
 (if k=true then tc σ H3 λw H4=>r' y w H4 λz2 H5=>∃k2,z2=.bl k2/\(if k2=true then td σ H5 λu H6=>r2 w u H6 λz3 H7=>∃k3,z3=.bl k3/\Q k3 H7 else Q false H5) else Q false H3)
def Ws(K:Frag)(a b:wl):It:=
  ⟨λi H=>∃xs ys,aE K H a xs/\aE K H b ys/\i<xs.length/\i<ys.length,
   λi H x H'=>∃T,H T=none/\x=.ref T/\∀xs ys u v,aE K H a xs->aE K H b ys->xs[i]?=some u->ys[i]?=some v->H'=upd H T (.tup [u,v]),
   λi H=>∃xs ys,aE K H a xs/\aE K H b ys/\i=min xs.length ys.length⟩
def Wt(K:Frag)(a:wl):It:=
  ⟨λi H=>∃xs,aE K H a xs/\i<xs.length,
   λi H x H'=>∃T,H T=none/\x=.ref T/\∀xs u,aE K H a xs->xs[i]?=some u->H'=upd H T (.tup [.int (i:Nat),u]),
   λi H=>∃xs,aE K H a xs/\i=xs.length⟩
def Wu(K:Frag)(ta:TA):TI:=λσ H R=>ta σ H λvs H1=>∃a,vs=[.ref a]/\(∃xs,aE K H1 a xs)/\R (Wt K a) H1
def Wv(K:Frag)(ta:TA):TI:=λσ H R=>ta σ H λvs H1=>∃a b,vs=[.ref a,.ref b]/\(∃xs,aE K H1 a xs)/\(∃ys,aE K H1 b ys)/\R (Ws K a b) H1
def Ww(K:Frag)(a b:wl):It:=
  ⟨λi H=>∃xs ys,aP K H a xs/\aP K H b ys/\i<xs.length/\i<ys.length,
   λi H x H'=>∃T,H T=none/\x=.ref T/\∀xs ys u v,aP K H a xs->aP K H b ys->xs[i]?=some u->ys[i]?=some v->H'=upd H T (.tup [u,v]),
   λi H=>∃xs ys,aP K H a xs/\aP K H b ys/\i=min xs.length ys.length⟩
def Wx(K:Frag)(ta:TA):TI:=λσ H R=>ta σ H λvs H1=>∃a b,vs=[.ref a,.ref b]/\(∃xs,aP K H1 a xs)/\(∃ys,aP K H1 b ys)/\R (Ww K a b) H1
def Wy(z:Str):It:=⟨λi _=>i<z.length,λi H x H'=>H'=H/\∃c,z.cps[i]?=some c/\x=.str ⟨#[c]⟩,λi _=>i=z.length⟩
def Wz(ta:TE):TI:=λσ H R=>ta σ H λx H1=>∃z,x=.str z/\R (Wy z) H1
def WA(lo c:Int)(n:Nat):It:=⟨λi _=>i<n,λi H x H'=>H'=H/\x=.int (lo+i*c),λi _=>n<=i⟩
def WB(ta:TA):TI:=λσ H R=>ta σ H λvs H1=>∃(i j c:Int) (n:Nat),vs=[.int i,.int j,.int c]/\c≠0/\Builtin.Range.small i j c=true/\Builtin.divisionGoesByPylong (j - i) c=false/\Builtin.Range.rangeSize i j c=n/\R (WA i c n) H1
mutual
def aj(Γ:aS):RE->TE
 |.v i=>B9 i
 |.c x=>tC x
 |.g j=>tC (Γ.gv j)
 |.bin op a b=>gk (jd Γ.K op) (aj Γ a) (aj Γ b)
 |.neg a=>HP JF (aj Γ a)
 |.cmp op a b=>gk (dB Γ.K op) (aj Γ a) (aj Γ b)
 |.wD op g7 a b d=>zg (dB Γ.K op) (dB Γ.K g7) (aj Γ a) (aj Γ b) (aj Γ d)
 |.JB _ _ _ _ _ _ _=>λ_ _ _=>False
 |.and as=>JI Γ as
 |.or as=>JJ Γ as
 |.not a=>Dg Γ.K (aj Γ a)
 |.jD t a b=>Hq (bC Γ t) (aj Γ a) (aj Γ b)
 |.call j as=>Cm (Γ.fs j) [] Γ.E (bw Γ as)
 |.blt b as=>gK (kT Γ.K b) (bw Γ as)
 |.iQ T a=>gK (pf T) (d0 (aj Γ a)<|d0 (tC<|.ty T.nm) iM)
 |.cG m o as=>uh Γ.K m (aj Γ o) (bw Γ as)
 |.ix a b=>gk (rC Γ.K Γ.sd) (aj Γ a) (aj Γ b)
 |.sl a lo hi=>Cs (ui Γ.K) (aj Γ a) (ph Γ lo) (ph Γ hi)
 |.tup as=>Ie (bw Γ as)
 |.lst as=>Ig (bw Γ as)
 |.comp tk fv k ay cond elt=>uf Γ.K (kU Γ k ay) tk fv (Di Γ.calm cond) (aj Γ.calm elt)
 |.dR a c=>gK (mh Γ.K) (d0 (aj Γ a)<|d0 (aj Γ c) iM)
 |.rz=>JG
 |.same a b=>gk VT (aj Γ a) (aj Γ b)
 |.inD a b=>gk (zN Γ.K false) (aj Γ a) (aj Γ b)
 |.JD a b=>gk (zN Γ.K true) (aj Γ a) (aj Γ b)
 |.Wk=>Va
 |.Wl a b=>U6 (aj Γ a) (aj Γ b)
 |.wF a b=>C0 (aj Γ a) (aj Γ b)
 |.wG a b=>C1 (aj Γ a) (aj Γ b)
 |.Wm o a b=>Vc (aj Γ o) (aj Γ a) (aj Γ b)
 |.xt T as=>T Γ.K (bw Γ as)
 |.xm T o as=>T Γ.K (aj Γ o) (bw Γ as)
 |.mi j a=>Jz (Γ.hs j) Γ.hv (d0 (aj Γ a) iM)
 |.fld o f=>zi Γ.K (aj Γ o) f
 |.aG j m o as=>ni (Γ.ms j).1 m (Γ.ms j).2 [] Γ.E (aj Γ o) (bw Γ as)
 |.make j as=>zl (Γ.kt j).1 (Γ.kt j).2 [] Γ.E (bw Γ as)
def bC(Γ:aS):RE->TT
 |.not a=>Hn (bC Γ a)
 |.inD a b=>t6 (gk (zN Γ.K false) (aj Γ a)<|aj Γ b)
 |.JD a b=>t6 (gk (zN Γ.K true) (aj Γ a)<|aj Γ b)
 |.wF a b=>tB (C0 (aj Γ a)<|aj Γ b)
 |.wG a b=>tB (C1 (aj Γ a)<|aj Γ b)
 |.and as=>JK Γ as
 |.or as=>JL Γ as
 |.cmp op a b=>t6 (gk (dB Γ.K op) (aj Γ a)<|aj Γ b)
 |.wD op g7 a b d=>t6 (zg (dB Γ.K op) (dB Γ.K g7) (aj Γ a) (aj Γ b)<|aj Γ d)
 |.JB op g7 JC a b d f=>Wr (dB Γ.K op) (dB Γ.K g7) (dB Γ.K JC) (aj Γ a) (aj Γ b) (aj Γ d) (aj Γ f)
 |.v i=>gr Γ.K (B9 i)
 |.call j as=>gr Γ.K (Cm (Γ.fs j) [] Γ.E<|bw Γ as)
 |.iQ T a=>gr Γ.K (gK (pf T)<|d0 (aj Γ a)<|d0 (tC<|.ty T.nm) iM)
 |.dR a c=>gr Γ.K (gK (mh Γ.K)<|d0 (aj Γ a)<|d0 (aj Γ c) iM)
 |.cG m o as=>gr Γ.K (uh Γ.K m (aj Γ o)<|bw Γ as)
 |.ix a b=>gr Γ.K (gk (rC Γ.K Γ.sd) (aj Γ a)<|aj Γ b)
 |.bin op a b=>gr Γ.K (gk (jd Γ.K op) (aj Γ a)<|aj Γ b)
 |.fld o f=>gr Γ.K (zi Γ.K (aj Γ o) f)
 |.xt T as=>gr Γ.K (T Γ.K<|bw Γ as)
 |.xm T o as=>gr Γ.K (T Γ.K (aj Γ o)<|bw Γ as)
 |.aG j m o as=>gr Γ.K (ni (Γ.ms j).1 m (Γ.ms j).2 [] Γ.E (aj Γ o)<|bw Γ as)
 |_=>λ_ _ _=>False
def bw(Γ:aS):jp->TA
 |[]=>iM
 |a::r=>d0 (aj Γ a) (bw Γ r)
def JI(Γ:aS):jp->TE
 |[]=>λ_ _ _=>False
 |[a]=>aj Γ a
 |a::r=>Ho (aj Γ a) (JI Γ r)
def JJ(Γ:aS):jp->TE
 |[]=>λ_ _ _=>False
 |[a]=>aj Γ a
 |a::r=>R1 (aj Γ a) (JJ Γ r)
def JK(Γ:aS):jp->TT
 |[]=>λ_ _ _=>False
 |[a]=>bC Γ a
 |a::r=>Hl (bC Γ a) (JK Γ r)
def JL(Γ:aS):jp->TT
 |[]=>λ_ _ _=>False
 |[a]=>bC Γ a
 |a::r=>Hm (bC Γ a) (JL Γ r)
def ph(Γ:aS):Option RE->TO
 |none=>Iy
 |some a=>zr (aj Γ a)
def Di(Γ:aS):Option RE->Option TT
 |none=>none
 |some a=>some (bC Γ a)
def kU(Γ:aS)(k:IK):jp->TI
 |[]=>λ_ _ _=>False
 |a::r=>match k with
  |.list=>vY Γ.K (aj Γ a)
  |.tup=>Sl Γ.K (aj Γ a)
  |.jt=>HJ (d0 (aj Γ a)<|bw Γ r)
  |.zP=>HK (d0 (aj Γ a)<|bw Γ r)
  |.zip=>Wv Γ.K (d0 (aj Γ a)<|bw Γ r)
  |.Wh=>Wu Γ.K (d0 (aj Γ a)<|bw Γ r)
  |.txt=>Wz (aj Γ a)
  |.Wi=>Wx Γ.K (d0 (aj Γ a)<|bw Γ r)
  |.Wj=>WB (d0 (aj Γ a)<|bw Γ r)
end
structure cX where
 N:ac
 sc:Scope
 fn:ac
 gn:ac
 bl:ac
 mn:ac
 kn:ac
 en:ac
 hn:ac
 md:Nat
def Dj(sc:Scope)(x:Str):xz:=match sc.names.lookup x with
 |some .local=>true|some .cell=>true|some .free=>true|_=>false
def loc(sc:Scope)(x:Str):xz:=match sc.names.lookup x with
 |some .local=>true|some .cell=>true|_=>false
def nH(sc:Scope)(x:Str):xz:=match sc.names.lookup x with
 |some .globalImplicit=>true|_=>false
theorem WC{sc:Scope}{x:Str}(h:Dj sc x=true):yW sc x:=by
 unfold Dj at h;unfold yW;cases e:sc.names.lookup x with
 |none=>rw[e] at h;cases h
 |some k=>rw[e] at h;cases k<;>first|exact .inl rfl|exact .inr (.inl rfl)|exact .inr (.inr rfl)|cases h
theorem Dk{sc:Scope}{x:Str}(h:loc sc x=true):Loc sc x:=by
 unfold loc at h;unfold Loc;cases e:sc.names.lookup x with
 |none=>rw[e] at h;cases h
 |some k=>rw[e] at h;cases k<;>first|exact .inl rfl|exact .inr rfl|cases h
theorem WD{sc:Scope}{x:Str}(h:nH sc x=true):sc.names.lookup x=some .globalImplicit:=by
 unfold nH at h;cases e:sc.names.lookup x with
 |none=>rw[e] at h;cases h
 |some k=>rw[e] at h;cases k<;>first|rfl|cases h
structure wH where
 elt:Expr
 tg:Expr
 iter:Expr
 ifs:im
 sc:Scope
def nF.nm:nF->Str
 |.len=> "len" |.min=> "min" |.max=> "max" |.sum=> "sum" |.int=> "int" |.list=> "list" |.tuple=> "tuple" |.abs=> "abs"
def je.nm:je->Str
 |.append=> "append" |.pop=> "pop" |.extend=> "extend" |.join=> "join" |.lstrip=> "lstrip" |.starts=> "startswith" |.reverse=> "reverse" |.clear=> "clear" |.index=> "index" |.find=> "find" |.count=> "count" |.JA=> "count" |.Df=> "index"
def pj:Expr->xz
 |.Call (.Name _ _) [] [] _=>false
 |_=>true
def noStar:Expr->xz
 |.Starred ..=>false
 |_=>true
def wI:Expr->xz
 |.Set ..=>false
 |_=>true
def Dl(JM sc:Scope):Scope:=
 {JM with names:=JM.names.map fun(n,k)=>if (k==.free && sc.kind==.function && sc.names.lookup n==some .cell) then (n,.cell) else (n,k)}
def Dm(tk:v4)(tg:Expr):Option ac:=match tk,tg with
 |none,.Name x _=>some [x]
 |some 2,.Tuple [.Name x _,.Name y _] _ _=>some [x,y]
 |_,_=>none
def JN(S:cX)(c:wH)(ln:ac)(fv:eJ):cX:={S with N:=ln++fv.map (·.1),sc:=Dl c.sc S.sc,en:=[],md:=if S.md=0 then 0 else 2}
def Dp(S:cX)(c:wH)(ln:ac)(fv:eJ):xz:=
 decide (c.sc.kind=.function) && c.sc.names.all (λy=>decide (y.2≠ .cell)||decide (c.sc.names.lookup y.1=some .cell)) && c.sc.names.all (λy=>decide (y.2≠ .local)||decide (c.sc.names.lookup y.1=some .local))
 && c.sc.names.all (λy=>decide (y.2≠ .free)||decide (S.sc.names.lookup y.1=some .cell)||decide (S.sc.names.lookup y.1=some .free))
 && fv.all (λp=>decide (S.N[p.2]?=some p.1) && decide (c.sc.names.lookup p.1=some .free))
 && ln.all (λx=>decide (c.sc.names.lookup x=some .local)||(decide (ln.length=1) && decide (c.sc.names.lookup x=some .cell))) && decide ((ln++fv.map (·.1)).Nodup) && wI c.iter
end
set_option maxHeartbeats 400000
section
open PyProof.Rows
def jE(A:wP)(h:wT):Prop:=A.handled=none\/∃e o vs,A.handled=some (.ref e)/\h.get? e=some o/\o.data=.fields vs/\vs[2]?=some .none
theorem jE.keeps{A:wP}{h h':wT}(x:jE A h)(k:∀b o vs,h.get? b=some o->o.data=.fields vs->vs[2]?=some .none->h'.get? b=some o):jE A h':=by
 rcases x with x|⟨e,o,vs,a,b,c,d⟩
 ·exact .inl x
 ·exact .inr ⟨e,o,vs,a,k e o vs b c d,c,d⟩
theorem WE:entryFor table "proto.unchain"=some Builtin.«proto.unchain»:=entryFor_of_fast (by kernel_rfl)
section
variable {c:ww}{w:wE}{A:wP}{E:aW}{s:wn}
theorem WI{a:wl}{o:Obj}{vs:j_}{i:Nat}{v:wv}{Q:sw}(ho:s.heap.get? a=some o)(hd:o.data=.fields vs)(hi:i<vs.size)(h:Q () {s with heap:=s.heap.update a (Obj.mapFields (·.setIfInBounds i v))}):
  wpAny (model c w) A (updateField a i v) Q E s:=by
 unfold updateField;refine AC<|wpAny_load ho ?_;rw[hd];show wpAny _ _ (if i<vs.size then _ else _) _ _ s
 rw[BT hi];exact wpAny_update ho h
theorem WJ{α:Type}{a:wl}{o:Obj}{vs:j_}{Q:α->wn->Prop}(hh:jE A s.heap)(ho:s.heap.get? a=some o)(hd:o.data=.fields vs)(h2:2<vs.size)(fX:∀e,A.handled=some (.ref e)->e≠a)
  (hE:∀h',Heap.SameBut a s.heap h'->(∃o',h'.get? a=some o'/\o'.cls=o.cls)->E (.ref a) {s with heap:=h'}):wpAny (model c w) A (raiseNew (.ref a):Sem α) Q E s:=by
 unfold raiseNew;refine AC<|wpAny_handled ?_;rcases hh with hh|⟨e,oe,ve,hh,he,WK,WL⟩
 ·rw[hh];exact AC<|Ch<|wpAny_throw<|hE s.heap (Heap.SameBut.refl ..) ⟨o,ho,rfl⟩
 ·rw[hh];have ne:e≠a:=fX e hh;have hb:((Value.ref e) !=(Value.ref a))=true:=by
   simp only[bne_iff_ne,ne_eq,Value.ref.injEq]
   exact ne
  dsimp only
  rw[BT hb];refine AC<|FM<|wpAny_runValue<|codeAny_builtin WE ?_;unfold Builtin.«proto.unchain»
  dsimp only
  refine AC<|Id he WK WL ?_;rw[BT (by rfl)]
  refine AC<|Ch<|Ch ?_
  dsimp only
  refine AC<|WI ho hd h2 ?_;refine wpAny_throw<|hE _ (Heap.SameBut.update ..) ⟨_,Rs _ ho<|WH<|Obj.data_mapFields hd _,Obj.cls_mapFields ..⟩
theorem JO{it:wl}{f:Obj->Obj}{Qf:Fin->wn->Prop}{Q:pp->wn->Prop}(hh:jE A s.heap)(hn:∀vs:j_,¬ ∃o,s.heap.get? it=some o/\o.data=.fields vs/\vs[2]?=some .none)
  (hQ:∀h',Heap.ExtBut it s.heap h'->Q none {s with heap:=h'}):
  wpAny (model c w) A.in1 Builtin.SmallTypes.stopIteration Qf (λe s'=>wpAny (model c w) A (do let b <-isInstance e (.type "StopIteration");if b=true then pure none else throw e) Q E s') {s with heap:=s.heap.update it f}:=by
 show wpAny _ _ (newExc (.type "StopIteration") [] >>=_) _ _ _;refine AC ?_
 simp only[newExc,newTuple]
 refine AC<|KM ?_ (by size_fits)
 refine AC (m:=firstArgMember _ _)<|wpAny_of_eq (a:=Value.none) (by first|rfl| (simp only[firstArgMember];rfl)) ?_
 refine KM ?_ (by size_fits)
 dsimp only
 have lt:∀b o,s.heap.get? b=some o->b≠it->(s.heap.update it f).get? b=some o:=λb o e hb=>(LE _ _<|Fa hb).trans e;have WM:jE A.in1 (((s.heap.update it f).push {cls:=.type "tuple",data:=.seq ([]:ce).toArray}).push
   {cls:=.type "StopIteration",data:=.fields (#[.ref (s.heap.update it f).objs.size,.none,.none,.none,.bool false,.none]++ownMembersOf (.type "StopIteration") [])}):=by
  rcases hh with hh|⟨e,oe,ve,h1,h2,h3,h4⟩
  ·exact .inl hh
  ·refine .inr ⟨e,oe,ve,h1,EQ _<|EQ _<|lt e oe h2 λz=>?_,h3,h4⟩;subst z;exact hn ve ⟨oe,h2,h3,h4⟩
 refine WJ WM (Gc _ rfl) rfl (zao (show 2<6 by decide) (by rw[Array.size_append];exact Nat.le_add_right 6 _)) (λe he=>?_)<|λh' sb ⟨o',q1,q2⟩=>?_
 ·rcases hh with hh|⟨e',oe,ve,h1,h2,h3,h4⟩
  ·rw[show A.in1.handled=none from hh] at he;cases he
  ·rw[show A.in1.handled=_ from h1] at he
   cases he;have:=Do h2;refine zai<|zao this ?_;rw[GM,Heap.size_update];exact zaY _
 ·refine AC (wpAny_isInstance (T:="StopIteration") (b:=true) ⟨_,q1,q2⟩ isSubtype_stop ?_);refine Ch<|hQ _ λb o hb e=>?_;have e3:=lt b o e hb;have e4:=EQ {cls:=.type "StopIteration",data:=.fields (#[.ref (s.heap.update it f).objs.size,.none,.none,.none,.bool false,.none]++ownMembersOf (.type "StopIteration") [])} (EQ {cls:=.type "tuple",data:=.seq ([]:ce).toArray} e3);refine(sb.2 b<|zai<|zao (Do e3) ?_).trans e4;rw[GM];exact zaY _
theorem WN{it l:wl}{i:Nat}{items}{Q:pp->wn->Prop}(hh:jE A s.heap)
  (hit:s.heap.IsListIter it l i) (hl:s.heap.IsList l items) (hx:items[i]?=none)
  (hQ:∀h',Heap.ExtBut it s.heap h'->Q none {s with heap:=h'}):wpAny (model c w) A (pyNext<|.ref it) Q E s:=by
 obtain⟨o,ho,hc,hd⟩:=id hit;obtain⟨ol,Dq,_,nl,pk⟩:=hl;unfold pyNext;refine AC (SL (TW (name:=Str.ofString "__next__") hit.typeIs slot_listiter_next
  (wpAny_call_entry slot_listiter_next hit.typeIs entry_listiter_next ?_ (args_listiter_next _))))
 show wpAny _ _ (field (.ref it) 0>>=_) _ _ s;refine AC<|Id ho hd (x:=.ref l) rfl ?_;show wpAny _ _ (if (Value.ref l==Value.none)=true then _ else _) _ _ s
 rw[AT (show ¬((Value.ref l==Value.none)=true) from zal)]
 show wpAny _ _ (field (.ref it) 1>>=_) _ _ s;refine AC<|Id ho hd (x:=.int i 0) rfl ?_;show wpAny _ _ (seqItems? (.ref l) >>=_) _ _ s;refine AC<|wpAny_seqItems Dq pk ?_
 simp only[zaB,hx]
 refine AC<|wpAny_rule<|AC<|wpAny_setField ho hd (by simp) ?_
 exact JO hh (λvs z=>by obtain⟨o',h1,h2,h3⟩:=z;rw[ho] at h1;cases h1;rw[hd] at h2;cases h2;cases h3) hQ
theorem WO{it t:wl}{i:Nat}{items}{Q:pp->wn->Prop}(hh:jE A s.heap)
  (hit:IsTupIter s.heap it t i) (ht:IsTup s.heap t items) (hx:items[i]?=none)
  (hQ:∀h',Heap.ExtBut it s.heap h'->Q none {s with heap:=h'}):wpAny (model c w) A (pyNext<|.ref it) Q E s:=by
 obtain⟨o,ho,hc,hd⟩:=id hit;obtain⟨ol,Dq,_,nl,pk⟩:=ht;unfold pyNext;refine AC (SL (TW (name:=Str.ofString "__next__") hit.typeIs slot_tupleiter_next
  (wpAny_call_entry slot_tupleiter_next hit.typeIs entry_tupleiter_next ?_ (args_tupleiter_next _))))
 show wpAny _ _ (field (.ref it) 0>>=_) _ _ s;refine AC<|Id ho hd (x:=.ref t) rfl ?_;show wpAny _ _ (if (Value.ref t==Value.none)=true then _ else _) _ _ s
 rw[AT (show ¬((Value.ref t==Value.none)=true) from zal)]
 show wpAny _ _ (field (.ref it) 1>>=_) _ _ s;refine AC<|Id ho hd (x:=.int i 0) rfl ?_;show wpAny _ _ (seqItems? (.ref t) >>=_) _ _ s;refine AC<|wpAny_seqItems Dq pk ?_
 simp only[zaB,hx]
 refine AC<|wpAny_rule<|AC<|wpAny_setField ho hd (by simp) ?_
 exact JO hh (λvs z=>by obtain⟨o',h1,h2,h3⟩:=z;rw[ho] at h1;cases h1;rw[hd] at h2;cases h2;cases h3) hQ
theorem WQ{t:wl}{items:j_}{Q:ce->wn->Prop}(hh:jE A s.heap)(ht:IsTup s.heap t items)
  (hQ:∀h',Heap.ExtBut s.heap.objs.size s.heap h'->Q items.toList {s with heap:=h'}):wpAny (model c w) A (unpackItems (.ref t) items.size none) Q E s:=by
 have bY:t≠s.heap.objs.size:=by obtain⟨o,ho,_⟩:=ht;exact zai (Do ho)
 unfold unpackItems;refine AC ?_
 ·unfold notIterableAtAll;refine AC<|wpAny_specialOf ht.typeIs slot_tuple_iter.lookup ?_;refine Ch ?_
  simp only[zbd,GE]
  refine AC<|FM<|iter_tuple ht ?_;refine AC<|FM<|draw_tuple bY items.size 0 _ _ ⟨_,Gc _ rfl,rfl,rfl⟩ (ht.push _) (by lia) λX4 wJ nI=>?_
  have wj:List.take items.size (List.drop 0 items.toList)=items.toList:=by
   rw[zbj];exact zaM (by simp)
  rw[wj];rw[AT (by simp)]
  have Dr:IsTup X4 t items:=(ht.push _).extBut nI.extBut bY;have WR:jE A X4:=hh.keeps λb o vs e _ _=>nI.extBut b o (zai<|Do e) (EQ _ e);refine AC<|FM<|WO WR wJ Dr (by simp) λh₂ Ds=>?_
  simp only[Option.isSome_none,zbd,GE]
  refine Ch<|hQ h₂ λb o hb e=>Ds b o hb (nI.extBut b o hb<|EQ _ e)
theorem WS{env:Env}{elts:im}{x1}{pos:Pos}{t:wl}{items:j_}{Q:sw}(hh:jE A s.heap)(ht:IsTup s.heap t items)
  (hn:(assignEach elts env).length=items.size) (Dt:(assignEach elts env).findIdx? (·.1)=none)
  (h:∀h',Heap.ExtBut s.heap.objs.size s.heap h'->wpAny (model c w) A (assignInOrder ((assignEach elts env).map (·.2)) items.toList) Q E {s with heap:=h'}):
  wpAny (model c w) A (assign (.Tuple elts x1 pos) env<|.ref t) Q E s:=by
 rw[assign_Tuple];refine AC<|MZ ?_;unfold unpack;rw[hn,Dt];exact AC<|FM<|WQ hh ht h
end
end
set_option maxHeartbeats 1000000
section
open PyProof.Rows PySem.W
section
variable {a:ww}{w:wE}{A:wP}{E:aW}{s:wn}{K:Frag}{x D:wl}{b:Obj}
theorem WT{Q:pp->wn->Prop}(X:K.In s.heap)(I:InstAt s.heap x b D none)(wB:findIn K (.ref D) "__getattribute__"=some (some<|.builtin "BaseException.__getattribute__"))(wC:findIn K (.ref D) "__getattr__"=some none)
  (hk:(clsIn K D).isSome=true) (ha:findIn K (.ref D) "__class__"=some (some<|.builtin "object.__class__")) (hn:specialIn K (.builtin "object.__class__") "__get__"=some (some<|.builtin "getset_descriptor.__get__")) (oW:takesIn K (.builtin "object.__class__")=some true)
  (hm:mroIn K D (.type "object")=some true) (hb:mroIn K D (.type "BaseException")=some true)
  (h:Q (some<|.ref D) {s with toks:=s.toks+1}):wpAny (model a w) A (getAttr? (.ref x) "__class__") Q E s:=by
 have hf:findObj K D none "__class__"=some (.bind (.builtin "getset_descriptor.__get__")<|.builtin "object.__class__"):=by
  obtain⟨cd,hc⟩:=zbr.mp hk;unfold findObj;rw[hc,Option.bind_some,ha,Option.bind_some]
  simp only[hn,oW,Option.bind_some]
 obtain⟨hh,g,d,t,os⟩:=s;have L0:=I.type (M:=model a w);have L1:=looks_findIn (M:=model a w) X wB;have L2:=looks_findIn (M:=model a w) X wC;have L3:=looks_find (M:=model a w) X I hf;unfold getAttr? getAttrBy? getAttrBy;refine AC<|wpAny_mkText<|AC<|SL<|FM<|AC<|L0.at<|AC<|L1.at ?_;have pB:(Value.builtin "BaseException.__getattribute__"==Value.builtin "object.__getattribute__")=false:=by decide+kernel
 show wpAny _ _ (if (onTheHeap (Value.ref D) && Value.builtin "BaseException.__getattribute__"==Value.builtin "object.__getattribute__")=true then _ else _) _ _ _
 rw[pB,Bool.and_false,AT (by decide)]
 unfold getAttrByItsOwn hookBefore;refine AC<|L2.at ?_;refine AC<|SL<|FM ?_;show wpAny _ _ (boundAndCalled _ _ _) _ _ _;unfold boundAndCalled;rw[F.excAttr_ValueError.ga.bind<|.ref x];refine AC<|Ch ?_;refine wpAny_call<|codeAny_call_builtin F.excAttr_ValueError.ga.plain F.entry_bexc_ga ?_;have L4:=looks_mroIn (M:=model a w) X hb;have pE:builtinKind "BaseException.__getattribute__"=some .slot:=by decide+kernel
 have WU:splitId "BaseException.__getattribute__"=some ("BaseException","__getattribute__"):=by decide+kernel
 have ai8:=F.args_bexc_ga (.ref x) (.str "__class__" t)
 simp only[checkBuiltinCall,pE,WU]
 have L5:Looks (model a w) hh (isInstance (.ref x)<|.type "BaseException") true:=L0.andThen L4;refine AC<|L5.at ?_
 repeat (any_goals (first|assumption|(with_reducible refine wpAny_loadPart_at I.at_ ?_;rw[I.cls];refine Ch (AC<|L3.at ?_))|wp_step))
 refine class_get (s:=⟨hh,g,d,t+1,os⟩) (ox:=b) (od:=none) X I hm ?_;exact Ch<|Ch<|Ch h
theorem WV(wB:findIn K (.ref D) "__getattribute__"=some (some<|.builtin "BaseException.__getattribute__"))(wC:findIn K (.ref D) "__getattr__"=some none)
  (hk:(clsIn K D).isSome=true) (ha:findIn K (.ref D) "__class__"=some (some<|.builtin "object.__class__")) (hn:specialIn K (.builtin "object.__class__") "__get__"=some (some<|.builtin "getset_descriptor.__get__")) (oW:takesIn K (.builtin "object.__class__")=some true)
  (hm:mroIn K D (.type "object")=some true) (hb:mroIn K D (.type "BaseException")=some true):KitX K (.ref x) (.ref D) (λh=>InstAt h x b D none) where
 ty:=λ_ _ _ I=>I.type
 it:=λ_ _ X _=>by
  obtain⟨WW,m8⟩:=zbr.mp hk;unfold clsIn at m8
  split at m8
  ·rename_i c' d' WX B0 ho
   intro A' Q' E' s' k q;unfold isType loadHead;exact AC<|wpAny_loadPart (k _ _<|X _ _ ho)<|Ch q
  ·cases m8
 ne:=λh tp dd ay n sl X WY=>by
  obtain⟨WW,m8⟩:=zbr.mp hk;refine Bool.eq_false_iff.mpr λq=>?_;have e:D=tp:=Value.ref.inj (beq_iff_eq.mp q);subst e;unfold clsIn at m8
  split at m8
  ·rename_i c' d' WX B0 ho
   have z:=(X _ _ ho).symm.trans WY;cases z
  ·cases m8
 ca:=λX I k=>WT X I wB wC hk ha hn oW hm hb k
end
end
set_option maxHeartbeats 400000
section
open PyProof.Rows
inductive cz (J:wn->Prop) {α:Type}:Sem α->Prop
 |pure (a:α):cz J (.pure a)
 |raise (e:wv):cz J (.raise e)
 |unsupported (w:zn):cz J (.unsupported w)
 |rule {t:zn}{k:Unit->Sem α}:cz J (k ())->cz J (.rule t k)
 |load {a:wl}{p:pp}{k:Obj->Sem α}:(∀o,cz J<|k o)->cz J (.load a p k)
 |update {a:wl}{p:pp}{f:Obj->Obj}{k:Unit->Sem α}:(∀s,J s->J {s with heap:=s.heap.update a f})->cz J (k ())->cz J (.update a p f k)
 |alloc {o:Obj}{k:wl->Sem α}:(∀s,J s->J {s with heap:=s.heap.push o})->(∀a,cz J<|k a)->cz J (.alloc o k)
 |stack {k:List (Code×Pos)->Sem α}:(∀t,cz J<|k t)->cz J (.stack k)
theorem WZ{M:Model}{Γ:PySem.Ctx}{J:wn->Prop}{α:Type}{t:Sem α}(kt:cz J t):∀{Q:α->Pos->wn->Prop}{E:wv->Pos->wn->Prop}{p:Pos}{s:wn},J s->Sem.wp M Γ t Q E p s->
  Sem.wp M Γ t (λa p s=>Q a p s/\J s) (λe p s=>E e p s/\J s) p s:=by
 induction kt with
 |pure a=>intro Q E p s j h;rw[Sem.wp] at h⊢;exact⟨h,j⟩
 |raise e=>intro Q E p s j h;rw[Sem.wp] at h⊢;exact⟨h,j⟩
 |unsupported w=>intro Q E p s j h;rw[Sem.wp] at h;exact h.elim
 |rule _ ih=>intro Q E p s j h;rw[Sem.wp] at h⊢;exact ih j h
 |load _ ih=>intro Q E p s j h;rw[Sem.wp] at h⊢;obtain⟨o,e,h⟩:=h;exact⟨o,e,ih o j h⟩
 |update f _ ih=>intro Q E p s j h;rw[Sem.wp] at h⊢;exact⟨h.1,ih (f _ j) h.2⟩
 |alloc f _ ih=>intro Q E p s j h;rw[Sem.wp] at h⊢;exact ih _ (f _ j) h
 |stack _ ih=>intro Q E p s j h;rw[Sem.wp] at h⊢;exact ih _ j h
theorem wK{M:Model}{A:wP}{J:wn->Prop}{α:Type}{t:Sem α}{Q:α->wn->Prop}{E:aW}{s:wn}(k:cz J t)(j:J s)(h:wpAny M A t Q E s):
  wpAny M A t (λa s=>Q a s/\J s) (λe s=>E e s/\J s) s:=λΓ p hΓ=>WZ k j (h Γ p hΓ)
def fg(e:wl)(s:wn):Prop:= ∃o vs,s.heap.get? e=some o/\o.data=.fields vs/\vs[2]?=some .none/\o.dict=none
theorem W0(f:j_->j_)(o:Obj):(Obj.mapFields f o).dict=o.dict:=by
 unfold Obj.mapFields
 split<;>rfl
theorem W2{e a:wl}{i:Nat}{v:wv}(hi:i≠2)(s:wn)(j:fg e s):fg e {s with heap:=s.heap.update a (Obj.mapFields (·.setIfInBounds i v))}:=by
 obtain⟨o,vs,h1,h2,h3,h4⟩:=j;by_cases z:a=e
 ·subst z;have d:=Obj.data_mapFields h2 (·.setIfInBounds i v);exact⟨_,_,Rs _ h1<|WH d,d,by rw[Array.getElem?_setIfInBounds_ne hi];exact h3,(W0 _ _).trans h4⟩
 ·exact⟨o,vs,(LE _ _ z).trans h1,h2,h3,h4⟩
theorem W3{e a:wl}{f:Obj->Obj}(hf:∀o,(f o).data=o.data/\(f o).dict=o.dict)(s:wn)(j:fg e s):fg e {s with heap:=s.heap.update a f}:=by
 obtain⟨o,vs,h1,h2,h3,h4⟩:=j;by_cases z:a=e
 ·subst z;exact⟨_,vs,Rs _ h1<|WH<|(hf o).1.trans h2,(hf o).1.trans h2,h3,(hf o).2.trans h4⟩
 ·exact⟨o,vs,(LE _ _ z).trans h1,h2,h3,h4⟩
theorem W4{e:wl}{ob:Obj}(s:wn)(j:fg e s):fg e {s with heap:=s.heap.push ob}:=by
 obtain⟨o,vs,h1,h2,h3,h4⟩:=j;exact⟨o,vs,EQ _ h1,h2,h3,h4⟩
theorem cz.bind{J:wn->Prop}{α β:Type}{t:Sem α}{f:α->Sem β}(kt:cz J t)(h:∀a,cz J<|f a):cz J (t>>=f):=by
 show cz J (t.bind f)
 induction kt with
 |pure a=>exact h a
 |raise e=>exact .raise e
 |unsupported w=>exact .unsupported w
 |rule _ ih=>exact .rule ih
 |load _ ih=>exact .load ih
 |update g _ ih=>exact .update g ih
 |alloc g _ ih=>exact .alloc g ih
 |stack _ ih=>exact .stack ih
section
variable {e:wl}
theorem Du{a:wl}:cz (fg e) (load a):=.load λo=>.pure o
theorem Dv{v x:wv}{i:Nat}(hi:i≠2):cz (fg e) (setField v i x):=by
 unfold setField
 split
 ·rename_i a
  unfold updateField;refine Du.bind λo=>?_
  split
  ·split
   ·exact .update (λs j=>W2 hi s j) (.pure ())
   ·exact .unsupported _
  ·exact .unsupported _
 ·exact .unsupported _
theorem W_{v:wv}:cz (fg e) (fieldsOf v):=by
 unfold fieldsOf
 split
 ·refine Du.bind λo=>?_
  split
  ·exact .pure _
  ·exact .unsupported _
 ·exact .unsupported _
theorem zU{v:wv}{i:Nat}:cz (fg e) (field v i):=by
 unfold field;refine W_.bind λvs=>?_
 split
 ·exact .pure _
 ·exact .unsupported _
theorem Dw{v:wv}{f:lm}:cz (fg e) (setFlight v f):=by
 unfold setFlight;refine zU.bind λtb=>?_
 split
 ·exact Dv (by decide)
 ·exact .pure _
theorem Dx:cz (fg e) stack:=.stack λt=>.pure t
theorem Xa{ty:zn}{vs:ce}:cz (fg e) (newFields ty vs):=by
 unfold newFields newObj newObjAsIs;show cz (fg e) (if vs.toArray.size>sizeLine+2 then (unsupported "record:memory" >>=_) else _)
 split
 ·exact .unsupported _
 ·exact cz.bind (.alloc (λs j=>W4 s j) λa=>.pure a) λa=>.pure _
theorem Xb{f:wl}{b:xz}:cz (fg e) (entryPlaceOf f b):=by
 unfold entryPlaceOf;refine Dx.bind λai9=>?_
 split
 ·exact .pure _
 ·exact .pure _
theorem JP:∀l:tz,cz (fg e) (readyFrames l)
 |[]=>.pure _
 |env::outer=>by
  unfold readyFrames
  split
  ·refine Du.bind λo=>?_
   split
   ·exact .pure _
   ·refine cz.bind ?_ λim=>cz.bind ?_ λbk=>cz.bind (.update (λs j=>W3 (by intro o;exact⟨rfl,rfl⟩) s j)<|.pure ()) λ_=>JP outer
    ·unfold behindIsImport
     split
     ·exact .pure _
     ·split
      ·exact .pure _
      ·exact zU.bind λ_=>.pure _
    ·unfold keptBack
     split
     ·split
      ·exact .pure _
      ·unfold underTheClaimsCaller;exact cz.bind (Dx.bind λ_=>.pure _) λ_=>.pure _
     ·exact .pure _
  ·exact .unsupported _
theorem Xd{env:Env}:cz (fg e) (PySem.frameOf env):=by
 unfold PySem.frameOf frameEnvs;refine cz.bind (Dx.bind λ_=>.pure _) λl=>?_;refine cz.bind ?_ λr=>?_
 ·unfold frameObject
  split
  ·exact .pure _
  ·exact(JP _).bind λ_=>.pure _
 ·split
  ·exact .pure _
  ·exact .unsupported _
theorem JQ{v:wv}{env:Env}:cz (fg e) (noteFrame v env):=by
 unfold noteFrame
 split
 ·rename_i x d hq
  refine zU.bind λhd=>?_;have tail:cz (fg e) (do let a <-PySem.frameOf env;let pl <-entryPlaceOf d (hd !=.none);let b <-EntryCells.newEntry hd a .none (rawInt d) .none pl;setField v 1 b):=
   Xd.bind λa=>Xb.bind λpl=>cz.bind Xa λb=>Dv (by decide)
  dsimp only
  split
  ·refine zU.bind λx=>?_
   split
   ·exact .pure _
   ·exact(Dv (by decide)).bind λ_=>tail
  ·exact tail
 ·exact .unsupported _
theorem JR{v:wv}{env:Env}:cz (fg e) (leaving env v):=by
 unfold leaving;exact JQ.bind λ_=>Dw
end
end
set_option maxHeartbeats 4000000
section
open PyProof.Rows
theorem cP.zV{P:ww}{w:wE}{H:Hp}{h:wT}{a:wl}{o:HO}(x:cP P w H h a o):∃ob,h.get? a=some ob:=by
 cases o with
 |lst xs=>obtain⟨_,_,_,_,e⟩:=x;exact⟨_,e⟩
 |tup xs=>obtain⟨_,_,_,ob,e,_⟩:=x;exact⟨_,e⟩
 |dK az=>obtain⟨_,_,_,_,o,_,_,e,_⟩:=x;exact⟨_,e⟩
 |dT az=>obtain⟨_,_,_,_,o,_,_,e,_⟩:=x;exact⟨_,e⟩
 |set S n=>obtain⟨o,_,_,_,e,_⟩:=x;exact⟨_,e⟩
 |ins C dx fs=>obtain⟨_,_,_,e,_⟩:=x;exact⟨_,e⟩
 |own y=>obtain⟨_,e⟩:=x;exact⟨_,e⟩
 |xd fs=>obtain⟨_,⟨_,_,_,e,_⟩,_⟩:=x;exact⟨_,e⟩
 |jt lo hi=>obtain⟨_,_,_,e⟩:=x;exact⟨_,e⟩
 |bW ob u=>obtain⟨e,_⟩:=x;exact⟨_,e⟩
 |lU ps=>exact⟨_,(show h.get? a=some _ from x)⟩
 |met f y=>exact⟨_,(show h.get? a=some _ from x)⟩
 |ext φ=>obtain⟨_,⟨_,e⟩,_⟩:=x;exact⟨_,e⟩
theorem cC.zW{P:ww}{w:wE}{H:Hp}{h h':wT}(ok:cC P w H h)(k:∀b u,H b≠none->h.get? b=some u->h'.get? b=some u):cC P w H h':=λa o e=>
 (ok a o e).oU (λb u hb hu=>k b u (by
  rcases hb with rfl|hb
  ·rw[e];exact Option.some_ne_none _
  ·rw[hb];exact Option.some_ne_none _) hu) (λ_ z=>z) (λ_ _ z=>z)
def fh(P:ww)(w:wE):cE:=λouter H s E e s'=>∃(ea:wl) (cls:wv) (t:wl) (B:wT) (H':Hp),
 e=.ref ea/\s'.os=s.os/\AllBare s'.gens/\Un (cw outer) [] H H' s.heap s'.heap/\cC P w H' s'.heap/\Heap.FlyingW B outer ea cls (.ref t) s'.heap/\fg ea s'/\H' ea=none/\
 (∀b,H' b≠none->∀o,s'.heap.get? b=some o->B.get? b=some o)/\(∀b o,s.heap.get? b=some o->b∉cw outer->∀o',s'.heap.get? b=some o'->B.get? b=some o')/\E cls none H'
theorem zX{P:ww}{w:wE}{outer:tz}{H:Hp}{s:wn}{e:wv}{s':wn}(h:fh P w outer H s E0 e s'):False:=by
 obtain⟨_,_,_,_,_,_,_,_,_,_,_,_,_,_,_,h⟩:=h;exact h
section
variable {P:ww}{w:wE}{K:Frag}{i:bv}{j:wT}{N:ac}{d:Str}{g:Scope}{f:wl}{h:wv}{A:wP}{c:tz}{a:wn}{k:Hp}{E:XK}
theorem Xe:Passes (fh P w) (nk (fh P w) P w K i j N d g f h A c a k E) E:=by
 intro y' σ H s e s' I hx;obtain⟨ea,cls,t,B,H',rfl,os,bare,u,aF,fl,wL,kW,c1,c2,hE⟩:=hx;have nJ:=I.ok.frames;have hL:a.heap.objs.size<= (envOfC d g a.heap.objs.size f h).locals:=I.ok.above;have nL:∀b o,a.heap.get? b=some o->b∉cw c->b∉cw (envOfC d g a.heap.objs.size f h::c):=λb o hb hn hm=>by
  have Dy:b∈ (envOfC d g a.heap.objs.size f h).locals::cw c:=hm;rcases zad.mp Dy with rfl|z
  ·exact absurd (Do hb) (Nat.not_lt.mpr hL)
  ·exact hn z
 have ju:∀b∈cw (envOfC d g a.heap.objs.size f h::c),H' b=none:=λb hb=>by
  obtain⟨o,ho,_⟩:=(I.stack.mem hb).2;exact u.free b o ho (I.y3 b hb) zae
 refine Fk (wK JR wL<|wpAny_leaves_onW (Q:=λ_ iN=>∃h',iN={s' with heap:=h'}/\Heap.FlyingW B c ea cls (.ref t) h'/\s'.heap.UpToSlots h') (E:=λ_ _=>False) nJ rfl fl λh' fl' up=>⟨h',rfl,fl',up⟩)
  (λ_ iN hq=>?_) (λ_ _ z=>z.1.elim)
 obtain⟨⟨h',rfl,fl',up⟩,Dz⟩:=hq;have into:∀b o,s.heap.get? b=some o->b∉cw (envOfC d g a.heap.objs.size f h::c)->∀o',s'.heap.get? b=some o'->h'.get? b=some o':=λb o hb hn o' eL=>fl'.1 b o' (c2 b o hb hn o' eL);have lV:∀b o,H' b≠none->s'.heap.get? b=some o->h'.get? b=some o:=λb o hb ho=>fl'.1 b o (c1 b hb o ho);have hU:∀b∈cw (envOfC d g a.heap.objs.size f h::c),∀o,s'.heap.get? b=some o->∃sl,h'.get? b=some {o with slots:=sl}:=λb hb o ho=>by
  obtain⟨o1,jf,hd⟩:=(fl.2.2.1.mem hb).2;rw[ho] at jf;cases jf;exact up b o ho hd
 refine⟨ea,cls,t,B,H',rfl,os.trans I.os,bare,⟨λb o q n hn _=>?_,λb o q n hn _=>?_,λb o q n _=>?_,λb o q _=>?_,λb xs q=>u.eg b xs (I.base.eg b xs q),λb o v q=>u.gJ b o v (I.base.gJ b o v q),λb ps q=>?_⟩,
  aF.zW (λb o hb ho=>lV b o hb ho),fl',Dz,kW,λb hb o ho=>?_,λb o q hn o' eL=>?_,hE⟩
 ·have q1:=I.base.keep b o q n hn zae;have n1:=I.base.free b o q n zae;have jF:=nL b o q hn;exact into b o q1 jF o<|u.keep b o q1 n1 jF zae
 ·obtain⟨sl,q1⟩:=I.base.slot b o q n hn zae;have n1:=I.base.free b o q n zae;have jF:b∈cw (envOfC d g a.heap.objs.size f h::c):=zar _ hn;obtain⟨wb,q2⟩:=u.slot b _ q1 n1 jF zae;obtain⟨DA,q3⟩:=hU b jF _ q2;exact⟨DA,q3⟩
 ·obtain⟨o1,q1⟩:=I.base.there b o q zae;exact u.free b o1 q1 (I.base.free b o q n zae) zae
 ·obtain⟨o1,q1⟩:=I.base.there b o q zae;obtain⟨o2,q2⟩:=u.there b o1 q1 zae;by_cases hm:b∈cw (envOfC d g a.heap.objs.size f h::c)
  ·obtain⟨sl,q3⟩:=hU b hm o2 q2;exact⟨_,q3⟩
  ·exact⟨o2,into b o1 q1 hm o2 q2⟩
 ·obtain⟨m1,e1⟩:=I.base.ij b ps q;obtain⟨m2,e2⟩:=u.ij b _ e1;exact⟨m1++m2,by rw[e2,Array.append_assoc]⟩
 ·obtain⟨gm,hH⟩:=zbJ.mp hb;obtain⟨o2,q2⟩:=(aF b gm hH).zV;have q3:=lV b o2 hb q2;have kY:h'.get? b=some o:=ho;rw[q3] at kY;cases kY;exact c1 b hb _ q2
 ·obtain⟨o1,q1⟩:=I.base.there b o q zae;obtain⟨o2,q2⟩:=u.there b o1 q1 zae;have jF:=nL b o q hn;have q3:=into b o1 q1 jF o2 q2;have kY:h'.get? b=some o':=eL;rw[q3] at kY;cases kY;exact c2 b o1 q1 jF _ q2
def Raises(X:Cx)(E:XK):Prop:= ∀(y':ad) (σ:St) (H:Hp) (s:wn) (h':wT) (e:wl) (cls:wv) (vs:ce),Inv X y' σ H s->Heap.MadeExcOf s.heap h' e cls vs->E cls none H->X.xe (.ref e) {s with heap:=h'}
theorem Xf:Raises (nk (fh P w) P w K i j N d g f h A c a k E) E:=by
 intro y' σ H s h1 e cls vs I hx hE;have nJ:=I.ok.frames;have hL:a.heap.objs.size<= (envOfC d g a.heap.objs.size f h).locals:=I.ok.above;have nL:∀b o,a.heap.get? b=some o->b∉cw c->b∉cw (envOfC d g a.heap.objs.size f h::c):=λb o hb hn hm=>by
  have Dy:b∈ (envOfC d g a.heap.objs.size f h).locals::cw c:=hm;rcases zad.mp Dy with rfl|z
  ·exact absurd (Do hb) (Nat.not_lt.mpr hL)
  ·exact hn z
 have DB:∀env∈ (envOfC d g a.heap.objs.size f h::c),∀b,env.frame=some b->b∈cw (envOfC d g a.heap.objs.size f h::c):=λenv he b hb=>zbE.mpr ⟨env,he,hb⟩;have wL:fg e {s with heap:=h1}:=by
  obtain⟨t,ht,_,_⟩:=hx.there;exact⟨_,_,ht,rfl,rfl,rfl⟩
 refine Fk (wK JR wL (wpAny_leaves_madeW (Q:=λ_ iN=>∃h' t,iN={s with heap:=h'}/\Heap.FlyingW (hideAll s.heap (cw (envOfC d g a.heap.objs.size f h::c))) c e cls (.ref t) h'/\h1.UpToSlots h') (E:=λ_ _=>False)
  nJ rfl (λb o q=>of_hideAll _ q) (PySem.W.funFrames_hide I.stack DB) hx λh' t fl' _ _ up=>⟨h',t,rfl,fl',up⟩)) (λ_ iN hq=>?_) (λ_ _ z=>z.1.elim)
 obtain⟨⟨h',t,rfl,fl',up⟩,Dz⟩:=hq;have into:∀b o,s.heap.get? b=some o->b∉cw (envOfC d g a.heap.objs.size f h::c)->h'.get? b=some o:=λb o hb hn=>fl'.1 b o (hideAll_get _ hb hn);have DC:∀b,H b≠none->b∉cw (envOfC d g a.heap.objs.size f h::c):=λb hb hm=>hb (I.y3 b hm);have hU:∀b∈cw (envOfC d g a.heap.objs.size f h::c),∀o,s.heap.get? b=some o->∃sl,h'.get? b=some {o with slots:=sl}:=λb hb o ho=>by
  obtain⟨o1,jf,hd⟩:=(I.stack.mem hb).2;rw[ho] at jf;cases jf;exact up b o (hx.keeps b o ho) hd
 refine⟨e,cls,t,_,H,rfl,I.os,I.bare,⟨λb o q n hn _=>?_,λb o q n hn _=>?_,λb o q n _=>I.base.free b o q n zae,λb o q _=>?_,I.base.eg,I.base.gJ,I.base.ij⟩,
  I.aF.zW (λb o hb ho=>into b o ho (DC b hb)),fl',Dz,?_,λb hb o ho=>?_,λb o q hn o' eL=>?_,hE⟩
 ·exact into b o (I.base.keep b o q n hn zae) (nL b o q hn)
 ·obtain⟨sl,q1⟩:=I.base.slot b o q n hn zae;obtain⟨DA,q3⟩:=hU b (zar _ hn) _ q1;exact⟨DA,q3⟩
 ·obtain⟨o1,q1⟩:=I.base.there b o q zae;by_cases hm:b∈cw (envOfC d g a.heap.objs.size f h::c)
  ·obtain⟨sl,q3⟩:=hU b hm o1 q1;exact⟨_,q3⟩
  ·exact⟨o1,into b o1 q1 hm⟩
 ·cases q:H e with
  |none=>rfl
  |some ho=>
   obtain⟨o2,q2⟩:=(I.aF e ho q).zV;rw[hx.new] at q2;cases q2
 ·obtain⟨gm,hH⟩:=zbJ.mp hb;obtain⟨o2,q2⟩:=(I.aF b gm hH).zV;have q3:=into b o2 q2 (DC b hb);have kY:h'.get? b=some o:=ho;rw[q3] at kY;cases kY;exact hideAll_get _ q2<|DC b hb
 ·obtain⟨o1,q1⟩:=I.base.there b o q zae;have jF:=nL b o q hn;have q3:=into b o1 q1 jF;have kY:h'.get? b=some o':=eL;rw[q3] at kY;cases kY;exact hideAll_get _ q1 jF
end
section
variable {X:Cx}
theorem Xg{x:Str}{C:wl}{bm:ce}{B Z' uj:zn}{e:Expr}{es:im}{t:TA}{np ei pos:Pos}{E:XK}(hc:X.calm=true)(O:OwnCls x C bm Z' X.mg X.base)(FB:ExcBaseFacts B Z' uj bm)(rD:Gl X x)
  (hd:(x==("__debug__":Str))=false) (ha:PA X (e::es) t) (hs:starEach (e::es) X.env=(false,eval e X.env)::starEach es X.env) (h1:(backTo ei<|starEach es X.env).any (·.1)=false) (hR:Raises X E):
  PS X (.Raise (some<|.Call (.Name x np) (e::es) [] ei) none pos) (Dd C E t):=by
 intro y' s σ H D I h;obtain⟨tl,N,nm,q,bs,hdct,sn,sub,ab,col,dd,k0,k1,k2,k3,k5,mN,hC,hN,zY,T⟩:=O.obj;have hg:PE X (.Name x np) (tC<|.ref C):=Hi rD O.bound rfl hd;refine wpAny_Raise_call_subT (C:=C) (nm:=nm) (q:=q) (N:=N) (bs:=bs) (bm:=tl) (hdct:=hdct) (sn:=sn) (sub:=sub) (ab:=ab) (col:=col) (dd:=dd) (k0:=k0) (k1:=k1) (k2:=k2) (k3:=k3) (k5:=k5)
  FB (mN:=mN) (T.hasType FB.hasBase) (I.ok.hd hc) (by rw[hs];show(false ||(backTo ei<|starEach es X.env).any (·.1))=false;rw[h1];rfl) zY
  (aU (hg y' s σ H (λv H1=>v=.ref C/\Dd C E t D σ H1) I ⟨rfl,h⟩) λf s1 ⟨v,H1,I1,r1,ev,q1⟩=>?_)
 subst ev;obtain rfl:f=Value.ref C:=r1;refine⟨rfl,?_⟩;have hA:=ha ei y' s1 σ H1 _ I1 q1;rw[hs] at hA⊢;refine UV<|aU hA λus s2 ⟨vs,H2,I2,r2,hl,q2⟩=>⟨rfl,?_,I2.bk _ _ hC,hN.keeps I2.bk,T.keeps I2.bk,λh' e' hm=>hR y' σ H2 s2 h' e' _ _ I2 hm q2⟩;have:=r2.length;show us.length<=sizeLine;lia
end
theorem JS{P:ww}{w:wE}{l:tz}{H H':Hp}{h h1 h' B:wT}(u:Un (cw l) [] H H' h h1)(aF:cC P w H' h1)(fr:h1.FunFrames B l)
  (c1:∀b,H' b≠none->∀o,h1.get? b=some o->B.get? b=some o) (c2:∀b o,h.get? b=some o->b∉cw l->∀o',h1.get? b=some o'->B.get? b=some o') (st:B.StaysIn h') (up:h1.UpToSlots h'):
  Un (cw l) [] H H' h h'/\cC P w H' h'/\(∀b,H' b≠none->∀o,h'.get? b=some o->B.get? b=some o)/\(∀b o,h.get? b=some o->b∉cw l->∀o',h'.get? b=some o'->B.get? b=some o'):=by
 have lV:∀b o,H' b≠none->h1.get? b=some o->h'.get? b=some o:=λb o hb ho=>st b o (c1 b hb o ho);have into:∀b o,h.get? b=some o->b∉cw l->∀o',h1.get? b=some o'->h'.get? b=some o':=λb o hb hn o' eL=>st b o' (c2 b o hb hn o' eL);have hU:∀b∈cw l,∀o,h1.get? b=some o->∃sl,h'.get? b=some {o with slots:=sl}:=λb hb o ho=>by
  obtain⟨o1,jf,hd⟩:=(fr.mem hb).2;rw[ho] at jf;cases jf;exact up b o ho hd
 refine⟨⟨λb o q n hn _=>into b o q hn o<|u.keep b o q n hn zae,λb o q n hn _=>?_,u.free,λb o q _=>?_,u.eg,u.gJ,u.ij⟩,aF.zW<|λb o hb ho=>lV b o hb ho,λb hb o ho=>?_,λb o q hn o' eL=>?_⟩
 ·obtain⟨sl,q1⟩:=u.slot b o q n hn zae;obtain⟨wb,q2⟩:=hU b hn _ q1;exact⟨wb,q2⟩
 ·obtain⟨o1,q1⟩:=u.there b o q zae;by_cases hm:b∈cw l
  ·obtain⟨sl,q3⟩:=hU b hm o1 q1;exact⟨_,q3⟩
  ·exact⟨o1,into b o q hm o1 q1⟩
 ·obtain⟨gm,hH⟩:=zbJ.mp hb;obtain⟨o2,q2⟩:=(aF b gm hH).zV;have q3:=lV b o2 hb q2;rw[q3] at ho;cases ho;exact c1 b hb _ q2
 ·obtain⟨o2,q2⟩:=u.there b o q zae;have q3:=into b o q hn o2 q2;rw[q3] at eL;cases eL;exact c2 b o q hn _ q2
def Cx.alt(X:Cx)(A:wP)(calm:xz)(pn:ad)(xe:aW):Cx:={X with A:=A,calm:=calm,pn:=pn,xe:=xe}
theorem Inv.alt{X:Cx}{y' X' pn':ad}{σ:St}{H:Hp}{s:wn}{A':wP}{calm':xz}{DD:aW}(I:Inv X y' σ H s)(hf:A'.frames=X.A.frames)(hc:calm'=true->A'.handled=none)(hp:∀p∈pn'++X',p∈X.pn++y'):
  Inv (X.alt A' calm' pn' DD) X' σ H s where
 ok:=⟨I.ok.mod,I.ok.kind,I.ok.glob,I.ok.blt,I.ok.above,I.ok.inj,I.ok.has,I.ok.yX,hc,hf.trans I.ok.frames,I.ok.ju,I.ok.G8,I.ok.bs,I.ok.oV,I.ok.yY,I.ok.yZ,I.ok.j1,I.ok.qT⟩
 os:=I.os
 bare:=I.bare
 base:=I.base
 loc:=I.loc
 cell:=I.cell
 free:=I.free
 iJ:=I.iJ
 pin:=λp h=>I.pin p (hp p h)
 aF:=I.aF
 len:=I.len
theorem Inv.zZ{X:Cx}{y' X' pn':ad}{σ:St}{H:Hp}{s:wn}{A':wP}{calm':xz}{DD:aW}(ok:X.Ok)(I:Inv (X.alt A' calm' pn' DD) X' σ H s)(hp:∀p∈X.pn++y',p∈pn'++X'):
  Inv X y' σ H s where
 ok:=ok
 os:=I.os
 bare:=I.bare
 base:=I.base
 loc:=I.loc
 cell:=I.cell
 free:=I.free
 iJ:=I.iJ
 pin:=λp h=>I.pin p (hp p h)
 aF:=I.aF
 len:=I.len
theorem Xh{P:ww}{w:wE}{H:Hp}{h:wT}{ea:wl}{ob:Obj}(h1:h.get? ea=some ob):cP P w H h ea (.bW ob nE):=
 ⟨h1,trivial,⟨ob,h1⟩,λ_ _ _ _=>trivial⟩
theorem cC.more{P:ww}{w:wE}{H:Hp}{h:wT}{a:wl}{o:HO}(ok:cC P w H h)(ha:H a=none)(x:cP P w (upd H a o) h a o):cC P w (upd H a o) h:=λb u e=>by
 by_cases z:b=a
 ·subst z;rw[aw] at e;cases e;exact x
 ·rw[aC z] at e;exact(ok b u e).oU (λ_ _ _ q=>q) (λc q=>by rw[aC<|aO q ha];exact q) (λc xs q=>by rw[aC<|aO q ha];exact q)
section
variable {X:Cx}
theorem Inv.Xi{y':ad}{σ:St}{H:Hp}{s:wn}{h':wT}{m':bv}{tk:Nat}(I:Inv X y' σ H s)(hn:h'.Ns X.env.locals m')(sb:Heap.SameBut X.env.locals s.heap h'):
  Inv X y' (List.replicate X.N.length none) H {s with heap:=h',toks:=tk} where
 ok:=I.ok
 os:=I.os
 bare:=I.bare
 base:=by
  have ne:∀b o,X.s₀.heap.get? b=some o->b≠X.env.locals:=λb o q z=>by
   rw[z] at q;exact absurd (Do q)<|Nat.not_lt.mpr I.ok.above
  refine⟨λb o q n hn hx=>(sb.2 b<|ne b o q).trans<|I.base.keep b o q n hn hx,λb o q n hn hx=>?_,I.base.free,λb o q hx=>?_,I.base.eg,I.base.gJ,I.base.ij⟩
  ·obtain⟨sl,e⟩:=I.base.slot b o q n hn hx;exact⟨sl,(sb.2 b<|ne b o q).trans e⟩
  ·obtain⟨o',e⟩:=I.base.there b o q hx;exact⟨o',(sb.2 b<|ne b o q).trans e⟩
 loc:=⟨m',hn,λi x v h1 h2=>by
  rw[List.getElem?_replicate] at h2
  split at h2<;>cases h2⟩
 cell:=λx c h=>by
  obtain⟨v,o,e,d⟩:=I.cell x c h;refine⟨v,o,(sb.2 c<|λz=>?_).trans e,d⟩;obtain⟨m,⟨o2,es,ep,e2,d2,_⟩,_⟩:=I.loc;rw[z,e2] at e;cases e;rw[d] at d2;cases d2
 free:=I.free
 iJ:=I.iJ
 pin:=λp hp=>by
  obtain⟨a,b,c,d,e⟩:=I.pin p hp;exact⟨(sb.2 _ c).trans a,b,c,d,e⟩
 aF:=I.aF.zW λb u hb hu=>(sb.2 b<|λz=>hb (by rw[z];exact I.free)).trans hu
 len:=zba
def RT(X:Cx)(nm:Option Str)(jg:Pos)(y':ad)(D:Ends):Result->wn->Prop:=λr J'=>match r with
 |.ok f=>match nm with
  |none=>SP X y' D f J'
  |some n=>wpAny (model X.prog X.w) X.A (do bindName X.env n .none;unbindBehindTheSuite X.env n jg) (λ_ P'=>SP X y' D f P') X.xe J'
 |.error x=>cameBackBy (model X.prog X.w) X.A X.env X.xe x J'
theorem JT{x:Str}{nm:Option Str}{C:wl}{i:Nat}{body:pi}{Y':wS}{nK:pi}{tb:XK->TS}{th:wl->TS}{np jg pos:Pos}(i9:X.stack=X.env::X.outer)(nJ:X.env.frame=some X.env.locals)(hex:X.ex=[])
  (rD:Gl X x) (hd:(x==("__debug__":Str))=false) (jy:X.mg x=some (.ref C))
  (hb:∀(pn:ad) (xe:aW) (E:XK),PassesOwn (model X.prog X.w) X.A X.env xe->Passes (fh X.prog X.w) (X.alt X.A X.calm pn xe) E->dg (X.alt X.A X.calm pn xe) body (tb E))
  (hk:∀(ea:wl) (y':ad) (D:Ends) (s5:wn) (K':St) (W:wn->Prop),X.Ok->wpAny (model X.prog X.w) (X.A.mark (some (.ref ea))) (setFlight (.ref ea) none) (λ_ s=>W s) (λ_ _=>False) s5->
   (∀s,W s->∃H8,Inv (X.alt (X.A.mark<|some<|.ref ea) false (X.pn++y') λ_ _=>False) [] K' H8 s/\th ea {nx:=λ_ _=>False,rt:=D.rt} (K'.set i<|some<|.ref ea) H8)->
   codeAny (model X.prog X.w) (X.A.mark (some (.ref ea))) (.handlers (.ref ea) [.ExceptHandler none nm (Y'::nK) jg] X.env) (RT X nm jg y' D) s5):
  PS X (.Try body [.ExceptHandler (some<|.Name x np) nm (Y'::nK) jg] [] [] pos) (pe X.K C i X.N.length tb th):=by
 intro y' s σ H D I h;refine wpAny_Try_except ?_;have P1:Passes (fh X.prog X.w) (X.alt X.A X.calm (X.pn++y') λe G'=>wpAny (model X.prog X.w) X.A (noteFrame e X.env) (λ_ J'=>wpAny (model X.prog X.w) X.A (setFlight e none) (λ_ P'=>wpAny (model X.prog X.w) X.A (handleBy e X.env [.ExceptHandler (some<|.Name x np) nm (Y'::nK) jg]) (SP X y' D) X.xe P') X.xe J') X.xe G') (De X.K C i X.N.length th D):=by
  intro X' K' H1 s1 e' s' I1 hx;obtain⟨ea,cls,t,B,H',rfl,os,bare,u,aF,fl,wL,kW,c1,c2,hm,Xj⟩:=hx;have Xk:X.A.frames=some (X.env::X.outer):=by rw[I.ok.frames,i9]
  have fl':Heap.FlyingW B (X.env::X.outer) ea cls (.ref t) s'.heap:=by rw[<-i9];exact fl
  refine Fk (wK JQ wL<|wpAny_looks_onW (Q:=λ_ iN=>∃h',iN={s' with heap:=h'}/\Heap.HeldW B (X.env::X.outer) ea cls (.ref t) X.env.locals h'/\s'.heap.UpToSlots h') (E:=λ_ _=>False) Xk nJ fl' λh4 DE DF=>⟨h4,rfl,DE,DF⟩)
   (λ_ s4 hq=>?_) (λ_ _ z=>z.1.elim)
  obtain⟨⟨h4,rfl,DE,DF⟩,Xl⟩:=hq;refine Fk (wK Dw Xl<|wpAny_landsW (s:={s' with heap:=h4}) (Q:=λ_ iN=>∃h',iN={s' with heap:=h'}/\Heap.FlyingW B (X.env::X.outer) ea cls (.ref t) h'/\h4.UpToSlots h') (E:=λ_ _=>False) DE λh5 uk DG=>⟨h5,rfl,uk,DG⟩)
   (λ_ s5 hq=>?_) (λ_ _ z=>z.1.elim)
  obtain⟨⟨h5,rfl,Xm,DG⟩,Xn⟩:=hq;have uk:Heap.FlyingW B X.stack ea cls (.ref t) h5:=by rw[i9];exact Xm
  obtain⟨u5,JU,Xo,Xp⟩:=JS (l:=X.stack) u aF fl.2.2.1 c1 c2 uk.1 (DF.trans DG);obtain⟨oe,ws,Xq,Xr,ai_,aja⟩:=uk.first
  have I5:=I1.B8 (s':={s' with heap:=h5}) (ch:=[]) os u5 JU bare (λb z=>absurd z zae)
  refine wpAny_handleBy_cons (codeAny_handlers_test ?_) (by intro q;cases q)
  have v3:Inv (X.alt (X.A.mark<|some<|.ref ea) false (X.pn++y') λ_ _=>False) [] K' H' {s' with heap:=h5}:=I5.alt (A':=X.A.mark (some<|.ref ea)) (calm':=false) (pn':=X.pn++y') (X':=[]) rfl (λz=>nomatch z) (λp hp=>zak.mpr<|.inl (by rw[zac] at hp;exact hp))
  refine vW v3 rD jy ?_ hd;have LT:PySem.W.Looks (model X.prog X.w) h5 (typeOf<|.ref ea) cls:=by
   subst Xr;exact(PySem.W.Looks.ld Xq).andThen .now
  refine(PySem.W.exm_one I5.du LT hm).here ?_;refine hk ea y' D _ K' _ I.ok (Fk (wK Dw Xn<|lands_againW (s:={s' with heap:=h5}) (Q:=λ_ iN=>∃h',iN={s' with heap:=h'}/\Heap.FlyingW B X.stack ea cls (.ref t) h'/\h5.UpToSlots h') (E:=λ_ _=>False) uk λh6 um DH=>⟨h6,rfl,um,DH⟩) (λ_ _ hq=>hq)<|λ_ _ z=>z.1.elim) λs6 hq=>?_
  obtain⟨⟨h6,rfl,um,DH⟩,Xs⟩:=hq;obtain⟨u6,Xt,c16,Xu⟩:=JS (l:=X.stack) u5 JU uk.2.2.1 Xo Xp um.1 DH;obtain⟨uo,JV,z7,Xv,DI,_⟩:=um.first
  have Xw:zO uo cls JV:=by
   obtain⟨o',vs',q1,q2,q3,q4⟩:=Xs;have mj:h6.get? ea=some o':=q1;rw[z7] at mj;cases mj;rw[DI] at q2;cases q2;exact⟨Xv,DI,q3,q4⟩
  have ne1:s1.heap.get? ea=none:=by
   cases q:s1.heap.get? ea with
   |none=>rfl
   |some o1=>
    by_cases JW:ea∈cw X.stack
    ·obtain⟨o2,gm,hd2⟩:=(um.2.2.1.mem JW).2;rw[z7] at gm;cases gm;exact(hd2 _ DI).elim
    ·have:=Xu ea o1 q JW uo z7;rw[um.2.1] at this;cases this
  have u7:Un (cw X.stack) [] H1 (upd H' ea (.bW uo nE)) s1.heap h6:=⟨u6.keep,u6.slot,λb o q n hx=>by
    rw[aC (λz=>by rw[z,ne1] at q;cases q)];exact u6.free b o q n hx,u6.there,λb xs q=>by
    have q':=u6.eg b xs q;rw[aC<|aO q' kW];exact q',λb o v q=>by
    have q':=u6.gJ b o v q;rw[aC<|aO q' kW];exact q',λb ps q=>by
    obtain⟨more,q'⟩:=u6.ij b ps q;exact⟨more,by rw[aC (aO q' kW)];exact q'⟩⟩
  have Xx:cC X.prog X.w (upd H' ea<|.bW uo nE) h6:=Xt.more kW (Xh z7);have I7:=I1.B8 (s':={s' with heap:=h6}) (ch:=[]) os u7 Xx bare (λb z=>absurd z zae)
  have I8:Inv (X.alt (X.A.mark<|some<|.ref ea) false (X.pn++y') λ_ _=>False) [] K' (upd H' ea<|.bW uo nE) {s' with heap:=h6}:=I7.alt (A':=X.A.mark (some<|.ref ea)) (calm':=false) (pn':=X.pn++y') (X':=[]) rfl (λz=>nomatch z) (λp hp=>zak.mpr<|.inl (by rw[zac] at hp;exact hp))
  exact⟨_,I8,Xj ea uo JV K' kW I1.len Xw⟩
 refine Fk (hb _ _ _ PassesOwn.looking P1 [] s σ H {nx:=D.nx,rt:=D.rt} (I.alt rfl I.ok.hd (λp hp=>by simpa using hp)) h) (λf s1 hs=>?_) λe' s' hx=>hx
 cases f with
 |next=>
  obtain⟨K',H',I',q⟩:=hs;exact Ht y' s1 K' H' D (I'.zZ I.ok (λp hp=>by simpa using hp)) q
 |brk=>obtain⟨_,_,_,z⟩:=hs;exact z.elim
 |cont=>obtain⟨_,_,_,z⟩:=hs;exact z.elim
 |ret v=>
  obtain⟨v',K',H',I',r,q⟩:=hs;exact⟨v',K',H',I'.zZ I.ok (λp hp=>by simpa using hp),r,q⟩
theorem Xy{x n:Str}{C:wl}{i:Nat}{body:pi}{Y':wS}{nK:pi}{tb:XK->TS}{th:wl->TS}{np jg pos:Pos}(i9:X.stack=X.env::X.outer)(nJ:X.env.frame=some X.env.locals)(hex:X.ex=[])
  (rD:Gl X x) (hd:(x==("__debug__":Str))=false) (jy:X.mg x=some (.ref C)) (nd:X.N.Nodup) (hN:X.N[i]?=some n) (zw:X.env.scope.names.lookup n=some .local)
  (hb:∀(pn:ad) (xe:aW) (E:XK),PassesOwn (model X.prog X.w) X.A X.env xe->Passes (fh X.prog X.w) (X.alt X.A X.calm pn xe) E->dg (X.alt X.A X.calm pn xe) body (tb E))
  (hh:∀(ea:wl) (pn:ad),dg (X.alt (X.A.mark<|some<|.ref ea) false pn λ_ _=>False) (Y'::nK)<|th ea):
  PS X (.Try body [.ExceptHandler (some<|.Name x np) (some n) (Y'::nK) jg] [] [] pos) (pe X.K C i X.N.length tb th):=
 JT i9 nJ hex rD hd jy hb λea y' D s5 K' W ok hw hW=>codeAny_handlers_suite_as (Fk hw (λ_ s6 w=>by
  obtain⟨H8,I8,h8⟩:=hW s6 w;refine B7 (X:=X.alt (X.A.mark<|some<|.ref ea) false (X.pn++y') λ_ _=>False) (v:=.ref ea) I8 nd hN (.inl zw) rfl (λs9 I9=>?_)<|.inr zw;refine Fk (hh ea (X.pn++y') [] s9 _ _ {nx:=λ_ _=>False,rt:=D.rt} I9 h8) (λf fi hs=>?_) λ_ _ z=>z.elim;cases f with
  |next=>obtain⟨_,_,_,z⟩:=hs;exact z.elim
  |brk=>obtain⟨_,_,_,z⟩:=hs;exact z.elim
  |cont=>obtain⟨_,_,_,z⟩:=hs;exact z.elim
  |ret v=>
   obtain⟨v',JX,kZ,DJ,r,q⟩:=hs;have JY:Inv X y' JX kZ fi:=DJ.zZ ok (λp hp=>by simpa using hp)
   obtain⟨m,hn,_⟩:=JY.loc;refine wpAny_nameGoes zw hn (by rw[ok.kind];rfl) λh' m' B4 sb=>?_
   exact⟨v',_,kZ,JY.Xi B4 sb,r,q⟩) λ_ _ z=>z.elim)
theorem Xz{x:Str}{C:wl}{body:pi}{Y':wS}{nK:pi}{tb:XK->TS}{th:wl->TS}{np jg pos:Pos}(i9:X.stack=X.env::X.outer)(nJ:X.env.frame=some X.env.locals)(hex:X.ex=[])
  (rD:Gl X x) (hd:(x==("__debug__":Str))=false) (jy:X.mg x=some (.ref C))
  (hb:∀(pn:ad) (xe:aW) (E:XK),PassesOwn (model X.prog X.w) X.A X.env xe->Passes (fh X.prog X.w) (X.alt X.A X.calm pn xe) E->dg (X.alt X.A X.calm pn xe) body (tb E))
  (hh:∀(ea:wl) (pn:ad),dg (X.alt (X.A.mark<|some<|.ref ea) false pn λ_ _=>False) (Y'::nK)<|th ea):
  PS X (.Try body [.ExceptHandler (some<|.Name x np) none (Y'::nK) jg] [] [] pos) (pe X.K C X.N.length X.N.length tb th):=
 JT i9 nJ hex rD hd jy hb λea y' D s5 K' W ok hw hW=>codeAny_handlers_suite (Fk hw (λ_ s6 w=>by
  obtain⟨H8,I8,h8⟩:=hW s6 w;rw[List.set_eq_of_length_le (show K'.length<=X.N.length from zaX I8.len)] at h8
  refine Fk (hh ea (X.pn++y') [] s6 _ _ {nx:=λ_ _=>False,rt:=D.rt} I8 h8) (λf fi hs=>?_) λ_ _ z=>z.elim;cases f with
  |next=>obtain⟨_,_,_,z⟩:=hs;exact z.elim
  |brk=>obtain⟨_,_,_,z⟩:=hs;exact z.elim
  |cont=>obtain⟨_,_,_,z⟩:=hs;exact z.elim
  |ret v=>
   obtain⟨v',JX,kZ,DJ,r,q⟩:=hs;exact⟨v',_,kZ,DJ.zZ ok (λp hp=>by simpa using hp),r,q⟩) λ_ _ z=>z.elim)
end
def iR(A:wP)(H:Hp):Prop:= ∃e D,A.handled=some (.ref e)/\ExcAt H e D
def Hd(X:Cx):Prop:=iR X.A X.H₀
theorem ExcAt.keeps{H H':Hp}{e D:wl}(h:ExcAt H e D)(k:∀b o u,H b=some (.bW o u)->H' b=some (.bW o u)):ExcAt H' e D:=by
 obtain⟨ob,vs,h1,h2⟩:=h;exact⟨ob,vs,k _ _ _ h1,h2⟩
theorem iR.keeps{A:wP}{H H':Hp}(h:iR A H)(k:∀b o u,H b=some (.bW o u)->H' b=some (.bW o u)):iR A H':=by
 obtain⟨e,D,h1,h2⟩:=h;exact⟨e,D,h1,h2.keeps k⟩
theorem iR.pk{P:ww}{w:wE}{A:wP}{H:Hp}{h:wT}(x:iR A H)(ok:cC P w H h):jE A h:=by
 obtain⟨e,D,h1,ob,vs,h2,h3⟩:=x;exact .inr ⟨e,ob,vs,h1,(ok e _ h2).1,h3.data,h3.We⟩
section
variable {X:Cx}{a:ad}{b:St}{H:Hp}{s:wn}
theorem Hd.at(h:Hd X)(I:Inv X a b H s):iR X.A H:=iR.keeps h I.base.gJ
theorem Hd.pk(h:Hd X)(I:Inv X a b H s):jE X.A s.heap:=(h.at I).pk I.aF
end
theorem XA{P:ww}{w:wE}{K:Frag}{tg:Expr}(a it:wl):C5 Hd P w K tg (iK K a) [it] it (λi h=>h.IsListIter it a i) where
 mem:=by simp
 obj:=(y9 (P:=P) (w:=w) (K:=K) (tg:=tg) a it).obj
 keep:=(y9 (P:=P) (w:=w) (K:=K) (tg:=tg) a it).keep
 item:=by
  intro X hP hw hK hc i y' s σ H E I hf st hg;subst hP hw hK;obtain⟨xs,x,hq,hx⟩:=hg;obtain⟨ay,rv,p,hz⟩:=I.list hq;obtain⟨u,hu,ru⟩:=rv.get hx;obtain⟨f0,f1,f2,f3,f4,f5⟩:=hf it (by simp)
  refine SZ st p.isList (x:=u) (by simpa using hu) λh' i_ sb=>?_
  have I1:Inv X y' σ H {s with heap:=h'}:=I.turned (t':=s.toks) (λb o hb e=>(sb.2 b hb).trans e) f0 f1 f3 f4 f5
  obtain⟨o,e,c,d⟩:=id i_;exact⟨u,rfl,Cd (s:={s with heap:=h'}) e c d (by decide) ⟨x,H,I1,ru,⟨rfl,λys hy=>by rw[I.Hr hy hq];exact hx⟩,i_,λb hb=>(hf b hb).1⟩⟩
 done:=by
  intro X hP hw hK hc i y' s σ H E I hf st hg;subst hP hw hK;obtain⟨xs,hq,hx⟩:=hg;obtain⟨ay,rv,p,hz⟩:=I.list hq;obtain⟨f0,f1,f2,f3,f4,f5⟩:=hf it (by simp)
  have hl:=rv.length;exact WN (hc.pk I) st p.isList (by simp;lia) λh' eb=>⟨rfl,I.turned (t':=s.toks) (λb o hb e=>eb b o hb e) f0 f1 f3 f4 f5⟩
 self:=(y9 (P:=P) (w:=w) (K:=K) (tg:=tg) a it).self
section
variable {X:Cx}{tg:Expr}
theorem XB{l:Expr}{tl:TE}(hl:PE X l tl):zD Hd X tg l (vY X.K tl):=by
 intro y' s σ H R I h;refine aU (hl y' s σ H _ I h) λv s1 ⟨x,H1,I1,r1,q1⟩=>?_;obtain⟨a,e,⟨xs,hq⟩,q⟩:=q1;subst e;cases r1;obtain⟨ay,rv,p,hz⟩:=I1.list hq;refine Tk p.isList ?_;refine⟨s1.heap.objs.size,[s1.heap.objs.size],_,_,H1,rfl,I1.kept (t':=s1.toks) λb o e=>EQ _ e,XA a _,⟨_,Gc _ rfl,rfl,rfl⟩,λb hb=>?_,q⟩;have e:b=s1.heap.objs.size:=by simpa using hb
 subst e;exact I1.Cc (zqR _)<|I1.aF.fresh<|zqR _
theorem XC{pos:Pos}{es:im}{k:Nat}{t:kN}{n:Nat}(hd:Hd X)(h:qY X es t)
  (hn:(assignEach es X.env).length=n:=by rfl) (i9:(assignEach es X.env).findIdx? (·.1)=none:=by rfl):PG X (.Tuple es k pos) (y8 X.K n t):=by
 intro y' s σ H v u Q I r hw;obtain⟨a,xs,e1,hq,hl,hw⟩:=hw;subst e1;cases r;obtain⟨ay,rv,ht,hz⟩:=I.tuple hq;refine WS (hd.pk I) ht (by simp[hn,<-hl,rv.length]) i9 λh' hx=>?_
 have I1:Inv X y' σ H {s with heap:=h'}:=I.kept (t':=s.toks) λb o e=>hx b o (zai<|Do e) e
 exact h y' _ σ H xs _ Q I1 (by simpa using rv) hw
theorem XD{scope:Scope}{fv:eJ}{x y:Str}{px py pos:Pos}{k:Nat}(hx:scope.names.lookup x=some .local)(hy:scope.names.lookup y=some .local)(rp:(x::y::fv.map (·.1)).Nodup):zE (iR X.A) X scope [x,y] fv (.Tuple [.Name x px,.Name y py] k pos) (some 2):=by
 intro ex C s H hH;generalize eX:iP X scope ([x,y]++fv.map (·.1)) ex C s H=Xc;have xN:Xc.N=x::y::fv.map (·.1):=by rw[<-eX];rfl
 have xd:Hd Xc:=by rw[<-eX];exact hH
 have lx:Xc.env.scope.names.lookup x=some .local:=by rw[<-eX];exact NE hx
 have ly:Xc.env.scope.names.lookup y=some .local:=by rw[<-eX];exact NE hy
 have p1:PG Xc (.Name x px) (fV 0):=tX (by rw[xN];exact rp) (by rw[xN];rfl) (.inl lx) (.inr lx)
 have p2:PG Xc (.Name y py) (fV 1):=tX (by rw[xN];exact rp) (by rw[xN];rfl) (.inl ly) (.inr ly)
 have xK:Xc.K=X.K:=by rw[<-eX];rfl
 refine⟨y8 Xc.K 2<|tY (fV 0)<|tY (fV 1) y7,XC xd<|vX p1<|vX p2 Cb,λv pre φ H' Q hp h=>?_⟩;obtain⟨a,b,rfl⟩:∃a b,pre=[a,b]:=by
  match pre,hp with
  |[a,b],_=>exact⟨a,b,rfl⟩
 obtain⟨a',xs,rfl,e2,e3,q⟩:=h;obtain⟨v1,v2,rfl⟩:∃v1 v2,xs=[v1,v2]:=by
  match xs,e3 with
  |[v1,v2],_=>exact⟨v1,v2,rfl⟩
 exact⟨a',_,rfl,by rw[xK];exact e2,rfl,v1,_,rfl,v2,_,rfl,rfl,q rfl⟩
theorem XE{X:Cx}:∀H,iR X.A H->∀Xc:Cx,Xc.A=X.A->Xc.calm=X.calm->Xc.H₀=H->Hd Xc:=λH h Xc a _ b=>by
 show iR Xc.A Xc.H₀;rw[a,b];exact h
theorem XF:dh X (.builtin "isinstance") (mh X.K):=by
 intro y' s σ H xs us Q I r h
 match xs,h with
 |[.ref ea,c],h=>
  obtain⟨D,b,⟨ob,vs,h1,h2⟩,hC,hc,hk,hq⟩:=h;cases r with
  |cons r1 r=>
   cases r with
   |cons r2 r=>
    cases r
    rename_i u1 u2
    cases (show u1=Value.ref ea from r1)
    have e2:u2=cV c:=by
     rcases hc with⟨C,rfl⟩|⟨n,rfl⟩
     ·exact r2
     ·exact r2
    subst e2;have at_:=(I.aF ea _ h1).1;have inst:InstAt s.heap ea ob D none:=⟨at_,h2.cls,by unfold PySem.W.notCls;rw[h2.data],by rw[h2.dict];trivial⟩
    exact kia_one (WV hC.wB hC.wC hC.hk hC.ha hC.hn hC.oW hC.hm hC.hb) I.du inst hk (λz=>nomatch z) λtk=>⟨.bl b,H,I.tok tk,rfl,hq⟩
end
structure iS (k:Nat) (A:wP):Prop where
 dp:A.depth+3*k+5<recursionLimit
 un:A.units+16*k+200<cLine
 gd:A.guards=some []:=by rfl
theorem dW.h{k:Nat}{A:wP}(r:dW k A):iS k A:=⟨r.dp,r.un,r.gd⟩
theorem iS.mark{k:Nat}{A:wP}(r:iS k A)(v:pp):iS k (A.mark v):=⟨r.dp,r.un,r.gd⟩
theorem iS.deeper{k:Nat}{A:wP}(r:iS (k+1) A)(env:Env):iS k (A.deeper env):=
 ⟨by have:=r.dp;show A.depth+1+3*k+5<_;lia,by have:=r.un;show A.units+3+16*k+200<_;lia,r.gd⟩
theorem iS.depth{k:Nat}{A:wP}(r:iS k A):A.depth<recursionLimit:=by have:=r.dp;lia
theorem iS.units{k:Nat}{A:wP}(r:iS k A):A.units+64<cLine:=by have:=r.un;lia
def XG(outer:tz)(P:ww)(w:wE)(H:Hp)(s:wn)(Q:VK)(r:Result)(s':wn):Prop:=
 match r with
 |.ok (.ret u)=>CE outer P w H s Q u s'
 |_=>False
structure rE (P:ww) (w:wE) (K:Frag) (mg:bv) (base:wT) (k:Nat) (f:wl) (fd:x0) (ps:ac) (sp:Sp):Prop where
 len:∀vs H Q E,sp vs H Q E->vs.length=ps.length
 run:∀(A:wP) (outer:tz) (s:wn) (H:Hp) (args:Args) (us:ce) (vs:be) (Q:VK),iS k A->iR A H->nh P w K mg base A outer s H->BindsTo s fd args (ps.zip us)->Vals vs us->sp vs H Q E0->
  codeAny (model P w) A (.call (.ref f) args) (XG outer P w H s Q) s
theorem rE.mono{P:ww}{w:wE}{K:Frag}{mg:bv}{base:wT}{j k:Nat}{f:wl}{fd:x0}{ps:ac}{sp:Sp}(F:rE P w K mg base j f fd ps sp)(h:j<=k):rE P w K mg base k f fd ps sp:=
 ⟨F.len,λA outer s H args us vs Q hr=>F.run A outer s H args us vs Q ⟨by have:=hr.dp;lia,by have:=hr.un;lia,hr.gd⟩⟩
def z8(CX:cE)(P:ww)(w:wE)(K:Frag)(mg:bv)(base:wT)(N:ac)(qual:Str)(scope:Scope)(f:wl)(cd:wv)(A:wP)(outer:tz)(s:wn)(H:Hp):Cx:=
 (nk CX P w K mg base N qual scope f cd {A with handled:=none} outer s H E0).alt (A.deeper<|envOfC qual scope s.heap.objs.size f cd) false [] λ_ _=>False
theorem XH{CX:cE}{P:ww}{w:wE}{K:Frag}{mg:bv}{base:wT}{k:Nat}{f:wl}{name qual:Str}{params:Arguments}{body:pi}{scope:Scope}{dV kV T' pm bI ct oc:wv}{an od:lm}
  {il:Array pp}{N ps:ac}{sp:Sp} (lk:K.lookup f=some ⟨oc,od,.func<|PySem.W.fnOf name qual params body scope dV kV T' pm an bI ct,il⟩) (i8:PySem.W.codeIn K bI qual=true) (S:oX N ps scope)
  (len:∀vs H Q E,sp vs H Q E->vs.length=ps.length)
  (Co:∀(A:wP) (outer:tz) (s:wn) (H:Hp) (vs:be) (Q:VK),iS k (A.deeper (envOfC qual scope s.heap.objs.size f bI))->iR A H->sp vs H Q E0->
   ∃t,dg (z8 CX P w K mg base N qual scope f bI A outer s H) body t/\t {nx:=λ_ H'=>Q .av H',rt:=Q} (start N vs) H):
  rE P w K mg base (k+1) f (PySem.W.fnOf name qual params body scope dV kV T' pm an bI ct) ps sp:=by
 refine⟨len,λA outer s H args us vs Q hr hh e0 hb r jw=>?_⟩;have hl:=len _ _ _ _ jw;have KX:K.In s.heap:=e0.mod.qS.keeps λb o e=>(e0.bs b o e).1;have lim:s.heap.NoLimit:=e0.mod.nolimit.keeps λb o e=>(e0.bs b o e).1;have Cp:∀y∈ps.zip us,scope.names.lookup y.1=some .local\/(scope.names.lookup y.1=some .cell/\((cellsFrom (s.heap.objs.size+1) scope.names []).lookup y.1).isSome=true):=λ⟨n,v⟩ hy=>by
  rcases S.par n (zbq hy).1 with q|q
  ·exact .inl q
  ·exact .inr ⟨q,cellsFrom_some _ _ _<|.inl q⟩
 refine codeAny_call_function hr.depth (KX _ _ lk) rfl S.co S.gen rfl (codeRec_of KX i8)<|hb _ _ _ _ ?_;refine wpAny_newFunctionEnv_cells S.kind Cp λenv he s1 x=>?_;subst he;refine⟨lim.keeps x.toInCall.keep,codeAny_func ?_⟩;obtain⟨t,ht,hq⟩:=Co A outer s H vs Q (hr.deeper _) hh jw;have XI:nh P w K mg base {A with handled:=none} outer s H:=⟨e0.frames,e0.mod,e0.bs,e0.oV,e0.j1,e0.qT,e0.aF,e0.bare⟩
 have I0:Inv (nk CX P w K mg base N qual scope f bI {A with handled:=none} outer s H E0) [] (start N vs) H s1:=Im S rfl XI hl r x
 have I:Inv (z8 CX P w K mg base N qual scope f bI A outer s H) [] (start N vs) H s1:=I0.alt rfl (λz=>nomatch z) (λp hp=>hp);refine Fk (ht [] s1 (start N vs) H _ I hq) (λfl s' hs=>?_) λe s' hs=>hs.elim;have V':∀{K':St}{H':Hp}{v:V}{u:wv},Inv (z8 CX P w K mg base N qual scope f bI A outer s H) [] K' H' s'->RelV v u->Q v H'->CE outer P w H s Q u s':=
  λ{K' H' v u} J rv q=>⟨v,H',J.os,J.bare,J.base,J.aF,rv,q⟩
 cases fl with
 |ret u=>
  obtain⟨v,K',H',J,rv,q⟩:=hs;exact V' J rv q
 |next=>
  obtain⟨K',H',J,q⟩:=hs;exact V' (v:=V.av) (u:=Value.none) J rfl q
 |brk=>
  obtain⟨_,_,_,q⟩:=hs;exact False.elim q
 |cont=>
  obtain⟨_,_,_,q⟩:=hs;exact False.elim q
theorem XJ{CX:cE}{P:ww}{w:wE}{K:Frag}{mg:bv}{base:wT}{N:ac}{qual:Str}{scope:Scope}{f:wl}{cd:wv}{A:wP}{outer:tz}{s:wn}{H:Hp}(h:iR A H):Hd (z8 CX P w K mg base N qual scope f cd A outer s H):=h
section
variable {X:Cx}{k:Nat}{f:wl}{c:x0}{a:ac}{d:Sp}{x:Str}{p g:Pos}{e:Expr}{b:TE}{i:lm}
theorem XM(F:rE X.prog X.w X.K X.mg X.base k f c a d)(hr:iS k X.A)(hg:Gl X x)(hm:X.mg x=some (.ref f))(hk:PySem.W.keepIn X.K (.ref f)=true)(hb:Binds X.K c a [])(hh:∀e,i=some e->X.A.handled=some (.ref e))
  (ha:PE X e b) (hs:noStar e=true) (nj:(x==("__debug__":Str))=false):PE X (.Call (.Name x p) [e] [] g) (Jz d i<|d0 b iM):=by
 intro y' s σ H Q I h;have he:starEach [e] X.env=(false,eval e X.env)::starEach [] X.env:=by cases e<;>first|rfl|cases hs
 refine KK<|vW I hg hm ?_ nj;have hA:PA X [e] (d0 b iM):=ng ha t_ he;refine callWith_K (h₀:=X.base) I.ok.mod.qS hk (aU (hA g y' s σ H _ I h) λus s1 ⟨vs,H1,I1,r,⟨ea,D,h1,h2⟩,q⟩=>⟨I1.du,?_⟩) he rfl;have r2:Vals vs us:=r;have hl:us.length=a.length:=by rw[<-r2.length];exact F.len _ _ _ _ q
 have o_:=hb s1 us I1.du (by rw[zac];exact hl)
 rw[zac] at o_;refine wpAny_call<|M2 (F.run X.A X.stack s1 H1 ⟨us,[]⟩ us vs Q hr ⟨ea,D,hh ea h1,h2⟩ I1.Ck o_ r2 q) λr s' hq=>?_;cases r with
 |error e=>exact False.elim hq
 |ok fl=>
  cases fl with
  |ret u=>exact I1.after hq
  |next=>exact False.elim hq
  |brk=>exact False.elim hq
  |cont=>exact False.elim hq
end
def JZ(CX:cE)(X:Cx)(x:Str)(sp:Sp):Prop:=
 ∃k f fd ps,c_ X.prog X.w X.K X.mg X.base CX k f fd ps sp/\dW k X.A/\X.mg x=some (.ref f)/\PySem.W.keepIn X.K (.ref f)=true/\Binds X.K fd ps []
def z9(CX:cE)(X:Cx)(C:wl)(m:Str)(sp:Sp):Prop:=
 fE X.K C/\∃k f fd ps,Meth X.K C m f/\c_ X.prog X.w X.K X.mg X.base CX k f fd ps sp/\dW k X.A/\Binds X.K fd ps []
def J0(CX:cE)(X:Cx)(x:Str)(C:wl)(sp:Sp):Prop:=
 ∃k f fd ps,Mk X.K C f/\c_ X.prog X.w X.K X.mg X.base CX k f fd ps sp/\dW (k+1) X.A/\X.mg x=some (.ref C)/\Binds X.K fd ps []
def J3(X:Cx)(x:Str)(sp:Sp):Prop:=
 ∃k f fd ps,rE X.prog X.w X.K X.mg X.base k f fd ps sp/\iS k X.A/\X.mg x=some (.ref f)/\PySem.W.keepIn X.K (.ref f)=true/\Binds X.K fd ps []
def J4(X:Cx)(x:Str)(C:wl):Prop:= ∃bm B Z' uj,OwnCls x C bm Z' X.mg X.base/\ExcBaseFacts B Z' uj bm
structure Good (CX:cE) (S:cX) (Γ:aS) (X:Cx):Prop where
 N:X.N=S.N
 sc:X.env.scope=S.sc
 K:X.K=Γ.K
 calm:S.md=0->X.calm=true
 units:X.A.units+64<cLine
 gd:X.A.guards=some []
 fns:S.md=0->∀j x,S.fn[j]?=some x->JZ CX X x (Γ.fs j)
 k6:∀j x,S.gn[j]?=some x->∃u,X.mg x=some u/\RelV (Γ.gv j) u
 fY:∀x,S.bl.contains x=true->X.mg x=none
 pass:Passes CX X Γ.E
 mq:∀outer H s e s',CX outer H s E0 e s'->False
 nN:∀p az,Γ.sd p az->∀h:wT,X.K.In h->∃vs,KV az vs/\h.DictOf (fU X.prog X.w) p vs
 nO:S.md=0->∀j m,S.mn[j]?=some m->z9 CX X (Γ.ms j).1 m (Γ.ms j).2
 pF:S.md=0->∀j x,S.kn[j]?=some x->J0 CX X x (Γ.kt j).1 (Γ.kt j).2
 uq:∀j x,S.en[j]?=some x->J4 X x (Γ.ex j)
 nQ:∀j x,S.hn[j]?=some x->J3 X x (Γ.hs j)
 pH:∀e,Γ.hv=some e->X.A.handled=some (.ref e)
 rF:S.md=1->Hd X
theorem z_{S:cX}(h:(if S.md=0 then 0 else 2)=0):S.md=0:=by
 split at h
 ·assumption
 ·cases h
section
variable {d:cE}{S:cX}{g:aS}{X:Cx}
theorem Good.inner(G:Good d S g X)(c:wH)(ln:ac)(fv:eJ)(ex:db)(C:wl)(s:wn)(H:Hp):
  Good d (JN S c ln fv) g.calm (iP X c.sc (ln++fv.map (·.1)) ex C s H) where
 N:=rfl
 sc:=by
  show relabel c.sc X.env=Dl c.sc S.sc;rw[<-G.sc];rfl
 K:=G.K
 calm:=λh=>G.calm (z_ h)
 units:=G.units
 gd:=G.gd
 fns:=λm j x h=>G.fns (z_ m) j x h
 k6:=G.k6
 fY:=G.fY
 pass:=λ_ _ _ _ _ _ _ h=>(G.mq _ _ _ _ _ h).elim
 mq:=G.mq
 nN:=G.nN
 nO:=λz j m h=>G.nO (z_ z) j m h
 pF:=λz j x h=>G.pF (z_ z) j x h
 uq:=λj x h=>by simp[JN] at h
 nQ:=λj x h=>G.nQ j x h
 pH:=λe h=>G.pH e h
 rF:=λh=>by
  have h':(if S.md=0 then 0 else 2)=1:=h
  split at h'<;>cases h'
theorem Good.gl(G:Good d S g X){x:Str}(h:nH S.sc x=true):Gl X x:=by
 show X.env.scope.names.lookup x=_;rw[G.sc];exact WD h
theorem dN{e:Expr}{es:im}{env:Env}(h:noStar e=true):starEach (e::es) env=(false,eval e env)::starEach es env:=by
 cases e<;>first|rfl|cases h
theorem o8{o:Expr}{x:Str}{env:Env}(h:pj o=true):attributeBase o x env (eval o env)=eval o env:=by
 unfold attributeBase
 split
 ·cases h
 ·rfl
theorem Aa{e:Expr}{env:Env}(h:wI e=true):∀x,foldedSetIterable e env x=pure x:=by
 intro x;cases e<;>first|rfl|cases h
def gL(es:im):xz:=es.all noStar
theorem k9(env:Env)(pos:Pos):∀(es:im),gL es=true->(backTo pos<|starEach es env).any (·.1)=false
 |[],h=>rfl
 |e::es,h=>by
  simp only[gL,zbc,zaa] at h
  rw[dN h.1];have ih:=k9 env pos es h.2;show(false ||(backTo pos<|starEach es env).any (·.1))=false;rw[ih];rfl
theorem Ab(env:Env)(pos:Pos):∀(es:im),gL es=true->(backTo pos<|starEach es env).all (λx=> !x.1)=true
 |[],h=>rfl
 |e::es,h=>by
  simp only[gL,zbc,zaa] at h
  rw[dN h.1];have ih:=Ab env pos es h.2;show(!false && (backTo pos<|starEach es env).all (λx=> !x.1))=true;rw[ih];rfl
theorem dX{e:Expr}{es:im}(h:gL (e::es)=true):noStar e=true/\gL es=true:=by
 simp only[gL,zbc,zaa] at h
 exact h
theorem J5(G:Good d S g X){c:wH}{ln:ac}{fv:eJ}(h:Dp S c ln fv=true):
  l7 X c.sc ln fv/\(∀x∈ln,if ln.length=1 then Loc c.sc x else c.sc.names.lookup x=some .local)/\(ln++fv.map (·.1)).Nodup/\wI c.iter=true:=by
 simp only[Dp,zaa,Ev,zbk,zbx] at h
 obtain⟨⟨⟨⟨⟨⟨⟨h1,h2⟩,h3⟩,h4⟩,h5⟩,h6⟩,h7⟩,h8⟩:=h;refine⟨⟨h1,λy hy hl=>(h2 y hy).resolve_left λz=>z hl,λy hy hl=>?_,λy hy hf=>?_,λp hp=>?_⟩,λx hx=>?_,h7,h8⟩
 ·rcases h3 y hy with z|z
  ·exact absurd hl z
  ·exact z
 ·show X.env.scope.names.lookup y.1=_\/X.env.scope.names.lookup y.1=_;rw[G.sc];rcases h4 y hy with(z|z)|z
  ·exact absurd hf z
  ·exact .inl z
  ·exact .inr z
 ·rw[G.N];exact h5 p hp
 ·rcases h6 x hx with z|z
  ·split
   ·exact .inl z
   ·exact z
  ·rw[BT z.1];exact .inr z.2
theorem XN(hc:X.calm=true){c:wH}{tk:v4}{ln:ac}{fv:eJ}(h:Dm tk c.tg=some ln)(hl:∀x∈ln,if ln.length=1 then Loc c.sc x else c.sc.names.lookup x=some .local)(hn:(ln++fv.map (·.1)).Nodup):
  zF X c.sc ln fv c.tg tk:=by
 unfold Dm at h
 split at h
 ·rename_i x p he
  cases h;rw[he];exact VL (hl x (by simp)) hn
 ·rename_i x p y q k pos he
  cases h;rw[he];exact VN hc (hl x (by simp)) (hl y (by simp)) hn
 ·cases h
theorem XO{xs:be}{H:Hp}{Q:VK}{K:Frag}(h:kT K .int xs H Q):(∃i,xs=[.int i]/\Q (.int i) H)\/∃k,xs=[.bl k]/\Q (.int (if k then 1 else 0)) H:=by
 match xs,h with
 |[.int i],h=>exact .inl ⟨i,rfl,h⟩
 |[.bl k],h=>exact .inr ⟨k,rfl,h⟩
theorem XQ{K:Frag}{x:V}{H:Hp}{Q:Nat->Prop}(h:ub K x H Q):∃n,HZ K x H n/\Q n:=by
 match x,h with
 |.str y,h=>exact⟨_,⟨h.1,rfl⟩,h.2⟩
 |.ref p,.inl ⟨xs,a,b⟩=>exact⟨_,.inl ⟨xs,a,rfl⟩,b⟩
 |.ref p,.inr ⟨xs,a,b⟩=>exact⟨_,.inr ⟨xs,a,rfl⟩,b⟩
inductive XR (X:Cx) (b:nF):Prop where
 |fn (id:zn) (hv:bootBuiltins b.nm=some (.builtin id)) (hc:dh X (.builtin id) (kT X.K b))
 |ty (T:zn) (hv:bootBuiltins b.nm=some (.type T)) (hc:dh X (.type T) (kT X.K b))
theorem boot_min:bootBuiltins "min"=some (.builtin "min"):=by decide+kernel
theorem boot_max:bootBuiltins "max"=some (.builtin "max"):=by decide+kernel
theorem boot_abs:bootBuiltins "abs"=some (.builtin "abs"):=by decide+kernel
theorem boot_sum:bootBuiltins "sum"=some (.builtin "sum"):=by decide+kernel
theorem J6:bootBuiltins "isinstance"=some (.builtin "isinstance"):=by decide+kernel
theorem XS:bootBuiltins "int"=some (.type "int"):=by decide+kernel
theorem J7:bootBuiltins "list"=some (.type "list"):=by decide+kernel
theorem XT:bootBuiltins "tuple"=some (.type "tuple"):=by decide+kernel
theorem DK(f:Nat->Int)(lt:Nat->Nat->xz)(h:∀i j,lt i j=decide (f i<f j)):∀n,argBest lt n<=n/\∀i,i<=n->f (argBest lt n)<=f i
 | 0=>⟨zqR _,λi hi=>by
   obtain rfl:i=0:=by lia
   exact zaI _⟩
 |n+1=>by
  obtain⟨a,b⟩:=DK f lt h n;have e:argBest lt (n+1)=if lt (n+1) (argBest lt n)=true then n+1 else argBest lt n:=rfl
  rw[e,h]
  split
  ·rename_i q
   have q:=IO q;refine⟨zqR _,λi hi=>?_⟩;by_cases z:i=n+1
   ·rw[z];exact zaI _
   ·have:=b i (by lia);lia
  ·rename_i q
   have q:¬f (n+1) <f (argBest lt n):=λz=>q (zqT z);refine⟨by lia,λi hi=>?_⟩
   by_cases z:i=n+1
   ·rw[z];lia
   ·exact b i (by lia)
theorem J8{xs:Array (Int×Tok)}{i:Nat}(h:i<xs.size):numAt xs i=xs[i].1:=by
 unfold numAt;rw[Array.getElem?_eq_getElem h];rfl
theorem J9{xs:Array (Int×Tok)}{i:Nat}(h:i<xs.size):numAt xs i∈xs.toList.map (·.1):=by
 rw[J8 h];exact List.mem_map.mpr ⟨xs[i],by simp,rfl⟩
theorem J_{xs:Array (Int×Tok)}{n:Int}(h:n∈xs.toList.map (·.1)):∃i,i<xs.size/\n=numAt xs i:=by
 obtain⟨y,hy,rfl⟩:=List.mem_map.mp h;obtain⟨i,hi,rfl⟩:=List.getElem_of_mem hy;have ip:i<xs.size:=by simpa using hi
 exact⟨i,ip,by rw[J8 ip];simp⟩
theorem Ka{y':ad}{σ:St}{H:Hp}{s:wn}{p:wl}{ns:pr}(I:Inv X y' σ H s)(hq:aE X.K H p (ns.map V.int)):∃xs:Array (Int×Tok),s.heap.IsList p (intItems xs)/\ns=xs.toList.map (·.1):=by
 obtain⟨ay,rv,pl,hz⟩:=I.list hq;have hi:=intsAre_of rv;obtain⟨xs,hx⟩:=hi.allInts.items;refine⟨xs,hx ▸ pl.isList,?_⟩;rw[<-nums_intItems,<-hx];exact(show numsOf ay.toArray.toList=ns from hi.numsOf).symm
theorem XU(hc:X.calm=true):dh X (.builtin "min") (λxs H Q=>∃(p:wl) (ns:pr),xs=[.ref p]/\aE X.K H p (ns.map V.int)/\ns≠ []/\∀m:Int,m∈ns->(∀n∈ns,m<=n)->Q (.int m) H):=by
 intro y' s σ H xs us Q I r h;obtain⟨p,ns,rfl,hq,fX,q⟩:=h;obtain⟨u,rfl,ru⟩:=vals1 r;cases ru;obtain⟨xs,hl,rfl⟩:=Ka I hq;have sz:0<xs.size:=Nat.pos_of_ne_zero λz=>fX (by rw[zbK z];rfl)
 refine min_intList (I.ok.hd hc) hl sz λv h' tk hv hk=>?_;obtain⟨t,rfl⟩:=intItems_at hv;obtain⟨b1,b2⟩:=DK (numAt xs) (λi j=>decide<|numAt xs i<numAt xs j) (λ_ _=>rfl) (xs.size - 1);refine⟨.int _,H,I.kept (t':=tk) hk,⟨t,rfl⟩,q _ (J9 (by lia)) λn hn=>?_⟩
 obtain⟨i,hi,rfl⟩:=J_ hn;exact b2 i (by lia)
theorem XW(hc:X.calm=true):dh X (.builtin "max") (λxs H Q=>∃(p:wl) (ns:pr),xs=[.ref p]/\aE X.K H p (ns.map V.int)/\ns≠ []/\∀m:Int,m∈ns->(∀n∈ns,n<=m)->Q (.int m) H):=by
 intro y' s σ H xs us Q I r h;obtain⟨p,ns,rfl,hq,fX,q⟩:=h;obtain⟨u,rfl,ru⟩:=vals1 r;cases ru;obtain⟨xs,hl,rfl⟩:=Ka I hq;have sz:0<xs.size:=Nat.pos_of_ne_zero λz=>fX (by rw[zbK z];rfl)
 refine max_intList (I.ok.hd hc) hl sz λv h' tk hv hk=>?_;obtain⟨t,rfl⟩:=intItems_at hv;obtain⟨b1,b2⟩:=DK (λi=> - numAt xs i) (λi j=>decide<|numAt xs i>numAt xs j) (λi j=>decide_eq_decide.mpr (by lia)) (xs.size - 1)
 refine⟨.int _,H,I.kept (t':=tk) hk,⟨t,rfl⟩,q _ (J9 (by lia)) λn hn=>?_⟩
 obtain⟨i,hi,rfl⟩:=J_ hn;have:=b2 i (by lia)
 lia
theorem XX{x:Str}{N':j_}(h:ItemsOf (SignAt x) N' x.cps.size):Vals (signs x) N'.toList:=by
 have go:∀(l:bn) (us:ce),us.length=l.length->(∀(j:Nat) (v:wv),us[j]?=some v->∃(c:Nat) (t:Tok),l[j]?=some c/\v=Value.str ⟨#[c]⟩ t)->Vals (l.map λc=>V.str ⟨#[c]⟩) us:=by
  intro l
  induction l with
  |nil=>
   intro us hl _;rw[zaD.mp hl];exact .nil
  |cons c l ih=>
   intro us hl hv;cases us with
   |nil=>cases hl
   |cons u us=>
    obtain⟨c',t,e1,e2⟩:=hv 0 u rfl;have rm:c=c':=by simpa using e1
    subst rm;exact .cons ⟨t,e2⟩ (ih us (by simpa using hl) λj v hj=>by
     obtain⟨c2,t2,g1,g2⟩:=hv (j+1) v (by simpa using hj)
     exact⟨c2,t2,by simpa using g1,g2⟩)
 refine go x.cps.toList N'.toList ?_ λj v hj=>?_
 ·have:=h.1;simpa using this
 ·obtain⟨c,t,e1,e2⟩:=h.2 j v (by simpa using hj)
  exact⟨c,t,by simpa using e1,e2⟩
theorem XY(x:Str):(signs x).length=x.length:=by simp[signs,Str.length]
theorem XZ(hc:X.calm=true):dh X (.type "list") (λxs H Q=>∃x,xs=[.str x]/\x.length<=sizeLine/\∀l,H l=none->Q (.ref l) (upd H l<|.lst<|signs x)):=by
 intro y' s σ H xs us Q I r h;obtain⟨x,rfl,hx,q⟩:=h;obtain⟨u,rfl,t,rfl⟩:=vals1 r;refine call_list_str (I.ok.hd hc) x t (λh' tk wu c' hk e DL=>?_) hx;have rv:=XX DL;exact⟨.ref s.heap.objs.size,_,I.laid (t':=tk) hk (zqR _) (show cP X.prog X.w _ h' _ (.lst<|signs x) from⟨by rw[XY];exact hx,wu.toList,c',rv,by simpa using e⟩),rfl,q _<|I.aF.fresh<|zqR _⟩
theorem X0{pos:Pos}:PE X (.Dict [] [] pos) JG:=λy' s σ H Q I h=>by
 have big:sysModules<s.heap.objs.size:=Sc (by decide) (I.mod.glob.keeps I.bk).lt
 have ok:cP X.prog X.w (upd H s.heap.objs.size<|.dK []) (s.heap.push {cls:=.type "dict",data:=.dict #[]}) s.heap.objs.size (.dK []):=
  ⟨zqZ _,beq_eq_false_iff_ne.mpr<|Fa<|zai big,[],.nil,Heap.DictOf.new s.heap⟩
 exact wpAny_Dict_empty ⟨.ref s.heap.objs.size,_,I.laid (t':=s.toks) (λ_ _ q=>EQ _ q) (zqR _) ok,rfl,h _<|I.aF.fresh<|zqR _⟩
theorem X1(hc:X.calm=true)(b:nF):XR X b:=by
 cases b with
 |len=>exact .fn "len" boot_len (dh.imp Td λxs H Q h=>by
   rcases xs with _|⟨x,_|⟨_,_⟩⟩ <;>(try exact False.elim h)
   obtain⟨n,h1,h2⟩:=XQ (Q:=λn=>Q (.int n) H) h;exact⟨x,n,rfl,h1,h2⟩)
 |min=>exact .fn "min" boot_min (dh.imp ((Tb hc).or (XU hc)) λxs H Q h=>by
   match xs,h with
   |[.int i,.int j],h=>exact .inl ⟨i,j,rfl,h⟩
   |[.ref p],⟨ns,h1,h2,h3⟩=>exact .inr ⟨p,ns,rfl,h1,h2,h3⟩)
 |max=>exact .fn "max" boot_max (dh.imp ((Ta hc).or (XW hc)) λxs H Q h=>by
   match xs,h with
   |[.int i,.int j],h=>exact .inl ⟨i,j,rfl,h⟩
   |[.ref p],⟨ns,h1,h2,h3⟩=>exact .inr ⟨p,ns,rfl,h1,h2,h3⟩)
 |sum=>exact .fn "sum" boot_sum (dh.imp (V3 hc) λxs H Q h=>by
   rcases xs with _|⟨x,_|⟨_,_⟩⟩ <;>(try exact False.elim h) <;>cases x<;>(try exact False.elim h)
   obtain⟨ns,h1,h2⟩:=h;exact⟨_,ns,rfl,h1,h2⟩)
 |abs=>exact .fn "abs" boot_abs λ_ _ _ _ xs _ _ _ _ h=>by rcases xs with _|⟨y0,_|⟨y1,_⟩⟩ <;>first|exact False.elim h| (cases y0<;>exact False.elim h)
 |int=>exact .ty "int" XS (dh.imp Tc λxs H Q h=>XO h)
 |list=>exact .ty "list" J7 (dh.imp (Uq.or (XZ hc)) λxs H Q h=>by
   rcases xs with _|⟨x,_|⟨_,_⟩⟩ <;>(try exact False.elim h) <;>cases x<;>(try exact False.elim h)
   ·exact .inr ⟨_,rfl,h.1,h.2⟩
   ·obtain⟨ys,h1,h2⟩:=h;exact .inl ⟨_,ys,rfl,h1,h2⟩)
 |tuple=>exact .ty "tuple" XT λ_ _ _ _ xs _ _ _ _ h=>by rcases xs with _|⟨y0,_|⟨y1,_⟩⟩ <;>first|exact False.elim h| (cases y0<;>exact False.elim h)
structure X3 (X:Cx) (m:je) (id:zn):Prop where
 pa:PlainAttrs (zT m)
 slot:Slot (zT m) m.nm id
 ty:typeOf (.builtin id)=pure (.type "method_descriptor")
 mt:rg X id (Dh X.K m)
theorem X5{az:ii}{vs:List (Key×wv)}(r:KV az vs)(k:Key){v:V}(h:rB az k=some v):∃u,valueAt vs k=some u/\RelV v u:=by
 unfold KV at r
 induction r with
 |nil=>cases h
 | @cons p q ps qs hh t ih=>
  obtain⟨h1,h2⟩:=hh;by_cases e:p.1=k
  ·have e':q.1=k:=h1.symm.trans e;have b:valueAt (q::qs) k=some q.2:=by simp[valueAt,zaH,e']
   have a:rB (p::ps) k=some p.2:=by simp[rB,zaH,e]
   rw[a] at h;cases h;exact⟨_,b,h2⟩
  ·have e':¬q.1=k:=λz=>e (h1.trans z);have b:valueAt (q::qs) k=valueAt qs k:=by simp[valueAt,zaH,e']
   have a:rB (p::ps) k=rB ps k:=by simp[rB,zaH,e]
   rw[a] at h;rw[b];exact ih h
theorem X6{sd:wl->ii->Prop}(DM:∀p az,sd p az->∀h:wT,X.K.In h->∃vs,KV az vs/\h.DictOf (fU X.prog X.w) p vs):lY X (JH sd):=by
 intro value ZB y' s σ H x y v u Q I rx ry h hs;obtain⟨p,az,k,z,rfl,rfl,hq,he,q⟩:=h;cases rx;obtain⟨vs,r,dd⟩:=DM p az hq s.heap I.du;obtain⟨w,ew,kP⟩:=X5 r k he;exact Uf (x:=w) dd.mapOf.typeIs PySem.F.slot_dict_getitem.lookup
  (wpAny_getItem_of (Q:=λr s'=>r=w/\EP X y' σ Q r s') (wq ry) dd.mapOf ew ⟨rfl,z,H,I.tok _,kP,q⟩) hs
theorem X7{sd:wl->ii->Prop}(DM:∀p az,sd p az->∀h:wT,X.K.In h->∃vs,KV az vs/\h.DictOf (fU X.prog X.w) p vs):lY X (rC X.K sd):=Ud.or (Ue.or<|Ug.or<|X6 DM)
theorem X8:rg X "list.index" (λx vs H Q=>∃(l:wl) (y:V) (xs:be),x=.ref l/\vs=[y]/\aE X.K H l xs/\jc y=true/\xs.all jc=true/\g_ y xs=true/\Q (.int (xs.findIdx (λz=>iO z y):Nat)) H):=by
 intro y' s σ H x vs v us Q I rx rv h;obtain⟨l,y,xs,rfl,rfl,hq,fy,fs,DB,q⟩:=h;cases rx;obtain⟨u,rfl,ru⟩:=vals1 rv;obtain⟨ay,r,⟨⟨cls,dd,data,sl⟩,n,ho,hc,hd0,hd⟩,hz⟩:=I.list hq
 simp only at hc hd
 subst hc hd;have hlen:=r.length;have e:∀j (h1:j<ay.length) (h2:j<xs.length),gp y ay[j]=iO xs[j] y:=λj h1 h2=>by
  obtain⟨w,e1,r1⟩:=r.get (i:=j) (x:=xs[j]) (by simp[h2])
  have e2:=zax h1;rw[e1] at e2;rw[<-zaj e2];exact Cy r1<|zbk.mp fs _<|zby h2
 have hj:xs.findIdx (λz=>iO z y) <xs.length:=List.findIdx_lt_length.mpr (List.any_eq_true.mp DB);have hn:=q_;refine Ix PySem.F.slot_list_index ⟨_,ho,rfl⟩ PySem.F.entry_list_index (PySem.F.args_list_index_2 _ _)
  (PySem.SeqAt.list_indexAt l ay.toArray n dd sl u (gp y) (xs.findIdx λz=>iO z y) (by simp;lia) (by lia) ?_ ?_) ⟨ho,λz nR=>we ru fy r fs z (by simpa using nR),⟨.int _,H,I.tok _,⟨_,rfl⟩,q⟩⟩
 ·show gp y ay[xs.findIdx λz=>iO z y]=true;rw[e _ (by lia) hj]
  exact List.findIdx_getElem (w:=hj)
 ·intro j X9 bY;show gp y ay[j]=false;rw[e j (by simpa using X9) (by lia)]
  simpa using List.not_of_lt_findIdx bY
theorem Kb(m:je):∃id,X3 X m id:=by
 cases m with
 |append=>exact⟨_,IR,Wp,F.type_list_append,λy' s σ H x xs v us Q I rx rv h=>by
   cases x<;>(try exact False.elim h) <;>rcases xs with _|⟨y0,_|⟨_,_⟩⟩ <;>(try exact False.elim h)
   obtain⟨zs,h1,h2,h3⟩:=h;exact Uz y' s σ H _ _ v us Q I rx rv ⟨_,zs,_,rfl,rfl,h1,h2,h3⟩⟩
 |pop=>exact⟨_,IR,F.slot_list_pop,F.type_list_pop,λy' s σ H x xs v us Q I rx rv h=>by
   cases x<;>(try exact False.elim h) <;>rcases xs with _|⟨_,_⟩ <;>(try exact False.elim h)
   obtain⟨zs,y,h1,h2,h3⟩:=h;exact UD y' s σ H _ _ v us Q I rx rv ⟨_,zs,y,rfl,rfl,h1,h2,h3⟩⟩
 |extend=>exact⟨_,IR,F.slot_list_extend,F.type_list_extend,λy' s σ H x xs v us Q I rx rv h=>by
   cases x<;>(try exact False.elim h) <;>rcases xs with _|⟨y0,_|⟨_,_⟩⟩ <;>(try exact False.elim h) <;>cases y0<;>(try exact False.elim h)
   obtain⟨ys,zs,h1,h2,h3,h4⟩:=h;exact UB y' s σ H _ _ v us Q I rx rv ⟨_,_,ys,zs,rfl,rfl,h1,h2,h3,h4⟩⟩
 |join=>exact⟨_,PP,F.slot_str_join,F.type_str_join,λy' s σ H x xs v us Q I rx rv h=>by
   cases x<;>(try exact False.elim h) <;>rcases xs with _|⟨y0,_|⟨_,_⟩⟩ <;>(try exact False.elim h) <;>cases y0<;>(try exact False.elim h)
   obtain⟨ts,h1,h2,h3⟩:=h;exact V4 y' s σ H _ _ v us Q I rx rv ⟨_,_,ts,rfl,rfl,h1,h2,h3⟩⟩
 |lstrip=>exact⟨_,PP,F.slot_str_lstrip,F.type_str_lstrip,λy' s σ H x xs v us Q I rx rv h=>by
   cases x<;>(try exact False.elim h) <;>rcases xs with _|⟨y0,_|⟨_,_⟩⟩ <;>(try exact False.elim h) <;>cases y0<;>(try exact False.elim h)
   obtain⟨h1,h2⟩:=h;exact Wa y' s σ H _ _ v us Q I rx rv ⟨_,_,rfl,rfl,h1,h2⟩⟩
 |starts=>exact⟨_,PP,F.slot_str_startswith,F.type_str_startswith,λy' s σ H x xs v us Q I rx rv h=>by
   cases x<;>(try exact False.elim h) <;>rcases xs with _|⟨y0,_|⟨y1,_|⟨_,_⟩⟩⟩ <;>(try exact False.elim h) <;>cases y0<;>(try exact False.elim h) <;>cases y1<;>(try exact False.elim h)
   exact Wc y' s σ H _ _ v us Q I rx rv ⟨_,_,_,rfl,rfl,h⟩⟩
 |find=>exact⟨_,PP,F.slot_str_find,F.type_str_find,λ_ _ _ _ x xs _ _ _ _ _ _ h=>by cases x<;>rcases xs with _|⟨y0,_|⟨y1,_⟩⟩ <;>first|exact False.elim h| (cases y0<;>exact False.elim h)⟩
 |count=>exact⟨_,PP,F.slot_str_count,F.type_str_count,λ_ _ _ _ x xs _ _ _ _ _ _ h=>by cases x<;>rcases xs with _|⟨y0,_|⟨y1,_⟩⟩ <;>first|exact False.elim h| (cases y0<;>exact False.elim h)⟩
 |reverse=>exact⟨_,IR,F.slot_list_reverse,F.type_list_reverse,λ_ _ _ _ x xs _ _ _ _ _ _ h=>by cases x<;>rcases xs with _|⟨y0,_|⟨y1,_⟩⟩ <;>first|exact False.elim h| (cases y0<;>exact False.elim h)⟩
 |index=>exact⟨_,IR,F.slot_list_index,F.type_list_index,λ_ _ _ _ x xs _ _ _ _ _ _ h=>by cases x<;>rcases xs with _|⟨y0,_|⟨y1,_⟩⟩ <;>first|exact False.elim h| (cases y0<;>exact False.elim h)⟩
 |JA=>exact⟨_,IR,F.slot_list_count,F.type_list_count,λ_ _ _ _ x xs _ _ _ _ _ _ h=>by cases x<;>rcases xs with _|⟨y0,_|⟨y1,_⟩⟩ <;>first|exact False.elim h| (cases y0<;>exact False.elim h)⟩
 |Df=>exact⟨_,IR,F.slot_list_index,F.type_list_index,λy' s σ H x xs v us Q I rx rv h=>by
   cases x<;>(try exact False.elim h) <;>rcases xs with _|⟨y0,_|⟨_,_⟩⟩ <;>(try exact False.elim h)
   obtain⟨zs,h1,h2,h3,h4,h5⟩:=h;exact X8 y' s σ H _ _ v us Q I rx rv ⟨_,_,zs,rfl,rfl,h1,h2,h3,h4,h5⟩⟩
 |clear=>exact⟨_,IR,F.slot_list_clear,F.type_list_clear,λy' s σ H x xs v us Q I rx rv h=>by
   cases x<;>(try exact False.elim h) <;>rcases xs with _|⟨_,_⟩ <;>(try exact False.elim h)
   obtain⟨zs,h1,h2⟩:=h;exact UH y' s σ H _ _ v us Q I rx rv ⟨_,zs,rfl,rfl,h1,h2⟩⟩
theorem X_{y':ad}{σ:St}{H:Hp}{s:wn}{T:Ty}{x:V}{u:wv}{Qb:xz->Prop}{Q:aW}{E:aW}(I:Inv X y' σ H s)(rx:RelV x u)(h:cy T x H Qb)
  (hq:∀b tk,Qb b->Q (.bool b) {s with toks:=tk}):wpAny (model X.prog X.w) X.A (call (.builtin "isinstance") [u,.type T.nm]) Q E s:=by
 match x,rx,h with
 |.av,rx,h=>exact m_ I rx (.av) (V2 _ T) λtk=>hq _ _ h
 |.bl b,rx,h=>exact m_ I rx (.bl b) (pd X.K .bool T) λtk=>hq _ _ (by cases T<;>exact h)
 |.int i,rx,h=>exact m_ I rx (.int i) (pd X.K .int T) λtk=>hq _ _ (by cases T<;>exact h)
 |.str i,rx,h=>exact m_ I rx (.str i) (pd X.K .str T) λtk=>hq _ _ (by cases T<;>exact h)
 |.ref a,rx,h=>
  cases e:H a with
  |none=>simp only[cy,e] at h
  |some o=>
   match o,e with
   |.lst xs,e=>simp only[cy,e] at h;exact m_ I rx (.lst e) (pd X.K .list T) λtk=>hq _ _ (by cases T<;>exact h)
   |.bW ob (.lst xs),e=>simp only[cy,e] at h;exact m_ I rx (.bW e) (pd X.K .list T) λtk=>hq _ _ (by cases T<;>exact h)
   |.tup xs,e=>simp only[cy,e] at h;exact m_ I rx (.tup e) (pd X.K .tuple T) λtk=>hq _ _ (by cases T<;>exact h)
   |.dK xs,e=>simp only[cy,e] at h;exact m_ I rx (.dK e) (pd X.K .dict T) λtk=>hq _ _ (by cases T<;>exact h)
   |.dT xs,e=>simp only[cy,e] at h;exact m_ I rx (.dT e) (pd X.K .dict T) λtk=>hq _ _ (by cases T<;>exact h)
   |.set _ _,e=>simp only[cy,e] at h
   |.ins _ _ _,e=>simp only[cy,e] at h
   |.own _,e=>simp only[cy,e] at h
   |.xd _,e=>simp only[cy,e] at h
   |.met _ _,e=>simp only[cy,e] at h
   |.jt _ _,e=>simp only[cy,e] at h
   |.lU _,e=>simp only[cy,e] at h
   |.ext _,e=>simp only[cy,e] at h
   |.bW ob (.tup xs),e=>simp only[cy,e] at h
   |.bW ob (.dK xs),e=>simp only[cy,e] at h
   |.bW ob (.dT xs),e=>simp only[cy,e] at h
   |.bW ob (.set _ _),e=>simp only[cy,e] at h
   |.bW ob (.ins _ _ _),e=>simp only[cy,e] at h
   |.bW ob (.own _),e=>simp only[cy,e] at h
   |.bW ob (.xd _),e=>simp only[cy,e] at h
   |.bW ob (.met _ _),e=>simp only[cy,e] at h
   |.bW ob (.jt _ _),e=>simp only[cy,e] at h
   |.bW ob (.lU _),e=>simp only[cy,e] at h
   |.bW ob (.ext _),e=>simp only[cy,e] at h
   |.bW ob (.bW _ _),e=>simp only[cy,e] at h
theorem Ya(T:Ty):bootBuiltins (Str.ofString T.nm)=some (.type T.nm):=by cases T<;>decide+kernel
theorem Yb(T:Ty):dh X (.builtin "isinstance") (pf T):=by
 intro y' s σ H xs us Q I r h
 match xs,r,h with
 |[x,.ty n],r,⟨e,h⟩=>
  subst e;obtain⟨u,w',rfl,ru,kP⟩:=vals2 r;cases kP;exact X_ I ru h λb tk hb=>⟨.bl b,H,I.tok tk,rfl,hb⟩
theorem Yc{T:Ty}{a:Expr}{ta:TE}{p q pos:Pos}(ha:PE X a ta)(hs:noStar a=true)(hg:Gl X "isinstance")(hm:X.mg "isinstance"=none)(Yd:Gl X (Str.ofString T.nm))(Ye:X.mg (Str.ofString T.nm)=none):
  PE X (.Call (.Name "isinstance" p) [a,.Name (Str.ofString T.nm) q] [] pos) (gK (pf T)<|d0 ta<|d0 (tC<|.ty T.nm) iM):=by
 have hT:PE X (.Name (Str.ofString T.nm) q) (tC<|.ty T.nm):=Hj Yd Ye (Ya T) rfl (by cases T<;>decide) (by cases T<;>decide)
 exact zm (Yb T) hg hm J6 (ng ha (ng hT t_ rfl)<|dN hs) (by decide) (by decide) (dN hs) rfl
theorem Yf:zt X (ui X.K):=by
 intro y' s σ H x v vl vu lo hi sl Q I rx hs pl pu h
 match x,rx,h with
 |.ref a,rx,.inl ⟨xs,h1,h2⟩=>exact Ul y' s σ H _ v vl vu lo hi sl Q I rx hs pl pu ⟨a,xs,rfl,h1,h2⟩
 |.ref a,rx,.inr ⟨xs,h1,h2,h3⟩=>exact Ua y' s σ H _ v vl vu lo hi sl Q I rx hs pl pu ⟨a,xs,rfl,h1,h2,h3⟩
 |.str z,rx,⟨h1,h2⟩=>
  obtain⟨t,rfl⟩:=rx;obtain⟨l,el,ml⟩:∃l:Option (Int×Tok),vl=partValue l/\l.map (·.1)=lo:=by
   cases pl with
   |none=>exact⟨none,rfl,rfl⟩
   |int i t=>exact⟨some (i,t),rfl,rfl⟩
  obtain⟨u,eu,mu⟩:∃u:Option (Int×Tok),vu=partValue u/\u.map (·.1)=hi:=by
   cases pu with
   |none=>exact⟨none,rfl,rfl⟩
   |int i t=>exact⟨some (i,t),rfl,rfl⟩
  subst el eu;refine⟨"str",_,F.slot_str_getitem.lookup,Pi _ _ _,?_⟩;refine wpAny_getItem_str_slice (l:=l) (u:=u) (st:=none) hs rfl ?_;obtain⟨b1,b2,b3⟩:=Cw lo hi z.length;have hp:slicePicked z l u none=(List.range<|HT.bu z.length z.length hi - HT.bu z.length 0 lo).map (HT.bu z.length 0 lo+ ·):=by
   show Builtin.Str.strSliceIndices (l.map (·.1)) (u.map (·.1)) 1 z.length=_;rw[ml,mu];have e0:Builtin.Str.strSliceIndices lo hi 1 z.length=sliceRange (sliceBounds lo hi none z.length).1 (sliceBounds lo hi none z.length).2.1 (sliceBounds lo hi none z.length).2.2:=rfl;rw[e0,b1,b2,b3,sliceRange_one]
  have hc:((slicePicked z l u none).filterMap (z.cps[·]?))=mf z.cps.toList lo hi:=by
   show(Builtin.Str.strSliceIndices (l.map (·.1)) (u.map (·.1)) 1 z.length).filterMap (z.cps[·]?)=_;rw[ml,mu,Wd]
  have hz:z.cps.toList.length=z.length:=by simp[Str.length]
  have hA:=HT.Cq z.length 0 (zqZ _) lo;have hB:=HT.Cq z.length z.length (zqR _) hi;unfold sliceMade;refine post_val_or_made (λ_=>?_) λt' k=>?_
  ·show(List.toArray ((slicePicked z l u none).filterMap (z.cps[·]?))).size<=sizeLine;rw[hc,zah];have:(mf z.cps.toList lo hi).length<=z.cps.toList.length:=by unfold mf;simp only[zav,zaC];lia
   lia
  ·have e:(if (((none:Option (Int×Tok)).map (·.1)).getD 1==1 && (slicePicked z l u none).length==z.length)=true then z else ⟨((slicePicked z l u none).filterMap (z.cps[·]?)).toArray⟩)=j7 z lo hi:=by
    split
    ·rename_i hq
     simp only[zaa,KB] at hq
     have iq:=hq.2;rw[hp,zaf,zaN] at iq;have a0:HT.bu z.length 0 lo=0:=by lia
     have b0:HT.bu z.length z.length hi=z.length:=by lia
     unfold j7 mf;rw[hz,a0,b0,<-hz,Nat.sub_zero,zbj,zaO]
    ·rw[hc];rfl
   rw[e];exact⟨.str _,H,I.tok k,⟨t',rfl⟩,h2⟩
theorem Yg:zb X (unaryOp .USub) JF:=by
 intro y' s σ H x v Q I rx h
 match x,rx,h with
 |.int i,rx,h=>exact SF y' s σ H _ v Q I rx ⟨i,rfl,h⟩
theorem Yh{a:Expr}{ta:TE}{pos:Pos}(ha:PE X a ta):PE X (.UnaryOp .Not a pos) (Dg X.K ta):=by
 intro y' s σ H Q I h;refine UnaryOp_<|aU (ha y' s σ H _ I h) λv s1 ⟨x,H1,I1,r1,q1⟩=>not_of ?_;exact aU (HY y' s1 σ H1 x v (λb H2=>Q (.bl<|!b) H2) I1 r1<|JE q1) λb s2 ⟨H2,I2,q2⟩=>⟨.bl<|!b,H2,I2,rfl,q2⟩
theorem ur{a:Expr}{ta:TE}(ha:PE X a ta)(he:∀whole,isTrue a X.env whole=(do let v <-whole;standAt a.pos;holding [v] (truthy v))):PT X a (gr X.K ta):=by
 intro y' s σ H Q I h;exact isTrue_plain (aU (ha y' s σ H _ I h) λv s1 ⟨x,H1,I1,r1,q1⟩=>HY y' s1 σ H1 x v Q I1 r1 (JE q1))<|he _
theorem Yi{m:je}{o e:Expr}{es:im}{to:TE}{t:TA}{W' ei:Pos}(ho:PE X o to)(ha:PA X (e::es) t)(hb:pj o=true)(hl:(W'.endLine==ei.line)=true)(hn:(e::es).length<29)
  (hs:starEach (e::es) X.env=(false,eval e X.env)::starEach es X.env) (h1:(backTo ei<|starEach es X.env).any (·.1)=false) (h2:(backTo ei<|starEach (e::es) X.env).all (λx=> !x.1)=true):
  PE X (.Call (.Attribute o m.nm W') (e::es) [] ei) (uh X.K m to t):=by
 obtain⟨id,M⟩:=Kb (X:=X) m;exact Uu M.pa M.slot M.ty M.mt ho ha (o8 hb) (by
  rw[h2];show(true && true && decide ((e::es).length+0+0<30))=true;rw[zqT (by lia)];rfl) hl hs h1
theorem Yj{m:je}{o:Expr}{to:TE}{W' ei:Pos}(ho:PE X o to)(hb:pj o=true)(hl:(W'.endLine==ei.line)=true):
  PE X (.Call (.Attribute o m.nm W') [] [] ei) (uh X.K m to iM):=by
 obtain⟨id,M⟩:=Kb (X:=X) m;exact Ut M.pa M.slot M.ty M.mt ho (o8 hb) hl
theorem Kc{o:Expr}{m:Str}{W' pos:Pos}{args:im}{Q:aW}{E:aW}{A:wP}{s:wn}{env:Env}{prog:ww}{w:wE}
  (hb:pj o=true) (hl:(W'.endLine==pos.line)=true) (hn:args.length<29) (hf:(backTo pos<|starEach args env).all (λx=> !x.1)=true)
  (h:wpAny (model prog w) A (eval o env) (λov s1=>∀pl,wpAny (model prog w) A (getMethod ov m pl) (λfx s2=>wpAny (model prog w) A (callWith pos fx.1 fx.2 (backTo pos<|starEach args env)<|backToKw pos<|keywordEach [] env) Q E s2) E s1) E s):
  wpAny (model prog w) A (eval (.Call (.Attribute o m W') args [] pos) env) Q E s:=by
 have Yk:methodCallForm (args.length+0) (backTo pos<|starEach args env) (backToKw pos<|keywordEach [] env)=true:=by
  show((backTo pos<|starEach args env).all (λx=> !x.1) && true && decide (args.length+0+0<30))=true;rw[hf,zqT (by lia)];rfl
 have line:methodCallPos true o env W' pos=pure pos:=by unfold methodCallPos;simp[hl]
 rw[arm_eval_Call,o8 hb];refine AC<|Fk h (λov s1 h1=>AC<|MZ ?_) λ_ _ e=>e;unfold methodCall;rw[show([]:List Keyword).length=0 from rfl,Yk]
 refine AC<|FM<|Fk (h1 _) (λfx s2 h2=>?_) λ_ _ e=>e;exact AC<|wpAny_of_eq line h2
theorem Yl{o e:Expr}{es:im}{to:TE}{t:TA}{W' pos:Pos}{C:wl}{m:Str}{sp:Sp}{E:XK}(M:z9 d X C m sp)(hx:Passes d X E)(ho:PE X o to)(ha:PA X (e::es) t)(hb:pj o=true)(hl:(W'.endLine==pos.line)=true)(hn:(e::es).length<29)
  (hs:starEach (e::es) X.env=(false,eval e X.env)::starEach es X.env) (h1:(backTo pos<|starEach es X.env).any (·.1)=false) (h2:(backTo pos<|starEach (e::es) X.env).all (λx=> !x.1)=true):
  PE X (.Call (.Attribute o m W') (e::es) [] pos) (ni C m sp [] E to t):=by
 obtain⟨c,k,f,fd,ps,hm,F,hr,DN⟩:=M;intro y' s σ H Q I h;refine Kc hb hl hn h2<|aU (ho y' s σ H _ I h) λu s1 ⟨x,H1,I1,rx,a,dx,fs,ex,ea,l,q⟩=>λpl=>?_;subst ex;obtain rfl:u=Value.ref a:=rx;refine Ib I1 ea c hm l ?_;refine callWith_K (first:=[.ref a]) (h₀:=X.base) I.ok.mod.qS hm.kp (aU (ha pos y' s1 σ H1 _ I1 q) λus s2 ⟨vs,H2,I2,r,q2⟩=>⟨I2.du,?_⟩) hs h1
 exact Cn (us:=.ref a::us) (vs:=.ref a::vs) F hr DN .nil hx I2 (.cons rfl r) q2
theorem Ym{o:Expr}{to:TE}{W' pos:Pos}{C:wl}{m:Str}{sp:Sp}{E:XK}(M:z9 d X C m sp)(hx:Passes d X E)(ho:PE X o to)(hb:pj o=true)(hl:(W'.endLine==pos.line)=true):
  PE X (.Call (.Attribute o m W') [] [] pos) (ni C m sp [] E to iM):=by
 obtain⟨c,k,f,fd,ps,hm,F,hr,DN⟩:=M;intro y' s σ H Q I h;refine Kc hb hl (by decide) rfl<|aU (ho y' s σ H _ I h) λu s1 ⟨x,H1,I1,rx,a,dx,fs,ex,ea,l,q⟩=>λpl=>?_
 subst ex;obtain rfl:u=Value.ref a:=rx;refine Ib I1 ea c hm l ?_;exact PySem.W.callWith_K0 (first:=[.ref a]) I1.du hm.kp<|Cn (us:=[.ref a]) (vs:=[.ref a]) F hr DN .nil hx I1 (.cons rfl .nil) q
variable {a:ww}{w:wE}{A:wP}{E:aW}{s:wn}
theorem Kd{it l:wl}{items:j_}(fX:l≠it):∀(n i:Nat) (s:wn) (Q:ce->wn->Prop),s.heap.IsListIter it l i->s.heap.IsList l items->i+n<=items.size->
  (∀h',h'.IsListIter it l (i+n)->Heap.SameBut it s.heap h'->Q ((items.toList.drop i).take n) {s with heap:=h'})->wpAny (model a w) A (draw (.ref it) n) Q E s
 | 0,i,s,Q,hit,_,_,hQ=>by
  show wpAny _ _ (pure []) Q E s;exact Ch (by simpa using hQ s.heap hit (Heap.SameBut.refl ..))
 |n+1,i,s,Q,hit,ht,hle,hQ=>by
  have bY:i<items.size:=by lia
  show wpAny _ _ (pyNext (.ref it) >>=_) Q E s;refine AC<|SZ hit ht (x:=items[i]) (by simp[bY]) λX4 wJ nI=>?_
  refine AC<|FM<|Kd fX n (i+1) _ _ wJ (ht.extBut nI.extBut fX) (by lia) λh₂ Yn Yo=>Ch ?_
  have hd:items.toList.drop i=items[i]::items.toList.drop (i+1):=by simp[zbl,bY]
  have:=hQ h₂ (by rw[show i+(n+1)=i+1+n by lia];exact Yn) (nI.trans Yo)
  rw[hd,List.take_succ_cons] at this;exact this
theorem Yp{t:wl}{items:j_}{Q:ce->wn->Prop}(hh:A.handled=none)(ht:s.heap.IsList t items)
  (hQ:∀h',Heap.ExtBut s.heap.objs.size s.heap h'->Q items.toList {s with heap:=h'}):wpAny (model a w) A (unpackItems (.ref t) items.size none) Q E s:=by
 have bY:t≠s.heap.objs.size:=by obtain⟨o,ho,_⟩:=ht;exact zai (Do ho)
 unfold unpackItems;refine AC ?_
 ·unfold notIterableAtAll;refine AC<|wpAny_specialOf ht.typeIs slot_list_iter.lookup ?_;refine Ch ?_
  simp only[zbd,GE]
  refine AC<|FM<|Tk ht ?_;refine AC<|FM<|Kd bY items.size 0 _ _ ⟨_,Gc _ rfl,rfl,rfl⟩ (ht.push _) (by lia) λX4 wJ nI=>?_
  have wj:List.take items.size (List.drop 0 items.toList)=items.toList:=by
   rw[zbj];exact zaM (by simp)
  rw[wj];rw[AT (by simp)]
  have Dr:X4.IsList t items:=(ht.push _).extBut nI.extBut bY;refine AC<|FM<|wpAny_pyNext_list_end hh wJ Dr (by simp) λh₂ Ds=>?_
  simp only[Option.isSome_none,zbd,GE]
  refine Ch<|hQ h₂ λb o hb e=>Ds b o hb (nI.extBut b o hb<|EQ _ e)
theorem Yq{env:Env}{elts:im}{x1}{pos:Pos}{t:wl}{items:j_}{Q:sw}(hh:A.handled=none)(ht:s.heap.IsList t items)
  (hn:(assignEach elts env).length=items.size) (Dt:(assignEach elts env).findIdx? (·.1)=none)
  (h:∀h',Heap.ExtBut s.heap.objs.size s.heap h'->wpAny (model a w) A (assignInOrder ((assignEach elts env).map (·.2)) items.toList) Q E {s with heap:=h'}):
  wpAny (model a w) A (assign (.Tuple elts x1 pos) env<|.ref t) Q E s:=by
 rw[assign_Tuple];refine AC<|MZ ?_;unfold unpack;rw[hn,Dt];exact AC<|FM<|Yp hh ht h
end
def rG(K:Frag)(n:Nat)(t:kN):TG:=λv σ H Q=>∃a xs,v=.ref a/\(aP K H a xs\/aE K H a xs)/\xs.length=n/\t xs σ H Q
theorem Ke{X:Cx}{es:im}{k:Nat}{t:kN}{n:Nat}{pos:Pos}(hc:X.calm=true)(h:qY X es t)
  (hn:(assignEach es X.env).length=n) (i9:(assignEach es X.env).findIdx? (·.1)=none):PG X (.Tuple es k pos) (rG X.K n t):=by
 intro y' s σ H v u Q I r hw;obtain⟨a,xs,e1,hq,hl,hw⟩:=hw;rcases hq with hq|hq
 ·exact Hz hc h hn i9 y' s σ H v u Q I r ⟨a,xs,e1,hq,hl,hw⟩
 ·subst e1;cases r;obtain⟨ay,rv,ht,hz⟩:=I.list hq;refine Yq (I.ok.hd hc) ht.isList (by simp[hn,<-hl,rv.length]) i9 λh' hx=>?_
  have I1:Inv X y' σ H {s with heap:=h'}:=I.kept (t':=s.toks) λb o e=>hx b o (zai<|Do e) e
  exact h y' _ σ H xs _ Q I1 (by simpa using rv) hw
def pI:bn->kN
 |[]=>y7
 |i::r=>tY (fV i) (pI r)
def Yr(to:TE)(tl th:TO):TG:=λv σ H Q=>to σ H λo H1=>tl σ H1 λi H2=>th σ H2 λj H3=>∃l b xs ys a c,o=.ref l/\v=.ref b/\i=some a/\j=some c/\H3 l=some (.lst xs)/\H3 b=some (.lst ys)/\l≠b/\
 0<=a/\a<=c/\c<=xs.length/\xs.length+ys.length<=sizeLine/\Q σ (upd H3 l<|.lst<|xs.take a.toNat++ys++xs.drop c.toNat)
mutual
def bD(Γ:aS):RS->TS
 |.asg i e=>lW (aj Γ e) (fV i)
 |.zQ i e=>lW (aj Γ e) (fV i)
 |.set o ix e=>lW (aj Γ e) (HE (aj Γ o) (aj Γ ix) Cv)
 |.dput o i e=>IX (aj Γ o) (aj Γ i) (aj Γ e)
 |.drop e=>Hv (aj Γ e)
 |.ret e=>Hw (aj Γ e)
 |.Wn=>Sb
 |.ite c t e=>Hx (bC Γ c) (aB Γ t) (aB Γ e)
 |.nG i k ay body=>y_ (kU Γ k ay) (fV i) (aB Γ body)
 |.zR is k ay body=>y_ (kU Γ k ay) (rG Γ.K is.length<|pI is) (aB Γ body)
 |.rA c body=>HG (bC Γ c) (aB Γ body)
 |.pass=>B_
 |.brk=>R8
 |.cont=>Hu
 |.never=>Sf
 |.Wo o lo hi e=>lW (aj Γ e) (Yr (aj Γ o) (zr<|aj Γ lo)<|zr<|aj Γ hi)
 |.cH o f e=>zj Γ.K (aj Γ o) (aj Γ e) f
 |.zS is e=>lW (aj Γ e) (rG Γ.K is.length<|pI is)
 |.ff j as=>Dd (Γ.ex j) Γ.E (bw Γ as)
 |.kS n i j body su=>λD σ H=>∃C,Γ.gv j=.ref C/\pe Γ.K C i n (λE=>aB {Γ with E:=E} body) (λea=>aB {Γ with E:=E0,hv:=some ea} su) D σ H
 |.Wq k i j f as su=>λD σ H=>∃C,Γ.gv j=.ref C/\Wg Γ.K C i k (Γ.fs f) (bw {Γ with E:=E0} as) (λea=>aB {Γ with E:=E0,hv:=some ea} su) D σ H
 |.xs T=>T Γ
def aB(Γ:aS):ci->TS
 |[]=>B_
 |s::r=>Hs (bD Γ s) (aB Γ r)
end
def DO:Expr->xz
 |.Slice ..=>false|_=>true
def wM:Expr->xz
 |.ListComp ..=>false|.SetComp ..=>false|.DictComp ..=>false|_=>true
def Kf(sc:Scope)(x:Str)(line:Nat)(s:Scope)(p:Pos):xz:=
 decide (sc.kind=.function) && decide (sc.names.lookup x=some .local) && (line==p.line) && !(s.names.any fun(n,k)=>n==x && (k==.local ||k==.cell))
def rH(N:ac)(sc:Scope):bn->ac->xz
 |[],xs=>xs.isEmpty
 |i::r,xs=>match xs with
  |[]=>false
  |x::t=>decide (N[i]?=some x) && loc sc x && rH N sc r t
structure di (CX:cE) (S:cX) (Γ:aS) (X:Cx):Prop extends Good CX S Γ X where
 nd:S.N.Nodup
 nS:∀x,X.fn x=true
 own:PassesOwn (model X.prog X.w) X.A X.env X.xe
 rJ:X.env.scope.kind=.function
 rs:∀(j:Nat) (x:Str),S.en[j]?=some x->Raises X Γ.E
 ju:X.stack=X.env::X.outer
 hU:X.env.frame=some X.env.locals
 pJ:X.ex=[]
 rL:CX=fh X.prog X.w
def qV(S:cX)(i:Nat)(x:Str):xz:=decide (S.N[i]?=some x) && Dj S.sc x && !(x==("__debug__":Str)) && !(x==("__classdict__":Str))
def kG(S:cX)(j:Nat)(x:Str):xz:=decide (S.gn[j]?=some x) && nH S.sc x && !(x==("__debug__":Str))
def kF(S:cX)(j:Nat)(x:Str):xz:=decide (S.fn[j]?=some x) && nH S.sc x && !(x==("__debug__":Str))
def kK(S:cX)(j:Nat)(x:Str):xz:=decide (S.kn[j]?=some x) && nH S.sc x && !(x==("__debug__":Str))
def kB(S:cX)(x y:Str):xz:=decide (x=y) && nH S.sc x && S.bl.contains x
def kM(o:Expr)(m:Str)(x:Str)(n:Nat)(a c:Pos):xz:=decide (x=m) && pj o && (a.endLine==c.line) && decide (n<29)
def kL(S:cX)(i:Nat)(x:Str):xz:=decide (S.N[i]?=some x) && loc S.sc x
section
variable {z:cE}{S:cX}{g:aS}{X:Cx}{e E a b c d:Expr}{w:im}{x:Str}{p q D:Pos}{r l B I:RE}{A:jp}{i j:Nat}
theorem ae(G:Good z S g X)(h:qV S i x=true:=by kernel_rfl):PE X (.Name x p) (aj g<|.v i):=by
 simp only[qV,zaa,Ev,zaJ] at h
 exact RV (by rw[G.N];exact h.1.1.1) (by rw[G.sc];exact WC h.1.1.2) h.1.2 h.2
theorem aq{v:Int}{k:Nat}:PE X (.Constant (.int v) k p) (aj g<|.c<|.int v):=RW
theorem ax{v:Str}{k:Nat}:PE X (.Constant (.str v) k p) (aj g<|.c<|.str v):=RZ
theorem cI{v:xz}{k:Nat}:PE X (.Constant (.bool v) k p) (aj g<|.c<|.bl v):=RX
theorem dj{k:Nat}:PE X (.Constant .none k p) (aj g<|.c .av):=RY
theorem gN(G:Good z S g X)(h:kG S j x=true:=by kernel_rfl):PE X (.Name x p) (aj g<|.g j):=by
 simp only[kG,zaa,Ev,zaJ] at h
 obtain⟨u,hm,r⟩:=G.k6 j x h.1.1;exact Hi (G.gl h.1.2) hm r h.2
theorem aD{op:Operator}(G:Good z S g X)(ha:PE X a (aj g l))(hb:PE X b (aj g B)):PE X (.BinOp a op b p) (aj g<|.bin op l B):=by
 show PE X _ (gk (jd g.K op) (aj g l)<|aj g B);rw[<-G.K];exact HQ (VQ op) ha hb
theorem mr(ha:PE X a (aj g l)):PE X (.UnaryOp .USub a p) (aj g<|.neg l):=Ss Yg ha
theorem dO{op:CmpOp}(G:Good z S g X)(ha:PE X a (aj g l))(hb:PE X b (aj g B))(hm:behindInMarks op b=false:=by kernel_rfl):PE X (.Compare a [op] [b] p) (aj g<|.cmp op l B):=by
 show PE X _ (gk (dB g.K op) (aj g l)<|aj g B);rw[<-G.K];exact SW (zM G.units op) ha hb hm
theorem Ys{op g7:CmpOp}(G:Good z S g X)(ha:PE X a (aj g l))(hb:PE X b (aj g B))(hc:PE X c (aj g I))(hm:lastMarks [op,g7] [b,c]=false:=by kernel_rfl):PE X (.Compare a [op,g7] [b,c] p) (aj g<|.wD op g7 l B I):=by
 show PE X _ (zg (dB g.K op) (dB g.K g7) (aj g l) (aj g B)<|aj g I);rw[<-G.K];exact SY (zM G.units op) (zM G.units g7) ha hb hc hm
theorem ir(h:PE X e (aj g r)):PE X (.BoolOp .And [e] p) (aj g<|.and [r]):=R3 h
theorem fI{r2:RE}(h:PE X e (aj g r))(t:PE X (.BoolOp .And (E::w) p) (aj g<|.and (r2::A))):PE X (.BoolOp .And (e::E::w) p) (aj g<|.and (r::r2::A)):=R4 h t
theorem Kg(G:Good z S g X)(ha:PE X a (aj g l)):PE X (.UnaryOp .Not a p) (aj g<|.not l):=by
 show PE X _ (Dg g.K<|aj g l);rw[<-G.K];exact Yh ha
theorem pK(hc:PT X c (bC g I))(ha:PE X a (aj g l))(hb:PE X b (aj g B)):PE X (.IfExp c a b p) (aj g<|.jD I l B):=R5 hc ha hb
theorem Kh:PE X (.Dict [] [] p) (aj g .rz):=X0
theorem ah:PA X [] (bw g []):=t_
theorem aa(h:PE X e (aj g r))(t:PA X w (bw g A))(hs:noStar e=true:=by kernel_rfl):PA X (e::w) (bw g (r::A)):=ng h t (dN hs)
theorem aN(G:Good z S g X)(hA:PA X (e::w) (bw g (r::A)))(h:kF S j x=true:=by kernel_rfl)(hn:gL (e::w)=true:=by kernel_rfl)(hq:S.md=0:=by rfl):PE X (.Call (.Name x p) (e::w) [] D) (aj g<|.call j (r::A)):=by
 simp only[kF,zaa,Ev,zaJ] at h
 obtain⟨k,f,fd,ps,F,hr,hm,hk,hb⟩:=G.fns hq j x h.1.1;exact TC F hr (G.gl h.1.2) hm hk hb .nil G.pass hA h.2 (dN (dX hn).1)<|k9 _ _ w (dX hn).2
theorem jG(G:Good z S g X)(hA:PA X (e::w) (bw g (r::A)))(h:kK S j x=true:=by kernel_rfl)(hn:gL (e::w)=true:=by kernel_rfl)(hq:S.md=0:=by rfl):PE X (.Call (.Name x p) (e::w) [] D) (aj g<|.make j (r::A)):=by
 simp only[kK,zaa,Ev,zaJ] at h
 obtain⟨k,f,fd,ps,M,F,hr,hm,hb⟩:=G.pF hq j x h.1.1;exact TH M F hr (G.gl h.1.2) hm hb .nil G.pass hA h.2 (dN (dX hn).1)<|k9 _ _ w (dX hn).2
theorem cA{t:nF}(G:Good z S g X)(hA:PA X (e::w) (bw g (r::A)))(h:kB S x t.nm=true:=by kernel_rfl)(hn:gL (e::w)=true:=by kernel_rfl)(hq:S.md=0:=by rfl):PE X (.Call (.Name x p) (e::w) [] D) (aj g<|.blt t (r::A)):=by
 simp only[kB,zaa,Ev] at h
 obtain⟨⟨rfl,h2⟩,h3⟩:=h;have n1:t.nm≠"__name__":=by cases t<;>decide
 have n2:(t.nm==("__debug__":Str))=false:=by cases t<;>decide
 show PE X _ (gK (kT g.K t)<|bw g (r::A));rw[<-G.K];cases X1 (X:=X) (G.calm hq) t with
 |fn id hv hc=>exact zm hc (G.gl h2) (G.fY _ h3) hv hA n1 n2 (dN (dX hn).1) (k9 _ _ w (dX hn).2)
 |ty T hv hc=>exact Ip hc (G.gl h2) (G.fY _ h3) hv hA n1 n2 (dN (dX hn).1) (k9 _ _ w (dX hn).2)
theorem pL{T:Ty}{y:Str}(G:Good z S g X)(ha:PE X a (aj g l))(h:kB S x "isinstance"=true:=by kernel_rfl)(h2:kB S y (Str.ofString T.nm)=true:=by kernel_rfl)(hs:noStar a=true:=by kernel_rfl):PE X (.Call (.Name x p) [a,.Name y q] [] D) (aj g<|.iQ T l):=by
 simp only[kB,zaa,Ev] at h h2
 obtain⟨⟨rfl,g2⟩,g3⟩:=h;obtain⟨⟨rfl,k2⟩,k3⟩:=h2;exact Yc ha hs (G.gl g2) (G.fY _ g3) (G.gl k2)<|G.fY _ k3
theorem iU(G:Good z S g X)(ha:PE X a (aj g l))(hb:PE X b (aj g B))(h:kB S x "isinstance"=true:=by kernel_rfl)(hn:gL [a,b]=true:=by kernel_rfl):PE X (.Call (.Name x p) [a,b] [] D) (aj g<|.dR l B):=by
 simp only[kB,zaa,Ev] at h
 obtain⟨⟨rfl,g2⟩,g3⟩:=h;show PE X _ (gK (mh g.K)<|d0 (aj g l)<|d0 (aj g B) iM);rw[<-G.K];exact zm XF (G.gl g2) (G.fY _ g3) J6 (ng ha (ng hb t_<|dN (dX (dX hn).2).1)<|dN (dX hn).1) (by decide) (by decide) (dN (dX hn).1)<|k9 _ _ _ (dX hn).2
theorem Yt{n:zn}(G:Good z S g X)(hv:bootBuiltins (Str.ofString n)=some (.type n))(h1:Str.ofString n≠"__name__")(h2:(Str.ofString n==("__debug__":Str))=false)(h:kB S x (Str.ofString n)=true:=by kernel_rfl):PE X (.Name x p) (aj g<|.c<|.ty n):=by
 simp only[kB,zaa,Ev] at h
 obtain⟨⟨rfl,g2⟩,g3⟩:=h;exact Hj (G.gl g2) (G.fY _ g3) hv rfl h1 h2
def kH(S:cX)(j:Nat)(x:Str):xz:=decide (S.hn[j]?=some x) && nH S.sc x && !(x==("__debug__":Str))
theorem uu(G:Good z S g X)(ha:PE X a (aj g l))(h:kH S j x=true:=by kernel_rfl)(hs:noStar a=true:=by kernel_rfl):PE X (.Call (.Name x p) [a] [] D) (aj g<|.mi j l):=by
 simp only[kH,zaa,Ev,zaJ] at h
 obtain⟨k,f,fd,ps,F,hr,hm,hk,hb⟩:=G.nQ j x h.1.1;exact XM F hr (G.gl h.1.2) hm hk hb G.pH ha hs h.2
theorem Yu{m:je}{o:Expr}{ro:RE}{ap:Pos}(G:Good z S g X)(ho:PE X o (aj g ro))(h:kM o m.nm x 0 ap D=true:=by kernel_rfl):PE X (.Call (.Attribute o x ap) [] [] D) (aj g<|.cG m ro []):=by
 simp only[kM,zaa,Ev] at h
 obtain⟨⟨⟨rfl,h2⟩,h3⟩, -⟩:=h;show PE X _ (uh g.K m (aj g ro) iM);rw[<-G.K];exact Yj ho h2 h3
theorem dC{m:je}{o:Expr}{ro:RE}{ap:Pos}(G:Good z S g X)(ho:PE X o (aj g ro))(hA:PA X (e::w) (bw g (r::A)))(h:kM o m.nm x (w.length+1) ap D=true:=by kernel_rfl)(hn:gL (e::w)=true:=by kernel_rfl):PE X (.Call (.Attribute o x ap) (e::w) [] D) (aj g<|.cG m ro (r::A)):=by
 simp only[kM,zaa,Ev] at h
 obtain⟨⟨⟨rfl,h2⟩,h3⟩,h4⟩:=h;show PE X _ (uh g.K m (aj g ro)<|bw g (r::A));rw[<-G.K];exact Yi ho hA h2 h3 h4 (dN (dX hn).1) (k9 _ _ w (dX hn).2)<|Ab _ _ (e::w) hn
theorem bo{f:Str}{ro:RE}(G:Good z S g X)(ho:PE X a (aj g ro))(h:pj a=true:=by kernel_rfl):PE X (.Attribute a f p) (aj g<|.fld ro f):=by
 show PE X _ (zi g.K (aj g ro) f);rw[<-G.K];exact Tv ho<|o8 h
theorem bM{m:Str}{o:Expr}{ro:RE}{ap:Pos}(G:Good z S g X)(ho:PE X o (aj g ro))(h:(kM o m m 0 ap D && decide (S.mn[j]?=some m))=true:=by kernel_rfl)(hq:S.md=0:=by rfl):PE X (.Call (.Attribute o m ap) [] [] D) (aj g<|.aG j m ro []):=by
 simp only[kM,zaa,Ev] at h
 obtain⟨⟨⟨⟨-,h2⟩,h3⟩, -⟩,h5⟩:=h;exact Ym (G.nO hq j _ h5) G.pass ho h2 h3
theorem cQ{m:Str}{o:Expr}{ro:RE}{ap:Pos}(G:Good z S g X)(ho:PE X o (aj g ro))(hA:PA X (e::w) (bw g (r::A)))(h:(kM o m m (w.length+1) ap D && decide (S.mn[j]?=some m))=true:=by kernel_rfl)(hn:gL (e::w)=true:=by kernel_rfl)(hq:S.md=0:=by rfl):PE X (.Call (.Attribute o m ap) (e::w) [] D) (aj g<|.aG j m ro (r::A)):=by
 simp only[kM,zaa,Ev] at h
 obtain⟨⟨⟨⟨-,h2⟩,h3⟩,h4⟩,h5⟩:=h;exact Yl (G.nO hq j _ h5) G.pass ho hA h2 h3 h4 (dN (dX hn).1) (k9 _ _ w (dX hn).2)<|Ab _ _ (e::w) hn
theorem Yv(h:DO b=true):IC b:=λo i=>by cases b<;>first|rfl|cases h
theorem aL(G:Good z S g X)(ha:PE X a (aj g l))(hb:PE X b (aj g B))(h:DO b=true:=by kernel_rfl):PE X (.Subscript a b p) (aj g<|.ix l B):=by
 show PE X _ (gk (rC g.K g.sd) (aj g l)<|aj g B);rw[<-G.K];exact Uc (X7 G.nN) ha hb<|Yv h
theorem Yw(G:Good z S g X)(ha:PE X a (aj g l))(hb:PE X b (aj g B))(hm:behindInMarks .In b=false:=by kernel_rfl):PT X (.Compare a [.In] [b] p) (bC g<|.wF l B):=
 Hk (U7 (by have:=G.units;lia) ha hb) hm
theorem Yx(G:Good z S g X)(ha:PE X a (aj g l))(hb:PE X b (aj g B))(hm:behindInMarks .NotIn b=false:=by kernel_rfl):PT X (.Compare a [.NotIn] [b] p) (bC g<|.wG l B):=
 Hk (U8 (by have:=G.units;lia) ha hb) hm
theorem nT{lo hi:Option Expr}{rl rh:Option RE}(G:Good z S g X)(ha:PE X a (aj g l))(hl:PO X lo (ph g rl))(hh:PO X hi (ph g rh)):PE X (.Subscript a (.Slice lo hi none q) p) (aj g<|.sl l rl rh):=by
 show PE X _ (Cs (ui g.K) (aj g l) (ph g rl)<|ph g rh);rw[<-G.K];exact TZ Yf ha hl hh
theorem wN:PO X none (ph g none):=TX
theorem jH(ha:PE X a (aj g l)):PO X (some a) (ph g<|some l):=TY ha
theorem aJ{k}(hA:PA X w (bw g A)):PE X (.Tuple w k p) (aj g<|.tup A):=Tz hA
theorem aT(hA:PA X w (bw g A)):PE X (.List w p) (aj g<|.lst A):=TB hA
def Ac(z:cE)(S:cX)(g:aS)(cond:Option RE)(ifs:im):Prop:=match cond with
 |none=>ifs=[]
 |some r=>∃e0,ifs=[e0]/\∀X,Good z S g X->PT X e0 (bC g r)
theorem rM:Ac z S g none []:=rfl
theorem DP(h:∀X,Good z S g X->PT X e (bC g r)):Ac z S g (some r) [e]:=⟨e,rfl,h⟩
def kC(S:cX)(tk:v4)(tg iter:Expr)(sc:Scope)(k:IK)(ln:ac)(fv:eJ):xz:=decide (Dm tk tg=some ln) && (decide (k≠ .zip)||tk.isSome) && Dp S ⟨.Constant .none 0 ⟨0,0,0,0⟩,tg,iter,[],sc⟩ ln fv
abbrev cS(S:cX)(sc:Scope)(ln:ac)(fv:eJ):cX:={S with N:=ln++fv.map (·.1),sc:=Dl sc S.sc,en:=[],md:=if S.md=0 then 0 else 2}
theorem nU{tk:v4}{fv:eJ}{k:IK}{ay:jp}{cond:Option RE}{elt:RE}{el tg iter:Expr}{ifs:im}{sc:Scope}{ln:ac}(G:Good z S g X)(h:kC S tk tg iter sc k ln fv=true)(hi:PI X tg iter (kU g k ay))
  (hc:Ac z (cS S sc ln fv) g.calm cond ifs) (he:∀X,Good z (cS S sc ln fv) g.calm X->PE X el (aj g.calm elt)) (hq:S.md=0:=by rfl):PE X (.ListComp el [⟨tg,iter,ifs,0⟩] sc p) (aj g<|.comp tk fv k ay cond elt):=by
 simp only[kC,zaa,Ev] at h
 obtain⟨⟨h1,h2⟩,h3⟩:=h;obtain⟨o1,o2,o3,o4⟩:=J5 (c:=⟨.Constant .none 0 ⟨0,0,0,0⟩,tg,iter,[],sc⟩) G h3;show PE X _ (uf g.K (kU g k ay) tk fv (Di g.calm cond)<|aj g.calm elt);rw[<-G.K];refine VI o1 (G.calm hq) hi (XN (c:=⟨.Constant .none 0 ⟨0,0,0,0⟩,tg,iter,[],sc⟩) (G.calm hq) h1 o2 o3) ?_ (λex C s H=>he _<|G.inner ⟨.Constant .none 0 ⟨0,0,0,0⟩,tg,iter,[],sc⟩ ln fv ex C s H)<|Aa o4;cases cond with
 |none=>exact hc
 |some r=>
  obtain⟨e0,q,hq⟩:=hc;exact⟨e0,q,λex C s H=>hq _<|G.inner ⟨.Constant .none 0 ⟨0,0,0,0⟩,tg,iter,[],sc⟩ ln fv ex C s H⟩
theorem dY(h:PT X a (bC g l)):PT X (.UnaryOp .Not a p) (bC g<|.not l):=R0 h
theorem uv(h:PT X e (bC g r)):PW X (.BoolOp .And [e] p) (bC g<|.and [r]):=pw_and1 h
theorem uw{r2:RE}(h:PT X e (bC g r))(t:PW X (.BoolOp .And (E::w) p) (bC g<|.and (r2::A))):PW X (.BoolOp .And (e::E::w) p) (bC g<|.and (r::r2::A)):=pw_and h t
theorem k_(h:PT X e (bC g r)):PW X (.BoolOp .Or [e] p) (bC g<|.or [r]):=pw_or1 h
theorem jh{r2:RE}(h:PT X e (bC g r))(t:PW X (.BoolOp .Or (E::w) p) (bC g<|.or (r2::A))):PW X (.BoolOp .Or (e::E::w) p) (bC g<|.or (r::r2::A)):=pw_or h t
theorem aX{op:CmpOp}(G:Good z S g X)(ha:PE X a (aj g l))(hb:PE X b (aj g B))(hm:behindInMarks op b=false:=by kernel_rfl):PT X (.Compare a [op] [b] p) (bC g<|.cmp op l B):=by
 show PT X _ (t6<|gk (dB g.K op) (aj g l)<|aj g B);rw[<-G.K];exact SX (zM G.units op) ha hb hm
theorem Yy(G:Good z S g X)(h:PE X (.Name x p) (aj g<|.v i)):PT X (.Name x p) (bC g<|.v i):=by
 show PT X _ (gr g.K<|aj g<|.v i);rw[<-G.K];exact ur h λ_=>rfl
theorem gO(G:Good z S g X)(h:PE X (.Call a w [] p) (aj g<|.call j A)):PT X (.Call a w [] p) (bC g<|.call j A):=by
 show PT X _ (gr g.K<|aj g<|.call j A);rw[<-G.K];exact ur h λ_=>rfl
theorem Ki(G:Good z S g X)(h:PE X (.Call a w [] p) (aj g<|.dR l B)):PT X (.Call a w [] p) (bC g<|.dR l B):=by
 show PT X _ (gr g.K<|aj g<|.dR l B);rw[<-G.K];exact ur h λ_=>rfl
theorem Ad{T:Ty}(G:Good z S g X)(h:PE X (.Call a w [] p) (aj g<|.iQ T l)):PT X (.Call a w [] p) (bC g<|.iQ T l):=by
 show PT X _ (gr g.K<|aj g<|.iQ T l);rw[<-G.K];exact ur h λ_=>rfl
theorem Yz{m:je}{ro:RE}(G:Good z S g X)(h:PE X (.Call a w [] p) (aj g<|.cG m ro A)):PT X (.Call a w [] p) (bC g<|.cG m ro A):=by
 show PT X _ (gr g.K<|aj g<|.cG m ro A);rw[<-G.K];exact ur h λ_=>rfl
theorem DQ{m:Str}{ro:RE}(G:Good z S g X)(h:PE X (.Call a w [] p) (aj g<|.aG j m ro A)):PT X (.Call a w [] p) (bC g<|.aG j m ro A):=by
 show PT X _ (gr g.K<|aj g<|.aG j m ro A);rw[<-G.K];exact ur h λ_=>rfl
theorem j9{tg:Expr}(G:Good z S g X)(ha:PE X a (aj g l)):PI X tg a (kU g .list [l]):=by
 show PI X tg a (vY g.K<|aj g l);rw[<-G.K];exact Sm ha
theorem DR{tg:Expr}(G:Good z S g X)(ha:PE X a (aj g l))(h:kB S x "range"=true:=by kernel_rfl)(hs:noStar a=true:=by kernel_rfl):PI X tg (.Call (.Name x p) [a] [] D) (kU g .jt [l]):=by
 simp only[kB,zaa,Ev] at h
 obtain⟨⟨rfl,h2⟩,h3⟩:=h;exact Sn (G.gl h2) (G.fY _ h3) (ng ha t_<|dN hs)<|dN hs
theorem YA{tg:Expr}(G:Good z S g X)(ha:PE X a (aj g l))(hb:PE X b (aj g B))(h:kB S x "range"=true:=by kernel_rfl)(hs:noStar a=true:=by kernel_rfl)(iL:noStar b=true:=by kernel_rfl):PI X tg (.Call (.Name x p) [a,b] [] D) (kU g .zP [l,B]):=by
 simp only[kB,zaa,Ev] at h
 obtain⟨⟨rfl,h2⟩,h3⟩:=h;exact So (G.gl h2) (G.fY _ h3) (ng ha (ng hb t_<|dN iL)<|dN hs) (by rw[dN hs,dN iL];rfl)<|dN iL
end
section
variable {g:cE}{S:cX}{d:aS}{X:Cx}{e a b c v:Expr}{J:im}{x:Str}{p q M:Pos}{r z A L:RE}{i j:Nat}{P:wS}{Q:pi}{s:RS}{R t u:ci}
theorem Ae{v:Expr}{t:Option Expr}{l:Nat}{env:Env}(h:wM v=true):swapsWith v t l env=pure false:=by
 cases v<;>first|rfl|cases h
theorem YB{v:Expr}{x:Str}{p:Pos}{l:Nat}{env:Env}(h:env.kindOf x=some .cell):swapsWith v (some<|.Name x p) l env=pure false:=by
 cases v<;>first
  |rfl
  |(unfold swapsWith;simp only[h];have q:(some NameKind.cell==some NameKind.local)=false:=rfl;simp only[q,Bool.and_false,Bool.false_and])
theorem Kk{v o i:Expr}{p:Pos}{l:Nat}{env:Env}:swapsWith v (some<|.Subscript o i p) l env=pure false:=by
 cases v<;>rfl
theorem YC{v o i:Expr}{p:Pos}{env:Env}:swappedStores [.Subscript o i p] v env=pure none:=by
 cases v<;>rfl
theorem di.name(G:di g S d X)(h:kL S i x=true):PG X (.Name x p) (fV i):=by
 simp only[kL,zaa,Ev] at h
 exact tX (by rw[G.N];exact G.nd) (by rw[G.N];exact h.1) (by rw[G.sc];exact Dk h.2)<|.inl<|G.nS x
theorem ar:dg X [] (aB d []):=Ht
theorem ai(h:PS X P (bD d s))(t:dg X Q (aB d R)):dg X (P::Q) (aB d (s::R)):=R7 h t
theorem aM(G:di g S d X)(he:PE X v (aj d r))(h:kL S i x=true:=by kernel_rfl)(hc:(wM v ||decide (S.sc.names.lookup x=some .cell))=true:=by kernel_rfl):PS X (.Assign [.Name x p] v q) (bD d<|.asg i r):=by
 simp only[kL,zaa,Ev,zbx] at h hc
 refine Sh (by rw[G.N];exact G.nd) (by rw[G.N];exact h.1) (by rw[G.sc];exact Dk h.2) he ?_<|.inl<|G.nS x
 rcases hc with h4|h4
 ·exact Ae h4
 ·exact YB (by show X.env.scope.names.lookup x=_;rw[G.sc];exact h4)
theorem YD{fv:eJ}{cond:Option RE}{elt:RE}{el iter:Expr}{ifs:im}{sc:Scope}{n1 n2:Str}{p1 p2 tp:Pos}{kt}{pc:Pos}(G:di g S d X)(h0:kL S i x=true)(hs:Kf S.sc x p.line sc pc=true)(h:kC S (some 2) (.Tuple [.Name n1 p1,.Name n2 p2] kt tp) iter sc .list [n1,n2] fv=true)(hi:PE X iter (aj d z))
  (hc:Ac g (cS S sc [n1,n2] fv) d.calm cond ifs) (he:∀X,Good g (cS S sc [n1,n2] fv) d.calm X->PE X el (aj d.calm elt)) (hq:S.md=1:=by rfl):PS X (.Assign [.Name x p] (.ListComp el [⟨.Tuple [.Name n1 p1,.Name n2 p2] kt tp,iter,ifs,0⟩] sc pc) q) (bD d<|.zQ i<|.comp (some 2) fv .list [z] cond elt):=by
 simp only[kC,kL,Kf,zaa,Ev,KB,zaJ] at h h0 hs
 obtain⟨⟨h1,h2⟩,h3⟩:=h;obtain⟨o1,o2,o3,o4⟩:=J5 (c:=⟨.Constant .none 0 ⟨0,0,0,0⟩,.Tuple [.Name n1 p1,.Name n2 p2] kt tp,iter,[],sc⟩) G.toGood h3;show PS X _ (lW (uf d.K (vY d.K<|aj d z) (some 2) fv (Di d.calm cond)<|aj d.calm elt)<|fV i);rw[<-G.K];have hH:Hd X:=G.rF hq;refine VE (Φ:=Hd) (Ψ:=iR X.A) (by rw[G.N];exact G.nd) (by rw[G.N];exact h0.1) (by rw[G.sc];exact Dk h0.2) ?_ o1 XE (λ_ _ _ _ I=>hH.at I) (XB hi) (XD (o2 n1 (by simp)) (o2 n2 (by simp)) o3) ?_ (λex C s H=>he _<|G.toGood.inner ⟨.Constant .none 0 ⟨0,0,0,0⟩,.Tuple [.Name n1 p1,.Name n2 p2] kt tp,iter,[],sc⟩ [n1,n2] fv ex C s H) (Aa o4)<|.inl<|G.nS x
 ·have e1:X.env.kindOf x=some .local:=by show X.env.scope.names.lookup x=_;rw[G.sc];exact hs.1.1.2
  have e2:X.env.blockKind=.function:=by unfold Env.blockKind;rw[G.rJ];rfl
  unfold swapsWith
  simp only[e1,e2,hs.1.2,hs.2]
  show pure (true && true && (pc.line==pc.line) && !false)=pure true;rw[beq_self_eq_true];rfl
 ·cases cond with
  |none=>exact hc
  |some r=>
   obtain⟨e0,q,hq⟩:=hc;exact⟨e0,q,λex C s H=>hq _<|G.toGood.inner ⟨.Constant .none 0 ⟨0,0,0,0⟩,.Tuple [.Name n1 p1,.Name n2 p2] kt tp,iter,[],sc⟩ [n1,n2] fv ex C s H⟩
theorem Kl(he:PE X v (aj d r))(ha:PE X a (aj d z))(hb:PE X b (aj d A))(h:DO b=true:=by kernel_rfl):PS X (.Assign [.Subscript a b p] v q) (bD d<|.set z A r):=
 HF he (Sg ha hb set_list (by intro w;cases b<;>first|rfl|cases h)) (by exact Kk (o:=a) (i:=b) (p:=p) (l:=q.line) (env:=X.env)) YC rfl
theorem YE(G:di g S d X)(he:PE X v (aj d r))(ha:PE X a (aj d z))(hb:PE X b (aj d A)):PS X (.Assign [.Subscript a b p] v q) (bD d<|.dput z A r):=
 U9 (by have:=G.toGood.units;lia) ha hb he (by exact Kk (o:=a) (i:=b) (p:=p) (l:=q.line) (env:=X.env))
theorem cR{f:Str}(G:di g S d X)(ho:PE X a (aj d z))(he:PE X v (aj d r))(h:wM v=true:=by kernel_rfl):PS X (.Assign [.Attribute a f p] v q) (bD d<|.cH z f r):=by
 show PS X _ (zj d.K (aj d z) (aj d r) f);rw[<-G.K];exact Ic ho he<|Ae h
theorem bT(he:PE X v (aj d r))(h:wM v=true:=by kernel_rfl):PS X (.Expr v p) (bD d<|.drop r):=R_ he (Ae h)
theorem aQ(he:PE X v (aj d r)):PS X (.Return (some v) p) (bD d<|.ret r):=Sa he
theorem aZ{as bs:pi}(hc:PT X c (bC d L))(ha:dg X as (aB d t))(hb:dg X bs (aB d u)):PS X (.If c as bs p) (bD d<|.ite L t u):=Se hc ha hb
theorem Af{as:pi}(G:di g S d X)(hc:PT X c (bC d L))(ha:dg X as (aB d t)):PS X (.While c as [] p) (bD d<|.rA L t):=Si G.own hc ha
theorem wO{k:IK}{ay:jp}{iter:Expr}{as:pi}(G:di g S d X)(hi:PI X (.Name x p) iter (kU d k ay))(ha:dg X as (aB d t))(h:kL S i x=true:=by kernel_rfl)(hs:wI iter=true:=by kernel_rfl)(hq:S.md=0:=by rfl):PS X (.For (.Name x p) iter as [] q) (bD d<|.nG i k ay t):=
 HL G.own (G.calm hq) hi (G.name h) ha (Aa hs)
theorem DS(G:di g S d X):∀(is:bn) (xs:List (Str×Pos)),rH S.N S.sc is (xs.map (·.1))=true->
  qY X (xs.map λy=>.Name y.1 y.2) (pI is)/\(assignEach (xs.map λy=>Expr.Name y.1 y.2) X.env).length=is.length/\(assignEach (xs.map λy=>Expr.Name y.1 y.2) X.env).findIdx? (·.1)=none
 |[],xs,h=>by
  simp only[rH,List.isEmpty_iff,List.map_eq_nil_iff] at h
  subst h;exact⟨Cb,rfl,rfl⟩
 |i::r,[],h=>by simp only[zbb,rH] at h;cases h
 |i::r,y::t,h=>by
  simp only[zaA,rH,zaa] at h
  obtain⟨i1,i2,i3⟩:=DS G r t h.2;refine⟨vX (G.name (by simp only[kL,zaa];exact h.1)) i1 rfl,?_,?_⟩
  ·show(assignEach _ X.env).length+1=r.length+1;rw[i2]
  ·show List.findIdx? (·.1) ((false,assign (.Name y.1 y.2) X.env)::assignEach _ X.env)=none;rw[List.findIdx?_cons,i3];rfl
theorem Km{is:bn}{k:IK}{ay:jp}{iter:Expr}{as:pi}{kt}{tp:Pos}(xs:List (Str×Pos))(G:di g S d X)(hi:PI X (.Tuple (xs.map λy=>.Name y.1 y.2) kt tp) iter (kU d k ay))(ha:dg X as (aB d t))(h:rH S.N S.sc is (xs.map (·.1))=true:=by kernel_rfl)(hs:wI iter=true:=by kernel_rfl)(hq:S.md=0:=by rfl):
  PS X (.For (.Tuple (xs.map λy=>.Name y.1 y.2) kt tp) iter as [] q) (bD d<|.zR is k ay t):=by
 obtain⟨i1,i2,i3⟩:=DS G is xs h;show PS X _ (y_ (kU d k ay) (rG d.K is.length<|pI is)<|aB d t);rw[<-G.K];exact HL G.own (G.calm hq) hi (Ke (G.calm hq) i1 i2 i3) ha<|Aa hs
def YF:Expr->xz
 |.Tuple ..=>false|_=>true
theorem YG{is:bn}{kt}{tp:Pos}(xs:List (Str×Pos))(G:di g S d X)(he:PE X v (aj d r))(h:rH S.N S.sc is (xs.map (·.1))=true:=by kernel_rfl)(hc:(wM v && YF v)=true:=by kernel_rfl)(hq:S.md=0:=by rfl):
  PS X (.Assign [.Tuple (xs.map λy=>.Name y.1 y.2) kt tp] v q) (bD d<|.zS is r):=by
 simp only[zaa] at hc
 obtain⟨i1,i2,i3⟩:=DS G is xs h;show PS X _ (lW (aj d r)<|rG d.K is.length<|pI is);rw[<-G.K];refine HF he (Ke (G.calm hq) i1 i2 i3) (by show swapsWith v (some<|.Tuple (xs.map λy=>Expr.Name y.1 y.2) kt tp) q.line X.env=pure false;exact Ae hc.1) ?_ rfl
 have h2:=hc.2;cases v<;>first|rfl|cases h2
def kX(S:cX)(j:Nat)(x:Str):xz:=decide (S.en[j]?=some x) && nH S.sc x && !(x==("__debug__":Str))
theorem fZ{rs:jp}{np ei:Pos}(G:di g S d X)(hA:PA X (e::J) (bw d (r::rs)))(h:kX S j x=true:=by kernel_rfl)(hn:gL (e::J)=true:=by kernel_rfl)(hq:S.md=0:=by rfl):PS X (.Raise (some<|.Call (.Name x np) (e::J) [] ei) none M) (bD d<|.ff j (r::rs)):=by
 simp only[kX,zaa,Ev,zaJ] at h
 obtain⟨bm,B,Z',uj,O,FB⟩:=G.uq j x h.1.1;exact Xg (G.calm hq) O FB (G.gl h.1.2) h.2 hA (dN (dX hn).1) (k9 _ _ J (dX hn).2)<|G.rs j x h.1.1
abbrev tS(S:cX):cX:={S with en:=[]}
abbrev hS(S:cX):cX:={S with en:=[],md:=2}
theorem di.Kn(G:di g S d X)(pn:ad)(xe:aW)(E:XK)(ho:PassesOwn (model X.prog X.w) X.A X.env xe)(hp:Passes (fh X.prog X.w) (X.alt X.A X.calm pn xe) E):
  di g (tS S) {d with E:=E} (X.alt X.A X.calm pn xe):=
 {N:=G.N,sc:=G.sc,K:=G.K,calm:=G.calm,units:=G.units,gd:=G.gd,fns:=G.fns,k6:=G.k6,fY:=G.fY,pass:=by rw[G.rL];exact hp,mq:=G.mq,nN:=G.nN,nO:=G.nO,pF:=G.pF,
  uq:=λ_ _ h=>(by simp at h),nQ:=G.nQ,pH:=G.pH,rF:=G.rF,nd:=G.nd,nS:=G.nS,own:=ho,rJ:=G.rJ,rs:=λ_ _ h=>(by simp at h),ju:=G.ju,hU:=G.hU,pJ:=G.pJ,rL:=G.rL}
theorem di.held(G:di g S d X)(ea:wl)(pn:ad):
  di g (hS S) {d with E:=E0,hv:=some ea} (X.alt (X.A.mark<|some<|.ref ea) false pn λ_ _=>False):=
 {N:=G.N,sc:=G.sc,K:=G.K,calm:=λh=>(nomatch h),units:=G.units,gd:=G.gd,fns:=λh=>(nomatch h),k6:=G.k6,fY:=G.fY,pass:=λ_ _ _ _ _ _ _ h=>(G.mq _ _ _ _ _ h).elim,mq:=G.mq,nN:=G.nN,nO:=λh=>(nomatch h),pF:=λh=>(nomatch h),
  uq:=λ_ _ h=>(by simp at h),nQ:=λj x h=>(by
   obtain⟨k,f,fd,ps,F,r,m⟩:=G.nQ j x h;exact⟨k,f,fd,ps,F,r.mark _,m⟩),
  pH:=λe h=>(by cases h;rfl),rF:=λh=>(nomatch h),nd:=G.nd,nS:=G.nS,own:=PassesOwn.never,rJ:=G.rJ,rs:=λ_ _ h=>(by simp at h),ju:=G.ju,hU:=G.hU,pJ:=G.pJ,rL:=G.rL}
theorem ux{n:Nat}{y:Str}{np jg:Pos}{body su:pi}{Y':wS}{A lg:ci}(G:di g S d X)(h:kG S j x=true)(hn:(decide (S.N.length=n) && decide (S.N[i]?=some y) && decide (S.sc.names.lookup y=some .local))=true)
  (hb:∀{d:aS}{X:Cx},di g (tS S) d X->dg X body (aB d A)) (hs:∀{d:aS}{X:Cx},di g (hS S) d X->dg X (Y'::su) (aB d lg)):
  PS X (.Try body [.ExceptHandler (some<|.Name x np) (some y) (Y'::su) jg] [] [] M) (bD d<|.kS n i j A lg):=by
 simp only[kG,zaa,Ev,zaJ] at h hn
 obtain⟨u,hm,hu⟩:=G.k6 j x h.1.1;intro y' s σ H D I q;obtain⟨C,e,q⟩:=(show ∃C,d.gv j=.ref C/\pe d.K C i n (λE=>aB {d with E:=E} A) (λea=>aB {d with E:=E0,hv:=some ea} lg) D σ H from q)
 rw[e] at hu;have DT:u=.ref C:=hu;subst DT;have hl:X.N.length=n:=by rw[G.N];exact hn.1.1
 have q':pe X.K C i X.N.length (λE=>aB {d with E:=E} A) (λea=>aB {d with E:=E0,hv:=some ea} lg) D σ H:=by rw[G.K,hl];exact q
 exact Xy (tb:=λE=>aB {d with E:=E} A) (th:=λea=>aB {d with E:=E0,hv:=some ea} lg) G.ju G.hU G.pJ (G.gl h.1.2) h.2 hm (by rw[G.N];exact G.nd) (by rw[G.N];exact hn.1.2) (by rw[G.sc];exact hn.2)
  (λpn xe E ho hp=>hb<|G.Kn pn xe E ho hp) (λea pn=>hs<|G.held ea pn) y' s σ H D I q'
theorem YH:PS X (.Continue p) (bD d .cont):=R9
end
section
variable {P:ww}{w:wE}{K:Frag}{a:bv}{d:wT}
def iu(P:ww)(w:wE)(K:Frag)(a:bv)(d:wT)(k:Nat)(x:Str)(sp:Sp):Prop:=
 ∃f fd ps,c_ P w K a d (fh P w) k f fd ps sp/\a x=some (.ref f)/\PySem.W.keepIn K (.ref f)=true/\Binds K fd ps []
theorem iu.mono{j k:Nat}{x:Str}{sp:Sp}(h:iu P w K a d j x sp)(hk:j<=k):iu P w K a d k x sp:=by
 obtain⟨f,fd,ps,F,r⟩:=h;exact⟨f,fd,ps,F.mono hk,r⟩
def pM(tab:le)(j:Nat):Sp:=match tab[j]? with
 |some p=>p.2
 |none=>λ_ _ _ _=>False
def rN(tab:cr)(j:Nat):V:=match tab[j]? with
 |some p=>p.2
 |none=>.av
structure wQ (a:bv) (p:Str×V):Prop where
 ex:∃u,a p.1=some u/\RelV p.2 u
def mv(tab:List (Str×wl×Sp))(j:Nat):wl×Sp:=match tab[j]? with
 |some p=>p.2
 |none=>(0,λ_ _ _ _=>False)
def Ag(tab:em)(j:Nat):wl:=match tab[j]? with
 |some p=>p.2
 |none=>0
abbrev aR(K:Frag)(tab:le)(gt:cr)(dk:List (wl×ii):=[])(mt kt:List (Str×wl×Sp):=[])(et:em:=[])(ht:le:=[])(E:XK:=E0):aS:=
 {K:=K,fs:=pM tab,gv:=rN gt,E:=E,sd:=λp az=>(p,az)∈dk,ms:=mv mt,kt:=mv kt,ex:=Ag et,hs:=pM ht,hv:=none}
def jI(P:ww)(w:wE)(K:Frag)(a:bv)(d:wT)(k:Nat)(p:Str×wl×Sp):Prop:=
 fE K p.2.1/\∃f fd ps,Meth K p.2.1 p.1 f/\c_ P w K a d (fh P w) k f fd ps p.2.2/\Binds K fd ps []
def rO(P:ww)(w:wE)(K:Frag)(a:bv)(d:wT)(k:Nat)(p:Str×wl×Sp):Prop:=
 ∃j f fd ps,j+1<=k/\Mk K p.2.1 f/\c_ P w K a d (fh P w) j f fd ps p.2.2/\a p.1=some (.ref p.2.1)/\Binds K fd ps []
theorem jI.mono{j k:Nat}{p:Str×wl×Sp}(h:jI P w K a d j p)(hk:j<=k):jI P w K a d k p:=by
 obtain⟨c,f,fd,ps,m,F,b⟩:=h;exact⟨c,f,fd,ps,m,F.mono hk,b⟩
theorem rO.mono{j k:Nat}{p:Str×wl×Sp}(h:rO P w K a d j p)(hk:j<=k):rO P w K a d k p:=by
 obtain⟨i,f,fd,ps,m,r⟩:=h;exact⟨i,f,fd,ps,zap m hk,r⟩
def Ko(P:ww)(w:wE)(K:Frag)(q:wl×ii):Prop:= ∀h:wT,K.In h->∃vs,KV q.2 vs/\h.DictOf (fU P w) q.1 vs
abbrev uz(N:ac)(sc:Scope)(tab:ac)(gt:ac)(bl:ac)(mn kn:ac:=[])(en hn:ac:=[])(md:Nat:=0):cX:={N:=N,sc:=sc,fn:=tab,gn:=gt,bl:=bl,mn:=mn,kn:=kn,en:=en,hn:=hn,md:=md}
def Ah(a:bv)(d:wT)(p:Str×wl):Prop:= ∃bm B Z' uj,OwnCls p.1 p.2 bm Z' a d/\ExcBaseFacts B Z' uj bm
def pN(P:ww)(w:wE)(K:Frag)(a:bv)(d:wT)(k:Nat)(x:Str)(sp:Sp):Prop:=
 ∃f fd ps,rE P w K a d k f fd ps sp/\a x=some (.ref f)/\PySem.W.keepIn K (.ref f)=true/\Binds K fd ps []
theorem pN.mono{P:ww}{w:wE}{K:Frag}{a:bv}{d:wT}{j k:Nat}{x:Str}{sp:Sp}(h:pN P w K a d j x sp)(hk:j<=k):pN P w K a d k x sp:=by
 obtain⟨f,fd,ps,F,r⟩:=h;exact⟨f,fd,ps,F.mono hk,r⟩
theorem YI{x qual:Str}{st:wS}{f:wl}{fd:x0}{N ps:ac}{k:Nat}{sp:Sp}(F:o9 K x qual st f fd)(S:oX N ps (e_ st))
  (tab:le) (gt:cr) (bl:ac) (mt kt:List (Str×wl×Sp)) (et:em) (ht:le) (body:ci)
  (hm:∀{CX:cE}{Γ:aS}{X:Cx},di CX (uz N (e_ st) (tab.map (·.1)) (gt.map (·.1)) bl (mt.map (·.1)) (kt.map (·.1)) (et.map (·.1)) (ht.map (·.1))) Γ X->dg X (ej st) (aB Γ body))
  (DU:∀p∈tab,iu P w K a d k p.1 p.2) (rP:∀p∈gt,wQ a p) (rQ:∀y∈bl,a y=none) (dk:List (wl×ii)) (DV:∀q∈dk,Ko P w K q)
  (DW:∀p∈mt,jI P w K a d k p) (DX:∀p∈kt,rO P w K a d k p) (het:∀p∈et,Ah a d p) (DY:∀p∈ht,pN P w K a d k p.1 p.2)
  (len:∀vs H Q E,sp vs H Q E->vs.length=ps.length)
  (rR:∀vs H Q E,sp vs H Q E->aB (aR K tab gt dk mt kt et ht E) body {nx:=λ_ H'=>Q .av H',rt:=Q} (start N vs) H):c_ P w K a d (fh P w) (k+1) f fd ps sp:=by
 obtain⟨oc,od,kV,T',pm,an,bI,ct,il,rfl,lk,i8⟩:=F.ex;refine TK lk i8 S len λA outer s H vs Q E hr jw=>⟨_,hm (CX:=fh P w) (Γ:=aR K tab gt dk mt kt et ht E) ?_,rR vs H Q E jw⟩;refine {N:=rfl,sc:=rfl,K:=rfl,calm:=λ_=>rfl,units:=hr.units,gd:=hr.gd,fns:=λ_ j y hj=>?_,k6:=λj y hj=>?_,fY:=λy hy=>?_,pass:=Xe,mq:=λ_ _ _ _ _ h=>zX h,nN:=λp az h=>DV _ h,nO:=λ_ j y hj=>?_,pF:=λ_ j y hj=>?_,uq:=λj y hj=>?_,nQ:=λj y hj=>?_,pH:=λ_ h=>(nomatch h),rF:=λh=>(nomatch h),nd:=S.nd,nS:=λ_=>rfl,own:=PassesOwn.leaving,rJ:=S.kind,rs:=λ_ _ _=>Xf,ju:=rfl,hU:=rfl,pJ:=rfl,rL:=rfl}
 ·have cj:(tab.map (·.1))[j]?=some y:=hj;rw[zan] at cj;cases q:tab[j]? with
  |none=>rw[q] at cj;cases cj
  |some p=>
   rw[q] at cj;have e:p.1=y:=zaj cj;obtain⟨f',rS,rT,F',m',k',b'⟩:=DU p (zaw q);have es:pM tab j=p.2:=by unfold pM;rw[q]
   show JZ (fh P w) _ y (pM tab j);rw[es,<-e];exact⟨k,f',rS,rT,F',hr,m',k',b'⟩
 ·have cj:(gt.map (·.1))[j]?=some y:=hj;rw[zan] at cj;cases q:gt[j]? with
  |none=>rw[q] at cj;cases cj
  |some p=>
   rw[q] at cj;have e:p.1=y:=zaj cj;obtain⟨u,h1,h2⟩:=(rP p<|zaw q).ex;have es:rN gt j=p.2:=by unfold rN;rw[q]
   show ∃u,a y=some u/\RelV (rN gt j) u;rw[es,<-e];exact⟨u,h1,h2⟩
 ·exact rQ y (by simpa using hy)
 ·have cj:(mt.map (·.1))[j]?=some y:=hj;rw[zan] at cj;cases q:mt[j]? with
  |none=>rw[q] at cj;cases cj
  |some p=>
   rw[q] at cj;have e:p.1=y:=zaj cj;obtain⟨c,f',rS,rT,m',F',b'⟩:=DW p (zaw q);have es:mv mt j=p.2:=by unfold mv;rw[q]
   show z9 (fh P w) _ (mv mt j).1 y (mv mt j).2;rw[es,<-e];exact⟨c,k,f',rS,rT,m',F',hr,b'⟩
 ·have cj:(kt.map (·.1))[j]?=some y:=hj;rw[zan] at cj;cases q:kt[j]? with
  |none=>rw[q] at cj;cases cj
  |some p=>
   rw[q] at cj;have e:p.1=y:=zaj cj;obtain⟨i,f',rS,rT,hi,m',F',g',b'⟩:=DX p (zaw q);have es:mv kt j=p.2:=by unfold mv;rw[q]
   show J0 (fh P w) _ y (mv kt j).1 (mv kt j).2;rw[es,<-e];exact⟨i,f',rS,rT,m',F',hr.mono hi,g',b'⟩
 ·have cj:(et.map (·.1))[j]?=some y:=hj;rw[zan] at cj;cases q:et[j]? with
  |none=>rw[q] at cj;cases cj
  |some p=>
   rw[q] at cj;have e:p.1=y:=zaj cj;have es:Ag et j=p.2:=by unfold Ag;rw[q]
   show J4 _ y (Ag et j);rw[es,<-e];exact het p<|zaw q
 ·have cj:(ht.map (·.1))[j]?=some y:=hj;rw[zan] at cj;cases q:ht[j]? with
  |none=>rw[q] at cj;cases cj
  |some p=>
   rw[q] at cj;have e:p.1=y:=zaj cj;obtain⟨f',rS,rT,F',m',k',b'⟩:=DY p (zaw q);have es:pM ht j=p.2:=by unfold pM;rw[q]
   show J3 _ y (pM ht j);rw[es,<-e];exact⟨k,f',rS,rT,F',hr.h,m',k',b'⟩
variable {x qual:Str}{g:wS}{f:wl}{i:x0}{N b:ac}{k:Nat}{c:Sp}
theorem YJ(F:o9 K x qual g f i)(S:oX N b (e_ g))(jy:a x=some (.ref f))(hb:Binds K i b [])
  (gt:cr) (bl:ac) (body:ci)
  (hm:∀{CX:cE}{Γ:aS}{X:Cx},di CX (uz N (e_ g) [] (gt.map (·.1)) bl (md:=1)) Γ X->dg X (ej g) (aB Γ body))
  (rP:∀p∈gt,wQ a p) (rQ:∀y∈bl,a y=none) (len:∀vs H Q E,c vs H Q E->vs.length=b.length)
  (rR:∀vs H Q,c vs H Q E0->aB (aR K [] gt) body {nx:=λ_ H'=>Q .av H',rt:=Q} (start N vs) H):pN P w K a d (k+1) x c:=by
 obtain⟨oc,od,kV,T',pm,an,bI,ct,il,rfl,lk,i8⟩:=F.ex;refine⟨f,_,b,XH (CX:=fh P w) lk i8 S len λA outer s H vs Q hr hh jw=>⟨_,hm (CX:=fh P w) (Γ:=aR K [] gt) ?_,rR vs H Q jw⟩,jy,F.kp,hb⟩;refine {N:=rfl,sc:=rfl,K:=rfl,calm:=λh=>(nomatch h),units:=hr.units,gd:=hr.gd,fns:=λh=>(nomatch h),k6:=λj y hj=>?_,fY:=λy hy=>?_,pass:=λ_ _ _ _ _ _ _ h=>(zX h).elim,mq:=λ_ _ _ _ _ h=>zX h,nN:=λp az h=>(nomatch h),nO:=λh=>(nomatch h),pF:=λh=>(nomatch h),uq:=λj y hj=>(nomatch hj),nQ:=λj y hj=>(nomatch hj),pH:=λ_ h=>(nomatch h),rF:=λ_=>XJ hh,nd:=S.nd,nS:=λ_=>rfl,own:=PassesOwn.never,rJ:=S.kind,rs:=λ_ _ hj=>(nomatch hj),ju:=rfl,hU:=rfl,pJ:=rfl,rL:=rfl}
 ·have cj:(gt.map (·.1))[j]?=some y:=hj;rw[zan] at cj;cases q:gt[j]? with
  |none=>rw[q] at cj;cases cj
  |some p=>
   rw[q] at cj;have e:p.1=y:=zaj cj;obtain⟨u,h1,h2⟩:=(rP p<|zaw q).ex;have es:rN gt j=p.2:=by unfold rN;rw[q]
   show ∃u,a y=some u/\RelV (rN gt j) u;rw[es,<-e];exact⟨u,h1,h2⟩
 ·exact rQ y (by simpa using hy)
theorem c_.top{k:Nat}(F:c_ P w K a d (fh P w) k f i b c):c_ P w K a d wm k f i b (λvs H Q _=>c vs H Q E0):=
 ⟨λvs H Q E h=>F.len vs H Q E0 h,λA outer s H args us vs Q E hr e0 hb hv hs=>M2 (F.run A outer s H args us vs Q E0 hr e0 hb hv hs) λr s' h=>by
  cases r with
  |error e=>exact(zX h).elim
  |ok fl=>cases fl<;>exact h⟩
end
section
variable {d:aS}{D:Ends}{f:St}{H:Hp}{r:ci}{Q:VK}
theorem DZ{i:Nat}{e:RE}(h:aj d e f H λx H1=>aB d r D (f.set i<|some x) H1):aB d (.asg i e::r) D f H:=h
theorem YK{i:Nat}{e:RE}(h:aj d e f H λx H1=>aB d r D (f.set i<|some x) H1):aB d (.zQ i e::r) D f H:=h
theorem YL{c:RE}{t e:ci}(h:bC d c f H λb H1=>if b=true then aB d t {D with nx:=aB d r D} f H1 else aB d e {D with nx:=aB d r D} f H1):aB d (.ite c t e::r) D f H:=h
theorem Kp{b:nF}{as:jp}(h:bw d as f H λvs H1=>kT d.K b vs H1 Q):aj d (.blt b as) f H Q:=h
theorem Kq{a:RE}{Q:be->Hp->Prop}(h:aj d a f H λx H1=>Q [x] H1):bw d [a] f H Q:=h
end
end
variable {H Y:Hp}{v:V}{N:St}{J:aS}{a o:RE}{j i:Nat}{Q:VK}{U B:be}{C L I:PySem.Addr}{y s:PySem.Str}{W:jp}{fv:List (PySem.Str×Nat)}
section
open PyProof.Rows
def jJ:ac:=["thing"]
noncomputable def Kr:ci:=
 [.ret<|.and [(.iQ .int<|.v 0),(.not<|.iQ .bool<|.v 0)]]
def af:ac:=[]
def YM:ac:=["isinstance","int","bool"]
def D0:ac:=["thing","words"]
noncomputable def D1:ci:=
 [.ret<|.and [(.iQ .str<|.v 0),(.cmp .In (.v 0)<|.v 1)]]
def Ks:ac:=["isinstance","str"]
noncomputable def D2:ci:=
 [.ret<|.and [(.iQ .str<|.v 0),(.cmp .Eq (.cG .lstrip (.v 0) [.g 0])<|.c<|.str "")]]
def YN:ac:=["SIGNS"]
noncomputable def Kt:ci:=
 [.ite (.not<|.call 0 [.v 0]) [.ff 0 [(.c<|.str "a text is a str of signs from the blank to the tilde, and line feeds")]] []]
def YO:ac:=["is_text"]
def YQ:ac:=["BadText"]
noncomputable def Ai:ci:=
 [.ite (.or [(.not (.iQ .tuple (.v 0))),(.cmp .NotEq (.blt .len [.v 0]) (.c (.int 2)))]) [.ret (.c (.bl false))] [],
 .ite (.call 0 [(.ix (.v 0)<|.c<|.int 0),(.tup [(.c<|.str "keep")])]) [.ret<|.and [(.call 1 [(.ix (.v 0)<|.c<|.int 1)]),(.cmp .GtE (.ix (.v 0)<|.c<|.int 1)<|.c<|.int 1)]] [],
 .ret (.and [(.call 0 [(.ix (.v 0) (.c (.int 0))),(.tup [(.c (.str "cut")),(.c (.str "put"))])]),(.call 2 [(.ix (.v 0) (.c (.int 1)))]),(.cmp .NotEq (.ix (.v 0) (.c (.int 1))) (.c (.str "")))])]
def YR:ac:=["is_word","is_whole","is_text"]
def Ku:ac:=["isinstance","tuple","len"]
def Kv:ac:=["word","ahead"]
noncomputable def Kw:ci:=
 [.ret<|.and [(.cmp .NotEq (.v 0)<|.v 1),(.not<|.and [(.cmp .Eq (.v 1)<|.c<|.str "cut"),(.cmp .Eq (.v 0)<|.c<|.str "put")])]]
def D3:ac:=["change","ahead","part"]
noncomputable def D4:ci:=
 [.ite (.not (.iQ .list (.v 0))) [.ff 0 [(.c (.str "a change is a list"))]] [],
 .asg 1 (.c<|.str ""),
 .nG 2 .list [.v 0] [.ite (.not (.call 0 [.v 2])) [.ff 0 [(.c (.str "a part is a keep of 1 sign or more, or a cut or put of a text that is not empty"))]] [],
  .ite (.not<|.call 1 [(.ix (.v 2)<|.c<|.int 0),.v 1]) [.ff 0 [(.c<|.str "neighbours have two words, and no put stands right behind a cut")]] [],
  .asg 1 (.ix (.v 2) (.c (.int 0)))]]
def YS:ac:=["is_part","may_follow"]
def YT:ac:=["isinstance","list"]
def Kx:ac:=["BadChange"]
def Ky:ac:=["part"]
noncomputable def Kz:ci:=
 [.ret<|.jD (.cmp .Eq (.ix (.v 0)<|.c<|.int 0)<|.c<|.str "keep") (.ix (.v 0)<|.c<|.int 1)<|.blt .len [(.ix (.v 0)<|.c<|.int 1)]]
def fJ:ac:=["len"]
def D5:ac:=["change","over","gives"]
noncomputable def D6:ci:=
 [.drop (.call 0 [.v 0]),
 .asg 1 (.blt .sum [(.comp none [] .list [.v 0] (some<|.cmp .NotEq (.ix (.v 0)<|.c<|.int 0)<|.c<|.str "put")<|.call 1 [.v 0])]),
 .asg 2 (.blt .sum [(.comp none [] .list [.v 0] (some<|.cmp .NotEq (.ix (.v 0)<|.c<|.int 0)<|.c<|.str "cut")<|.call 1 [.v 0])]),
 .ret (.tup [.v 1,.v 2])]
def YU:ac:=["need_change","part_size"]
def YV:ac:=["sum"]
def KA:ac:=["change","size"]
noncomputable def KC:ci:=
 [.ite (.and [(.cmp .Gt (.blt .len [.v 0]) (.c (.int 0))),(.cmp .Eq (.ix (.ix (.v 0) (.neg (.c (.int 1)))) (.c (.int 0))) (.c (.str "keep")))]) [.asg 1 (.bin .Add (.v 1) (.ix (.cG .pop (.v 0) []) (.c (.int 1))))] [],
 .drop (.cG .append (.v 0) [(.tup [(.c (.str "keep")),.v 1])])]
def KD:ac:=["change","puts","cuts","put","cut"]
noncomputable def KG:ci:=
 [.asg 3 (.cG .join (.c (.str "")) [.v 1]),
 .asg 4 (.cG .join (.c<|.str "") [.v 2]),
 .ite (.cmp .NotEq (.v 3)<|.c<|.str "") [.drop<|.cG .append (.v 0) [(.tup [(.c<|.str "put"),.v 3])]] [],
 .ite (.cmp .NotEq (.v 4) (.c (.str ""))) [.drop (.cG .append (.v 0) [(.tup [(.c (.str "cut")),.v 4])])] []]
def KH:ac:=["parts","change","puts","cuts","word","what"]
noncomputable def KI:ci:=
 [.asg 1 (.lst []),
 .asg 2 (.lst []),
 .asg 3 (.lst []),
 .zR [4,5] .list [.v 0] [.ite (.cmp .Eq (.v 4) (.c (.str "put"))) [.drop (.cG .append (.v 2) [.v 5])] [.ite (.cmp .Eq (.v 4) (.c (.str "cut"))) [.drop (.cG .append (.v 3) [.v 5])] [.ite (.cmp .Gt (.v 5) (.c (.int 0))) [.drop (.call 0 [.v 1,.v 2,.v 3]),
     .asg 2 (.lst []),
     .asg 3 (.lst []),
     .drop (.call 1 [.v 1,.v 5])] []]]],
 .drop (.call 0 [.v 1,.v 2,.v 3]),
 .ret (.v 1)]
def YW:ac:=["add_texts","add_keep"]
def D7:ac:=["text","change","place","pieces","word","what"]
noncomputable def D8:ci:=
 [.drop (.call 0 [.v 0]),
 .ite (.cmp .NotEq (.ix (.call 1 [.v 1])<|.c<|.int 0)<|.blt .len [.v 0]) [.ff 0 [(.c<|.str "the change is over a text of another number of signs")]] [],
 .asg 2 (.c<|.int 0),
 .asg 3 (.lst []),
 .zR [4,5] .list [.v 1] [.ite (.cmp .Eq (.v 4) (.c (.str "put"))) [.drop (.cG .append (.v 3) [.v 5])] [.ite (.cmp .Eq (.v 4) (.c (.str "keep"))) [.drop (.cG .append (.v 3) [(.sl (.v 0) (some (.v 2)) (some (.bin .Add (.v 2) (.v 5))))]),
    .asg 2 (.bin .Add (.v 2) (.v 5))] [.ite (.not (.cG .starts (.v 0) [.v 5,.v 2])) [.ff 0 [(.c (.str "what is cut is not what stands there"))]] [.asg 2 (.bin .Add (.v 2) (.blt .len [.v 5]))]]]],
 .ret (.cG .join (.c (.str "")) [.v 3])]
def YX:ac:=["need_text","sizes"]
def wR:ac:=["BadFit"]
def KJ:ac:=["_law_script","_law_k"]
noncomputable def KL:ci:=
 [.ite (.cmp .Lt (.v 1) (.blt .len [.v 0])) [.ret (.ix (.v 0) (.v 1))] [],
 .ret (.c (.int 0))]
def lj:ac:=["_law_e","_law_some","_law_found_here"]
noncomputable def f_:ci:=
 [.asg 1 (.lst [(.tup [(.c (.str "text")),(.dR (.v 0) (.g 0))]),(.tup [(.c (.str "change")),(.dR (.v 0) (.g 1))]),(.tup [(.c (.str "fit")),(.dR (.v 0) (.g 2))])]),
 .asg 1 (.bin .Add (.v 1)<|.lst [(.tup [(.c<|.str "place"),(.dR (.v 0)<|.g 3)]),(.tup [(.c<|.str "side"),(.dR (.v 0)<|.g 4)]),(.tup [(.c<|.str "mark"),(.dR (.v 0)<|.g 5)])]),
 .asg 1 (.bin .Add (.v 1)<|.lst [(.tup [(.c<|.str "node"),(.dR (.v 0)<|.g 6)]),(.tup [(.c<|.str "cursor"),(.dR (.v 0)<|.g 7)])]),
 .asg 1 (.bin .Add (.v 1)<|.lst [(.tup [(.c<|.str "deed"),(.dR (.v 0)<|.g 8)]),(.tup [(.c<|.str "letter"),(.dR (.v 0)<|.g 9)])]),
 .asg 1 (.bin .Add (.v 1)<|.lst [(.tup [(.c<|.str "gone"),(.dR (.v 0)<|.g 10)]),(.tup [(.c<|.str "hand"),(.dR (.v 0)<|.g 11)]),(.tup [(.c<|.str "note"),(.dR (.v 0)<|.g 12)])]),
 .zQ 2 (.comp (some 2) [] .list [.v 1] (some<|.v 1)<|.v 0),
 .ite (.or [(.not<|.dR (.v 0)<|.g 13),(.not<|.dR (.v 0)<|.c<|.ty "ValueError")]) [.drop<|.cG .append (.v 2) [(.c<|.str "bare")]] [],
 .ret (.cG .join (.c (.str "/")) [.v 2])]
def nW:ac:=["BadText","BadChange","BadFit","NoPlace","BadSide","NoMark","NoNode","NoCursor","BadDeed","BadLetter","NoLetter","NoHand","NoNote","InkError"]
def nX:ac:=["isinstance","ValueError"]
def KN:ac:=["thing","least","most"]
noncomputable def KO:ci:=
 [.ret<|.and [(.call 0 [.v 0]),(.wD .LtE .LtE (.v 1) (.v 0)<|.v 2)]]
def YY:ac:=["is_whole"]
def KP:ac:=["self","change"]
noncomputable def KQ:ci:=
 [.cH (.v 0) "parts" (.blt .list [.v 1]),
 .cH (.v 0) "passed_by" (.c<|.int 0),
 .cH (.v 0) "offset" (.c (.int 0))]
def uA:ac:=["list"]
def ji:ac:=["self"]
noncomputable def KR:ci:=
 [.ret<|.jD (.cmp .Lt (.fld (.v 0) "passed_by")<|.blt .len [(.fld (.v 0) "parts")]) (.ix (.ix (.fld (.v 0) "parts")<|.fld (.v 0) "passed_by")<|.c<|.int 0)<|.c<|.str ""]
noncomputable def KS:ci:=
 [.ret<|.bin .Sub (.call 0 [(.ix (.fld (.v 0) "parts")<|.fld (.v 0) "passed_by")])<|.fld (.v 0) "offset"]
def KU:ac:=["part_size"]
def KW:ac:=["self","size","part","begin","end"]
noncomputable def D9:ci:=
 [.asg 2 (.ix (.fld (.v 0) "parts") (.fld (.v 0) "passed_by")),
 .asg 3 (.fld (.v 0) "offset"),
 .asg 4 (.bin .Add (.v 3)<|.v 1),
 .cH (.v 0) "offset" (.v 4),
 .ite (.cmp .Eq (.aG 0 "left" (.v 0) []) (.c (.int 0))) [.cH (.v 0) "passed_by" (.bin .Add (.fld (.v 0) "passed_by") (.c (.int 1))),
  .cH (.v 0) "offset" (.c (.int 0))] [],
 .ret (.tup [(.ix (.v 2) (.c (.int 0))),(.jD (.cmp .Eq (.ix (.v 2) (.c (.int 0))) (.c (.str "keep"))) (.v 1) (.sl (.ix (.v 2) (.c (.int 1))) (some (.v 3)) (some (.v 4))))])]
def YZ:ac:=["left"]
def KY:ac:=["walk","putting","keeping","part"]
noncomputable def KZ:ci:=
 [.asg 3 (.aG 0 "take" (.v 0) [(.aG 1 "left" (.v 0) [])]),
 .drop (.cG .append (.v 1) [.v 3]),
 .drop (.cG .append (.v 2) [(.tup [(.c (.str "keep")),(.call 0 [.v 3])])])]
def Y0:ac:=["take","left"]
def D_:ac:=["first","second","ones","others"]
noncomputable def Ea:ci:=
 [.ite (.and [(.cmp .Eq (.ix (.v 0) (.c (.int 0))) (.c (.str "cut"))),(.cmp .Eq (.ix (.v 1) (.c (.int 0))) (.c (.str "cut")))]) [.ite (.cmp .NotEq (.ix (.v 0) (.c (.int 1))) (.ix (.v 1) (.c (.int 1)))) [.ff 0 [(.c (.str "both changes cut a sign, and tell it otherwise"))]] []] [.ite (.cmp .Eq (.ix (.v 1) (.c (.int 0))) (.c (.str "keep"))) [.drop (.cG .append (.v 2) [.v 0]),
   .ite (.cmp .Eq (.ix (.v 0) (.c (.int 0))) (.c (.str "keep"))) [.drop (.cG .append (.v 3) [.v 1])] []] [.drop (.cG .append (.v 3) [.v 1])]]]
def Eb:ac:=["one","other","first","second","ones","others","size"]
noncomputable def Ec:ci:=
 [.ite (.cmp .NotEq (.ix (.call 0 [.v 0]) (.c (.int 0))) (.ix (.call 0 [.v 1]) (.c (.int 0)))) [.ff 0 [(.c (.str "the changes are over unlike numbers of signs"))]] [],
 .asg 2 (.make 0 [.v 0]),
 .asg 3 (.make 0 [.v 1]),
 .asg 4 (.lst []),
 .asg 5 (.lst []),
 .rA (.or [(.cmp .NotEq (.aG 0 "word" (.v 2) []) (.c (.str ""))),(.cmp .NotEq (.aG 0 "word" (.v 3) []) (.c (.str "")))]) [.ite (.cmp .Eq (.aG 0 "word" (.v 2) []) (.c (.str "put"))) [.drop (.call 1 [.v 2,.v 4,.v 5])] [.ite (.cmp .Eq (.aG 0 "word" (.v 3) []) (.c (.str "put"))) [.drop (.call 1 [.v 3,.v 5,.v 4])] [.asg 6 (.blt .min [(.aG 1 "left" (.v 2) []),(.aG 1 "left" (.v 3) [])]),
    .drop (.call 2 [(.aG 2 "take" (.v 2) [.v 6]),(.aG 2 "take" (.v 3) [.v 6]),.v 4,.v 5])]]],
 .ret (.tup [(.call 3 [.v 4]),(.call 3 [.v 5])])]
def Y1:ac:=["sizes","put_first","share","neat"]
def K0:ac:=["min"]
def Y2:ac:=["word","left","take"]
def K1:ac:=["Walk"]
def K2:ac:=["given","text"]
noncomputable def K3:ci:=
 [.ite (.cmp .Eq (.ix (.v 0) (.c (.int 0))) (.c (.str "keep"))) [.ret (.lst [(.tup [(.c (.str "cut")),.v 1])])] [],
 .ite (.cmp .NotEq (.ix (.v 0)<|.c<|.int 1)<|.v 1) [.ff 0 [(.c<|.str "what the first change puts is cut otherwise")]] [],
 .ret (.lst [])]
def K4:ac:=["walk","part","parts","place","size","given"]
noncomputable def K5:ci:=
 [.asg 2 (.lst []),
 .asg 3 (.c<|.int 0),
 .rA (.cmp .Lt (.v 3) (.call 0 [.v 1])) [.ite (.cmp .Eq (.aG 0 "word" (.v 0) []) (.c (.str "cut"))) [.drop (.cG .append (.v 2) [(.aG 1 "take" (.v 0) [(.aG 2 "left" (.v 0) [])])]),
   .cont] [],
  .asg 4 (.blt .min [(.aG 2 "left" (.v 0) []),(.bin .Sub (.call 0 [.v 1])<|.v 3)]),
  .asg 5 (.aG 1 "take" (.v 0) [.v 4]),
  .ite (.cmp .Eq (.ix (.v 1)<|.c<|.int 0)<|.c<|.str "keep") [.drop<|.cG .append (.v 2) [.v 5]] [.drop<|.cG .extend (.v 2) [(.call 1 [.v 5,(.sl (.ix (.v 1)<|.c<|.int 1) (some<|.v 3)<|some<|.bin .Add (.v 3)<|.v 4)])]],
  .asg 3 (.bin .Add (.v 3) (.v 4))],
 .ret (.v 2)]
def Y3:ac:=["part_size","cut_behind"]
def K6:ac:=["word","take","left"]
def K7:ac:=["one","other","walk","parts","part"]
noncomputable def K8:ci:=
 [.ite (.cmp .NotEq (.ix (.call 0 [.v 0]) (.c (.int 1))) (.ix (.call 0 [.v 1]) (.c (.int 0)))) [.ff 0 [(.c (.str "the other change is over another number of signs than the first one gives"))]] [],
 .asg 2 (.make 0 [.v 0]),
 .asg 3 (.lst []),
 .nG 4 .list [.v 1] [.ite (.cmp .Eq (.ix (.v 4)<|.c<|.int 0)<|.c<|.str "put") [.drop<|.cG .append (.v 3) [.v 4]] [.drop<|.cG .extend (.v 3) [(.call 1 [.v 2,.v 4])]]],
 .rA (.cmp .NotEq (.aG 0 "word" (.v 2) [])<|.c<|.str "") [.drop<|.cG .append (.v 3) [(.aG 1 "take" (.v 2) [(.aG 2 "left" (.v 2) [])])]],
 .ret (.call 2 [.v 3])]
def Y4:ac:=["sizes","parts_behind","neat"]
structure pO (K:Frag) (C:wl):Prop where
 cl:fE K C
 wU:eh K C "parts"
 rV:eh K C "passed_by"
 wV:eh K C "offset"
section
variable {X:Cx}
def jK(z:Str)(n:Int):Str:=⟨((List.replicate n.toNat z.cps.toList).flatten).toArray⟩
def Ed:R2:=λx y H Q=>∃z n,x=.str z/\y=.int n/\0<=n/\n<=100000/\z.length<=10/\Q (.str<|jK z n) H
theorem K9(z:Str)(n:Nat):(⟨(List.replicate n z.cps).foldl (· ++ ·) #[]⟩:Str)=⟨((List.replicate n z.cps.toList).flatten).toArray⟩:=by
 have:∀(n:Nat) (N':Array Nat),((List.replicate n z.cps).foldl (· ++ ·) N').toList=N'.toList++(List.replicate n z.cps.toList).flatten:=by
  intro n
  induction n with
  |zero=>intro N';simp
  |succ n ih=>intro N';rw[zaF,List.foldl_cons,ih,zaF,zaT,Array.toList_append,zam]
 congr 1
 apply Array.ext'
 rw[this];simp
theorem Y5:bH X (binaryOp .Mult) Ed:=by
 intro y' s N H x y v u Q I0 rx ry h;obtain⟨z,n,rfl,rfl,h0,h1,hz,q⟩:=h;obtain⟨t,rfl⟩:=rx;obtain⟨t2,rfl⟩:=ry;have nl:n.toNat<=100000:=by lia
 have ml:z.length*n.toNat<=10*100000:=Nat.mul_le_mul hz nl;refine P.mul_str (by rw[zqF (by lia),zqF (by lia)];rfl) (λh2 _=>?_) (λ_ _=>?_) ?_
 ·have:(10:Int)<= (2 ^ 63 - 1) / n:=(Int.le_ediv_iff_mul_le (by lia)).mpr (by lia)
  lia
 ·unfold Builtin.Str.tooLong;have hh:(10*100000:Nat)<=sizeLine:=by decide
  exact zqF (by lia)
 ·by_cases g0:n<1
  ·rw[BT g0];have e:jK z n=Str.empty:=by
    have:n.toNat=0:=by lia
    unfold jK;rw[this];rfl
   rw[e] at q;exact⟨by decide,.str Str.empty,H,I0.tok _,⟨_,rfl⟩,q⟩
  ·rw[AT g0];cases g1:(n==1 ||z.length==0)
   ·rw[AT (by simp)]
    refine⟨?_,.str _,H,I0.tok _,⟨_,rfl⟩,?_⟩
    ·rw[K9];show(((List.replicate n.toNat z.cps.toList).flatten).toArray).size<=sizeLine;have e:(((List.replicate n.toNat z.cps.toList).flatten).toArray).size=n.toNat*z.length:=by
      rw[zah,len_rep];rfl
     rw[e,Nat.mul_comm];exact zap ml (by decide)
    ·rw[K9];exact q
   ·rw[BT rfl];refine⟨.str z,H,I0,⟨_,rfl⟩,?_⟩;have e:jK z n=z:=by
     rw[zbx] at g1;have key:(List.replicate n.toNat z.cps.toList).flatten=z.cps.toList:=by
      rcases g1 with g|g
      ·have:n.toNat=1:=by have:=No g;lia
       rw[this];simp
      ·have z0:z.cps.toList=[]:=List.eq_nil_of_length_eq_zero (by have:z.length=0:=No g;simpa[Str.length] using this)
       rw[z0];simp
     unfold jK;rw[key]
    rw[e] at q;exact q
def Ee:Frag->TA->TE:=λ_ t N H Q=>t N H λB H1=>match B with|[x,y]=>Ed x y H1 Q|_=>False
variable {CX:cE}{S:cX}{J:aS}{e e2 a b c d:Expr}{es:im}{x:Str}{p q pos:Pos}{r g h rc:RE}{rs:jp}{i j:Nat}
theorem Y6(ha:PE X a (aj J g))(hb:PE X b (aj J h)):PE X (.BinOp a .Mult b pos) (aj J<|.xt Ee [g,h]):=HQ Y5 ha hb
variable {v:Expr}
theorem Y7{v o:Expr}{f:Str}{p:Pos}{l:Nat}{env:Env}:swapsWith v (some<|.Attribute o f p) l env=pure false:=by
 cases v<;>rfl
theorem Y8{f:Str}(G:di CX S J X)(ho:PE X a (aj J g))(he:PE X v (aj J r)):PS X (.Assign [.Attribute a f p] v q) (bD J<|.cH g f r):=by
 show PS X _ (zj J.K (aj J g) (aj J r) f);rw[<-G.K];exact Ic ho he (by exact Y7 (v:=v) (o:=a) (f:=f) (p:=p) (l:=q.line) (env:=X.env))
end
end
section
open PyProof.Rows PySem.W
mutual
theorem K_{H:Hp}:∀(d:zv) (v:V),Is H d v->d.hasDict=false
 |.none,_,_=>rfl
 |.bool _,_,_=>rfl
 |.int _,_,_=>rfl
 |.str _,_,_=>rfl
 |.list U,v,h=>by
  obtain⟨a,B,e,hH,hl⟩:=(show ∃a B,v=.ref a/\H a=some (.lst B)/\IsL H U B by simpa only[Is] using h)
  exact Ef U B hl
 |.tuple U,v,h=>by
  obtain⟨a,B,e,hH,hl⟩:=(show ∃a B,v=.ref a/\H a=some (.tup B)/\IsL H U B by simpa only[Is] using h)
  exact Ef U B hl
 |.dict _,_,h=>False.elim (by simpa only[Is] using h)
theorem Ef{H:Hp}:∀(ds:List zv) (B:be),IsL H ds B->PyData.hasDictAll ds=false
 |[],_,_=>rfl
 |d::ds,B,h=>by
  obtain⟨v,r,e,h1,h2⟩:=(show ∃v r,B=v::r/\Is H d v/\IsL H ds r by simpa only[IsL] using h)
  show(d.hasDict ||PyData.hasDictAll ds)=false;rw[K_ d v h1,Ef ds r h2];rfl
end
def La(K:Frag):be->Hp->VK->Prop:=λU H Q=>∃(a:wl) (d:zv),U=[.ref a]/\Is H d (.ref a)/\d.showable=true/\d.depth<=30/\d.shown.length<=16000000/\Q (.str d.shown) H
section
variable {X:Cx}
theorem Y9(hg:X.A.guards=some [])(hu:X.A.units+64<cLine):dh X (.builtin "repr") (La X.K):=by
 intro y' s N H U us Q I0 r h;obtain⟨a,d,rfl,hd,hs,hp,hl,q⟩:=h;obtain⟨u,rfl,ru⟩:=vals1 r;obtain⟨W,rd⟩:=Is.reads I0 d _ _ hd ru;cases ru;have Y_:d.shown.length<=sizeLine:=by rw[Os];lia
 refine repr_of_reads' rd hs (λz=>by rw[K_ d _ hd] at z;cases z) hg (by lia) (λ_ _ e=>e) (λh' u tk hk=>?_) Y_
 exact⟨.str d.shown,H,I0.kept (t':=tk) hk,⟨u,rfl⟩,q⟩
end
theorem Za:bootBuiltins "repr"=some (.builtin "repr"):=by decide+kernel
def Aj(K:Frag):be->Hp->VK->Prop:=λU H Q=>(U=[.av]/\Q (.str "None") H)\/La K U H Q
section
variable {X:Cx}
theorem Zb(hg:X.A.guards=some [])(hu:X.A.units+64<cLine):dh X (.builtin "repr") (Aj X.K):=by
 intro y' s N H U us Q I0 r h;rcases h with⟨rfl,q⟩|h
 ·obtain⟨u,rfl,ru⟩:=vals1 r;cases ru;exact P.repr_of_none ⟨.str "None",H,I0.kept (t':=_) λ_ _ e=>e,⟨_,rfl⟩,q⟩
 ·exact Y9 hg hu y' s N H U us Q I0 r h
end
def wW:Frag->TA->TE:=λK t=>gK (Aj K) t
section
variable {CX:cE}{S:cX}{J:aS}{X:Cx}{e:PySem.Expr}{b:List PySem.Expr}{x:Str}{p pos:Pos}{r:RE}{c:jp}
theorem Lb(G:Good CX S J X)(hA:PA X (e::b) (bw J (r::c)))(h:kB S x "repr"=true:=by kernel_rfl)(hn:gL (e::b)=true:=by kernel_rfl):PE X (.Call (.Name x p) (e::b) [] pos) (aj J<|.xt wW (r::c)):=by
 simp only[kB,zaa,Ev] at h
 obtain⟨⟨rfl,h2⟩,h3⟩:=h;show PE X _ (gK (Aj J.K)<|bw J (r::c));rw[<-G.K];exact zm (Zb G.gd G.units) (G.gl h2) (G.fY _ h3) Za hA (by decide) (by decide) (dN (dX hn).1)<|k9 _ _ b (dX hn).2
end
end
section
open PyProof.Rows
section
variable {b:cE}{S:cX}{J:aS}{X:Cx}{e:Expr}{es:im}{x:Str}{p q pos:Pos}{r:RE}{rs:jp}{i j:Nat}
theorem Zc{n:Nat}{np jg:Pos}{body su:pi}{Y':wS}{rb lg:ci}(G:di b S J X)(h:kG S j x=true)(hn:decide (S.N.length=n)=true)
  (hb:∀{J:aS}{X:Cx},di b (tS S) J X->dg X body (aB J rb)) (hs:∀{J:aS}{X:Cx},di b (hS S) J X->dg X (Y'::su) (aB J lg)):
  PS X (.Try body [.ExceptHandler (some<|.Name x np) none (Y'::su) jg] [] [] pos) (bD J<|.kS n n j rb lg):=by
 simp only[kG,zaa,Ev,zaJ] at h hn
 obtain⟨u,hm,hu⟩:=G.k6 j x h.1.1;intro y' s N H D I0 q;obtain⟨C,e,q⟩:=(show ∃C,J.gv j=.ref C/\pe J.K C n n (λE=>aB {J with E:=E} rb) (λea=>aB {J with E:=E0,hv:=some ea} lg) D N H from q)
 rw[e] at hu;have DT:u=.ref C:=hu;subst DT;have hl:X.N.length=n:=by rw[G.N];exact hn
 have q':pe X.K C X.N.length X.N.length (λE=>aB {J with E:=E} rb) (λea=>aB {J with E:=E0,hv:=some ea} lg) D N H:=by rw[G.K,hl];exact q
 exact Xz (tb:=λE=>aB {J with E:=E} rb) (th:=λea=>aB {J with E:=E0,hv:=some ea} lg) G.ju G.hU G.pJ (G.gl h.1.2) h.2 hm
  (λpn xe E ho hp=>hb<|G.Kn pn xe E ho hp) (λea pn=>hs<|G.held ea pn) y' s N H D I0 q'
end
end
open PySem PySem.Spec PyProof.Rows
def Eg(K:Frag):be->Hp->VK->Prop:=λU H Q=>∃p az,U=[.ref p]/\H p=some (.dK az)/\∀l,H l=none->Q (.ref l) (upd H l<|.dK az)
section
variable {X:Cx}
theorem Zd:dh X (.type "dict") (Eg X.K):=by
 intro y' s N H U us Q I0 r h;obtain⟨p,az,rfl,hp,q⟩:=h;obtain⟨u,rfl,ru⟩:=vals1 r;cases ru;obtain⟨hz,hd,B,kv,dd⟩:=CY I0.aF hp;have hl:=kv.length;refine kt_call_dict hd dd (by lia) λh' hm hs=>?_
 have new:cP X.prog X.w (upd H s.heap.objs.size<|.dK az) h' s.heap.objs.size (.dK az):=⟨hz,(U_ (P:=X.prog) (w:=X.w) (H:=H) s.heap I0.big).2.1,B,kv,hm⟩;exact⟨.ref s.heap.objs.size,_,I0.laid (t':=s.toks) (λb o e=>(hs.2 b<|zai<|Do e).trans<|EQ _ e) (zqR _) new,rfl,q _<|I0.aF.fresh<|zqR _⟩
end
theorem Ze:bootBuiltins "dict"=some (.type "dict"):=by decide+kernel
def Eh:Frag->TA->TE:=λK t=>gK (Eg K) t
section
variable {CX:cE}{S:cX}{J:aS}{X:Cx}{e:Expr}{b:im}{x:Str}{p pos:Pos}{r:RE}{c:jp}
theorem Zf(G:Good CX S J X)(hA:PA X (e::b) (bw J (r::c)))(h:kB S x "dict"=true:=by kernel_rfl)(hn:gL (e::b)=true:=by kernel_rfl)(hq:S.md=0:=by rfl):PE X (.Call (.Name x p) (e::b) [] pos) (aj J<|.xt Eh (r::c)):=by
 simp only[kB,zaa,Ev] at h
 obtain⟨⟨rfl,h2⟩,h3⟩:=h;show PE X _ (gK (Eg J.K)<|bw J (r::c));rw[<-G.K];exact Ip Zd (G.gl h2) (G.fY _ h3) Ze hA (by decide) (by decide) (dN (dX hn).1)<|k9 _ _ b (dX hn).2
end
section
open PyProof.Rows PySem.W
def Lc(a:wl):be->Hp->VK->Prop
 |[y]=>λH Q=>∃az k v,H a=some (.dK az)/\y=kV k/\jB az k=some v/\Q v (upd H a<|.dK<|uc az k)
 |_=>λ_ _=>False
def Ei:Frag->TE->TA->TE:=λ_ to ta N H Q=>to N H λx H1=>∃a,x=.ref a/\zC H1 a/\ta N H1 λys H2=>Lc a ys H2 Q
section
variable {CX:cE}{S:cX}{J:aS}{X:Cx}{e o:PySem.Expr}{x:Str}{c b:Pos}{r f:RE}
theorem Zg(G:Good CX S J X)(ho:PE X o (aj J f))(he:PE X e (aj J r))(h:kM o "pop" x 1 c b=true:=by kernel_rfl)(hn:gL [e]=true:=by kernel_rfl):PE X (.Call (.Attribute o x c) [e] [] b) (aj J<|.xm Ei f [r]):=by
 simp only[kM,zaa,Ev] at h
 obtain⟨⟨⟨rfl,h2⟩,h3⟩,h4⟩:=h;intro y' s N H Q I0 q;have Zh:((backTo b<|starEach [e] X.env).all (λx=> !x.1) && (backToKw b<|keywordEach [] X.env).all (λx=>x.1.isSome) && decide (([e]:List PySem.Expr).length+([]:List Keyword).length+(if ([]:List Keyword).isEmpty then 0 else 1) <30))=true:=by rw[Ab _ _ [e] hn];rfl
 have tr:backTo b (starEach [e] X.env)=[(false,eval e X.env)]:=by rw[dN (dX hn).1];rfl
 refine wpAny_Call_method (o8 h2) Zh h3 PySem.F.plainAttrs_dict PySem.F.slot_dict_pop PySem.F.type_dict_pop<|aU (ho y' s N H _ I0 q) λu s1 w=>?_;obtain⟨x,H1,I1,rx,a,ex,d,q1⟩:=w;subst ex;cases (show u=Value.ref a from rx)
 obtain⟨t1,t2,_⟩:=Vb I1 d;refine⟨t1,t2,?_⟩;rw[tr];refine UF rfl<|UV<|TD<|aU (he y' s1 N H1 _ I1 q1) λiv s2 w2=>Tm ?_;obtain⟨y,H2,I2,ry,az,k,v,ea,ey,l,q2⟩:=w2;subst ey;exact U5 I2 ea ry l (.inl rfl) λw' s3 I3 kP=>⟨v,_,I3,kP,q2⟩
end
end
theorem Zi{x:V}{u:wv}(r:RelV x u):∀{U:be}{us:ce},Vals U us->Vals (U++[x]) (us++[u]):=λh=>Vals.append h (.cons r .nil)
def lp(a c:Int)(n:Nat):be:=(List.range n).map λk=>V.int (a+((k:Nat):Int)*c)
theorem Zj{a c:Int}:∀{n:Nat}{N':j_},ItemsOf (λi v=>∃t,v=.int (a+i*c) t) N' n->Vals (lp a c n) N'.toList:=by
 intro n N' h;obtain⟨h1,h2⟩:=h;have key:∀(k:Nat) (l:ce),l.length=k->(∀j v,l[j]?=some v->∃t,v=Value.int (a+(j:Nat)*c) t)->Vals (lp a c k) l:=by
  intro k
  induction k with
  |zero=>intro l hl _;rw[zaD.mp hl];exact .nil
  |succ k ih=>
   intro l hl hp;have e:l=l.take k++[l[k]]:=by
    rw[<-XV (by lia),zaM (by lia)]
   have e2:lp a c (k+1)=lp a c k++[V.int<|a+((k:Nat):Int)*c]:=by unfold lp;rw[List.range_succ,zay];rfl
   rw[e,e2];refine Zi ?_<|ih _ (by rw[zav];lia) λj v hj=>?_
   ·obtain⟨t,ht⟩:=hp k l[k] (zax (by lia))
    exact⟨t,ht⟩
   ·have cj:j<k:=by
     have:=(zat.mp hj).1;rw[zav] at this;lia
    rw[List.getElem?_take_of_lt cj] at hj;exact hp j v hj
 exact key n N'.toList (by simpa using h1) λj v hj=>h2 j v (by simpa using hj)
def Ak(K:Frag):be->Hp->VK->Prop:=λU H Q=>∃(i j:Int) (n:Nat),U=[.int i,.int j]/\Builtin.Range.small i j 1=true/\Builtin.Range.rangeSize i j 1=n/\n<=2 ^ 24/\∀l,H l=none->Q (.ref l) (upd H l<|.lst<|lp i 1 n)
def Am:Frag->TA->TE:=λK t=>gK (Ak K) t
section
variable {CX:cE}{S:cX}{J:aS}{X:Cx}{e a b c:Expr}{es:im}{x y:Str}{p f g d:Pos}{r k l rc:RE}{rs:jp}
theorem Zk{t:TA}(hc:X.calm=true)(g1:Gl X "list")(m1:X.mg "list"=none)(g2:Gl X "range")(m2:X.mg "range"=none)(ha:PA X [a,b] t)(hs:starEach [a,b] X.env=[(false,eval a X.env),(false,eval b X.env)])(iL:starEach [b] X.env=[(false,eval b X.env)]):
  PE X (.Call (.Name "list" p) [.Call (.Name "range" f) [a,b] [] d] [] g) (gK (Ak X.K) t):=by
 intro y' s N H Q I0 h;refine KK<|qX I0 g1 m1 J7 ?_ (by decide) (by decide)
 refine Op ?_ rfl rfl;show wpAny _ _ (spliced ((false,eval (.Call (.Name "range" f) [a,b] [] d) X.env)::backTo g (starEach [] X.env))) _ _ s;refine TD ?_;refine KK<|qX I0 g2 m2 boot_range ?_ (by decide) (by decide)
 refine Op ?_ (by rw[hs,iL]) (by rw[iL];rfl)
 refine aU (ha d y' s N H _ I0 h) λus s1 ⟨B,H1,I1,r1,q1⟩=>?_;obtain⟨i,j,n,rfl,Zl,hn,hl,q⟩:=q1;cases r1 with
 |cons r rr=>
  cases rr with
  |cons r' rr=>
   cases rr;obtain⟨t,rfl⟩:=r;obtain⟨t',rfl⟩:=r';refine call_range_2 ?_;refine Tm ?_;refine call_list_range (I0.ok.hd hc) (IsRange.new ..) Zl hn hl λh' tk wu c' kp e DL=>?_;refine⟨.ref _,_,I1.laid (t':=tk) (λb o eb=>kp b o (EQ _ eb)) (by rw[GM];exact zaY _)
    (show cP X.prog X.w _ h' _ (.lst (lp i 1 n)) from⟨by unfold lp;rw[zaf,zaN];exact hl,wu.toList,c',Zj DL,by simpa using e⟩),rfl,q _ (I1.aF.fresh (by rw[GM];exact zaY _))⟩
theorem Ld(G:Good CX S J X)(hA:PA X [a,b] (bw J [k,l]))(h:kB S x "list"=true:=by kernel_rfl)(h':kB S y "range"=true:=by kernel_rfl)(hn:gL [a,b]=true:=by kernel_rfl)(hq:S.md=0:=by rfl):PE X (.Call (.Name x p) [.Call (.Name y f) [a,b] [] d] [] g) (aj J<|.xt Am [k,l]):=by
 simp only[kB,zaa,Ev] at h h'
 obtain⟨⟨rfl,h2⟩,h3⟩:=h;obtain⟨⟨rfl,h5⟩,h6⟩:=h';show PE X _ (gK (Ak J.K)<|bw J [k,l]);rw[<-G.K];have n1:=dX hn;have n2:=dX n1.2;exact Zk (G.calm hq) (G.gl h2) (G.fY _ h3) (G.gl h5) (G.fY _ h6) hA (by rw[dN n1.1,dN n2.1];rfl) (by rw[dN n2.1];rfl)
end
section
open PyProof.Rows
def bf(i:Nat):wS:=(PySem.Challenge.pw_inkloom_k39_letters_refused.main.body).getD i (.Pass ⟨0,0,0,0⟩)
structure jL (K:Frag) (C:wl):Prop where
 cl:fE K C
 iV:eh K C "signs"
 uB:eh K C "serials"
 uC:eh K C "changes"
 Ej:eh K C "makers"
structure iy (K:Frag) (C:wl):Prop where
 cl:fE K C
 iV:eh K C "signs"
 lq:eh K C "known"
 uD:eh K C "serial"
 gu:eh K C "flying"
 pQ:eh K C "delayed"
 pR:eh K C "early"
structure jM (K:Frag) (C:wl):Prop where
 cl:fE K C
 uE:eh K C "number"
 lu:eh K C "stand_now"
def Le:wS:=bf 18
abbrev bE(s:wS)(k:Nat):wS:=(ej s).getD k (.Pass ⟨0,0,0,0⟩)
abbrev bF(b:ci)(k:Nat):RS:=b.getD k (.ret<|.c .av)
abbrev MX(N0:ac)(s:wS)(f g l mn kn en hn:ac)(b:ci)(md:Nat):Prop:= ∀{CX:cE}{J:aS}{X:Cx},di CX (uz N0 (e_ s) f g l mn kn en hn md) J X->dg X (ej s) (aB J b)
abbrev MY(N0:ac)(s:wS)(f g l mn kn en hn:ac)(b:ci)(md k:Nat):Prop:= ∀{CX:cE}{J:aS}{X:Cx},di CX (uz N0 (e_ s) f g l mn kn en hn md) J X->PS X (bE s k) (bD J<|bF b k)
theorem Zm:MX jJ Le af af YM af af af af Kr 0:=λG=>have g:=G.toGood;(ai (aQ<|fI (pL g<|ae g)<|ir<|Kg g<|pL g<|ae g) ar)
def Lf:wS:=bf 19
theorem Zn:MX KN Lf YY af af af af af af KO 0:=λG=>have g:=G.toGood;(ai (aQ<|fI (aN g<|aa (ae g) ah)<|ir<|Ys g (ae g) (ae g)<|ae g) ar)
def Lg:wS:=bf 20
theorem Zo:MX D0 Lg af af Ks af af af af D1 0:=λG=>have g:=G.toGood;(ai (aQ<|fI (pL g<|ae g)<|ir<|dO g (ae g)<|ae g) ar)
def Lh:wS:=bf 21
theorem Zp:MX jJ Lh af YN Ks af af af af D2 0:=λG=>have g:=G.toGood;(ai (aQ<|fI (pL g<|ae g)<|ir<|dO g (dC g (ae g)<|aa (gN g) ah) ax) ar)
def Li:wS:=bf 22
theorem Zq:MX jJ Li YO af af af af YQ af Kt 0:=λG=>have g:=G.toGood;(ai (aZ (dY<|gO g<|aN g<|aa (ae g) ah) (ai (fZ G<|aa ax ah) ar) ar) ar)
def Lj:wS:=bf 24
theorem Zr:MX jJ Lj YR af Ku af af af af Ai 0:=λG=>have g:=G.toGood;(ai (aZ (PW.pt<|jh (dY<|Ad g<|pL g<|ae g)<|k_<|aX g (cA g<|aa (ae g) ah) aq) (ai (aQ cI) ar) ar)<|ai (aZ (gO g<|aN g<|aa (aL g (ae g) aq)<|aa (aJ<|aa ax ah) ah) (ai (aQ<|fI (aN g<|aa (aL g (ae g) aq) ah)<|ir<|dO g (aL g (ae g) aq) aq) ar) ar)<|ai (aQ<|fI (aN g<|aa (aL g (ae g) aq)<|aa (aJ<|aa ax<|aa ax ah) ah)<|fI (aN g<|aa (aL g (ae g) aq) ah)<|ir<|dO g (aL g (ae g) aq) ax) ar)
def Lk:wS:=bf 25
theorem Zs:MX Kv Lk af af af af af af af Kw 0:=λG=>have g:=G.toGood;(ai (aQ<|fI (dO g (ae g)<|ae g)<|ir<|Kg g<|fI (dO g (ae g) ax)<|ir<|dO g (ae g) ax) ar)
def Ll:wS:=bf 26
theorem Lm:MX D3 Ll YS af YT af af Kx af D4 0:=λG=>have g:=G.toGood;(ai (aZ (dY<|Ad g<|pL g<|ae g) (ai (fZ G<|aa ax ah) ar) ar)<|ai (aM G ax)<|ai (wO G (j9 g<|ae g)<|ai (aZ (dY<|gO g<|aN g<|aa (ae g) ah) (ai (fZ G<|aa ax ah) ar) ar)<|ai (aZ (dY<|gO g<|aN g<|aa (aL g (ae g) aq)<|aa (ae g) ah) (ai (fZ G<|aa ax ah) ar) ar)<|ai (aM G<|aL g (ae g) aq) ar) ar)
noncomputable def Ln:ci:=
 [.kS 1 1 0 [.drop (.call 0 [.v 0])] [.ret (.c (.bl false))],
 .ret (.c (.bl true))]
def Zt:ac:=["need_change"]
def Lo:wS:=bf 27
theorem Zu:MX jJ Lo Zt Kx af af af af af Ln 0:=λG=>have g:=G.toGood;(ai (Zc G (by kernel_rfl) (by kernel_rfl) (λG=>(λg=>(ai (bT<|aN g<|aa (ae g) ah) ar)) G.toGood)<|λG=>(λg=>(ai (aQ cI) ar)) G.toGood)<|ai (aQ cI) ar)
def Lp:wS:=bf 28
theorem Zv:MX Ky Lp af af fJ af af af af Kz 0:=λG=>have g:=G.toGood;(ai (aQ<|pK (aX g (aL g (ae g) aq) ax) (aL g (ae g) aq)<|cA g<|aa (aL g (ae g) aq) ah) ar)
def Lq:wS:=bf 29
theorem Lr:MX D5 Lq YU af YV af af af af D6 0:=λG=>have g:=G.toGood;(ai (bT<|aN g<|aa (ae g) ah)<|ai (aM G<|cA g<|aa (nU (ln:=["part"]) g (by kernel_rfl) (j9 g<|ae g) (DP λ_ g=>(aX g (aL g (ae g) aq) ax))<|λ_ g=>(aN g<|aa (ae g) ah)) ah)<|ai (aM G<|cA g<|aa (nU (ln:=["part"]) g (by kernel_rfl) (j9 g<|ae g) (DP λ_ g=>(aX g (aL g (ae g) aq) ax))<|λ_ g=>(aN g<|aa (ae g) ah)) ah)<|ai (aQ<|aJ<|aa (ae g)<|aa (ae g) ah) ar)
def Ls:wS:=inClass (bf 30) 0
theorem Zw:MX KP Ls af af uA af af af af KQ 0:=λG=>have g:=G.toGood;(ai (cR G (ae g)<|cA g<|aa (ae g) ah)<|ai (cR G (ae g) aq)<|ai (cR G (ae g) aq) ar)
def Lu:wS:=inClass (bf 30) 1
theorem Zx:MX ji Lu af af fJ af af af af KR 0:=λG=>have g:=G.toGood;(ai (aQ<|pK (aX g (bo g<|ae g)<|cA g<|aa (bo g<|ae g) ah) (aL g (aL g (bo g<|ae g)<|bo g<|ae g) aq) ax) ar)
def Lv:wS:=inClass (bf 30) 2
theorem Zy:MX ji Lv KU af af af af af af KS 0:=λG=>have g:=G.toGood;(ai (aQ<|aD g (aN g<|aa (aL g (bo g<|ae g)<|bo g<|ae g) ah)<|bo g<|ae g) ar)
def Lw:wS:=inClass (bf 30) 3
theorem Zz:MX KW Lw af af af YZ af af af D9 0:=λG=>have g:=G.toGood;(ai (aM G<|aL g (bo g<|ae g)<|bo g<|ae g)<|ai (aM G<|bo g<|ae g)<|ai (aM G<|aD g (ae g)<|ae g)<|ai (cR G (ae g)<|ae g)<|ai (aZ (aX g (bM g<|ae g) aq) (ai (cR G (ae g)<|aD g (bo g<|ae g) aq)<|ai (cR G (ae g) aq) ar) ar)<|ai (aQ<|aJ<|aa (aL g (ae g) aq)<|aa (pK (aX g (aL g (ae g) aq) ax) (ae g)<|nT g (aL g (ae g) aq) (jH<|ae g)<|jH<|ae g) ah) ar)
def Lx:wS:=bf 31
theorem ZA:MX KA Lx af af fJ af af af af KC 0:=λG=>have g:=G.toGood;(ai (aZ (PW.pt<|uw (aX g (cA g<|aa (ae g) ah) aq)<|uv<|aX g (aL g (aL g (ae g)<|mr aq) aq) ax) (ai (aM G<|aD g (ae g)<|aL g (Yu g<|ae g) aq) ar) ar)<|ai (bT<|dC g (ae g)<|aa (aJ<|aa ax<|aa (ae g) ah) ah) ar)
def Ly:wS:=bf 32
theorem ZC:MX KD Ly af af af af af af af KG 0:=λG=>have g:=G.toGood;(ai (aM G<|dC g ax<|aa (ae g) ah)<|ai (aM G<|dC g ax<|aa (ae g) ah)<|ai (aZ (aX g (ae g) ax) (ai (bT<|dC g (ae g)<|aa (aJ<|aa ax<|aa (ae g) ah) ah) ar) ar)<|ai (aZ (aX g (ae g) ax) (ai (bT<|dC g (ae g)<|aa (aJ<|aa ax<|aa (ae g) ah) ah) ar) ar) ar)
def Lz:wS:=bf 33
theorem ZD:MX KH Lz YW af af af af af af KI 0:=λG=>have g:=G.toGood;(ai (aM G<|aT ah)<|ai (aM G<|aT ah)<|ai (aM G<|aT ah)<|ai (Km [(_,_),(_,_)] G (j9 g<|ae g)<|ai (aZ (aX g (ae g) ax) (ai (bT<|dC g (ae g)<|aa (ae g) ah) ar)<|ai (aZ (aX g (ae g) ax) (ai (bT<|dC g (ae g)<|aa (ae g) ah) ar)<|ai (aZ (aX g (ae g) aq) (ai (bT<|aN g<|aa (ae g)<|aa (ae g)<|aa (ae g) ah)<|ai (aM G<|aT ah)<|ai (aM G<|aT ah)<|ai (bT<|aN g<|aa (ae g)<|aa (ae g) ah) ar) ar) ar) ar) ar)<|ai (bT<|aN g<|aa (ae g)<|aa (ae g)<|aa (ae g) ah)<|ai (aQ<|ae g) ar)
def LA:wS:=bf 34
theorem LB:MX D7 LA YX af fJ af af wR af D8 0:=λG=>have g:=G.toGood;(ai (bT<|aN g<|aa (ae g) ah)<|ai (aZ (aX g (aL g (aN g<|aa (ae g) ah) aq)<|cA g<|aa (ae g) ah) (ai (fZ G<|aa ax ah) ar) ar)<|ai (aM G aq)<|ai (aM G<|aT ah)<|ai (Km [(_,_),(_,_)] G (j9 g<|ae g)<|ai (aZ (aX g (ae g) ax) (ai (bT<|dC g (ae g)<|aa (ae g) ah) ar)<|ai (aZ (aX g (ae g) ax) (ai (bT<|dC g (ae g)<|aa (nT g (ae g) (jH<|ae g)<|jH<|aD g (ae g)<|ae g) ah)<|ai (aM G<|aD g (ae g)<|ae g) ar)<|ai (aZ (dY<|Yz g<|dC g (ae g)<|aa (ae g)<|aa (ae g) ah) (ai (fZ G<|aa ax ah) ar)<|ai (aM G<|aD g (ae g)<|cA g<|aa (ae g) ah) ar) ar) ar) ar)<|ai (aQ<|dC g ax<|aa (ae g) ah) ar)
def LC:wS:=bf 36
theorem ZE:MX KY LC KU af af Y0 af af af KZ 0:=λG=>have g:=G.toGood;(ai (aM G<|cQ g (ae g)<|aa (bM g<|ae g) ah)<|ai (bT<|dC g (ae g)<|aa (ae g) ah)<|ai (bT<|dC g (ae g)<|aa (aJ<|aa ax<|aa (aN g<|aa (ae g) ah) ah) ah) ar)
def LD:wS:=bf 37
theorem LF:MX D_ LD af af af af af wR af Ea 0:=λG=>have g:=G.toGood;(ai (aZ (PW.pt<|uw (aX g (aL g (ae g) aq) ax)<|uv<|aX g (aL g (ae g) aq) ax) (ai (aZ (aX g (aL g (ae g) aq)<|aL g (ae g) aq) (ai (fZ G<|aa ax ah) ar) ar) ar)<|ai (aZ (aX g (aL g (ae g) aq) ax) (ai (bT<|dC g (ae g)<|aa (ae g) ah)<|ai (aZ (aX g (aL g (ae g) aq) ax) (ai (bT<|dC g (ae g)<|aa (ae g) ah) ar) ar) ar)<|ai (bT<|dC g (ae g)<|aa (ae g) ah) ar) ar) ar)
def LG:wS:=bf 38
theorem LH:MX Eb LG Y1 af K0 Y2 K1 wR af Ec 0:=λG=>have g:=G.toGood;(ai (aZ (aX g (aL g (aN g<|aa (ae g) ah) aq)<|aL g (aN g<|aa (ae g) ah) aq) (ai (fZ G<|aa ax ah) ar) ar)<|ai (aM G<|jG g<|aa (ae g) ah)<|ai (aM G<|jG g<|aa (ae g) ah)<|ai (aM G<|aT ah)<|ai (aM G<|aT ah)<|ai (Af G (PW.pt<|jh (aX g (bM g<|ae g) ax)<|k_<|aX g (bM g<|ae g) ax)<|ai (aZ (aX g (bM g<|ae g) ax) (ai (bT<|aN g<|aa (ae g)<|aa (ae g)<|aa (ae g) ah) ar)<|ai (aZ (aX g (bM g<|ae g) ax) (ai (bT<|aN g<|aa (ae g)<|aa (ae g)<|aa (ae g) ah) ar)<|ai (aM G<|cA g<|aa (bM g<|ae g)<|aa (bM g<|ae g) ah)<|ai (bT<|aN g<|aa (cQ g (ae g)<|aa (ae g) ah)<|aa (cQ g (ae g)<|aa (ae g) ah)<|aa (ae g)<|aa (ae g) ah) ar) ar) ar)<|ai (aQ<|aJ<|aa (aN g<|aa (ae g) ah)<|aa (aN g<|aa (ae g) ah) ah) ar)
def LI:ac:=["self","text","hands"]
noncomputable def LJ:ci:=
 [.drop (.call 0 [.v 1]),
 .ite (.not<|.call 1 [.v 2,(.c<|.int 1),.g 0]) [.ff 0 [(.c<|.str "there are 1 to 8 hands")]] [],
 .cH (.v 0) "signs" (.v 1),
 .cH (.v 0) "serials" (.comp none [] .jt [.v 2] none<|.c<|.int 0),
 .cH (.v 0) "changes" (.lst []),
 .cH (.v 0) "makers" (.lst [])]
def ZF:ac:=["need_text","is_between"]
def Ek:ac:=["MOST_HANDS"]
def ZG:ac:=["range"]
def LK:ac:=["NoHand"]
def LL:wS:=inClass (bf 41) 0
theorem ZH:MX LI LL ZF Ek ZG af af LK af LJ 0:=λG=>have g:=G.toGood;(ai (bT<|aN g<|aa (ae g) ah)<|ai (aZ (dY<|gO g<|aN g<|aa (ae g)<|aa aq<|aa (gN g) ah) (ai (fZ G<|aa ax ah) ar) ar)<|ai (cR G (ae g)<|ae g)<|ai (Y8 G (ae g)<|nU (ln:=["hand"]) g (by kernel_rfl) (DR g<|ae g) rM<|λ_ g=>aq)<|ai (cR G (ae g)<|aT ah)<|ai (cR G (ae g)<|aT ah) ar)
noncomputable def LM:ci:=
 [.ret<|.fld (.v 0) "signs"]
def LN:wS:=inClass (bf 41) 1
theorem ZI:MX ji LN af af af af af af af LM 0:=λG=>have g:=G.toGood;(ai (aQ<|bo g<|ae g) ar)
noncomputable def LO:ci:=
 [.ret<|.blt .len [(.fld (.v 0) "changes")]]
def LP:wS:=inClass (bf 41) 2
theorem ZJ:MX ji LP af af fJ af af af af LO 0:=λG=>have g:=G.toGood;(ai (aQ<|cA g<|aa (bo g<|ae g) ah) ar)
def LQ:ac:=["self","number"]
noncomputable def LR:ci:=
 [.ite (.not (.call 0 [.v 1,(.c (.int 1)),(.aG 0 "many" (.v 0) [])])) [.ff 0 [(.c (.str "no change of that number was taken"))]] [],
 .ret (.blt .list [(.ix (.fld (.v 0) "changes") (.bin .Sub (.v 1) (.c (.int 1))))])]
def LU:ac:=["is_between"]
def El:ac:=["many"]
def ZK:ac:=["NoLetter"]
def LV:wS:=inClass (bf 41) 3
theorem ZL:MX LQ LV LU af uA El af ZK af LR 0:=λG=>have g:=G.toGood;(ai (aZ (dY<|gO g<|aN g<|aa (ae g)<|aa aq<|aa (bM g<|ae g) ah) (ai (fZ G<|aa ax ah) ar) ar)<|ai (aQ<|cA g<|aa (aL g (bo g<|ae g)<|aD g (ae g) aq) ah) ar)
def Ao:ac:=["self","hand","number"]
noncomputable def LW:ci:=
 [.ret<|.tup [(.c<|.str "took"),.v 1,.v 2,(.ix (.fld (.v 0) "makers")<|.bin .Sub (.v 2)<|.c<|.int 1),(.aG 0 "change" (.v 0) [.v 2])]]
def Ap:ac:=["change"]
def LX:wS:=inClass (bf 41) 4
theorem ZM:MX Ao LX af af af Ap af af af LW 0:=λG=>have g:=G.toGood;(ai (aQ<|aJ<|aa ax<|aa (ae g)<|aa (ae g)<|aa (aL g (bo g<|ae g)<|aD g (ae g) aq)<|aa (cQ g (ae g)<|aa (ae g) ah) ah) ar)
def pS:ac:=["self","letter"]
noncomputable def Em:ci:=
 [.ite (.or [(.cmp .NotEq (.blt .len [.v 1]) (.c (.int 5))),(.not (.call 0 [(.ix (.v 1) (.c (.int 0))),(.tup [(.c (.str "ask"))])])),(.not (.aG 0 "is_known" (.v 0) [(.ix (.v 1) (.c (.int 1))),(.ix (.v 1) (.c (.int 3)))]))]) [.ret (.c (.bl false))] [],
 .ret (.and [(.call 1 [(.ix (.v 1) (.c (.int 2)))]),(.cmp .GtE (.ix (.v 1) (.c (.int 2))) (.c (.int 1))),(.call 2 [(.ix (.v 1) (.c (.int 4)))])])]
def ZN:ac:=["is_word","is_whole","is_change"]
def LY:ac:=["is_known"]
def LZ:wS:=inClass (bf 41) 5
theorem ZO:MX pS LZ ZN af fJ LY af af af Em 0:=λG=>have g:=G.toGood;(ai (aZ (PW.pt<|jh (aX g (cA g<|aa (ae g) ah) aq)<|jh (dY<|gO g<|aN g<|aa (aL g (ae g) aq)<|aa (aJ<|aa ax ah) ah)<|k_<|dY<|DQ g<|cQ g (ae g)<|aa (aL g (ae g) aq)<|aa (aL g (ae g) aq) ah) (ai (aQ cI) ar) ar)<|ai (aQ<|fI (aN g<|aa (aL g (ae g) aq) ah)<|fI (dO g (aL g (ae g) aq) aq)<|ir<|aN g<|aa (aL g (ae g) aq) ah) ar)
noncomputable def En:ci:=
 [.ret<|.and [(.cmp .Eq (.blt .len [.v 1])<|.c<|.int 3),(.call 0 [(.ix (.v 1)<|.c<|.int 0),(.tup [(.c<|.str "again")])]),(.aG 0 "is_known" (.v 0) [(.ix (.v 1)<|.c<|.int 1),(.ix (.v 1)<|.c<|.int 2)])]]
def ZP:ac:=["is_word"]
def L7:wS:=inClass (bf 41) 6
theorem ZQ:MX pS L7 ZP af fJ LY af af af En 0:=λG=>have g:=G.toGood;(ai (aQ<|fI (dO g (cA g<|aa (ae g) ah) aq)<|fI (aN g<|aa (aL g (ae g) aq)<|aa (aJ<|aa ax ah) ah)<|ir<|cQ g (ae g)<|aa (aL g (ae g) aq)<|aa (aL g (ae g) aq) ah) ar)
noncomputable def L8:ci:=
 [.ret<|.and [(.call 0 [.v 1,(.c<|.int 0),(.bin .Sub (.blt .len [(.fld (.v 0) "serials")])<|.c<|.int 1)]),(.call 0 [.v 2,(.c<|.int 0),(.aG 0 "many" (.v 0) [])])]]
def L9:wS:=inClass (bf 41) 7
theorem ZR:MX Ao L9 LU af fJ El af af af L8 0:=λG=>have g:=G.toGood;(ai (aQ<|fI (aN g<|aa (ae g)<|aa aq<|aa (aD g (cA g<|aa (bo g<|ae g) ah) aq) ah)<|ir<|aN g<|aa (ae g)<|aa aq<|aa (bM g<|ae g) ah) ar)
noncomputable def wX:ci:=
 [.ite (.not (.iQ .tuple (.v 1))) [.ff 0 [(.c (.str "a letter is a tuple"))]] [],
 .ite (.aG 0 "is_again" (.v 0) [.v 1]) [.ret<|.comp none [("self",0),("letter",1)] .zP [(.bin .Add (.ix (.v 1)<|.c<|.int 2)<|.c<|.int 1),(.bin .Add (.aG 1 "many" (.v 0) [])<|.c<|.int 1)] none<|.aG 2 "took" (.v 1) [(.ix (.v 2)<|.c<|.int 1),.v 0]] [],
 .ite (.not<|.aG 3 "is_ask" (.v 0) [.v 1]) [.ff 0 [(.c<|.str "this is no letter to the server of these hands")]] [],
 .ite (.cmp .NotEq (.ix (.v 1)<|.c<|.int 2)<|.bin .Add (.ix (.fld (.v 0) "serials")<|.ix (.v 1)<|.c<|.int 1)<|.c<|.int 1) [.ret<|.lst []] [],
 .ret (.aG 4 "take_in" (.v 0) [(.ix (.v 1) (.c (.int 1))),(.ix (.v 1) (.c (.int 3))),(.ix (.v 1) (.c (.int 4)))])]
def ZS:ac:=["isinstance","tuple","range"]
def ZT:ac:=["is_again","many","took","is_ask","take_in"]
def Eo:ac:=["BadLetter"]
def L_:wS:=inClass (bf 41) 8
theorem ZU:MX pS L_ af af ZS ZT af Eo af wX 0:=λG=>have g:=G.toGood;(ai (aZ (dY<|Ad g<|pL g<|ae g) (ai (fZ G<|aa ax ah) ar) ar)<|ai (aZ (DQ g<|cQ g (ae g)<|aa (ae g) ah) (ai (aQ<|nU (ln:=["number"]) g (by kernel_rfl) (YA g (aD g (aL g (ae g) aq) aq)<|aD g (bM g<|ae g) aq) rM<|λ_ g=>(cQ g (ae g)<|aa (aL g (ae g) aq)<|aa (ae g) ah)) ar) ar)<|ai (aZ (dY<|DQ g<|cQ g (ae g)<|aa (ae g) ah) (ai (fZ G<|aa ax ah) ar) ar)<|ai (aZ (aX g (aL g (ae g) aq)<|aD g (aL g (bo g<|ae g)<|aL g (ae g) aq) aq) (ai (aQ<|aT ah) ar) ar)<|ai (aQ<|cQ g (ae g)<|aa (aL g (ae g) aq)<|aa (aL g (ae g) aq)<|aa (aL g (ae g) aq) ah) ar)
def Aq:ac:=["self","hand","number","change","taken"]
noncomputable def uF:ci:=
 [.nG 4 .list [(.sl (.fld (.v 0) "changes") (some (.v 2)) none)] [.asg 3 (.ix (.call 0 [.v 4,.v 3]) (.c (.int 1)))],
 .cH (.v 0) "signs" (.call 1 [(.fld (.v 0) "signs"),.v 3]),
 .set (.fld (.v 0) "serials") (.v 1) (.bin .Add (.ix (.fld (.v 0) "serials")<|.v 1)<|.c<|.int 1),
 .drop (.cG .append (.fld (.v 0) "changes") [(.blt .list [.v 3])]),
 .drop (.cG .append (.fld (.v 0) "makers") [.v 1]),
 .ret (.comp none [("self",0)] .jt [(.blt .len [(.fld (.v 0) "serials")])] none (.aG 0 "took" (.v 1) [.v 0,(.aG 1 "many" (.v 1) [])]))]
def Ma:ac:=["passed","done"]
def ZV:ac:=["list","range","len"]
def ZW:ac:=["took","many"]
def Mb:wS:=inClass (bf 41) 9
theorem Ep:MX Aq Mb Ma af ZV ZW af af af uF 0:=λG=>have g:=G.toGood;(ai (wO G (j9 g<|nT g (bo g<|ae g) (jH<|ae g) wN)<|ai (aM G<|aL g (aN g<|aa (ae g)<|aa (ae g) ah) aq) ar)<|ai (cR G (ae g)<|aN g<|aa (bo g<|ae g)<|aa (ae g) ah)<|ai (Kl (aD g (aL g (bo g<|ae g)<|ae g) aq) (bo g<|ae g)<|ae g)<|ai (bT<|dC g (bo g<|ae g)<|aa (cA g<|aa (ae g) ah) ah)<|ai (bT<|dC g (bo g<|ae g)<|aa (ae g) ah)<|ai (aQ<|nU (ln:=["other"]) g (by kernel_rfl) (DR g<|cA g<|aa (bo g<|ae g) ah) rM<|λ_ g=>(cQ g (ae g)<|aa (ae g)<|aa (bM g<|ae g) ah)) ar)
def Mc:wS:=bf 43
theorem ZX:MX K2 Mc af af af af af wR af K3 0:=λG=>have g:=G.toGood;(ai (aZ (aX g (aL g (ae g) aq) ax) (ai (aQ<|aT<|aa (aJ<|aa ax<|aa (ae g) ah) ah) ar) ar)<|ai (aZ (aX g (aL g (ae g) aq)<|ae g) (ai (fZ G<|aa ax ah) ar) ar)<|ai (aQ<|aT ah) ar)
def Md:wS:=bf 44
theorem ZY:MX K4 Md Y3 af K0 K6 af af af K5 0:=λG=>have g:=G.toGood;(ai (aM G<|aT ah)<|ai (aM G aq)<|ai (Af G (aX g (ae g)<|aN g<|aa (ae g) ah)<|ai (aZ (aX g (bM g<|ae g) ax) (ai (bT<|dC g (ae g)<|aa (cQ g (ae g)<|aa (bM g<|ae g) ah) ah)<|ai YH ar) ar)<|ai (aM G<|cA g<|aa (bM g<|ae g)<|aa (aD g (aN g<|aa (ae g) ah)<|ae g) ah)<|ai (aM G<|cQ g (ae g)<|aa (ae g) ah)<|ai (aZ (aX g (aL g (ae g) aq) ax) (ai (bT<|dC g (ae g)<|aa (ae g) ah) ar)<|ai (bT<|dC g (ae g)<|aa (aN g<|aa (ae g)<|aa (nT g (aL g (ae g) aq) (jH<|ae g)<|jH<|aD g (ae g)<|ae g) ah) ah) ar)<|ai (aM G<|aD g (ae g)<|ae g) ar)<|ai (aQ<|ae g) ar)
def Me:wS:=bf 45
theorem ZZ:MX K7 Me Y4 af af K6 K1 wR af K8 0:=λG=>have g:=G.toGood;(ai (aZ (aX g (aL g (aN g<|aa (ae g) ah) aq)<|aL g (aN g<|aa (ae g) ah) aq) (ai (fZ G<|aa ax ah) ar) ar)<|ai (aM G<|jG g<|aa (ae g) ah)<|ai (aM G<|aT ah)<|ai (wO G (j9 g<|ae g)<|ai (aZ (aX g (aL g (ae g) aq) ax) (ai (bT<|dC g (ae g)<|aa (ae g) ah) ar)<|ai (bT<|dC g (ae g)<|aa (aN g<|aa (ae g)<|aa (ae g) ah) ah) ar) ar)<|ai (Af G (aX g (bM g<|ae g) ax)<|ai (bT<|dC g (ae g)<|aa (cQ g (ae g)<|aa (bM g<|ae g) ah) ah) ar)<|ai (aQ<|aN g<|aa (ae g) ah) ar)
def Mf:ac:=["self","text"]
noncomputable def Mg:ci:=
 [.cH (.v 0) "signs" (.v 1),
 .cH (.v 0) "known" (.c<|.int 0),
 .cH (.v 0) "serial" (.c<|.int 0),
 .cH (.v 0) "flying" (.c .av),
 .cH (.v 0) "delayed" (.c .av),
 .cH (.v 0) "early" .rz]
def Mh:wS:=inClass (bf 47) 0
theorem Z0:MX Mf Mh af af af af af af af Mg 0:=λG=>have g:=G.toGood;(ai (cR G (ae g)<|ae g)<|ai (cR G (ae g) aq)<|ai (cR G (ae g) aq)<|ai (cR G (ae g) dj)<|ai (cR G (ae g) dj)<|ai (cR G (ae g) Kh) ar)
def Mi:ac:=["stand","other"]
noncomputable def Mj:ci:=
 [.asg 1 (.make 0 [(.fld (.v 0) "signs")]),
 .cH (.v 1) "known" (.fld (.v 0) "known"),
 .cH (.v 1) "serial" (.fld (.v 0) "serial"),
 .cH (.v 1) "flying" (.fld (.v 0) "flying"),
 .cH (.v 1) "delayed" (.fld (.v 0) "delayed"),
 .cH (.v 1) "early" (.xt Eh [(.fld (.v 0) "early")]),
 .ret (.v 1)]
def Z1:ac:=["dict"]
def Ml:ac:=["Stand"]
def Mm:wS:=bf 48
theorem Z2:MX Mi Mm af af Z1 af Ml af af Mj 0:=λG=>have g:=G.toGood;(ai (aM G<|jG g<|aa (bo g<|ae g) ah)<|ai (cR G (ae g)<|bo g<|ae g)<|ai (cR G (ae g)<|bo g<|ae g)<|ai (cR G (ae g)<|bo g<|ae g)<|ai (cR G (ae g)<|bo g<|ae g)<|ai (cR G (ae g)<|Zf g<|aa (bo g<|ae g) ah)<|ai (aQ<|ae g) ar)
noncomputable def Mn:ci:=
 [.ret<|.jD (.cmp .Is (.v 0)<|.c .av) (.c .av)<|.blt .list [.v 0]]
def Mo:wS:=bf 49
theorem Z3:MX Ap Mo af af uA af af af af Mn 0:=λG=>have g:=G.toGood;(ai (aQ<|pK (aX g (ae g) dj) dj<|cA g<|aa (ae g) ah) ar)
def Mp:ac:=["stand","change","pair"]
noncomputable def Er:ci:=
 [.ite (.cmp .IsNot (.fld (.v 0) "flying") (.c .av)) [.asg 2 (.call 0 [.v 1,(.fld (.v 0) "flying")]),
  .asg 1 (.ix (.v 2)<|.c<|.int 0),
  .cH (.v 0) "flying" (.ix (.v 2) (.c (.int 1)))] [],
 .ite (.cmp .IsNot (.fld (.v 0) "delayed") (.c .av)) [.asg 2 (.call 0 [.v 1,(.fld (.v 0) "delayed")]),
  .asg 1 (.ix (.v 2)<|.c<|.int 0),
  .cH (.v 0) "delayed" (.ix (.v 2) (.c (.int 1)))] [],
 .cH (.v 0) "signs" (.call 1 [(.fld (.v 0) "signs"),.v 1]),
 .ret (.v 1)]
def Mq:wS:=bf 50
theorem Z4:MX Mp Mq Ma af af af af af af Er 0:=λG=>have g:=G.toGood;(ai (aZ (aX g (bo g<|ae g) dj) (ai (aM G<|aN g<|aa (ae g)<|aa (bo g<|ae g) ah)<|ai (aM G<|aL g (ae g) aq)<|ai (cR G (ae g)<|aL g (ae g) aq) ar) ar)<|ai (aZ (aX g (bo g<|ae g) dj) (ai (aM G<|aN g<|aa (ae g)<|aa (bo g<|ae g) ah)<|ai (aM G<|aL g (ae g) aq)<|ai (cR G (ae g)<|aL g (ae g) aq) ar) ar)<|ai (cR G (ae g)<|aN g<|aa (bo g<|ae g)<|aa (ae g) ah)<|ai (aQ<|ae g) ar)
def Mr:ac:=["self","number","text"]
noncomputable def Ms:ci:=
 [.ite (.not (.call 0 [.v 1,(.c (.int 0)),(.bin .Sub (.g 0) (.c (.int 1)))])) [.ff 0 [(.c (.str "hands are numbered from 0 to 7"))]] [],
 .drop (.call 1 [.v 2]),
 .cH (.v 0) "number" (.v 1),
 .cH (.v 0) "stand_now" (.make 0 [.v 2])]
def Z5:ac:=["is_between","need_text"]
def Mt:wS:=inClass (bf 51) 0
theorem Z6:MX Mr Mt Z5 Ek af af Ml LK af Ms 0:=λG=>have g:=G.toGood;(ai (aZ (dY<|gO g<|aN g<|aa (ae g)<|aa aq<|aa (aD g (gN g) aq) ah) (ai (fZ G<|aa ax ah) ar) ar)<|ai (bT<|aN g<|aa (ae g) ah)<|ai (cR G (ae g)<|ae g)<|ai (cR G (ae g)<|jG g<|aa (ae g) ah) ar)
noncomputable def Mu:ci:=
 [.ret<|.fld (.fld (.v 0) "stand_now") "signs"]
def Mv:wS:=inClass (bf 51) 1
theorem Z7:MX ji Mv af af af af af af af Mu 0:=λG=>have g:=G.toGood;(ai (aQ<|bo g<|bo g<|ae g) ar)
noncomputable def Mw:ci:=
 [.ret<|.fld (.fld (.v 0) "stand_now") "known"]
def Mx:wS:=inClass (bf 51) 2
theorem Z8:MX ji Mx af af af af af af af Mw 0:=λG=>have g:=G.toGood;(ai (aQ<|bo g<|bo g<|ae g) ar)
noncomputable def My:ci:=
 [.ret<|.call 0 [(.fld (.fld (.v 0) "stand_now") "flying")]]
def Z9:ac:=["copied"]
def Mz:wS:=inClass (bf 51) 3
theorem Z_:MX ji Mz Z9 af af af af af af My 0:=λG=>have g:=G.toGood;(ai (aQ<|aN g<|aa (bo g<|bo g<|ae g) ah) ar)
def MA:ac:=["self","stand"]
noncomputable def MB:ci:=
 [.ret<|.tup [(.c<|.str "ask"),(.fld (.v 0) "number"),(.fld (.v 1) "serial"),(.fld (.v 1) "known"),(.blt .list [(.fld (.v 1) "flying")])]]
def MC:wS:=inClass (bf 51) 5
theorem aaa:MX MA MC af af uA af af af af MB 0:=λG=>have g:=G.toGood;(ai (aQ<|aJ<|aa ax<|aa (bo g<|ae g)<|aa (bo g<|ae g)<|aa (bo g<|ae g)<|aa (cA g<|aa (bo g<|ae g) ah) ah) ar)
def Ar:ac:=["self","stand","change"]
noncomputable def MD:ci:=
 [.cH (.v 1) "serial" (.bin .Add (.fld (.v 1) "serial") (.c (.int 1))),
 .cH (.v 1) "flying" (.v 2),
 .ret (.lst [(.aG 0 "ask" (.v 0) [.v 1])])]
def aab:ac:=["ask"]
def ME:wS:=inClass (bf 51) 6
theorem aac:MX Ar ME af af af aab af af af MD 0:=λG=>have g:=G.toGood;(ai (cR G (ae g)<|aD g (bo g<|ae g) aq)<|ai (cR G (ae g)<|ae g)<|ai (aQ<|aT<|aa (cQ g (ae g)<|aa (ae g) ah) ah) ar)
def Es:ac:=["self","change","stand","signs"]
noncomputable def Et:ci:=
 [.asg 2 (.fld (.v 0) "stand_now"),
 .asg 3 (.call 0 [(.fld (.v 2) "signs"),.v 1]),
 .ite (.cmp .IsNot (.fld (.v 2) "delayed")<|.c .av) [.cH (.v 2) "delayed"<|.call 1 [(.fld (.v 2) "delayed"),.v 1]] [.ite (.cmp .IsNot (.fld (.v 2) "flying")<|.c .av) [.cH (.v 2) "delayed"<|.blt .list [.v 1]] []],
 .cH (.v 2) "signs" (.v 3),
 .ret (.jD (.cmp .Is (.fld (.v 2) "flying") (.c .av)) (.aG 0 "take_off" (.v 0) [.v 2,(.blt .list [.v 1])]) (.lst []))]
def aad:ac:=["done","then"]
def MF:ac:=["take_off"]
def MG:wS:=inClass (bf 51) 7
theorem MH:MX Es MG aad af uA MF af af af Et 0:=λG=>have g:=G.toGood;(ai (aM G<|bo g<|ae g)<|ai (aM G<|aN g<|aa (bo g<|ae g)<|aa (ae g) ah)<|ai (aZ (aX g (bo g<|ae g) dj) (ai (cR G (ae g)<|aN g<|aa (bo g<|ae g)<|aa (ae g) ah) ar)<|ai (aZ (aX g (bo g<|ae g) dj) (ai (cR G (ae g)<|cA g<|aa (ae g) ah) ar) ar) ar)<|ai (cR G (ae g)<|ae g)<|ai (aQ<|pK (aX g (bo g<|ae g) dj) (cQ g (ae g)<|aa (ae g)<|aa (cA g<|aa (ae g) ah) ah)<|aT ah) ar)
noncomputable def wY:ci:=
 [.ite (.or [(.not (.iQ .tuple (.v 1))),(.cmp .NotEq (.blt .len [.v 1]) (.c (.int 5))),(.not (.call 0 [(.ix (.v 1) (.c (.int 0))),(.tup [(.c (.str "took"))])]))]) [.ff 0 [(.c (.str "a took letter is a tuple of five"))]] [],
 .ite (.or [(.not<|.call 1 [(.ix (.v 1)<|.c<|.int 1)]),(.cmp .NotEq (.ix (.v 1)<|.c<|.int 1)<|.fld (.v 0) "number")]) [.ff 0 [(.c<|.str "this letter is not for this hand")]] [],
 .ite (.or [(.not<|.call 1 [(.ix (.v 1)<|.c<|.int 2)]),(.cmp .Lt (.ix (.v 1)<|.c<|.int 2)<|.c<|.int 1),(.not<|.call 2 [(.ix (.v 1)<|.c<|.int 3),(.c<|.int 0),(.bin .Sub (.g 0)<|.c<|.int 1)])]) [.ff 0 [(.c<|.str "no hand's change is taken with this number")]] [],
 .ite (.not (.call 3 [(.ix (.v 1) (.c (.int 4)))])) [.ff 0 [(.c (.str "what was taken is a change"))]] []]
def aae:ac:=["is_word","is_whole","is_between","is_change"]
def MI:wS:=inClass (bf 51) 8
theorem aaf:MX pS MI aae Ek Ku af af Eo af wY 0:=λG=>have g:=G.toGood;(ai (aZ (PW.pt<|jh (dY<|Ad g<|pL g<|ae g)<|jh (aX g (cA g<|aa (ae g) ah) aq)<|k_<|dY<|gO g<|aN g<|aa (aL g (ae g) aq)<|aa (aJ<|aa ax ah) ah) (ai (fZ G<|aa ax ah) ar) ar)<|ai (aZ (PW.pt<|jh (dY<|gO g<|aN g<|aa (aL g (ae g) aq) ah)<|k_<|aX g (aL g (ae g) aq)<|bo g<|ae g) (ai (fZ G<|aa ax ah) ar) ar)<|ai (aZ (PW.pt<|jh (dY<|gO g<|aN g<|aa (aL g (ae g) aq) ah)<|jh (aX g (aL g (ae g) aq) aq)<|k_<|dY<|gO g<|aN g<|aa (aL g (ae g) aq)<|aa aq<|aa (aD g (gN g) aq) ah) (ai (fZ G<|aa ax ah) ar) ar)<|ai (aZ (dY<|gO g<|aN g<|aa (aL g (ae g) aq) ah) (ai (fZ G<|aa ax ah) ar) ar) ar)
noncomputable def MJ:ci:=
 [.ite (.cmp .Is (.fld (.v 1) "flying") (.c .av)) [.ff 0 [(.c (.str "nothing is in flight"))]] [],
 .asg 2 (.fld (.v 1) "delayed"),
 .cH (.v 1) "flying" (.c .av),
 .cH (.v 1) "delayed" (.c .av),
 .ret (.jD (.cmp .Is (.v 2) (.c .av)) (.lst []) (.aG 0 "take_off" (.v 0) [.v 1,.v 2]))]
def MK:wS:=inClass (bf 51) 9
theorem aag:MX Ar MK af af af MF af Eo af MJ 0:=λG=>have g:=G.toGood;(ai (aZ (aX g (bo g<|ae g) dj) (ai (fZ G<|aa ax ah) ar) ar)<|ai (aM G<|bo g<|ae g)<|ai (cR G (ae g) dj)<|ai (cR G (ae g) dj)<|ai (aQ<|pK (aX g (ae g) dj) (aT ah)<|cQ g (ae g)<|aa (ae g)<|aa (ae g) ah) ar)
def Eu:ac:=["self","letter","stand","posted","told","taken"]
noncomputable def Ew:ci:=
 [.drop (.aG 0 "need_took" (.v 0) [.v 1]),
 .asg 2 (.call 0 [(.fld (.v 0) "stand_now")]),
 .asg 3 (.lst []),
 .asg 4 (.lst []),
 .ite (.and [(.cmp .Gt (.ix (.v 1)<|.c<|.int 2)<|.fld (.v 2) "known"),(.wG (.ix (.v 1)<|.c<|.int 2)<|.fld (.v 2) "early")]) [.dput (.fld (.v 2) "early") (.ix (.v 1)<|.c<|.int 2)<|.tup [(.ix (.v 1)<|.c<|.int 3),(.blt .list [(.ix (.v 1)<|.c<|.int 4)])]] [],
 .rA (.wF (.bin .Add (.fld (.v 2) "known") (.c (.int 1))) (.fld (.v 2) "early")) [.cH (.v 2) "known" (.bin .Add (.fld (.v 2) "known") (.c (.int 1))),
  .asg 5 (.xm Ei (.fld (.v 2) "early") [(.fld (.v 2) "known")]),
  .ite (.cmp .Eq (.ix (.v 5) (.c (.int 0))) (.fld (.v 0) "number")) [.drop (.cG .extend (.v 3) [(.aG 1 "land" (.v 0) [.v 2])])] [.drop (.cG .append (.v 4) [(.call 1 [.v 2,(.ix (.v 5) (.c (.int 1)))])])]],
 .cH (.v 0) "stand_now" (.v 2),
 .ret (.tup [.v 3,.v 4])]
def aah:ac:=["twin_of","let_in"]
def aai:ac:=["need_took","land"]
def ML:wS:=inClass (bf 51) 10
theorem MM:MX Eu ML aah af uA aai af af af Ew 0:=λG=>have g:=G.toGood;(ai (bT<|cQ g (ae g)<|aa (ae g) ah)<|ai (aM G<|aN g<|aa (bo g<|ae g) ah)<|ai (aM G<|aT ah)<|ai (aM G<|aT ah)<|ai (aZ (PW.pt<|uw (aX g (aL g (ae g) aq)<|bo g<|ae g)<|uv<|Yx g (aL g (ae g) aq)<|bo g<|ae g) (ai (YE G (aJ<|aa (aL g (ae g) aq)<|aa (cA g<|aa (aL g (ae g) aq) ah) ah) (bo g<|ae g)<|aL g (ae g) aq) ar) ar)<|ai (Af G (Yw g (aD g (bo g<|ae g) aq)<|bo g<|ae g)<|ai (cR G (ae g)<|aD g (bo g<|ae g) aq)<|ai (aM G<|Zg g (bo g<|ae g)<|bo g<|ae g)<|ai (aZ (aX g (aL g (ae g) aq)<|bo g<|ae g) (ai (bT<|dC g (ae g)<|aa (cQ g (ae g)<|aa (ae g) ah) ah) ar)<|ai (bT<|dC g (ae g)<|aa (aN g<|aa (ae g)<|aa (aL g (ae g) aq) ah) ah) ar) ar)<|ai (cR G (ae g)<|ae g)<|ai (aQ<|aJ<|aa (ae g)<|aa (ae g) ah) ar)
def MN:ac:=["self","again"]
noncomputable def MO:ci:=
 [.asg 1 (.tup [(.c (.str "again")),(.fld (.v 0) "number"),(.aG 0 "seen" (.v 0) [])]),
 .ret (.jD (.cmp .Is (.fld (.fld (.v 0) "stand_now") "flying") (.c .av)) (.lst [.v 1]) (.lst [.v 1,(.aG 1 "ask" (.v 0) [(.fld (.v 0) "stand_now")])]))]
def aaj:ac:=["seen","ask"]
def MP:wS:=inClass (bf 51) 11
theorem aak:MX MN MP af af af aaj af af af MO 0:=λG=>have g:=G.toGood;(ai (aM G<|aJ<|aa ax<|aa (bo g<|ae g)<|aa (bM g<|ae g) ah)<|ai (aQ<|pK (aX g (bo g<|bo g<|ae g) dj) (aT<|aa (ae g) ah)<|aT<|aa (ae g)<|aa (cQ g (ae g)<|aa (bo g<|ae g) ah) ah) ar)
def MQ:wS:=bf 53
theorem aal:MX KJ MQ af af fJ af af af af KL 0:=λG=>have g:=G.toGood;(ai (aZ (aX g (ae g)<|cA g<|aa (ae g) ah) (ai (aQ<|aL g (ae g)<|ae g) ar) ar)<|ai (aQ aq) ar)
def zbP:ac:=["_law_e","_law_some","_law_found"]
def gw:wS:=bf 54
theorem aam:MY zbP gw af nW nX af af af af f_ 1 0:=by
 intro CX J X G;have g:=G.toGood;show PS X (.Assign [.Name "_law_some" _] _ _) (bD J<|.asg 1 _)
 with_reducible exact(aM G<|aT<|aa (aJ<|aa ax<|aa (iU g (ae g)<|gN g) ah)<|aa (aJ<|aa ax<|aa (iU g (ae g)<|gN g) ah)<|aa (aJ<|aa ax<|aa (iU g (ae g)<|gN g) ah) ah)
theorem aan:MY zbP gw af nW nX af af af af f_ 1 1:=by
 intro CX J X G;have g:=G.toGood;show PS X (.Assign [.Name "_law_some" _] _ _) (bD J<|.asg 1 _)
 with_reducible exact(aM G<|aD g (ae g)<|aT<|aa (aJ<|aa ax<|aa (iU g (ae g)<|gN g) ah)<|aa (aJ<|aa ax<|aa (iU g (ae g)<|gN g) ah)<|aa (aJ<|aa ax<|aa (iU g (ae g)<|gN g) ah) ah)
theorem aao:MY zbP gw af nW nX af af af af f_ 1 2:=by
 intro CX J X G;have g:=G.toGood;show PS X (.Assign [.Name "_law_some" _] _ _) (bD J<|.asg 1 _)
 with_reducible exact(aM G<|aD g (ae g)<|aT<|aa (aJ<|aa ax<|aa (iU g (ae g)<|gN g) ah)<|aa (aJ<|aa ax<|aa (iU g (ae g)<|gN g) ah) ah)
theorem aap:MY zbP gw af nW nX af af af af f_ 1 3:=by
 intro CX J X G;have g:=G.toGood;show PS X (.Assign [.Name "_law_some" _] _ _) (bD J<|.asg 1 _)
 with_reducible exact(aM G<|aD g (ae g)<|aT<|aa (aJ<|aa ax<|aa (iU g (ae g)<|gN g) ah)<|aa (aJ<|aa ax<|aa (iU g (ae g)<|gN g) ah) ah)
theorem aaq:MY zbP gw af nW nX af af af af f_ 1 4:=by
 intro CX J X G;have g:=G.toGood;show PS X (.Assign [.Name "_law_some" _] _ _) (bD J<|.asg 1 _)
 with_reducible exact(aM G<|aD g (ae g)<|aT<|aa (aJ<|aa ax<|aa (iU g (ae g)<|gN g) ah)<|aa (aJ<|aa ax<|aa (iU g (ae g)<|gN g) ah)<|aa (aJ<|aa ax<|aa (iU g (ae g)<|gN g) ah) ah)
theorem aar:MY zbP gw af nW nX af af af af f_ 1 5:=λG=>have g:=G.toGood;(YD G (by kernel_rfl) (by kernel_rfl) (by kernel_rfl) (ae g) (DP λ_ g=>(Yy g<|ae g))<|λ_ g=>(ae g))
theorem aas:MY zbP gw af nW nX af af af af f_ 1 6:=λG=>have g:=G.toGood;(aZ (PW.pt<|jh (dY<|Ki g<|iU g (ae g)<|gN g)<|k_<|dY<|Ki g<|iU g (ae g)<|Yt g (by decide+kernel) (by decide) (by decide)) (ai (bT<|dC g (ae g)<|aa ax ah) ar) ar)
theorem aat:MY zbP gw af nW nX af af af af f_ 1 7:=by
 intro CX J X G;have g:=G.toGood;show PS X (.Return (some _) _) (bD J<|.ret _)
 with_reducible exact(aQ<|dC g ax<|aa (ae g) ah)
theorem aau:MX zbP gw af nW nX af af af af f_ 1:=by
 intro CX J X G;have e:ej gw=[bE gw 0,bE gw 1,bE gw 2,bE gw 3,bE gw 4,bE gw 5,bE gw 6,bE gw 7]:=by kernel_rfl
 have e2:f_=[bF f_ 0,bF f_ 1,bF f_ 2,bF f_ 3,bF f_ 4,bF f_ 5,bF f_ 6,bF f_ 7]:=by kernel_rfl
 rw[e,e2]
 with_reducible exact ai (aam G) (ai (aan G)<|ai (aao G)<|ai (aap G)<|ai (aaq G)<|ai (aar G)<|ai (aas G)<|ai (aat G)<|ar)
def MR:ac:=["_law_server","_law_letter","_law_e"]
noncomputable def MT:ci:=
 [.kS 3 2 0 [.drop (.aG 0 "came" (.v 0) [.v 1])] [.ret (.mi 0 (.v 2))],
 .ret (.c (.str ""))]
def uG:ac:=["InkError"]
def MU:ac:=["came"]
def uH:ac:=["_law_word"]
def MV:wS:=bf 55
theorem aav:MX MR MV af uG af MU af af uH MT 0:=λG=>have g:=G.toGood;(ai (ux G (by kernel_rfl) (by kernel_rfl) (λG=>(λg=>(ai (bT<|cQ g (ae g)<|aa (ae g) ah) ar)) G.toGood)<|λG=>(λg=>(ai (aQ<|uu g<|ae g) ar)) G.toGood)<|ai (aQ ax) ar)
def MW:ac:=["_law_hand","_law_letter","_law_e"]
def M0:wS:=bf 56
theorem aaw:MX MW M0 af uG af MU af af uH MT 0:=λG=>have g:=G.toGood;(ai (ux G (by kernel_rfl) (by kernel_rfl) (λG=>(λg=>(ai (bT<|cQ g (ae g)<|aa (ae g) ah) ar)) G.toGood)<|λG=>(λg=>(ai (aQ<|uu g<|ae g) ar)) G.toGood)<|ai (aQ ax) ar)
def M1:ac:=["_law_way","_law_thing","_law_e"]
noncomputable def M3:ci:=
 [.kS 3 2 0 [.ite (.cmp .Eq (.v 0) (.c (.int 0))) [.drop (.make 0 [.v 1,(.c (.int 2))])] [.ite (.cmp .Eq (.v 0) (.c (.int 1))) [.drop (.make 0 [(.c (.str "ab")),.v 1])] [.ite (.cmp .Eq (.v 0) (.c (.int 2))) [.drop (.make 1 [.v 1,(.c (.str "ab"))])] [.drop (.make 1 [(.c (.int 1)),.v 1])]]]] [.ret (.mi 0 (.v 2))],
 .ret (.c (.str ""))]
def d3:ac:=["Server","Hand"]
def M4:wS:=bf 57
theorem aax:MX M1 M4 af uG af af d3 af uH M3 0:=λG=>have g:=G.toGood;(ai (ux G (by kernel_rfl) (by kernel_rfl) (λG=>(λg=>(ai (aZ (aX g (ae g) aq) (ai (bT<|jG g<|aa (ae g)<|aa aq ah) ar)<|ai (aZ (aX g (ae g) aq) (ai (bT<|jG g<|aa ax<|aa (ae g) ah) ar)<|ai (aZ (aX g (ae g) aq) (ai (bT<|jG g<|aa (ae g)<|aa ax ah) ar)<|ai (bT<|jG g<|aa aq<|aa (ae g) ah) ar) ar) ar) ar)) G.toGood)<|λG=>(λg=>(ai (aQ<|uu g<|ae g) ar)) G.toGood)<|ai (aQ ax) ar)
def M5:ac:=["_law_server","_law_number","_law_e"]
noncomputable def M6:ci:=
 [.kS 3 2 0 [.drop (.aG 0 "change" (.v 0) [.v 1])] [.ret (.mi 0 (.v 2))],
 .ret (.c (.str ""))]
def M7:wS:=bf 58
theorem aay:MX M5 M7 af uG af Ap af af uH M6 0:=λG=>have g:=G.toGood;(ai (ux G (by kernel_rfl) (by kernel_rfl) (λG=>(λg=>(ai (bT<|cQ g (ae g)<|aa (ae g) ah) ar)) G.toGood)<|λG=>(λg=>(ai (aQ<|uu g<|ae g) ar)) G.toGood)<|ai (aQ ax) ar)
def M8:ac:=["_law_hand","_law_change","_law_e"]
noncomputable def M9:ci:=
 [.kS 3 2 0 [.drop (.aG 0 "do" (.v 0) [.v 1])] [.ret (.mi 0 (.v 2))],
 .ret (.c (.str ""))]
def aaz:ac:=["do"]
def M_:wS:=bf 59
theorem aaA:MX M8 M_ af uG af aaz af af uH M9 0:=λG=>have g:=G.toGood;(ai (ux G (by kernel_rfl) (by kernel_rfl) (λG=>(λg=>(ai (bT<|cQ g (ae g)<|aa (ae g) ah) ar)) G.toGood)<|λG=>(λg=>(ai (aQ<|uu g<|ae g) ar)) G.toGood)<|ai (aQ ax) ar)
def As:ac:=["_law_cell","_law_some"]
noncomputable def rW:ci:=
 [.asg 1 (.lst [.c .av,(.c (.str "keep")),(.tup [(.tup [(.c (.str "keep")),(.c (.int 1))])]),(.lst [(.tup [(.c (.str "keep")),(.c (.int 0))])]),(.lst [(.tup [(.c (.str "put")),(.c (.str ""))])]),(.lst [(.tup [(.c (.str "keep")),(.c (.int 1))]),(.tup [(.c (.str "keep")),(.c (.int 1))])]),(.lst [(.lst [(.c (.str "keep")),(.c (.int 1))])])]),
 .ret (.ix (.bin .Add (.v 1) (.lst [(.lst [(.tup [(.c (.str "cut")),(.c (.str "a"))]),(.tup [(.c (.str "put")),(.c (.str "b"))])]),(.lst [(.tup [(.c (.str "keep")),(.c (.bl true))])]),(.lst [(.tup [(.c (.str "take")),(.c (.int 1))])]),(.lst [(.tup [(.c (.str "put")),(.c (.str "\t"))])])])) (.bin .Mod (.v 0) (.c (.int 11))))]
def rX:wS:=bf 60
theorem aaB:MY As rX af af af af af af af rW 0 0:=by
 intro CX J X G;have g:=G.toGood;show PS X (.Assign [.Name "_law_some" _] _ _) (bD J<|.asg 1 _)
 with_reducible exact(aM G<|aT<|aa dj<|aa ax<|aa (aJ<|aa (aJ<|aa ax<|aa aq ah) ah)<|aa (aT<|aa (aJ<|aa ax<|aa aq ah) ah)<|aa (aT<|aa (aJ<|aa ax<|aa ax ah) ah)<|aa (aT<|aa (aJ<|aa ax<|aa aq ah)<|aa (aJ<|aa ax<|aa aq ah) ah)<|aa (aT<|aa (aT<|aa ax<|aa aq ah) ah) ah)
theorem aaC:MY As rX af af af af af af af rW 0 1:=by
 intro CX J X G;have g:=G.toGood;show PS X (.Return (some _) _) (bD J<|.ret _)
 with_reducible exact(aQ<|aL g (aD g (ae g)<|aT<|aa (aT<|aa (aJ<|aa ax<|aa ax ah)<|aa (aJ<|aa ax<|aa ax ah) ah)<|aa (aT<|aa (aJ<|aa ax<|aa cI ah) ah)<|aa (aT<|aa (aJ<|aa ax<|aa aq ah) ah)<|aa (aT<|aa (aJ<|aa ax<|aa ax ah) ah) ah)<|aD g (ae g) aq)
theorem aaD:MX As rX af af af af af af af rW 0:=by
 intro CX J X G;have e:ej rX=[bE rX 0,bE rX 1]:=by kernel_rfl
 have e2:rW=[bF rW 0,bF rW 1]:=by kernel_rfl
 rw[e,e2]
 with_reducible exact ai (aaB G) (ai (aaC G)<|ar)
def jN:ac:=["_law_server","_law_hands","_law_cell","_law_many","_law_size","_law_good","_law_far","_law_some"]
noncomputable def dc:ci:=
 [.asg 3 (.aG 0 "many" (.v 0) []),
 .asg 4 (.blt .len [(.aG 1 "text" (.v 0) [])]),
 .asg 5 (.bin .Mult (.lst [(.tup [(.c<|.str "keep"),.v 4])])<|.blt .int [(.cmp .Gt (.v 4)<|.c<|.int 0)]),
 .asg 6 (.lst [(.bin .Add (.v 1)<|.bin .Mod (.bin .FloorDiv (.v 2)<|.c<|.int 64)<|.c<|.int 3),(.bin .Sub (.neg<|.c<|.int 1)<|.bin .Mod (.bin .FloorDiv (.v 2)<|.c<|.int 64)<|.c<|.int 3),(.c<|.bl true),.c .av,(.c<|.str "0"),(.bin .Pow (.c<|.int 10)<|.c<|.int 9)]),
 .asg 7 (.lst [(.tup [(.c<|.str "ask"),(.ix (.v 6)<|.bin .Mod (.bin .FloorDiv (.v 2)<|.c<|.int 16)<|.c<|.int 6),(.c<|.int 1),.v 3,.v 5]),(.tup [(.c<|.str "again"),(.ix (.v 6)<|.bin .Mod (.bin .FloorDiv (.v 2)<|.c<|.int 16)<|.c<|.int 6),(.c<|.int 0)])]),
 .asg 7 (.bin .Add (.v 7)<|.lst [(.tup [(.c<|.str "ask"),(.c<|.int 0),(.ix (.lst [(.c<|.int 0),(.neg<|.c<|.int 1),(.c<|.bl true),.c .av,(.c<|.str "1")])<|.bin .Mod (.bin .FloorDiv (.v 2)<|.c<|.int 16)<|.c<|.int 5),.v 3,.v 5])]),
 .asg 7 (.bin .Add (.v 7)<|.lst [(.tup [(.c<|.str "ask"),(.c<|.int 0),(.c<|.int 1),(.ix (.lst [(.bin .Add (.v 3)<|.c<|.int 1),(.neg<|.c<|.int 1),(.c<|.bl true),.c .av,(.c<|.str "0")])<|.bin .Mod (.bin .FloorDiv (.v 2)<|.c<|.int 16)<|.c<|.int 5),.v 5])]),
 .asg 7 (.bin .Add (.v 7)<|.lst [(.tup [(.c<|.str "again"),(.c<|.int 0),(.ix (.lst [(.bin .Add (.bin .Add (.v 3)<|.c<|.int 1)<|.bin .Mod (.bin .FloorDiv (.v 2)<|.c<|.int 64)<|.c<|.int 9),(.neg<|.c<|.int 1),(.c<|.bl true),.c .av,(.c<|.str "0")])<|.bin .Mod (.bin .FloorDiv (.v 2)<|.c<|.int 16)<|.c<|.int 5)])]),
 .asg 7 (.bin .Add (.v 7)<|.lst [(.tup [(.c<|.str "ask"),(.c<|.int 0),(.c<|.int 1),.v 3,(.call 0 [(.bin .FloorDiv (.v 2)<|.c<|.int 16)])]),(.tup [(.c<|.str "ask"),(.c<|.int 0),(.c<|.int 1),.v 3]),(.tup [(.c<|.str "again"),(.c<|.int 0)]),(.tup [(.c<|.str "ask")]),(.tup [])]),
 .asg 7 (.bin .Add (.v 7)<|.lst [(.tup [(.c<|.str "asks"),(.c<|.int 0),(.c<|.int 1),.v 3,.v 5]),(.tup [(.c<|.int 1),(.c<|.int 0),(.c<|.int 0)]),.c .av,(.c<|.str "again"),(.lst [(.c<|.str "again"),(.c<|.int 0),(.c<|.int 0)]),(.tup [(.c<|.str "took"),(.c<|.int 0),(.c<|.int 1),(.c<|.int 0),.v 5])]),
 .ret (.ix (.v 7) (.bin .Mod (.v 2) (.c (.int 16))))]
def eM:ac:=["_law_no_change"]
def d4:ac:=["len","int"]
def fj:ac:=["many","text"]
def d6:wS:=bf 61
theorem aaE:MY jN d6 eM af d4 fj af af af dc 0 0:=by
 intro CX J X G;have g:=G.toGood;show PS X (.Assign [.Name "_law_many" _] _ _) (bD J<|.asg 3 _)
 with_reducible exact(aM G<|bM g<|ae g)
theorem aaF:MY jN d6 eM af d4 fj af af af dc 0 1:=by
 intro CX J X G;have g:=G.toGood;show PS X (.Assign [.Name "_law_size" _] _ _) (bD J<|.asg 4 _)
 with_reducible exact(aM G<|cA g<|aa (bM g<|ae g) ah)
theorem aaG:MY jN d6 eM af d4 fj af af af dc 0 2:=by
 intro CX J X G;have g:=G.toGood;show PS X (.Assign [.Name "_law_good" _] _ _) (bD J<|.asg 5 _)
 with_reducible exact(aM G<|aD g (aT<|aa (aJ<|aa ax<|aa (ae g) ah) ah)<|cA g<|aa (dO g (ae g) aq) ah)
theorem aaH:MY jN d6 eM af d4 fj af af af dc 0 3:=by
 intro CX J X G;have g:=G.toGood;show PS X (.Assign [.Name "_law_far" _] _ _) (bD J<|.asg 6 _)
 with_reducible exact(aM G<|aT<|aa (aD g (ae g)<|aD g (aD g (ae g) aq) aq)<|aa (aD g (mr aq)<|aD g (aD g (ae g) aq) aq)<|aa cI<|aa dj<|aa ax<|aa (aD g aq aq) ah)
theorem aaI:MY jN d6 eM af d4 fj af af af dc 0 4:=by
 intro CX J X G;have g:=G.toGood;show PS X (.Assign [.Name "_law_some" _] _ _) (bD J<|.asg 7 _)
 with_reducible exact(aM G<|aT<|aa (aJ<|aa ax<|aa (aL g (ae g)<|aD g (aD g (ae g) aq) aq)<|aa aq<|aa (ae g)<|aa (ae g) ah)<|aa (aJ<|aa ax<|aa (aL g (ae g)<|aD g (aD g (ae g) aq) aq)<|aa aq ah) ah)
theorem aaJ:MY jN d6 eM af d4 fj af af af dc 0 5:=by
 intro CX J X G;have g:=G.toGood;show PS X (.Assign [.Name "_law_some" _] _ _) (bD J<|.asg 7 _)
 with_reducible exact(aM G<|aD g (ae g)<|aT<|aa (aJ<|aa ax<|aa aq<|aa (aL g (aT<|aa aq<|aa (mr aq)<|aa cI<|aa dj<|aa ax ah)<|aD g (aD g (ae g) aq) aq)<|aa (ae g)<|aa (ae g) ah) ah)
theorem aaK:MY jN d6 eM af d4 fj af af af dc 0 6:=by
 intro CX J X G;have g:=G.toGood;show PS X (.Assign [.Name "_law_some" _] _ _) (bD J<|.asg 7 _)
 with_reducible exact(aM G<|aD g (ae g)<|aT<|aa (aJ<|aa ax<|aa aq<|aa aq<|aa (aL g (aT<|aa (aD g (ae g) aq)<|aa (mr aq)<|aa cI<|aa dj<|aa ax ah)<|aD g (aD g (ae g) aq) aq)<|aa (ae g) ah) ah)
theorem aaL:MY jN d6 eM af d4 fj af af af dc 0 7:=by
 intro CX J X G;have g:=G.toGood;show PS X (.Assign [.Name "_law_some" _] _ _) (bD J<|.asg 7 _)
 with_reducible exact(aM G<|aD g (ae g)<|aT<|aa (aJ<|aa ax<|aa aq<|aa (aL g (aT<|aa (aD g (aD g (ae g) aq)<|aD g (aD g (ae g) aq) aq)<|aa (mr aq)<|aa cI<|aa dj<|aa ax ah)<|aD g (aD g (ae g) aq) aq) ah) ah)
theorem aaM:MY jN d6 eM af d4 fj af af af dc 0 8:=by
 intro CX J X G;have g:=G.toGood;show PS X (.Assign [.Name "_law_some" _] _ _) (bD J<|.asg 7 _)
 with_reducible exact(aM G<|aD g (ae g)<|aT<|aa (aJ<|aa ax<|aa aq<|aa aq<|aa (ae g)<|aa (aN g<|aa (aD g (ae g) aq) ah) ah)<|aa (aJ<|aa ax<|aa aq<|aa aq<|aa (ae g) ah)<|aa (aJ<|aa ax<|aa aq ah)<|aa (aJ<|aa ax ah)<|aa (aJ ah) ah)
theorem aaN:MY jN d6 eM af d4 fj af af af dc 0 9:=by
 intro CX J X G;have g:=G.toGood;show PS X (.Assign [.Name "_law_some" _] _ _) (bD J<|.asg 7 _)
 with_reducible exact(aM G<|aD g (ae g)<|aT<|aa (aJ<|aa ax<|aa aq<|aa aq<|aa (ae g)<|aa (ae g) ah)<|aa (aJ<|aa aq<|aa aq<|aa aq ah)<|aa dj<|aa ax<|aa (aT<|aa ax<|aa aq<|aa aq ah)<|aa (aJ<|aa ax<|aa aq<|aa aq<|aa aq<|aa (ae g) ah) ah)
theorem aaO:MY jN d6 eM af d4 fj af af af dc 0 10:=by
 intro CX J X G;have g:=G.toGood;show PS X (.Return (some _) _) (bD J<|.ret _)
 with_reducible exact(aQ<|aL g (ae g)<|aD g (ae g) aq)
theorem aaP:MX jN d6 eM af d4 fj af af af dc 0:=by
 intro CX J X G;have e:ej d6=[bE d6 0,bE d6 1,bE d6 2,bE d6 3,bE d6 4,bE d6 5,bE d6 6,bE d6 7,bE d6 8,bE d6 9,bE d6 10]:=by kernel_rfl
 have e2:dc=[bF dc 0,bF dc 1,bF dc 2,bF dc 3,bF dc 4,bF dc 5,bF dc 6,bF dc 7,bF dc 8,bF dc 9,bF dc 10]:=by kernel_rfl
 rw[e,e2]
 with_reducible exact ai (aaE G) (ai (aaF G)<|ai (aaG G)<|ai (aaH G)<|ai (aaI G)<|ai (aaJ G)<|ai (aaK G)<|ai (aaL G)<|ai (aaM G)<|ai (aaN G)<|ai (aaO G)<|ar)
def ka:ac:=["_law_hand","_law_own","_law_cell","_law_size","_law_good","_law_other","_law_some"]
noncomputable def dv:ci:=
 [.asg 3 (.blt .len [(.aG 0 "text" (.v 0) [])]),
 .asg 4 (.bin .Mult (.lst [(.tup [(.c<|.str "keep"),.v 3])])<|.blt .int [(.cmp .Gt (.v 3)<|.c<|.int 0)]),
 .asg 5 (.lst [(.bin .Add (.v 1)<|.c<|.int 1),(.bin .Sub (.v 1)<|.c<|.int 1),(.c<|.bl true),.c .av,(.c<|.str "0"),(.bin .Pow (.c<|.int 10)<|.c<|.int 9)]),
 .asg 6 (.lst [(.tup [(.c<|.str "took"),(.ix (.v 5)<|.bin .Mod (.bin .FloorDiv (.v 2)<|.c<|.int 16)<|.c<|.int 6),(.c<|.int 1),(.c<|.int 0),.v 4])]),
 .asg 6 (.bin .Add (.v 6)<|.lst [(.tup [(.c<|.str "took"),.v 1,(.ix (.lst [(.c<|.int 0),(.bin .Sub (.neg<|.c<|.int 1)<|.bin .Mod (.bin .FloorDiv (.v 2)<|.c<|.int 64)<|.c<|.int 9),(.c<|.bl true),.c .av,(.c<|.str "1")])<|.bin .Mod (.bin .FloorDiv (.v 2)<|.c<|.int 16)<|.c<|.int 5),(.c<|.int 0),.v 4])]),
 .asg 6 (.bin .Add (.v 6)<|.lst [(.tup [(.c<|.str "took"),.v 1,(.c<|.int 1),(.ix (.lst [(.neg<|.c<|.int 1),(.c<|.int 8),(.c<|.bl true),.c .av,(.c<|.str "0")])<|.bin .Mod (.bin .FloorDiv (.v 2)<|.c<|.int 16)<|.c<|.int 5),.v 4])]),
 .asg 6 (.bin .Add (.v 6)<|.lst [(.tup [(.c<|.str "took"),.v 1,(.c<|.int 1),(.c<|.int 0),(.call 0 [(.bin .FloorDiv (.v 2)<|.c<|.int 16)])]),(.tup [(.c<|.str "took"),.v 1,(.c<|.int 1),(.c<|.int 0)]),(.tup [(.c<|.str "took")]),(.tup [])]),
 .asg 6 (.bin .Add (.v 6)<|.lst [(.tup [(.c<|.str "again"),.v 1,(.c<|.int 0)]),(.tup [(.c<|.str "ask"),.v 1,(.c<|.int 1),(.c<|.int 0),.v 4]),(.tup [(.c<|.str "take"),.v 1,(.c<|.int 1),(.c<|.int 0),.v 4]),.c .av,(.c<|.str "took"),(.c<|.int 5)]),
 .asg 6 (.bin .Add (.v 6)<|.lst [(.lst [(.c<|.str "took"),.v 1,(.c<|.int 1),(.c<|.int 0),.v 4]),.rz,(.tup [(.c<|.str "took"),.v 1,(.c<|.int 1),(.c<|.int 0),.v 4,.v 4])]),
 .ret (.ix (.v 6) (.bin .Mod (.v 2) (.c (.int 16))))]
def lB:ac:=["text"]
def eN:wS:=bf 62
theorem aaQ:MY ka eN eM af d4 lB af af af dv 0 0:=by
 intro CX J X G;have g:=G.toGood;show PS X (.Assign [.Name "_law_size" _] _ _) (bD J<|.asg 3 _)
 with_reducible exact(aM G<|cA g<|aa (bM g<|ae g) ah)
theorem aaR:MY ka eN eM af d4 lB af af af dv 0 1:=by
 intro CX J X G;have g:=G.toGood;show PS X (.Assign [.Name "_law_good" _] _ _) (bD J<|.asg 4 _)
 with_reducible exact(aM G<|aD g (aT<|aa (aJ<|aa ax<|aa (ae g) ah) ah)<|cA g<|aa (dO g (ae g) aq) ah)
theorem aaS:MY ka eN eM af d4 lB af af af dv 0 2:=by
 intro CX J X G;have g:=G.toGood;show PS X (.Assign [.Name "_law_other" _] _ _) (bD J<|.asg 5 _)
 with_reducible exact(aM G<|aT<|aa (aD g (ae g) aq)<|aa (aD g (ae g) aq)<|aa cI<|aa dj<|aa ax<|aa (aD g aq aq) ah)
theorem aaT:MY ka eN eM af d4 lB af af af dv 0 3:=by
 intro CX J X G;have g:=G.toGood;show PS X (.Assign [.Name "_law_some" _] _ _) (bD J<|.asg 6 _)
 with_reducible exact(aM G<|aT<|aa (aJ<|aa ax<|aa (aL g (ae g)<|aD g (aD g (ae g) aq) aq)<|aa aq<|aa aq<|aa (ae g) ah) ah)
theorem aaU:MY ka eN eM af d4 lB af af af dv 0 4:=by
 intro CX J X G;have g:=G.toGood;show PS X (.Assign [.Name "_law_some" _] _ _) (bD J<|.asg 6 _)
 with_reducible exact(aM G<|aD g (ae g)<|aT<|aa (aJ<|aa ax<|aa (ae g)<|aa (aL g (aT<|aa aq<|aa (aD g (mr aq)<|aD g (aD g (ae g) aq) aq)<|aa cI<|aa dj<|aa ax ah)<|aD g (aD g (ae g) aq) aq)<|aa aq<|aa (ae g) ah) ah)
theorem aaV:MY ka eN eM af d4 lB af af af dv 0 5:=by
 intro CX J X G;have g:=G.toGood;show PS X (.Assign [.Name "_law_some" _] _ _) (bD J<|.asg 6 _)
 with_reducible exact(aM G<|aD g (ae g)<|aT<|aa (aJ<|aa ax<|aa (ae g)<|aa aq<|aa (aL g (aT<|aa (mr aq)<|aa aq<|aa cI<|aa dj<|aa ax ah)<|aD g (aD g (ae g) aq) aq)<|aa (ae g) ah) ah)
theorem aaW:MY ka eN eM af d4 lB af af af dv 0 6:=by
 intro CX J X G;have g:=G.toGood;show PS X (.Assign [.Name "_law_some" _] _ _) (bD J<|.asg 6 _)
 with_reducible exact(aM G<|aD g (ae g)<|aT<|aa (aJ<|aa ax<|aa (ae g)<|aa aq<|aa aq<|aa (aN g<|aa (aD g (ae g) aq) ah) ah)<|aa (aJ<|aa ax<|aa (ae g)<|aa aq<|aa aq ah)<|aa (aJ<|aa ax ah)<|aa (aJ ah) ah)
theorem aaX:MY ka eN eM af d4 lB af af af dv 0 7:=by
 intro CX J X G;have g:=G.toGood;show PS X (.Assign [.Name "_law_some" _] _ _) (bD J<|.asg 6 _)
 with_reducible exact(aM G<|aD g (ae g)<|aT<|aa (aJ<|aa ax<|aa (ae g)<|aa aq ah)<|aa (aJ<|aa ax<|aa (ae g)<|aa aq<|aa aq<|aa (ae g) ah)<|aa (aJ<|aa ax<|aa (ae g)<|aa aq<|aa aq<|aa (ae g) ah)<|aa dj<|aa ax<|aa aq ah)
theorem aaY:MY ka eN eM af d4 lB af af af dv 0 8:=by
 intro CX J X G;have g:=G.toGood;show PS X (.Assign [.Name "_law_some" _] _ _) (bD J<|.asg 6 _)
 with_reducible exact(aM G<|aD g (ae g)<|aT<|aa (aT<|aa ax<|aa (ae g)<|aa aq<|aa aq<|aa (ae g) ah)<|aa Kh<|aa (aJ<|aa ax<|aa (ae g)<|aa aq<|aa aq<|aa (ae g)<|aa (ae g) ah) ah)
theorem aaZ:MY ka eN eM af d4 lB af af af dv 0 9:=by
 intro CX J X G;have g:=G.toGood;show PS X (.Return (some _) _) (bD J<|.ret _)
 with_reducible exact(aQ<|aL g (ae g)<|aD g (ae g) aq)
theorem aa0:MX ka eN eM af d4 lB af af af dv 0:=by
 intro CX J X G;have e:ej eN=[bE eN 0,bE eN 1,bE eN 2,bE eN 3,bE eN 4,bE eN 5,bE eN 6,bE eN 7,bE eN 8,bE eN 9]:=by kernel_rfl
 have e2:dv=[bF dv 0,bF dv 1,bF dv 2,bF dv 3,bF dv 4,bF dv 5,bF dv 6,bF dv 7,bF dv 8,bF dv 9]:=by kernel_rfl
 rw[e,e2]
 with_reducible exact ai (aaQ G) (ai (aaR G)<|ai (aaS G)<|ai (aaT G)<|ai (aaU G)<|ai (aaV G)<|ai (aaW G)<|ai (aaX G)<|ai (aaY G)<|ai (aaZ G)<|ar)
def Na:ac:=["_law_server","_law_cell","_law_text","_law_serial","_law_size","_law_some"]
noncomputable def wZ:ci:=
 [.asg 2 (.aG 0 "text" (.v 0) []),
 .asg 3 (.bin .Add (.ix (.v 1)<|.c<|.int 1)<|.c<|.int 1),
 .asg 4 (.blt .len [.v 2]),
 .asg 5 (.lst [(.tup [(.c<|.str "keep"),(.bin .Add (.bin .Add (.v 4)<|.c<|.int 1)<|.bin .Mod (.ix (.v 1)<|.c<|.int 0)<|.c<|.int 5)])]),
 .ite (.cmp .Eq (.bin .Mod (.bin .FloorDiv (.ix (.v 1)<|.c<|.int 0)<|.c<|.int 5)<|.c<|.int 3)<|.c<|.int 1) [.asg 5<|.lst [(.tup [(.c<|.str "cut"),(.xt Ee [(.c<|.str "~"),(.bin .Add (.v 4)<|.c<|.int 1)])])]] [],
 .ite (.and [(.cmp .Eq (.bin .Mod (.bin .FloorDiv (.ix (.v 1)<|.c<|.int 0)<|.c<|.int 5)<|.c<|.int 3)<|.c<|.int 2),(.cmp .Gt (.v 4)<|.c<|.int 0)]) [.asg 5<|.sl (.lst [(.tup [(.c<|.str "cut"),(.c<|.str "#")]),(.tup [(.c<|.str "keep"),(.bin .Sub (.v 4)<|.c<|.int 1)])]) none<|some<|.bin .Add (.c<|.int 1)<|.blt .int [(.cmp .Gt (.v 4)<|.c<|.int 1)]] [],
 .ret (.tup [(.c (.str "ask")),(.c (.int 0)),.v 3,(.aG 1 "many" (.v 0) []),.v 5])]
def aa1:ac:=["text","many"]
def Nb:wS:=bf 63
theorem aa2:MX Na Nb af af d4 aa1 af af af wZ 0:=λG=>have g:=G.toGood;(ai (aM G<|bM g<|ae g)<|ai (aM G<|aD g (aL g (ae g) aq) aq)<|ai (aM G<|cA g<|aa (ae g) ah)<|ai (aM G<|aT<|aa (aJ<|aa ax<|aa (aD g (aD g (ae g) aq)<|aD g (aL g (ae g) aq) aq) ah) ah)<|ai (aZ (aX g (aD g (aD g (aL g (ae g) aq) aq) aq) aq) (ai (aM G<|aT<|aa (aJ<|aa ax<|aa (Y6 ax<|aD g (ae g) aq) ah) ah) ar) ar)<|ai (aZ (PW.pt<|uw (aX g (aD g (aD g (aL g (ae g) aq) aq) aq) aq)<|uv<|aX g (ae g) aq) (ai (aM G<|nT g (aT<|aa (aJ<|aa ax<|aa ax ah)<|aa (aJ<|aa ax<|aa (aD g (ae g) aq) ah) ah) wN<|jH<|aD g aq<|cA g<|aa (dO g (ae g) aq) ah) ar) ar)<|ai (aQ<|aJ<|aa ax<|aa aq<|aa (ae g)<|aa (bM g<|ae g)<|aa (ae g) ah) ar)
def Nc:ac:=["_law_server","_law_hand","_law_told"]
noncomputable def Nd:ci:=
 [.asg 2 (.tup [(.aG 0 "text" (.v 0) []),(.aG 1 "many" (.v 0) []),(.aG 2 "text" (.v 1) []),(.aG 3 "seen" (.v 1) [])]),
 .ret (.bin .Add (.v 2) (.tup [(.xt wW [(.aG 4 "flight" (.v 1) [])]),(.xt wW [(.aG 5 "nudge" (.v 1) [])])]))]
def aa3:ac:=["repr"]
def aa4:ac:=["text","many","text","seen","flight","nudge"]
def Nf:wS:=bf 64
theorem aa5:MX Nc Nf af af aa3 aa4 af af af Nd 0:=λG=>have g:=G.toGood;(ai (aM G<|aJ<|aa (bM g<|ae g)<|aa (bM g<|ae g)<|aa (bM g<|ae g)<|aa (bM g<|ae g) ah)<|ai (aQ<|aD g (ae g)<|aJ<|aa (Lb g<|aa (bM g<|ae g) ah)<|aa (Lb g<|aa (bM g<|ae g) ah) ah) ar)
def Ng:ac:=["_law_server","_law_cells","_law_hands","_law_serials","_law_cell","_law_who","_law_size","_law_place","_law_parts"]
noncomputable def Nh:ci:=
 [.asg 3 (.bin .Mult (.lst [(.c (.int 0))]) (.v 2)),
 .nG 4 .list [.v 1] [.asg 5 (.bin .Mod (.v 4) (.v 2)),
  .set (.v 3) (.v 5) (.bin .Add (.ix (.v 3)<|.v 5)<|.c<|.int 1),
  .asg 6 (.blt .len [(.aG 0 "text" (.v 0) [])]),
  .asg 7 (.bin .Mod (.bin .FloorDiv (.v 4)<|.c<|.int 8)<|.bin .Add (.v 6)<|.c<|.int 1),
  .asg 8 (.bin .Add (.bin .Mult (.lst [(.tup [(.c<|.str "keep"),.v 7])])<|.blt .int [(.cmp .Gt (.v 7)<|.c<|.int 0)])<|.lst [(.tup [(.c<|.str "put"),(.ix (.c<|.str "xy")<|.bin .Mod (.v 4)<|.c<|.int 2)])]),
  .asg 8 (.bin .Add (.v 8)<|.bin .Mult (.lst [(.tup [(.c<|.str "keep"),(.bin .Sub (.v 6)<|.v 7)])])<|.blt .int [(.cmp .Lt (.v 7)<|.v 6)]),
  .drop (.aG 1 "came" (.v 0) [(.tup [(.c (.str "ask")),.v 5,(.ix (.v 3) (.v 5)),(.aG 2 "many" (.v 0) []),.v 8])])],
 .ret (.v 3)]
def aa6:ac:=["text","came","many"]
def Ni:wS:=bf 65
theorem aa7:MX Ng Ni af af d4 aa6 af af af Nh 0:=λG=>have g:=G.toGood;(ai (aM G<|aD g (aT<|aa aq ah)<|ae g)<|ai (wO G (j9 g<|ae g)<|ai (aM G<|aD g (ae g)<|ae g)<|ai (Kl (aD g (aL g (ae g)<|ae g) aq) (ae g)<|ae g)<|ai (aM G<|cA g<|aa (bM g<|ae g) ah)<|ai (aM G<|aD g (aD g (ae g) aq)<|aD g (ae g) aq)<|ai (aM G<|aD g (aD g (aT<|aa (aJ<|aa ax<|aa (ae g) ah) ah)<|cA g<|aa (dO g (ae g) aq) ah)<|aT<|aa (aJ<|aa ax<|aa (aL g ax<|aD g (ae g) aq) ah) ah)<|ai (aM G<|aD g (ae g)<|aD g (aT<|aa (aJ<|aa ax<|aa (aD g (ae g)<|ae g) ah) ah)<|cA g<|aa (dO g (ae g)<|ae g) ah)<|ai (bT<|cQ g (ae g)<|aa (aJ<|aa ax<|aa (ae g)<|aa (aL g (ae g)<|ae g)<|aa (bM g<|ae g)<|aa (ae g) ah) ah) ar)<|ai (aQ<|ae g) ar)
def Nj:ac:=["_law_way","_law_text","_law_e"]
noncomputable def Nk:ci:=
 [.kS 3 2 0 [.ite (.cmp .Eq (.v 0) (.c (.int 0))) [.drop (.make 0 [.v 1,(.c (.int 0))])] [.drop (.make 1 [(.c (.int 9)),.v 1])]] [.ret (.mi 0 (.v 2))],
 .ret (.c (.str ""))]
def Nl:wS:=bf 66
theorem aa8:MX Nj Nl af uG af af d3 af uH Nk 0:=λG=>have g:=G.toGood;(ai (ux G (by kernel_rfl) (by kernel_rfl) (λG=>(λg=>(ai (aZ (aX g (ae g) aq) (ai (bT<|jG g<|aa (ae g)<|aa aq ah) ar)<|ai (bT<|jG g<|aa aq<|aa (ae g) ah) ar) ar)) G.toGood)<|λG=>(λg=>(ai (aQ<|uu g<|ae g) ar)) G.toGood)<|ai (aQ ax) ar)
def lE:ac:=["_law_server","_law_hand","_law_far","_law_text","_law_number"]
noncomputable def fk:ci:=
 [.asg 3 (.ix (.lst [.c .av,(.c (.int 5)),(.c (.str "\t")),(.c (.str "ab\tc")),(.lst [(.c (.str "a"))]),(.c (.bl true)),(.tup [(.c (.str "a"))])]) (.bin .Mod (.v 2) (.c (.int 7)))),
 .asg 4 (.ix (.lst [(.bin .Sub (.neg<|.c<|.int 1)<|.bin .Mod (.bin .FloorDiv (.v 2)<|.c<|.int 7)<|.c<|.int 9),(.c<|.bl true),.c .av,(.c<|.str "1"),(.bin .Add (.c<|.int 8)<|.bin .Mod (.bin .FloorDiv (.v 2)<|.c<|.int 7)<|.c<|.int 9),(.lst [(.c<|.int 0)])])<|.bin .Mod (.v 2)<|.c<|.int 6),
 .ite (.or [(.cmp .NotEq (.call 0 [(.c<|.int 0),.v 3])<|.c<|.str "text"),(.cmp .NotEq (.call 0 [(.c<|.int 3),.v 3])<|.c<|.str "text")]) [.ret<|.c<|.bl false] [],
 .ite (.cmp .NotEq (.lst [(.call 1 [(.c<|.int 0),.v 3]),(.call 1 [(.c<|.int 1),.v 3])])<|.lst [(.c<|.str "text"),(.c<|.str "hand")]) [.ret<|.c<|.bl false] [],
 .ite (.cmp .NotEq (.call 0 [(.c<|.int 1),(.ix (.lst [(.c<|.int 0),(.bin .Add (.c<|.int 9)<|.bin .Mod (.bin .FloorDiv (.v 2)<|.c<|.int 7)<|.c<|.int 5),(.neg<|.c<|.int 1),(.c<|.bl true),.c .av,(.c<|.str "2")])<|.bin .Mod (.v 2)<|.c<|.int 6)])<|.c<|.str "hand") [.ret<|.c<|.bl false] [],
 .ite (.cmp .NotEq (.call 0 [(.c<|.int 2),.v 4])<|.c<|.str "hand") [.ret<|.c<|.bl false] [],
 .ite (.cmp .NotEq (.call 2 [.v 0,(.ix (.lst [(.c<|.int 0),(.bin .Add (.aG 0 "many" (.v 0) [])<|.c<|.int 1),(.neg<|.c<|.int 1),(.c<|.bl true),.c .av,(.c<|.str "1")])<|.bin .Mod (.v 2)<|.c<|.int 6)])<|.c<|.str "gone") [.ret<|.c<|.bl false] [],
 .ite (.cmp .NotEq (.call 3 [.v 1,(.call 4 [.v 2])])<|.c<|.str "change") [.ret<|.c<|.bl false] [],
 .ret (.cmp .Eq (.call 3 [.v 1,(.lst [(.tup [(.c (.str "keep")),(.bin .Add (.bin .Add (.blt .len [(.aG 1 "text" (.v 1) [])]) (.c (.int 1))) (.bin .Mod (.v 2) (.c (.int 3))))])])]) (.c (.str "fit")))]
def mw:ac:=["_law_made_refused","_law_first_refused","_law_number_refused","_law_change_refused","_law_no_change"]
def fK:wS:=bf 67
theorem aa9:MY lE fK mw af fJ fj af af af fk 0 0:=by
 intro CX J X G;have g:=G.toGood;show PS X (.Assign [.Name "_law_text" _] _ _) (bD J<|.asg 3 _)
 with_reducible exact(aM G<|aL g (aT<|aa dj<|aa aq<|aa ax<|aa ax<|aa (aT<|aa ax ah)<|aa cI<|aa (aJ<|aa ax ah) ah)<|aD g (ae g) aq)
theorem aa_:MY lE fK mw af fJ fj af af af fk 0 1:=by
 intro CX J X G;have g:=G.toGood;show PS X (.Assign [.Name "_law_number" _] _ _) (bD J<|.asg 4 _)
 with_reducible exact(aM G<|aL g (aT<|aa (aD g (mr aq)<|aD g (aD g (ae g) aq) aq)<|aa cI<|aa dj<|aa ax<|aa (aD g aq<|aD g (aD g (ae g) aq) aq)<|aa (aT<|aa aq ah) ah)<|aD g (ae g) aq)
theorem aba:MY lE fK mw af fJ fj af af af fk 0 2:=λG=>have g:=G.toGood;(aZ (PW.pt<|jh (aX g (aN g<|aa aq<|aa (ae g) ah) ax)<|k_<|aX g (aN g<|aa aq<|aa (ae g) ah) ax) (ai (aQ cI) ar) ar)
theorem abb:MY lE fK mw af fJ fj af af af fk 0 3:=λG=>have g:=G.toGood;(aZ (aX g (aT<|aa (aN g<|aa aq<|aa (ae g) ah)<|aa (aN g<|aa aq<|aa (ae g) ah) ah)<|aT<|aa ax<|aa ax ah) (ai (aQ cI) ar) ar)
theorem abc:MY lE fK mw af fJ fj af af af fk 0 4:=λG=>have g:=G.toGood;(aZ (aX g (aN g<|aa aq<|aa (aL g (aT<|aa aq<|aa (aD g aq<|aD g (aD g (ae g) aq) aq)<|aa (mr aq)<|aa cI<|aa dj<|aa ax ah)<|aD g (ae g) aq) ah) ax) (ai (aQ cI) ar) ar)
theorem abd:MY lE fK mw af fJ fj af af af fk 0 5:=λG=>have g:=G.toGood;(aZ (aX g (aN g<|aa aq<|aa (ae g) ah) ax) (ai (aQ cI) ar) ar)
theorem abe:MY lE fK mw af fJ fj af af af fk 0 6:=λG=>have g:=G.toGood;(aZ (aX g (aN g<|aa (ae g)<|aa (aL g (aT<|aa aq<|aa (aD g (bM g<|ae g) aq)<|aa (mr aq)<|aa cI<|aa dj<|aa ax ah)<|aD g (ae g) aq) ah) ax) (ai (aQ cI) ar) ar)
theorem abf:MY lE fK mw af fJ fj af af af fk 0 7:=λG=>have g:=G.toGood;(aZ (aX g (aN g<|aa (ae g)<|aa (aN g<|aa (ae g) ah) ah) ax) (ai (aQ cI) ar) ar)
theorem abg:MY lE fK mw af fJ fj af af af fk 0 8:=by
 intro CX J X G;have g:=G.toGood;show PS X (.Return (some _) _) (bD J<|.ret _)
 with_reducible exact(aQ<|dO g (aN g<|aa (ae g)<|aa (aT<|aa (aJ<|aa ax<|aa (aD g (aD g (cA g<|aa (bM g<|ae g) ah) aq)<|aD g (ae g) aq) ah) ah) ah) ax)
theorem abh:MX lE fK mw af fJ fj af af af fk 0:=by
 intro CX J X G;have e:ej fK=[bE fK 0,bE fK 1,bE fK 2,bE fK 3,bE fK 4,bE fK 5,bE fK 6,bE fK 7,bE fK 8]:=by kernel_rfl
 have e2:fk=[bF fk 0,bF fk 1,bF fk 2,bF fk 3,bF fk 4,bF fk 5,bF fk 6,bF fk 7,bF fk 8]:=by kernel_rfl
 rw[e,e2]
 with_reducible exact ai (aa9 G) (ai (aa_ G)<|ai (aba G)<|ai (abb G)<|ai (abc G)<|ai (abd G)<|ai (abe G)<|ai (abf G)<|ai (abg G)<|ar)
def Nm:ac:=["_law_server","_law_serial","_law_many","_law_text","_law_ask"]
noncomputable def Nn:ci:=
 [.asg 2 (.aG 0 "many" (.v 0) []),
 .asg 3 (.aG 1 "text" (.v 0) []),
 .drop (.aG 2 "came" (.v 0) [(.tup [(.c<|.str "ask"),(.c<|.int 0),.v 1,.v 2,(.lst [(.tup [(.c<|.str "cut"),(.ix (.v 3)<|.c<|.int 0)]),(.tup [(.c<|.str "keep"),(.bin .Sub (.blt .len [.v 3])<|.c<|.int 1)])])])]),
 .asg 4 (.tup [(.c<|.str "ask"),(.c<|.int 0),(.bin .Add (.v 1)<|.c<|.int 1),.v 2,(.lst [(.tup [(.c<|.str "cut"),(.c<|.str "#")]),(.tup [(.c<|.str "keep"),(.bin .Sub (.blt .len [.v 3])<|.c<|.int 1)])])]),
 .ret (.and [(.cmp .Eq (.aG 1 "text" (.v 0) []) (.sl (.v 3) (some (.c (.int 1))) none)),(.cmp .Eq (.call 0 [.v 0,.v 4]) (.c (.str "fit"))),(.cmp .Eq (.aG 1 "text" (.v 0) []) (.sl (.v 3) (some (.c (.int 1))) none))])]
def abi:ac:=["_law_server_refused"]
def Np:ac:=["many","text","came"]
def Nq:wS:=bf 68
theorem abj:MX Nm Nq abi af fJ Np af af af Nn 0:=λG=>have g:=G.toGood;(ai (aM G<|bM g<|ae g)<|ai (aM G<|bM g<|ae g)<|ai (bT<|cQ g (ae g)<|aa (aJ<|aa ax<|aa aq<|aa (ae g)<|aa (ae g)<|aa (aT<|aa (aJ<|aa ax<|aa (aL g (ae g) aq) ah)<|aa (aJ<|aa ax<|aa (aD g (cA g<|aa (ae g) ah) aq) ah) ah) ah) ah)<|ai (aM G<|aJ<|aa ax<|aa aq<|aa (aD g (ae g) aq)<|aa (ae g)<|aa (aT<|aa (aJ<|aa ax<|aa ax ah)<|aa (aJ<|aa ax<|aa (aD g (cA g<|aa (ae g) ah) aq) ah) ah) ah)<|ai (aQ<|fI (dO g (bM g<|ae g)<|nT g (ae g) (jH aq) wN)<|fI (dO g (aN g<|aa (ae g)<|aa (ae g) ah) ax)<|ir<|dO g (bM g<|ae g)<|nT g (ae g) (jH aq) wN) ar)
def Nr:ac:=["_law_server","_law_hands","_law_serial","_law_many","_law_text","_law_found","_law_told"]
noncomputable def Au:ci:=
 [.asg 3 (.aG 0 "many" (.v 0) []),
 .asg 4 (.aG 1 "text" (.v 0) []),
 .asg 5 (.aG 2 "came" (.v 0) [(.tup [(.c<|.str "ask"),(.c<|.int 0),.v 2,.v 3,(.lst [(.tup [(.c<|.str "put"),(.c<|.str "w")]),(.tup [(.c<|.str "keep"),(.blt .len [.v 4])])])])]),
 .ite (.cmp .NotEq (.comp none [] .list [.v 5] none<|.sl (.v 0) none<|some<|.c<|.int 4)<|.comp none [("_law_many",3)] .jt [.v 1] none<|.tup [(.c<|.str "took"),.v 0,(.bin .Add (.v 1)<|.c<|.int 1),(.c<|.int 0)]) [.ret<|.c<|.bl false] [],
 .asg 6 (.aG 2 "came" (.v 0) [(.tup [(.c<|.str "again"),(.c<|.int 0),(.c<|.int 0)])]),
 .ret (.and [(.cmp .Eq (.aG 1 "text" (.v 0) []) (.bin .Add (.c (.str "w")) (.v 4))),(.cmp .Eq (.comp none [] .list [.v 6] none (.ix (.v 0) (.c (.int 2)))) (.xt Am [(.c (.int 1)),(.bin .Add (.v 3) (.c (.int 2)))]))])]
def abk:ac:=["len","range","list"]
def Nt:wS:=bf 69
theorem abl:MX Nr Nt af af abk Np af af af Au 0:=λG=>have g:=G.toGood;(ai (aM G<|bM g<|ae g)<|ai (aM G<|bM g<|ae g)<|ai (aM G<|cQ g (ae g)<|aa (aJ<|aa ax<|aa aq<|aa (ae g)<|aa (ae g)<|aa (aT<|aa (aJ<|aa ax<|aa ax ah)<|aa (aJ<|aa ax<|aa (cA g<|aa (ae g) ah) ah) ah) ah) ah)<|ai (aZ (aX g (nU (ln:=["_law_letter"]) g (by kernel_rfl) (j9 g<|ae g) rM<|λ_ g=>(nT g (ae g) wN<|jH aq))<|nU (ln:=["_law_k"]) g (by kernel_rfl) (DR g<|ae g) rM<|λ_ g=>(aJ<|aa ax<|aa (ae g)<|aa (aD g (ae g) aq)<|aa aq ah)) (ai (aQ cI) ar) ar)<|ai (aM G<|cQ g (ae g)<|aa (aJ<|aa ax<|aa aq<|aa aq ah) ah)<|ai (aQ<|fI (dO g (bM g<|ae g)<|aD g ax<|ae g)<|ir<|dO g (nU (ln:=["_law_letter"]) g (by kernel_rfl) (j9 g<|ae g) rM<|λ_ g=>(aL g (ae g) aq))<|Ld g<|aa aq<|aa (aD g (ae g) aq) ah) ar)
def Nu:ac:=["_law_hand","_law_own"]
noncomputable def Nv:ci:=
 [.drop (.aG 0 "do" (.v 0) [(.lst [(.tup [(.c (.str "put")),(.c (.str "z"))]),(.tup [(.c (.str "keep")),(.c (.int 5))])])]),
 .ite (.cmp .NotEq (.aG 1 "came" (.v 0) [(.tup [(.c<|.str "took"),.v 1,(.c<|.int 1),.v 1,(.lst [(.tup [(.c<|.str "keep"),(.c<|.int 5)])])])])<|.tup [(.lst []),(.lst [])]) [.ret<|.c<|.bl false] [],
 .ret (.and [(.cmp .Eq (.aG 2 "seen" (.v 0) []) (.c (.int 1))),(.cmp .Eq (.aG 3 "text" (.v 0) []) (.c (.str "zab\ncd"))),(.cmp .Is (.aG 4 "flight" (.v 0) []) (.c .av))])]
def abm:ac:=["do","came","seen","text","flight"]
def Nw:wS:=bf 70
theorem abn:MX Nu Nw af af af abm af af af Nv 0:=λG=>have g:=G.toGood;(ai (bT<|cQ g (ae g)<|aa (aT<|aa (aJ<|aa ax<|aa ax ah)<|aa (aJ<|aa ax<|aa aq ah) ah) ah)<|ai (aZ (aX g (cQ g (ae g)<|aa (aJ<|aa ax<|aa (ae g)<|aa aq<|aa (ae g)<|aa (aT<|aa (aJ<|aa ax<|aa aq ah) ah) ah) ah)<|aJ<|aa (aT ah)<|aa (aT ah) ah) (ai (aQ cI) ar) ar)<|ai (aQ<|fI (dO g (bM g<|ae g) aq)<|fI (dO g (bM g<|ae g) ax)<|ir<|dO g (bM g<|ae g) dj) ar)
def Nx:ac:=["_law_server","_law_many"]
noncomputable def Ny:ci:=
 [.asg 1 (.aG 0 "many" (.v 0) []),
 .ite (.cmp .NotEq (.call 0 [.v 0,(.bin .Add (.v 1)<|.c<|.int 1)])<|.c<|.str "gone") [.ret<|.c<|.bl false] [],
 .ite (.cmp .NotEq (.call 1 [.v 0,(.tup [(.c<|.str "ask"),(.c<|.int 0),(.bin .Pow (.c<|.int 10)<|.c<|.int 6),(.bin .Add (.v 1)<|.c<|.int 1),(.lst [(.tup [(.c<|.str "put"),(.c<|.str "q")])])])])<|.c<|.str "letter") [.ret<|.c<|.bl false] [],
 .ret (.cmp .Eq (.call 1 [.v 0,(.tup [(.c (.str "again")),(.c (.int 0)),(.bin .Add (.v 1) (.c (.int 1)))])]) (.c (.str "letter")))]
def abo:ac:=["_law_number_refused","_law_server_refused"]
def Nz:wS:=bf 71
theorem abp:MX Nx Nz abo af af El af af af Ny 0:=λG=>have g:=G.toGood;(ai (aM G<|bM g<|ae g)<|ai (aZ (aX g (aN g<|aa (ae g)<|aa (aD g (ae g) aq) ah) ax) (ai (aQ cI) ar) ar)<|ai (aZ (aX g (aN g<|aa (ae g)<|aa (aJ<|aa ax<|aa aq<|aa (aD g aq aq)<|aa (aD g (ae g) aq)<|aa (aT<|aa (aJ<|aa ax<|aa ax ah) ah) ah) ah) ax) (ai (aQ cI) ar) ar)<|ai (aQ<|dO g (aN g<|aa (ae g)<|aa (aJ<|aa ax<|aa aq<|aa (aD g (ae g) aq) ah) ah) ax) ar)
def NA:ac:=["_law_server","_law_many","_law_found"]
noncomputable def NB:ci:=
 [.ite (.cmp .NotEq (.call 0 [.v 0,(.bin .Add (.v 1) (.c (.int 1)))]) (.c (.str ""))) [.ret (.c (.bl false))] [],
 .ite (.cmp .NotEq (.aG 0 "came" (.v 0) [(.tup [(.c<|.str "ask"),(.c<|.int 0),(.bin .Pow (.c<|.int 10)<|.c<|.int 6),(.bin .Add (.v 1)<|.c<|.int 1),(.lst [(.tup [(.c<|.str "put"),(.c<|.str "q")])])])])<|.lst []) [.ret<|.c<|.bl false] [],
 .asg 2 (.aG 0 "came" (.v 0) [(.tup [(.c<|.str "again"),(.c<|.int 0),(.bin .Add (.v 1)<|.c<|.int 1)])]),
 .ret (.cmp .Eq (.comp none [] .list [.v 2] none (.ix (.v 0) (.c (.int 2)))) (.xt Am [(.bin .Add (.v 1) (.c (.int 2))),(.bin .Add (.aG 1 "many" (.v 0) []) (.c (.int 1)))]))]
def abq:ac:=["_law_number_refused"]
def abr:ac:=["list","range"]
def abt:ac:=["came","many"]
def NC:wS:=bf 72
theorem abu:MX NA NC abq af abr abt af af af NB 0:=λG=>have g:=G.toGood;(ai (aZ (aX g (aN g<|aa (ae g)<|aa (aD g (ae g) aq) ah) ax) (ai (aQ cI) ar) ar)<|ai (aZ (aX g (cQ g (ae g)<|aa (aJ<|aa ax<|aa aq<|aa (aD g aq aq)<|aa (aD g (ae g) aq)<|aa (aT<|aa (aJ<|aa ax<|aa ax ah) ah) ah) ah)<|aT ah) (ai (aQ cI) ar) ar)<|ai (aM G<|cQ g (ae g)<|aa (aJ<|aa ax<|aa aq<|aa (aD g (ae g) aq) ah) ah)<|ai (aQ<|dO g (nU (ln:=["_law_letter"]) g (by kernel_rfl) (j9 g<|ae g) rM<|λ_ g=>(aL g (ae g) aq))<|Ld g<|aa (aD g (ae g) aq)<|aa (aD g (bM g<|ae g) aq) ah) ar)
def ND:ac:=["_law_hand","_law_own","_law_text","_law_letters","_law_changes"]
noncomputable def NF:ci:=
 [.asg 2 (.aG 0 "text" (.v 0) []),
 .zS [3,4] (.aG 1 "came" (.v 0) [(.tup [(.c<|.str "took"),.v 1,(.c<|.int 1),(.bin .Mod (.bin .Add (.v 1)<|.c<|.int 1)<|.c<|.int 8),(.lst [(.tup [(.c<|.str "put"),(.c<|.str "v")]),(.tup [(.c<|.str "keep"),(.c<|.int 5)])])])]),
 .ite (.or [(.cmp .NotEq (.v 3)<|.lst []),(.cmp .NotEq (.v 4)<|.lst [(.lst [(.tup [(.c<|.str "put"),(.c<|.str "v")]),(.tup [(.c<|.str "keep"),(.blt .len [.v 2])])])])]) [.ret<|.c<|.bl false] [],
 .ret (.and [(.cmp .Eq (.aG 2 "seen" (.v 0) []) (.c (.int 1))),(.cmp .Eq (.aG 0 "text" (.v 0) []) (.bin .Add (.c (.str "v")) (.v 2)))])]
def abv:ac:=["text","came","seen"]
def NG:wS:=bf 73
theorem abw:MX ND NG af af fJ abv af af af NF 0:=λG=>have g:=G.toGood;(ai (aM G<|bM g<|ae g)<|ai (YG [(_,_),(_,_)] G<|cQ g (ae g)<|aa (aJ<|aa ax<|aa (ae g)<|aa aq<|aa (aD g (aD g (ae g) aq) aq)<|aa (aT<|aa (aJ<|aa ax<|aa ax ah)<|aa (aJ<|aa ax<|aa aq ah) ah) ah) ah)<|ai (aZ (PW.pt<|jh (aX g (ae g)<|aT ah)<|k_<|aX g (ae g)<|aT<|aa (aT<|aa (aJ<|aa ax<|aa ax ah)<|aa (aJ<|aa ax<|aa (cA g<|aa (ae g) ah) ah) ah) ah) (ai (aQ cI) ar) ar)<|ai (aQ<|fI (dO g (bM g<|ae g) aq)<|ir<|dO g (bM g<|ae g)<|aD g ax<|ae g) ar)
def eE:ac:=["_law_script","_law_hands","_law_own","_law_server","_law_hand","_law_serials","_law_cell","_law_kept","_law_serial","_law_many","_law_far","_law_good"]
noncomputable def bJ:ci:=
 [.asg 1 (.bin .Add (.c (.int 1)) (.bin .Mod (.call 0 [.v 0,(.c (.int 0))]) (.c (.int 8)))),
 .asg 2 (.bin .Mod (.bin .FloorDiv (.call 0 [.v 0,(.c<|.int 0)])<|.c<|.int 8)<|.v 1),
 .asg 3 (.make 0 [(.c<|.str "ab\ncd"),.v 1]),
 .asg 4 (.make 1 [.v 2,(.c<|.str "ab\ncd")]),
 .asg 5 (.call 1 [.v 3,(.sl (.v 0) (some<|.c<|.int 4)<|some<|.c<|.int 9),.v 1]),
 .ite (.cmp .Eq (.bin .Mod (.call 0 [.v 0,(.c<|.int 3)])<|.c<|.int 2)<|.c<|.int 1) [.drop<|.aG 0 "do" (.v 4) [(.lst [(.tup [(.c<|.str "put"),(.c<|.str "z")]),(.tup [(.c<|.str "keep"),(.c<|.int 5)])])]] [],
 .asg 6 (.call 0 [.v 0,(.c<|.int 1)]),
 .asg 7 (.call 2 [.v 3,.v 4]),
 .ite (.cmp .NotEq (.call 3 [.v 3,(.call 4 [.v 3,.v 1,.v 6])])<|.c<|.str "letter") [.ret<|.c<|.bl false] [],
 .ite (.cmp .NotEq (.call 5 [.v 4,(.call 6 [.v 4,.v 2,.v 6])])<|.c<|.str "letter") [.ret<|.c<|.bl false] [],
 .ite (.and [(.cmp .Is (.aG 1 "flight" (.v 4) [])<|.c .av),(.cmp .NotEq (.call 5 [.v 4,(.tup [(.c<|.str "took"),.v 2,(.c<|.int 1),.v 2,(.lst [(.tup [(.c<|.str "keep"),(.c<|.int 5)])])])])<|.c<|.str "letter")]) [.ret<|.c<|.bl false] [],
 .ite (.cmp .NotEq (.call 3 [.v 3,(.call 7 [.v 3,(.tup [.v 6,(.ix (.v 5)<|.c<|.int 0)])])])<|.c<|.str "fit") [.ret<|.c<|.bl false] [],
 .nG 8 .list [(.lst [(.jD (.cmp .Gt (.ix (.v 5)<|.c<|.int 0)<|.c<|.int 0) (.blt .max [(.c<|.int 0),(.bin .Sub (.ix (.v 5)<|.c<|.int 0)<|.c<|.int 1)])<|.c<|.int 1),(.bin .Add (.ix (.v 5)<|.c<|.int 0)<|.c<|.int 1)])] [.ite (.cmp .NotEq (.aG 2 "came" (.v 3) [(.call 7 [.v 3,(.tup [.v 6,.v 8])])])<|.lst []) [.ret<|.c<|.bl false] []],
 .ite (.not<|.call 8 [.v 3,.v 4,(.call 0 [.v 0,(.c<|.int 2)])]) [.ret<|.c<|.bl false] [],
 .ite (.cmp .NotEq (.v 7)<|.call 2 [.v 3,.v 4]) [.ret<|.c<|.bl false] [],
 .asg 9 (.aG 3 "many" (.v 3) []),
 .ite (.or [(.not<|.call 9 [.v 3]),(.not<|.call 10 [.v 3,(.bin .Add (.ix (.v 5)<|.c<|.int 0)<|.c<|.int 1)])]) [.ret<|.c<|.bl false] [],
 .ite (.or [(.not<|.call 11 [.v 3,.v 1,(.bin .Add (.ix (.v 5)<|.c<|.int 0)<|.c<|.int 2)]),(.not<|.call 12 [.v 3,.v 9])]) [.ret<|.c<|.bl false] [],
 .asg 10 (.lst [(.tup [(.c<|.str "keep"),(.bin .Add (.blt .len [(.aG 4 "text" (.v 4) [])])<|.c<|.int 1)])]),
 .ite (.cmp .NotEq (.call 13 [.v 4,(.blt .list [.v 10])])<|.c<|.str "fit") [.ret<|.c<|.bl false] [],
 .ite (.and [(.cmp .Is (.aG 1 "flight" (.v 4) [])<|.c .av),(.cmp .Eq (.bin .Mod (.bin .FloorDiv (.call 0 [.v 0,(.c<|.int 3)])<|.c<|.int 2)<|.c<|.int 2)<|.c<|.int 1)]) [.asg 11<|.call 14 [.v 4,.v 2]] [.asg 11<|.call 15 [.v 4,.v 2]],
 .ret (.and [.v 11,(.cmp .Eq (.call 13 [.v 4,.v 10]) (.c (.str "")))])]
def eO:ac:=["_law_cell_at","_law_taken","_law_all","_law_server_refused","_law_no_ask","_law_hand_refused","_law_no_took","_law_unfit","_law_others_refused","_law_early","_law_cut","_law_goes_on","_law_later","_law_change_refused","_law_own_comes","_law_letter_comes"]
def eQ:ac:=["max","len","list"]
def eR:ac:=["do","flight","came","many","text"]
def bZ:wS:=bf 74
theorem abx:MY eE bZ eO af eQ eR d3 af af bJ 0 0:=by
 intro CX J X G;have g:=G.toGood;show PS X (.Assign [.Name "_law_hands" _] _ _) (bD J<|.asg 1 _)
 with_reducible exact(aM G<|aD g aq<|aD g (aN g<|aa (ae g)<|aa aq ah) aq)
theorem aby:MY eE bZ eO af eQ eR d3 af af bJ 0 1:=by
 intro CX J X G;have g:=G.toGood;show PS X (.Assign [.Name "_law_own" _] _ _) (bD J<|.asg 2 _)
 with_reducible exact(aM G<|aD g (aD g (aN g<|aa (ae g)<|aa aq ah) aq)<|ae g)
theorem abz:MY eE bZ eO af eQ eR d3 af af bJ 0 2:=by
 intro CX J X G;have g:=G.toGood;show PS X (.Assign [.Name "_law_server" _] _ _) (bD J<|.asg 3 _)
 with_reducible exact(aM G<|jG g<|aa ax<|aa (ae g) ah)
theorem abA:MY eE bZ eO af eQ eR d3 af af bJ 0 3:=by
 intro CX J X G;have g:=G.toGood;show PS X (.Assign [.Name "_law_hand" _] _ _) (bD J<|.asg 4 _)
 with_reducible exact(aM G<|jG g<|aa (ae g)<|aa ax ah)
theorem abB:MY eE bZ eO af eQ eR d3 af af bJ 0 4:=by
 intro CX J X G;have g:=G.toGood;show PS X (.Assign [.Name "_law_serials" _] _ _) (bD J<|.asg 5 _)
 with_reducible exact(aM G<|aN g<|aa (ae g)<|aa (nT g (ae g) (jH aq)<|jH aq)<|aa (ae g) ah)
theorem abC:MY eE bZ eO af eQ eR d3 af af bJ 0 5:=λG=>have g:=G.toGood;(aZ (aX g (aD g (aN g<|aa (ae g)<|aa aq ah) aq) aq) (ai (bT<|cQ g (ae g)<|aa (aT<|aa (aJ<|aa ax<|aa ax ah)<|aa (aJ<|aa ax<|aa aq ah) ah) ah) ar) ar)
theorem abD:MY eE bZ eO af eQ eR d3 af af bJ 0 6:=by
 intro CX J X G;have g:=G.toGood;show PS X (.Assign [.Name "_law_cell" _] _ _) (bD J<|.asg 6 _)
 with_reducible exact(aM G<|aN g<|aa (ae g)<|aa aq ah)
theorem abE:MY eE bZ eO af eQ eR d3 af af bJ 0 7:=by
 intro CX J X G;have g:=G.toGood;show PS X (.Assign [.Name "_law_kept" _] _ _) (bD J<|.asg 7 _)
 with_reducible exact(aM G<|aN g<|aa (ae g)<|aa (ae g) ah)
theorem abF:MY eE bZ eO af eQ eR d3 af af bJ 0 8:=λG=>have g:=G.toGood;(aZ (aX g (aN g<|aa (ae g)<|aa (aN g<|aa (ae g)<|aa (ae g)<|aa (ae g) ah) ah) ax) (ai (aQ cI) ar) ar)
theorem abG:MY eE bZ eO af eQ eR d3 af af bJ 0 9:=λG=>have g:=G.toGood;(aZ (aX g (aN g<|aa (ae g)<|aa (aN g<|aa (ae g)<|aa (ae g)<|aa (ae g) ah) ah) ax) (ai (aQ cI) ar) ar)
theorem abH:MY eE bZ eO af eQ eR d3 af af bJ 0 10:=λG=>have g:=G.toGood;(aZ (PW.pt<|uw (aX g (bM g<|ae g) dj)<|uv<|aX g (aN g<|aa (ae g)<|aa (aJ<|aa ax<|aa (ae g)<|aa aq<|aa (ae g)<|aa (aT<|aa (aJ<|aa ax<|aa aq ah) ah) ah) ah) ax) (ai (aQ cI) ar) ar)
theorem abI:MY eE bZ eO af eQ eR d3 af af bJ 0 11:=λG=>have g:=G.toGood;(aZ (aX g (aN g<|aa (ae g)<|aa (aN g<|aa (ae g)<|aa (aJ<|aa (ae g)<|aa (aL g (ae g) aq) ah) ah) ah) ax) (ai (aQ cI) ar) ar)
theorem abJ:MY eE bZ eO af eQ eR d3 af af bJ 0 12:=λG=>have g:=G.toGood;(wO G (j9 g<|aT<|aa (pK (aX g (aL g (ae g) aq) aq) (cA g<|aa aq<|aa (aD g (aL g (ae g) aq) aq) ah) aq)<|aa (aD g (aL g (ae g) aq) aq) ah)<|ai (aZ (aX g (cQ g (ae g)<|aa (aN g<|aa (ae g)<|aa (aJ<|aa (ae g)<|aa (ae g) ah) ah) ah)<|aT ah) (ai (aQ cI) ar) ar) ar)
theorem abK:MY eE bZ eO af eQ eR d3 af af bJ 0 13:=λG=>have g:=G.toGood;(aZ (dY<|gO g<|aN g<|aa (ae g)<|aa (ae g)<|aa (aN g<|aa (ae g)<|aa aq ah) ah) (ai (aQ cI) ar) ar)
theorem abL:MY eE bZ eO af eQ eR d3 af af bJ 0 14:=λG=>have g:=G.toGood;(aZ (aX g (ae g)<|aN g<|aa (ae g)<|aa (ae g) ah) (ai (aQ cI) ar) ar)
theorem abM:MY eE bZ eO af eQ eR d3 af af bJ 0 15:=by
 intro CX J X G;have g:=G.toGood;show PS X (.Assign [.Name "_law_many" _] _ _) (bD J<|.asg 9 _)
 with_reducible exact(aM G<|bM g<|ae g)
theorem abN:MY eE bZ eO af eQ eR d3 af af bJ 0 16:=λG=>have g:=G.toGood;(aZ (PW.pt<|jh (dY<|gO g<|aN g<|aa (ae g) ah)<|k_<|dY<|gO g<|aN g<|aa (ae g)<|aa (aD g (aL g (ae g) aq) aq) ah) (ai (aQ cI) ar) ar)
theorem abO:MY eE bZ eO af eQ eR d3 af af bJ 0 17:=λG=>have g:=G.toGood;(aZ (PW.pt<|jh (dY<|gO g<|aN g<|aa (ae g)<|aa (ae g)<|aa (aD g (aL g (ae g) aq) aq) ah)<|k_<|dY<|gO g<|aN g<|aa (ae g)<|aa (ae g) ah) (ai (aQ cI) ar) ar)
theorem abP:MY eE bZ eO af eQ eR d3 af af bJ 0 18:=by
 intro CX J X G;have g:=G.toGood;show PS X (.Assign [.Name "_law_far" _] _ _) (bD J<|.asg 10 _)
 with_reducible exact(aM G<|aT<|aa (aJ<|aa ax<|aa (aD g (cA g<|aa (bM g<|ae g) ah) aq) ah) ah)
theorem abQ:MY eE bZ eO af eQ eR d3 af af bJ 0 19:=λG=>have g:=G.toGood;(aZ (aX g (aN g<|aa (ae g)<|aa (cA g<|aa (ae g) ah) ah) ax) (ai (aQ cI) ar) ar)
theorem abR:MY eE bZ eO af eQ eR d3 af af bJ 0 20:=λG=>have g:=G.toGood;(aZ (PW.pt<|uw (aX g (bM g<|ae g) dj)<|uv<|aX g (aD g (aD g (aN g<|aa (ae g)<|aa aq ah) aq) aq) aq) (ai (aM G<|aN g<|aa (ae g)<|aa (ae g) ah) ar)<|ai (aM G<|aN g<|aa (ae g)<|aa (ae g) ah) ar)
theorem abS:MY eE bZ eO af eQ eR d3 af af bJ 0 21:=by
 intro CX J X G;have g:=G.toGood;show PS X (.Return (some _) _) (bD J<|.ret _)
 with_reducible exact(aQ<|fI (ae g)<|ir<|dO g (aN g<|aa (ae g)<|aa (ae g) ah) ax)
theorem abT:MX eE bZ eO af eQ eR d3 af af bJ 0:=by
 intro CX J X G;have e:ej bZ=[bE bZ 0,bE bZ 1,bE bZ 2,bE bZ 3,bE bZ 4,bE bZ 5,bE bZ 6,bE bZ 7,bE bZ 8,bE bZ 9,bE bZ 10,bE bZ 11,bE bZ 12,bE bZ 13,bE bZ 14,bE bZ 15,bE bZ 16,bE bZ 17,bE bZ 18,bE bZ 19,bE bZ 20,bE bZ 21]:=by kernel_rfl
 have e2:bJ=[bF bJ 0,bF bJ 1,bF bJ 2,bF bJ 3,bF bJ 4,bF bJ 5,bF bJ 6,bF bJ 7,bF bJ 8,bF bJ 9,bF bJ 10,bF bJ 11,bF bJ 12,bF bJ 13,bF bJ 14,bF bJ 15,bF bJ 16,bF bJ 17,bF bJ 18,bF bJ 19,bF bJ 20,bF bJ 21]:=by kernel_rfl
 rw[e,e2]
 with_reducible exact ai (abx G) (ai (aby G)<|ai (abz G)<|ai (abA G)<|ai (abB G)<|ai (abC G)<|ai (abD G)<|ai (abE G)<|ai (abF G)<|ai (abG G)<|ai (abH G)<|ai (abI G)<|ai (abJ G)<|ai (abK G)<|ai (abL G)<|ai (abM G)<|ai (abN G)<|ai (abO G)<|ai (abP G)<|ai (abQ G)<|ai (abR G)<|ai (abS G)<|ar)
end
namespace NH
open PySem PySem.W PyProof.Rows
section
variable {n:Nat}{lt:Nat->Nat->xz}{p:Array Nat}
variable {cmp:Nat->Nat->(xz->wn->Prop)->wn->Prop}{R:wn->Prop}
end
end NH
section
open PyProof.Rows PySem.W
end
def eS(H Y:Hp):Prop:= ∀b U,H b=some (.tup U)->Y b=some (.tup U)
theorem cB(h:au H Y):eS H Y:=λb U e=>h b _ e
theorem eS.trans{H1 H2:Hp}(a:eS H H1)(b:eS H1 H2):eS H H2:=λc U e=>b c U (a c U e)
theorem sameNew{p:wl}{o:HO}(h:H p=none):au H (upd H p o):=λb u e=>by rw[aC<|aO e h];exact e
def cm(c:wl)(H Y:Hp):Prop:= ∀b o,H b=some o->b≠c->Y b=some o
theorem cm.upd{c:wl}{o:HO}:cm c H (upd H c o):=λb u e n=>by rw[aC n];exact e
theorem cm.trans{c:wl}{H1 H2:Hp}(a:cm c H H1)(b:cm c H1 H2):cm c H H2:=λd o e n=>b d o (a d o e n) n
theorem sameBut{c:wl}{H1 H2:Hp}(a:au H H1)(b:cm c H1 H2):cm c H H2:=λd o e n=>b d o (a d o e) n
theorem nY{c:wl}{H1 H2:Hp}(a:au H H1)(hc:H c=none)(b:cm c H1 H2):au H H2:=λd o e=>b d o (a d o e) (aO e hc)
theorem cm.eg{c:wl}(h:cm c H Y)(hc:H c=some (.lst U)):eS H Y:=λb ys e=>h b _ e (λz=>by rw[z,hc] at e;cases e)
theorem iF{c:xz}{A B0:Prop}(q:B0)(h:c=false:=by first|rfl|decide):if c=true then A else B0:=by
 rw[h];exact jA q
theorem iT{c:xz}{A B0:Prop}(q:A)(h:c=true:=by first|rfl|decide):if c=true then A else B0:=by
 rw[h];exact hJ q
inductive Pt where|keep (n:Int)|put (s:Str)|cut (s:Str)
 deriving DecidableEq
def Pt.word:Pt->Str|.keep _=> "keep" |.put _=> "put" |.cut _=> "cut"
def Pt.val:Pt->V|.keep n=>.int n|.put s=>.str s|.cut s=>.str s
def iW(H:Hp)(v:V)(p:Pt):Prop:= ∃a,v=.ref a/\H a=some (.tup [.str p.word,p.val])
abbrev bh(H:Hp):be->List Pt->Prop:=Paired (iW H)
theorem iW.mono{p:Pt}(t:eS H Y)(h:iW H v p):iW Y v p:=by
 obtain⟨a,e,h⟩:=h;exact⟨a,e,t _ _ h⟩
theorem bh.mono{H Y:Hp}(t:eS H Y):∀{B:be}{ps:List Pt},bh H B ps->bh Y B ps:=by
 intro _ _ h;exact Paired.g6 h λ_ _ x=>x.mono t
theorem bh.get{H:Hp}:∀{B:be}{ps:List Pt}{i:Nat}{v:V},bh H B ps->B[i]?=some v->∃p,ps[i]?=some p/\iW H v p:=by
 intro _ _ i v h
 induction h generalizing i with
 |nil=>intro e;simp at e
 |cons x _ ih=>
  intro e;cases i with
  |zero=>simp at e;subst e;exact⟨_,rfl,x⟩
  |succ i=>
   obtain⟨p,a,b⟩:=ih (by simpa using e)
   exact⟨p,by simpa using a,b⟩
theorem bh.snoc{ps:List Pt}{p:Pt}(h:bh H B ps)(q:iW H v p):bh H (B++[v]) (ps++[p]):=IN h q
theorem bh.dropLast{H:Hp}:∀{B:be}{ps:List Pt},bh H B ps->bh H B.dropLast ps.dropLast:=by
 intro _ _ h
 induction h with
 |nil=>exact .nil
 |cons x k i=>
  cases k with
  |nil=>exact .nil
  |cons _ _=>exact .cons x i
def kb(w a:Str):xz:=w !=a && !(a=="cut" && w=="put")
inductive Ex(B:be)(H:Hp)(Q:VK)(E:XK):Prop|i(w a:_)(_:B=[.str w,.str a])(_:Q (.bl<|kb w a) H)
theorem abU{K:Frag}(B:be)(H:Hp)(Q:VK)(E:XK)(h:Ex B H Q E):aB (aR K [] [] (E:=E)) Kw {nx:=λ_ Y=>Q .av Y,rt:=Q} (start Kv B) H:=by
 obtain⟨w,a,rfl,q⟩:=h;refine⟨_,rfl,_,rfl,_,rfl,?_⟩;unfold kb at q;refine kR (λh=>?_)<|λh=>?_
 ·rw[zaE,ja] at h;have e:(w !=a)=true:=h;rw[e] at q;refine⟨_,rfl,_,rfl,?_⟩;refine kR (λh2=>?_)<|λh2=>?_
  ·rw[zaG,ja] at h2;rw[h2] at q;refine⟨_,rfl,?_⟩;show Q (.bl<|!(false ^^ decide (V.str w=V.str "put"))) H;rw[zaG,ja];exact q
  ·rw[zaG,ja] at h2;have e2:(a=="cut")=false:=by simpa using h2
   rw[e2] at q;exact q
 ·rw[zaE,ja] at h;have e:(w !=a)=false:=by simpa using h
  rw[e] at q;exact q
def rY:Pt->Int|.keep n=>n|.put s=>s.length|.cut s=>s.length
def NI:Pt->Prop|.keep _=>True|.put s=>s.length<=1000000|.cut s=>s.length<=1000000
theorem cK{n:Nat}(h:n<=1000000):n<=sizeLine:=zap h (by decide)
theorem gb{n:Nat}(h:n<=1000000):n<sizeLine:=Nat.lt_of_le_of_lt h (by decide)
inductive rZ(B:be)(H:Hp)(Q:VK)(E:XK):Prop|i(v p:_)(_:B=[v])(_:iW H v p)(_:NI p)(_:Q (.int<|rY p) H)
theorem abV{K:Frag}(B:be)(H:Hp)(Q:VK)(E:XK)(h:rZ B H Q E):aB (aR K [] [] (E:=E)) Kz {nx:=λ_ Y=>Q .av Y,rt:=Q} (start Ky B) H:=by
 obtain⟨v,p,rfl,⟨a,rfl,ha⟩,ho,q⟩:=h;refine⟨_,rfl,.inr<|.inl ⟨_,_,_,_,rfl,rfl,aP.of ha,rfl,_,rfl,?_⟩⟩;rw[zaG,ja];cases p with
 |keep n=>exact hJ ⟨_,rfl,.inr<|.inl ⟨_,_,_,_,rfl,rfl,aP.of ha,rfl,q⟩⟩
 |put s=>exact jA ⟨_,rfl,.inr<|.inl ⟨_,_,_,_,rfl,rfl,aP.of ha,rfl,cK ho,q⟩⟩
 |cut s=>exact jA ⟨_,rfl,.inr<|.inl ⟨_,_,_,_,rfl,rfl,aP.of ha,rfl,cK ho,q⟩⟩
def cell(ns:pr)(k:Nat):Int:=ns.getD k 0
inductive Av(K:Frag)(B:be)(H:Hp)(Q:VK)(E:XK):Prop|i(a:wl)(ns:pr)(k:Int)(_:B=[.ref a,.int k])(_:aE K H a (ns.map V.int))(_:0<=k)(_:Q (.int<|cell ns k.toNat) H)
theorem abW{K:Frag}(B:be)(H:Hp)(Q:VK)(E:XK)(h:Av K B H Q E):aB (aR K [] [] (E:=E)) KL {nx:=λ_ Y=>Q .av Y,rt:=Q} (start KJ B) H:=by
 obtain⟨a,ns,k,rfl,ha,hk,q⟩:=h;refine⟨_,rfl,_,rfl,.inl ⟨_,ha,trivial,_,rfl,?_⟩⟩;rw[zaf];refine kR (λh=>?_)<|λh=>?_
 ·have bY:k< (ns.length:Int):=IO h;refine⟨_,rfl,_,rfl,.inl ⟨_,_,_,_,rfl,rfl,ha,?_,q⟩⟩;have e:=fH (xs:=ns.map V.int) (j:=k.toNat) (v:=.int (cell ns k.toNat)) (by
   have:k.toNat<ns.length:=by lia
   simp[cell,this])
  rw[show((k.toNat:Nat):Int)=k by lia] at e
  exact e
 ·have hge:¬k< (ns.length:Int):=λz=>h (zqT z);have e:cell ns k.toNat=0:=by
   have z:ns[k.toNat]?=none:=List.getElem?_eq_none_iff.mpr (by lia)
   unfold cell;rw[zbe,z];rfl
  rw[e] at q;exact q
def SG:Str:=" !\"#$&'()*+,-./0123456789:;<=>?@ABCDEFGHIJKLMNOPQRSTUVWXYZ[\\]^_`abcdefghijklmnopqrstuvwxyz{|}~\n"
def good(x:Str):Prop:=x.length<=1000000/\∀c∈x.cps.toList,SG.cps.contains c=true
theorem takeWhile_all{α:Type}(p:α->xz):∀l:List α,(∀c∈l,p c=true)->l.takeWhile p=l
 |[],_=>rfl
 |c::l,h=>by rw[List.takeWhile_cons,h c zas,takeWhile_all p l λd hd=>h d (zar _ hd)];rfl
theorem abX(x y:Str)(h:∀c∈x.cps.toList,y.cps.contains c=true):Txt.lstripChars x y="":=by
 have e0:stripLo y.cps.contains true x=x.length:=by
  unfold stripLo;rw[BT rfl,takeWhile_all _ _ h]
  simp[Str.length]
 have e1:stripHi y.cps.contains false x x.length=x.length:=rfl;unfold Txt.lstripChars Txt.stripBy stripSame stripped;rw[e0,e1]
 split
 ·rename_i hq
  simp only[zaa,KB] at hq
  have:x.cps= #[]:=zbK hq.1;obtain⟨c⟩:=x;have e:c= #[]:=this;subst e
  rfl
 ·show(⟨x.cps.extract x.length x.length⟩:Str)=_;have:x.cps.extract x.length x.length= #[]:=by simp[Str.length]
  rw[this];rfl
theorem pT{a:wl}{T:Ty}{k:xz->Prop}(h:H a=some (.tup U))(q:k (T==.tuple)):cy T (.ref a) H k:=by
 show(match H a with|some (.lst _)=>k (T==.list)|some (.bW _<|.lst _)=>k (T==.list)|some (.tup _)=>k (T==.tuple)|some (.dK _)=>k (T==.dict)|some (.dT _)=>k (T==.dict)|_=>False)
 rw[h];exact q
theorem r6{a:wl}{T:Ty}{k:xz->Prop}(h:H a=some (.lst U))(q:k (T==.list)):cy T (.ref a) H k:=by
 show(match H a with|some (.lst _)=>k (T==.list)|some (.bW _<|.lst _)=>k (T==.list)|some (.tup _)=>k (T==.tuple)|some (.dK _)=>k (T==.dict)|some (.dT _)=>k (T==.dict)|_=>False)
 rw[h];exact q
abbrev gS:cr:=[("SIGNS",.str SG)]
inductive abY(B:be)(H:Hp)(Q:VK)(E:XK):Prop|i(x:_)(_:B=[.str x])(_:good x)(_:Q (.bl true) H)
theorem abZ{K:Frag}(B:be)(H:Hp)(Q:VK)(E:XK)(h:abY B H Q E):aB (aR K [] gS (E:=E)) D2 {nx:=λ_ Y=>Q .av Y,rt:=Q} (start jJ B) H:=by
 obtain⟨x,rfl,hx,q⟩:=h;refine⟨_,rfl,rfl,_,rfl,hJ ⟨_,rfl,rfl,cK hx.1,?_⟩⟩;show Q (.bl<|false ^^ decide (V.str (Txt.lstripChars x SG)=V.str "")) H;rw[abX x SG hx.2,zqT rfl];exact q
def bx:Pt->Prop|.keep n=>1<=n|.put s=>good s/\s≠"" |.cut s=>good s/\s≠""
inductive ab0(K:Frag)(B:be)(H:Hp)(Q:VK)(E:XK):Prop|i(w p U:_)(_:B=[.str w,.ref p])(_:aP K H p U)(_:U.all jc=true)(_:Q (.bl<|g_ (.str w) U) H)
theorem ab1{K:Frag}(B:be)(H:Hp)(Q:VK)(E:XK)(h:ab0 K B H Q E):aB (aR K [] [] (E:=E)) D1 {nx:=λ_ Y=>Q .av Y,rt:=Q} (start D0 B) H:=by
 obtain⟨w,p,U,rfl,hp,hf,q⟩:=h;exact⟨_,rfl,rfl,_,rfl,hJ ⟨_,rfl,_,rfl,p,U,rfl,.inr hp,rfl,hf,q⟩⟩
inductive Ey(B:be)(H:Hp)(Q:VK)(E:XK):Prop|i(v p:_)(_:B=[v])(_:iW H v p)(_:bx p)(_:∀Y,au H Y->Q (.bl true) Y)
def chainOk:Str->List Pt->xz
 |_,[]=>true
 |a,p::r=>kb p.word a && chainOk p.word r
def jO(a:Str)(ps:List Pt):Nat->Str
 | 0=>a
 |i+1=>match ps[i]? with|some p=>p.word|none=> ""
theorem Ez:∀(ps:List Pt) (a:Str) (i:Nat) (p:Pt),chainOk a ps=true->ps[i]?=some p->kb p.word (jO a ps i)=true
 |[],_,_,_,_,h=>by simp at h
 |q::r,a,0,p,h,e=>by
  simp only[chainOk,zaa] at h
  simp at e;subst e;exact h.1
 |q::r,a,i+1,p,h,e=>by
  simp only[chainOk,zaa] at h
  have e':r[i]?=some p:=by simpa using e
  have ih:=Ez r q.word i p h.2 e';cases i with
  |zero=>simpa[jO] using ih
  |succ i=>simpa[jO] using ih
abbrev ab2:le:=[("is_part",Ey),("may_follow",Ex)]
inductive w4(B:be)(H:Hp)(Q:VK)(E:XK):Prop|i(a U ps:_)(_:B=[.ref a])(_:H a=some (.lst U))(_:bh H U ps)(_:(∀p∈ps,bx p))(_:chainOk "" ps=true)(_:∀Y,au H Y->Q .av Y)
theorem ab3{K:Frag}{et:em}(B:be)(H:Hp)(Q:VK)(E:XK)(h:w4 B H Q E):aB (aR K ab2 [] (et:=et) (E:=E)) D4 {nx:=λ_ Y=>Q .av Y,rt:=Q} (start D3 B) H:=by
 obtain⟨a,U,ps,rfl,ha,dn,aF,cx,q⟩:=h;refine⟨_,rfl,rfl,r6 ha ⟨_,rfl,a,rfl,⟨_,aE.of ha⟩,m4 (K:=K) (a:=a) (xs:=U) (λi N H2=>∃v,N=[some (.ref a),some (.str (jO "" ps i)),v]/\au H H2) ⟨none,rfl,au.refl _⟩
  (λi N H2 _ ⟨_,_,s2⟩=>aE.of (s2 _ _ ha)) ?_ ?_⟩⟩
 ·rintro i x N H2 hi ⟨v,rfl,s2⟩;obtain⟨p,hp,lF⟩:=dn.get hi;obtain⟨b,rfl,hb⟩:=lF.mono (cB s2);refine⟨_,rfl,_,p,rfl,⟨b,rfl,hb⟩,aF p<|zaw hp,λH3 s3=>?_⟩;refine⟨_,rfl,.inr<|.inl ⟨_,_,_,_,rfl,rfl,aP.of<|s3 _ _ hb,rfl,_,rfl,p.word,_,rfl,?_⟩⟩;have e:=Ez ps "" i p cx hp;show(λc H1=>if (!c)=true then _ else _) (kb p.word<|jO "" ps i) H3
  rw[e];refine⟨_,rfl,.inr<|.inl ⟨_,_,_,_,rfl,rfl,aP.of<|s3 _ _ hb,rfl,some<|.ref b,?_,s2.trans s3⟩⟩;show[some<|V.ref a,some<|V.str p.word,some<|V.ref b]=_;have e2:jO "" ps (i+1)=p.word:=by simp only[jO,hp]
  rw[e2]
 ·rintro N H2 ⟨v,rfl,s2⟩;exact q H2 s2
def overOf(ps:List Pt):pr:=(ps.filter λp=>decide (p.word≠ ("put":Str))).map rY
def ab4(ps:List Pt):pr:=(ps.filter λp=>decide (p.word≠ ("cut":Str))).map rY
abbrev NJ:le:=[("need_change",w4),("part_size",rZ)]
inductive kd(B:be)(H:Hp)(Q:VK)(E:XK):Prop|i(a U ps:_)(_:B=[.ref a])(_:H a=some (.lst U))(_:bh H U ps)(_:(∀p∈ps,bx p))(_:chainOk "" ps=true)(_:ps.length<=1000000)(_:∀t Y,au H Y->Y t=some (.tup [.int (overOf ps).sum,.int (ab4 ps).sum])->Q (.ref t) Y)
theorem EA{p:Pt}(h:bx p):NI p:=by
 cases p with
 |keep n=>trivial
 |put s=>exact h.1.1
 |cut s=>exact h.1.1
theorem NK{α:Type}(p:α->xz)(l:List α)(i:Nat)(v:α)(h:l[i]?=some v):(l.take<|i+1).filter p=(l.take i).filter p++(if p v then [v] else []):=by
 rw[WP,h,List.filter_append];cases hp:p v<;>simp[hp]
theorem ab5{K:Frag}(B:be)(H:Hp)(Q:VK)(E:XK)(h:kd B H Q E):aB (aR K NJ [] (E:=E)) D6 {nx:=λ_ Y=>Q .av Y,rt:=Q} (start D5 B) H:=by
 obtain⟨a,U,ps,rfl,ha,dn,aF,cx,hlen,q⟩:=h;refine⟨_,rfl,a,U,ps,rfl,ha,dn,aF,cx,λH1 s1=>?_⟩;have hl:=Db dn;have comp:∀(w:Str) (H1:Hp) (Q1:VK) (N:St),au H H1->N[0]?=some (some<|.ref a)->
   (∀b H2,au H H2->H2 b=some (.lst<|((ps.filter λp=>decide (p.word≠w)).map rY).map V.int)->Q1 (.ref b) H2)->
   aj (aR K NJ [] (E:=E)) (.comp none [] .list [.v 0] (some<|.cmp .NotEq (.ix (.v 0)<|.c<|.int 0)<|.c<|.str w)<|.call 1 [.v 0]) N H1 Q1:=by
  intro w H1 Q1 N s1 hσ hq;refine⟨_,hσ,a,rfl,⟨_,aE.of<|s1 _ _ ha⟩,λi m ys H2=>m=U.length - i/\i<=U.length/\au H H2/\ys=(((ps.take i).filter λp=>decide (p.word≠w)).map rY).map V.int,⟨_,rfl,zqZ _,s1,rfl⟩,?_⟩;rintro i m ys H2 ⟨rfl,hi,s2,rfl⟩;by_cases bY:i<U.length
  ·refine .inr ⟨⟨U,U[i],aE.of<|s2 _ _ ha,by simp[bY]⟩,?_⟩
   rintro x H3 ⟨rfl,hx⟩;have lZ:=hx U (aE.of<|s2 _ _ ha);obtain⟨p,hp,lF⟩:=dn.get lZ;obtain⟨b,rfl,hb⟩:=lF.mono (cB s2);refine⟨_,rfl,.inr<|.inl ⟨_,_,_,_,rfl,rfl,aP.of hb,rfl,_,rfl,?_⟩⟩;rw[zaE,ja];have tf:=NK (λp=>decide<|p.word≠w) ps i p hp;have hc:((ps.take i).filter λp=>decide (p.word≠w)).length<=1000000:=zap (zbI _ _) (zap (List.length_take_le _ _) (by lia))
   refine kR (λh=>?_)<|λh=>?_
   ·have e:decide (p.word≠w)=true:=by simpa using h
    refine⟨_,rfl,_,p,rfl,⟨b,rfl,hb⟩,EA<|aF p<|zaw hp,?_,U.length - (i+1),by lia,rfl,bY,s2,?_⟩
    ·rw[zaf,zaf];exact gb hc
    ·rw[tf,e];simp
   ·have e:decide (p.word≠w)=false:=by simpa using h
    refine⟨U.length - (i+1),by lia,rfl,bY,s2,?_⟩
    rw[tf,e];simp
  ·have nZ:i=U.length:=by lia
   subst nZ;refine .inl ⟨⟨U,aE.of<|s2 _ _ ha,zqR _⟩,λp hp=>?_⟩;have e:ps.take U.length=ps:=zaM (by lia)
   rw[e];exact hq p _ (s2.trans<|sameNew hp) aw
 refine DZ<|Kp<|Kq<|comp "put" H1 _ _ s1 rfl λb1 H2 s2 e2=>⟨_,aE.of e2,?_⟩;refine DZ<|Kp<|Kq<|comp "cut" H2 _ _ s2 rfl λb2 H3 s3 e3=>⟨_,aE.of e3,?_⟩;refine⟨_,rfl,_,rfl,bQ,λt ht=>?_⟩;exact q t _ (s3.trans<|sameNew ht) aw
def cat(ts:ac):Str:=Txt.join "" ts
def sz(ts:ac):Nat:=(ts.map Str.length).sum
theorem ofString_empty:(Str.ofString "")=⟨#[]⟩:=rfl
theorem w5(ts:ac):(cat ts).cps.toList=(ts.map λt=>t.cps.toList).flatten:=by
 have e:(Str.ofString "").cps= #[]:=rfl;cases ts with
 |nil=>rfl
 |cons t r=>
  show(r.foldl (λN' p=>N'++(Str.ofString "").cps++p.cps) t.cps).toList=_;rw[e];have go:∀(r:ac) (N':Array Nat),(r.foldl (λN' p=>N'++ #[]++p.cps) N').toList=N'.toList++(r.map λt=>t.cps.toList).flatten:=by
   intro r
   induction r with
   |nil=>intro N';simp
   |cons q r ih=>
    intro N';show(r.foldl (λN' p=>N'++ #[]++p.cps)<|N'++ #[]++q.cps).toList=_;rw[ih];simp
  rw[go];simp
theorem gP{x:Str}(h:x.cps.toList=y.cps.toList):x=y:=by
 obtain⟨x⟩:=x;obtain⟨y⟩:=y;exact Cl Str.mk<|Array.toList_inj.mp h
theorem app_list(x y:Str):(x++y).cps.toList=x.cps.toList++y.cps.toList:=by
 show(x.cps++y.cps).toList=_
 simp
theorem EB(a b:ac):cat (a++b)=cat a++cat b:=gP (by rw[app_list,w5,w5,w5];simp)
theorem EC(x:Str):cat [x]=x:=gP (by rw[w5];simp)
theorem len_list(x:Str):x.length=x.cps.toList.length:=by simp[Str.length]
theorem ab6(ts:ac):(cat ts).length=sz ts:=by
 rw[len_list,w5,List.length_flatten];unfold sz;rw[List.map_map]
 congr 1
theorem NL(x:Str):x++(Str.ofString "")=x:=gP (by rw[app_list];simp[ofString_empty])
theorem uI(x:Str):(Str.ofString "")++x=x:=gP (by rw[app_list];simp[ofString_empty])
theorem NM(a b:ac):sz (a++b)=sz a+sz b:=by simp[sz]
theorem joinOk_of{ts:ac}(h:sz ts<=1000000):JoinOk "" ts=true:=by
 have go:∀(l:ac) (n:Nat),l.foldl (· + ·.length+(Str.ofString "").length) n=n+sz l:=by
  intro l
  induction l with
  |nil=>intro n;rfl
  |cons t r ih=>
   intro n;show r.foldl _ (n+t.length+0)=_;rw[ih];show n+t.length+0+sz r=n+(t.length+sz r);lia
 unfold JoinOk;have e:ts.toArray.foldl (· + ·.length+(Str.ofString "").length) 0=sz ts:=by
  rw[List.foldl_toArray,go,Nat.zero_add]
 rw[e];show(!decide (sz ts>sizeLine))=true;rw[zqF (by have:=cK h;lia)]
 rfl
def txt(I:Str->Pt)(x:Str):List Pt:=if x="" then [] else [I x]
def dZ(ch:List Pt)(cY dr:ac):List Pt:=ch++txt .put (cat cY)++txt .cut (cat dr)
inductive NN(B:be)(H:Hp)(Q:VK)(E:XK):Prop|i(c p q U ps cY dr:_)(_:B=[.ref c,.ref p,.ref q])(_:H c=some (.lst U))(_:bh H U ps)(_:H p=some (.lst<|cY.map .str))(_:H q=some (.lst<|dr.map .str))(_:sz cY<=1000000)(_:sz dr<=1000000)(_:ps.length<=900000)(_:∀Y gf,cm c H Y->Y c=some (.lst gf)->bh Y gf (dZ ps cY dr)->Q .av Y)
theorem ab7{K:Frag}(B:be)(H:Hp)(Q:VK)(E:XK)(h:NN B H Q E):aB (aR K [] [] (E:=E)) KG {nx:=λ_ Y=>Q .av Y,rt:=Q} (start KD B) H:=by
 obtain⟨c,p,q,U,ps,cY,dr,rfl,hc,dn,hp,hq,r9,n4,hl,k⟩:=h;have hlen:=Db dn;refine⟨rfl,_,rfl,cY,aE.of hp,joinOk_of r9,?_⟩;refine⟨rfl,_,rfl,dr,aE.of hq,joinOk_of n4,?_⟩;have NO:∀(i:Nat) (w x:Str) (I:Str->Pt) (H1:Hp) (jP:be) (n5:List Pt) (N:St) (D:Ends),(∀y,(I y).word=w/\(I y).val=.str y)->H1 c=some (.lst jP)->bh H1 jP n5->n5.length<=950000->N[0]?=some (some<|.ref c)->N[i]?=some (some<|.str x)->
   (∀H2 Aw,cm c H1 H2->H2 c=some (.lst Aw)->bh H2 Aw (n5++txt I x)->D.nx N H2)->
   bD (aR K [] [] (E:=E)) (.ite (.cmp .NotEq (.v i)<|.c<|.str "") [.drop<|.cG .append (.v 0) [(.tup [(.c<|.str w),.v i])]] []) D N H1:=by
  intro i w x I H1 jP n5 N D mx gz uJ cp h0 hi kk;have ab8:=Db uJ;refine⟨_,hi,_,rfl,?_⟩;rw[zaE,ja];refine kR (λh=>?_)<|λh=>?_
  ·have ne:x≠"":=by simpa using h
   refine⟨_,h0,.inl ⟨rfl,_,aE.of gz⟩,_,hi,bQ,λt ht=>?_⟩;have w6:c≠t:=aO gz ht;refine⟨jP,(by rw[aC w6];exact gz),gb (by lia),kk _ (jP++[.ref t]) ((sameBut (sameNew ht) cm.upd)) aw ?_⟩
   have tt:eS H1 (upd (upd H1 t<|.tup [.str w,.str x]) c<|.lst<|jP++[.ref t]):=(sameBut (sameNew ht) cm.upd).eg gz;unfold txt;rw[AT ne];refine bh.snoc (uJ.mono tt) ⟨t,rfl,?_⟩;rw[aC w6.symm,aw,(mx x).1,(mx x).2]
  ·have e:x="":=by simpa using h
   refine kk H1 jP (λb o e _=>e) gz ?_;unfold txt;rw[BT e,zac];exact uJ
 refine NO 3 "put" (cat cY) .put H U ps _ _ (λ_=>⟨rfl,rfl⟩) hc dn (by lia) rfl rfl λH2 Aw b2 oY ab9=>?_
 have l2:(ps++txt .put (cat cY)).length<=950000:=by
  rw[zqA];have:(txt .put<|cat cY).length<=1:=by unfold txt;split<;>simp
  lia
 refine NO 4 "cut" (cat dr) .cut H2 Aw _ _ _ (λ_=>⟨rfl,rfl⟩) oY ab9 l2 rfl rfl λH3 pU b3 ED ab_=>?_;exact k H3 pU (b2.trans b3) ED ab_
def eU(ch:List Pt)(n:Int):List Pt:=match ch.getLast? with
 |some (.keep m)=>ch.dropLast++[.keep<|n+m]
 |_=>ch++[.keep n]
inductive NP(B:be)(H:Hp)(Q:VK)(E:XK):Prop|i(c n U ps:_)(_:B=[.ref c,.int n])(_:H c=some (.lst U))(_:bh H U ps)(_:ps.length<=900000)(_:∀Y gf,cm c H Y->Y c=some (.lst gf)->bh Y gf (eU ps n)->Q .av Y)
theorem bh.last{ps:List Pt}(h:bh H U ps)(hn:U.length≠0):∃v p,U[U.length - 1]?=some v/\jx U (-1)=some v/\ps.getLast?=some p/\iW H v p:=by
 have bY:U.length - 1<U.length:=by lia
 obtain⟨p,hp,pv⟩:=h.get (i:=U.length - 1) (v:=U[U.length - 1]) (by simp[bY])
 refine⟨U[U.length - 1],p,by simp[bY],?_,?_,pv⟩
 ·unfold jx lX;have:¬(0:Int)<= -1:=by decide
  rw[AT this,BT (by lia)]
  have e:((-1:Int)+(U.length:Int)).toNat=U.length - 1:=by lia
  show U[((-1:Int)+(U.length:Int)).toNat]?=_;rw[e];simp[bY]
 ·rw[List.getLast?_eq_getElem?,<-Db h];exact hp
theorem aca{K:Frag}(B:be)(H:Hp)(Q:VK)(E:XK)(h:NP B H Q E):aB (aR K [] [] (E:=E)) KC {nx:=λ_ Y=>Q .av Y,rt:=Q} (start KA B) H:=by
 obtain⟨c,n,U,ps,rfl,hc,dn,hl,k⟩:=h;have hlen:=Db dn;have V':∀(m:Int) (H1:Hp) (jP:be) (n5:List Pt),cm c H H1->H1 c=some (.lst jP)->bh H1 jP n5->n5.length<=900000->eU ps n=n5++[.keep m]->
   aB (aR K [] [] (E:=E)) [.drop<|.cG .append (.v 0) [(.tup [(.c<|.str "keep"),.v 1])]] {nx:=λ_ Y=>Q .av Y,rt:=Q} [some<|.ref c,some<|.int m] H1:=by
  intro m H1 jP n5 b1 gz uJ cp e;have ab8:=Db uJ;refine⟨_,rfl,.inl ⟨rfl,_,aE.of gz⟩,_,rfl,bQ,λt ht=>?_⟩;have w6:c≠t:=aO gz ht;refine⟨jP,(by rw[aC w6];exact gz),gb (by lia),k _ (jP++[.ref t]) (b1.trans<|sameBut (sameNew ht) cm.upd) aw ?_⟩
  rw[e];refine bh.snoc (uJ.mono<|(sameBut (sameNew ht) cm.upd).eg gz) ⟨t,rfl,?_⟩;rw[aC w6.symm,aw];rfl
 refine⟨_,rfl,.inl ⟨_,aE.of hc,trivial,_,rfl,?_⟩⟩;refine kR (λh=>?_)<|λh=>?_
 ·have hn:U.length≠0:=by
   have:=IO h;lia
  obtain⟨v,p,e1,e2,e3,a,rfl,ha⟩:=dn.last hn;refine⟨_,rfl,.inl ⟨_,_,_,_,rfl,rfl,aE.of hc,e2,.inr<|.inl ⟨_,_,_,_,rfl,rfl,aP.of ha,rfl,_,rfl,?_⟩⟩⟩;rw[zaG,ja];cases p with
  |keep m=>
   have jQ:upd H c (.lst U.dropLast) a=some (.tup [.str "keep",.int m]):=by rw[aC<|bX ha hc (by intro z;cases z)];exact ha
   refine⟨_,rfl,_,rfl,.inl ⟨rfl,_,aE.of hc⟩,U,_,hc,e1,.inr<|.inl ⟨_,_,_,_,rfl,rfl,aP.of jQ,rfl,?_⟩⟩
   ·refine V' (n+m) _ U.dropLast ps.dropLast cm.upd aw (dn.dropLast.mono<|cm.upd.eg hc) (by rw[zbH];lia) ?_
    unfold eU;rw[e3]
  |put s=>exact V' n H U ps (λb o e _=>e) hc dn hl (by unfold eU;rw[e3])
  |cut s=>exact V' n H U ps (λb o e _=>e) hc dn hl (by unfold eU;rw[e3])
 ·have e0:ps=[]:=by
   have:¬(0:Int) < (U.length:Int):=λz=>h (zqT z);exact zaD.mp (by lia)
  exact V' n H U ps (λb o e _=>e) hc dn hl (by rw[e0];rfl)
abbrev NS:=List Pt×ac×ac
def dP:NS->Pt->NS
 |(ch,p,c),.put s=>(ch,p++[s],c)
 |(ch,p,c),.cut s=>(ch,p,c++[s])
 |(ch,p,c),.keep n=>if 0<n then (eU (dZ ch p c) n,[],[]) else (ch,p,c)
def ke(ps:List Pt):List Pt:=let s:=ps.foldl dP ([],[],[]);dZ s.1 s.2.1 s.2.2
def iz:Pt->Nat|.keep _=>0|.put s=>s.length|.cut s=>s.length
def bg(ps:List Pt):Nat:=(ps.map iz).sum
theorem acb(ps:List Pt)(i:Nat):bg (ps.take i)<=bg ps:=by
 have:bg ps=bg (ps.take i)+bg (ps.drop i):=by
  unfold bg;rw[<-List.sum_append,<-zay,zaU]
 lia
theorem acd{ps:List Pt}{p:Pt}(h:ps[i]?=some p):bg (ps.take<|i+1)=bg (ps.take i)+iz p:=by
 rw[WP,h]
 simp[bg]
theorem ace{α β:Type}{f:β->α->β}{b:β}{l:List α}{i:Nat}{p:α}(h:l[i]?=some p):(l.take<|i+1).foldl f b=f ((l.take i).foldl f b) p:=by
 rw[WP,h,List.foldl_append]
 rfl
theorem NQ(I:Str->Pt)(x:Str):(txt I x).length<=1:=by unfold txt;split<;>simp
theorem Ax(ch:List Pt)(p c:ac):(dZ ch p c).length<=ch.length+2:=by
 unfold dZ;have:=NQ .put (cat p);have:=NQ .cut (cat c)
 simp only[zqA]
 lia
theorem NR(ch:List Pt)(n:Int):(eU ch n).length<=ch.length+1:=by
 unfold eU
 split
 ·simp only[zqA,zbH,zbG];lia
 ·simp
abbrev acf:le:=[("add_texts",NN),("add_keep",NP)]
inductive uK(B:be)(H:Hp)(Q:VK)(E:XK):Prop|i(a U ps:_)(_:B=[.ref a])(_:H a=some (.lst U))(_:bh H U ps)(_:ps.length<=200000)(_:bg ps<=100000)(_:∀b Y ys,au H Y->H b=none->Y b=some (.lst ys)->bh Y ys (ke ps)->Q (.ref b) Y)
inductive NT (a c:wl)(H:Hp)(ps:List Pt)(i:Nat)(N:St)(H2:Hp):Prop|i(p q:wl)(ch:List Pt)(cY dr:ac)(n6:be)(w x:sK)(_:N=[some<|.ref a,some<|.ref c,some<|.ref p,some<|.ref q,w,x])(_:H p=none)(_:H q=none)(_:p≠c)(_:q≠c)(_:p≠q)(_:au H H2)(_:H2 c=some (.lst n6))(_:bh H2 n6 ch)(_:H2 p=some (.lst<|cY.map .str))(_:H2 q=some (.lst<|dr.map .str))(_:(ps.take i).foldl dP ([],[],[])=(ch,cY,dr))(_:ch.length<=3*i)(_:cY.length<=i)(_:dr.length<=i)(_:sz cY+sz dr<=bg (ps.take i)):NT a c H ps i N H2
theorem acg{K:Frag}(B:be)(H:Hp)(Q:VK)(E:XK)(h:uK B H Q E):aB (aR K acf [] (E:=E)) KI {nx:=λ_ Y=>Q .av Y,rt:=Q} (start KH B) H:=by
 obtain⟨a,U,ps,rfl,ha,dn,hl,ht,k⟩:=h;have hlen:=Db dn;refine⟨zqZ _,λc hc=>⟨zqZ _,λp0 w9=>⟨zqZ _,λq0 uL=>?_⟩⟩⟩;have EE:c≠p0:=λz=>by rw[<-z,aw] at w9;cases w9
 have NU:c≠q0:=λz=>by rw[<-z,aC EE,aw] at uL;cases uL
 have NV:p0≠q0:=λz=>by rw[<-z,aw] at uL;cases uL
 have s0:au H (upd (upd (upd H c<|.lst []) p0<|.lst []) q0<|.lst []):=(sameNew hc).trans ((sameNew w9).trans<|sameNew uL);have fp0:H p0=none:=(sameNew hc).free w9;have my:H q0=none:=((sameNew hc).trans<|sameNew w9).free uL;refine⟨_,rfl,a,rfl,⟨_,aE.of (s0 _ _ ha)⟩,m4 (K:=K) (a:=a) (xs:=U) (NT a c H ps)
  ⟨p0,q0,[],[],[],[],none,none,rfl,fp0,my,EE.symm,NU.symm,NV,s0,(by rw[aC NU,aC EE,aw]),.nil,(by rw[aC NV,aw];rfl),aw,rfl,by simp,by simp,by simp,by simp[sz]⟩
  (λi N H2 _ ⟨_,_,_,_,_,_,_,_,_,_,_,_,_,_,s2,_,_,_,_,_,_,_,_,_⟩=>aE.of (s2 _ _ ha)) ?_ ?_⟩
 ·rintro i x N H2 hi ⟨p,q,ch,cY,dr,n6,w,x',rfl,fp,fq,pc,qc,pq,s2,uM,cx,pV,pW,ef,l1,l2,l3,l4⟩;obtain⟨pt,lG,lF⟩:=dn.get hi;obtain⟨b,rfl,hb⟩:=lF.mono (cB s2);have ip:i<ps.length:=(zat.mp lG).1;have Ay:(ps.take<|i+1).foldl dP ([],[],[])=dP (ch,cY,dr) pt:=by rw[ace lG,ef]
  have et:=acd lG;have tb:=acb ps i;refine⟨b,_,rfl,.inl<|aP.of hb,rfl,_,_,rfl,_,_,rfl,rfl,?_⟩;cases pt with
  |put s=>
   refine⟨_,rfl,_,rfl,_,rfl,.inl ⟨rfl,_,aE.of pV⟩,_,rfl,_,pV,gb (by rw[zaf];lia),?_⟩
   have bt:cm p H2 (upd H2 p<|.lst<|cY.map V.str++[.str s]):=cm.upd;refine⟨p,q,ch,cY++[s],dr,n6,_,_,rfl,fp,fq,pc,qc,pq,nY s2 fp bt,bt _ _ uM pc.symm,cx.mono<|bt.eg pV,(by rw[aw,zay];rfl),bt _ _ pW pq.symm,Ay,by lia,by simp;lia,by lia,?_⟩
   rw[NM,et];show sz cY+(s.length+0)+sz dr<=bg (ps.take i)+s.length;lia
  |cut s=>
   refine⟨_,rfl,_,rfl,_,rfl,_,rfl,_,rfl,.inl ⟨rfl,_,aE.of pW⟩,_,rfl,_,pW,gb (by rw[zaf];lia),?_⟩
   have bt:cm q H2 (upd H2 q<|.lst<|dr.map V.str++[.str s]):=cm.upd;refine⟨p,q,ch,cY,dr++[s],n6,_,_,rfl,fp,fq,pc,qc,pq,nY s2 fq bt,bt _ _ uM qc.symm,cx.mono<|bt.eg pW,bt _ _ pV pq,(by rw[aw,zay];rfl),Ay,by lia,by lia,by simp;lia,?_⟩
   rw[NM,et];show sz cY+(sz dr+(s.length+0))<=bg (ps.take i)+s.length;lia
  |keep n=>
   refine⟨_,rfl,_,rfl,_,rfl,_,rfl,_,rfl,trivial,_,rfl,?_⟩;refine kR (λh=>?_)<|λh=>?_
   ·have hn:0<n:=IO h;have e2:dP (ch,cY,dr) (.keep n)=(eU (dZ ch cY dr) n,[],[]):=BT hn;refine⟨_,rfl,_,rfl,_,rfl,c,p,q,n6,ch,cY,dr,rfl,uM,cx,pV,pW,by lia,by lia,by lia,λH3 pU b3 Az uN=>?_⟩
    have s3:au H H3:=nY s2 hc b3;refine⟨zqZ _,λp1 dD=>⟨zqZ _,λq1 gQ=>?_⟩⟩;have EF:c≠p1:=aO Az dD;have NW:upd H3 p1 (.lst []) c=some (.lst pU):=by rw[aC EF];exact Az
    have EG:c≠q1:=aO NW gQ;have NX:p1≠q1:=λz=>by rw[<-z,aw] at gQ;cases gQ
    have h5c:upd (upd H3 p1<|.lst []) q1 (.lst []) c=some (.lst pU):=by rw[aC EG];exact NW
    have s5:au H3 (upd (upd H3 p1<|.lst []) q1<|.lst []):=(sameNew dD).trans (sameNew gQ);refine⟨_,rfl,_,rfl,c,n,pU,_,rfl,h5c,uN.mono<|cB s5,?_,λH6 jR b6 gA AD=>?_⟩
    ·have:=Ax ch cY dr;lia
    ·refine⟨p1,q1,_,[],[],jR,_,_,rfl,s3.free dD,(s3.trans<|sameNew dD).free gQ,EF.symm,EG.symm,NX,nY (s3.trans s5) hc b6,gA,AD,b6 _ _ (by rw[aC NX,aw];rfl) EF.symm,b6 _ _ (by rw[aw];rfl) EG.symm,Ay.trans e2,?_,by simp,by simp,by simp[sz]⟩
     have:=Ax ch cY dr;have:=NR (dZ ch cY dr) n;lia
   ·have hn:¬0<n:=λz=>h (zqT z);have e2:dP (ch,cY,dr) (.keep n)=(ch,cY,dr):=AT hn;refine⟨p,q,ch,cY,dr,n6,_,_,rfl,fp,fq,pc,qc,pq,s2,uM,cx,pV,pW,Ay.trans e2,by lia,by lia,by lia,by lia⟩
 ·rintro N H2 ⟨p,q,ch,cY,dr,n6,w,x',rfl,fp,fq,pc,qc,pq,s2,uM,cx,pV,pW,ef,l1,l2,l3,l4⟩;have e:ps.take U.length=ps:=zaM (by lia)
  rw[e] at ef l4;refine⟨_,rfl,_,rfl,_,rfl,c,p,q,n6,ch,cY,dr,rfl,uM,cx,pV,pW,by lia,by lia,by lia,λH3 pU b3 Az uN=>?_⟩
  refine⟨_,rfl,k c H3 pU (nY s2 hc b3) hc Az ?_⟩;unfold ke;rw[ef];exact uN
def lH:Pt->Prop|.keep n=>0<=n|.put s=>good s/\s.length<=100000|.cut s=>good s/\s.length<=100000
abbrev Row:=Str×Str×Int
abbrev ut:=List Row
def b_:ut×Row->Pt->ut×Row
 |(pre,r),.keep n=>(pre,(r.1,r.2.1,r.2.2+n))
 |(pre,r),.put s=>if s="" then (pre,r) else if 0<r.2.2 then (pre++[r],(Str.ofString ""++s,"",0)) else (pre,(r.1++s,r.2.1,r.2.2))
 |(pre,r),.cut s=>if s="" then (pre,r) else if 0<r.2.2 then (pre++[r],("",Str.ofString ""++s,0)) else (pre,(r.1,r.2.1++s,r.2.2))
def iA(r:Row):List Pt:=txt .put r.1++txt .cut r.2.1++(if r.2.2=0 then [] else [.keep r.2.2])
def dE(rows:ut):List Pt:=(rows.map iA).flatten
def acj(ps:List Pt):ut:=let s:=ps.foldl b_ ([],("","",0));s.1++[s.2]
def pX(ps:List Pt):List Pt:=dE (acj ps)
abbrev Dn(Q:VK):Ends:={nx:=λ_ Y=>Q .av Y,rt:=Q}
abbrev bP(sp:Sp)(J:XK->aS)(b:ci)(N0:ac):Prop:= ∀B H Q E,sp B H Q E->aB (J E) b (Dn Q) (start N0 B) H
theorem n_(x y:Str):(x++y).length=x.length+y.length:=by rw[len_list,app_list,zqA,<-len_list,<-len_list]
theorem AE(a b:ut):dE (a++b)=dE a++dE b:=by simp[dE]
theorem w_(r:Row):dE [r]=iA r:=by simp[dE]
theorem EH{r:Row}(h:0<r.2.2):iA r=txt .put r.1++txt .cut r.2.1++[.keep r.2.2]:=by
 unfold iA;rw[AT (by lia)]
theorem NY{r:Row}(h:r.2.2=0):iA r=txt .put r.1++txt .cut r.2.1:=by
 unfold iA;rw[BT h,zac]
def NZ:Pt->xz|.keep _=>true|_=>false
theorem ack{ch:List Pt}{n:Int}(h:∀p,ch.getLast?=some p->NZ p=false):eU ch n=ch++[.keep n]:=by
 unfold eU
 split
 ·rename_i m e
  have:=h _ e;cases this
 ·rfl
theorem acm(ch:List Pt)(m n:Int):eU (ch++[.keep m]) n=ch++[.keep<|n+m]:=by
 unfold eU;rw[zbL]
 simp
theorem txt_nil(I:Str->Pt):txt I ""=[]:=BT rfl
theorem kf{I:Str->Pt}{x:Str}(h:x≠""):txt I x=[I x]:=AT h
theorem acn{pre:ut}{r:Row}(h:pre≠ []->r.1≠""\/r.2.1≠""):∀p,(dE pre++txt .put r.1++txt .cut r.2.1).getLast?=some p->NZ p=false:=by
 intro p hp;by_cases h2:r.2.1=""
 ·rw[h2,txt_nil,zac] at hp;by_cases h1:r.1=""
  ·rw[h1,txt_nil,zac] at hp;by_cases j5:pre=[]
   ·rw[j5] at hp
    simp[dE] at hp
   ·rcases h j5 with z|z
    ·exact absurd h1 z
    ·exact absurd h2 z
  ·rw[kf h1,zbL] at hp
   simp at hp;subst hp;rfl
 ·rw[kf h2,zbL] at hp
  simp at hp;subst hp;rfl
def Rel(s:NS)(t:ut×Row):Prop:=
 (∀x∈t.1,0<x.2.2)/\(t.1≠ []->t.2.1≠""\/t.2.2.1≠"")/\0<=t.2.2.2/\
  ((t.2.2.2=0/\s.1=dE t.1/\cat s.2.1=t.2.1/\cat s.2.2=t.2.2.1)\/(0<t.2.2.2/\s.1=dE (t.1++[t.2])/\cat s.2.1=""/\cat s.2.2=""))
theorem pY(a:ac)(s:Str):cat (a++[s])=cat a++s:=by rw[EB,EC]
theorem aco{s:NS}{t:ut×Row}{p:Pt}(R:Rel s t)(hp:lH p):Rel (dP s p) (b_ t p):=by
 obtain⟨ch,pu,cu⟩:=s;obtain⟨pre,r⟩:=t;obtain⟨r1,r2,r3,r4⟩:=R
 simp only at r1 r2 r3 r4
 cases p with
 |keep n=>
  have AG:0<=n:=hp;by_cases hn:0<n
  ·have e1:dP (ch,pu,cu) (.keep n)=(eU (dZ ch pu cu) n,[],[]):=BT hn;rw[e1];refine⟨r1,r2,by show 0<=r.2.2+n;lia,.inr ⟨by show 0<r.2.2+n;lia,?_,rfl,rfl⟩⟩
   show eU (dZ ch pu cu) n=dE (pre++[(r.1,r.2.1,r.2.2+n)]);rw[AE,w_,EH (r:=(r.1,r.2.1,r.2.2+n)) (by show 0<r.2.2+n;lia)]
   rcases r4 with⟨k0,e2,e3,e4⟩|⟨k0,e2,e3,e4⟩
   ·have ea:dZ ch pu cu=dE pre++txt .put r.1++txt .cut r.2.1:=by unfold dZ;rw[e2,e3,e4]
    rw[ea,ack<|acn r2];show _=dE pre++(txt .put r.1++txt .cut r.2.1++[.keep<|r.2.2+n]);rw[k0,Int.zero_add];simp
   ·have ea:dZ ch pu cu=dE pre++(txt .put r.1++txt .cut r.2.1)++[.keep r.2.2]:=by
     unfold dZ;rw[e2,e3,e4,txt_nil,txt_nil,zac,zac,AE,w_,EH k0];simp
    rw[ea,acm];show _=dE pre++(txt .put r.1++txt .cut r.2.1++[.keep<|r.2.2+n]);rw[Int.add_comm n];simp
  ·have e0:n=0:=by lia
   have e1:dP (ch,pu,cu) (.keep n)=(ch,pu,cu):=AT hn;have e2:b_ (pre,r) (.keep n)=(pre,r):=by show(pre,(r.1,r.2.1,r.2.2+n))=_;rw[e0,Int.add_zero]
   rw[e1,e2];exact⟨r1,r2,r3,r4⟩
 |put x=>
  show Rel (ch,pu++[x],cu) (b_ (pre,r)<|.put x);by_cases hx:x=""
  ·have e2:b_ (pre,r) (.put x)=(pre,r):=BT hx;rw[e2];refine⟨r1,r2,r3,?_⟩;have e:cat (pu++[x])=cat pu:=by rw[pY,hx];exact NL _
   show _\/_
   simp only[e]
   exact r4
  ·by_cases hk:0<r.2.2
   ·have e2:b_ (pre,r) (.put x)=(pre++[r],((Str.ofString ""++x,Str.ofString "",0):Row)):=by show(if x="" then _ else if 0<r.2.2 then _ else _)=_;rw[AT hx,BT hk]
    rw[e2];rcases r4 with⟨k0,_⟩|⟨_,e5,e3,e4⟩
    ·lia
    ·refine⟨λy hy=>?_,λ_=>.inl (by rw[uI];exact hx),zaI _,.inl ⟨rfl,e5,?_,e4⟩⟩
     ·rcases zak.mp hy with z|z
      ·exact r1 y z
      ·rw[zag.mp z];exact hk
     ·show cat (pu++[x])=_;rw[pY,e3]
   ·have e2:b_ (pre,r) (.put x)=(pre,(r.1++x,r.2.1,r.2.2)):=by show(if x="" then _ else if 0<r.2.2 then _ else _)=_;rw[AT hx,AT hk]
    rw[e2];rcases r4 with⟨k0,e5,e3,e4⟩|⟨k0,_⟩
    ·refine⟨r1,λ_=>.inl ?_,r3,.inl ⟨k0,e5,?_,e4⟩⟩
     ·intro z;have:=Cl Str.length z;rw[n_] at this;have l0:(Str.ofString "").length=0:=rfl;rw[l0] at this;have pZ:x.length=0:=by lia
      exact hx<|gP (by rw[len_list] at pZ;rw[zaD.mp pZ];rfl)
     ·show cat (pu++[x])=_;rw[pY,e3]
    ·lia
 |cut x=>
  show Rel (ch,pu,cu++[x]) (b_ (pre,r)<|.cut x);by_cases hx:x=""
  ·have e2:b_ (pre,r) (.cut x)=(pre,r):=BT hx;rw[e2];refine⟨r1,r2,r3,?_⟩;have e:cat (cu++[x])=cat cu:=by rw[pY,hx];exact NL _
   show _\/_
   simp only[e]
   exact r4
  ·by_cases hk:0<r.2.2
   ·have e2:b_ (pre,r) (.cut x)=(pre++[r],((Str.ofString "",Str.ofString ""++x,0):Row)):=by show(if x="" then _ else if 0<r.2.2 then _ else _)=_;rw[AT hx,BT hk]
    rw[e2];rcases r4 with⟨k0,_⟩|⟨_,e5,e3,e4⟩
    ·lia
    ·refine⟨λy hy=>?_,λ_=>.inr (by rw[uI];exact hx),zaI _,.inl ⟨rfl,e5,e3,?_⟩⟩
     ·rcases zak.mp hy with z|z
      ·exact r1 y z
      ·rw[zag.mp z];exact hk
     ·show cat (cu++[x])=_;rw[pY,e4]
   ·have e2:b_ (pre,r) (.cut x)=(pre,(r.1,r.2.1++x,r.2.2)):=by show(if x="" then _ else if 0<r.2.2 then _ else _)=_;rw[AT hx,AT hk]
    rw[e2];rcases r4 with⟨k0,e5,e3,e4⟩|⟨k0,_⟩
    ·refine⟨r1,λ_=>.inr ?_,r3,.inl ⟨k0,e5,e3,?_⟩⟩
     ·intro z;have:=Cl Str.length z;rw[n_] at this;have l0:(Str.ofString "").length=0:=rfl;rw[l0] at this;have pZ:x.length=0:=by lia
      exact hx<|gP (by rw[len_list] at pZ;rw[zaD.mp pZ];rfl)
     ·show cat (cu++[x])=_;rw[pY,e4]
    ·lia
theorem N1:∀(ps:List Pt) (s:NS) (t:ut×Row),Rel s t->(∀p∈ps,lH p)->Rel (ps.foldl dP s) (ps.foldl b_ t)
 |[],s,t,R,_=>R
 |p::r,s,t,R,h=>N1 r _ _ (aco R<|h p zas) λq hq=>h q (zar _ hq)
theorem acp(ps:List Pt)(h:∀p∈ps,lH p):Rel (ps.foldl dP ([],[],[])) (ps.foldl b_ ([],((Str.ofString "",Str.ofString "",0):Row))):=
 N1 ps _ _ ⟨(λx hx=>by cases hx),λz=>absurd rfl z,zaI _,.inl ⟨rfl,rfl,rfl,rfl⟩⟩ h
theorem acq(ps:List Pt)(h:∀p∈ps,lH p):ke ps=pX ps:=by
 obtain⟨r1,r2,r3,r4⟩:=acp ps h;show dZ _ _ _=dE (_++[_]);generalize ps.foldl dP ([],[],[])=s at r4⊢;generalize ps.foldl b_ ([],((Str.ofString "",Str.ofString "",0):Row))=t at r1 r2 r3 r4⊢;unfold dZ;rcases r4 with⟨k0,e5,e3,e4⟩|⟨k0,e5,e3,e4⟩
 ·rw[e5,e3,e4,AE,w_,NY k0];simp
 ·rw[e5,e3,e4,txt_nil,txt_nil];simp
def sg(x:Str):Prop:= ∀c∈x.cps.toList,SG.cps.contains c=true
theorem AH{x:Str}(a:sg x)(b:sg y):sg (x++y):=λc hc=>by
 rw[app_list] at hc;rcases zak.mp hc with z|z
 ·exact a c z
 ·exact b c z
theorem p6:sg (Str.ofString ""):=λc hc=>by cases hc
def lI(r:Row):Nat:=r.1.length+r.2.1.length
structure RI (n:Nat) (t:ut×Row):Prop where
 pos:∀x∈t.1,0<x.2.2
 nn:0<=t.2.2.2
 s1:∀x∈t.1++[t.2],sg x.1/\sg x.2.1
 tl:∀x∈ (t.1++[t.2]).tail,x.1≠""\/x.2.1≠""
 bg:((t.1++[t.2]).map lI).sum=n
theorem N2{x:Str}(h:x≠""):x++y≠"":=λz=>by
 have:=Cl Str.length z;rw[n_] at this;have l0:(Str.ofString "").length=0:=rfl;rw[l0] at this;have pZ:x.length=0:=by lia
 exact h<|gP (by rw[len_list] at pZ;rw[zaD.mp pZ];rfl)
theorem N3{α:Type}(l:List α)(a:α):(l++[a]).tail=if l=[] then [] else l.tail++[a]:=by
 cases l with
 |nil=>rfl
 |cons b r=>simp
theorem EI{n m:Nat}{pre:ut}{r r':Row}(I0:RI n (pre,r))(h0:0<=r'.2.2)(h1:sg r'.1/\sg r'.2.1)(h2:(r.1≠""->r'.1≠"")/\(r.2.1≠""->r'.2.1≠""))(h3:lI r'=lI r+m):RI (n+m) (pre,r'):=by
 refine⟨I0.pos,h0,λx hx=>?_,λx hx=>?_,?_⟩
 ·rcases zak.mp hx with z|z
  ·exact I0.s1 x (zaQ _ z)
  ·rw[zag.mp z];exact h1
 ·have t1:=I0.tl
  simp only at t1 hx
  rw[N3] at hx t1;by_cases hp:pre=[]
  ·rw[BT hp] at hx;cases hx
  ·rw[AT hp] at hx t1;rcases zak.mp hx with z|z
   ·exact t1 x (zaQ _ z)
   ·rw[zag.mp z];rcases t1 r (by simp) with q|q
    ·exact .inl (h2.1 q)
    ·exact .inr (h2.2 q)
 ·have:=I0.bg
  simp only[zay,List.sum_append,zaA,zbb,zaP,List.sum_nil] at this⊢
  lia
theorem N4{n m:Nat}{pre:ut}{r r':Row}(I0:RI n (pre,r))(hk:0<r.2.2)(h0:0<=r'.2.2)(h1:sg r'.1/\sg r'.2.1)(h2:r'.1≠""\/r'.2.1≠"")(h3:lI r'=m):RI (n+m) (pre++[r],r'):=by
 refine⟨λx hx=>?_,h0,λx hx=>?_,λx hx=>?_,?_⟩
 ·rcases zak.mp hx with z|z
  ·exact I0.pos x z
  ·rw[zag.mp z];exact hk
 ·rcases zak.mp hx with z|z
  ·exact I0.s1 x z
  ·rw[zag.mp z];exact h1
 ·have t1:=I0.tl
  simp only at t1 hx
  rw[N3,AT (by simp)] at hx
  rcases zak.mp hx with z|z
  ·exact t1 x z
  ·rw[zag.mp z];exact h2
 ·have:=I0.bg
  simp only[zay,List.sum_append,zaA,zbb,zaP,List.sum_nil] at this⊢
  lia
theorem acr{n:Nat}{t:ut×Row}{p:Pt}(I0:RI n t)(hp:lH p):RI (n+iz p) (b_ t p):=by
 obtain⟨pre,r⟩:=t;have hs:=I0.s1 r (by simp)
 have N5:0<=r.2.2:=I0.nn;have e0:(Str.ofString "").length=0:=rfl;cases p with
 |keep m=>exact EI I0 (by show 0<=r.2.2+m;have:0<=m:=hp;lia) hs ⟨λz=>z,λz=>z⟩ rfl
 |put x=>
  have gx:sg x:=hp.1.2;by_cases hx:x=""
  ·have e2:b_ (pre,r) (.put x)=(pre,r):=BT hx;have e3:iz (.put x)=0:=by show x.length=0;rw[hx];rfl
   rw[e2,e3];exact I0
  ·by_cases hk:0<r.2.2
   ·have e2:b_ (pre,r) (.put x)=(pre++[r],((Str.ofString ""++x,Str.ofString "",0):Row)):=by show(if x="" then _ else if 0<r.2.2 then _ else _)=_;rw[AT hx,BT hk]
    rw[e2];refine N4 I0 hk (zaI _) ⟨AH p6 gx,p6⟩ (.inl (by rw[uI];exact hx)) ?_
    show(Str.ofString ""++x).length+(Str.ofString "").length=x.length;rw[n_,e0];lia
   ·have e2:b_ (pre,r) (.put x)=(pre,(r.1++x,r.2.1,r.2.2)):=by show(if x="" then _ else if 0<r.2.2 then _ else _)=_;rw[AT hx,AT hk]
    rw[e2];refine EI I0 N5 ⟨AH hs.1 gx,hs.2⟩ ⟨N2,λz=>z⟩ ?_;show(r.1++x).length+r.2.1.length=r.1.length+r.2.1.length+x.length;rw[n_];lia
 |cut x=>
  have gx:sg x:=hp.1.2;by_cases hx:x=""
  ·have e2:b_ (pre,r) (.cut x)=(pre,r):=BT hx;have e3:iz (.cut x)=0:=by show x.length=0;rw[hx];rfl
   rw[e2,e3];exact I0
  ·by_cases hk:0<r.2.2
   ·have e2:b_ (pre,r) (.cut x)=(pre++[r],((Str.ofString "",Str.ofString ""++x,0):Row)):=by show(if x="" then _ else if 0<r.2.2 then _ else _)=_;rw[AT hx,BT hk]
    rw[e2];refine N4 I0 hk (zaI _) ⟨p6,AH p6 gx⟩ (.inr (by rw[uI];exact hx)) ?_
    show(Str.ofString "").length+(Str.ofString ""++x).length=x.length;rw[n_,e0];lia
   ·have e2:b_ (pre,r) (.cut x)=(pre,(r.1,r.2.1++x,r.2.2)):=by show(if x="" then _ else if 0<r.2.2 then _ else _)=_;rw[AT hx,AT hk]
    rw[e2];refine EI I0 N5 ⟨hs.1,AH hs.2 gx⟩ ⟨λz=>z,N2⟩ ?_;show r.1.length+(r.2.1++x).length=r.1.length+r.2.1.length+x.length;rw[n_];lia
theorem EJ:∀(ps:List Pt) (n:Nat) (t:ut×Row),RI n t->(∀p∈ps,lH p)->RI (n+bg ps) (ps.foldl b_ t)
 |[],n,t,I0,_=>I0
 |p::r,n,t,I0,h=>by
  have:=EJ r _ _ (acr I0<|h p zas) λq hq=>h q (zar _ hq);have e:n+iz p+bg r=n+bg (p::r):=by show _=n+(iz p+bg r);lia
  rw[e] at this;exact this
theorem N6{r:Row}{a:Str}{U':List Pt}(ha:a=""\/(a="keep"/\(r.1≠""\/r.2.1≠"")))(hk:0<r.2.2)(h:chainOk "keep" U'=true):chainOk a (iA r++U')=true:=by
 rw[EH hk];by_cases h1:r.1="" <;>by_cases h2:r.2.1=""
 ·rw[h1,h2,txt_nil,txt_nil];rcases ha with rfl|⟨_,z|z⟩
  ·exact h
  ·exact absurd h1 z
  ·exact absurd h2 z
 ·rw[h1,txt_nil,kf h2];rcases ha with rfl|⟨rfl,_⟩ <;>exact h
 ·rw[h2,txt_nil,kf h1];rcases ha with rfl|⟨rfl,_⟩ <;>exact h
 ·rw[kf h1,kf h2];rcases ha with rfl|⟨rfl,_⟩ <;>exact h
theorem chain_last{r:Row}{a:Str}(ha:a=""\/(a="keep"/\(r.1≠""\/r.2.1≠"")))(hk:0<=r.2.2):chainOk a (iA r)=true:=by
 by_cases h0:0<r.2.2
 ·have:=N6 (U':=[]) ha h0 rfl;rw[zac] at this;exact this
 ·rw[NY (by lia)]
  by_cases h1:r.1="" <;>by_cases h2:r.2.1=""
  ·rw[h1,h2,txt_nil,txt_nil];rfl
  ·rw[h1,txt_nil,kf h2];rcases ha with rfl|⟨rfl,_⟩ <;>rfl
  ·rw[h2,txt_nil,kf h1];rcases ha with rfl|⟨rfl,_⟩ <;>rfl
  ·rw[kf h1,kf h2];rcases ha with rfl|⟨rfl,_⟩ <;>rfl
theorem N7:∀(pre:ut) (r:Row) (a:Str),(∀x∈pre,0<x.2.2)->0<=r.2.2->(a=""\/(a="keep"/\∀x,(pre++[r]).head?=some x->x.1≠""\/x.2.1≠""))->(∀x∈ (pre++[r]).tail,x.1≠""\/x.2.1≠"")->
  chainOk a (dE<|pre++[r])=true
 |[],r,a,_,hk,ha,_=>by
  rw[List.nil_append,w_];exact chain_last (ha.imp id λ⟨x,y⟩=>⟨x,y r rfl⟩) hk
 |q::pre,r,a,hp,hk,ha,ht=>by
  have e:dE (q::pre++[r])=iA q++dE (pre++[r]):=by simp[dE]
  rw[e];refine N6 (ha.imp id λ⟨x,y⟩=>⟨x,y q rfl⟩) (hp q zas) ?_;refine N7 pre r "keep" (λx hx=>hp x<|zar _ hx) hk (.inr ⟨rfl,λx hx=>ht x ?_⟩) λx hx=>ht x (List.mem_of_mem_tail hx);show x∈pre++[r];exact List.mem_of_mem_head? hx
theorem acs{r:Row}{p:Pt}(hs:sg r.1/\sg r.2.1)(hl:lI r<=1000000)(hk:0<=r.2.2)(h:p∈iA r):bx p:=by
 unfold iA txt at h;unfold lI at hl;rcases zak.mp h with h|h
 ·rcases zak.mp h with h|h
  ·split at h
   ·cases h
   ·rename_i ne
    rw[zag.mp h];exact⟨⟨by lia,hs.1⟩,ne⟩
  ·split at h
   ·cases h
   ·rename_i ne
    rw[zag.mp h];exact⟨⟨by lia,hs.2⟩,ne⟩
 ·split at h
  ·cases h
  ·rw[zag.mp h];show 1<=r.2.2;lia
theorem acu(r:Row):bg (iA r)=lI r:=by
 have t1:∀(I:Str->Pt) (x:Str),(∀y,iz (I y)=y.length)->bg (txt I x)=x.length:=by
  intro I x h;unfold txt;by_cases e:x=""
  ·rw[BT e,e];rfl
  ·rw[AT e];show iz (I x)+0=_;rw[h,Nat.add_zero]
 have ta:∀a b:List Pt,bg (a++b)=bg a+bg b:=λa b=>by simp[bg]
 unfold iA lI;rw[ta,ta,t1 .put _ λ_=>rfl,t1 .cut _ λ_=>rfl]
 split
 ·rfl
 ·rfl
theorem EK:∀rows:ut,bg (dE rows)=(rows.map lI).sum
 |[]=>rfl
 |r::rows=>by
  have e:dE (r::rows)=iA r++dE rows:=by simp[dE]
  have ta:∀a b:List Pt,bg (a++b)=bg a+bg b:=λa b=>by simp[bg]
  rw[e,ta,acu,EK rows];rfl
theorem acv{l:ut}{x:Row}(h:x∈l):lI x<= (l.map lI).sum:=by
 induction l with
 |nil=>cases h
 |cons a l ih=>
  rw[zaA,zaP];rcases zad.mp h with rfl|h
  ·lia
  ·have:=ih h;lia
theorem acw(ps:List Pt)(h:∀p∈ps,lH p)(ht:bg ps<=100000):chainOk "" (pX ps)=true/\(∀p∈pX ps,bx p)/\bg (pX ps)<=100000:=by
 have I0:=EJ ps 0 ([],((Str.ofString "",Str.ofString "",0):Row)) ⟨(λx hx=>by cases hx),zaI _,(λx hx=>by rw[zag.mp hx];exact⟨p6,p6⟩),(λx hx=>by cases hx),rfl⟩ h
 rw[Nat.zero_add] at I0;have e:pX ps=dE ((ps.foldl b_ ([],((Str.ofString "",Str.ofString "",0):Row))).1++[(ps.foldl b_ ([],((Str.ofString "",Str.ofString "",0):Row))).2]):=rfl;rw[e];generalize ps.foldl b_ ([],((Str.ofString "",Str.ofString "",0):Row))=t at I0;refine⟨N7 t.1 t.2 "" I0.pos I0.nn (.inl rfl) I0.tl,λp hp=>?_,by rw[EK,I0.bg];exact ht⟩
 unfold dE at hp;rw[List.mem_flatten] at hp;obtain⟨l,hl,hp⟩:=hp;obtain⟨x,hx,rfl⟩:=List.mem_map.mp hl;have hle:=acv hx;rw[I0.bg] at hle;refine acs (I0.s1 x hx) (by lia) ?_ hp
 rcases zak.mp hx with z|z
 ·have:=I0.pos x z;lia
 ·rw[zag.mp z];exact I0.nn
theorem N8(ps:List Pt):(ke ps).length<=3*ps.length+2:=by
 have go:∀(l:List Pt) (s:NS),(l.foldl dP s).1.length<=s.1.length+3*l.length:=by
  intro l
  induction l with
  |nil=>intro s;simp
  |cons p l ih=>
   intro s;have h1:=ih (dP s p);have h2:(dP s p).1.length<=s.1.length+3:=by
    obtain⟨ch,pu,cu⟩:=s;cases p with
    |keep n=>
     by_cases hn:0<n
     ·have e1:dP (ch,pu,cu) (.keep n)=(eU (dZ ch pu cu) n,[],[]):=BT hn;rw[e1];have:=Ax ch pu cu;have:=NR (dZ ch pu cu) n;show(eU (dZ ch pu cu) n).length<=ch.length+3;lia
     ·have e1:dP (ch,pu,cu) (.keep n)=(ch,pu,cu):=AT hn;rw[e1];show ch.length<=ch.length+3;lia
    |put x=>show ch.length<=ch.length+3;lia
    |cut x=>show ch.length<=ch.length+3;lia
   rw[List.foldl_cons,zaz];lia
 have h1:=go ps ([],[],[]);have h2:=Ax (ps.foldl dP ([],[],[])).1 (ps.foldl dP ([],[],[])).2.1 (ps.foldl dP ([],[],[])).2.2;show(dZ _ _ _).length<=_
 simp only[zbt] at h1
 lia
def acx:Pt->zv|.keep n=>.int n|.put s=>.str s|.cut s=>.str s
def toD(p:Pt):zv:=.tuple [.str p.word,acx p]
theorem N9{x:Str}(h:sg x):PyData.strOk x=true:=by
 have small:∀c,SG.cps.contains c=true->c<0x110000:=by
  have all:SG.cps.toList.all (λc=>decide<|c<0x110000)=true:=by decide+kernel
  intro c hc;have hm:c∈SG.cps.toList:=by simpa using hc
  exact IO<|zbk.mp all c hm
 unfold PyData.strOk;rw[Array.all_eq_true'];intro c hc;exact zqT<|small c<|h c (by simpa using hc)
theorem xa{H:Hp}:∀{B:be}{ps:List Pt},bh H B ps->IsL H (ps.map toD) B
 |_,_,.nil=>rfl
 |_,_,.cons (a:=v) (b:=p) ⟨a,e,h⟩ r=>by
  refine⟨v,_,rfl,?_,xa r⟩;refine⟨a,_,e,h,.str p.word,[p.val],rfl,rfl,p.val,[],rfl,?_,rfl⟩;cases p<;>rfl
def Pt.EL:Pt->Pt|.keep n=>.keep n|.put s=>.cut s|.cut s=>.put s
abbrev bi:=List Pt
def N_(ps:bi):bi:=ps.map Pt.EL
theorem acy(ps:bi)(h:∀p∈ps,lH p):RI (bg ps) (ps.foldl b_ ([],((Str.ofString "",Str.ofString "",0):Row))):=by
 have I0:=EJ ps 0 ([],((Str.ofString "",Str.ofString "",0):Row)) ⟨(λx hx=>by cases hx),zaI _,(λx hx=>by rw[zag.mp hx];exact⟨p6,p6⟩),(λx hx=>by cases hx),rfl⟩ h
 rwa [Nat.zero_add] at I0
theorem acz{p:Pt}(h:bx p)(ht:iz p<=100000):lH p:=by
 cases p with
 |keep n=>exact Int.le_trans (by decide) (show(1:Int)<=n from h)
 |put s=>exact⟨h.1,ht⟩
 |cut s=>exact⟨h.1,ht⟩
theorem acA{ps:bi}{p:Pt}(h:p∈ps):iz p<=bg ps:=by
 induction ps with
 |nil=>cases h
 |cons q ps ih=>
  have e:bg (q::ps)=iz q+bg ps:=by simp[bg]
  rw[e];rcases zad.mp h with rfl|h
  ·lia
  ·have:=ih h;lia
theorem acB{ps:bi}(h:∀p∈ps,bx p)(ht:bg ps<=100000):∀p∈ps,lH p:=λp hp=>acz (h p hp) (zap (acA hp) ht)
inductive Run:bn->bi->bn->Prop
 |nil:Run [] [] []
 |keep {a l r:bn}{n:Int}{ps:bi}:n=a.length->Run l ps r->Run (a++l) (.keep n::ps) (a++r)
 |put {s:Str}{l r:bn}{ps:bi}:Run l ps r->Run l (.put s::ps) (s.cps.toList++r)
 |cut {s:Str}{l r:bn}{ps:bi}:Run l ps r->Run (s.cps.toList++l) (.cut s::ps) r
theorem Run.EL{l r:bn}{ps:bi}(h:Run l ps r):Run r (N_ ps) l:=by
 induction h with
 |nil=>exact .nil
 |keep e _ ih=>exact .keep e ih
 |put _ ih=>exact .cut ih
 |cut _ ih=>exact .put ih
theorem Run.app{l l' r r':bn}{ps qs:bi}(h:Run l ps r)(h':Run l' qs r'):Run (l++l') (ps++qs) (r++r'):=by
 induction h with
 |nil=>exact h'
 |keep e _ ih=>rw[zam,zam];exact .keep e ih
 |put _ ih=>rw[zam];exact .put ih
 |cut _ ih=>rw[zam];exact .cut ih
theorem Run.over{l r:bn}{ps:bi}(h:Run l ps r):(overOf ps).sum=l.length:=by
 induction h with
 |nil=>rfl
 | @keep a l r n ps e _ ih=>
  have e2:overOf (.keep n::ps)=n::overOf ps:=rfl;rw[e2,zaP,ih,e,zqA]
  simp
 | @put s l r ps _ ih=>
  have e2:overOf (.put s::ps)=overOf ps:=rfl;rw[e2,ih]
 | @cut s l r ps _ ih=>
  have e2:overOf (.cut s::ps)=(s.length:Int)::overOf ps:=rfl;rw[e2,zaP,ih,zqA,len_list]
  simp
def r_(r:Row)(l q:bn):Prop:= ∃k:bn,r.2.2=k.length/\l=r.2.1.cps.toList++k/\q=r.1.cps.toList++k
inductive oa:ut->bn->bn->Prop
 |nil:oa [] [] []
 |snoc {rs:ut}{r:Row}{l q l' q':bn}:oa rs l q->r_ r l' q'->oa (rs++[r]) (l++l') (q++q')
theorem Oa:Run [] (txt .put s) s.cps.toList:=by
 by_cases h:s=""
 ·rw[h,txt_nil];exact .nil
 ·rw[kf h];have:=Run.put (s:=s) Run.nil
  rwa [zac] at this
theorem acC:Run s.cps.toList (txt .cut s) []:=by
 have:=(Oa (s:=s)).EL;have e:N_ (txt .put s)=txt .cut s:=by
  unfold txt;split<;>rfl
 rwa [e] at this
theorem r_.run{r:Row}{l q:bn}(h:r_ r l q):Run l (iA r) q:=by
 obtain⟨k,hk,rfl,rfl⟩:=h;have h3:Run k (if r.2.2=0 then [] else [.keep r.2.2]) k:=by
  split
  ·rename_i h
   have:k=[]:=zaD.mp (by lia)
   rw[this];exact .nil
  ·have:=Run.keep (a:=k) hk Run.nil
   rwa [zac] at this
 have:=((Oa (s:=r.1)).app<|acC (s:=r.2.1)).app h3
 simpa[iA] using this
theorem oa.run{rs:ut}{l q:bn}(h:oa rs l q):Run l (dE rs) q:=by
 induction h with
 |nil=>exact .nil
 |snoc _ h2 ih=>rw[AE,w_];exact ih.app h2.run
def One:Pt->bn->bn->Prop
 |.keep n,l,q=>l=q/\n=l.length
 |.put s,l,q=>l=[]/\q=s.cps.toList
 |.cut s,l,q=>l=s.cps.toList/\q=[]
theorem Ob{p:Pt}{l q:bn}{ps:bi}(h:Run l (p::ps) q):∃l1 l2 q1 q2,l=l1++l2/\q=q1++q2/\Run l2 ps q2/\
  One p l1 q1:=by
 cases h with
 |keep e h=>exact⟨_,_,_,_,rfl,rfl,h,rfl,e⟩
 |put h=>exact⟨[],_,_,_,rfl,rfl,h,rfl,rfl⟩
 |cut h=>exact⟨_,_,[],_,rfl,rfl,h,rfl,rfl⟩
theorem acD{pre:ut}{r:Row}{p:Pt}{l0 q0 l1 q1 l2 q2:bn}(h0:oa pre l0 q0)(h1:r_ r l1 q1)
  (hp:One p l2 q2):
  ∃sf sh si mj,oa (b_ (pre,r) p).1 sf sh/\r_ (b_ (pre,r) p).2 si mj/\l0++l1++l2=sf++si/\q0++q1++q2=sh++mj:=by
 cases p with
 |keep n=>
  obtain⟨rfl,rfl⟩:=hp;obtain⟨k,hk,rfl,rfl⟩:=h1;refine⟨l0,q0,_,_,h0,⟨k++l2,?_,rfl,rfl⟩,by simp[b_],by simp[b_]⟩
  show r.2.2+(l2.length:Int)=_;rw[hk,zqA];simp
 |put s=>
  obtain⟨rfl,rfl⟩:=hp;by_cases hs:s=""
  ·have e:b_ (pre,r) (.put s)=(pre,r):=by simp only[b_,BT hs]
   rw[e];refine⟨l0,q0,l1,q1,h0,h1,by simp,?_⟩
   rw[hs];show q0++q1++(Str.ofString "").cps.toList=_;rw[ofString_empty];simp
  ·by_cases hk:0<r.2.2
   ·have e:b_ (pre,r) (.put s)=(pre++[r],((Str.ofString ""++s,"",0):Row)):=by simp only[b_,AT hs,BT hk]
    rw[e];refine⟨_,_,[],s.cps.toList,h0.snoc h1,⟨[],rfl,rfl,?_⟩,by simp,by simp⟩
    show s.cps.toList=(Str.ofString ""++s).cps.toList++[];rw[uI];simp
   ·have e:b_ (pre,r) (.put s)=(pre,(r.1++s,r.2.1,r.2.2)):=by simp only[b_,AT hs,AT hk]
    rw[e];obtain⟨k,pE,rfl,rfl⟩:=h1;have:k=[]:=zaD.mp (by lia)
    subst this;refine⟨l0,q0,r.2.1.cps.toList,r.1.cps.toList++s.cps.toList,h0,⟨[],pE,by simp,by simp[app_list]⟩,by simp,by simp⟩
 |cut s=>
  obtain⟨rfl,rfl⟩:=hp;by_cases hs:s=""
  ·have e:b_ (pre,r) (.cut s)=(pre,r):=by simp only[b_,BT hs]
   rw[e];refine⟨l0,q0,l1,q1,h0,h1,?_,by simp⟩
   rw[hs];show l0++l1++(Str.ofString "").cps.toList=_;rw[ofString_empty];simp
  ·by_cases hk:0<r.2.2
   ·have e:b_ (pre,r) (.cut s)=(pre++[r],(("",Str.ofString ""++s,0):Row)):=by simp only[b_,AT hs,BT hk]
    rw[e];refine⟨_,_,s.cps.toList,[],h0.snoc h1,⟨[],rfl,?_,rfl⟩,by simp,by simp⟩
    show s.cps.toList=(Str.ofString ""++s).cps.toList++[];rw[uI];simp
   ·have e:b_ (pre,r) (.cut s)=(pre,(r.1,r.2.1++s,r.2.2)):=by simp only[b_,AT hs,AT hk]
    rw[e];obtain⟨k,pE,rfl,rfl⟩:=h1;have:k=[]:=zaD.mp (by lia)
    subst this;refine⟨l0,q0,r.2.1.cps.toList++s.cps.toList,r.1.cps.toList,h0,⟨[],pE,by simp[app_list],by simp⟩,by simp,by simp⟩
theorem Oc:∀(ps:bi) (pre:ut) (r:Row) (l0 q0 l1 q1 l2 q2:bn),oa pre l0 q0->r_ r l1 q1->Run l2 ps q2->
  ∃sf sh si mj,oa (ps.foldl b_ (pre,r)).1 sf sh/\r_ (ps.foldl b_ (pre,r)).2 si mj/\l0++l1++l2=sf++si/\q0++q1++q2=sh++mj
 |[],pre,r,l0,q0,l1,q1,l2,q2,h0,h1,h2=>by
  cases h2;exact⟨l0,q0,l1,q1,h0,h1,by simp,by simp⟩
 |p::ps,pre,r,l0,q0,l1,q1,l2,q2,h0,h1,h2=>by
  obtain⟨a,b,c,d,rfl,rfl,h3,h4⟩:=Ob h2;obtain⟨sf,sh,si,mj,g0,g1,e1,e2⟩:=acD h0 h1 h4;obtain⟨acE,acF,acG,acH,f0,f1,e3,e4⟩:=Oc ps _ _ sf sh si mj b d g0 g1 h3;refine⟨acE,acF,acG,acH,f0,f1,?_,?_⟩
  ·rw[<-e3,<-e1];simp
  ·rw[<-e4,<-e2];simp
theorem acI{ps:bi}{l q:bn}(h:Run l ps q):Run l (pX ps) q:=by
 obtain⟨l0,q0,l1,q1,h0,h1,e1,e2⟩:=Oc ps [] ("","",0) [] [] [] [] l q .nil ⟨[],rfl,rfl,rfl⟩ h;have:=(h0.snoc h1).run;rw[<-e1,<-e2] at this;exact this
inductive EM(B:be)(H:Hp)(Q:VK)(E:XK):Prop|i(x:_)(_:B=[.str x])(_:good x)(_:Q .av H)
theorem acJ{x:Str}{a b c:bn}(h:x.cps.toList=a++(b++c))(n:Int)(hn:n=b.length):j7 x (some (a.length:Int)) (some<|(a.length:Int)+n)=⟨b.toArray⟩:=by
 have e1:(a.length:Int)+n=((a.length+b.length:Nat):Int):=by rw[hn];simp
 unfold j7 mf;rw[e1,HT.oZ,HT.oZ,h];have l1:(a++(b++c)).length=a.length+(b.length+c.length):=by simp
 rw[l1];have m1:min a.length (a.length+(b.length+c.length))=a.length:=by lia
 have m2:min (a.length+b.length) (a.length+(b.length+c.length))=a.length+b.length:=by lia
 rw[m1,m2,List.drop_left,show a.length+b.length - a.length=b.length by lia,List.take_left]
theorem Od{x:Str}{a c:bn}(h:x.cps.toList=a++(s.cps.toList++c)):(decide (fromIndex x.length (a.length:Int)+s.length<=x.length) && Builtin.Str.subAt x s (fromIndex x.length (a.length:Int)))=true:=by
 have e:fromIndex x.length (a.length:Int)=a.length:=by unfold fromIndex;rw[AT (by lia)];lia
 have hl:x.length=a.length+(s.length+c.length):=by rw[len_list x,h,len_list s];simp
 rw[e,zaa,Ev];refine⟨by lia,?_⟩
 unfold Builtin.Str.subAt;rw[KB]
 apply Array.toList_inj.mp
 rw[Array.toList_extract,h,len_list s]
 simp[List.extract_eq_drop_take]
theorem AI(x:Str):(⟨x.cps.toList.toArray⟩:Str)=x:=gP rfl
abbrev acK:le:=[("need_text",EM),("sizes",kd)]
inductive mz(B:be)(H:Hp)(Q:VK)(E:XK):Prop|i(x a U ps r:_)(_:B=[.str x,.ref a])(_:good x)(_:H a=some (.lst U))(_:bh H U ps)(_:(∀p∈ps,bx p))(_:chainOk "" ps=true)(_:ps.length<=100000)(_:Run x.cps.toList ps r)(_:r.length<=1000000)(_:∀Y,au H Y->Q (.str ⟨r.toArray⟩) Y)
theorem acL{K:Frag}{et:em}(B:be)(H:Hp)(Q:VK)(E:XK)(h:mz B H Q E):aB (aR K acK [] (et:=et) (E:=E)) D8 {nx:=λ_ Y=>Q .av Y,rt:=Q} (start D7 B) H:=by
 obtain⟨x,a,U,ps,r,rfl,hx,ha,dn,aF,cx,hl,hr,hrl,q⟩:=h;have hlen:=Db dn;refine⟨_,rfl,x,rfl,hx,?_⟩;refine⟨_,rfl,a,U,ps,rfl,ha,dn,aF,cx,by lia,λt H1 s1 ht=>?_⟩
 refine .inr<|.inl ⟨_,_,_,_,rfl,rfl,aP.of ht,rfl,_,rfl,cK hx.1,_,rfl,?_⟩;rw[hr.over,<-len_list,zaE,zqT rfl];refine⟨zqZ _,λpc xb=>?_⟩;have s2:au H (upd H1 pc<|.lst []):=s1.trans (sameNew xb);have xf:H pc=none:=s1.free xb;refine⟨_,rfl,a,rfl,⟨_,aE.of (s2 _ _ ha)⟩,m4 (K:=K) (a:=a) (xs:=U) (λi N H2=>∃l1 l2 q1 q2 ts w v,N=[some (.str x),some (.ref a),some (.int ((l1.length:Nat):Int)),some (.ref pc),w,v]/\au H H2/\
   H2 pc=some (.lst (ts.map V.str))/\x.cps.toList=l1++l2/\r=q1++q2/\Run l2 (ps.drop i) q2/\(cat ts).cps.toList=q1/\ts.length<=i)
  ⟨[],x.cps.toList,[],r,[],none,none,rfl,s2,aw,rfl,rfl,hr,rfl,zqR _⟩
  (λi N H2 _ ⟨_,_,_,_,_,_,_,_,s3,_⟩=>aE.of (s3 _ _ ha)) ?_ ?_⟩
 ·rintro i y N H2 hi ⟨l1,l2,q1,q2,ts,w,v,rfl,s3,hp,e1,e2,xg,ec,tl⟩;obtain⟨pt,lG,lF⟩:=dn.get hi;obtain⟨b,rfl,hb⟩:=lF.mono (cB s3);have ip:i<ps.length:=(zat.mp lG).1;have ed:ps.drop i=pt::ps.drop (i+1):=by
   rw[zbl ip]
   congr 1
   exact zaj<|(zax ip).symm.trans lG
  rw[ed] at xg;obtain⟨la,lb,qa,qb,rfl,rfl,EN,one⟩:=Ob xg;refine⟨b,_,rfl,.inl<|aP.of hb,rfl,_,_,rfl,_,_,rfl,rfl,?_⟩;have bt:∀o,cm pc H2 (upd H2 pc o):=λo=>cm.upd;cases pt with
  |put s=>
   obtain⟨rfl,rfl⟩:=one;refine⟨_,rfl,_,rfl,_,rfl,.inl ⟨rfl,_,aE.of hp⟩,_,rfl,_,hp,gb (by rw[zaf];lia),?_⟩
   refine⟨l1,lb,q1++s.cps.toList,qb,ts++[s],_,_,rfl,nY s3 xf<|bt _,(by rw[aw,zay];rfl),by simpa using e1,by rw[e2];simp,EN,by rw[EB,EC,app_list,ec],by simp;lia⟩
  |keep n=>
   obtain⟨rfl,hn⟩:=one;refine⟨_,rfl,_,rfl,_,rfl,_,rfl,_,rfl,.inl ⟨rfl,_,aE.of hp⟩,?_⟩;refine⟨_,rfl,_,rfl,_,rfl,_,rfl,_,rfl,_,rfl,cK hx.1,?_⟩;rw[acJ e1 n hn];refine⟨_,hp,gb (by rw[zaf];lia),?_⟩
   refine⟨_,rfl,_,rfl,?_⟩;refine⟨l1++la,lb,q1++la,qb,ts++[⟨la.toArray⟩],some<|.str "keep",some<|.int n,?_,nY s3 xf<|bt _,(by rw[aw,zay];rfl),by rw[e1];simp,by rw[e2];simp,EN,by rw[EB,EC,app_list,ec],by simp;lia⟩
   show[_,_,some<|V.int<|(l1.length:Int)+n,_,_,_]=_;rw[zqA,hn,zbf]
   rfl
  |cut s=>
   obtain⟨rfl,rfl⟩:=one;refine⟨_,rfl,_,rfl,_,rfl,_,rfl,_,rfl,rfl,_,rfl,_,rfl,?_⟩;show(λc H1=>if (!c)=true then _ else _) (decide (fromIndex x.length (l1.length:Int)+s.length<=x.length) && Builtin.Str.subAt x s (fromIndex x.length (l1.length:Int))) H2
   rw[Od e1];refine⟨_,rfl,_,rfl,cK (aF _<|zaw lG).1.1,?_⟩;refine⟨l1++s.cps.toList,lb,q1,qb,ts,some<|.str "cut",some<|.str s,?_,s3,hp,by rw[e1];simp,e2,EN,ec,by lia⟩
   show[_,_,some<|V.int<|(l1.length:Int)+(s.length:Int),_,_,_]=_;rw[zqA,<-len_list,zbf]
   rfl
 ·rintro N H2 ⟨l1,l2,q1,q2,ts,w,v,rfl,s3,hp,e1,e2,xg,ec,tl⟩;rw[hlen,zbz] at xg;cases xg;rw[zac] at e2;subst e2;have hsz:sz ts<=1000000:=by
   have:=ab6 ts;rw[len_list,ec] at this;lia
  have er:(⟨r.toArray⟩:Str)=cat ts:=gP (by rw[ec])
  refine⟨rfl,_,rfl,ts,aE.of hp,joinOk_of hsz,?_⟩;have k:=q H2 s3;rw[er] at k;exact k
theorem acM(ps:bi)(h:∀p∈ps,lH p):bg (pX ps)=bg ps:=by
 have I0:=acy ps h;have e:pX ps=dE ((ps.foldl b_ ([],((Str.ofString "",Str.ofString "",0):Row))).1++[(ps.foldl b_ ([],((Str.ofString "",Str.ofString "",0):Row))).2]):=rfl;rw[e,EK,I0.bg]
theorem iX{k:Str}{r:cr}:((k,v)::r).lookup k=some v:=by simp[List.lookup]
theorem cT{k j:Str}{r:cr}(h:¬k=j):((j,v)::r).lookup k=r.lookup k:=by
 have:(k==j)=false:=by simpa using h
 simp[List.lookup,this]
theorem mB{k:Str}{w:V}{r:cr}:aI k v ((k,w)::r)=(k,v)::r:=by simp[aI]
theorem d9{k j:Str}{w:V}{r:cr}(h:¬j=k):aI k v ((j,w)::r)=(j,w)::aI k v r:=by simp[aI,h]
theorem iY{K:Frag}{sd:wl->ii->Prop}{a:wl}{i:Int}(h:H a=some (.lst U))(e:jx U i=some v)(q:Q v H):rC K sd (.ref a) (.int i) H Q:=
 .inl ⟨_,_,_,_,rfl,rfl,aE.of h,e,q⟩
theorem acN{T:Ty}{P Q:xz->Prop}(h:cy T v H P)(i:∀b,P b->Q b):cy T v H Q:=by
 cases v with
 |ref a=>
  unfold cy at h⊢
  simp only at h⊢
  split at h
  all_goals first|exact i _ h|exact h.elim
 |av=>exact i _ h
 |bl b=>exact i _ h
 |int _=>exact i _ h
 |str _=>exact i _ h
 |_=>exact False.elim h
theorem acO{T:Ty}{P:xz->Prop}(h:cy T v H P)(s:au H Y):cy T v Y P:=by
 cases v with
 |ref a=>
  unfold cy at h⊢
  simp only at h⊢
  cases e:H a with
  |none=>rw[e] at h;exact h.elim
  |some o=>rw[e] at h;rw[s _ _ e];exact h
 |av=>exact h
 |bl b=>exact h
 |int _=>exact h
 |str _=>exact h
 |_=>exact False.elim h
def fM(T:Ty)(v:V)(H:Hp):Prop:=cy T v H λb=>b=false
theorem fM.same{T:Ty}(h:fM T v H)(s:au H Y):fM T v Y:=acO h s
theorem fM.go{T:Ty}{Q:xz->Prop}(h:fM T v H)(q:Q false):cy T v H Q:=acN h λb e=>by rw[e];exact q
def Oe(x:Str):xz:=x.cps.toList.all λc=>SG.cps.contains c
theorem Of{α:Type}(p:α->xz):∀l:List α,l.all p=false->(l.takeWhile p).length<l.length
 |[],h=>by cases h
 |c::l,h=>by
  rw[List.takeWhile_cons];cases hc:p c with
  |false=>simp
  |true=>
   rw[zbc,hc,Bool.true_and] at h;have:=Of p l h
   simp;lia
theorem acP(x y:Str)(h:(x.cps.toList.all λc=>y.cps.contains c)=false):Txt.lstripChars x y≠"":=by
 have lt:=Of _ _ h;have e0:stripLo y.cps.contains true x=(x.cps.toList.takeWhile y.cps.contains).length:=by
  unfold stripLo;rw[BT rfl]
 have e1:∀n,stripHi y.cps.contains false x n=x.length:=λn=>rfl;intro z;have z2:=Cl Str.length z;have l0:(Str.ofString "").length=0:=rfl;rw[l0] at z2;unfold Txt.lstripChars Txt.stripBy stripSame stripped at z2;rw[e0,e1] at z2;have hx:x.cps.size=x.cps.toList.length:=by simp
 split at z2
 ·have:x.cps.size=0:=z2;lia
 ·have z3:(x.cps.extract (x.cps.toList.takeWhile y.cps.contains).length x.cps.size).size=0:=z2;rw[Array.size_extract,Nat.min_self] at z3;have z4:x.cps.size - (List.takeWhile (λc=>y.cps.contains c) x.cps.toList).length=0:=z3;lia
def iB(v:V)(H:Hp):Prop:=(∃x,v=.str x/\x.length<=1000000/\Oe x=false)\/fM .str v H
theorem iB.same(h:iB v H)(s:au H Y):iB v Y:=by
 rcases h with h|h
 ·exact .inl h
 ·exact .inr (h.same s)
def jS(v:V)(H:Hp):Prop:=(∃b,v=.bl b)\/fM .int v H
theorem jS.same(h:jS v H)(s:au H Y):jS v Y:=by
 rcases h with h|h
 ·exact .inl h
 ·exact .inr (h.same s)
inductive iC(B:be)(H:Hp)(Q:VK)(E:XK):Prop|i(v:_)(_:B=[v])(_:((∃i,v=.int i/\Q (.bl true) H)\/(jS v H/\Q (.bl false) H)))
theorem acQ{K:Frag}:bP (iC) (λE=>aR K [] [] (E:=E)) Kr jJ:=by
 intro B H Q E h;obtain⟨v,rfl,⟨i,rfl,q⟩|⟨⟨b,rfl⟩|hn,q⟩⟩:=h
 ·exact⟨_,rfl,rfl,_,rfl,hJ ⟨_,rfl,rfl,q⟩⟩
 ·exact⟨_,rfl,rfl,_,rfl,hJ ⟨_,rfl,rfl,q⟩⟩
 ·exact⟨_,rfl,rfl,hn.go ⟨_,rfl,jA q⟩⟩
inductive EO(B:be)(H:Hp)(Q:VK)(E:XK):Prop|i(v:_)(_:B=[v])(_:((∃x,v=.str x/\good x/\Q (.bl true) H)\/(iB v H/\Q (.bl false) H)))
theorem acR{K:Frag}:bP (EO) (λE=>aR K [] gS (E:=E)) D2 jJ:=by
 intro B H Q E h;obtain⟨v,rfl,⟨x,rfl,hx,q⟩|⟨⟨x,rfl,hl,hx⟩|hn,q⟩⟩:=h
 ·exact abZ _ _ _ _ ⟨x,rfl,hx,q⟩
 ·refine⟨_,rfl,rfl,_,rfl,hJ ⟨_,rfl,rfl,cK hl,?_⟩⟩;show Q (.bl<|false ^^ decide (V.str (Txt.lstripChars x SG)=V.str "")) H;rw[zqF<|λz=>acP x SG hx (by injection z)]
  exact q
 ·exact⟨_,rfl,rfl,hn.go ⟨_,rfl,jA q⟩⟩
abbrev acS:le:=[("is_text",EO)]
inductive mD(C:wl)(B:be)(H:Hp)(Q:VK)(E:XK):Prop|i(v:_)(_:B=[v])(_:((∃x,v=.str x/\good x/\Q .av H)\/(iB v H/\E (.ref C) none H)))
theorem acT{K:Frag}:bP (mD C) (λE=>aR K acS [] (et:=[("BadText",C)]) (E:=E)) Kt jJ:=by
 intro B H Q E h;obtain⟨v,rfl,⟨x,rfl,hx,q⟩|⟨hn,q⟩⟩:=h
 ·exact⟨_,rfl,_,rfl,.inl ⟨x,rfl,hx,q⟩⟩
 ·exact⟨_,rfl,_,rfl,.inr ⟨hn,dz,q⟩⟩
theorem acU{E:XK}(h:EM B H Q E):mD C B H Q E:=by
 obtain⟨x,rfl,hx,q⟩:=h;exact⟨_,rfl,.inl ⟨x,rfl,hx,q⟩⟩
inductive p7(K:Frag)(B:be)(H:Hp)(Q:VK)(E:XK):Prop|i(v p U:_)(_:B=[v,.ref p])(_:aP K H p U)(_:U.all jc=true)(_:((∃w,v=.str w/\Q (.bl<|g_ (.str w) U) H)\/(fM .str v H/\Q (.bl false) H)))
theorem acV{K:Frag}:bP (p7 K) (λE=>aR K [] [] (E:=E)) D1 D0:=by
 intro B H Q E h;obtain⟨v,p,U,rfl,hp,hf,⟨w,rfl,q⟩|⟨hn,q⟩⟩:=h
 ·exact ab1 _ _ _ _ ⟨w,p,U,rfl,hp,hf,q⟩
 ·exact⟨_,rfl,rfl,hn.go ⟨_,rfl,jA q⟩⟩
def p8(v:V)(H:Hp):Prop:=fM .tuple v H\/∃a U,v=.ref a/\H a=some (.tup U)/\U.length<=1000000/\(U.length≠2\/∃w t,U=[w,t]/\
 (fM .str w H\/(∃s,w=.str s/\s≠"keep"/\s≠"cut"/\s≠"put")\/(w=.str "keep"/\(jS t H\/∃n,t=.int n/\n<1))\/((w=.str "cut"\/w=.str "put")/\(iB t H\/t=.str ""))))
theorem p8.same(h:p8 v H)(s:au H Y):p8 v Y:=by
 rcases h with h|⟨a,U,rfl,ha,hl,h⟩
 ·exact .inl (h.same s)
 ·refine .inr ⟨a,U,rfl,s _ _ ha,hl,?_⟩;rcases h with h|⟨w,t,rfl,h⟩
  ·exact .inl h
  ·refine .inr ⟨w,t,rfl,?_⟩;rcases h with h|h|⟨h,h2⟩|⟨h,h2⟩
   ·exact .inl (h.same s)
   ·exact .inr (.inl h)
   ·refine .inr (.inr<|.inl ⟨h,?_⟩);rcases h2 with h2|h2
    ·exact .inl (h2.same s)
    ·exact .inr h2
   ·refine .inr (.inr<|.inr ⟨h,?_⟩);rcases h2 with h2|h2
    ·exact .inl (h2.same s)
    ·exact .inr h2
abbrev AJ(K:Frag):le:=[("is_word",p7 K),("is_whole",iC),("is_text",EO)]
inductive ER(B:be)(H:Hp)(Q:VK)(E:XK):Prop|i(v:_)(_:B=[v])(_:((∃p,iW H v p/\bx p/\∀Y,au H Y->Q (.bl true) Y)\/(p8 v H/\∀Y,au H Y->Q (.bl false) Y)))
theorem ES(s t:Str):g_ (.str s) [.str t]=(t==s):=by
 unfold g_;show(iO (.str t) (.str s)||false)=_;rw[zbs];rfl
theorem acW{K:Frag}:bP (ER) (λE=>aR K (AJ K) [] (E:=E)) Ai jJ:=by
 intro B H Q E h;have two:∀(a:wl) (w t:V) (Q1:VK) (H1:Hp) (N:St),N[0]?=some (some<|.ref a)->H1 a=some (.tup [w,t])->
   (∀(tt:wl) H2,au H1 H2->∀b:xz,(b=true->w=.str "cut"\/w=.str "put")->(b=false->w≠ .str "cut"/\w≠ .str "put")->Q1 (.bl b) H2)->(fM .str w H1\/∃s,w=.str s)->
   aj (aR K (AJ K) [] (E:=E)) (.call 0 [(.ix (.v 0)<|.c<|.int 0),(.tup [(.c<|.str "cut"),(.c<|.str "put")])]) N H1 Q1:=by
  intro a w t Q1 H1 N h0 ha q hw;refine⟨_,h0,.inr<|.inl ⟨_,_,_,_,rfl,rfl,aP.of ha,rfl,bQ,λt ht=>?_⟩⟩;have s2:=sameNew (o:=.tup [V.str "cut",V.str "put"]) ht;refine⟨w,t,_,rfl,aP.of aw,rfl,?_⟩;rcases hw with hw|⟨s,rfl⟩
  ·refine .inr ⟨hw.same s2,q t _ s2 false (λz=>by cases z) λ_=>⟨?_,?_⟩⟩
   ·rintro rfl;cases (show true=false from hw)
   ·rintro rfl;cases (show true=false from hw)
  ·refine .inl ⟨s,rfl,q t _ s2 _ (λz=>?_) λz=>?_⟩
   ·have z':((Str.ofString "cut"==s)||((Str.ofString "put"==s)||false))=true:=z
    simp only[zbs,zbx,KB] at z'
    rcases z' with z'|z'<;>subst z'
    ·exact .inl rfl
    ·exact .inr rfl
   ·have z':((Str.ofString "cut"==s)||((Str.ofString "put"==s)||false))=false:=z
    simp only[zbs,Bool.or_eq_false_iff,beq_eq_false_iff_ne] at z'
    exact⟨λy=>z'.1 (by injection y with y;exact y.symm),λy=>z'.2 (by injection y with y;exact y.symm)⟩
 obtain⟨v,rfl,⟨p,⟨a,rfl,ha⟩,hp,q⟩|⟨hn|⟨a,U,rfl,ha,hl,hb⟩,q⟩⟩:=h
 ·refine⟨_,rfl,rfl,pT ha ⟨_,rfl,.inr ⟨_,aP.of ha,_,rfl,?_⟩⟩⟩;refine⟨_,rfl,.inr<|.inl ⟨_,_,_,_,rfl,rfl,aP.of ha,rfl,dz,λt1 sj=>?_⟩⟩;have s1:=sameNew (o:=.tup [V.str "keep"]) sj;refine⟨.str p.word,t1,[.str "keep"],rfl,aP.of aw,rfl,.inl ⟨p.word,rfl,?_⟩⟩;have eV:=s1 _ _ ha;generalize upd H t1 (.tup [V.str "keep"])=H1 at s1 eV;have V':∀(s:Str),good s->s≠""->H1 a=some (.tup [.str p.word,.str s])->p.word="put"\/p.word="cut"->aB (aR K (AJ K) [] (E:=E)) (Ai.drop 2) (Dn Q) (start jJ [.ref a]) H1:=by
   intro s gs ns hs hw;refine two a (.str p.word) (.str s) _ H1 _ rfl hs (λtt H2 s2 b ET jj=>?_)<|.inr ⟨_,rfl⟩;have eb:b=true:=by
    cases b with
    |true=>rfl
    |false=>
     obtain⟨z1,z2⟩:=jj rfl;rcases hw with z|z
     ·exact absurd (Cl V.str z) z2
     ·exact absurd (Cl V.str z) z1
   subst eb;have uO:=s2 _ _ hs;refine⟨_,rfl,hJ ⟨_,rfl,.inr<|.inl ⟨_,_,_,_,rfl,rfl,aP.of uO,rfl,.str s,rfl,.inl ⟨s,rfl,gs,_,rfl,?_⟩⟩⟩⟩;refine hJ ⟨_,rfl,.inr<|.inl ⟨_,_,_,_,rfl,rfl,aP.of uO,rfl,?_⟩⟩;show Q (.bl<|true ^^ decide (V.str s=V.str "")) _;rw[zqF<|λz=>ns (by injection z)]
   exact q _<|s1.trans s2
  cases p with
  |keep n=>
   rw[show g_ (.str (Pt.keep n).word) [.str "keep"]=true by show g_ (.str "keep") [.str "keep"]=true;decide]
   refine⟨_,rfl,.inr<|.inl ⟨_,_,_,_,rfl,rfl,aP.of eV,rfl,.int n,rfl,.inl ⟨n,rfl,_,rfl,?_⟩⟩⟩;refine hJ ⟨_,rfl,.inr<|.inl ⟨_,_,_,_,rfl,rfl,aP.of eV,rfl,trivial,?_⟩⟩;show Q (.bl<|decide<|1<=n) H1;rw[zqT (show(1:Int)<=n from hp)]
   exact q _ s1
  |put s=>
   rw[show g_ (.str (Pt.put s).word) [.str "keep"]=false by show g_ (.str "put") [.str "keep"]=false;decide]
   exact V' s hp.1 hp.2 eV<|.inl rfl
  |cut s=>
   rw[show g_ (.str (Pt.cut s).word) [.str "keep"]=false by show g_ (.str "cut") [.str "keep"]=false;decide]
   exact V' s hp.1 hp.2 eV<|.inr rfl
 ·exact⟨_,rfl,rfl,hn.go<|q _<|au.refl _⟩
 ·refine⟨_,rfl,rfl,pT ha ⟨_,rfl,.inr ⟨_,aP.of ha,_,rfl,?_⟩⟩⟩;show if (true ^^ decide (V.int (U.length:Int)=V.int 2))=true then _ else _
  rcases hb with hb|⟨w,t,rfl,hb⟩
  ·rw[zqF<|λz=>hb (by injection z with z;lia)]
   exact q _<|au.refl _
  ·refine⟨_,rfl,.inr<|.inl ⟨_,_,_,_,rfl,rfl,aP.of ha,rfl,dz,λt1 sj=>?_⟩⟩;have s1:=sameNew (o:=.tup [V.str "keep"]) sj;refine⟨w,t1,[.str "keep"],rfl,aP.of aw,rfl,?_⟩;have eV:=s1 _ _ ha;generalize upd H t1 (.tup [V.str "keep"])=H1 at s1 eV;have no:(fM .str w H1\/∃s,w=.str s)->w≠ .str "cut"->w≠ .str "put"->aB (aR K (AJ K) [] (E:=E)) (Ai.drop 2) (Dn Q) (start jJ [.ref a]) H1:=by
    intro hw n1 n2;refine two a w t _ H1 _ rfl eV (λtt H2 s2 b ET jj=>?_) hw;have eb:b=false:=by
     cases b with
     |false=>rfl
     |true=>rcases ET rfl with z|z;exact absurd z n1;exact absurd z n2
    subst eb;exact⟨_,rfl,jA<|q _<|s1.trans s2⟩
   rcases hb with hb|⟨s,rfl,n0,n1,n2⟩|⟨rfl,hb⟩|⟨hw,hb⟩
   ·refine .inr ⟨hb.same s1,no (.inl<|hb.same s1) ?_ ?_⟩
    ·rintro rfl;cases (show true=false from hb)
    ·rintro rfl;cases (show true=false from hb)
   ·refine .inl ⟨s,rfl,?_⟩;rw[ES,beq_eq_false_iff_ne.mpr<|Fa n0];exact no (.inr ⟨s,rfl⟩) (λz=>n1 (by injection z))<|λz=>n2 (by injection z)
   ·refine .inl ⟨_,rfl,?_⟩;rw[show g_ (.str "keep") [.str "keep"]=true by decide]
    refine⟨_,rfl,.inr<|.inl ⟨_,_,_,_,rfl,rfl,aP.of eV,rfl,t,rfl,?_⟩⟩;rcases hb with hb|⟨n,rfl,hn⟩
    ·exact .inr ⟨hb.same s1,_,rfl,jA<|q _ s1⟩
    ·refine .inl ⟨n,rfl,_,rfl,hJ ⟨_,rfl,.inr<|.inl ⟨_,_,_,_,rfl,rfl,aP.of eV,rfl,trivial,?_⟩⟩⟩;show Q (.bl<|decide<|1<=n) H1;rw[zqF (by lia)]
     exact q _ s1
   ·have hws:∃s,w=.str s/\(Str.ofString "keep"==s)=false:=by
     rcases hw with rfl|rfl
     ·exact⟨_,rfl,by decide⟩
     ·exact⟨_,rfl,by decide⟩
    obtain⟨s,rfl,hk⟩:=hws;refine .inl ⟨s,rfl,?_⟩;rw[ES,hk];refine two a (.str s) t _ H1 _ rfl eV (λtt H2 s2 b ET jj=>?_)<|.inr ⟨s,rfl⟩;have eb:b=true:=by
     cases b with
     |true=>rfl
     |false=>
      obtain⟨z1,z2⟩:=jj rfl;rcases hw with z|z
      ·exact absurd z z1
      ·exact absurd z z2
    subst eb;have hV:=s2 _ _ eV;refine⟨_,rfl,hJ ⟨_,rfl,.inr<|.inl ⟨_,_,_,_,rfl,rfl,aP.of hV,rfl,t,rfl,?_⟩⟩⟩;rcases hb with hb|rfl
    ·exact .inr ⟨hb.same<|s1.trans s2,_,rfl,jA<|q _<|s1.trans s2⟩
    ·refine .inl ⟨_,rfl,⟨by decide,λc hc=>by cases hc⟩,_,rfl,hJ ⟨_,rfl,.inr<|.inl ⟨_,_,_,_,rfl,rfl,aP.of hV,rfl,?_⟩⟩⟩
     exact q _<|s1.trans s2
theorem acY{E:XK}(h:Ey B H Q E):ER B H Q E:=by
 obtain⟨v,p,rfl,hp,ho,q⟩:=h;exact⟨_,rfl,.inl ⟨p,hp,ho,q⟩⟩
def AK(H:Hp)(U:be):Prop:= ∃pre x post ps,U=pre++x::post/\bh H pre ps/\(∀p∈ps,bx p)/\chainOk "" ps=true/\
 (p8 x H\/∃p,iW H x p/\bx p/\kb p.word (jO "" ps ps.length)=false)
def fN(v:V)(H:Hp):Prop:=fM .list v H\/∃a U,v=.ref a/\H a=some (.lst U)/\AK H U
theorem AK.same(h:AK H U)(s:au H Y):AK Y U:=by
 obtain⟨pre,x,post,ps,e,h1,h2,h3,h4⟩:=h;refine⟨pre,x,post,ps,e,h1.mono<|cB s,h2,h3,?_⟩;rcases h4 with h4|⟨p,a,b,c⟩
 ·exact .inl (h4.same s)
 ·exact .inr ⟨p,a.mono<|cB s,b,c⟩
theorem fN.same(h:fN v H)(s:au H Y):fN v Y:=by
 rcases h with h|⟨a,U,e,h1,h2⟩
 ·exact .inl (fM.same h s)
 ·exact .inr ⟨a,U,e,s _ _ h1,h2.same s⟩
abbrev acZ:le:=[("is_part",ER),("may_follow",Ex)]
def uP(C:wl):Sp:=λB H Q E=>∃v,B=[v]/\fN v H/\∀Y,au H Y->E (.ref C) none Y
theorem ac0{K:Frag}:bP (uP C) (λE=>aR K acZ [] (et:=[("BadChange",C)]) (E:=E)) D4 D3:=by
 intro B H Q E h;obtain⟨v,rfl,hn|⟨a,U,rfl,ha,pre,x,post,ps,rfl,dn,aF,cx,ac1⟩,q⟩:=h
 ·exact⟨_,rfl,rfl,hn.go ⟨dz,q _<|au.refl _⟩⟩
 ·have hlen:=Db dn;refine⟨_,rfl,rfl,r6 ha ⟨_,rfl,a,rfl,⟨_,aE.of ha⟩,m4 (K:=K) (a:=a) (xs:=pre++x::post) (λi N H2=>i<=pre.length/\∃v,N=[some (.ref a),some (.str (jO "" ps i)),v]/\au H H2) ⟨zqZ _,none,rfl,au.refl _⟩
   (λi N H2 _ ⟨_,_,_,s2⟩=>aE.of (s2 _ _ ha)) ?_ ?_⟩⟩
  ·rintro i y N H2 hi ⟨hle,v,rfl,s2⟩;by_cases bY:i<pre.length
   ·have ip:pre[i]?=some y:=by rw[zbF bY] at hi;exact hi
    obtain⟨p,hp,lF⟩:=dn.get ip;obtain⟨b,rfl,hb⟩:=lF.mono (cB s2);refine⟨_,rfl,_,rfl,.inl ⟨p,⟨b,rfl,hb⟩,aF p<|zaw hp,λH3 s3=>?_⟩⟩;refine⟨_,rfl,.inr<|.inl ⟨_,_,_,_,rfl,rfl,aP.of<|s3 _ _ hb,rfl,_,rfl,p.word,_,rfl,?_⟩⟩;have e:=Ez ps "" i p cx hp;show(λc H1=>if (!c)=true then _ else _) (kb p.word<|jO "" ps i) H3
    rw[e];refine⟨_,rfl,.inr<|.inl ⟨_,_,_,_,rfl,rfl,aP.of<|s3 _ _ hb,rfl,bY,some<|.ref b,?_,s2.trans s3⟩⟩;show[some<|V.ref a,some<|V.str p.word,some<|V.ref b]=_;have e2:jO "" ps (i+1)=p.word:=by simp only[jO,hp]
    rw[e2]
   ·have nZ:i=pre.length:=by lia
    subst nZ;have ey:y=x:=by
     rw[zaZ<|zqR _,ST] at hi
     simpa using hi.symm
    subst ey;rcases ac1 with hb|⟨p,⟨b,rfl,hb⟩,ho,hf⟩
    ·exact⟨_,rfl,_,rfl,.inr ⟨hb.same s2,λH3 s3=>⟨dz,q _<|s2.trans s3⟩⟩⟩
    ·refine⟨_,rfl,_,rfl,.inl ⟨p,⟨b,rfl,s2 _ _ hb⟩,ho,λH3 s3=>?_⟩⟩;refine⟨_,rfl,.inr<|.inl ⟨_,_,_,_,rfl,rfl,aP.of<|s3 _ _<|s2 _ _ hb,rfl,_,rfl,p.word,_,rfl,?_⟩⟩;show(λc H1=>if (!c)=true then _ else _) (kb p.word<|jO "" ps pre.length) H3
     rw[hlen,hf];exact⟨dz,q _<|s2.trans s3⟩
  ·rintro N H2 ⟨hle,_⟩
   simp at hle
   lia
def sk(C:wl):Sp:=uP C
theorem ac2{K:Frag}:bP (sk C) (λE=>aR K [("need_change",uP C),("part_size",rZ)] [] (E:=E)) D6 D5:=by
 intro B H Q E h;obtain⟨v,rfl,hn,q⟩:=h;exact⟨_,rfl,v,rfl,hn,q⟩
theorem ac3{x:Str}{a b:bn}(h:x.cps.toList=a++b)(hn:¬ ∃c,b=s.cps.toList++c):(decide (fromIndex x.length (a.length:Int)+s.length<=x.length) && Builtin.Str.subAt x s (fromIndex x.length (a.length:Int)))=false:=by
 have hl:x.length=a.length+b.length:=by rw[len_list x,h];simp
 have e:fromIndex x.length (a.length:Int)=a.length:=by unfold fromIndex;rw[AT (by lia)];lia
 rw[e];cases hq:(decide (a.length+s.length<=x.length) && Builtin.Str.subAt x s a.length) with
 |false=>rfl
 |true=>
  exfalso
  rw[zaa,Ev] at hq;obtain⟨h1,h2⟩:=hq;unfold Builtin.Str.subAt at h2;rw[KB] at h2;have h3:=Cl Array.toList h2;rw[Array.toList_extract,h,List.extract_eq_drop_take,Nat.add_sub_cancel_left,List.drop_left] at h3;exact hn ⟨b.drop s.length,by rw[<-h3,zaU]⟩
theorem Og:∀(ps:bi),(∀p∈ps,bx p)->0<= (overOf ps).sum
 |[],_=>zaI _
 |p::ps,h=>by
  have ih:=Og ps λq hq=>h q (.tail _ hq);have hp:=h p (.head _);cases p with
  |keep n=>
   have e:overOf (.keep n::ps)=n::overOf ps:=rfl;rw[e,zaP];have:(1:Int)<=n:=hp;lia
  |put s=>exact ih
  |cut s=>
   have e:overOf (.cut s::ps)=(s.length:Int)::overOf ps:=rfl;rw[e,zaP];lia
def xh(CT CC CF:wl):Sp:=λB H Q E=>∃vt vc,B=[vt,vc]/\((iB vt H/\∀Y,au H Y->E (.ref CT) none Y)\/(∃x,vt=.str x/\good x/\fN vc H/\∀Y,au H Y->E (.ref CC) none Y)\/
 ∃x a U ps,vt=.str x/\vc=.ref a/\good x/\H a=some (.lst U)/\bh H U ps/\(∀p∈ps,bx p)/\chainOk "" ps=true/\ps.length<=100000/\(¬ ∃r,Run x.cps.toList ps r)/\∀Y,au H Y->E (.ref CF) none Y)
def eF(a b:Sp):Sp:=λB H Q E=>a B H Q E\/b B H Q E
theorem ac4{K:Frag}{CT CC CF:wl}:bP (xh CT CC CF) (λE=>aR K [("need_text",mD CT),("sizes",eF kd<|sk CC)] [] (et:=[("BadFit",CF)]) (E:=E)) D8 D7:=by
 intro B H Q E h;obtain⟨vt,vc,rfl,⟨hb,q⟩|⟨x,rfl,hx,hn,q⟩|⟨x,a,U,ps,rfl,rfl,hx,ha,dn,aF,cx,hl,Cr,q⟩⟩:=h
 ·exact⟨_,rfl,_,rfl,.inr ⟨hb,q _<|au.refl _⟩⟩
 ·exact⟨_,rfl,_,rfl,.inl ⟨x,rfl,hx,_,rfl,.inr ⟨vc,rfl,hn,q⟩⟩⟩
 ·have hlen:=Db dn;refine⟨_,rfl,_,rfl,.inl ⟨x,rfl,hx,_,rfl,.inl ⟨a,U,ps,rfl,ha,dn,aF,cx,by lia,λt H1 s1 ht=>?_⟩⟩⟩
  refine .inr<|.inl ⟨_,_,_,_,rfl,rfl,aP.of ht,rfl,_,rfl,cK hx.1,_,rfl,?_⟩;by_cases EU:(overOf ps).sum=(x.length:Int)
  ·rw[EU,zaE,zqT rfl];refine⟨zqZ _,λpc xb=>?_⟩;have s2:au H (upd H1 pc<|.lst []):=s1.trans (sameNew xb);have xf:H pc=none:=s1.free xb;refine⟨_,rfl,a,rfl,⟨_,aE.of (s2 _ _ ha)⟩,m4 (K:=K) (a:=a) (xs:=U) (λi N H2=>∃l1 l2 ts w v,N=[some (.str x),some (.ref a),some (.int ((l1.length:Nat):Int)),some (.ref pc),w,v]/\au H H2/\
     H2 pc=some (.lst ts)/\x.cps.toList=l1++l2/\(overOf (ps.drop i)).sum=(l2.length:Int)/\(¬ ∃r,Run l2 (ps.drop i) r)/\ts.length<=i)
    ⟨[],x.cps.toList,[],none,none,rfl,s2,aw,rfl,(by rw[<-len_list];exact EU),Cr,zqR _⟩
    (λi N H2 _ ⟨_,_,_,_,_,_,s3,_⟩=>aE.of (s3 _ _ ha)) ?_ ?_⟩
   ·rintro i y N H2 hi ⟨l1,l2,ts,w,v,rfl,s3,hp,e1,p9,so,tl⟩;obtain⟨pt,lG,lF⟩:=dn.get hi;obtain⟨b,rfl,hb⟩:=lF.mono (cB s3);have ip:i<ps.length:=(zat.mp lG).1;have ed:ps.drop i=pt::ps.drop (i+1):=by
     rw[zbl ip]
     congr 1
     exact zaj<|(zax ip).symm.trans lG
    rw[ed] at p9 so;have Oh:=aF pt (zaw lG);have ajg:=Og (ps.drop<|i+1) λp hp=>aF p (zaV hp);refine⟨b,_,rfl,.inl<|aP.of hb,rfl,_,_,rfl,_,_,rfl,rfl,?_⟩;have bt:∀o,cm pc H2 (upd H2 pc o):=λo=>cm.upd;cases pt with
    |put s=>
     refine⟨_,rfl,_,rfl,_,rfl,.inl ⟨rfl,_,aE.of hp⟩,_,rfl,_,hp,gb (by lia),?_⟩
     exact⟨l1,l2,ts++[.str s],_,_,rfl,nY s3 xf<|bt _,aw,e1,p9,λ⟨r,hr⟩=>so ⟨_,hr.put⟩,by simp;lia⟩
    |keep n=>
     have e:overOf (.keep n::ps.drop (i+1))=n::overOf (ps.drop<|i+1):=rfl;rw[e,zaP] at p9;have jF:(1:Int)<=n:=Oh;obtain⟨la,lb,e2,Oi⟩:∃la lb,l2=la++lb/\n=(la.length:Int):=⟨l2.take n.toNat,l2.drop n.toNat,(zaU _ _).symm,by rw[zav];lia⟩
     subst e2;refine⟨_,rfl,_,rfl,_,rfl,_,rfl,_,rfl,.inl ⟨rfl,_,aE.of hp⟩,?_⟩;refine⟨_,rfl,_,rfl,_,rfl,_,rfl,_,rfl,_,rfl,cK hx.1,?_⟩;refine⟨_,hp,gb (by lia),?_⟩
     refine⟨_,rfl,_,rfl,?_⟩;rw[zqA] at p9;refine⟨l1++la,lb,ts++[V.str<|j7 x (some (l1.length:Int))<|some<|(l1.length:Int)+n],some<|.str "keep",some<|.int n,?_,nY s3 xf<|bt _,aw,by rw[e1];simp,by lia,λ⟨r,hr⟩=>so ⟨_,hr.keep Oi⟩,by simp;lia⟩
     show[_,_,some<|V.int<|(l1.length:Int)+n,_,_,_]=_;rw[zqA,Oi,zbf]
     rfl
    |cut s=>
     have e:overOf (.cut s::ps.drop (i+1))=(s.length:Int)::overOf (ps.drop<|i+1):=rfl;rw[e,zaP] at p9;refine⟨_,rfl,_,rfl,_,rfl,_,rfl,_,rfl,rfl,_,rfl,_,rfl,?_⟩;show(λc H1=>if (!c)=true then _ else _) (decide (fromIndex x.length (l1.length:Int)+s.length<=x.length) && Builtin.Str.subAt x s (fromIndex x.length (l1.length:Int))) H2
     by_cases j5:∃lb,l2=s.cps.toList++lb
     ·obtain⟨lb,rfl⟩:=j5;rw[Od e1];refine⟨_,rfl,_,rfl,cK Oh.1.1,?_⟩;rw[zqA,<-len_list] at p9;refine⟨l1++s.cps.toList,lb,ts,some<|.str "cut",some<|.str s,?_,s3,hp,by rw[e1];simp,by lia,λ⟨r,hr⟩=>so ⟨_,hr.cut⟩,by lia⟩
      show[_,_,some<|V.int<|(l1.length:Int)+(s.length:Int),_,_,_]=_;rw[zqA,<-len_list,zbf]
      rfl
     ·rw[ac3 e1 j5];exact⟨dz,q _ s3⟩
   ·rintro N H2 ⟨l1,l2,ts,w,v,rfl,s3,hp,e1,p9,so,tl⟩
    exfalso
    rw[hlen,zbz] at p9 so;have:l2=[]:=zaD.mp (by have e:(overOf ([]:bi)).sum=0:=rfl;lia)
    subst this;exact so ⟨[],.nil⟩
  ·rw[zaE,zqF<|λz=>EU (by injection z)]
   exact⟨dz,q _ s1⟩
section
variable {J:aS}{D:Ends}{N:St}{H:Hp}{r:ci}{Q:VK}{d:be->Hp->Prop}{f:ge}
theorem ag(h:N[i]?=some (some v))(q:Q v H):aj J (.v i) N H Q:=⟨_,h,q⟩
theorem ao(q:Q v H):aj J (.c v) N H Q:=q
theorem mE(q:Q (J.gv j) H):aj J (.g j) N H Q:=q
theorem aV{op:Operator}{b:RE}(h:aj J a N H λx H1=>aj J b N H1 λy H2=>jd J.K op x y H2 Q):aj J (.bin op a b) N H Q:=h
theorem gg{op:CmpOp}{b:RE}(h:aj J a N H λx H1=>aj J b N H1 λy H2=>dB J.K op x y H2 Q):aj J (.cmp op a b) N H Q:=h
theorem a_{b:RE}(h:aj J a N H λx H1=>aj J b N H1 λy H2=>rC J.K J.sd x y H2 Q):aj J (.ix a b) N H Q:=h
theorem ac5(h:bw J W N H λB H1=>J.fs j (B++[]) H1 Q J.E):aj J (.call j W) N H Q:=h
theorem ba(sp:Sp)(hs:J.fs j=sp)(h:bw J W N H λB H1=>sp B H1 Q J.E):aj J (.call j W) N H Q:=by
 subst hs;refine ac5 ?_;have e:(fun(B:be) (H1:Hp)=>J.fs j (B++[]) H1 Q J.E)=λB H1=>J.fs j B H1 Q J.E:=by
  funext B H1;rw[zac]
 rw[e];exact h
theorem Oj{b:nF}(h:bw J W N H λB H1=>kT J.K b B H1 Q):aj J (.blt b W) N H Q:=h
theorem bN(h:bw J W N H λU H1=>U.length<=sizeLine/\∀p,H1 p=none->Q (.ref p) (upd H1 p<|.tup U)):aj J (.tup W) N H Q:=h
theorem bV(h:bw J W N H λU H1=>U.length<=sizeLine/\∀p,H1 p=none->Q (.ref p) (upd H1 p<|.lst U)):aj J (.lst W) N H Q:=h
theorem ac6{c:RE}(h:aj J a N H λx H1=>aj J c N H1 λy H2=>mh J.K [x,y] H2 Q):aj J (.dR a c) N H Q:=h
theorem Ol{c:RE}(h:aj J a N H λx H1=>aj J c N H1 λy H2=>mh J.K [x,y] H2 λz H3=>j8 J.K z H3 λb=>f b H3):bC J (.dR a c) N H f:=h
theorem aA(q:d [] H):bw J [] N H d:=q
theorem ak(h:aj J a N H λx H1=>bw J W N H1 λU H2=>d (x::U) H2):bw J (a::W) N H d:=h
theorem bq{e:RE}(h:aj J e N H λx H1=>aB J r D (N.set i<|some x) H1):aB J (.asg i e::r) D N H:=h
theorem cZ{e:RE}(h:aj J e N H λ_ H1=>aB J r D N H1):aB J (.drop e::r) D N H:=h
theorem bL{e:RE}(h:aj J e N H D.rt):aB J (.ret e::r) D N H:=h
end
structure uQ (K:Frag) (cs:db) (bz:wl) (D:wl) (j:Nat):Prop where
 cls:ug K D
 kit:∀i c,cs[i]?=some c->kitOne K (.ref D) (.ref c)=some (decide<|i=j)
 bz:kitOne K (.ref D) (.ref bz)=some true
 val:kitOne K (.ref D) (.type "ValueError")=some true
def fO:ac:=["text","change","fit","place","side","mark","node","cursor","deed","letter","gone","hand","note"]
abbrev gW(c0 c1 c2 c3 c4 c5 c6 c7 c8 c9 uR uS uT bz:wl):cr:=
 [("BadText",.ref c0),("BadChange",.ref c1),("BadFit",.ref c2),("NoPlace",.ref c3),("BadSide",.ref c4),("NoMark",.ref c5),("NoNode",.ref c6),("NoCursor",.ref c7),("BadDeed",.ref c8),("BadLetter",.ref c9),("NoLetter",.ref uR),("NoHand",.ref uS),("NoNote",.ref uT),("InkError",.ref bz)]
inductive xi(K:Frag)(cs:db)(bz:wl)(B:be)(H:Hp)(Q:VK)(E:XK):Prop|i(ea D j:_)(_:B=[.ref ea])(_:ExcAt H ea D)(_:uQ K cs bz D j)(_:j<13)(_:∀Y,au H Y->Q (.str<|fO.getD j "") Y)
theorem ExcAt.same{ea D:wl}(h:ExcAt H ea D)(s:au H Y):ExcAt Y ea D:=ExcAt.keeps h λb o u e=>s b _ e
def lJ(H:Hp)(v:V)(p:Str×xz):Prop:= ∃t,v=.ref t/\H t=some (.tup [.str p.1,.bl p.2])
theorem lJ.mono{p:Str×xz}(h:lJ H v p)(s:au H Y):lJ Y v p:=by
 obtain⟨t,e,h⟩:=h;exact⟨t,e,s _ _ h⟩
theorem uU.mono{H Y:Hp}(s:au H Y):∀{B:be}{ps:List (Str×xz)},Paired (lJ H) B ps->Paired (lJ Y) B ps
 |_,_,.nil=>.nil
 |_,_,.cons h r=>.cons (h.mono s) (uU.mono s r)
theorem uU.get{H:Hp}:∀{B:be}{ps:List (Str×xz)}{i:Nat}{v:V},Paired (lJ H) B ps->B[i]?=some v->∃p,ps[i]?=some p/\lJ H v p:=by
 intro _ _ i v h
 induction h generalizing i with
 |nil=>intro e;simp at e
 |cons x _ ih=>
  intro e;cases i with
  |zero=>simp at e;subst e;exact⟨_,rfl,x⟩
  |succ i=>
   obtain⟨p,a,b⟩:=ih (by simpa using e)
   exact⟨p,by simpa using a,b⟩
theorem Paired.app{α β:Type}{R:α->β->Prop}:∀{U gf:List α}{ys lK:List β},Paired R U ys->Paired R gf lK->Paired R (U++gf) (ys++lK):=by
 intro _ _ _ _ h s
 induction h with
 |nil=>exact s
 |cons r _ i=>exact .cons r i
section
variable {J:aS}{b:db}{g f D:wl}{j:Nat}
theorem EV(hk:uQ J.K b g D j)(hg:∀i c,b[i]?=some c->J.gv i=.ref c):∀(ws:eJ) (N:St) (H:Hp) (Q:be->Hp->Prop),(∀p∈ws,p.2<b.length)->N[0]?=some (some<|.ref f)->ExcAt H f D->
  (∀B Y,au H Y->Paired (lJ Y) B (ws.map λp=>(p.1,decide<|p.2=j))->Q B Y)->bw J (ws.map λp=>.tup [(.c<|.str p.1),(.dR (.v 0)<|.g p.2)]) N H Q
 |[],N,H,Q,_,_,_,q=>q [] H (au.refl _) .nil
 |(w,i)::ws,N,H,Q,hl,h0,he,q=>by
  have hi:i<b.length:=hl (w,i) (.head _);have hc:b[i]?=some b[i]:=by simp[hi]
  have key:∀k:VK,mh J.K [.ref f,.ref b[i]] H k->mh J.K [.ref f,J.gv i] H k:=by
   intro k;rw[hg i _ hc];exact id
  refine ak<|bN<|ak<|ao<|ak<|ac6<|ag h0<|mE<|key _ ⟨D,_,he,hk.cls,.inl ⟨_,rfl⟩,hk.kit i _ hc,aA ⟨bQ,λt ht=>?_⟩⟩;have s1:=sameNew (o:=.tup [.str w,.bl<|decide<|i=j]) ht;refine EV hk hg ws N _ _ (λp hp=>hl p<|.tail _ hp) h0 (he.same s1) λB Y s2 hp=>?_;exact q (.ref t::B) Y (s1.trans s2)<|.cons ⟨t,rfl,s2 _ _ aw⟩ hp
theorem AL(hk:uQ J.K b g D j)(hg:∀i c,b[i]?=some c->J.gv i=.ref c)(ws:eJ){l:wl}{ps:List (Str×xz)}{r:ci}{E:Ends}(hl:∀p∈ws,p.2<b.length)(he:ExcAt H f D)(h1:H l=some (.lst U))
  (hp:Paired (lJ H) U ps) (hn:U.length+ws.length<=1000) (q:∀l' gf Y,au H Y->Y l'=some (.lst gf)->Paired (lJ Y) gf (ps++ws.map λp=>(p.1,decide<|p.2=j))->aB J r E [some<|.ref f,some<|.ref l',none] Y):
  aB J (.asg 1 (.bin .Add (.v 1)<|.lst<|ws.map λp=>.tup [(.c<|.str p.1),(.dR (.v 0)<|.g p.2)])::r) E [some<|.ref f,some<|.ref l,none] H:=by
 refine⟨_,rfl,EV hk hg ws _ H _ hl rfl he λB H1 s1 hv=>⟨?_,λd hd=>?_⟩⟩
 ·have:=Db hv;rw[zaf] at this;exact cK (by lia)
 ·have e1:upd H1 d (.lst B) l=some (.lst U):=by rw[aC<|aO (s1 _ _ h1) hd];exact s1 _ _ h1
  have AM:=Db hv;rw[zaf] at AM;refine .inl ⟨l,d,U,B,rfl,rfl,e1,aw,cK (by lia),λe EW=>?_⟩
  have s2:=(sameNew (o:=.lst B) hd).trans (sameNew (o:=.lst (U++B)) EW);exact q e (U++B) _ (s1.trans s2) aw<|Paired.app (uU.mono (s1.trans s2) hp)<|uU.mono s2 hv
end
theorem ac8(j:Nat)(hj:j<13):(((fO.zipIdx).map λp=>(p.1,decide<|p.2=j)).filter (·.2)).map (·.1)=[fO.getD j ""]/\(fO.getD j "").length<=10:=by
 match j,hj with
 | 0,_| 1,_| 2,_| 3,_| 4,_| 5,_| 6,_| 7,_| 8,_| 9,_| 10,_| 11,_| 12,_=>exact⟨rfl,by decide+kernel⟩
theorem join_one(sep x:Str):Txt.join sep [x]=x:=gP rfl
theorem ac_{α β:Type}(p:α->xz)(f:α->β)(l:List α)(i:Nat)(v:α)(h:l[i]?=some v):((l.take<|i+1).filter p).map f=((l.take i).filter p).map f++(if p v then [f v] else []):=by
 rw[NK p l i v h,zay];cases p v<;>rfl
theorem ada{g:Nat}{ea D:wl}{b:xz}{Q:ge}(h0:N[i]?=some (some<|.ref ea))(he:ExcAt H ea D)(hc:ug J.K D)(hg:J.gv g=.ref C)(hk:kitOne J.K (.ref D) (.ref C)=some b)(q:Q b H):bC J (.dR (.v i)<|.g g) N H Q:=by
 have key:∀k:VK,mh J.K [.ref ea,.ref C] H k->mh J.K [.ref ea,J.gv g] H k:=by
  intro k;rw[hg];exact id
 exact Ol<|ag h0<|mE<|key _ ⟨D,b,he,hc,.inl ⟨_,rfl⟩,hk,q⟩
theorem adb{ea D:wl}{n:zn}{b:xz}{Q:ge}(h0:N[i]?=some (some<|.ref ea))(he:ExcAt H ea D)(hc:ug J.K D)(hk:kitOne J.K (.ref D) (.type n)=some b)(q:Q b H):bC J (.dR (.v i)<|.c<|.ty n) N H Q:=
 Ol (ag h0<|ao ⟨D,b,he,hc,.inr ⟨_,rfl⟩,hk,q⟩)
theorem ade{cs:db}{bz ea D:wl}(hl:cs.length=13)(hg:∀i c,cs[i]?=some c->J.gv i=.ref c)(hi:J.gv 13=.ref bz)(he:ExcAt H ea D)(hk:uQ J.K cs bz D j)(hj:j<13)(q:∀Y,au H Y->Q (.str<|fO.getD j "") Y):
  aB J f_ (Dn Q) [some<|.ref ea,none,none] H:=by
 refine DZ<|bV<|EV hk hg [("text",0),("change",1),("fit",2)] _ H _ (by rw[hl];decide) rfl he λB H1 s1 hv=>⟨?_,λd hd=>?_⟩
 ·have:=Db hv;exact cK (by rw[this];simp)
 have s2:=s1.trans (sameNew (o:=.lst B) hd);have Om:=uU.mono (sameNew (o:=.lst B) hd) hv;have AM:=Db hv;refine AL hk hg [("place",3),("side",4),("mark",5)] (by rw[hl];decide) (he.same s2) aw Om (by rw[AM];simp) λl3 pU H3 s3 h3 EX=>?_
 have Oo:=Db EX;refine AL hk hg [("node",6),("cursor",7)] (by rw[hl];decide) ((he.same s2).same s3) h3 EX (by rw[Oo];simp) λl4 xs4 H4 s4 h4 EY=>?_
 have Oq:=Db EY;refine AL hk hg [("deed",8),("letter",9)] (by rw[hl];decide) (((he.same s2).same s3).same s4) h4 EY (by rw[Oq];simp) λl5 xs5 H5 s5 h5 EZ=>?_
 have Ot:=Db EZ;refine AL hk hg [("gone",10),("hand",11),("note",12)] (by rw[hl];decide) ((((he.same s2).same s3).same s4).same s5) h5 EZ (by rw[Ot];simp) λl6 jR H6 s6 h6 Ou=>?_
 have xj:Paired (lJ H6) jR ((fO.zipIdx).map λp=>(p.1,decide<|p.2=j)):=Ou;obtain⟨pick,ajj⟩:=ac8 j hj;have adf:((fO.zipIdx).map λp=>(p.1,decide<|p.2=j)).length=13:=by rw[zaf];rfl
 generalize ((fO.zipIdx).map λp=>(p.1,decide<|p.2=j))=ay at xj pick adf;have hxl:=Db xj;have xk:=((((he.same s2).same s3).same s4).same s5).same s6;have jk:=(((s2.trans s3).trans s4).trans s5).trans s6;clear Ou EZ EY EX Om hv AM Oo Oq Ot;refine YK ⟨_,rfl,l6,rfl,⟨_,aE.of h6⟩,λi m ys H7=>m=jR.length - i/\i<=jR.length/\H7=H6/\ys=(((ay.take i).filter (·.2)).map (·.1)).map V.str,⟨_,rfl,zqZ _,rfl,rfl⟩,?_⟩;rintro i m ys H7 ⟨rfl,ip,rfl,rfl⟩;by_cases bY:i<jR.length
 ·refine .inr ⟨⟨jR,jR[i],aE.of h6,by simp[bY]⟩,?_⟩
  rintro x H8 ⟨rfl,hx⟩;obtain⟨⟨w,b⟩,hp,t,rfl,ht⟩:=uU.get xj (hx jR<|aE.of h6);have tf:=ac_ (·.2) (·.1) ay i _ hp;refine⟨t,_,rfl,aP.of ht,rfl,_,rfl,?_⟩;show if b=true then _ else _
  cases b with
  |true=>
   refine hJ ⟨_,rfl,?_,jR.length - (i+1),by lia,rfl,bY,rfl,?_⟩
   ·rw[zaf,zaf];have:=zbI (·.2) (ay.take i);have:=List.length_take_le i ay;exact gb (by lia)
   ·rw[tf];simp
  |false=>
   refine jA ⟨jR.length - (i+1),by lia,rfl,bY,rfl,?_⟩
   rw[tf];simp
 ·have nZ:i=jR.length:=by lia
  subst nZ;refine .inl ⟨⟨jR,aE.of h6,zqR _⟩,λp hp=>?_⟩;rw[hxl,show ay.take ay.length=ay from zaO ..,pick]
  have s7:=sameNew (o:=.lst (List.map V.str [fO.getD j ""])) hp;have uV:=xk.same s7;refine YL<|ada rfl uV hk.cls hi hk.bz<|adb rfl uV hk.cls hk.val ?_;refine⟨rfl,_,rfl,[fO.getD j ""],aE.of aw,?_,?_⟩
  ·unfold JoinOk;show(!decide (0+(fO.getD j "").length+(Str.ofString "/").length>sizeLine))=true;rw[zqF];rfl;have:(Str.ofString "/").length=1:=rfl;have:(1000:Nat)<=sizeLine:=by decide
   lia
  ·rw[join_one];exact q _<|jk.trans s7
theorem adh{K:Frag}{c0 c1 c2 c3 c4 c5 c6 c7 c8 c9 uR uS uT bz:wl}(B:be)(H:Hp)(Q:VK)(h:xi K [c0,c1,c2,c3,c4,c5,c6,c7,c8,c9,uR,uS,uT] bz B H Q E0):
  aB (aR K []<|gW c0 c1 c2 c3 c4 c5 c6 c7 c8 c9 uR uS uT bz) f_ (Dn Q) (start lj B) H:=by
 obtain⟨ea,D,j,rfl,he,hk,hj,q⟩:=h;refine ade (J:=aR K [] (gW c0 c1 c2 c3 c4 c5 c6 c7 c8 c9 uR uS uT bz)) (cs:=[c0,c1,c2,c3,c4,c5,c6,c7,c8,c9,uR,uS,uT]) rfl (λi c hi=>?_) rfl he hk hj q;have ip:i<13:=(zat.mp hi).1
 match i,ip with
 | 0,_| 1,_| 2,_| 3,_| 4,_| 5,_| 6,_| 7,_| 8,_| 9,_| 10,_| 11,_| 12,_=>exact Cl V.ref (zaj hi)
theorem adi{a:wl}{U:ii}{T:Ty}{k:xz->Prop}(h:H a=some (.dK U))(q:k (T==.dict)):cy T (.ref a) H k:=by
 show(match H a with|some (.lst _)=>k (T==.list)|some (.bW _<|.lst _)=>k (T==.list)|some (.tup _)=>k (T==.tuple)|some (.dK _)=>k (T==.dict)|some (.dT _)=>k (T==.dict)|_=>False)
 rw[h];exact q
theorem Run.len{l r:bn}{ps:bi}(h:Run l ps r):r.length<=l.length+bg ps:=by
 induction h with
 |nil=>simp
 | @keep a l r n ps e _ ih=>
  have:bg (.keep n::ps)=0+bg ps:=by simp[bg,iz]
  simp only[zqA];lia
 | @put s l r ps _ ih=>
  have:bg (.put s::ps)=s.length+bg ps:=by simp[bg,iz]
  have e:=len_list s
  simp only[zqA];lia
 | @cut s l r ps _ ih=>
  have:bg (.cut s::ps)=s.length+bg ps:=by simp[bg,iz]
  simp only[zqA];lia
theorem Ov{x:Str}(k:Nat)(n:Int)(m:Nat)(hn:n=m):j7 x (some (k:Int)) (some<|(k:Int)+n)=⟨((x.cps.toList.drop k).take m).toArray⟩:=by
 have e1:(k:Int)+n=((k+m:Nat):Int):=by rw[hn];simp
 unfold j7 mf;rw[e1,HT.oZ,HT.oZ]
 congr 1
 by_cases h:k<=x.cps.toList.length
 ·rw[show min k x.cps.toList.length=k by lia]
  by_cases h2:k+m<=x.cps.toList.length
  ·rw[show min (k+m) x.cps.toList.length=k+m by lia,Nat.add_sub_cancel_left]
  ·rw[show min (k+m) x.cps.toList.length=x.cps.toList.length by lia,zaM (by rw[zaC];lia),zaM (by rw[zaC];lia)]
 ·rw[show min k x.cps.toList.length=x.cps.toList.length by lia,zbz,List.drop_of_length_le (by lia),List.take_nil,List.take_nil]
theorem Ow{x:Str}(hx:good x)(hy:good y)(hl:x.length+y.length<=1000000):good (x++y):=by
 refine⟨by rw[n_];exact hl,λc hc=>?_⟩
 rw[app_list] at hc;rcases zak.mp hc with z|z
 ·exact hx.2 c z
 ·exact hy.2 c z
theorem mF{α:Type _}{p:α->Prop}:∀x∈ ([]:List α),p x:=λ_ h=>nomatch h
theorem mG{α:Type _}{p:α->Prop}{a:α}{l:List α}(h:p a)(t:∀x∈l,p x):∀x∈a::l,p x:=List.forall_mem_cons.2 ⟨h,t⟩
section
variable {P:ww}{w:wE}{K:Frag}{g:bv}{d:wT}{k:Nat}
theorem c_.or{CX:cE}{f:wl}{fd:x0}{ps:ac}{a b:Sp}(A:c_ P w K g d CX k f fd ps a)(C:c_ P w K g d CX k f fd ps b):c_ P w K g d CX k f fd ps (eF a b):=
 ⟨λB H Q E h=>h.elim (A.len B H Q E)<|C.len B H Q E,λA' outer s H args us B Q E hr e0 hb hv hs=>hs.elim (A.run A' outer s H args us B Q E hr e0 hb hv)<|C.run A' outer s H args us B Q E hr e0 hb hv⟩
theorem c_.weak{CX:cE}{f:wl}{fd:x0}{ps:ac}{a b:Sp}(A:c_ P w K g d CX k f fd ps b)(h:∀B H Q E,a B H Q E->b B H Q E):c_ P w K g d CX k f fd ps a:=
 ⟨λB H Q E q=>A.len B H Q E<|h _ _ _ _ q,λA' outer s H args us B Q E hr e0 hb hv hs=>A.run A' outer s H args us B Q E hr e0 hb hv<|h _ _ _ _ hs⟩
theorem iu.weak{x:Str}{a b:Sp}(T:iu P w K g d k x b)(h:∀B H Q E,a B H Q E->b B H Q E):iu P w K g d k x a:=by
 obtain⟨f,fd,ps,F,r⟩:=T;exact⟨f,fd,ps,F.weak h,r⟩
theorem jI.weak{x:Str}{a b:Sp}(T:jI P w K g d k (x,C,b))(h:∀B H Q E,a B H Q E->b B H Q E):jI P w K g d k (x,C,a):=by
 obtain⟨c,f,fd,ps,m,F,r⟩:=T;exact⟨c,f,fd,ps,m,F.weak h,r⟩
open PySem.W in
theorem adj{x:Str}(X:K.In d)(G:d.Ns mainGlobals g)(e:nsIn K mainGlobals x=some (some<|.ref C))(q:excIn K C [.type "ValueError",.type "Exception",.type "BaseException",.type "object"] "ValueError.__new__"=true):Ah g d (x,C):=by
 refine⟨_,_,_,_,⟨mg_of X G e,?_⟩,PySem.F.excBase_ValueError⟩;unfold excIn at q
 split at q
 ·rename_i dd cd sl ho
  split at q
  ·rename_i C' bm k0 k1 k2 k3 n k5 hm hs
   simp only[zaa,KB,zaJ] at q
   obtain⟨⟨⟨⟨⟨rfl,rfl⟩,Ox⟩,ht⟩,aF⟩,zY⟩:=q;obtain⟨nm,bs,mro,ns,qn,hd,sn,sub,ab,col,del⟩:=cd
   dsimp only at hm Ox aF zY
   subst hm Ox;obtain⟨sl⟩:=sl;have uO:sl=_:=hs;subst uO;exact⟨bm,ns,nm,qn,bs,hd,sn,sub,ab,col,dd,k0,k1,k2,k3,k5,_,X _ _ ho,.of_isNs<|isNs_of_in X aF,nsMap_none_of_in X aF zY,tail_of_in X ht⟩
  ·cases q
 ·cases q
end
inductive At where|K|P (c:Nat)|C (c:Nat)
 deriving DecidableEq
abbrev dl:=List At
abbrev Form:=bn×bn×List (bn×bn)
def nb:dl->Form
 |[]=>([],[],[])
 |.P c::U=>(c::(nb U).1,(nb U).2.1,(nb U).2.2)
 |.C c::U=>((nb U).1,c::(nb U).2.1,(nb U).2.2)
 |.K::U=>([],[],((nb U).1,(nb U).2.1)::(nb U).2.2)
def fit:bn->dl->Prop
 |l,[]=>l=[]
 |l,.P _::U=>fit l U
 |[],.K::_=>False
 |_::l,.K::U=>fit l U
 |[],.C _::_=>False
 |a::l,.C c::U=>a=c/\fit l U
def out:bn->dl->bn
 |l,[]=>[]
 |l,.P c::U=>c::out l U
 |[],.K::U=>out [] U
 |a::l,.K::U=>a::out l U
 |[],.C _::U=>out [] U
 |_::l,.C _::U=>out l U
def jT:bn->bn->List (bn×bn)->Form->Form
 |p,q,[],F=>(p++F.1,q++F.2.1,F.2.2)
 |p,q,(a,b)::r,F=>(p,q,((jT a b r F).1,(jT a b r F).2.1)::(jT a b r F).2.2)
theorem adk(c:Nat)(p q:bn)(r:List (bn×bn))(F:Form):jT (c::p) q r F=(c::(jT p q r F).1,(jT p q r F).2.1,(jT p q r F).2.2):=by
 cases r<;>rfl
theorem adl(c:Nat)(p q:bn)(r:List (bn×bn))(F:Form):jT p (c::q) r F=((jT p q r F).1,c::(jT p q r F).2.1,(jT p q r F).2.2):=by
 cases r<;>rfl
theorem og:∀(U ys:dl),nb (U++ys)=jT (nb U).1 (nb U).2.1 (nb U).2.2 (nb ys)
 |[],ys=>rfl
 |.K::U,ys=>by
  simp only[zaW,nb,og U ys];rfl
 |.P c::U,ys=>by
  simp only[zaW,nb,og U ys,adk]
 |.C c::U,ys=>by
  simp only[zaW,nb,og U ys,adl]
theorem E1{U gf ys lK:dl}(h:nb U=nb gf)(h':nb ys=nb lK):nb (U++ys)=nb (gf++lK):=by rw[og,og,h,h']
theorem E3:∀(p:bn),nb (p.map .P)=(p,[],[])
 |[]=>rfl
 |c::p=>by simp only[zaA,nb,E3 p]
theorem E4:∀(p:bn),nb (p.map .C)=([],p,[])
 |[]=>rfl
 |c::p=>by simp only[zaA,nb,E4 p]
theorem adm(p q:bn):nb (q.map .C++p.map .P)=nb (p.map .P++q.map .C):=by
 rw[og,og,E3,E4]
 simp[jT]
def rK(n:Nat):dl:=List.replicate n .K
theorem adn(n:Nat)(U:dl):nb (rK (n+1)++U)=([],[],List.replicate n ([],[])++((nb U).1,(nb U).2.1)::(nb U).2.2):=by
 induction n with
 |zero=>rfl
 |succ n ih=>
  have e:rK (n+1+1)++U=.K::(rK (n+1)++U):=rfl;rw[e]
  simp only[nb,ih]
  rfl
theorem E5:∀(a l:bn) (U:dl),fit (a++l) (rK a.length++U)↔fit l U
 |[],l,U=>Iff.rfl
 |c::a,l,U=>E5 a l U
theorem E6:∀(a l:bn) (U:dl),out (a++l) (rK a.length++U)=a++out l U
 |[],l,U=>rfl
 |c::a,l,U=>by
  show c::out (a++l) (rK a.length++U)=_;rw[E6 a l U];rfl
theorem xl:∀(s l:bn) (U:dl),fit l (s.map .P++U)↔fit l U
 |[],l,U=>Iff.rfl
 |c::s,l,U=>xl s l U
theorem E7:∀(s l:bn) (U:dl),out l (s.map .P++U)=s++out l U
 |[],l,U=>rfl
 |c::s,l,U=>by
  show c::out l (s.map .P++U)=_;rw[E7 s l U];rfl
theorem E8:∀(s l:bn) (U:dl),fit (s++l) (s.map .C++U)↔fit l U
 |[],l,U=>Iff.rfl
 |c::s,l,U=>by
  show c=c/\fit (s++l) (s.map .C++U)↔_;rw[E8 s l U];simp
theorem E9:∀(s l:bn) (U:dl),out (s++l) (s.map .C++U)=out l U
 |[],l,U=>rfl
 |c::s,l,U=>E9 s l U
inductive dt:dl->dl->dl->dl->Prop
 |nil:dt [] [] [] []
 |p1 {c U ys os ts:_}:dt U ys os ts->dt (.P c::U) ys (.P c::os) (.K::ts)
 |p2 {c U ys os ts:_}:dt U ys os ts->dt U (.P c::ys) (.K::os) (.P c::ts)
 |kk {U ys os ts:_}:dt U ys os ts->dt (.K::U) (.K::ys) (.K::os) (.K::ts)
 |kc {c U ys os ts:_}:dt U ys os ts->dt (.K::U) (.C c::ys) os (.C c::ts)
 |ck {c U ys os ts:_}:dt U ys os ts->dt (.C c::U) (.K::ys) (.C c::os) ts
 |cc {c U ys os ts:_}:dt U ys os ts->dt (.C c::U) (.C c::ys) os ts
theorem dt.fits{U ys os ts:dl}(h:dt U ys os ts):∀l,fit l U->fit l ys->fit (out l U) ts/\fit (out l ys) os/\out (out l U) ts=out (out l ys) os:=by
 induction h with
 |nil=>intro l h1 h2;cases h1;exact⟨rfl,rfl,rfl⟩
 | @p1 c U ys os ts _ ih=>
  intro l h1 h2;obtain⟨a,b,d⟩:=ih l h1 h2;exact⟨a,b,by show c::_=c::_;rw[d]⟩
 | @p2 c U ys os ts _ ih=>
  intro l h1 h2;obtain⟨a,b,d⟩:=ih l h1 h2;exact⟨a,b,by show c::_=c::_;rw[d]⟩
 | @kk U ys os ts _ ih=>
  intro l h1 h2;cases l with
  |nil=>exact h1.elim
  |cons x l=>
   obtain⟨a,b,d⟩:=ih l h1 h2;exact⟨a,b,by show x::_=x::_;rw[d]⟩
 | @kc c U ys os ts _ ih=>
  intro l h1 h2;cases l with
  |nil=>exact h1.elim
  |cons x l=>
   obtain⟨rfl,h2⟩:=h2;obtain⟨a,b,d⟩:=ih l h1 h2;exact⟨⟨rfl,a⟩,b,d⟩
 | @ck c U ys os ts _ ih=>
  intro l h1 h2;cases l with
  |nil=>exact h1.elim
  |cons x l=>
   obtain⟨rfl,h1⟩:=h1;obtain⟨a,b,d⟩:=ih l h1 h2;exact⟨a,⟨rfl,b⟩,d⟩
 | @cc c U ys os ts _ ih=>
  intro l h1 h2;cases l with
  |nil=>exact h1.elim
  |cons x l=>
   obtain⟨rfl,h1⟩:=h1;obtain⟨_,h2⟩:=h2;exact ih l h1 h2
variable {Z:bi}{R:dl}
def cM:Pt->dl
 |.keep n=>rK n.toNat
 |.put s=>s.cps.toList.map .P
 |.cut s=>s.cps.toList.map .C
def aH(Z:bi):dl:=(Z.map cM).flatten
theorem dQ(p:Pt)(Z:bi):aH (p::Z)=cM p++aH Z:=rfl
theorem lL(Z qs:bi):aH (Z++qs)=aH Z++aH qs:=by simp[aH]
theorem kg(p:Pt):aH [p]=cM p:=by simp[aH]
def iD:Pt->Prop|.keep n=>0<=n|_=>True
theorem xn{p:Pt}(h:bx p):iD p:=by
 cases p with
 |keep n=>exact Int.le_trans (by decide) (show(1:Int)<=n from h)
 |_=>trivial
theorem Run.fits{l r:bn}(h:Run l Z r):fit l (aH Z)/\out l (aH Z)=r:=by
 induction h with
 |nil=>exact⟨rfl,rfl⟩
 | @keep a l r n Z e _ ih=>
  rw[dQ];have e1:cM (.keep n)=rK a.length:=by show rK n.toNat=_;rw[e];simp
  rw[e1];exact⟨(E5 a l _).mpr ih.1,by rw[E6,ih.2]⟩
 | @put s l r Z _ ih=>
  rw[dQ];exact⟨(xl _ l _).mpr ih.1,by show out l (s.cps.toList.map .P++_)=_;rw[E7,ih.2]⟩
 | @cut s l r Z _ ih=>
  rw[dQ];exact⟨(E8 _ l _).mpr ih.1,by show out _ (s.cps.toList.map .C++_)=_;rw[E9,ih.2]⟩
theorem Oy:∀(n:Nat) (l:bn) (U:dl),fit l (rK n++U)->∃a b,l=a++b/\a.length=n
 | 0,l,U,h=>⟨[],l,rfl,rfl⟩
 |n+1,[],U,h=>(show False from h).elim
 |n+1,c::l,U,h=>by
  obtain⟨a,b,e,hl⟩:=Oy n l U h;exact⟨c::a,b,by rw[e];rfl,by simp[hl]⟩
theorem E_:∀(s l:bn) (U:dl),fit l (s.map .C++U)->∃b,l=s++b
 |[],l,U,h=>⟨l,rfl⟩
 |c::s,[],U,h=>(show False from h).elim
 |c::s,d::l,U,h=>by
  obtain⟨e,h⟩:=(show d=c/\fit l (s.map .C++U) from h)
  obtain⟨b,e2⟩:=E_ s l U h;exact⟨b,by rw[e,e2];rfl⟩
theorem AN:∀(Z:bi) (l:bn),(∀p∈Z,iD p)->fit l (aH Z)->Run l Z (out l<|aH Z)
 |[],l,_,h=>by
  have:l=[]:=h;subst this;exact .nil
 |.keep n::Z,l,hn,h=>by
  rw[dQ] at h⊢;obtain⟨a,b,rfl,ha⟩:=Oy _ _ _ h;have AG:0<=n:=hn _ (.head _);have e1:cM (.keep n)=rK a.length:=by show rK n.toNat=_;rw[ha]
  rw[e1] at h⊢;rw[E6];exact .keep (by lia)<|AN Z b (λp hp=>hn p<|.tail _ hp)<|(E5 a b _).mp h
 |.put s::Z,l,hn,h=>by
  rw[dQ] at h⊢;show Run l _ (out l<|s.cps.toList.map .P++_);rw[E7];exact .put<|AN Z l (λp hp=>hn p<|.tail _ hp)<|(xl _ l _).mp h
 |.cut s::Z,l,hn,h=>by
  rw[dQ] at h⊢;obtain⟨b,rfl⟩:=E_ _ _ _ h;show Run _ _ (out _<|s.cps.toList.map .C++_);rw[E9];exact .cut<|AN Z b (λp hp=>hn p<|.tail _ hp)<|(E8 _ b _).mp h
def lM(s:NS):dl:=aH s.1++((cat s.2.1).cps.toList.map .P++(cat s.2.2).cps.toList.map .C)
theorem Oz(I:Str->Pt)(f:Nat->At)(h:∀s,cM (I s)=s.cps.toList.map f)(x:Str):aH (txt I x)=x.cps.toList.map f:=by
 by_cases hx:x=""
 ·rw[hx,txt_nil];rfl
 ·rw[kf hx,kg,h]
theorem OA(ch:bi)(p c:ac):aH (dZ ch p c)=lM (ch,p,c):=by
 unfold dZ lM;rw[lL,lL,Oz .put .P<|λ_=>rfl,Oz .cut .C<|λ_=>rfl,zam]
theorem OB(m n:Nat):rK m++rK n=rK (m+n):=by unfold rK;rw[List.replicate_append_replicate]
theorem ado(ch:bi)(n:Int)(hn:0<=n)(h:∀p∈ch,iD p):aH (eU ch n)=aH ch++rK n.toNat:=by
 unfold eU
 split
 ·rename_i m e
  have hm:Pt.keep m∈ch:=List.mem_of_getLast? e;have hm0:0<=m:=h _ hm;have ec:ch=ch.dropLast++[.keep m]:=by
   have fX:ch≠ []:=by intro z;rw[z] at hm;cases hm
   rw[List.getLast?_eq_some_getLast fX] at e;have e':=zaj e;rw[<-e',List.dropLast_concat_getLast]
  conv=>rhs;rw[ec]
  rw[lL,lL,kg,kg,zam];show _++rK (n+m).toNat=_++(rK m.toNat++rK n.toNat);rw[OB,show(n+m).toNat=m.toNat+n.toNat by lia]
 ·rw[lL,kg];rfl
theorem OC{I:Str->Pt}(h:∀s,iD<|I s)(x:Str):∀p∈txt I x,iD p:=by
 intro p hp;unfold txt at hp
 split at hp
 ·cases hp
 ·rw[zag.mp hp];exact h x
theorem OD{ch:bi}(p c:ac)(h:∀p∈ch,iD p):∀q∈dZ ch p c,iD q:=by
 intro q hq;unfold dZ at hq;rcases zak.mp hq with z|z
 ·rcases zak.mp z with z|z
  ·exact h q z
  ·exact OC (I:=.put) (λ_=>trivial) _ q z
 ·exact OC (I:=.cut) (λ_=>trivial) _ q z
theorem adq{ch:bi}{n:Int}(hn:0<=n)(h:∀p∈ch,iD p):∀q∈eU ch n,iD q:=by
 intro q hq;unfold eU at hq
 split at hq
 ·rename_i m e
  rcases zak.mp hq with z|z
  ·exact h q ((List.dropLast_sublist ch).subset z)
  ·rw[zag.mp z];have hm0:0<=m:=h _ (List.mem_of_getLast? e);show 0<=n+m;lia
 ·rcases zak.mp hq with z|z
  ·exact h q z
  ·rw[zag.mp z];exact hn
theorem ads(s:NS)(p:Pt)(hp:iD p)(h:∀q∈s.1,iD q):nb (lM<|dP s p)=nb (lM s++cM p)/\∀q∈ (dP s p).1,iD q:=by
 obtain⟨ch,pu,cu⟩:=s;cases p with
 |put x=>
  refine⟨?_,h⟩;show nb (aH ch++((cat<|pu++[x]).cps.toList.map .P++(cat cu).cps.toList.map .C))=nb (aH ch++((cat pu).cps.toList.map .P++(cat cu).cps.toList.map .C)++x.cps.toList.map .P);rw[pY,app_list,zay,zam,zam,zam];refine E1 rfl<|E1 rfl ?_;exact(adm _ _).symm
 |cut x=>
  refine⟨?_,h⟩;show nb (aH ch++((cat pu).cps.toList.map .P++(cat<|cu++[x]).cps.toList.map .C))=nb (aH ch++((cat pu).cps.toList.map .P++(cat cu).cps.toList.map .C)++x.cps.toList.map .C);rw[pY,app_list,zay,zam,zam]
 |keep n=>
  have AG:0<=n:=hp;by_cases hn:0<n
  ·have e:dP (ch,pu,cu) (.keep n)=(eU (dZ ch pu cu) n,[],[]):=BT hn;rw[e];refine⟨?_,adq AG<|OD _ _ h⟩;show nb (aH (eU (dZ ch pu cu) n)++[])=nb (lM (ch,pu,cu)++rK n.toNat);rw[zac,ado _ _ AG<|OD _ _ h,OA]
  ·have e:dP (ch,pu,cu) (.keep n)=(ch,pu,cu):=AT hn;rw[e];refine⟨?_,h⟩;show _=nb (lM (ch,pu,cu)++rK n.toNat);rw[show n.toNat=0 by lia]
   show _=nb (_++[]);rw[zac]
theorem OE:∀(Z:bi) (s:NS),(∀p∈Z,iD p)->(∀q∈s.1,iD q)->nb (lM<|Z.foldl dP s)=nb (lM s++aH Z)
 |[],s,_,_=>by show nb (lM s)=nb (lM s++[]);rw[zac]
 |p::Z,s,h,hs=>by
  obtain⟨a,b⟩:=ads s p (h p<|.head _) hs;show nb (lM<|Z.foldl dP<|dP s p)=_;rw[OE Z _ (λq hq=>h q<|.tail _ hq) b,dQ,<-zam];exact E1 a rfl
theorem AO(Z:bi)(h:∀p∈Z,iD p):nb (aH<|ke Z)=nb (aH Z):=by
 unfold ke;have e:=OE Z ([],[],[]) h (λq hq=>by cases hq)
 generalize Z.foldl dP ([],[],[])=s at e⊢;show nb (aH<|dZ s.1 s.2.1 s.2.2)=_;rw[OA];exact e
theorem kh(h:s≠""):∃c r,s.cps.toList=c::r:=by
 cases e:s.cps.toList with
 |nil=>exact absurd (gP (by rw[e];rfl)) h
 |cons c r=>exact⟨c,r,rfl⟩
theorem uW(s:Str)(U:dl):nb (s.cps.toList.map .P++U)=(s.cps.toList++(nb U).1,(nb U).2.1,(nb U).2.2):=by
 rw[og,E3];rfl
theorem sx(s:Str)(U:dl):nb (s.cps.toList.map .C++U)=((nb U).1,s.cps.toList++(nb U).2.1,(nb U).2.2):=by
 rw[og,E4];rfl
theorem sy{n:Int}(h:1<=n)(U:dl):nb (rK n.toNat++U)=([],[],List.replicate (n.toNat - 1) ([],[])++((nb U).1,(nb U).2.1)::(nb U).2.2):=by
 obtain⟨m,e⟩:∃m,n.toNat=m+1:=⟨n.toNat - 1,by lia⟩
 rw[e,adn];rfl
theorem OF{w:Str}(h:kb "put" w=true):w≠"put"/\w≠"cut":=by
 refine⟨λz=>?_,λz=>?_⟩ <;>subst z<;>exact absurd h (by decide)
theorem adt{w:Str}(h:kb "cut" w=true):w≠"cut":=by
 intro z;subst z;exact absurd h (by decide)
theorem adu{w:Str}(h:kb "keep" w=true):w≠"keep":=by
 intro z;subst z;exact absurd h (by decide)
theorem p_{Z:bi}{w:Str}(hc:chainOk w Z=true)(ho:∀p∈Z,bx p)(hw:w="put"\/w="cut"):(nb<|aH Z).1=[]:=by
 cases Z with
 |nil=>rfl
 |cons p Z=>
  simp only[chainOk,zaa] at hc
  have hp:=ho p (.head _);rw[dQ];cases p with
  |keep n=>show(nb<|rK n.toNat++_).1=_;rw[sy hp]
  |put s=>
   obtain⟨a,b⟩:=OF hc.1;rcases hw with z|z
   ·exact absurd z a
   ·exact absurd z b
  |cut s=>
   show(nb<|s.cps.toList.map .C++_).1=_;rw[sx];exact p_ hc.2 (λq hq=>ho q<|.tail _ hq)<|.inr rfl
theorem Fb(hc:chainOk "cut" Z=true)(ho:∀p∈Z,bx p):(nb<|aH Z).2.1=[]:=by
 cases Z with
 |nil=>rfl
 |cons p Z=>
  simp only[chainOk,zaa] at hc
  have hp:=ho p (.head _);rw[dQ];cases p with
  |keep n=>show(nb<|rK n.toNat++_).2.1=_;rw[sy hp]
  |put s=>exact absurd rfl (OF hc.1).2
  |cut s=>exact absurd rfl (adt hc.1)
theorem OG(hc:chainOk "keep" Z=true)(ho:∀p∈Z,bx p)(h1:(nb<|aH Z).1=[])(h2:(nb<|aH Z).2.1=[]):Z=[]:=by
 cases Z with
 |nil=>rfl
 |cons p Z=>
  exfalso
  simp only[chainOk,zaa] at hc
  have hp:=ho p (.head _);rw[dQ] at h1 h2;cases p with
  |keep n=>exact absurd rfl (adu hc.1)
  |put s=>
   obtain⟨c,r,e⟩:=kh hp.2;have jl:(nb<|s.cps.toList.map .P++aH Z).1=[]:=h1;rw[uW,e] at jl;cases jl
  |cut s=>
   obtain⟨c,r,e⟩:=kh hp.2;have xo:(nb<|s.cps.toList.map .C++aH Z).2.1=[]:=h2;rw[sx,e] at xo;cases xo
theorem OH{a b:bn×bn}{r s:List (bn×bn)}:∀{m n:Nat},List.replicate m (([],[]):bn×bn)++a::r=List.replicate n ([],[])++b::s->(m=n/\a=b/\r=s)\/(m<n/\a=([],[])/\r≠ [])\/(n<m/\b=([],[])/\s≠ [])
 | 0,0,h=>by
  have h':a::r=b::s:=h
  injection h' with h1 h2
  exact .inl ⟨rfl,h1,h2⟩
 | 0,n+1,h=>by
  have h':a::r=([],[])::(List.replicate n ([],[])++b::s):=h
  injection h' with h1 h2
  exact .inr<|.inl ⟨by lia,h1,by rw[h2];simp⟩
 |m+1,0,h=>by
  have h':([],[])::(List.replicate m ([],[])++a::r)=b::s:=h
  injection h' with h1 h2
  exact .inr<|.inr ⟨by lia,h1.symm,by rw[<-h2];simp⟩
 |m+1,n+1,h=>by
  have h':(([],[]):bn×bn)::(List.replicate m ([],[])++a::r)=([],[])::(List.replicate n ([],[])++b::s):=h
  injection h' with _ h2
  rcases OH h2 with⟨x,y⟩|⟨x,y⟩|⟨x,y⟩
  ·exact .inl ⟨by lia,y⟩
  ·exact .inr (.inl ⟨by lia,y⟩)
  ·exact .inr (.inr ⟨by lia,y⟩)
theorem OI(q:Pt)(qs:bi)(ho:∀p∈q::qs,bx p)(h:([],[],[])=nb (aH (q::qs))):False:=by
 have hq:=ho q (.head _);rw[dQ] at h;have h0:([],[],[])=nb (cM q++aH qs):=h;cases q with
 |keep n=>
  have h1:([],[],[])=nb (rK n.toNat++aH qs):=h0;rw[sy hq] at h1;have:=Cl (λx=>x.2.2) h1
  simp at this
 |put s=>
  obtain⟨c,r,e⟩:=kh hq.2;have h1:([],[],[])=nb (s.cps.toList.map .P++aH qs):=h0;rw[uW,e] at h1;have:=Cl (λx=>x.1) h1
  simp at this
 |cut s=>
  obtain⟨c,r,e⟩:=kh hq.2;have h1:([],[],[])=nb (s.cps.toList.map .C++aH qs):=h0;rw[sx,e] at h1;have:=Cl (λx=>x.2.1) h1
  simp at this
theorem OJ:∀(Z qs:bi) (w v:Str),chainOk w Z=true->chainOk v qs=true->(∀p∈Z,bx p)->(∀p∈qs,bx p)->nb (aH Z)=nb (aH qs)->Z=qs
 |[],[],_,_,_,_,_,_,_=>rfl
 |[],q::qs,_,_,_,_,_,ho,h=>(OI q qs ho h).elim
 |p::Z,[],_,_,_,_,ho,_,h=>(OI p Z ho h.symm).elim
 |p::Z,q::qs,w,v,hw,hv,ho,eL,h=>by
  simp only[chainOk,zaa] at hw hv
  have hp:=ho p (.head _);have hq:=eL q (.head _);have oT:∀x∈Z,bx x:=λx hx=>ho x (.tail _ hx);have oh:∀x∈qs,bx x:=λx hx=>eL x (.tail _ hx);rw[dQ,dQ] at h;have V':p=q->nb (aH Z)=nb (aH qs)->p::Z=q::qs:=λe1 e2=>by
   rw[e1,OJ Z qs p.word q.word hw.2 hv.2 oT oh e2]
  cases p with
  |keep n=>
   have h':nb (rK n.toNat++aH Z)=nb (cM q++aH qs):=h;rw[sy hp] at h';cases q with
   |keep m=>
    have h2:_=nb (rK m.toNat++aH qs):=h';rw[sy hq] at h2;have h3:=Cl (λx=>x.2.2) h2;have jF:(1:Int)<=n:=hp;have hm1:(1:Int)<=m:=hq;rcases OH h3 with⟨e1,e2,e3⟩|⟨e1,e2,e3⟩|⟨e1,e2,e3⟩
    ·refine V' (by congr 1;lia) ?_
     have uX:=Cl Prod.fst e2;have uY:=Cl Prod.snd e2
     simp only at uX uY
     exact Prod.ext uX<|Prod.ext uY e3
    ·have uX:=Cl Prod.fst e2;have uY:=Cl Prod.snd e2;have:=OG hw.2 oT uX uY;rw[this] at e3;exact absurd rfl e3
    ·have uX:=Cl Prod.fst e2;have uY:=Cl Prod.snd e2;have:=OG hv.2 oh uX uY;rw[this] at e3;exact absurd rfl e3
   |put s=>
    exfalso
    obtain⟨c,r,e⟩:=kh hq.2;have h2:_=nb (s.cps.toList.map .P++aH qs):=h';rw[uW,e] at h2;have:=Cl (λx=>x.1) h2
    simp at this
   |cut s=>
    exfalso
    obtain⟨c,r,e⟩:=kh hq.2;have h2:_=nb (s.cps.toList.map .C++aH qs):=h';rw[sx,e] at h2;have:=Cl (λx=>x.2.1) h2
    simp at this
  |put x=>
   obtain⟨c0,r0,e0⟩:=kh hp.2;have h':nb (x.cps.toList.map .P++aH Z)=nb (cM q++aH qs):=h;rw[uW] at h';have k1:=p_ hw.2 oT (.inl rfl);cases q with
   |keep m=>
    exfalso
    have h2:_=nb (rK m.toNat++aH qs):=h';rw[sy hq,e0] at h2;have:=Cl (λx=>x.1) h2
    simp at this
   |put s=>
    have h2:_=nb (s.cps.toList.map .P++aH qs):=h';rw[uW,k1,p_ hv.2 oh<|.inl rfl,zac,zac] at h2;have a1:=Cl (λx=>x.1) h2;have a2:=Cl (λx=>x.2) h2
    simp only at a1 a2
    refine V' (by rw[gP a1]) ?_
    exact Prod.ext (by rw[k1,p_ hv.2 oh<|.inl rfl]) a2
   |cut s=>
    exfalso
    have h2:_=nb (s.cps.toList.map .C++aH qs):=h';rw[sx,p_ hv.2 oh<|.inr rfl,e0] at h2;have:=Cl (λx=>x.1) h2
    simp at this
  |cut x=>
   obtain⟨c0,r0,e0⟩:=kh hp.2;have h':nb (x.cps.toList.map .C++aH Z)=nb (cM q++aH qs):=h;have k1:=p_ hw.2 oT (.inr rfl);have k2:=Fb hw.2 oT;rw[sx] at h';cases q with
   |keep m=>
    exfalso
    have h2:_=nb (rK m.toNat++aH qs):=h';rw[sy hq,e0] at h2;have:=Cl (λx=>x.2.1) h2
    simp at this
   |put s=>
    exfalso
    obtain⟨c,r,e⟩:=kh hq.2;have h2:_=nb (s.cps.toList.map .P++aH qs):=h';rw[uW,k1,e] at h2;have:=Cl (λx=>x.1) h2
    simp at this
   |cut s=>
    have h2:_=nb (s.cps.toList.map .C++aH qs):=h';rw[sx,k1,k2,p_ hv.2 oh<|.inr rfl,Fb hv.2 oh,zac,zac] at h2;have a1:=Cl (λx=>x.2.1) h2;have a2:=Cl (λx=>x.2.2) h2
    simp only at a1 a2
    refine V' (by rw[gP a1]) ?_
    exact Prod.ext (by rw[k1,p_ hv.2 oh<|.inr rfl])<|Prod.ext (by rw[k2,Fb hv.2 oh]) a2
termination_by Z qs=>Z.length+qs.length
def bK:Pt->Nat|.keep n=>n.toNat|.put s=>s.length|.cut s=>s.length
def fQ:Pt->Nat->Pt
 |.keep n,o=>.keep (n - o)
 |.put s,o=>.put ⟨(s.cps.toList.drop o).toArray⟩
 |.cut s,o=>.cut ⟨(s.cps.toList.drop o).toArray⟩
def bj:Pt->Nat->Pt
 |.keep _,o=>.keep o
 |.put s,o=>.put ⟨(s.cps.toList.take o).toArray⟩
 |.cut s,o=>.cut ⟨(s.cps.toList.take o).toArray⟩
theorem OK(p:Pt)(o:Nat):(fQ p o).word=p.word:=by cases p<;>rfl
theorem adv(p:Pt)(o:Nat):(bj p o).word=p.word:=by cases p<;>rfl
theorem jU{p:Pt}(h:bx p):rY p=(bK p:Int)/\1<=bK p:=by
 cases p with
 |keep n=>
  have h1:(1:Int)<=n:=h;exact⟨by show n=(n.toNat:Int);lia,by show 1<=n.toNat;lia⟩
 |put s=>
  obtain⟨c,r,e⟩:=kh h.2;exact⟨rfl,by show 1<=s.length;rw[len_list,e];simp⟩
 |cut s=>
  obtain⟨c,r,e⟩:=kh h.2;exact⟨rfl,by show 1<=s.length;rw[len_list,e];simp⟩
theorem ki(l:bn):(⟨l.toArray⟩:Str).length=l.length:=by rw[len_list]
theorem xp(p:Pt)(o:Nat)(h:o<=bK p):bK (fQ p o)=bK p - o:=by
 cases p with
 |keep n=>
  have h':o<=n.toNat:=h;show(n - (o:Int)).toNat=n.toNat - o;lia
 |put s=>show(⟨(s.cps.toList.drop o).toArray⟩:Str).length=s.length - o;rw[ki,zaC,<-len_list]
 |cut s=>show(⟨(s.cps.toList.drop o).toArray⟩:Str).length=s.length - o;rw[ki,zaC,<-len_list]
theorem uZ(p:Pt)(o:Nat)(h:o<=bK p):bK (bj p o)=o:=by
 cases p with
 |keep n=>show((o:Int)).toNat=o;lia
 |put s=>
  have h':o<=s.length:=h;rw[len_list] at h';show(⟨(s.cps.toList.take o).toArray⟩:Str).length=o;rw[ki,zav];lia
 |cut s=>
  have h':o<=s.length:=h;rw[len_list] at h';show(⟨(s.cps.toList.take o).toArray⟩:Str).length=o;rw[ki,zav];lia
theorem drop_zero(p:Pt):fQ p 0=p:=by
 cases p with
 |keep n=>show Pt.keep (n - ((0:Nat):Int))=_;rw[show n - ((0:Nat):Int)=n by lia]
 |put s=>show Pt.put ⟨(s.cps.toList.drop 0).toArray⟩=_;rw[zbj,AI]
 |cut s=>show Pt.cut ⟨(s.cps.toList.drop 0).toArray⟩=_;rw[zbj,AI]
theorem drop_drop(p:Pt)(a b:Nat):fQ (fQ p a) b=fQ p (a+b):=by
 cases p with
 |keep n=>show Pt.keep (n - (a:Int) - (b:Int))=Pt.keep (n - ((a+b:Nat):Int));congr 1;lia
 |put s=>show Pt.put ⟨((s.cps.toList.drop a).drop b).toArray⟩=Pt.put ⟨(s.cps.toList.drop<|a+b).toArray⟩;rw[List.drop_drop]
 |cut s=>show Pt.cut ⟨((s.cps.toList.drop a).drop b).toArray⟩=Pt.cut ⟨(s.cps.toList.drop<|a+b).toArray⟩;rw[List.drop_drop]
theorem take_all(p:Pt)(h:iD p):bj p (bK p)=p:=by
 cases p with
 |keep n=>
  have h':0<=n:=h;show Pt.keep ((n.toNat:Nat):Int)=_;rw[show((n.toNat:Nat):Int)=n by lia]
 |put s=>show Pt.put ⟨(s.cps.toList.take s.length).toArray⟩=_;rw[len_list,zaO,AI]
 |cut s=>show Pt.cut ⟨(s.cps.toList.take s.length).toArray⟩=_;rw[len_list,zaO,AI]
theorem adw(p:Pt)(o:Nat)(h:o<=bK p):cM p=cM (bj p o)++cM (fQ p o):=by
 cases p with
 |keep n=>
  have h':o<=n.toNat:=h;show rK n.toNat=rK ((o:Nat):Int).toNat++rK (n - (o:Int)).toNat;rw[OB];congr 1;lia
 |put s=>
  show s.cps.toList.map At.P=(s.cps.toList.take o).map At.P++(s.cps.toList.drop o).map At.P;rw[<-zay,zaU]
 |cut s=>
  show s.cps.toList.map At.C=(s.cps.toList.take o).map At.C++(s.cps.toList.drop o).map At.C;rw[<-zay,zaU]
theorem AQ(h:good s)(l:bn)(hl:l.length<=s.length)(hm:∀c∈l,c∈s.cps.toList):good ⟨l.toArray⟩:=
 ⟨by rw[ki];exact zap hl h.1,λc hc=>h.2 c<|hm c hc⟩
theorem AR{l:bn}(h:l≠ []):(⟨l.toArray⟩:Str)≠"":=λz=>h (by have:=Cl (λs=>s.cps.toList) z;exact this)
theorem adx{p:Pt}{o:Nat}(h:bx p)(ho:o<bK p):bx (fQ p o):=by
 cases p with
 |keep n=>
  have h':o<n.toNat:=ho;show(1:Int)<=n - (o:Int);lia
 |put s=>
  have h':o<s.cps.toList.length:=by rw[<-len_list];exact ho
  exact⟨AQ h.1 _ (by rw[zaC,<-len_list];lia) λc hc=>zaV hc,AR (by intro z;have:=Cl List.length z;rw[zaC] at this;have t2:s.cps.toList.length - o=0:=this;lia)⟩
 |cut s=>
  have h':o<s.cps.toList.length:=by rw[<-len_list];exact ho
  exact⟨AQ h.1 _ (by rw[zaC,<-len_list];lia) λc hc=>zaV hc,AR (by intro z;have:=Cl List.length z;rw[zaC] at this;have t2:s.cps.toList.length - o=0:=this;lia)⟩
theorem OL{p:Pt}{o:Nat}(h:bx p)(ho:1<=o)(h1:o<=bK p):bx (bj p o):=by
 cases p with
 |keep n=>show(1:Int)<= (o:Int);lia
 |put s=>
  have h':o<=s.cps.toList.length:=by rw[<-len_list];exact h1
  exact⟨AQ h.1 _ (by rw[zav,<-len_list];lia) λc hc=>zbA hc,AR (by intro z;have:=Cl List.length z;rw[zav] at this;have t2:min o s.cps.toList.length=0:=this;lia)⟩
 |cut s=>
  have h':o<=s.cps.toList.length:=by rw[<-len_list];exact h1
  exact⟨AQ h.1 _ (by rw[zav,<-len_list];lia) λc hc=>zbA hc,AR (by intro z;have:=Cl List.length z;rw[zav] at this;have t2:min o s.cps.toList.length=0:=this;lia)⟩
def wf(L:wl)(i o:Int):cr:=[("parts",.ref L),("passed_by",.int i),("offset",.int o)]
theorem AS{i o:Int}:(wf L i o).lookup ("parts":Str)=some (.ref L):=iX
theorem xq{i o:Int}:(wf L i o).lookup ("passed_by":Str)=some (.int i):=(cT (by decide+kernel)).trans iX
theorem OM{i o:Int}:(wf L i o).lookup ("offset":Str)=some (.int o):=(cT (by decide+kernel)).trans ((cT (by decide+kernel)).trans iX)
theorem AU{i o:Int}{m:Str}(h1:¬m="parts")(h2:¬m="passed_by")(h3:¬m="offset"):(wf L i o).lookup m=none:=(cT h1).trans ((cT h2).trans<|(cT h3).trans rfl)
theorem ON{i o k:Int}:aI "offset" (.int k) (wf L i o)=wf L i k:=by
 unfold wf;rw[d9 (by decide+kernel),d9 (by decide+kernel),mB]
theorem ady{i o k:Int}:aI "passed_by" (.int k) (wf L i o)=wf L k o:=by
 unfold wf;rw[d9 (by decide+kernel),mB]
theorem adz:aI "offset" (.int 0) (aI "passed_by" (.int 0)<|aI "parts" (.ref L) [])=wf L 0 0:=by
 have e1:aI "parts" (V.ref L) []=[(("parts":Str),V.ref L)]:=rfl;rw[e1,d9 (by decide+kernel)]
 have e2:aI "passed_by" (V.int 0) []=[(("passed_by":Str),V.int 0)]:=rfl;rw[e2,d9 (by decide+kernel),d9 (by decide+kernel)]
 rfl
def cf(C:wl)(H:Hp)(w L:wl)(rs:bi):Prop:= ∃(dx:wl) (U:be) (Z:bi) (i o:Nat),H w=some (.ins C dx<|wf L i o)/\H L=some (.lst U)/\bh H U Z/\(∀p∈Z,bx p)/\Z.length<=200000/\
 ((Z.drop i=[]/\rs=[])\/∃p t,Z.drop i=p::t/\o<bK p/\rs=fQ p o::t)
theorem cf.keep{w:wl}{rs:bi}(h:cf C H w L rs)(k:∀b o,H b=some o->b=w\/b=L\/(∃U,o=.tup U)->Y b=some o):cf C Y w L rs:=by
 obtain⟨dx,U,Z,i,o,h1,h2,h3,h4⟩:=h;exact⟨dx,U,Z,i,o,k _ _ h1<|.inl rfl,k _ _ h2<|.inr<|.inl rfl,h3.mono λb R e=>k _ _ e (.inr<|.inr ⟨R,rfl⟩),h4⟩
theorem cf.same{w:wl}{rs:bi}(h:cf C H w L rs)(s:au H Y):cf C Y w L rs:=h.keep λb o e _=>s b o e
theorem cf.but{w c:wl}{rs:bi}(h:cf C H w L rs)(b:cm c H Y)(hc:H c=some (.lst U))(hn:c≠L):cf C Y w L rs:=by
 refine h.keep λd o e z=>b d o e ?_;obtain⟨dx,_,_,_,_,h1,_⟩:=h;rcases z with rfl|rfl|⟨R,rfl⟩
 ·exact bX h1 hc (by intro z;cases z)
 ·exact hn.symm
 ·exact bX e hc (by intro z;cases z)
theorem cf.ok{w:wl}{rs:bi}(h:cf C H w L rs):∀p∈rs,bx p:=by
 obtain⟨dx,U,Z,i,o,h1,h2,h3,h4,h5,⟨_,rfl⟩|⟨p,t,e,ho,rfl⟩⟩:=h
 ·intro p hp;cases hp
 ·have hm:∀q∈p::t,bx q:=λq hq=>h4 q (zaV (by rw[e];exact hq))
  intro q hq;rcases zad.mp hq with rfl|hq
  ·exact adx (hm p<|.head _) ho
  ·exact hm q (.tail _ hq)
def lN:bi->Str
 |[]=> ""
 |p::_=>p.word
inductive kj(C:wl)(B:be)(H:Hp)(Q:VK)(E:XK):Prop|i(w dx a:wl)(U:be)(Z:bi)(_:B=[.ref w,.ref a])(_:H w=some (.ins C dx []))(_:H a=some (.lst U))(_:bh H U Z)(_:(∀p∈Z,bx p))(_:Z.length<=200000)(_:∀L Y,H L=none->L≠w->cm w H Y->cf C Y w L Z->Q .av Y)
theorem adA{K:Frag}(T:pO K C):bP (kj C) (λE=>aR K [] [] (E:=E)) KQ KP:=by
 intro B H Q E h;obtain⟨w,dx,a,U,Z,rfl,hw,ha,dn,aF,hl,k⟩:=h;refine⟨_,rfl,U,.inl<|aE.of ha,λL hL=>?_⟩;have nw:w≠L:=aO hw hL;refine⟨_,rfl,w,C,dx,[],rfl,(by rw[aC nw];exact hw),T.cl,T.wU,(by show 0<1000;decide),?_⟩
 refine⟨_,rfl,w,C,dx,_,rfl,aw,T.cl,T.rV,(by show 1<1000;decide),?_⟩
 refine⟨_,rfl,w,C,dx,_,rfl,aw,T.cl,T.wV,(by show 2<1000;decide),?_⟩
 rw[yV,yV];have b:cm w H (upd (upd H L<|.lst U) w<|.ins C dx<|aI "offset" (.int 0)<|aI "passed_by" (.int 0)<|aI "parts" (.ref L) []):=λc o e n=>by rw[aC n,aC<|aO e hL];exact e
 refine k L _ hL nw.symm b ⟨dx,U,Z,0,0,?_,?_,dn.mono ?_,aF,hl,?_⟩
 ·rw[aw,adz];rfl
 ·rw[aC nw.symm,aw]
 ·intro c R e;exact b c _ e<|bX e hw (by intro z;cases z)
 ·cases Z with
  |nil=>exact .inl ⟨rfl,rfl⟩
  |cons p t=>exact .inr ⟨p,t,rfl,(jU<|aF p<|.head _).2,by rw[drop_zero]⟩
theorem Fc{p:Pt}{t:bi}(h:Z.drop i=p::t):Z[i]?=some p/\Z.drop (i+1)=t/\i<Z.length:=by
 have hl:i<Z.length:=by
  rcases Nat.lt_or_ge i Z.length with z|z
  ·exact z
  ·rw[List.drop_of_length_le z] at h;cases h
 refine⟨?_,?_,hl⟩
 ·have:=Cl List.head? h;rw[List.head?_drop] at this
  simpa using this
 ·rw[<-List.drop_drop,h];rfl
theorem bh.at{p:Pt}(h:bh H U Z)(e:Z[i]?=some p):∃a,U[i]?=some (.ref a)/\H a=some (.tup [.str p.word,p.val]):=by
 have hl:=Db h;have hi:i<U.length:=by rw[hl];exact(zat.mp e).1
 obtain⟨q,hq,a,ea,ha⟩:=h.get (i:=i) (v:=U[i]) (by simp[hi])
 rw[e] at hq;cases hq;exact⟨a,by rw[<-ea];simp[hi],ha⟩
inductive u0(C:wl)(B:be)(H:Hp)(Q:VK)(E:XK):Prop|i(w L:wl)(rs:bi)(_:B=[.ref w])(_:cf C H w L rs)(_:Q (.str<|lN rs) H)
theorem adB{K:Frag}(T:pO K C):bP (u0 C) (λE=>aR K [] [] (E:=E)) KR ji:=by
 intro B H Q E h;obtain⟨w,L,rs,rfl,⟨dx,U,Z,i,o,h1,h2,h3,h4,h5,h6⟩,q⟩:=h;have hl:=Db h3;refine⟨_,rfl,w,C,dx,_,_,rfl,h1,T.cl,T.rV,xq,_,rfl,w,C,dx,_,_,rfl,h1,T.cl,T.wU,AS,.inl ⟨_,aE.of h2,trivial,_,rfl,?_⟩⟩;rcases h6 with⟨e,rfl⟩|⟨p,t,e,ho,rfl⟩
 ·have:Z.length<=i:=by
   rcases Nat.lt_or_ge i Z.length with z|z
   ·rw[zbl z] at e;cases e
   ·exact z
  exact iF q<|zqF (by lia)
 ·obtain⟨e1,e2,e3⟩:=Fc e;obtain⟨a,ea,ha⟩:=h3.at e1;refine iT ?_<|zqT (by lia)
  refine⟨_,rfl,w,C,dx,_,_,rfl,h1,T.cl,T.wU,AS,_,rfl,w,C,dx,_,_,rfl,h1,T.cl,T.rV,xq,.inl ⟨_,_,_,_,rfl,rfl,aE.of h2,fH ea,?_⟩⟩;refine .inr<|.inl ⟨_,_,_,_,rfl,rfl,aP.of ha,rfl,?_⟩;rw[show lN (fQ p o::t)=p.word from OK p o] at q
  exact q
inductive u_(C:wl)(B:be)(H:Hp)(Q:VK)(E:XK):Prop|i(w L dx:wl)(U:be)(Z:bi)(i o:Nat)(p:Pt)(_:B=[.ref w])(_:H w=some (.ins C dx<|wf L i o))(_:H L=some (.lst U))(_:bh H U Z)(_:Z[i]?=some p)(_:bx p)(_:Q (.int<|(bK p:Int) - (o:Int)) H)
theorem adC{K:Frag}(T:pO K C):bP (u_ C) (λE=>aR K [("part_size",rZ)] [] (E:=E)) KS ji:=by
 intro B H Q E h;obtain⟨w,L,dx,U,Z,i,o,p,rfl,h1,h2,h3,e1,hp,q⟩:=h;obtain⟨a,ea,ha⟩:=h3.at e1;refine⟨_,rfl,w,C,dx,_,_,rfl,h1,T.cl,T.wU,AS,_,rfl,w,C,dx,_,_,rfl,h1,T.cl,T.rV,xq,.inl ⟨_,_,_,_,rfl,rfl,aE.of h2,fH ea,?_⟩⟩;refine⟨_,p,rfl,⟨a,rfl,ha⟩,EA hp,?_⟩;refine⟨_,rfl,w,C,dx,_,_,rfl,h1,T.cl,T.wV,OM,trivial,?_⟩;rw[(jU hp).1];exact q
inductive vd(C:wl)(B:be)(H:Hp)(Q:VK)(E:XK):Prop|i(w L:wl)(p:Pt)(t:bi)(_:B=[.ref w])(_:cf C H w L (p::t))(_:Q (.int (bK p:Int)) H)
theorem adD{E:XK}(h:vd C B H Q E):u_ C B H Q E:=by
 obtain⟨w,L,p,t,rfl,⟨dx,U,Z,i,o,h1,h2,h3,h4,h5,⟨_,e⟩|⟨p',t',e,ho,e'⟩⟩,q⟩:=h
 ·cases e
 ·cases e';obtain⟨e1,_,_⟩:=Fc e;refine⟨w,L,dx,U,Z,i,o,p',rfl,h1,h2,h3,e1,h4 _<|zaw e1,?_⟩;rw[xp p' o (by lia)] at q
  rw[show((bK p':Int) - (o:Int))=((bK p' - o:Nat):Int) by lia]
  exact q
def cL(p:Pt)(t:bi)(k:Nat):bi:=if k=bK p then t else fQ p k::t
inductive sE(C:wl)(B:be)(H:Hp)(Q:VK)(E:XK):Prop|i(w L:wl)(p:Pt)(t:bi)(k:Nat)(_:B=[.ref w,.int (k:Int)])(_:cf C H w L (p::t))(_:1<=k)(_:k<=bK p)(_:∀r Y,cm w H Y->Y r=some (.tup [.str (bj p k).word,(bj p k).val])->H r=none->cf C Y w L (cL p t k)->Q (.ref r) Y)
theorem adE{K:Frag}(T:pO K C):bP (sE C) (λE=>aR K [] [] [] [("left",C,u_ C)] (E:=E)) D9 KW:=by
 intro B H Q E h;obtain⟨w,L,p,t,k,rfl,⟨dx,U,Z,i,o,h1,h2,h3,h4,h5,⟨_,e⟩|⟨p',t',e,ho,e'⟩⟩,hk1,hk2,q⟩:=h
 ·cases e
 cases e';obtain⟨e1,e2,e3⟩:=Fc e;obtain⟨a,ea,ha⟩:=h3.at e1;have hp:=h4 _ (zaw e1);rw[xp p' o (by lia)] at hk2
 have OO:w≠L:=bX h1 h2 (by intro z;cases z)
 have nwa:a≠w:=bX ha h1 (by intro z;cases z)
 refine⟨_,rfl,w,C,dx,_,_,rfl,h1,T.cl,T.wU,AS,_,rfl,w,C,dx,_,_,rfl,h1,T.cl,T.rV,xq,.inl ⟨_,_,_,_,rfl,rfl,aE.of h2,fH ea,?_⟩⟩;refine⟨_,rfl,w,C,dx,_,_,rfl,h1,T.cl,T.wV,OM,?_⟩;refine⟨_,rfl,_,rfl,?_⟩;refine⟨_,rfl,_,rfl,w,C,dx,_,rfl,h1,T.cl,T.wV,(by show 3<1000;decide),?_⟩
 rw[ON,show(o:Int)+(k:Int)=((o+k:Nat):Int) by lia]
 have tup:∀(fs:cr),eS H (upd H w<|.ins C dx fs):=λfs b R eb=>by rw[aC<|bX eb h1 (by intro z;cases z)];exact eb
 refine⟨_,rfl,w,dx,_,rfl,aw,AU (by decide+kernel) (by decide+kernel) (by decide+kernel),w,L,dx,U,Z,i,o+k,p',rfl,aw,(by rw[aC OO.symm];exact h2),h3.mono<|tup _,e1,hp,?_⟩
 have V':∀(i' o':Nat),((Z.drop i'=[]/\cL (fQ p' o) t k=[])\/∃p t',Z.drop i'=p::t'/\o'<bK p/\cL (fQ p' o) t k=fQ p o'::t')->
   aB (aR K [] [] [] [("left",C,u_ C)] (E:=E)) (D9.drop 5) (Dn Q) [some<|.ref w,some<|.int (k:Int),some<|.ref a,some<|.int (o:Int),some<|.int ((o+k:Nat):Int)] (upd H w<|.ins C dx<|wf L (i':Int) (o':Int)):=by
  intro i' o' hr;have jQ:upd H w (.ins C dx<|wf L (i':Int) (o':Int)) a=some (.tup [.str p'.word,p'.val]):=by rw[aC nwa];exact ha
  have done:∀v:V,v=(bj (fQ p' o) k).val->∀r,upd H w (.ins C dx<|wf L (i':Int) (o':Int)) r=none->Q (.ref r) (upd (upd H w<|.ins C dx<|wf L (i':Int) (o':Int)) r<|.tup [.str p'.word,v]):=by
   rintro v rfl r qd;have OP:r≠w:=λz=>by rw[z,aw] at qd;cases qd
   have OQ:H r=none:=by rw[aC OP] at qd;exact qd
   have bt:cm w H (upd (upd H w<|.ins C dx<|wf L (i':Int) (o':Int)) r<|.tup [.str p'.word,(bj (fQ p' o) k).val]):=λb ob eb nb'=>by rw[aC<|aO eb OQ,aC nb'];exact eb
   refine q r _ bt (by rw[aw,adv,OK]) OQ ⟨dx,U,Z,i',o',?_,bt _ _ h2 OO.symm,h3.mono λb R eb=>bt b _ eb (bX eb h1 (by intro z;cases z)),h4,h5,hr⟩
   rw[aC OP.symm,aw]
  refine⟨_,rfl,.inr<|.inl ⟨_,_,_,_,rfl,rfl,aP.of jQ,rfl,?_⟩⟩;refine⟨_,rfl,.inr<|.inl ⟨_,_,_,_,rfl,rfl,aP.of jQ,rfl,_,rfl,?_⟩⟩;rw[zaG,ja];cases p' with
  |keep n=>exact hJ ⟨_,rfl,bQ,done _ rfl⟩
  |put s=>
   refine jA ⟨_,rfl,.inr<|.inl ⟨_,_,_,_,rfl,rfl,aP.of jQ,rfl,_,rfl,_,rfl,_,rfl,_,rfl,cK hp.1.1,bQ,done _ ?_⟩⟩;show V.str (j7 s (some (o:Int))<|some ((o+k:Nat):Int))=V.str ⟨((s.cps.toList.drop o).take k).toArray⟩;rw[zbf,Ov o (k:Int) k rfl]
  |cut s=>
   refine jA ⟨_,rfl,.inr<|.inl ⟨_,_,_,_,rfl,rfl,aP.of jQ,rfl,_,rfl,_,rfl,_,rfl,_,rfl,cK hp.1.1,bQ,done _ ?_⟩⟩;show V.str (j7 s (some (o:Int))<|some ((o+k:Nat):Int))=V.str ⟨((s.cps.toList.drop o).take k).toArray⟩;rw[zbf,Ov o (k:Int) k rfl]
 refine⟨_,rfl,?_⟩;rw[zaG];by_cases hz:k=bK p' - o
 ·refine iT ?_ (zqT (by congr 1;lia))
  refine⟨_,rfl,w,C,dx,_,_,rfl,aw,T.cl,T.rV,xq,_,rfl,w,C,dx,_,rfl,aw,T.cl,T.rV,(by show 3<1000;decide),?_⟩
  rw[yV,ady];refine⟨_,rfl,w,C,dx,_,rfl,aw,T.cl,T.wV,(by show 3<1000;decide),?_⟩
  rw[yV,ON,show(i:Int)+1=((i+1:Nat):Int) by lia]
  refine V' (i+1) 0 ?_;have er:cL (fQ p' o) t k=t:=BT (by rw[xp p' o (by lia)];exact hz)
  rw[er,e2];cases t with
  |nil=>exact .inl ⟨rfl,rfl⟩
  |cons p2 t2=>
   have hm:bx p2:=h4 p2 (zaV (by rw[e];exact .tail _ (.head _)))
   exact .inr ⟨p2,t2,rfl,(jU hm).2,by rw[drop_zero]⟩
 ·refine iF ?_ (zqF (by intro z;have z':(bK p':Int) - ((o+k:Nat):Int)=0:=(by injection z);lia))
  refine V' i (o+k)<|.inr ⟨p',t,e,by lia,?_⟩
  have er:cL (fQ p' o) t k=fQ (fQ p' o) k::t:=AT (by rw[xp p' o (by lia)];exact hz)
  rw[er,drop_drop]
def eW:dl->Nat
 |[]=>0
 |.P _::U=>eW U
 |.K::U=>eW U+1
 |.C _::U=>eW U+1
def cnt:dl->Nat
 |[]=>0
 |.K::U=>cnt U
 |.P _::U=>cnt U+1
 |.C _::U=>cnt U+1
theorem sG:∀(U:dl) (l:bn),fit l U->l.length=eW U
 |[],l,h=>by cases h;rfl
 |.P c::U,l,h=>sG U l h
 |.K::U,[],h=>h.elim
 |.K::U,a::l,h=>by simp[eW,sG U l h]
 |.C c::U,[],h=>h.elim
 |.C c::U,a::l,h=>by simp[eW,sG U l h.2]
theorem AV:∀(U R:dl),eW (U++R)=eW U+eW R
 |[],R=>by simp[eW]
 |.P c::U,R=>AV U R
 |.K::U,R=>by simp only[zaW,eW,AV U R];lia
 |.C c::U,R=>by simp only[zaW,eW,AV U R];lia
theorem AW:∀(U R:dl),cnt (U++R)=cnt U+cnt R
 |[],R=>by simp[cnt]
 |.K::U,R=>AW U R
 |.P c::U,R=>by simp only[zaW,cnt,AW U R];lia
 |.C c::U,R=>by simp only[zaW,cnt,AW U R];lia
theorem xr{R:dl}:∀(U:dl) (l:bn),fit l (U++R)->∃l1 l2,l=l1++l2/\fit l1 U/\fit l2 R/\out l (U++R)=out l1 U++out l2 R
 |[],l,h=>⟨[],l,rfl,rfl,h,rfl⟩
 |.P c::U,l,h=>by
  obtain⟨l1,l2,rfl,a,b,d⟩:=xr U l h;exact⟨l1,l2,rfl,a,b,by show c::out _ (U++R)=c::(out l1 U++out l2 R);rw[d]⟩
 |.K::U,[],h=>(show False from h).elim
 |.K::U,e::l,h=>by
  obtain⟨l1,l2,rfl,a,b,d⟩:=xr U l h;exact⟨e::l1,l2,rfl,a,b,by show e::out _ (U++R)=e::(out l1 U++out l2 R);rw[d]⟩
 |.C c::U,[],h=>(show False from h).elim
 |.C c::U,e::l,h=>by
  obtain⟨h0,h⟩:=(show e=c/\fit l (U++R) from h)
  obtain⟨l1,l2,rfl,a,b,d⟩:=xr U l h;exact⟨e::l1,l2,rfl,⟨h0,a⟩,b,d⟩
theorem adI{a b:bn}{zs:dl}(h:fit (a++b) (R++zs))(hl:a.length=eW R):fit a R/\fit b zs:=by
 obtain⟨l1,l2,e,h1,h2,_⟩:=xr R _ h;have:=sG _ _ h1;obtain⟨rfl,rfl⟩:=List.append_inj e (by lia)
 exact⟨h1,h2⟩
theorem Fd(n:Nat):eW (rK n)=n:=by
 induction n with
 |zero=>rfl
 |succ n ih=>show eW (rK n)+1=_;rw[ih]
theorem AX(s:bn):eW (s.map .C)=s.length:=by
 induction s with
 |nil=>rfl
 |cons c s ih=>show eW (s.map .C)+1=_;rw[ih];rfl
theorem dt.app{U os ts gf lK zk OR:dl}(h:dt U R os ts)(h':dt gf lK zk OR):dt (U++gf) (R++lK) (os++zk) (ts++OR):=by
 induction h with
 |nil=>exact h'
 |p1 _ ih=>exact .p1 ih
 |p2 _ ih=>exact .p2 ih
 |kk _ ih=>exact .kk ih
 |kc _ ih=>exact .kc ih
 |ck _ ih=>exact .ck ih
 |cc _ ih=>exact .cc ih
theorem OS:∀s:bn,dt (s.map .P) [] (s.map .P) (rK s.length)
 |[]=>.nil
 |c::s=>.p1 (OS s)
theorem OT:∀s:bn,dt [] (s.map .P) (rK s.length) (s.map .P)
 |[]=>.nil
 |c::s=>.p2 (OT s)
theorem OU:∀n:Nat,dt (rK n) (rK n) (rK n) (rK n)
 | 0=>.nil
 |n+1=>.kk (OU n)
theorem OV:∀s:bn,dt (rK s.length) (s.map .C) [] (s.map .C)
 |[]=>.nil
 |c::s=>.kc (OV s)
theorem OW:∀s:bn,dt (s.map .C) (rK s.length) (s.map .C) []
 |[]=>.nil
 |c::s=>.ck (OW s)
theorem OX:∀s:bn,dt (s.map .C) (s.map .C) [] []
 |[]=>.nil
 |c::s=>.cc (OX s)
theorem dt.adJ{U os ts:dl}(h:dt U R os ts):cnt os<=cnt U/\cnt ts<=cnt R:=by
 induction h<;>simp only[cnt] <;>lia
section
variable {J:aS}{D:Ends}{N:St}{H:Hp}{r:ci}{Q:VK}{QA:be->Hp->Prop}{d:ge}
theorem cq{m:Str}(C:wl)(sp:Sp)(hm:J.ms j=(C,sp))(h:aj J o N H λx H1=>∃a dx fs,x=.ref a/\H1 a=some (.ins C dx fs)/\fs.lookup m=none/\sp [x] H1 Q J.E):aj J (.aG j m o []) N H Q:=by
 show ni (J.ms j).1 m (J.ms j).2 [] J.E (aj J o) (bw J []) N H Q;rw[hm];exact h
theorem eG{m:Str}(C:wl)(sp:Sp)(hm:J.ms j=(C,sp))(h:aj J o N H λx H1=>∃p dx fs,x=.ref p/\H1 p=some (.ins C dx fs)/\fs.lookup m=none/\aj J a N H1 λy H2=>sp [x,y] H2 Q J.E):aj J (.aG j m o [a]) N H Q:=by
 show ni (J.ms j).1 m (J.ms j).2 [] J.E (aj J o) (bw J [a]) N H Q;rw[hm];exact h
theorem vg(C:wl)(sp:Sp)(hm:J.kt j=(C,sp))(h:aj J a N H λy H1=>∀x dx,H1 x=none->H1 dx=none->dx≠x->sp [.ref x,y] (upd (upd H1 dx<|.own x) x<|.ins C dx []) (λv H2=>v=.av/\Q (.ref x) H2) J.E):aj J (.make j [a]) N H Q:=by
 show zl (J.kt j).1 (J.kt j).2 [] J.E (bw J [a]) N H Q;rw[hm];exact h
theorem Fe{c:RE}{body:ci}(W1:Nat->St->Hp->Prop)(h0:∃m,W1 m N H)
  (h:∀m N H,W1 m N H->bC J c N H λb H1=>if b=true then ∃N0:St->Hp->Prop,(∀K' Y,N0 K' Y->∃m',m'<m/\W1 m' K' Y)/\aB J body {{D with nx:=aB J r D} with nx:=N0,ct:=N0,bk:=aB J r D} N H1 else aB J r D N H1):aB J (.rA c body::r) D N H:=⟨W1,h0,h⟩
theorem aY{op:CmpOp}{b:RE}(h:aj J a N H λx H1=>aj J b N H1 λy H2=>dB J.K op x y H2 λz H3=>∃k,z=.bl k/\d k H3):bC J (.cmp op a b) N H d:=h
theorem br{f:Str}(h:aj J o N H λx H1=>∃a C dx fs v,x=.ref a/\H1 a=some (.ins C dx fs)/\fE J.K C/\eh J.K C f/\fs.lookup f=some v/\Q v H1):aj J (.fld o f) N H Q:=h
theorem sH{m:je}(h:aj J o N H λx H1=>wg J.K (zT m) x H1/\aj J a N H1 λy H2=>Dh J.K m x [y] H2 Q):aj J (.cG m o [a]) N H Q:=h
theorem sI{K:Frag}{x:Str}(q:Q (.bl<|x==y) H):dB K .Eq (.str x) (.str y) H Q:=by
 show Q (.bl<|false ^^ decide (V.str x=V.str y)) H;rw[zaG,ja];exact q
theorem xu{K:Frag}{x:Str}(q:Q (.bl<|x !=y) H):dB K .NotEq (.str x) (.str y) H Q:=by
 show Q (.bl<|true ^^ decide (V.str x=V.str y)) H;rw[zaE,ja];exact q
end
theorem cf.ob{w:wl}{rs:bi}(h:cf C H w L rs):∃(dx:wl) (i o:Int),H w=some (.ins C dx<|wf L i o):=by
 obtain⟨dx,U,Z,i,o,h1,_⟩:=h;exact⟨dx,i,o,h1⟩
theorem Ff{i o:Int}:(wf L i o).lookup ("word":Str)=none/\(wf L i o).lookup ("left":Str)=none/\(wf L i o).lookup ("take":Str)=none:=
 ⟨AU (by decide+kernel) (by decide+kernel) (by decide+kernel),AU (by decide+kernel) (by decide+kernel) (by decide+kernel),AU (by decide+kernel) (by decide+kernel) (by decide+kernel)⟩
def fR(v:V)(lo hi:Int)(H:Hp):Prop:=jS v H\/∃i,v=.int i/\(i<lo\/hi<i)
theorem fR.same{lo hi:Int}(h:fR v lo hi H)(s:au H Y):fR v lo hi Y:=by
 rcases h with h|h
 ·exact .inl (h.same s)
 ·exact .inr h
inductive gh(B:be)(H:Hp)(Q:VK)(E:XK):Prop|i(v:V)(lo hi:Int)(_:B=[v,.int lo,.int hi])(_:((∃i,v=.int i/\lo<=i/\i<=hi/\Q (.bl true) H)\/(fR v lo hi H/\Q (.bl false) H)))
theorem adK{K:Frag}:bP (gh) (λE=>aR K [("is_whole",iC)] [] (E:=E)) KO KN:=by
 intro B H Q E h;have chain:∀(i lo hi:Int) (b:xz) (H:Hp),decide (lo<=i/\i<=hi)=b->Q (.bl b) H->aj (aR K [("is_whole",iC)] [] (E:=E)) (.wD .LtE .LtE (.v 1) (.v 0)<|.v 2) [some<|.int i,some<|.int lo,some<|.int hi] H Q:=by
  intro i lo hi b H hb q;refine⟨_,rfl,_,rfl,trivial,_,rfl,?_⟩;refine kR (λh1=>?_)<|λh1=>?_
  ·refine⟨_,rfl,trivial,?_⟩;have jl:lo<=i:=IO h1;have e:decide (i<=hi)=b:=by rw[<-hb];simp[jl]
   show Q (.bl<|decide<|i<=hi) H;rw[e];exact q
  ·have jl:¬lo<=i:=λz=>h1 (zqT z);have e:b=false:=by rw[<-hb];simp[jl]
   have e2:decide (lo<=i)=false:=zqF jl;rw[e] at q
   first
    |exact q
    | (show Q (.bl<|decide<|lo<=i) H;rw[e2];exact q)
 obtain⟨v,lo,hi,rfl,⟨i,rfl,h1,h2,q⟩|⟨hn|⟨i,rfl,hb⟩,q⟩⟩:=h
 ·exact⟨_,rfl,_,rfl,.inl ⟨i,rfl,_,rfl,hJ<|chain i lo hi true H (by simp[h1,h2]) q⟩⟩
 ·exact⟨_,rfl,_,rfl,.inr ⟨hn,_,rfl,jA q⟩⟩
 ·exact⟨_,rfl,_,rfl,.inl ⟨i,rfl,_,rfl,hJ<|chain i lo hi false H (by rw[zqF];rintro⟨a,b⟩;lia) q⟩⟩
section
open PySem.StrLaws
end
section
variable {J:aS}{D:Ends}{N:St}{H:Hp}{r:ci}{Q:VK}{QA:be->Hp->Prop}{d:ge}
theorem cU{K:Frag}{b:xz}{QB:xz->Prop}(h:QB b):j8 K (.bl b) H QB:=h
theorem cN(h:bC J a N H λb H1=>d (!b) H1):bC J (.not a) N H d:=h
theorem eI(sp:Sp)(hs:J.fs j=sp)(h:bw J W N H λB H1=>sp B H1 (λx H2=>j8 J.K x H2 λb=>d b H2) J.E):bC J (.call j W) N H d:=by
 subst hs;show bw J W N H λB H1=>J.fs j (B++[]) H1 (λx H2=>j8 J.K x H2 λb=>d b H2) J.E;have e:(fun(B:be) (H1:Hp)=>J.fs j (B++[]) H1 (λx H2=>j8 J.K x H2 λb=>d b H2) J.E)=λB H1=>J.fs j B H1 (λx H2=>j8 J.K x H2 λb=>d b H2) J.E:=by
  funext B H1;rw[zac]
 rw[e];exact h
theorem mH{b:RE}(h:bC J a N H λc H1=>if c=true then bC J b N H1 d else d false H1):bC J (.and [a,b]) N H d:=h
end
section
variable {J:aS}{N:St}{H:Hp}{Q:VK}{c:ge}{K:Frag}
theorem vh{T:Ty}(h:aj J a N H λx H1=>cy T x H1 λb=>c b H1):bC J (.iQ T a) N H c:=by
 show gr J.K (gK (pf T)<|d0 (aj J a)<|d0 (tC<|.ty T.nm) iM) N H c;have e:∀(q:VK),(fun(x:V) (H1:Hp)=>cy T x H1 λb=>q (.bl b) H1)=λx H1=>pf T [x,.ty T.nm] H1 q:=by
  intro q;funext x H1;simp[pf]
 show aj J a N H λx H1=>pf T [x,.ty T.nm] H1 λv H2=>j8 J.K v H2 λb=>c b H2;rw[<-e];exact h
theorem bO{sd:wl->ii->Prop}{a:wl}{i:Int}(h:H a=some (.tup U))(e:jx U i=some v)(q:Q v H):rC K sd (.ref a) (.int i) H Q:=
 .inr (.inl ⟨_,_,_,_,rfl,rfl,aP.of h,e,q⟩)
theorem gB{x y:Int}(q:Q (.bl<|decide<|x=y) H):dB K .Eq (.int x) (.int y) H Q:=by
 show Q (.bl<|false ^^ decide (V.int x=V.int y)) H;rw[zaG,show decide (V.int x=V.int y)=decide (x=y) from decide_eq_decide.mpr ⟨λz=>by injection z,λz=>by rw[z]⟩];exact q
theorem qe{x y:Int}(q:Q (.bl<|!decide (x=y)) H):dB K .NotEq (.int x) (.int y) H Q:=by
 show Q (.bl<|true ^^ decide (V.int x=V.int y)) H;rw[zaE,show decide (V.int x=V.int y)=decide (x=y) from decide_eq_decide.mpr ⟨λz=>by injection z,λz=>by rw[z]⟩];exact q
theorem ltI{x y:Int}(q:Q (.bl<|decide<|x<y) H):dB K .Lt (.int x) (.int y) H Q:=⟨trivial,q⟩
theorem cv{i j:Int}(h:Q (.int<|i+j) H):jd K .Add (.int i) (.int j) H Q:=h
theorem adL(h:∀p,H p=none->Q (.ref p) (upd H p<|.dK [])):aj J .rz N H Q:=h
end
section
open PyProof.Rows
end
theorem bU{D:Ends}{r:ci}(h:aB J r D N H):aB J [] {D with nx:=aB J r D} N H:=h
theorem OY{K:Frag}{QQ:be->Hp->wl->Prop}{te:TE}{a:wl}(ha:H a=some (.lst U))(hl:U.length<=1000000)(P:Nat->be->Hp->Prop)(p0:P 0 [] H)
  (step:∀i x R H2,U[i]?=some x->au H H2->P i R H2->∀Q':VK,(∀y H3,au H2 H3->P (i+1) (R++[y]) H3->Q' y H3)->te (some x::da N fv) H2 Q')
  (V':∀R H2 p,au H H2->P U.length R H2->H2 p=none->QQ R H2 p):∃W1:Nat->Nat->be->Hp->Prop,(∃m,W1 0 m [] H)/\∀i m R H2,W1 i m R H2->
   ((iK K a).stop i H2/\∀p,H2 p=none->QQ R H2 p)\/
   ((iK K a).go i H2/\∀x H3,(iK K a).jv i H2 x H3->j6 K none x H3 λzs=>nB none (zs.map some++da N fv) H3 λb H5=>
    if b=true then te (zs.map some++da N fv) H5 λy H6=>R.length<sizeLine/\∃m',m'<m/\W1 (i+1) m' (R++[y]) H6 else ∃m',m'<m/\W1 (i+1) m' R H5):=by
 refine⟨λi m R H2=>m=U.length - i/\i<=U.length/\R.length=i/\au H H2/\P i R H2,⟨_,rfl,zqZ _,rfl,au.refl _,p0⟩,?_⟩;rintro i m R H2 ⟨rfl,hi,hy,s,p⟩;by_cases bY:i<U.length
 ·refine .inr ⟨⟨U,U[i],aE.of<|s _ _ ha,by simp[bY]⟩,?_⟩
  rintro x H3 ⟨rfl,hx⟩;have lZ:=hx U (aE.of<|s _ _ ha);exact step i x R _ lZ s p _ λy H4 s4 p4=>⟨gb (by lia),U.length - (i+1),by lia,rfl,bY,by simp[hy],s.trans s4,p4⟩
 ·have nZ:i=U.length:=by lia
  subst nZ;exact .inl ⟨⟨U,aE.of<|s _ _ ha,zqR _⟩,λq hq=>V' R _ q s p hq⟩
theorem Fg{K:Frag}{QQ:be->Hp->wl->Prop}{te:TE}{lo:Int}{n:Nat}(hl:n<=1000000)(P:Nat->be->Hp->Prop)(p0:P 0 [] H)
  (step:∀i R H2,i<n->au H H2->P i R H2->∀Q':VK,(∀y H3,au H2 H3->P (i+1) (R++[y]) H3->Q' y H3)->te (some (.int<|lo+i)::da N fv) H2 Q')
  (V':∀R H2 p,au H H2->P n R H2->H2 p=none->QQ R H2 p):∃W1:Nat->Nat->be->Hp->Prop,(∃m,W1 0 m [] H)/\∀i m R H2,W1 i m R H2->
   ((ik lo n).stop i H2/\∀p,H2 p=none->QQ R H2 p)\/
   ((ik lo n).go i H2/\∀x H3,(ik lo n).jv i H2 x H3->j6 K none x H3 λzs=>nB none (zs.map some++da N fv) H3 λb H5=>
    if b=true then te (zs.map some++da N fv) H5 λy H6=>R.length<sizeLine/\∃m',m'<m/\W1 (i+1) m' (R++[y]) H6 else ∃m',m'<m/\W1 (i+1) m' R H5):=by
 refine⟨λi m R H2=>m=n - i/\i<=n/\R.length=i/\au H H2/\P i R H2,⟨_,rfl,zqZ _,rfl,au.refl _,p0⟩,?_⟩;rintro i m R H2 ⟨rfl,hi,hy,s,p⟩;by_cases bY:i<n
 ·refine .inr ⟨bY,?_⟩;rintro x H3 ⟨rfl,rfl⟩;exact step i R _ bY s p _ λy H4 s4 p4=>⟨gb (by lia),n - (i+1),by lia,rfl,bY,by simp[hy],s.trans s4,p4⟩
 ·have nZ:i=n:=by lia
  subst nZ;exact .inl ⟨zqR _,λq hq=>V' R _ q s p hq⟩
section
variable {J:aS}{D:Ends}{N:St}{H:Hp}{r:ci}{Q:VK}
theorem OZ{x:RE}(A B0:VK)(hab:∀v H1,A v H1↔B0 v H1)(ha:aj J x N H A):aj J x N H B0:=by
 have:A=B0:=funext λx=>funext λH1=>propext (hab x H1);rw[<-this];exact ha
theorem O0{x elt:RE}(h:aj J x N H λv H1=>∃a,v=.ref a/\(∃U,aE J.K H1 a U)/\∃W1:Nat->Nat->be->Hp->Prop,(∃m,W1 0 m [] H1)/\∀i m R H2,W1 i m R H2->
   ((iK J.K a).stop i H2/\∀p,H2 p=none->Q (.ref p) (upd H2 p<|.lst R))\/
   ((iK J.K a).go i H2/\∀x H3,(iK J.K a).jv i H2 x H3->j6 J.K none x H3 λzs=>nB none (zs.map some++da N fv) H3 λb H5=>
    if b=true then aj J.calm elt (zs.map some++da N fv) H5 λy H6=>R.length<sizeLine/\∃m',m'<m/\W1 (i+1) m' (R++[y]) H6 else ∃m',m'<m/\W1 (i+1) m' R H5)):aj J (.comp none fv .list [x] none elt) N H Q:=OZ (x:=x) _ _ (λ_ _=>Iff.rfl) h
theorem AY{m:Str}{b:RE}(C:wl)(sp:Sp)(hm:J.ms j=(C,sp))(h:aj J o N H λx H1=>∃p dx fs,x=.ref p/\H1 p=some (.ins C dx fs)/\fs.lookup m=none/\aj J a N H1 λy H2=>aj J b N H2 λz H3=>sp [x,y,z] H3 Q J.E):aj J (.aG j m o [a,b]) N H Q:=by
 show ni (J.ms j).1 m (J.ms j).2 [] J.E (aj J o) (bw J [a,b]) N H Q;rw[hm];exact h
theorem gC{x:RE}(h:aj J x N H λv H1=>ub J.K v H1 λn=>Q (.int n) H1):aj J (.blt .len [x]) N H Q:=h
variable {QT:ge}
theorem qf{b:RE}(C:wl)(sp:Sp)(hm:J.kt j=(C,sp))(h:aj J a N H λy H0=>aj J b N H0 λz H1=>∀x dx,H1 x=none->H1 dx=none->dx≠x->sp [.ref x,y,z] (upd (upd H1 dx<|.own x) x<|.ins C dx []) (λv H2=>v=.av/\Q (.ref x) H2) J.E):aj J (.make j [a,b]) N H Q:=by
 show zl (J.kt j).1 (J.kt j).2 [] J.E (bw J [a,b]) N H Q;rw[hm];exact h
theorem dw{e:RE}{f:Str}(h:aj J e N H λv H1=>aj J o N H1 λx H2=>∃a C dx fs,x=.ref a/\H2 a=some (.ins C dx fs)/\fE J.K C/\eh J.K C f/\fs.length<1000/\aB J r D N (upd H2 a<|.ins C dx<|aI f v fs)):aB J (.cH o f e::r) D N H:=h
end
theorem AZ{D:Ends}{r body:ci}{x:RE}(h:aj J x N H λv H1=>∃a,v=.ref a/\(∃U,aE J.K H1 a U)/\∃W1:Nat->Nat->St->Hp->Prop,(∃m,W1 0 m N H1)/\∀j m N H,W1 j m N H->
  ((iK J.K a).stop j H/\({D with nx:=aB J r D}:Ends).nx N H)\/((iK J.K a).go j H/\∃N0:St->Hp->Prop,(∀K' Y,N0 K' Y->∃m',m'<m/\W1 (j+1) m' K' Y)/\∀x Y,(iK J.K a).jv j H x Y->fV i x N Y λσ2 H2=>aB J body {({D with nx:=aB J r D}:Ends) with nx:=N0,ct:=N0,bk:=({D with nx:=aB J r D}:Ends).nx} σ2 H2)):
  aB J (.nG i .list [x] body::r) D N H:=OZ (x:=x) _ _ (λ_ _=>Iff.rfl) h
section
variable {J:aS}{D:Ends}{N:St}{H:Hp}{r:ci}{Q:VK}{c:ge}
theorem adN{i e:RE}(h:aj J e N H λv H1=>aj J o N H1 λx H2=>aj J i N H2 λy H3=>∃a H4,x=.ref a/\ud H3 a y v H4/\aB J r D N H4):aB J (.dput o i e::r) D N H:=h
theorem adO{b:RE}(h:aj J a N H λy H1=>aj J b N H1 λx H2=>∃d o,x=.ref d/\jC H2 d y o/\∃k,V.bl (!o.isSome)=.bl k/\c k H2):bC J (.wG a b) N H c:=h
variable {K:Frag}{M:db}{C:wl}{Y:Hp}{p dx d:wl}{n g:Nat}{az:ii}{es:List Ent}
theorem A0{i:Int}(h:Q (.int<|-i) H):aj J (.neg<|.c<|.int i) N H Q:=h
theorem O1{ix e:RE}(h:aj J e N H λv H1=>aj J o N H1 λx H2=>aj J ix N H2 λy H3=>Cv x y v H3 λH4=>aB J r D N H4):aB J (.set o ix e::r) D N H:=h
end
section
variable {J:aS}{D:Ends}{N:St}{H:Hp}{r:ci}{Q:VK}
theorem adP{lo hi:RE}(h:aj J a N H λx H1=>aj J lo N H1 λi H2=>∃i':Int,i=.int i'/\aj J hi N H2 λj H3=>∃j':Int,j=.int j'/\ui J.K x (some i') (some j') H3 Q):aj J (.sl a (some lo)<|some hi) N H Q:=h
end
theorem gR{K:Frag}{i j:Int}(h:Q (.int<|i - j) H):jd K .Sub (.int i) (.int j) H Q:=⟨trivial,h⟩
theorem A_(p:Pt)(t:bi)(k:Nat):(cL p t k).length<=t.length+1:=by
 unfold cL;split<;>simp
theorem xv{p:Pt}(t:bi){k:Nat}(hk:k<=bK p):aH (p::t)=cM (bj p k)++aH (cL p t k):=by
 unfold cL;rw[dQ,adw p k hk]
 split
 ·rename_i e
  have:cM (fQ p k)=[]:=by
   have hz:=xp p k hk;rw[e,ST] at hz;cases p with
   |keep n=>
    have nR:(n - (k:Int)).toNat=0:=by rw[e];exact hz
    show rK (n - (k:Int)).toNat=[];rw[nR];rfl
   |put s=>
    rw[<-e] at hz;have nR:(⟨(s.cps.toList.drop k).toArray⟩:Str).length=0:=hz;rw[ki] at nR;show(s.cps.toList.drop k).map At.P=[];rw[zaD.mp nR];rfl
   |cut s=>
    rw[<-e] at hz;have nR:(⟨(s.cps.toList.drop k).toArray⟩:Str).length=0:=hz;rw[ki] at nR;show(s.cps.toList.drop k).map At.C=[];rw[zaD.mp nR];rfl
  rw[this,zac]
 ·rw[dQ,zam]
theorem xx(p:Pt):(cM p).length=bK p:=by
 cases p with
 |keep n=>show(rK n.toNat).length=_;unfold rK;rw[zba];rfl
 |put s=>show(s.cps.toList.map At.P).length=_;rw[zaf,<-len_list];rfl
 |cut s=>show(s.cps.toList.map At.C).length=_;rw[zaf,<-len_list];rfl
theorem Ba{p:Pt}(t:bi){k:Nat}(h1:1<=k)(hk:k<=bK p):(aH<|cL p t k).length< (aH (p::t)).length:=by
 rw[xv t hk,zqA,xx,uZ p k hk];lia
theorem sJ{w:wl}{rs:bi}(hm:J.ms j=(C,u0 C))(hi:N[i]?=some (some<|.ref w))(W1:cf C H w L rs)(q:Q (.str<|lN rs) H):aj J (.aG j "word" (.v i) []) N H Q:=by
 obtain⟨dx,a,b,h1⟩:=W1.ob;exact cq C (u0 C) hm<|ag hi ⟨w,dx,_,rfl,h1,Ff.1,w,L,rs,rfl,W1,q⟩
theorem xy{w:wl}{p:Pt}{t:bi}(hm:J.ms j=(C,vd C))(hi:N[i]?=some (some<|.ref w))(W1:cf C H w L (p::t))(q:Q (.int (bK p:Int)) H):aj J (.aG j "left" (.v i) []) N H Q:=by
 obtain⟨dx,a,b,h1⟩:=W1.ob;exact cq C (vd C) hm<|ag hi ⟨w,dx,_,rfl,h1,Ff.2.1,w,L,p,t,rfl,W1,q⟩
theorem xC{w:wl}{p:Pt}{t:bi}{k:Nat}(hm:J.ms j=(C,sE C))(hi:N[i]?=some (some<|.ref w))(W1:cf C H w L (p::t))(h1:1<=k)(hk:k<=bK p)
  (ha:∀Q':VK,Q' (.int (k:Int)) H->aj J a N H Q') (q:∀r Y,cm w H Y->Y r=some (.tup [.str (bj p k).word,(bj p k).val])->H r=none->cf C Y w L (cL p t k)->Q (.ref r) Y):aj J (.aG j "take" (.v i) [a]) N H Q:=by
 obtain⟨dx,x,b,h0⟩:=W1.ob;refine eG C (sE C) hm<|ag hi ⟨w,dx,_,rfl,h0,Ff.2.2,ha _ ?_⟩;exact⟨w,L,p,t,k,rfl,W1,h1,hk,q⟩
theorem cm.O2{w:wl}{dx:wl}{fs:cr}(b:cm w H Y)(h:H w=some (.ins C dx fs)):eS H Y:=λc U e=>b c _ e (bX e h (by intro z;cases z))
theorem adQ(p:Pt):cnt (cM p)=iz p:=by
 cases p with
 |keep n=>
  show cnt (rK n.toNat)=0;have:∀m,cnt (rK m)=0:=λm=>by
   induction m with
   |zero=>rfl
   |succ m ih=>exact ih
  exact this _
 |put s=>
  show cnt (s.cps.toList.map At.P)=s.length;rw[len_list]
  induction s.cps.toList with
  |nil=>rfl
  |cons c t ih=>show cnt (t.map At.P)+1=_;rw[ih];rfl
 |cut s=>
  show cnt (s.cps.toList.map At.C)=s.length;rw[len_list]
  induction s.cps.toList with
  |nil=>rfl
  |cons c t ih=>show cnt (t.map At.C)+1=_;rw[ih];rfl
theorem O3(Z:bi):cnt (aH Z)=bg Z:=by
 induction Z with
 |nil=>rfl
 |cons p Z ih=>
  rw[dQ,AW,adQ,ih]
  simp[bg]
def sL(w c d:wl)(H Y:Hp):Prop:= ∀b o,H b=some o->b≠w->b≠c->b≠d->Y b=some o
theorem cf.Bb{w v c d:wl}{rs:bi}{R:be}(h:cf C H w L rs)(b:sL v c d H Y)(hc:H c=some (.lst U))(hd:H d=some (.lst R))(nc:c≠L)(nd:d≠L)(nw:w≠v)(nv:∃C' dx fs,H v=some (.ins C' dx fs)):cf C Y w L rs:=by
 obtain⟨C',Fh,vV,hv⟩:=nv;refine h.keep λe o he z=>b e o he ?_ ?_ ?_
 all_goals obtain⟨dx,_,_,_,_,h1,h2,_⟩:=h
 ·rcases z with rfl|rfl|⟨R,rfl⟩
  ·exact nw
  ·exact bX h2 hv (by intro z;cases z)
  ·exact bX he hv (by intro z;cases z)
 ·rcases z with rfl|rfl|⟨R,rfl⟩
  ·exact bX h1 hc (by intro z;cases z)
  ·exact nc.symm
  ·exact bX he hc (by intro z;cases z)
 ·rcases z with rfl|rfl|⟨R,rfl⟩
  ·exact bX h1 hd (by intro z;cases z)
  ·exact nd.symm
  ·exact bX he hd (by intro z;cases z)
inductive sM(C:wl)(B:be)(H:Hp)(Q:VK)(E:XK):Prop|i(w L c d:wl)(s:Str)(t:bi)(U R:be)(_:B=[.ref w,.ref c,.ref d])(_:cf C H w L (.put s::t))(_:H c=some (.lst U))(_:H d=some (.lst R))(_:c≠d)(_:c≠L)(_:d≠L)(_:U.length<=100000)(_:R.length<=100000)(_:∀(a a2:wl) (Y:Hp),sL w c d H Y->Y c=some (.lst<|U++[.ref a])->Y d=some (.lst<|R++[.ref a2])->Y a=some (.tup [.str "put",.str s])->Y a2=some (.tup [.str "keep",.int (s.length:Int)])->cf C Y w L t->Q .av Y)
theorem adR{K:Frag}:bP (sM C) (λE=>aR K [("part_size",rZ)] [] [] [("take",C,sE C),("left",C,vd C)] (E:=E)) KZ KY:=by
 intro B H Q E h;obtain⟨w,L,c,d,s,t,U,R,rfl,W5,hc,hd,gE,oi,oj,lx,ly,q⟩:=h;have qg:=W5.ok _ (.head _);obtain⟨pz1,Fi⟩:=jU qg;have ta:bj (.put s) (bK<|.put s)=.put s:=take_all _ trivial;have re:cL (.put s) t (bK<|.put s)=t:=BT rfl;refine bq<|xC (C:=C) (k:=bK (.put s)) rfl rfl W5 Fi (zqR _) (λQ' hq=>xy (C:=C) rfl rfl W5 hq) λa H1 b1 ha B3 W1=>?_;rw[ta] at ha;rw[re] at W1;obtain⟨_,_,_,hw⟩:=W5.ob;have sN:c≠w:=bX hc hw (by intro z;cases z)
 have sO:d≠w:=bX hd hw (by intro z;cases z)
 have gz:=b1 _ _ hc sN;have xD:=b1 _ _ hd sO;refine cZ<|sH<|ag rfl ⟨.inl ⟨rfl,_,aE.of gz⟩,ag rfl ⟨U,gz,gb (by lia),?_⟩⟩
 have hd2:upd H1 c (.lst<|U++[V.ref a]) d=some (.lst R):=by rw[aC gE.symm];exact xD
 have hV:upd H1 c (.lst<|U++[V.ref a]) a=some (.tup [.str "put",.str s]):=by rw[aC<|bX ha gz (by intro z;cases z)];exact ha
 refine cZ<|sH<|ag rfl ⟨.inl ⟨rfl,_,aE.of hd2⟩,bN<|ak<|ao<|ak<|ba rZ rfl<|ak<|ag rfl<|aA ⟨_,.put s,rfl,⟨a,rfl,hV⟩,EA qg,aA ⟨bQ,λa2 h2=>?_⟩⟩⟩;have O4:upd (upd H1 c<|.lst<|U++[V.ref a]) a2 (.tup [.str "keep",.int<|rY<|.put s]) d=some (.lst R):=by rw[aC<|aO hd2 h2];exact hd2
 refine⟨R,O4,gb (by lia),?_⟩
 have O5:c≠a2:=λz=>by rw[<-z,aw] at h2;cases h2
 have adS:d≠a2:=aO hd2 h2;have f2:H1 a2=none:=by rw[aC O5.symm] at h2;exact h2
 refine q a a2 _ ?_ ?_ aw ?_ ?_ ?_
 ·intro b o e n1 n2 n3;rw[aC n3,aC<|aO (b1 b o e n1) f2,aC n2];exact b1 b o e n1
 ·rw[aC gE,aC O5,aw]
 ·rw[aC<|bX hV hd2 (by intro z;cases z),aC<|aO hV h2];exact hV
 ·rw[aC adS.symm,aw];rfl
 ·refine((W1.but cm.upd gz oi).same<|sameNew h2).but cm.upd O4 oj
inductive xE(B:be)(H:Hp)(Q:VK)(E:XK):Prop|i(v1 v2:V)(c d:wl)(p1 p2:Pt)(U R:be)(_:B=[v1,v2,.ref c,.ref d])(_:iW H v1 p1)(_:iW H v2 p2)(_:(∀s,p1≠ .put s))(_:(∀s,p2≠ .put s))(_:(∀s s',p1=.cut s->p2=.cut s'->s=s'))(_:H c=some (.lst U))(_:H d=some (.lst R))(_:c≠d)(_:U.length<=100000)(_:R.length<=100000)(_:∀(Y:Hp),(∀b o,H b=some o->b≠c->b≠d->Y b=some o)->Y c=some (.lst<|U++if NZ p2 then [v1] else [])->Y d=some (.lst<|R++if NZ p1 then [v2] else [])->Q .av Y)
theorem adT{K:Frag}{et:em}:bP (xE) (λE=>aR K [] [] (et:=et) (E:=E)) Ea D_:=by
 intro B H Q E h;obtain⟨v1,v2,c,d,p1,p2,U,R,rfl,⟨a1,rfl,h1⟩,⟨a2,rfl,h2⟩,np1,qh,heq,hc,hd,gE,lx,ly,q⟩:=h;have qW:∀zs,upd H c (.lst zs) d=some (.lst R):=λzs=>by rw[aC gE.symm];exact hd
 have bc:∀zs b o,H b=some o->b≠c->b≠d->upd H c (.lst zs) b=some o:=λzs b o e n1 _=>by rw[aC n1];exact e
 have bd:∀zs b o,H b=some o->b≠c->b≠d->upd H d (.lst zs) b=some o:=λzs b o e _ n2=>by rw[aC n2];exact e
 have bcd:∀zs ws b o,H b=some o->b≠c->b≠d->upd (upd H c<|.lst zs) d (.lst ws) b=some o:=λzs ws b o e n1 n2=>by rw[aC n2,aC n1];exact e
 cases p1 with
 |put s=>exact absurd rfl (np1 s)
 |keep n=>
  refine⟨_,rfl,.inr<|.inl ⟨_,_,_,_,rfl,rfl,aP.of h1,rfl,_,rfl,?_⟩⟩;refine⟨_,rfl,.inr<|.inl ⟨_,_,_,_,rfl,rfl,aP.of h2,rfl,_,rfl,?_⟩⟩;cases p2 with
  |put s=>exact absurd rfl (qh s)
  |keep m=>
   refine⟨_,rfl,.inl ⟨rfl,_,aE.of hc⟩,_,rfl,U,hc,gb (by lia),?_⟩
   have jl:upd H c (.lst<|U++[V.ref a1]) a1=some (.tup [.str "keep",.int n]):=by rw[aC<|bX h1 hc (by intro z;cases z)];exact h1
   refine⟨_,rfl,.inr<|.inl ⟨_,_,_,_,rfl,rfl,aP.of jl,rfl,_,rfl,?_⟩⟩;refine⟨_,rfl,.inl ⟨rfl,_,aE.of<|qW _⟩,_,rfl,R,qW _,gb (by lia),?_⟩
   exact q _ (bcd _ _) (by rw[aC gE,aw];rfl) (by rw[aw];rfl)
  |cut s=>
   refine⟨_,rfl,.inl ⟨rfl,_,aE.of hd⟩,_,rfl,R,hd,gb (by lia),?_⟩
   exact q _ (bd _) (by rw[aC gE,hc];simp[NZ]) (by rw[aw];rfl)
 |cut s=>
  refine⟨_,rfl,.inr<|.inl ⟨_,_,_,_,rfl,rfl,aP.of h1,rfl,_,rfl,?_⟩⟩;refine⟨_,rfl,.inr<|.inl ⟨_,_,_,_,rfl,rfl,aP.of h2,rfl,_,rfl,?_⟩⟩;cases p2 with
  |put s=>exact absurd rfl (qh s)
  |keep m=>
   refine⟨_,rfl,.inr<|.inl ⟨_,_,_,_,rfl,rfl,aP.of h2,rfl,_,rfl,?_⟩⟩;refine⟨_,rfl,.inl ⟨rfl,_,aE.of hc⟩,_,rfl,U,hc,gb (by lia),?_⟩
   have jl:upd H c (.lst<|U++[V.ref a1]) a1=some (.tup [.str "cut",.str s]):=by rw[aC<|bX h1 hc (by intro z;cases z)];exact h1
   refine⟨_,rfl,.inr<|.inl ⟨_,_,_,_,rfl,rfl,aP.of jl,rfl,_,rfl,?_⟩⟩;exact q _ (bc _) (by rw[aw];rfl) (by rw[qW];simp[NZ])
  |cut s'=>
   have e:=heq s s' rfl rfl;subst e;refine⟨_,rfl,.inr<|.inl ⟨_,_,_,_,rfl,rfl,aP.of h1,rfl,_,rfl,.inr<|.inl ⟨_,_,_,_,rfl,rfl,aP.of h2,rfl,_,rfl,?_⟩⟩⟩;rw[zaE,zqT (show(Pt.cut s).val=(Pt.cut s).val from rfl)]
   exact q _ (λb o e _ _=>e) (by rw[hc];simp[NZ]) (by rw[hd];simp[NZ])
theorem O6{b:RE}{QT:ge}(h:bC J a N H λc H1=>if c=true then QT true H1 else bC J b N H1 QT):bC J (.or [a,b]) N H QT:=h
inductive fA:dl->dl->dl->dl->Prop
 |nil:fA [] [] [] []
 |p1 {c U R os ts:_}:fA U R os ts->fA (.P c::U) R (.P c::os) (.K::ts)
 |p2 {c U R os ts:_}:(∀d zs,U≠ .P d::zs)->fA U R os ts->fA U (.P c::R) (.K::os) (.P c::ts)
 |kk {U R os ts:_}:fA U R os ts->fA (.K::U) (.K::R) (.K::os) (.K::ts)
 |kc {c U R os ts:_}:fA U R os ts->fA (.K::U) (.C c::R) os (.C c::ts)
 |ck {c U R os ts:_}:fA U R os ts->fA (.C c::U) (.K::R) (.C c::os) ts
 |cc {c U R os ts:_}:fA U R os ts->fA (.C c::U) (.C c::R) os ts
def Seg(a b o t:dl):Prop:=dt a b o t/\∀U R os ts,fA U R os ts->fA (a++U) (b++R) (o++os) (t++ts)
theorem adW(s:bn):Seg (s.map .P) [] (s.map .P) (rK s.length):=⟨OS s,by
 induction s with
 |nil=>intro U R os ts h;exact h
 |cons c s ih=>intro U R os ts h;exact .p1 (ih U R os ts h)⟩
theorem adX(n:Nat):Seg (rK n) (rK n) (rK n) (rK n):=⟨OU n,by
 induction n with
 |zero=>intro U R os ts h;exact h
 |succ n ih=>intro U R os ts h;exact .kk (ih U R os ts h)⟩
theorem adY(s:bn):Seg (rK s.length) (s.map .C) [] (s.map .C):=⟨OV s,by
 induction s with
 |nil=>intro U R os ts h;exact h
 |cons c s ih=>intro U R os ts h;exact .kc (ih U R os ts h)⟩
theorem adZ(s:bn):Seg (s.map .C) (rK s.length) (s.map .C) []:=⟨OW s,by
 induction s with
 |nil=>intro U R os ts h;exact h
 |cons c s ih=>intro U R os ts h;exact .ck (ih U R os ts h)⟩
theorem ad0(s:bn):Seg (s.map .C) (s.map .C) [] []:=⟨OX s,by
 induction s with
 |nil=>intro U R os ts h;exact h
 |cons c s ih=>intro U R os ts h;exact .cc (ih U R os ts h)⟩
theorem O7{U R os ts:dl}(hn:∀d zs,U≠ .P d::zs)(h:fA U R os ts):∀s:bn,fA U (s.map .P++R) (rK s.length++os) (s.map .P++ts)
 |[]=>h
 |c::s=>.p2 hn (O7 hn h s)
def mI(U R a b z1 z2 o t:dl):Prop:=dt z1 z2 o t/\∀os ts,fA a b os ts->fA U R (o++os) (t++ts)
theorem mI.seg{U a1 a b1 b z1 z2 o t o1 t1:dl}(h:mI U R (a1++a) (b1++b) z1 z2 o t)(s:Seg a1 b1 o1 t1):mI U R a b (z1++a1) (z2++b1) (o++o1) (t++t1):=
 ⟨h.1.app s.1,λos ts hp=>by rw[zam,zam];exact h.2 _ _ (s.2 _ _ _ _ hp)⟩
theorem mI.p2{U a b z1 z2 o t:dl}{s:bn}(hn:∀d zs,a≠ .P d::zs)(h:mI U R a (s.map .P++b) z1 z2 o t):mI U R a b z1 (z2++s.map .P) (o++rK s.length) (t++s.map .P):=
 ⟨by have:=h.1.app (OT s);rw[zac] at this;exact this,λos ts hp=>by rw[zam,zam];exact h.2 _ _ (O7 hn hp s)⟩
theorem ad1(ho:∀p∈Z,bx p)(h:lN Z≠"put"):∀d zs,aH Z≠ .P d::zs:=by
 intro d zs;cases Z with
 |nil=>intro z;cases z
 |cons p t=>
  have hp:=ho p (.head _);rw[dQ];cases p with
  |put s=>exact absurd rfl h
  |keep n=>
   obtain⟨m,e⟩:∃m,n.toNat=m+1:=⟨n.toNat - 1,by have:1<=n:=hp;lia⟩
   show rK n.toNat++_≠_;rw[e];intro z;cases z
  |cut s=>
   obtain⟨c,r,e⟩:=kh hp.2;show s.cps.toList.map At.C++_≠_;rw[e];intro z;cases z
structure Passed (one D' Z qs:bi) (l m n:bn):Prop where
 Bc:∀p∈Z,bx p
 ok2:∀p∈qs,bx p
 O8:chainOk "" Z=true
 ch2:chainOk "" qs=true
 runs:∃r,Run n Z r/\Run m qs r
 qi:Z.length<=3* (one.length+D'.length)+2
 sP:qs.length<=3* (one.length+D'.length)+2
 ad2:bg Z<=bg one
 ajp:bg qs<=bg D'
 pas:∃os ts,dt (aH one) (aH D') os ts/\nb (aH Z)=nb os/\nb (aH qs)=nb ts
 ad3:∃os ts,fA (aH one) (aH D') os ts/\nb (aH Z)=nb os/\nb (aH qs)=nb ts
theorem O9{l:bn}(ho:∀p∈Z,bx p)(ht:bg Z<=100000)(h:fit l (aH Z)):(∀p∈ke Z,bx p)/\chainOk "" (ke Z)=true/\Run l (ke Z) (out l<|aH Z)/\bg (ke Z)=bg Z:=by
 have Fj:=acB ho ht;have heq:=acq Z Fj;obtain⟨g1,g2,_⟩:=acw Z Fj ht;rw[heq];exact⟨g2,g1,acI<|AN Z l (λp hp=>xn<|ho p hp) h,acM Z Fj⟩
theorem ad4{one D' r1 r2:bi}{l m n:bn}(h1:Run l one m)(h2:Run l D' n)(o1:∀p∈r1,bx p)(o2:∀p∈r2,bx p)(l1:r1.length<=one.length+D'.length)(l2:r2.length<=one.length+D'.length)(ht:bg one+bg D'<=100000)
  (h:dt (aH one) (aH D') (aH r1) (aH r2)) (hO:fA (aH one) (aH D') (aH r1) (aH r2)):Passed one D' (ke r1) (ke r2) l m n/\bg r1<=100000/\bg r2<=100000:=by
 obtain⟨c1,c2⟩:=h.adJ;rw[O3,O3] at c1 c2;obtain⟨f1,f2⟩:=h1.fits;obtain⟨f3,f4⟩:=h2.fits;obtain⟨g1,g2,g3⟩:=h.fits l f1 f3;rw[f2] at g1 g3;rw[f4] at g2 g3;obtain⟨a1,a2,a3,a4⟩:=O9 o1 (by lia) g2
 obtain⟨b1,b2,b3,b4⟩:=O9 o2 (by lia) g1
 have n1:=N8 r1;have n2:=N8 r2;refine⟨⟨a1,b1,a2,b2,⟨_,a3,by rw[<-g3];exact b3⟩,by lia,by lia,by lia,by lia,⟨_,_,h,AO r1 λp hp=>xn (o1 p hp),AO r2 λp hp=>xn (o2 p hp)⟩,⟨_,_,hO,AO r1 λp hp=>xn (o1 p hp),AO r2 λp hp=>xn (o2 p hp)⟩⟩,by lia,by lia⟩
inductive vi(B:be)(H:Hp)(Q:VK)(E:XK):Prop|i(a b:wl)(U R:be)(one D':bi)(l m n:bn)(_:B=[.ref a,.ref b])(_:H a=some (.lst U))(_:H b=some (.lst R))(_:bh H U one)(_:bh H R D')(_:(∀p∈one,bx p))(_:(∀p∈D',bx p))(_:chainOk "" one=true)(_:chainOk "" D'=true)(_:one.length+D'.length<=30000)(_:bg one+bg D'<=100000)(_:Run l one m)(_:Run l D' n)(_:∀(t c d:wl) (Y:Hp) (zs ws:be) (Z qs:bi),au H Y->H c=none->H d=none->c≠d->Y t=some (.tup [.ref c,.ref d])->Y c=some (.lst zs)->Y d=some (.lst ws)->bh Y zs Z->bh Y ws qs->Passed one D' Z qs l m n->Q (.ref t) Y)
abbrev xF(C:wl):le:=[("sizes",kd),("put_first",sM C),("share",xE),("neat",uK)]
abbrev vj(C:wl):List (Str×wl×Sp):=[("word",C,u0 C),("left",C,vd C),("take",C,sE C)]
theorem Fl{p:Pt}{t:bi}:(lN (p::t) !="")=true:=by
 cases p<;>rfl
inductive Fm (C a b w v c d L M:wl)(H:Hp)(one D':bi)(mm:Nat)(N:St)(H6:Hp):Prop|i(u:sK)(zs ws:be)(r1 r2 p1 p2:bi)(z1 z2:dl)(l':bn)(_:mm=(aH p1).length+(aH p2).length)(_:N=[some<|.ref a,some<|.ref b,some<|.ref w,some<|.ref v,some<|.ref c,some<|.ref d,u])(_:au H H6)(_:H6 c=some (.lst zs))(_:H6 d=some (.lst ws))(_:bh H6 zs r1)(_:bh H6 ws r2)(_:(∀p∈r1,bx p))(_:(∀p∈r2,bx p))(_:cf C H6 w L p1)(_:cf C H6 v M p2)(_:aH one=z1++aH p1)(_:aH D'=z2++aH p2)(_:mI (aH one) (aH D') (aH p1) (aH p2) z1 z2 (aH r1) (aH r2))(_:fit l' (aH p1))(_:fit l' (aH p2))(_:r1.length+p1.length+p2.length<=one.length+D'.length)(_:r2.length+p1.length+p2.length<=one.length+D'.length):Fm C a b w v c d L M H one D' mm N H6
theorem ad5{K:Frag}{et:em}(T:pO K C):bP (vi) (λE=>aR K (xF C) [] [] (vj C) [("Walk",C,kj C)] (et:=et) (E:=E)) Ec Eb:=by
 intro B H Q E h;obtain⟨a,b,U,R,one,D',l,m,n,rfl,ha,hb,l_,sQ,jf,gm,gz,oY,hlen,ad6,Fn,qd,q⟩:=h;have lx:=Db l_;have ly:=Db sQ;obtain⟨f1,f2⟩:=Fn.fits;obtain⟨f3,f4⟩:=qd.fits;refine YL<|aY<|a_<|ba kd rfl<|ak<|ag rfl<|aA ⟨a,U,one,rfl,ha,l_,jf,gz,by lia,λt1 H1 s1 sj=>?_⟩
 refine ao<|.inr<|.inl ⟨_,_,_,_,rfl,rfl,aP.of sj,rfl,?_⟩;refine a_<|ba kd rfl<|ak<|ag rfl<|aA ⟨b,R,D',rfl,s1 _ _ hb,sQ.mono<|cB s1,gm,oY,by lia,λt2 H2 s2 jV=>?_⟩
 refine ao<|.inr<|.inl ⟨_,_,_,_,rfl,rfl,aP.of jV,rfl,?_⟩;show ∃k,V.bl (true ^^ decide (V.int (overOf one).sum=V.int (overOf D').sum))=V.bl k/\_;refine⟨_,rfl,?_⟩;rw[Fn.over,qd.over,zqT rfl];have dF:=s1.trans s2;refine bq<|vg C (kj C) rfl<|ag rfl λw dx hw Fo fX=>?_;have s3:au H2 (upd (upd H2 dx<|.own w) w<|.ins C dx []):=λb o e=>by rw[aC<|aO e hw,aC<|aO e Fo];exact e
 have iZ:=dF.trans s3;refine⟨w,dx,a,U,one,rfl,aw,iZ _ _ ha,l_.mono<|cB iZ,jf,by lia,λL H3 hL hLw b3 W1=>⟨rfl,?_⟩⟩
 have km:au H H3:=λb o e=>b3 b o (iZ b o e) (aO (dF b o e) hw);have fw:H w=none:=dF.free hw;refine bq<|vg C (kj C) rfl<|ag rfl λv sR hv Fp ad8=>?_;have s4:au H3 (upd (upd H3 sR<|.own v) v<|.ins C sR []):=λb o e=>by rw[aC<|aO e hv,aC<|aO e Fp];exact e
 have gF:=km.trans s4;refine⟨v,sR,b,R,D',rfl,aw,gF _ _ hb,sQ.mono<|cB gF,gm,by lia,λM H5 hM hMv b5 V5=>⟨rfl,?_⟩⟩
 have om:au H3 H5:=λb o e=>b5 b o (s4 b o e) (aO e hv);have ko:=km.trans om;have fv:H v=none:=km.free hv;have W5:=W1.same om;obtain⟨_,_,_,Fq⟩:=W1.ob;have oo:w≠v:=aO Fq hv;refine bq<|bV<|aA ⟨zqZ _,λc hc=>?_⟩;refine bq<|bV<|aA ⟨zqZ _,λd hd=>?_⟩;have gE:c≠d:=λz=>by rw[<-z,aw] at hd;cases hd
 have sS:H5 d=none:=by rw[aC gE.symm] at hd;exact hd
 have fc:H c=none:=ko.free hc;have fd:H d=none:=ko.free sS;have lst:∀{H4:Hp}{w' L':wl}{rs:bi},cf C H4 w' L' rs->∃zs,H4 L'=some (.lst zs):=λ⟨_,zs,_,_,_,_,h,_⟩=>⟨zs,h⟩;obtain⟨_,oq⟩:=lst W5;obtain⟨_,xG⟩:=lst V5;have oi:c≠L:=(aO oq hc).symm;have sT:c≠M:=(aO xG hc).symm;have oj:d≠L:=(aO oq sS).symm;have sU:d≠M:=(aO xG sS).symm;have s6:au H5 (upd (upd H5 c<|.lst []) d<|.lst []):=(sameNew hc).trans (sameNew hd);refine Fe (Fm C a b w v c d L M H one D')
  ⟨_,none,[],[],[],[],one,D',[],[],l,rfl,rfl,ko.trans s6,(by rw[aC gE,aw]),aw,.nil,.nil,(λp hp=>by cases hp),(λp hp=>by cases hp),W5.same s6,V5.same s6,rfl,rfl,⟨.nil,λ_ _ h=>h⟩,f1,f3,by simp,by simp⟩ ?_
 rintro mm N H6 ⟨u,zs,ws,r1,r2,p1,p2,z1,z2,l',rfl,rfl,jk,gA,hX,hz,vk,o1,o2,W6,V6,e1,e2,mJ,fa,fb,qi,sP⟩;have hzl:=Db hz;have kQ:=Db vk;obtain⟨dxw,iw,ow,jW⟩:=W6.ob;obtain⟨dxv,iv,ov,qj⟩:=V6.ob;have sN:c≠w:=bX gA jW (by intro z;cases z)
 have xH:c≠v:=bX gA qj (by intro z;cases z)
 have sO:d≠w:=bX hX jW (by intro z;cases z)
 have xI:d≠v:=bX hX qj (by intro z;cases z)
 have V':p1=[]->p2=[]->aB (aR K (xF C) [] [] (vj C) [("Walk",C,kj C)] (et:=et) (E:=E)) [.ret<|.tup [(.call 3 [.v 4]),(.call 3 [.v 5])]] (Dn Q) [some<|.ref a,some<|.ref b,some<|.ref w,some<|.ref v,some<|.ref c,some<|.ref d,u] H6:=by
  rintro rfl rfl;rw[show aH []=[] from rfl,zac] at e1 e2
  subst e1 e2
  simp only[zbt] at qi sP
  have hO:=mJ.2 [] [] .nil;rw[zac,zac] at hO;have mJ:=mJ.1;obtain⟨J1,t1,t2⟩:=ad4 Fn qd o1 o2 (by lia) (by lia) ad6 mJ hO
  refine bL<|bN<|ak<|ba uK rfl<|ak<|ag rfl<|aA ⟨c,zs,r1,rfl,gA,hz,by lia,t1,λe H7 vs7 s7 he h7 xj=>?_⟩
  refine ak<|ba uK rfl<|ak<|ag rfl<|aA ⟨d,ws,r2,rfl,s7 _ _ hX,vk.mono<|cB s7,by lia,t2,λg H8 vs8 s8 hg h8 hv8=>?_⟩
  refine aA ⟨bQ,λt ht=>?_⟩;have s9:=sameNew (o:=.tup [V.ref e,V.ref g]) ht;have neg:e≠g:=aO h7 hg;exact q t e g _ vs7 vs8 _ _ (jk.trans<|s7.trans<|s8.trans s9) (jk.free he) ((jk.trans s7).free hg) neg aw (s9 _ _<|s8 _ _ h7) (s9 _ _ h8) ((xj.mono<|cB s8).mono<|cB s9) (hv8.mono<|cB s9) J1
 have turn:(p1≠ []\/p2≠ [])->∃N0:St->Hp->Prop,(∀K' Y,N0 K' Y->∃m',m'< (aH p1).length+(aH p2).length/\Fm C a b w v c d L M H one D' m' K' Y)/\
   aB (aR K (xF C) [] [] (vj C) [("Walk",C,kj C)] (et:=et) (E:=E)) [.ite (.cmp .Eq (.aG 0 "word" (.v 2) []) (.c (.str "put"))) [.drop (.call 1 [.v 2,.v 4,.v 5])] [.ite (.cmp .Eq (.aG 0 "word" (.v 3) []) (.c (.str "put"))) [.drop (.call 1 [.v 3,.v 5,.v 4])] [.asg 6 (.blt .min [(.aG 1 "left" (.v 2) []),(.aG 1 "left" (.v 3) [])]),
    .drop (.call 2 [(.aG 2 "take" (.v 2) [.v 6]),(.aG 2 "take" (.v 3) [.v 6]),.v 4,.v 5])]]]
    {{Dn Q with nx:=aB (aR K (xF C) [] [] (vj C) [("Walk",C,kj C)] (et:=et) (E:=E)) [.ret<|.tup [(.call 3 [.v 4]),(.call 3 [.v 5])]] (Dn Q)} with nx:=N0,ct:=N0,bk:=aB (aR K (xF C) [] [] (vj C) [("Walk",C,kj C)] (et:=et) (E:=E)) [.ret<|.tup [(.call 3 [.v 4]),(.call 3 [.v 5])]] (Dn Q)} [some<|.ref a,some<|.ref b,some<|.ref w,some<|.ref v,some<|.ref c,some<|.ref d,u] H6:=by
  intro aee;refine⟨_,λK' Y z=>z,?_⟩;have xJ:∀{H7:Hp}{x:wl},H x=none->sL x c d H6 H7->au H H7:=λ{H7 x} hx b e o he=>b e o (jk e o he) (aO he hx) (aO he fc) (aO he fd);have O_:∀{H7:Hp}{x:wl}{C' Fh vV},H6 x=some (.ins C' Fh vV)->sL x c d H6 H7->eS H6 H7:=λ{H7 x C' Fh vV} hx b e B he=>b e _ he (bX he hx (by intro z;cases z)) (bX he gA (by intro z;cases z)) (bX he hX (by intro z;cases z))
  have vm:∀{r:bi}{x:Pt},(∀p∈r,bx p)->bx x->∀p∈r++[x],bx p:=λ{r x} h hx p hp=>by
   rcases zak.mp hp with z|z
   ·exact h p z
   ·rw[zag.mp z];exact hx
  refine YL<|aY<|sJ (C:=C) rfl rfl W6<|ao<|sI ⟨_,rfl,?_⟩;by_cases dD:lN p1="put"
  ·obtain⟨s,t,rfl⟩:∃s t,p1=.put s::t:=by
    cases p1 with
    |nil=>exact absurd (show(Str.ofString "")="put" from dD) (by decide)
    |cons p t=>
     cases p with
     |put s=>exact⟨s,t,rfl⟩
     |keep n=>exact absurd (show(Str.ofString "keep")="put" from dD) (by decide)
     |cut n=>exact absurd (show(Str.ofString "cut")="put" from dD) (by decide)
   have qg:=W6.ok _ (.head _);refine iT ?_ rfl;refine cZ<|ba (sM C) rfl<|ak<|ag rfl<|ak<|ag rfl<|ak<|ag rfl<|aA ?_
   simp only[zaz] at qi sP
   refine⟨w,L,c,d,s,t,zs,ws,rfl,W6,gA,hX,gE,oi,oj,by lia,by lia,λa1 a2 H7 b7 sV sW xM xO W7=>?_⟩
   have tt:=O_ jW b7;have V7:cf C H7 v M p2:=V6.Bb b7 gA hX sT sU oo.symm ⟨_,_,_,jW⟩;rw[dQ] at e1 fa;have cp:=xx (.put s);have r9:=(jU qg).2;refine⟨_,?_,u,zs++[V.ref a1],ws++[V.ref a2],r1++[.put s],r2++[.keep (s.length:Int)],t,p2,z1++cM (.put s),z2,l',rfl,rfl,xJ fw b7,sV,sW,bh.snoc (p:=.put s) (hz.mono tt) ⟨a1,rfl,xM⟩,bh.snoc (p:=.keep (s.length:Int)) (vk.mono tt) ⟨a2,rfl,xO⟩,vm o1 qg,vm (x:=.keep (s.length:Int)) o2 (show(1:Int)<= (s.length:Int) by have:1<=s.length:=r9;lia),W7,V7,by rw[e1,zam],e2,?_,(xl _ _ _).mp fa,fb,by simp;lia,by simp;lia⟩
   ·rw[dQ,zqA];lia
   ·rw[dQ] at mJ;have:=mI.seg (b1:=[]) mJ (adW s.cps.toList);rw[zac] at this;rw[lL,lL,kg,kg];have ek:cM (.keep (s.length:Int))=rK s.cps.toList.length:=by show rK ((s.length:Int)).toNat=_;rw[zaB,len_list]
    rw[ek];exact this
  ·refine iF ?_ (beq_eq_false_iff_ne.mpr dD);refine YL<|aY<|sJ (C:=C) rfl rfl V6<|ao<|sI ⟨_,rfl,?_⟩;by_cases gT:lN p2="put"
   ·obtain⟨s,t,rfl⟩:∃s t,p2=.put s::t:=by
     cases p2 with
     |nil=>exact absurd (show(Str.ofString "")="put" from gT) (by decide)
     |cons p t=>
      cases p with
      |put s=>exact⟨s,t,rfl⟩
      |keep n=>exact absurd (show(Str.ofString "keep")="put" from gT) (by decide)
      |cut n=>exact absurd (show(Str.ofString "cut")="put" from gT) (by decide)
    have qg:=V6.ok _ (.head _);refine iT ?_ rfl;refine cZ<|ba (sM C) rfl<|ak<|ag rfl<|ak<|ag rfl<|ak<|ag rfl<|aA ?_
    simp only[zaz] at qi sP
    refine⟨v,M,d,c,s,t,ws,zs,rfl,V6,hX,gA,gE.symm,sU,sT,by lia,by lia,λa1 a2 H7 Be sW sV xM xO V7=>?_⟩
    have b7:sL v c d H6 H7:=λe o he n1 n2 n3=>Be e o he n1 n3 n2;have tt:=O_ qj b7;have W7:cf C H7 w L p1:=W6.Bb b7 gA hX oi oj oo ⟨_,_,_,qj⟩;rw[dQ] at e2 fb;have cp:=xx (.put s);have r9:=(jU qg).2;refine⟨_,?_,u,zs++[V.ref a2],ws++[V.ref a1],r1++[.keep (s.length:Int)],r2++[.put s],p1,t,z1,z2++cM (.put s),l',rfl,rfl,xJ fv b7,sV,sW,bh.snoc (p:=.keep (s.length:Int)) (hz.mono tt) ⟨a2,rfl,xO⟩,bh.snoc (p:=.put s) (vk.mono tt) ⟨a1,rfl,xM⟩,vm (x:=.keep (s.length:Int)) o1 (show(1:Int)<= (s.length:Int) by have:1<=s.length:=r9;lia),vm o2 qg,W7,V7,e1,by rw[e2,zam],?_,fa,(xl _ _ _).mp fb,by simp;lia,by simp;lia⟩
    ·rw[dQ,zqA];lia
    ·rw[dQ] at mJ;have:=mI.p2 (s:=s.cps.toList) (ad1 W6.ok dD) mJ;rw[lL,lL,kg,kg];have ek:cM (.keep (s.length:Int))=rK s.cps.toList.length:=by show rK ((s.length:Int)).toNat=_;rw[zaB,len_list]
     rw[ek];exact this
   ·refine iF ?_ (beq_eq_false_iff_ne.mpr gT);have sX:∀{p:Pt}{t:bi},lN (p::t)≠"put"->∀s,p≠ .put s:=λ{p t} h s z=>by subst z;exact h rfl
    have Pa:∀{p:Pt}{t:bi},bx p->(∀s,p≠ .put s)-> ¬fit [] (aH (p::t)):=by
     intro p t hp hn hf;have hl:=sG _ _ hf;rw[dQ,AV] at hl;have h1:=(jU hp).2;have:eW (cM p)=bK p:=by
      cases p with
      |keep n=>exact Fd _
      |put s=>exact absurd rfl (hn s)
      |cut s=>show eW (s.cps.toList.map At.C)=s.length;rw[AX,len_list]
     simp only[zbt] at hl
     lia
    obtain⟨x,t,ex⟩:∃x t,p1=x::t:=by
     cases p1 with
     |cons x t=>exact⟨x,t,rfl⟩
     |nil=>
      exfalso
      have wA:l'=[]:=fa;subst wA;cases p2 with
      |nil=>rcases aee with z|z<;>exact z rfl
      |cons y t'=>exact Pa (V6.ok y<|.head _) (sX gT) fb
    subst ex;obtain⟨y,t',ey⟩:∃y t',p2=y::t':=by
     cases p2 with
     |cons y t'=>exact⟨y,t',rfl⟩
     |nil=>
      exfalso
      have wA:l'=[]:=fb;subst wA;exact Pa (W6.ok x<|.head _) (sX dD) fa
    subst ey;have nx:=sX dD;have ny:=sX gT;have xQ:=W6.ok x (.head _);have xR:=V6.ok y (.head _);obtain⟨px1,px2⟩:=jU xQ;obtain⟨py1,py2⟩:=jU xR;obtain⟨k,hk⟩:∃k,k=min (bK x) (bK y):=⟨_,rfl⟩;have k1:1<=k:=by lia
    have k2:k<=bK x:=by lia
    have k3:k<=bK y:=by lia
    have emin:(if (bK y:Int) < (bK x:Int) then (bK y:Int) else (bK x:Int))=(k:Int):=by split<;>lia
    refine bq<|Oj<|ak<|xy (C:=C) rfl rfl W6<|ak<|xy (C:=C) rfl rfl V6<|aA ?_;show aB _ _ _ ([some<|.ref a,some<|.ref b,some<|.ref w,some<|.ref v,some<|.ref c,some<|.ref d,u].set 6 (some<|V.int (if (bK y:Int) < (bK x:Int) then (bK y:Int) else (bK x:Int)))) H6
    rw[emin];refine cZ<|ba xE rfl<|ak<|xC (C:=C) (k:=k) rfl rfl W6 k1 k2 (λQ' hq=>ag rfl hq) λa1 H7 b7 eV hf7 W7=>?_;have V7:cf C H7 v M (y::t'):=V6.keep λe o he z=>b7 e o he (by
     rcases z with rfl|rfl|⟨_,rfl⟩
     ·exact oo.symm
     ·obtain⟨_,Fs⟩:=lst V6;exact bX Fs jW (by intro z;cases z)
     ·exact bX he jW (by intro z;cases z))
    refine ak<|xC (C:=C) (k:=k) rfl rfl V7 k1 k3 (λQ' hq=>ag rfl hq) λa2 H8 b8 hV hf8 V8=>?_;obtain⟨_,_,_,hW7⟩:=W7.ob;obtain⟨_,_,_,qk⟩:=V7.ob;have W8:cf C H8 w L (cL x t k):=W7.keep λe o he z=>b8 e o he (by
     rcases z with rfl|rfl|⟨_,rfl⟩
     ·exact oo
     ·obtain⟨_,xS⟩:=lst W7;exact bX xS qk (by intro z;cases z)
     ·exact bX he qk (by intro z;cases z))
    have vn:=b8 _ _ eV (bX eV qk (by intro z;cases z))
    have xU:=b8 _ _ (b7 _ _ gA sN) xH;have xV:=b8 _ _ (b7 _ _ hX sO) xI;have tt8:eS H6 H8:=(b7.O2 jW).trans (b8.O2 qk);refine ak<|ag rfl<|ak<|ag rfl<|aA ?_;have eA:=xv t k2;have eB:=xv t' k3;rw[eA] at fa;rw[eB] at fb;obtain⟨la,lb,rfl,g1,g2,g3⟩:=xr _ _ fa;have ot:la.length=k:=by
     rw[sG _ _ g1];have e:=uZ x k k2;cases x with
     |keep n=>exact Fd k
     |put s=>exact absurd rfl (nx s)
     |cut s=>
      have e':(⟨(s.cps.toList.take k).toArray⟩:Str).length=k:=e;rw[ki] at e';show eW ((s.cps.toList.take k).map At.C)=k;rw[AX];exact e'
    have ovy:eW (cM<|bj y k)=k:=by
     have e:=uZ y k k3;cases y with
     |keep n=>exact Fd k
     |put s=>exact absurd rfl (ny s)
     |cut s=>
      have e':(⟨(s.cps.toList.take k).toArray⟩:Str).length=k:=e;rw[ki] at e';show eW ((s.cps.toList.take k).map At.C)=k;rw[AX];exact e'
    obtain⟨g4,g5⟩:=adI fb (by rw[ot,ovy])
    have xW:∀{s:Str}{u:bn},fit u (cM<|.cut s)->s.cps.toList=u:=by
     intro s u hu;obtain⟨b,rfl⟩:=E_ s.cps.toList u [] (by rw[zac];exact hu)
     have h1:=sG _ _ hu;have e1:eW (cM<|.cut s)=s.cps.toList.length:=AX _;rw[e1,zqA] at h1;have:b=[]:=zaD.mp (by lia)
     rw[this,zac]
    have okx:=OL xQ k1 k2;have oky:=OL xR k1 k3
    simp only[zaz] at qi sP
    refine⟨.ref a1,.ref a2,c,d,bj x k,bj y k,zs,ws,rfl,⟨a1,rfl,vn⟩,⟨a2,rfl,hV⟩,?_,?_,?_,xU,xV,gE,by lia,by lia,λH9 b9 Ft Fu=>?_⟩
    ·intro s z;cases x<;>first|exact absurd rfl (nx _)|cases z
    ·intro s z;cases y<;>first|exact absurd rfl (ny _)|cases z
    ·intro s s' z z';rw[z] at g1;rw[z'] at g4;exact gP<|(xW g1).trans (xW g4).symm
    have qm:∀{e:wl}{o:HO},H8 e=some o->(e=w\/e=L\/e=v\/e=M\/∃B,o=.tup B)->H9 e=some o:=by
     intro e o he z;obtain⟨_,hL8⟩:=lst W8;obtain⟨_,hM8⟩:=lst V8;obtain⟨_,_,_,hW8⟩:=W8.ob;obtain⟨_,_,_,hV8⟩:=V8.ob;refine b9 e o he ?_ ?_
     ·rcases z with rfl|rfl|rfl|rfl|⟨B,rfl⟩
      ·exact sN.symm
      ·exact oi.symm
      ·exact xH.symm
      ·exact sT.symm
      ·exact bX he xU (by intro z;cases z)
     ·rcases z with rfl|rfl|rfl|rfl|⟨B,rfl⟩
      ·exact sO.symm
      ·exact oj.symm
      ·exact xI.symm
      ·exact sU.symm
      ·exact bX he xV (by intro z;cases z)
    have W9:cf C H9 w L (cL x t k):=W8.keep λe o he z=>qm he (by
     rcases z with z|z|z
     ·exact .inl z
     ·exact .inr (.inl z)
     ·exact .inr (.inr (.inr (.inr z))))
    have V9:cf C H9 v M (cL y t' k):=V8.keep λe o he z=>qm he (by
     rcases z with z|z|z
     ·exact .inr (.inr<|.inl z)
     ·exact .inr (.inr<|.inr<|.inl z)
     ·exact .inr (.inr (.inr (.inr z))))
    have Bf:eS H6 H9:=λe B he=>qm (tt8 e B he) (.inr<|.inr<|.inr<|.inr ⟨B,rfl⟩);have aes:H9 a1=some (.tup [.str (bj x k).word,(bj x k).val]):=qm vn (.inr<|.inr<|.inr<|.inr ⟨_,rfl⟩);have aet:H9 a2=some (.tup [.str (bj y k).word,(bj y k).val]):=qm hV (.inr<|.inr<|.inr<|.inr ⟨_,rfl⟩);have Fv:au H H9:=λe o he=>b9 e o (b8 e o (b7 e o (jk e o he)<|aO he fw)<|aO he fv) (aO he fc) (aO he fd);have lO:=Ba t k1 k2;have xX:=Ba t' k1 k3;have aeu:(cL x t k).length+(cL y t' k).length<=t.length+t'.length+1:=by
     have r1:=A_ x t k;have r2:=A_ y t' k;by_cases hz:k=bK x
     ·have e:cL x t k=t:=BT hz;rw[e];lia
     ·have n4:k=bK y:=by lia
      have e:cL y t' k=t':=BT n4;rw[e];lia
    refine⟨_,Nat.add_lt_add lO xX,some<|.int (k:Int),zs++(if NZ (bj y k) then [V.ref a1] else []),ws++(if NZ (bj x k) then [V.ref a2] else []),r1++(if NZ (bj y k) then [bj x k] else []),r2++(if NZ (bj x k) then [bj y k] else []),cL x t k,cL y t' k,z1++cM (bj x k),z2++cM (bj y k),lb,rfl,rfl,Fv,Ft,Fu,?_,?_,?_,?_,W9,V9,by rw[e1,eA,zam],by rw[e2,eB,zam],?_,g2,g5,?_,?_⟩
    ·split
     ·exact bh.snoc (hz.mono Bf) ⟨a1,rfl,aes⟩
     ·rw[zac,zac];exact hz.mono Bf
    ·split
     ·exact bh.snoc (vk.mono Bf) ⟨a2,rfl,aet⟩
     ·rw[zac,zac];exact vk.mono Bf
    ·split
     ·exact vm o1 okx
     ·rw[zac];exact o1
    ·split
     ·exact vm o2 oky
     ·rw[zac];exact o2
    ·rw[lL,lL];rw[eA,eB] at mJ;refine mI.seg mJ ?_;cases x with
     |put s=>exact absurd rfl (nx s)
     |keep n=>
      have Bg:cM (bj (.keep n) k)=rK k:=by show rK ((k:Nat):Int).toNat=_;rw[zaB]
      cases y with
      |put s=>exact absurd rfl (ny s)
      |keep n'=>
       have sY:cM (bj (.keep n') k)=rK k:=by show rK ((k:Nat):Int).toNat=_;rw[zaB]
       rw[show(if NZ (bj (.keep n') k)=true then [bj (.keep n) k] else [])=[bj (.keep n) k] from rfl,show(if NZ (bj (.keep n) k)=true then [bj (.keep n') k] else [])=[bj (.keep n') k] from rfl,kg,kg,Bg,sY]
       exact adX k
      |cut s=>
       rw[show(if NZ (bj (.cut s) k)=true then [bj (.keep n) k] else [])=[] from rfl,show(if NZ (bj (.keep n) k)=true then [bj (.cut s) k] else [])=[bj (.cut s) k] from rfl,kg,Bg]
       have ec:cM (bj (.cut s) k)=la.map At.C:=by
        have:=xW (s:=⟨(s.cps.toList.take k).toArray⟩) g4;show(s.cps.toList.take k).map At.C=_;rw[show s.cps.toList.take k=la from this]
       rw[ec,<-ot];exact adY la
     |cut s=>
      have ec:cM (bj (.cut s) k)=la.map At.C:=by
       have:=xW (s:=⟨(s.cps.toList.take k).toArray⟩) g1;show(s.cps.toList.take k).map At.C=_;rw[show s.cps.toList.take k=la from this]
      cases y with
      |put s=>exact absurd rfl (ny s)
      |keep n'=>
       have sY:cM (bj (.keep n') k)=rK k:=by show rK ((k:Nat):Int).toNat=_;rw[zaB]
       rw[show(if NZ (bj (.keep n') k)=true then [bj (.cut s) k] else [])=[bj (.cut s) k] from rfl,show(if NZ (bj (.cut s) k)=true then [bj (.keep n') k] else [])=[] from rfl,kg,sY,ec,<-ot]
       exact adZ la
      |cut s'=>
       have ec':cM (bj (.cut s') k)=la.map At.C:=by
        have:=xW (s:=⟨(s'.cps.toList.take k).toArray⟩) g4;show(s'.cps.toList.take k).map At.C=_;rw[show s'.cps.toList.take k=la from this]
       rw[show(if NZ (bj (.cut s') k)=true then [bj (.cut s) k] else [])=[] from rfl,show(if NZ (bj (.cut s) k)=true then [bj (.cut s') k] else [])=[] from rfl,ec,ec']
       exact ad0 la
    ·have:(r1++(if NZ (bj y k) then [bj x k] else [])).length<=r1.length+1:=by rw[zqA];split<;>simp
     lia
    ·have:(r2++(if NZ (bj x k) then [bj y k] else [])).length<=r2.length+1:=by rw[zqA];split<;>simp
     lia
 refine O6<|aY<|sJ (C:=C) rfl rfl W6<|ao<|xu ⟨_,rfl,?_⟩;cases p1 with
 |cons x t=>exact iT (iT (turn<|.inl (by simp)) rfl) Fl
 |nil=>
  refine iF ?_ rfl;refine aY<|sJ (C:=C) rfl rfl V6<|ao<|xu ⟨_,rfl,?_⟩;cases p2 with
  |cons x t=>exact iT (turn<|.inr (by simp)) Fl
  |nil=>exact iF (V' rfl rfl) rfl
theorem aew{D:Ends}{r:ci}{is:bn}{e:RE}(h:aj J e N H λx H1=>rG J.K is.length (pI is) x N H1 (aB J r D)):aB J (.zS is e::r) D N H:=h
theorem aex{K:Frag}{t:wl}{w:V}{Q:St->Hp->Prop}(ht:H t=some (.tup [v,w]))(q:Q ((N.set i<|some v).set j<|some w) H):rG K [i,j].length (pI [i,j]) (.ref t) N H Q:=
 ⟨t,_,rfl,.inl<|aP.of ht,rfl,_,_,rfl,_,_,rfl,rfl,q⟩
section
variable {K:Frag}{H:Hp}{Q:VK}{J:aS}{N:St}{D:Ends}
theorem gG{b:RE}{r:jp}(h:aj J a N H λx H1=>∃c,x=.bl c/\if c=true then aj J (.and (b::r)) N H1 Q else Q (.bl false) H1):aj J (.and (a::b::r)) N H Q:=h
theorem ou(h:aj J a N H Q):aj J (.and [a]) N H Q:=h
end
theorem Pb{hi:RE}(h:aj J a N H λx H1=>aj J hi N H1 λj H3=>∃j':Int,j=.int j'/\ui J.K x none (some j') H3 Q):aj J (.sl a none<|some hi) N H Q:=h
section
variable {K:Frag}
end
theorem Bh{α β:Type}{R00:α->β->Prop}:∀{U:List α}{R:List β}{i:Nat}{x:α},Paired R00 U R->U[i]?=some x->∃y,R[i]?=some y/\R00 x y
 |[],[],i,x,.nil,h=>by simp at h
 |x::U,y::R,0,w,.cons a r,h=>by cases h;exact⟨y,rfl,a⟩
 |x::U,y::R,i+1,w,.cons a r,h=>Bh (U:=U) (R:=R) (i:=i) r (by simpa using h)
theorem Bi{α:Type}{l:List α}{i:Nat}{x:α}(h:l[i]?=some x):l.take (i+1)=l.take i++[x]:=by
 have bY:i<l.length:=(zat.mp h).1;rw[XV bY,(zat.mp h).2]
section
variable {K:Frag}
variable {M:db}{C:wl}{H Y:Hp}{p dx d:wl}{n g:Nat}{az:ii}{es:List Ent}
end
def xY(P:V->Hp->Prop)(J:aS)(N:St)(e:RE):Prop:= ∀(H:Hp) (Q:VK),(∀v Y,au H Y->P v Y->Q v Y)->aj J e N H Q
section
variable {J:aS}{N:St}{P:V->Hp->Prop}
theorem aey(h:∀a H,H a=some (.dK [])->P (.ref a) H):xY P J N .rz:=λH Q q=>adL λa ha=>q _ _ (sameNew ha) (h _ _ aw)
theorem Pc{a x:wl}(ha:H a=some (.lst [.ref x]))(h:p8 (.ref x) H):fN (.ref a) H:=.inr ⟨a,_,rfl,ha,[],.ref x,[],[],rfl,.nil,(λ_ h=>by cases h),rfl,.inl h⟩
theorem xZ{w t:V}(h:∀b H,H b=some (.tup [w,t])->p8 (.ref b) H):xY fN J N (.lst [.tup [.c w,.c t]]):=λH Q q=>by
 refine bV<|ak<|bN<|ak<|ao<|ak<|ao<|aA ⟨bQ,λb hb=>aA ⟨dz,λa ha=>?_⟩⟩;have s1:=sameNew (o:=.tup [w,t]) hb;have s2:=sameNew (o:=.lst [V.ref b]) ha;exact q _ _ (s1.trans s2)<|Pc aw<|h b _<|s2 _ _ aw
theorem aez{w t:V}:xY fN J N (.lst [.lst [.c w,.c t]]):=λH Q q=>by
 refine bV<|ak<|bV<|ak<|ao<|ak<|ao<|aA ⟨bQ,λb hb=>aA ⟨dz,λa ha=>?_⟩⟩;have s1:=sameNew (o:=.lst [w,t]) hb;have s2:=sameNew (o:=.lst [V.ref b]) ha;exact q _ _ (s1.trans s2)<|Pc aw<|.inl<|r6 (s2 _ _ aw) rfl
theorem Pd{w t w' t':V}(p p':Pt)(e1:w=.str p.word)(e2:t=p.val)(e3:w'=.str p'.word)(e4:t'=p'.val)(o:bx p)(o':bx p')(h:kb p'.word p.word=false)(hc:chainOk "" [p]=true):xY fN J N (.lst [.tup [.c w,.c t],.tup [.c w',.c t']]):=λH Q q=>by
 refine bV<|ak<|bN<|ak<|ao<|ak<|ao<|aA ⟨bQ,λb hb=>?_⟩;refine ak<|bN<|ak<|ao<|ak<|ao<|aA ⟨bQ,λb' o_=>aA ⟨bQ,λa ha=>?_⟩⟩;have s1:=sameNew (o:=.tup [w,t]) hb;have s2:=sameNew (o:=.tup [w',t']) o_;have s3:=sameNew (o:=.lst [V.ref b,V.ref b']) ha;have k1:=s3 _ _ (s2 _ _<|aw (H:=H) (a:=b) (o:=.tup [w,t]));have k2:=s3 _ _ (aw (a:=b') (o:=.tup [w',t']));subst e1 e2 e3 e4;exact q _ _ ((s1.trans s2).trans s3)<|.inr ⟨a,_,rfl,aw,[.ref b],.ref b',[],[p],rfl,.cons ⟨b,rfl,k1⟩ .nil,λz hz=>by rw[zag.mp hz];exact o,hc,.inr ⟨p',⟨b',rfl,k2⟩,o',h⟩⟩
theorem qh{b:wl}{w t:V}(hb:H b=some (.tup [w,t]))(h:fM .str w H\/(∃s,w=.str s/\s≠"keep"/\s≠"cut"/\s≠"put")\/(w=.str "keep"/\(jS t H\/∃n,t=.int n/\n<1))\/((w=.str "cut"\/w=.str "put")/\(iB t H\/t=.str ""))):p8 (.ref b) H:=
 .inr ⟨b,_,rfl,hb,(by show 2<=1000000;decide),.inr ⟨w,t,rfl,h⟩⟩
end
theorem kq{x:Str}(h1:x.length<=1000000)(h2:(x.cps.toList.all λc=>SG.cps.contains c)=true):good x:=⟨h1,λc hc=>zbk.mp h2 c hc⟩
theorem aeA:good "a"/\("a":Str)≠"":=⟨kq (by decide+kernel) (by decide+kernel),by decide+kernel⟩
theorem aeB:good "b"/\("b":Str)≠"":=⟨kq (by decide+kernel) (by decide+kernel),by decide+kernel⟩
section
open PyProof.Rows
end
section
variable {K:Frag}
end
section
variable {J:aS}{N:St}{n:Nat}{H0:Hp}
theorem Fw{lo:RE}(h:aj J a N H λx H1=>aj J lo N H1 λj H3=>∃j':Int,j=.int j'/\ui J.K x (some j') none H3 Q):aj J (.sl a (some lo) none) N H Q:=h
variable {K:Frag}{CP C CE CD:wl}
end
abbrev nV(ns:bn):be:=ns.map λk=>V.int (k:Nat)
section
variable {K:Frag}{M:db}{C:wl}{H Y:Hp}{p dx d rw n:Nat}{rs:List Sd}
end
inductive cb:dl->dl->Prop
 |here {c d U R:_}:c≠d->cb (.C c::U) (.C d::R)
 |p1 {c U R:_}:cb U R->cb (.P c::U) R
 |p2 {c U R:_}:cb U R->cb U (.P c::R)
 |kk {U R:_}:cb U R->cb (.K::U) (.K::R)
 |kc {c U R:_}:cb U R->cb (.K::U) (.C c::R)
 |ck {c U R:_}:cb U R->cb (.C c::U) (.K::R)
 |cc {c U R:_}:cb U R->cb (.C c::U) (.C c::R)
theorem aeC{gf:dl}(h:cb gf R):∀{c:Nat}{U:dl},gf=.P c::U->cb U R:=by
 induction h with
 |here _=>intro c R e;cases e
 |p1 h _=>intro c R e;cases e;exact h
 |p2 _ ih=>intro c R e;exact .p2 (ih e)
 |kk _ _=>intro c R e;cases e
 |kc _ _=>intro c R e;cases e
 |ck _ _=>intro c R e;cases e
 |cc _ _=>intro c R e;cases e
theorem aeD{U:dl}{c:Nat}(h:cb (.P c::U) R):cb U R:=aeC h rfl
theorem aeE{U lK:dl}(h:cb U lK):∀{c:Nat}{R:dl},lK=.P c::R->cb U R:=by
 induction h with
 |here _=>intro c R e;cases e
 |p2 h _=>intro c R e;cases e;exact h
 |p1 _ ih=>intro c R e;exact .p1 (ih e)
 |kk _ _=>intro c R e;cases e
 |kc _ _=>intro c R e;cases e
 |ck _ _=>intro c R e;cases e
 |cc _ _=>intro c R e;cases e
theorem aeF{U:dl}{c:Nat}(h:cb U (.P c::R)):cb U R:=aeE h rfl
theorem Pe:∀{R:dl},¬cb [] R
 |_,.p2 h=>Pe h
theorem Pf:∀{U:dl},¬cb U []
 |_,.p1 h=>Pf h
theorem Pg{U R:dl}:∀{s:bn},cb (s.map .P++U) R->cb U R
 |[],h=>h
 |_::s,h=>Pg (s:=s) (aeD h)
theorem Ph{U R:dl}:∀{s:bn},cb U (s.map .P++R)->cb U R
 |[],h=>h
 |_::s,h=>Ph (s:=s) (aeF h)
theorem Pj{U R:dl}:∀{n:Nat},cb (rK n++U) (rK n++R)->cb U R
 | 0,h=>h
 |n+1,h=>by
  have h':cb (.K::(rK n++U)) (.K::(rK n++R)):=h;cases h' with
  |kk h'=>exact Pj h'
theorem Pk{U R:dl}:∀{u:bn},cb (rK u.length++U) (u.map .C++R)->cb U R
 |[],h=>h
 |c::u,h=>by
  have h':cb (.K::(rK u.length++U)) (.C c::(u.map .C++R)):=h;cases h' with
  |kc h'=>exact Pk h'
theorem Pl{U R:dl}:∀{u:bn},cb (u.map .C++U) (rK u.length++R)->cb U R
 |[],h=>h
 |c::u,h=>by
  have h':cb (.C c::(u.map .C++U)) (.K::(rK u.length++R)):=h;cases h' with
  |ck h'=>exact Pl h'
theorem Pm{U R:dl}:∀{s u:bn},s.length=u.length->cb (s.map .C++U) (u.map .C++R)->s≠u\/cb U R
 |[],[],_,h=>.inr h
 |c::s,d::u,hl,h=>by
  have h':cb (.C c::(s.map .C++U)) (.C d::(u.map .C++R)):=h;cases h' with
  |here ne=>exact .inl λz=>ne (by injection z)
  |cc h'=>
   rcases Pm (by simpa using hl) h' with z|z
   ·exact .inl λy=>z (by injection y)
   ·exact .inr z
def Fx(CF:wl):Sp:=λB H Q E=>∃(v1 v2:V) (c d:V) (s u:Str),B=[v1,v2,c,d]/\iW H v1 (.cut s)/\iW H v2 (.cut u)/\s≠u/\E (.ref CF) none H
theorem aeG{K:Frag}{CF:wl}:bP (Fx CF) (λE=>aR K [] [] (et:=[("BadFit",CF)]) (E:=E)) Ea D_:=by
 intro B H Q E h;obtain⟨v1,v2,c,d,s,u,rfl,⟨a1,rfl,h1⟩,⟨a2,rfl,h2⟩,fX,q⟩:=h;have jl:H a1=some (.tup [.str "cut",.str s]):=h1;have xo:H a2=some (.tup [.str "cut",.str u]):=h2;refine YL<|mH<|aY<|a_<|ag rfl<|ao<|bO jl rfl<|ao<|sI ⟨_,rfl,iT ?_ (by decide+kernel)⟩
 refine aY<|a_<|ag rfl<|ao<|bO xo rfl<|ao<|sI ⟨_,rfl,iT ?_ (by decide+kernel)⟩
 refine YL<|aY<|a_<|ag rfl<|ao<|bO jl rfl<|a_<|ag rfl<|ao<|bO xo rfl<|xu ⟨_,rfl,iT ?_ (by simpa using fX)⟩
 exact⟨dz,q⟩
def Bj(CC CF:wl):Sp:=λB H Q E=>∃(va vb:V),B=[va,vb]/\((fN va H/\∀Y,au H Y->E (.ref CC) none Y)\/
 ∃(a:wl) (U:be) (one:bi),va=.ref a/\H a=some (.lst U)/\bh H U one/\(∀p∈one,bx p)/\chainOk "" one=true/\one.length<=30000/\((fN vb H/\∀Y,au H Y->E (.ref CC) none Y)\/
  ∃(b:wl) (R:be) (D':bi),vb=.ref b/\H b=some (.lst R)/\bh H R D'/\(∀p∈D',bx p)/\chainOk "" D'=true/\D'.length<=30000/\(∀Y,au H Y->E (.ref CF) none Y)/\
   ((overOf one).sum≠ (overOf D').sum\/((overOf one).sum=(overOf D').sum/\cb (aH one) (aH D')))))
abbrev aeH(C CC CF:wl):le:=[("sizes",eF kd<|sk CC),("put_first",sM C),("share",eF xE<|Fx CF),("neat",uK)]
theorem aeI{K:Frag}{CC CF:wl}(T:pO K C):bP (Bj CC CF) (λE=>aR K (aeH C CC CF) [] [] (vj C) [("Walk",C,kj C)] (et:=[("BadFit",CF)]) (E:=E)) Ec Eb:=by
 intro B H Q E h;obtain⟨va,vb,rfl,⟨hn,q⟩|⟨a,U,one,rfl,ha,l_,jf,gz,cp,h⟩⟩:=h
 ·exact YL (aY<|a_<|ba (eF kd<|sk CC) rfl<|ak<|ag rfl<|aA<|.inr ⟨va,rfl,hn,q⟩)
 refine YL<|aY<|a_<|ba (eF kd<|sk CC) rfl<|ak<|ag rfl<|aA<|.inl ⟨a,U,one,rfl,ha,l_,jf,gz,by lia,λt1 H1 s1 sj=>?_⟩
 refine ao<|.inr<|.inl ⟨_,_,_,_,rfl,rfl,aP.of sj,rfl,?_⟩;rcases h with⟨hn,q⟩|⟨b,R,D',rfl,hb,sQ,gm,oY,o7,qF,aeJ⟩
 ·exact a_ (ba (eF kd<|sk CC) rfl<|ak<|ag rfl<|aA<|.inr ⟨vb,rfl,hn.same s1,λY s'=>q _<|s1.trans s'⟩)
 refine a_<|ba (eF kd<|sk CC) rfl<|ak<|ag rfl<|aA<|.inl ⟨b,R,D',rfl,s1 _ _ hb,sQ.mono<|cB s1,gm,oY,by lia,λt2 H2 s2 jV=>?_⟩
 refine ao<|.inr<|.inl ⟨_,_,_,_,rfl,rfl,aP.of jV,rfl,?_⟩;have dF:=s1.trans s2;refine qe ⟨_,rfl,?_⟩;rcases aeJ with fX|⟨heq,nC⟩
 ·refine iT ?_ (by rw[zqF fX];rfl)
  exact⟨dz,qF _ dF⟩
 refine iF ?_ (by rw[zqT heq];rfl)
 have lx:=Db l_;have ly:=Db sQ;refine bq<|vg C (kj C) rfl<|ag rfl λw dx hw Fo fX=>?_;have s3:au H2 (upd (upd H2 dx<|.own w) w<|.ins C dx []):=λb o e=>by rw[aC<|aO e hw,aC<|aO e Fo];exact e
 have iZ:=dF.trans s3;refine⟨w,dx,a,U,one,rfl,aw,iZ _ _ ha,l_.mono<|cB iZ,jf,by lia,λL H3 hL hLw b3 W1=>⟨rfl,?_⟩⟩
 have km:au H H3:=λb o e=>b3 b o (iZ b o e) (aO (dF b o e) hw);have fw:H w=none:=dF.free hw;refine bq<|vg C (kj C) rfl<|ag rfl λv sR hv Fp ad8=>?_;have s4:au H3 (upd (upd H3 sR<|.own v) v<|.ins C sR []):=λb o e=>by rw[aC<|aO e hv,aC<|aO e Fp];exact e
 have gF:=km.trans s4;refine⟨v,sR,b,R,D',rfl,aw,gF _ _ hb,sQ.mono<|cB gF,gm,by lia,λM H5 hM hMv b5 V5=>⟨rfl,?_⟩⟩
 have om:au H3 H5:=λb o e=>b5 b o (s4 b o e) (aO e hv);have ko:=km.trans om;have fv:H v=none:=km.free hv;have W5:=W1.same om;obtain⟨_,_,_,Fq⟩:=W1.ob;have oo:w≠v:=aO Fq hv;refine bq<|bV<|aA ⟨zqZ _,λc hc=>?_⟩;refine bq<|bV<|aA ⟨zqZ _,λd hd=>?_⟩;have gE:c≠d:=λz=>by rw[<-z,aw] at hd;cases hd
 have sS:H5 d=none:=by rw[aC gE.symm] at hd;exact hd
 have fc:H c=none:=ko.free hc;have fd:H d=none:=ko.free sS;have lst:∀{H4:Hp}{w' L':wl}{rs:bi},cf C H4 w' L' rs->∃zs,H4 L'=some (.lst zs):=λ⟨_,zs,_,_,_,_,h,_⟩=>⟨zs,h⟩;obtain⟨_,oq⟩:=lst W5;obtain⟨_,xG⟩:=lst V5;have oi:c≠L:=(aO oq hc).symm;have sT:c≠M:=(aO xG hc).symm;have oj:d≠L:=(aO oq sS).symm;have sU:d≠M:=(aO xG sS).symm;have s6:au H5 (upd (upd H5 c<|.lst []) d<|.lst []):=(sameNew hc).trans (sameNew hd);refine Fe (λmm N H6=>∃(u:sK) (zs ws:be) (p1 p2:bi),mm=(aH p1).length+(aH p2).length/\N=[some (.ref a),some (.ref b),some (.ref w),some (.ref v),some (.ref c),some (.ref d),u]/\au H H6/\H6 c=some (.lst zs)/\H6 d=some (.lst ws)/\
   cf C H6 w L p1/\cf C H6 v M p2/\cb (aH p1) (aH p2)/\zs.length+p1.length+p2.length<=one.length+D'.length/\ws.length+p1.length+p2.length<=one.length+D'.length)
  ⟨_,none,[],[],one,D',rfl,rfl,ko.trans s6,(by rw[aC gE,aw]),aw,W5.same s6,V5.same s6,nC,by simp,by simp⟩ ?_
 rintro mm N H6 ⟨u,zs,ws,p1,p2,rfl,rfl,jk,gA,hX,W6,V6,jm,qi,sP⟩;obtain⟨dxw,iw,ow,jW⟩:=W6.ob;obtain⟨dxv,iv,ov,qj⟩:=V6.ob;have sN:c≠w:=bX gA jW (by intro z;cases z)
 have xH:c≠v:=bX gA qj (by intro z;cases z)
 have sO:d≠w:=bX hX jW (by intro z;cases z)
 have xI:d≠v:=bX hX qj (by intro z;cases z)
 obtain⟨x,t,ex⟩:∃x t,p1=x::t:=by
  cases p1 with
  |cons x t=>exact⟨x,t,rfl⟩
  |nil=>exact absurd jm Pe
 obtain⟨y,t',ey⟩:∃y t',p2=y::t':=by
  cases p2 with
  |cons y t'=>exact⟨y,t',rfl⟩
  |nil=>exact absurd jm Pf
 subst ex ey;have xJ:∀{H7:Hp}{x:wl},H x=none->sL x c d H6 H7->au H H7:=λ{H7 x} hx b e o he=>b e o (jk e o he) (aO he hx) (aO he fc) (aO he fd);refine O6<|aY<|sJ (C:=C) rfl rfl W6<|ao<|xu ⟨_,rfl,iT ?_ Fl⟩;refine iT ?_ rfl;refine⟨_,λK' Y z=>z,?_⟩;have xQ:=W6.ok x (.head _);have xR:=V6.ok y (.head _)
 simp only[zaz] at qi sP
 refine YL<|aY<|sJ (C:=C) rfl rfl W6<|ao<|sI ⟨_,rfl,?_⟩;by_cases dD:lN (x::t)="put"
 ·obtain⟨s,rfl⟩:∃s,x=.put s:=by
   cases x with
   |put s=>exact⟨s,rfl⟩
   |keep n=>exact absurd (show(Str.ofString "keep")="put" from dD) (by decide)
   |cut n=>exact absurd (show(Str.ofString "cut")="put" from dD) (by decide)
  refine iT ?_ rfl;refine cZ<|ba (sM C) rfl<|ak<|ag rfl<|ak<|ag rfl<|ak<|ag rfl<|aA ?_;refine⟨w,L,c,d,s,t,zs,ws,rfl,W6,gA,hX,gE,oi,oj,by lia,by lia,λa1 a2 H7 b7 sV sW xM xO W7=>?_⟩
  have V7:cf C H7 v M (y::t'):=V6.Bb b7 gA hX sT sU oo.symm ⟨_,_,_,jW⟩;have cp:=xx (.put s);have r9:=(jU xQ).2;rw[dQ] at jm;refine⟨_,?_,u,zs++[V.ref a1],ws++[V.ref a2],t,y::t',rfl,rfl,xJ fw b7,sV,sW,W7,V7,Pg jm,by simp;lia,by simp;lia⟩
  rw[dQ<|.put s,zqA];lia
 refine iF ?_<|beq_eq_false_iff_ne.mpr dD;refine YL<|aY<|sJ (C:=C) rfl rfl V6<|ao<|sI ⟨_,rfl,?_⟩;by_cases gT:lN (y::t')="put"
 ·obtain⟨s,rfl⟩:∃s,y=.put s:=by
   cases y with
   |put s=>exact⟨s,rfl⟩
   |keep n=>exact absurd (show(Str.ofString "keep")="put" from gT) (by decide)
   |cut n=>exact absurd (show(Str.ofString "cut")="put" from gT) (by decide)
  refine iT ?_ rfl;refine cZ<|ba (sM C) rfl<|ak<|ag rfl<|ak<|ag rfl<|ak<|ag rfl<|aA ?_;refine⟨v,M,d,c,s,t',ws,zs,rfl,V6,hX,gA,gE.symm,sU,sT,by lia,by lia,λa1 a2 H7 b7 sW sV xM xO V7=>?_⟩
  have Be:sL v c d H6 H7:=λe o he n1 n2 n3=>b7 e o he n1 n3 n2;have W7:cf C H7 w L (x::t):=W6.Bb Be gA hX oi oj oo ⟨_,_,_,qj⟩;have cp:=xx (.put s);have r9:=(jU xR).2;rw[dQ<|.put s] at jm;refine⟨_,?_,u,zs++[V.ref a2],ws++[V.ref a1],x::t,t',rfl,rfl,xJ fv Be,sV,sW,W7,V7,Ph jm,by simp;lia,by simp;lia⟩
  rw[dQ<|.put s,zqA];lia
 refine iF ?_<|beq_eq_false_iff_ne.mpr gT;have sX:∀{p:Pt}{t:bi},lN (p::t)≠"put"->∀s,p≠ .put s:=λ{p t} h s z=>by subst z;exact h rfl
 have nx:=sX dD;have ny:=sX gT;obtain⟨px1,px2⟩:=jU xQ;obtain⟨py1,py2⟩:=jU xR;obtain⟨k,hk⟩:∃k,k=min (bK x) (bK y):=⟨_,rfl⟩;have k1:1<=k:=by lia
 have k2:k<=bK x:=by lia
 have k3:k<=bK y:=by lia
 have emin:(if (bK y:Int) < (bK x:Int) then (bK y:Int) else (bK x:Int))=(k:Int):=by split<;>lia
 refine bq<|Oj<|ak<|xy (C:=C) rfl rfl W6<|ak<|xy (C:=C) rfl rfl V6<|aA ?_;show aB _ _ _ ([some<|.ref a,some<|.ref b,some<|.ref w,some<|.ref v,some<|.ref c,some<|.ref d,u].set 6 (some<|V.int (if (bK y:Int) < (bK x:Int) then (bK y:Int) else (bK x:Int)))) H6
 rw[emin];refine cZ<|ba (eF xE<|Fx CF) rfl<|ak<|xC (C:=C) (k:=k) rfl rfl W6 k1 k2 (λQ' hq=>ag rfl hq) λa1 H7 b7 eV hf7 W7=>?_;have V7:cf C H7 v M (y::t'):=V6.keep λe o he z=>b7 e o he (by
  rcases z with rfl|rfl|⟨_,rfl⟩
  ·exact oo.symm
  ·obtain⟨_,Fs⟩:=lst V6;exact bX Fs jW (by intro z;cases z)
  ·exact bX he jW (by intro z;cases z))
 refine ak<|xC (C:=C) (k:=k) rfl rfl V7 k1 k3 (λQ' hq=>ag rfl hq) λa2 H8 b8 hV hf8 V8=>?_;obtain⟨_,_,_,hW7⟩:=W7.ob;obtain⟨_,_,_,qk⟩:=V7.ob;have W8:cf C H8 w L (cL x t k):=W7.keep λe o he z=>b8 e o he (by
  rcases z with rfl|rfl|⟨_,rfl⟩
  ·exact oo
  ·obtain⟨_,xS⟩:=lst W7;exact bX xS qk (by intro z;cases z)
  ·exact bX he qk (by intro z;cases z))
 have vn:=b8 _ _ eV (bX eV qk (by intro z;cases z))
 have xU:=b8 _ _ (b7 _ _ gA sN) xH;have xV:=b8 _ _ (b7 _ _ hX sO) xI;have Pn:au H H8:=λe o he=>b8 e o (b7 e o (jk e o he)<|aO he fw) (aO he fv);refine ak<|ag rfl<|ak<|ag rfl<|aA ?_;have eA:=xv t k2;have eB:=xv t' k3;rw[eA,eB] at jm;have aeK:(∃s s',bj x k=.cut s/\bj y k=.cut s'/\s≠s')\/((∀s s',bj x k=.cut s->bj y k=.cut s'->s=s')/\cb (aH<|cL x t k) (aH<|cL y t' k)):=by
  cases x with
  |put s=>exact absurd rfl (nx s)
  |keep n=>
   have Bg:cM (bj (.keep n) k)=rK k:=by show rK ((k:Nat):Int).toNat=_;rw[zaB]
   refine .inr ⟨(λs s' z=>by cases z),?_⟩
   rw[Bg] at jm;cases y with
   |put s=>exact absurd rfl (ny s)
   |keep n'=>
    have sY:cM (bj (.keep n') k)=rK k:=by show rK ((k:Nat):Int).toNat=_;rw[zaB]
    rw[sY] at jm;exact Pj jm
   |cut s=>
    have hlen:(s.cps.toList.take k).length=k:=by have:=uZ (.cut s) k k3;rw[<-ki (s.cps.toList.take k)];exact this
    have h':cb (rK (s.cps.toList.take k).length++aH (cL (.keep n) t k)) ((s.cps.toList.take k).map .C++aH (cL (.cut s) t' k)):=by rw[hlen];exact jm
    exact Pk h'
  |cut s=>
   have hlen:(s.cps.toList.take k).length=k:=by have:=uZ (.cut s) k k2;rw[<-ki (s.cps.toList.take k)];exact this
   cases y with
   |put s=>exact absurd rfl (ny s)
   |keep n'=>
    have sY:cM (bj (.keep n') k)=rK k:=by show rK ((k:Nat):Int).toNat=_;rw[zaB]
    rw[sY] at jm;refine .inr ⟨(λs s' _ z=>by cases z),?_⟩
    have h':cb ((s.cps.toList.take k).map .C++aH (cL (.cut s) t k)) (rK (s.cps.toList.take k).length++aH (cL (.keep n') t' k)):=by rw[hlen];exact jm
    exact Pl h'
   |cut s'=>
    have aeL:(s'.cps.toList.take k).length=k:=by have:=uZ (.cut s') k k3;rw[<-ki (s'.cps.toList.take k)];exact this
    have h':cb ((s.cps.toList.take k).map .C++aH (cL (.cut s) t k)) ((s'.cps.toList.take k).map .C++aH (cL (.cut s') t' k)):=jm;by_cases he:s.cps.toList.take k=s'.cps.toList.take k
    ·refine .inr ⟨λu u' z z'=>?_,?_⟩
     ·cases z;cases z';rw[he]
     ·rcases Pm (by rw[hlen,aeL]) h' with z|z
      ·exact absurd he z
      ·exact z
    ·exact .inl ⟨_,_,rfl,rfl,λz=>he<|Cl (λs:Str=>s.cps.toList) z⟩
 rcases aeK with⟨s,s',z,z',fX⟩|⟨aeM,aeN⟩
 ·rw[z] at vn;rw[z'] at hV;exact .inr ⟨.ref a1,.ref a2,_,_,s,s',rfl,⟨a1,rfl,vn⟩,⟨a2,rfl,hV⟩,fX,qF _ Pn⟩
 refine .inl ⟨.ref a1,.ref a2,c,d,bj x k,bj y k,zs,ws,rfl,⟨a1,rfl,vn⟩,⟨a2,rfl,hV⟩,?_,?_,aeM,xU,xV,gE,by lia,by lia,λH9 b9 Ft Fu=>?_⟩
 ·intro s z;cases x<;>first|exact absurd rfl (nx _)|cases z
 ·intro s z;cases y<;>first|exact absurd rfl (ny _)|cases z
 have qm:∀{e:wl}{o:HO},H8 e=some o->(e=w\/e=L\/e=v\/e=M\/∃B,o=.tup B)->H9 e=some o:=by
  intro e o he z;obtain⟨_,hL8⟩:=lst W8;obtain⟨_,hM8⟩:=lst V8;refine b9 e o he ?_ ?_
  ·rcases z with rfl|rfl|rfl|rfl|⟨B,rfl⟩
   ·exact sN.symm
   ·exact oi.symm
   ·exact xH.symm
   ·exact sT.symm
   ·exact bX he xU (by intro z;cases z)
  ·rcases z with rfl|rfl|rfl|rfl|⟨B,rfl⟩
   ·exact sO.symm
   ·exact oj.symm
   ·exact xI.symm
   ·exact sU.symm
   ·exact bX he xV (by intro z;cases z)
 have W9:cf C H9 w L (cL x t k):=W8.keep λe o he z=>qm he (by
  rcases z with z|z|z
  ·exact .inl z
  ·exact .inr (.inl z)
  ·exact .inr (.inr (.inr (.inr z))))
 have V9:cf C H9 v M (cL y t' k):=V8.keep λe o he z=>qm he (by
  rcases z with z|z|z
  ·exact .inr (.inr<|.inl z)
  ·exact .inr (.inr<|.inr<|.inl z)
  ·exact .inr (.inr (.inr (.inr z))))
 have Fv:au H H9:=λe o he=>b9 e o (Pn e o he) (aO he fc) (aO he fd);have lO:=Ba t k1 k2;have xX:=Ba t' k1 k3;have aeu:(cL x t k).length+(cL y t' k).length<=t.length+t'.length+1:=by
  have r1:=A_ x t k;have r2:=A_ y t' k;by_cases hz:k=bK x
  ·have e:cL x t k=t:=BT hz;rw[e];lia
  ·have n4:k=bK y:=by lia
   have e:cL y t' k=t':=BT n4;rw[e];lia
 refine⟨_,Nat.add_lt_add lO xX,some<|.int (k:Int),zs++(if NZ (bj y k) then [V.ref a1] else []),ws++(if NZ (bj x k) then [V.ref a2] else []),cL x t k,cL y t' k,rfl,rfl,Fv,Ft,Fu,W9,V9,aeN,?_,?_⟩
 ·have:(zs++(if NZ (bj y k) then [V.ref a1] else [])).length<=zs.length+1:=by rw[zqA];split<;>simp
  lia
 ·have:(ws++(if NZ (bj x k) then [V.ref a2] else [])).length<=ws.length+1:=by rw[zqA];split<;>simp
  lia
theorem Po(v:V):∀n:Nat,(List.replicate n [v]).flatten=List.replicate n v
 | 0=>rfl
 |n+1=>by rw[zaF,zaT,Po v n,zaF];rfl
section
variable {K:Frag}{H Y:Hp}{Q:VK}{J:aS}{N:St}{i j:Int}
theorem lP(h:0<j)(q:Q (.int<|i % j) H):jd K .Mod (.int i) (.int j) H Q:=⟨h,q⟩
theorem sZ(h:j3 i j)(q:Q (.int<|i / j) H):jd K .FloorDiv (.int i) (.int j) H Q:=⟨h,q⟩
theorem Pp{a b:Str}(h:a.length+b.length<=1000000)(q:Q (.str<|a++b) H):jd K .Add (.str a) (.str b) H Q:=⟨cK h,q⟩
theorem Fy{a b:wl}{R:be}(ha:H a=some (.lst U))(hb:H b=some (.lst R))(hl:U.length+R.length<=1000000)(q:∀c,H c=none->Q (.ref c) (upd H c<|.lst<|U++R)):jd K .Add (.ref a) (.ref b) H Q:=
 .inl ⟨a,b,U,R,rfl,rfl,ha,hb,cK hl,q⟩
theorem Fz{a:wl}{n:Nat}(ha:H a=some (.lst [v]))(hl:n<=1000000)(q:∀c,H c=none->Q (.ref c) (upd H c<|.lst<|List.replicate n v)):jd K .Mult (.ref a) (.int (n:Nat)) H Q:=by
 refine⟨a,_,_,rfl,rfl,ha,by lia,by lia,cK (by rw[zaB];show 1*n<=_;lia),λc fc=>?_⟩
 rw[zaB];rw[Po];exact q c fc
theorem qo(h:aj J a N H λx H1=>kT J.K .list [x] H1 Q):aj J (.blt .list [a]) N H Q:=h
theorem FA(s:Str):(s==s)=true:=by simp
theorem jn(q:Q (.bl<|decide<|v=.av) H):dB K .Is v .av H Q:=⟨rfl,q⟩
end
abbrev f6(x:Str)(kn se:Nat)(fl de ea:V):cr:=[("signs",.str x),("known",.int (kn:Nat)),("serial",.int (se:Nat)),("flying",fl),("delayed",de),("early",ea)]
section
variable {x:Str}{b c:Nat}{d g h:V}
theorem x4:(f6 x b c d g h).lookup ("signs":Str)=some (.str x):=iX
theorem qp:(f6 x b c d g h).lookup ("known":Str)=some (.int (b:Nat)):=(cT (by decide+kernel)).trans iX
theorem FC:(f6 x b c d g h).lookup ("serial":Str)=some (.int (c:Nat)):=(cT (by decide+kernel)).trans ((cT (by decide+kernel)).trans iX)
theorem jo:(f6 x b c d g h).lookup ("flying":Str)=some d:=(cT (by decide+kernel)).trans ((cT (by decide+kernel)).trans<|(cT (by decide+kernel)).trans iX)
theorem Bk:(f6 x b c d g h).lookup ("delayed":Str)=some g:=(cT (by decide+kernel)).trans ((cT (by decide+kernel)).trans<|(cT (by decide+kernel)).trans<|(cT (by decide+kernel)).trans iX)
theorem vo:(f6 x b c d g h).lookup ("early":Str)=some h:=(cT (by decide+kernel)).trans ((cT (by decide+kernel)).trans<|(cT (by decide+kernel)).trans<|(cT (by decide+kernel)).trans<|(cT (by decide+kernel)).trans iX)
theorem aeO:aI "early" h (aI "delayed" g<|aI "flying" d<|aI "serial" (.int (c:Nat))<|aI "known" (.int (b:Nat))<|aI "signs" (.str x) [])=f6 x b c d g h:=by
 have e:∀(f:Str) (v:V),aI f v []=[(f,v)]:=λ_ _=>rfl
 repeat (first|rw[e]|rw[d9 (by decide+kernel)])
theorem FD:aI "signs" (.str y) (f6 x b c d g h)=f6 y b c d g h:=mB
theorem Pq{k:Nat}:aI "known" (.int (k:Nat)) (f6 x b c d g h)=f6 x k c d g h:=by
 rw[d9 (by decide+kernel),mB]
theorem Pr{k:Nat}:aI "serial" (.int (k:Nat)) (f6 x b c d g h)=f6 x b k d g h:=by
 rw[d9 (by decide+kernel),d9 (by decide+kernel),mB]
theorem Bl:aI "flying" v (f6 x b c d g h)=f6 x b c v g h:=by
 rw[d9 (by decide+kernel),d9 (by decide+kernel),d9 (by decide+kernel),mB]
theorem FE:aI "delayed" v (f6 x b c d g h)=f6 x b c d v h:=by
 rw[d9 (by decide+kernel),d9 (by decide+kernel),d9 (by decide+kernel),d9 (by decide+kernel),mB]
theorem aeP:aI "early" v (f6 x b c d g h)=f6 x b c d g v:=by
 rw[d9 (by decide+kernel),d9 (by decide+kernel),d9 (by decide+kernel),d9 (by decide+kernel),d9 (by decide+kernel),mB]
end
abbrev f2(own:Nat)(st:wl):cr:=[("number",.int (own:Nat)),("stand_now",.ref st)]
theorem x6{own:Nat}{st:wl}:(f2 own st).lookup ("number":Str)=some (.int (own:Nat)):=iX
theorem oy{own:Nat}{st:wl}:(f2 own st).lookup ("stand_now":Str)=some (.ref st):=(cT (by decide+kernel)).trans iX
theorem cW{own:Nat}{st:wl}{m:Str}(h:¬m="number"/\ ¬m="stand_now":=by decide+kernel):(f2 own st).lookup m=none:=(cT h.1).trans ((cT h.2).trans rfl)
theorem aeQ{own:Nat}{st i_:wl}:aI "stand_now" (.ref i_) (f2 own st)=f2 own i_:=by rw[d9 (by decide+kernel),mB]
abbrev MS:=wl->Prop
def mK(M:MS)(H:Hp)(v:V):Option bi->Prop
 |none=>v=.av
 |some Z=>∃a U,v=.ref a/\H a=some (.lst U)/\bh H U Z/\ ¬M a
structure zbO where
 p:wl
 dp:wl
 q:wl
 dq:wl
 e:wl
 own:Nat
structure dG (M:MS) (CS:wl) (H:Hp) (q dq e:wl) (x:Str) (kn se:Nat) (fl:Option bi):Prop where
 ob:∃vf,H q=some (.ins CS dq<|f6 x kn se vf .av<|.ref e)/\mK M H vf fl
 he:H e=some (.dK [])
structure cD (M:MS) (C CS:wl) (H:Hp) (h:zbO) (x:Str) (kn se:Nat) (fl:Option bi):Prop where
 ob:H h.p=some (.ins C h.dp<|f2 h.own h.q)
 st:dG M CS H h.q h.dq h.e x kn se fl
def bG(M:MS)(H Y:Hp):Prop:= ∀b o,H b=some o-> ¬M b->Y b=some o
section
variable {K:Frag}{M:MS}{C g:wl}{H Y:Hp}{q u e:wl}{h:zbO}{x:Str}{D A:Nat}{G:Option bi}
theorem mK.same(a:mK M H v G)(s:au H Y):mK M Y v G:=by
 cases G with
 |none=>exact a
 |some Z=>
  obtain⟨b,U,e,h1,h2,h3⟩:=a;exact⟨b,U,e,s _ _ h1,h2.mono<|cB s,h3⟩
theorem dG.same(S:dG M g H q u e x D A G)(s:au H Y):dG M g Y q u e x D A G:=by
 obtain⟨vf,h1,h2⟩:=S.ob;exact⟨⟨vf,s _ _ h1,h2.same s⟩,s _ _ S.he⟩
theorem cD.same(S:cD M C g H h x D A G)(s:au H Y):cD M C g Y h x D A G:=⟨s _ _ S.ob,S.st.same s⟩
theorem bG.same(s:au H Y):bG M H Y:=λb o e _=>s b o e
theorem bG.trans{Pu:Hp}(a:bG M H Y)(b:bG M Y Pu):bG M H Pu:=λz o e hz=>b _ _ (a _ _ e hz) hz
theorem bG.upd{o:HO}:bG (· =q) H (upd H q o):=λz o e hz=>by rw[aC hz];exact e
theorem s_{o:HO}{C' d':wl}{fs:cr}(hq:H q=some (.ins C' d' fs)):eS H (upd H q o):=λz us ez=>by
 rw[aC (λy=>by rw[y,hq] at ez;cases ez)];exact ez
theorem mK.ins{o:HO}{C' d':wl}{fs:cr}(a:mK M H v G)(hq:H q=some (.ins C' d' fs)):mK M (upd H q o) v G:=by
 cases G with
 |none=>exact a
 |some Z=>
  obtain⟨b,U,e,h1,h2,h3⟩:=a;exact⟨b,U,e,by rw[aC (λy=>by rw[y,hq] at h1;cases h1)];exact h1,h2.mono<|s_ hq,h3⟩
theorem dG.put(S:dG M g H q u e x D A G){x':Str}{kn' se':Nat}{vf:V}{fl':Option bi}(hf:mK M H vf fl'):dG M g (upd H q<|.ins g u<|f6 x' kn' se' vf .av<|.ref e) q u e x' kn' se' fl':=by
 obtain⟨vf0,h1,_⟩:=S.ob;exact⟨⟨vf,aw,hf.ins h1⟩,by rw[aC (λy=>by have k1:=S.he;rw[y,h1] at k1;cases k1)];exact S.he⟩
theorem FF{p dp:wl}{fs gs:cr}(hp:H p=some (.ins C dp fs))(hq:H q=some (.ins g u gs))(n:fs.length≠gs.length):p≠q:=λy=>by
 rw[y,hq] at hp;cases hp;exact n rfl
theorem cD.pq(S:cD M C g H h x D A G):h.p≠h.q:=by
 obtain⟨_,h1,_⟩:=S.st.ob;exact FF S.ob h1 (by show 2≠6;decide)
theorem vp(q:Q (.bl<|!decide (v=.av)) H):dB K .IsNot v .av H Q:=⟨rfl,q⟩
theorem qq{c b:RE}(h:bC J c N H λt H1=>if t=true then aj J a N H1 Q else aj J b N H1 Q):aj J (.jD c a b) N H Q:=h
theorem qr{a:wl}:decide (V.ref a=.av)=false:=zqF (by intro z;cases z)
inductive jq(C g:wl)(B:be)(H:Hp)(Q:VK)(E:XK):Prop|i(M:MS)(h:zbO)(x:Str)(D A:Nat)(G:Option bi)(_:B=[.ref h.p])(_:cD M C g H h x D A G)(_:Q (.str x) H)
inductive oz(C g:wl)(B:be)(H:Hp)(Q:VK)(E:XK):Prop|i(M:MS)(h:zbO)(x:Str)(D A:Nat)(G:Option bi)(_:B=[.ref h.p])(_:cD M C g H h x D A G)(_:Q (.int (D:Nat)) H)
theorem aeR(T:jM K C)(TS:iy K g):bP (jq C g) (λE=>aR K [] [] (E:=E)) Mu ji:=by
 intro B H Q E h;obtain⟨M,h,x,D,A,G,rfl,S,k⟩:=h;obtain⟨vf,h1,_⟩:=S.st.ob;exact bL<|br<|br<|ag rfl ⟨h.p,C,h.dp,_,_,rfl,S.ob,T.cl,T.lu,oy,h.q,g,h.dq,_,_,rfl,h1,TS.cl,TS.iV,x4,k⟩
theorem aeS(T:jM K C)(TS:iy K g):bP (oz C g) (λE=>aR K [] [] (E:=E)) Mw ji:=by
 intro B H Q E h;obtain⟨M,h,x,D,A,G,rfl,S,k⟩:=h;obtain⟨vf,h1,_⟩:=S.st.ob;exact bL<|br<|br<|ag rfl ⟨h.p,C,h.dp,_,_,rfl,S.ob,T.cl,T.lu,oy,h.q,g,h.dq,_,_,rfl,h1,TS.cl,TS.lq,qp,k⟩
def Pw(H:Hp)(Q:VK):Option bi->Prop
 |none=>Q .av H
 |some Z=>∀l Y U,au H Y->Y l=some (.lst U)->bh Y U Z->Q (.ref l) Y
inductive FG(B:be)(H:Hp)(Q:VK)(E:XK):Prop|i(M:MS)(v:V)(o:Option bi)(_:B=[v])(_:mK M H v o)(_:Pw H Q o)
theorem aeT(B:be)(H:Hp)(Q:VK)(E:XK)(h:FG B H Q E):aB (aR K [] [] (E:=E)) Mn (Dn Q) (start Ap B) H:=by
 obtain⟨M,v,o,rfl,ho,k⟩:=h;cases o with
 |none=>
  cases (show v=.av from ho)
  exact bL<|qq<|aY<|ag rfl<|ao<|jn ⟨_,rfl,iT (ao k)<|zqT rfl⟩
 |some Z=>
  obtain⟨a,U,rfl,ha,pv,_⟩:=ho;exact bL<|qq<|aY<|ag rfl<|ao<|jn ⟨_,rfl,iF (qo<|ag rfl ⟨_,.inl<|aE.of ha,λl G=>k l _ U (sameNew G) aw<|pv.mono<|cB<|sameNew G⟩) qr⟩
inductive mL(C g:wl)(B:be)(H:Hp)(Q:VK)(E:XK):Prop|i(M:MS)(h:zbO)(x:Str)(D A:Nat)(G:Option bi)(_:B=[.ref h.p])(_:cD M C g H h x D A G)(_:Pw H Q G)
theorem aeU(T:jM K C)(TS:iy K g):bP (mL C g) (λE=>aR K [("copied",FG)] [] (E:=E)) My ji:=by
 intro B H Q E h;obtain⟨M,h,x,D,A,G,rfl,S,k⟩:=h;obtain⟨vf,h1,h2⟩:=S.st.ob;exact bL<|ba FG rfl<|ak<|br<|br<|ag rfl ⟨h.p,C,h.dp,_,_,rfl,S.ob,T.cl,T.lu,oy,h.q,g,h.dq,_,_,rfl,h1,TS.cl,TS.gu,jo,aA ⟨_,vf,G,rfl,h2,k⟩⟩
def x8(H:Hp)(t:wl)(own A D:Nat)(Z:bi):Prop:= ∃l U,H t=some (.tup [.str "ask",.int (own:Nat),.int (A:Nat),.int (D:Nat),.ref l])/\H l=some (.lst U)/\bh H U Z
theorem x8.same{t:wl}{own:Nat}(a:x8 H t own A D Z)(s:au H Y):x8 Y t own A D Z:=by
 obtain⟨l,U,h1,h2,h3⟩:=a;exact⟨l,U,s _ _ h1,s _ _ h2,h3.mono<|cB s⟩
inductive x_(C g:wl)(B:be)(H:Hp)(Q:VK)(E:XK):Prop|i(M:MS)(p dp q u e q0:wl)(own:Nat)(x:Str)(D A:Nat)(Z:bi)(_:B=[.ref p,.ref q])(_:H p=some (.ins C dp<|f2 own q0))(_:dG M g H q u e x D A (some Z))(_:∀t Y,au H Y->x8 Y t own A D Z->Q (.ref t) Y)
theorem aeV(T:jM K C)(TS:iy K g):bP (x_ C g) (λE=>aR K [] [] (E:=E)) MB MA:=by
 intro B H Q E h;obtain⟨M,p,dp,q,u,e,q0,own,x,D,A,Z,rfl,hp,S,k⟩:=h;obtain⟨vf,h1,a,U,rfl,ha,pv,_⟩:=S.ob;refine bL<|bN<|ak<|ao<|ak<|br<|ag rfl ⟨p,C,dp,_,_,rfl,hp,T.cl,T.uE,x6,ak<|br<|ag rfl ⟨q,g,u,_,_,rfl,h1,TS.cl,TS.uD,FC,ak<|br<|ag rfl ⟨q,g,u,_,_,rfl,h1,TS.cl,TS.lq,qp,ak<|qo<|br<|ag rfl ⟨q,g,u,_,_,rfl,h1,TS.cl,TS.gu,jo,_,.inl<|aE.of ha,λl G=>aA ⟨j0,λt ft=>?_⟩⟩⟩⟩⟩;have s1:=sameNew (o:=.lst U) G;have hl:upd H l (.lst U) l=some (.lst U):=aw;generalize upd H l (.lst U)=H1 at s1 hl ft⊢;have s2:=sameNew (o:=.tup [.str "ask",.int (own:Nat),.int (A:Nat),.int (D:Nat),.ref l]) ft;exact k t _ (s1.trans s2) ⟨l,U,aw,s2 _ _ hl,pv.mono<|cB<|s1.trans s2⟩
inductive Bm(C g:wl)(B:be)(H:Hp)(Q:VK)(E:XK):Prop|i(M:MS)(p dp q u e q0:wl)(v:V)(own:Nat)(x:Str)(D A:Nat)(Z:bi)(G:Option bi)(_:B=[.ref p,.ref q,v])(_:H p=some (.ins C dp<|f2 own q0))(_:p≠q)(_:dG M g H q u e x D A G)(_:mK M H v (some Z))(_:∀v' Y,bG (· =q) H Y->dG M g Y q u e x D (A+1) (some Z)->Q v' Y)
theorem aeW(T:jM K C)(TS:iy K g):bP (Bm C g) (λE=>aR K [] [] [] [("ask",C,x_ C g)] (E:=E)) MD Ar:=by
 intro B H Q E h;obtain⟨M,p,dp,q,u,e,q0,v,own,x,D,A,Z,G,rfl,hp,iE,S,hv,k⟩:=h;obtain⟨vf,h1,h2⟩:=S.ob;refine dw<|aV<|br<|ag rfl ⟨q,g,u,_,_,rfl,h1,TS.cl,TS.uD,FC,ao<|cv<|ag rfl ⟨q,g,u,_,rfl,h1,TS.cl,TS.uD,(by show 6<1000;decide),?_⟩⟩
 rw[show(A:Int)+1=((A+1:Nat):Int) by lia,Pr]
 have S1:=S.put (x':=x) (kn':=D) (se':=A+1) h2;have Px:=hv.ins (o:=.ins g u (f6 x D (A+1) vf .av<|.ref e)) h1;have b1:bG (· =q) H (upd H q<|.ins g u<|f6 x D (A+1) vf .av<|.ref e):=bG.upd;have gQ:upd H q (.ins g u<|f6 x D (A+1) vf .av<|.ref e) q=some (.ins g u<|f6 x D (A+1) vf .av<|.ref e):=aw;generalize upd H q (.ins g u<|f6 x D (A+1) vf .av<|.ref e)=H1 at S1 Px b1 gQ⊢;refine dw<|ag rfl<|ag rfl ⟨q,g,u,_,rfl,gQ,TS.cl,TS.gu,(by show 6<1000;decide),?_⟩
 rw[Bl];have S2:=S1.put (x':=x) (kn':=D) (se':=A+1) Px;have b2:bG (· =q) H1 (upd H1 q<|.ins g u<|f6 x D (A+1) v .av<|.ref e):=bG.upd;generalize upd H1 q (.ins g u<|f6 x D (A+1) v .av<|.ref e)=H2 at S2 b2⊢;have FH:=b1.trans b2;refine bL<|bV<|ak<|eG C (x_ C g) rfl<|ag rfl ⟨p,dp,_,rfl,FH _ _ hp iE,cW,ag rfl ⟨M,p,dp,q,u,e,q0,own,x,D,A+1,Z,rfl,FH _ _ hp iE,S2,λt H3 s3 ha=>aA ⟨dz,λL fL=>?_⟩⟩⟩;have s4:=s3.trans (sameNew (o:=.lst [V.ref t]) fL);exact k _ _ (FH.trans<|bG.same s4)<|S2.same s4
def Bn(C g CB:wl):Sp:=λB H Q E=>∃(M:MS) (p q u e:wl) (x:Str) (D A:Nat) (G:Option bi),B=[.ref p,.ref q]/\dG M g H q u e x D A G/\
 match G with
 |none=>E (.ref CB) none H
 |some _=>∀L Y,bG (· =q) H Y->dG M g Y q u e x D A none->Y L=some (.lst [])->Q (.ref L) Y
theorem aeY{CB:wl}(TS:iy K g):bP (Bn C g CB) (λE=>aR K [] [] [] [("take_off",C,Bm C g)] (et:=[("BadLetter",CB)]) (E:=E)) MJ Ar:=by
 intro B H Q E h;obtain⟨M,p,q,u,e,x,D,A,G,rfl,S,k⟩:=h;obtain⟨vf,h1,h2⟩:=S.ob;cases G with
 |none=>
  cases (show vf=.av from h2)
  exact YL<|aY<|br<|ag rfl ⟨q,g,u,_,_,rfl,h1,TS.cl,TS.gu,jo,ao<|jn ⟨_,rfl,iT ⟨dz,k⟩<|zqT rfl⟩⟩
 |some Z=>
 obtain⟨a,U,rfl,ha,pv,na⟩:=h2;refine YL<|aY<|br<|ag rfl ⟨q,g,u,_,_,rfl,h1,TS.cl,TS.gu,jo,ao<|jn ⟨_,rfl,iF (bU ?_) qr⟩⟩;refine bq<|br<|ag rfl ⟨q,g,u,_,_,rfl,h1,TS.cl,TS.pQ,Bk,?_⟩;refine dw<|ao<|ag rfl ⟨q,g,u,_,rfl,h1,TS.cl,TS.gu,(by show 6<1000;decide),?_⟩
 rw[Bl];have S1:=S.put (x':=x) (kn':=D) (se':=A) (vf:=.av) (fl':=none) rfl;have b1:bG (· =q) H (upd H q<|.ins g u<|f6 x D A .av .av<|.ref e):=bG.upd;have gQ:upd H q (.ins g u<|f6 x D A .av .av<|.ref e) q=some (.ins g u<|f6 x D A .av .av<|.ref e):=aw;generalize upd H q (.ins g u<|f6 x D A .av .av<|.ref e)=H1 at S1 b1 gQ⊢;refine dw<|ao<|ag rfl ⟨q,g,u,_,rfl,gQ,TS.cl,TS.pQ,(by show 6<1000;decide),?_⟩
 rw[FE];have S2:=S1.put (x':=x) (kn':=D) (se':=A) (vf:=.av) (fl':=none) rfl;have b2:bG (· =q) H1 (upd H1 q<|.ins g u<|f6 x D A .av .av<|.ref e):=bG.upd;generalize upd H1 q (.ins g u<|f6 x D A .av .av<|.ref e)=H2 at S2 b2⊢;refine bL<|qq<|aY<|ag rfl<|ao<|jn ⟨_,rfl,iT (bV<|aA ⟨zqZ _,λL fL=>?_⟩)<|zqT rfl⟩;exact k L _ ((b1.trans b2).trans<|bG.same<|sameNew fL) (S2.same<|sameNew fL) aw
def Py(H:Hp)(own D A:Nat)(G:Option bi)(L:wl):Prop:= ∃t0 us,H t0=some (.tup [.str "again",.int (own:Nat),.int (D:Nat)])/\H L=some (.lst (.ref t0::us))/\
 match G with
 |none=>us=[]
 |some Z=>∃t,us=[.ref t]/\x8 H t own A D Z
inductive FI(C g:wl)(B:be)(H:Hp)(Q:VK)(E:XK):Prop|i(M:MS)(h:zbO)(x:Str)(D A:Nat)(G:Option bi)(_:B=[.ref h.p])(_:cD M C g H h x D A G)(_:∀L Y,au H Y->Py Y h.own D A G L->Q (.ref L) Y)
theorem aeZ(T:jM K C)(TS:iy K g):bP (FI C g) (λE=>aR K [] [] [] [("seen",C,oz C g),("ask",C,x_ C g)] (E:=E)) MO MN:=by
 intro B H Q E h;obtain⟨M,h,x,D,A,G,rfl,S,k⟩:=h;refine bq<|bN<|ak<|ao<|ak<|br<|ag rfl ⟨h.p,C,h.dp,_,_,rfl,S.ob,T.cl,T.uE,x6,ak<|cq C (oz C g) rfl<|ag rfl ⟨h.p,h.dp,_,rfl,S.ob,cW,M,h,x,D,A,G,rfl,S,aA ⟨yU,λt0 f0=>?_⟩⟩⟩;have s1:=sameNew (o:=.tup [.str "again",.int (h.own:Nat),.int (D:Nat)]) f0;have h0:upd H t0 (.tup [.str "again",.int (h.own:Nat),.int (D:Nat)]) t0=some (.tup [.str "again",.int (h.own:Nat),.int (D:Nat)]):=aw;generalize upd H t0 (.tup [.str "again",.int (h.own:Nat),.int (D:Nat)])=H1 at s1 h0⊢;have S1:=S.same s1;obtain⟨vf,h1,h2⟩:=S1.st.ob;cases G with
 |none=>
  cases (show vf=.av from h2)
  refine bL<|qq<|aY<|br<|br<|ag rfl ⟨h.p,C,h.dp,_,_,rfl,S1.ob,T.cl,T.lu,oy,h.q,g,h.dq,_,_,rfl,h1,TS.cl,TS.gu,jo,ao<|jn ⟨_,rfl,iT (bV<|ak<|ag rfl<|aA ⟨dz,λL fL=>?_⟩)<|zqT rfl⟩⟩;have s2:=sameNew (o:=.lst [V.ref t0]) fL;exact k L _ (s1.trans s2) ⟨t0,[],s2 _ _ h0,aw,rfl⟩
 |some Z=>
  obtain⟨a,U,rfl,ha,pv,na⟩:=h2;refine bL<|qq<|aY<|br<|br<|ag rfl ⟨h.p,C,h.dp,_,_,rfl,S1.ob,T.cl,T.lu,oy,h.q,g,h.dq,_,_,rfl,h1,TS.cl,TS.gu,jo,ao<|jn ⟨_,rfl,iF ?_ qr⟩⟩;refine bV<|ak<|ag rfl<|ak<|eG C (x_ C g) rfl<|ag rfl ⟨h.p,h.dp,_,rfl,S1.ob,cW,br<|ag rfl ⟨h.p,C,h.dp,_,_,rfl,S1.ob,T.cl,T.lu,oy,M,h.p,h.dp,h.q,h.dq,h.e,h.q,h.own,x,D,A,Z,rfl,S1.ob,S1.st,λt H3 s3 hA=>aA ⟨bQ,λL fL=>?_⟩⟩⟩;have s4:=sameNew (o:=.lst [V.ref t0,V.ref t]) fL;exact k L _ ((s1.trans s3).trans s4) ⟨t0,[.ref t],s4 _ _<|s3 _ _ h0,aw,t,rfl,hA.same s4⟩
inductive ya(g:wl)(B:be)(H:Hp)(Q:VK)(E:XK):Prop|i(q u:wl)(x:Str)(_:B=[.ref q,.str x])(_:H q=some (.ins g u []))(_:∀e Y,H e=none->(∀z o,H z=some o->z≠q->Y z=some o)->Y q=some (.ins g u<|f6 x 0 0 .av .av<|.ref e)->Y e=some (.dK [])->Q .av Y)
theorem ae1(TS:iy K g):bP (ya g) (λE=>aR K [] [] (E:=E)) Mg Mf:=by
 intro B H Q E h;obtain⟨q,u,x,rfl,hq,k⟩:=h;have st:∀{H0:Hp}{fs:cr}{o:HO},H0 q=some (.ins g u fs)->upd H0 q o q=some o:=λ_=>aw;refine dw<|ag rfl<|ag rfl ⟨q,g,u,_,rfl,hq,TS.cl,TS.iV,(by show 0<1000;decide),?_⟩
 have k1:∀z o,H z=some o->z≠q->upd H q (.ins g u<|aI "signs" (.str x) []) z=some o:=λz o e n=>by rw[aC n];exact e
 have gQ:upd H q (.ins g u<|aI "signs" (.str x) []) q=some (.ins g u<|aI "signs" (.str x) []):=aw;generalize upd H q (.ins g u<|aI "signs" (.str x) [])=H1 at k1 gQ⊢;refine dw<|ao<|ag rfl ⟨q,g,u,_,rfl,gQ,TS.cl,TS.lq,(by show 1<1000;decide),?_⟩
 have k2:∀z o,H z=some o->z≠q->upd H1 q (.ins g u<|aI "known" (.int 0)<|aI "signs" (.str x) []) z=some o:=λz o e n=>by rw[aC n];exact k1 z o e n
 have iq:upd H1 q (.ins g u<|aI "known" (.int 0)<|aI "signs" (.str x) []) q=some (.ins g u<|aI "known" (.int 0)<|aI "signs" (.str x) []):=aw;generalize upd H1 q (.ins g u<|aI "known" (.int 0)<|aI "signs" (.str x) [])=H2 at k2 iq⊢;refine dw<|ao<|ag rfl ⟨q,g,u,_,rfl,iq,TS.cl,TS.uD,(by show 2<1000;decide),?_⟩
 have k3:∀z o,H z=some o->z≠q->upd H2 q (.ins g u<|aI "serial" (.int 0)<|aI "known" (.int 0)<|aI "signs" (.str x) []) z=some o:=λz o e n=>by rw[aC n];exact k2 z o e n
 have yb:upd H2 q (.ins g u<|aI "serial" (.int 0)<|aI "known" (.int 0)<|aI "signs" (.str x) []) q=some (.ins g u<|aI "serial" (.int 0)<|aI "known" (.int 0)<|aI "signs" (.str x) []):=aw;generalize upd H2 q (.ins g u<|aI "serial" (.int 0)<|aI "known" (.int 0)<|aI "signs" (.str x) [])=H3 at k3 yb⊢;refine dw<|ao<|ag rfl ⟨q,g,u,_,rfl,yb,TS.cl,TS.gu,(by show 3<1000;decide),?_⟩
 generalize FJ:aI "flying" .av (aI "serial" (.int 0)<|aI "known" (.int 0)<|aI "signs" (.str x) [])=f4;have l4:f4.length=4:=by rw[<-FJ];rfl
 have k4:∀z o,H z=some o->z≠q->upd H3 q (.ins g u f4) z=some o:=λz o e n=>by rw[aC n];exact k3 z o e n
 have yc:upd H3 q (.ins g u f4) q=some (.ins g u f4):=aw;generalize upd H3 q (.ins g u f4)=H4 at k4 yc⊢;refine dw<|ao<|ag rfl ⟨q,g,u,_,rfl,yc,TS.cl,TS.pQ,(by rw[l4];decide),?_⟩
 generalize Pz:aI "delayed" .av f4=f5;have l5:f5.length=5:=by rw[<-Pz,<-FJ];rfl
 have k5:∀z o,H z=some o->z≠q->upd H4 q (.ins g u f5) z=some o:=λz o e n=>by rw[aC n];exact k4 z o e n
 have mM:upd H4 q (.ins g u f5) q=some (.ins g u f5):=aw;generalize upd H4 q (.ins g u f5)=H5 at k5 mM⊢;refine dw<|adL λe fe=>?_;have vq:e≠q:=λy=>by rw[y,mM] at fe;cases fe
 refine ag rfl ⟨q,g,u,_,rfl,(by rw[aC<|Fa vq];exact mM),TS.cl,TS.pR,(by rw[l5];decide),?_⟩
 refine k e _ ?_ (λz o ez n=>?_) ?_ ?_
 ·cases ez:H e with
  |none=>rfl
  |some o=>rw[k5 _ _ ez vq] at fe;cases fe
 ·rw[aC n,aC<|aO (k5 _ _ ez n) fe];exact k5 _ _ ez n
 ·rw[aw,<-Pz,<-FJ];exact Cl (λl=>some<|HO.ins g u l) (aeO (b:=0) (c:=0))
 ·rw[aC vq];exact aw
theorem ae2(h:aj J a N H λv H1=>∃p az,[v]=[.ref p]/\H1 p=some (.dK az)/\∀l,H1 l=none->Q (.ref l) (upd H1 l<|.dK az)):aj J (.xt Eh [a]) N H Q:=h
inductive FK(g:wl)(B:be)(H:Hp)(Q:VK)(E:XK):Prop|i(M:MS)(q u e:wl)(x:Str)(D A:Nat)(G:Option bi)(_:B=[.ref q])(_:dG M g H q u e x D A G)(_:∀q' cJ e' Y,au H Y->H q'=none->H e'=none->dG M g Y q' cJ e' x D A G->Q (.ref q') Y)
theorem ae3(TS:iy K g):bP (FK g) (λE=>aR K [] [] [] [] [("Stand",g,ya g)] (E:=E)) Mj Mi:=by
 intro B H Q E h;obtain⟨M,q,u,e,x,D,A,G,rfl,S,k⟩:=h;obtain⟨vf,h1,h2⟩:=S.ob;have he:=S.he;refine bq<|vg g (ya g) rfl<|br<|ag rfl ⟨q,g,u,_,_,rfl,h1,TS.cl,TS.iV,x4,λq' cJ fq FL fX=>⟨q',cJ,x,rfl,aw,λe0 H1 yd b1 gQ he0=>⟨rfl,?_⟩⟩⟩;have s1:∀z o,H z=some o->H1 z=some o:=λz o ez=>b1 _ _ (by rw[aC<|aO ez fq,aC<|aO ez FL];exact ez) (aO ez fq)
 have ye:∀{z:wl}{o:HO},H z=some o->z≠q':=λez=>aO ez fq;have h11:=s1 _ _ h1;refine dw<|br<|ag rfl ⟨q,g,u,_,_,rfl,h11,TS.cl,TS.lq,qp,ag rfl ⟨q',g,cJ,_,rfl,gQ,TS.cl,TS.lq,(by show 6<1000;decide),?_⟩⟩
 rw[Pq];have s2:∀z o,H z=some o->upd H1 q' (.ins g cJ<|f6 x D 0 .av .av<|.ref e0) z=some o:=λz o ez=>by rw[aC<|ye ez];exact s1 _ _ ez
 have iq:upd H1 q' (.ins g cJ<|f6 x D 0 .av .av<|.ref e0) q'=some (.ins g cJ<|f6 x D 0 .av .av<|.ref e0):=aw;generalize upd H1 q' (.ins g cJ<|f6 x D 0 .av .av<|.ref e0)=H2 at s2 iq⊢;refine dw<|br<|ag rfl ⟨q,g,u,_,_,rfl,s2 _ _ h1,TS.cl,TS.uD,FC,ag rfl ⟨q',g,cJ,_,rfl,iq,TS.cl,TS.uD,(by show 6<1000;decide),?_⟩⟩
 rw[Pr];have s3:∀z o,H z=some o->upd H2 q' (.ins g cJ<|f6 x D A .av .av<|.ref e0) z=some o:=λz o ez=>by rw[aC<|ye ez];exact s2 _ _ ez
 have yb:upd H2 q' (.ins g cJ<|f6 x D A .av .av<|.ref e0) q'=some (.ins g cJ<|f6 x D A .av .av<|.ref e0):=aw;generalize upd H2 q' (.ins g cJ<|f6 x D A .av .av<|.ref e0)=H3 at s3 yb⊢;refine dw<|br<|ag rfl ⟨q,g,u,_,_,rfl,s3 _ _ h1,TS.cl,TS.gu,jo,ag rfl ⟨q',g,cJ,_,rfl,yb,TS.cl,TS.gu,(by show 6<1000;decide),?_⟩⟩
 rw[Bl];have s4:∀z o,H z=some o->upd H3 q' (.ins g cJ<|f6 x D A vf .av<|.ref e0) z=some o:=λz o ez=>by rw[aC<|ye ez];exact s3 _ _ ez
 have yc:upd H3 q' (.ins g cJ<|f6 x D A vf .av<|.ref e0) q'=some (.ins g cJ<|f6 x D A vf .av<|.ref e0):=aw;generalize upd H3 q' (.ins g cJ<|f6 x D A vf .av<|.ref e0)=H4 at s4 yc⊢;refine dw<|br<|ag rfl ⟨q,g,u,_,_,rfl,s4 _ _ h1,TS.cl,TS.pQ,Bk,ag rfl ⟨q',g,cJ,_,rfl,yc,TS.cl,TS.pQ,(by show 6<1000;decide),?_⟩⟩
 rw[FE];have s5:∀z o,H z=some o->upd H4 q' (.ins g cJ<|f6 x D A vf .av<|.ref e0) z=some o:=λz o ez=>by rw[aC<|ye ez];exact s4 _ _ ez
 have mM:upd H4 q' (.ins g cJ<|f6 x D A vf .av<|.ref e0) q'=some (.ins g cJ<|f6 x D A vf .av<|.ref e0):=aw;generalize upd H4 q' (.ins g cJ<|f6 x D A vf .av<|.ref e0)=H5 at s5 mM⊢;refine dw<|ae2<|br<|ag rfl ⟨q,g,u,_,_,rfl,s5 _ _ h1,TS.cl,TS.pR,vo,e,[],rfl,s5 _ _ he,λe' Bo=>?_⟩;have vq:q'≠e':=aO mM Bo;refine ag rfl ⟨q',g,cJ,_,rfl,(by rw[aC vq];exact mM),TS.cl,TS.pR,(by show 6<1000;decide),?_⟩
 rw[aeP];have s6:au H (upd (upd H5 e'<|.dK []) q'<|.ins g cJ<|f6 x D A vf .av<|.ref e'):=λz o ez=>by
  rw[aC<|ye ez,aC<|aO (s5 _ _ ez) Bo];exact s5 _ _ ez
 have fe:H e'=none:=by
  cases ez:H e' with
  |none=>rfl
  |some o=>rw[s5 _ _ ez] at Bo;cases Bo
 refine bL<|ag rfl<|k q' cJ e' _ s6 fq fe ⟨⟨vf,aw,h2.same s6⟩,by rw[aC<|Fa vq];exact aw⟩
inductive tj(C g CT CN:wl)(B:be)(H:Hp)(Q:VK)(E:XK):Prop|i(p:wl)(v w:V)(_:B=[.ref p,v,w])(_:((fR v 0 7 H/\E (.ref CN) none H)\/(∃own:Nat,v=.int (own:Nat)/\own<=7/\iB w H/\E (.ref CT) none H)\/
 ∃(dp:wl) (own:Nat) (x:Str),v=.int (own:Nat)/\w=.str x/\H p=some (.ins C dp [])/\own<=7/\good x/\
 ∀q u e Y,H q=none->(∀z o,H z=some o->z≠p->Y z=some o)->cD (λ_=>False) C g Y ⟨p,dp,q,u,e,own⟩ x 0 0 none->Q .av Y))
theorem ae5{CT CN:wl}(T:jM K C):bP (tj C g CT CN) (λE=>aR K [("is_between",gh),("need_text",mD CT)] [("MOST_HANDS",.int 8)] [] [] [("Stand",g,ya g)] (et:=[("NoHand",CN)]) (E:=E)) Ms Mr:=by
 intro B H Q E h;obtain⟨p,v,w,rfl,⟨hn,k⟩|⟨own,rfl,ho,hb,k⟩|⟨dp,own,x,rfl,rfl,hp,ho,gx,k⟩⟩:=h
 ·exact YL (cN<|eI gh rfl<|ak<|ag rfl<|ak<|ao<|ak<|aV<|mE<|ao<|gR<|aA ⟨v,_,_,rfl,.inr ⟨hn,cU<|iT ⟨dz,k⟩ rfl⟩⟩)
 ·refine YL (cN<|eI gh rfl<|ak<|ag rfl<|ak<|ao<|ak<|aV<|mE<|ao<|gR<|aA ⟨_,_,_,rfl,.inl ⟨_,rfl,by lia,by lia,cU<|iF (bU ?_) rfl⟩⟩)
  exact cZ<|ba (mD CT) rfl<|ak<|ag rfl<|aA ⟨w,rfl,.inr ⟨hb,k⟩⟩
 refine YL<|cN<|eI gh rfl<|ak<|ag rfl<|ak<|ao<|ak<|aV<|mE<|ao<|gR<|aA ⟨_,_,_,rfl,.inl ⟨_,rfl,by lia,by lia,cU<|iF (bU ?_) rfl⟩⟩
 refine cZ<|ba (mD CT) rfl<|ak<|ag rfl<|aA ⟨_,rfl,.inl ⟨x,rfl,gx,?_⟩⟩;refine dw<|ag rfl<|ag rfl ⟨p,C,dp,_,rfl,hp,T.cl,T.uE,(by show 0<1000;decide),?_⟩
 have k1:∀z o,H z=some o->z≠p->upd H p (.ins C dp<|aI "number" (.int (own:Nat)) []) z=some o:=λz o e n=>by rw[aC n];exact e
 have dD:upd H p (.ins C dp<|aI "number" (.int (own:Nat)) []) p=some (.ins C dp<|aI "number" (.int (own:Nat)) []):=aw;generalize upd H p (.ins C dp<|aI "number" (.int (own:Nat)) [])=H1 at k1 dD⊢;refine dw<|vg g (ya g) rfl<|ag rfl λq u fq FL fX=>⟨q,u,x,rfl,aw,λe H2 fe b2 iq FN=>⟨rfl,?_⟩⟩;have s2:∀z o,H1 z=some o->H2 z=some o:=λz o ez=>b2 _ _ (by rw[aC<|aO ez fq,aC<|aO ez FL];exact ez) (aO ez fq)
 have gT:=s2 _ _ dD;have iE:p≠q:=aO dD fq;have Bp:p≠e:=λy=>by rw[y] at gT;rw[gT] at FN;cases FN
 refine ag rfl ⟨p,C,dp,_,rfl,gT,T.cl,T.lu,(by show 1<1000;decide),?_⟩
 have my:H q=none:=by
  cases ez:H q with
  |none=>rfl
  |some o=>rw[k1 _ _ ez iE.symm] at fq;cases fq
 refine k q u e _ my (λz o ez n=>?_) ⟨?_,⟨.av,?_,rfl⟩,?_⟩
 ·rw[aC n];exact s2 _ _ (k1 _ _ ez n)
 ·rw[aw];have e0:∀(f:Str) (v:V),aI f v []=[(f,v)]:=λ_ _=>rfl;rw[e0,d9 (by decide+kernel),e0]
 ·rw[aC iE.symm];exact iq
 ·rw[aC Bp.symm];exact FN
variable {X:wl}
def eK(v:V)(H:Hp)(c:bi):Prop:= ∃a U,v=.ref a/\H a=some (.lst U)/\bh H U c/\(∀p∈c,bx p)/\chainOk "" c=true
theorem eK.same{c:bi}(i:eK v H c)(s:au H Y):eK v Y c:=by
 obtain⟨a,U,rfl,h1,h2,h3,h4⟩:=i;exact⟨a,U,rfl,s _ _ h1,h2.mono<|cB s,h3,h4⟩
theorem eK.at{b:wl}{c:bi}(i:eK (.ref b) H c):∃U,H b=some (.lst U)/\bh H U c/\(∀p∈c,bx p)/\chainOk "" c=true:=by
 obtain⟨a,U,e,h⟩:=i;cases e;exact⟨U,h⟩
inductive vv(B:be)(H:Hp)(Q:VK)(E:XK):Prop|i(v:_)(_:B=[v])(_:((∃c,eK v H c/\∀Y,au H Y->Q (.bl true) Y)\/(fN v H/\∀Y,au H Y->Q (.bl false) Y)))
theorem ae6(xB:exmOne K (.ref X) (.ref X)=some true):bP (vv) (λE=>aR K [("need_change",eF w4<|uP X)] [("BadChange",.ref X)] (E:=E)) Ln jJ:=by
 intro B H Q E h;obtain⟨v,rfl,⟨c,⟨a,U,rfl,ha,pv,ok,ch⟩,q⟩|⟨hn,q⟩⟩:=h
 ·exact⟨X,rfl,cZ<|ba (eF w4<|uP X) rfl<|ak<|ag rfl<|aA<|.inl ⟨a,U,c,rfl,ha,pv,ok,ch,λY s=>bL<|ao<|q Y s⟩⟩
 ·exact⟨X,rfl,cZ<|ba (eF w4<|uP X) rfl<|ak<|ag rfl<|aA<|.inr ⟨v,rfl,hn,λY s=>⟨xB,λea ob B K' kW _ _=>bL<|ao<|q _<|s.trans<|sameNew kW⟩⟩⟩
theorem eY{QT:ge}{b:RE}{r:jp}(h:bC J a N H λc H1=>if c=true then QT true H1 else bC J (.or (b::r)) N H1 QT):bC J (.or (a::b::r)) N H QT:=h
theorem kr{QT:ge}(h:bC J a N H QT):bC J (.or [a]) N H QT:=h
theorem yf{QT:ge}{m:Str}(h:aj J (.aG j m o W) N H λx H1=>j8 J.K x H1 λb=>QT b H1):bC J (.aG j m o W) N H QT:=h
theorem Bq{QT:ge}(h:aj J (.call j W) N H λx H1=>j8 J.K x H1 λb=>QT b H1):bC J (.call j W) N H QT:=h
theorem vw{a:wl}{k:Nat->Prop}(ha:H a=some (.tup U))(q:k U.length):ub K (.ref a) H k:=.inr ⟨U,aP.of ha,q⟩
def ku(w:Str)(v:V)(H:Hp):Prop:=fM .str v H\/∃s,v=.str s/\s≠w
theorem ku.same{w:Str}(n:ku w v H)(s:au H Y):ku w v Y:=n.elim (λa=>.inl<|fM.same a s) .inr
theorem str_beq{t:Str}(n:s≠t):(t==s)=false:=by
 cases e:t==s with
 |false=>rfl
 |true=>exact absurd (by simpa using e:t=s).symm n
theorem vx{w:Str}{lt:wl}(hf:J.fs j=p7 J.K)(e:N[i]?=some (some<|.ref lt))(hl:H lt=some (.tup (v::B)))(q:(v=.str w/\∀Y,au H Y->Q (.bl true) Y)\/(ku w v H/\∀Y,au H Y->Q (.bl false) Y)):aj J (.call j [(.ix (.v i)<|.c<|.int 0),(.tup [(.c<|.str w)])]) N H Q:=by
 refine ba (p7 J.K) hf<|ak<|a_<|ag e<|ao<|bO hl (show jx (v::B) ((0:Nat):Int)=_ from fH rfl)<|ak<|bN<|ak<|ao<|aA ⟨dz,λt ft=>aA ⟨v,t,_,rfl,aP.of aw,rfl,?_⟩⟩
 rcases q with⟨rfl,q⟩|⟨n,q⟩
 ·refine .inl ⟨w,rfl,?_⟩;have e:g_ (.str w) [.str w]=true:=by show((w==w)||false)=true;rw[FA];rfl
  rw[e];exact q _ (sameNew ft)
 ·rcases n with n|⟨s,rfl,n⟩
  ·exact .inr ⟨n.same<|sameNew ft,q _<|sameNew ft⟩
  ·refine .inl ⟨s,rfl,?_⟩;have e:g_ (.str s) [.str w]=false:=by rw[ES];exact str_beq n
   rw[e];exact q _ (sameNew ft)
abbrev FO(own n d_:Nat)(b:wl):be:=[.str "took",.int (own:Nat),.int (n:Nat),.int (d_:Nat),.ref b]
inductive hZ (own:Nat) (H:Hp):V->Prop
 |ty {v:_} (_:fM .tuple v H):hZ own H v
 |ln {a us:_} (_:H a=some (.tup us)) (_:us.length≠5) (_:us.length<=1000):hZ own H (.ref a)
 |wd {a w us:_} (_:H a=some (.tup (w::us))) (_:us.length=4) (_:ku "took" w H):hZ own H (.ref a)
 |ow {a v n m c:_} (_:H a=some (.tup [.str "took",v,n,m,c])) (_:fR v (own:Nat) (own:Nat) H):hZ own H (.ref a)
 |nm {a n m c:_} (_:H a=some (.tup [.str "took",.int (own:Nat),n,m,c])) (_:jS n H\/∃i,n=.int i/\i<1):hZ own H (.ref a)
 |wh {a m c:_}{i:Int} (_:H a=some (.tup [.str "took",.int (own:Nat),.int i,m,c])) (_:1<=i) (_:fR m 0 7 H):hZ own H (.ref a)
 |ch {a c:_}{i j:Int} (_:H a=some (.tup [.str "took",.int (own:Nat),.int i,.int j,c])) (_:1<=i) (_:0<=j/\j<=7) (_:fN c H):hZ own H (.ref a)
inductive Br(C X:wl)(B:be)(H:Hp)(Q:VK)(E:XK):Prop|i(p dp q0:wl)(own:Nat)(v:V)(_:B=[.ref p,v])(_:H p=some (.ins C dp<|f2 own q0))(_:((∃lt b n d_ c,v=.ref lt/\H lt=some (.tup<|FO own n d_ b)/\1<=n/\d_<=7/\eK (.ref b) H c/\∀Y,au H Y->Q .av Y)\/(hZ own H v/\∀Y,au H Y->E (.ref X) none Y)))
abbrev yg(K:Frag)(X:wl)(E:XK):aS:=aR K [("is_word",p7 K),("is_whole",iC),("is_between",gh),("is_change",vv)] [("MOST_HANDS",.int 8)] (et:=[("BadLetter",X)]) (E:=E)
theorem oA:[(V.str "")].length<=sizeLine:=by show 1<=sizeLine;decide
theorem ae7(T:jM K C):bP (Br C X) (λE=>yg K X E) wY pS:=by
 intro B H Q E h;obtain⟨p,dp,q0,own,v,rfl,hp,h⟩:=h;have U':∀{lt:wl}{v n m c:V}{H1:Hp},H lt=some (.tup [.str "took",v,n,m,c])->au H H1->((∃b k d_ cs,c=.ref b/\v=.int (own:Nat)/\n=.int ((k:Nat):Int)/\m=.int ((d_:Nat):Int)/\1<=k/\d_<=7/\eK (.ref b) H cs/\∀Y,au H Y->Q .av Y)\/
   ((fR v (own:Nat) (own:Nat) H\/(v=.int (own:Nat)/\((jS n H\/∃i,n=.int i/\i<1)\/∃i:Int,n=.int i/\1<=i/\(fR m 0 7 H\/∃j:Int,m=.int j/\0<=j/\j<=7/\fN c H))))/\∀Y,au H Y->E (.ref X) none Y))->aB (yg K X E) (wY.drop 1) (Dn Q) [some (.ref p),some (.ref lt)] H1:=by
  intro lt v n m c H1 hl s1 hh;have cp:=s1 _ _ hl;have dD:=s1 _ _ hp;have bad:(∀Y,au H Y->E (.ref X) none Y)->([(V.str "")].length<=sizeLine/\E (.ref X) none H1):=λk=>⟨oA,k _ s1⟩;have PB:∀{QT:ge},QT false H1->v=.int (own:Nat)->bC (yg K X E) (.or [(.not<|.call 1 [(.ix (.v 1)<|.c<|.int 1)]),(.cmp .NotEq (.ix (.v 1)<|.c<|.int 1)<|.fld (.v 0) "number")]) [some<|.ref p,some<|.ref lt] H1 QT:=by
   intro QT k ev;subst ev;refine eY<|cN<|eI iC rfl<|ak<|a_<|ag rfl<|ao<|bO cp rfl<|aA ⟨_,rfl,.inl ⟨_,rfl,cU<|iF ?_ rfl⟩⟩;exact kr<|aY<|a_<|ag rfl<|ao<|bO cp rfl<|br<|ag rfl ⟨p,C,dp,_,_,rfl,dD,T.cl,T.uE,x6,qe ⟨_,rfl,by rw[zqT rfl];exact k⟩⟩
  rcases hh with⟨b,k,d_,cs,rfl,ev,rfl,rfl,hk,hw,ic,kk⟩|⟨hb,kk⟩
  ·refine YL (PB (iF (bU ?_) rfl) ev);refine YL<|eY<|cN<|eI iC rfl<|ak<|a_<|ag rfl<|ao<|bO cp rfl<|aA ⟨_,rfl,.inl ⟨_,rfl,cU<|iF ?_ rfl⟩⟩;refine eY<|aY<|a_<|ag rfl<|ao<|bO cp rfl<|ao ⟨trivial,_,rfl,iF ?_<|zqF (by lia)⟩
   refine kr<|cN<|eI gh rfl<|ak<|a_<|ag rfl<|ao<|bO cp rfl<|ak<|ao<|ak<|aV<|mE<|ao<|gR<|aA ⟨_,_,_,rfl,.inl ⟨_,rfl,by lia,by lia,cU<|iF (bU ?_) rfl⟩⟩
   exact YL<|cN<|eI vv rfl<|ak<|a_<|ag rfl<|ao<|bO cp rfl<|aA ⟨_,rfl,.inl ⟨cs,ic.same s1,λH2 s2=>cU<|iF (bU<|kk _<|s1.trans s2) rfl⟩⟩
  rcases hb with hb|⟨ev,hb⟩
  ·refine YL ?_;rcases hb.same s1 with hb|⟨i,rfl,hb⟩
   ·exact eY (cN<|eI iC rfl<|ak<|a_<|ag rfl<|ao<|bO cp rfl<|aA ⟨_,rfl,.inr ⟨hb,cU<|iT (iT (bad kk) rfl) rfl⟩⟩)
   ·refine eY (cN<|eI iC rfl<|ak<|a_<|ag rfl<|ao<|bO cp rfl<|aA ⟨_,rfl,.inl ⟨_,rfl,cU<|iF ?_ rfl⟩⟩);exact kr<|aY<|a_<|ag rfl<|ao<|bO cp rfl<|br<|ag rfl ⟨p,C,dp,_,_,rfl,dD,T.cl,T.uE,x6,qe ⟨_,rfl,iT (bad kk) (by rw[zqF (by lia)];rfl)⟩⟩
  refine YL<|PB (iF (bU<|YL ?_) rfl) ev;rcases hb with hb|⟨i,rfl,hi,hb⟩
  ·rcases hb with hb|⟨i,rfl,hb⟩
   ·exact eY (cN<|eI iC rfl<|ak<|a_<|ag rfl<|ao<|bO cp rfl<|aA ⟨_,rfl,.inr ⟨hb.same s1,cU<|iT (iT (bad kk) rfl) rfl⟩⟩)
   ·refine eY (cN<|eI iC rfl<|ak<|a_<|ag rfl<|ao<|bO cp rfl<|aA ⟨_,rfl,.inl ⟨_,rfl,cU<|iF ?_ rfl⟩⟩);exact eY<|aY<|a_<|ag rfl<|ao<|bO cp rfl<|ao ⟨trivial,_,rfl,iT (iT (bad kk) rfl)<|zqT hb⟩
  refine eY<|cN<|eI iC rfl<|ak<|a_<|ag rfl<|ao<|bO cp rfl<|aA ⟨_,rfl,.inl ⟨_,rfl,cU<|iF ?_ rfl⟩⟩;refine eY<|aY<|a_<|ag rfl<|ao<|bO cp rfl<|ao ⟨trivial,_,rfl,iF ?_<|zqF (by lia)⟩
  rcases hb with hb|⟨j,rfl,h0,h7,hb⟩
  ·exact kr (cN<|eI gh rfl<|ak<|a_<|ag rfl<|ao<|bO cp rfl<|ak<|ao<|ak<|aV<|mE<|ao<|gR<|aA ⟨_,_,_,rfl,.inr ⟨hb.same s1,cU<|iT (bad kk) rfl⟩⟩)
  refine kr<|cN<|eI gh rfl<|ak<|a_<|ag rfl<|ao<|bO cp rfl<|ak<|ao<|ak<|aV<|mE<|ao<|gR<|aA ⟨_,_,_,rfl,.inl ⟨_,rfl,by lia,by lia,cU<|iF (bU ?_) rfl⟩⟩
  exact YL<|cN<|eI vv rfl<|ak<|a_<|ag rfl<|ao<|bO cp rfl<|aA ⟨_,rfl,.inr ⟨hb.same s1,λH2 s2=>cU<|iT ⟨oA,kk _<|s1.trans s2⟩ rfl⟩⟩
 have kx:∀{lt:wl}{w:V}{us:be},H lt=some (.tup (w::us))->us.length=4->((w=.str "took"/\∀H1,au H H1->aB (yg K X E) (wY.drop 1) (Dn Q) [some<|.ref p,some<|.ref lt] H1)\/(ku "took" w H/\∀Y,au H Y->E (.ref X) none Y))->aB (yg K X E) wY (Dn Q) [some<|.ref p,some<|.ref lt] H:=by
  intro lt w us hl hu hh;refine YL<|eY<|cN<|vh<|ag rfl<|pT hl<|iF ?_ rfl;refine eY<|aY<|gC<|ag rfl<|vw hl<|ao<|qe ⟨_,rfl,iF ?_ (by rw[zaz,hu];rfl)⟩
  rcases hh with⟨rfl,k⟩|⟨n,k⟩
  ·exact kr (cN<|Bq<|vx rfl rfl hl<|.inl ⟨rfl,λH1 s1=>cU<|iF (bU<|k _ s1) rfl⟩)
  ·exact kr (cN<|Bq<|vx rfl rfl hl<|.inr ⟨n,λH1 s1=>cU<|iT ⟨oA,k _ s1⟩ rfl⟩)
 rcases h with⟨lt,b,n,d_,c,rfl,hl,hn,hw,ic,k⟩|⟨hb,k⟩
 ·exact kx hl rfl (.inl ⟨rfl,λH1 s1=>U' hl s1<|.inl ⟨b,n,d_,c,rfl,rfl,rfl,rfl,hn,hw,ic,k⟩⟩)
 cases hb with
 |ty hb=>exact YL (eY<|cN<|vh<|ag rfl<|hb.go<|iT (iT ⟨oA,k _<|au.refl _⟩ rfl) rfl)
 |ln hl hu hm=>
  refine YL<|eY<|cN<|vh<|ag rfl<|pT hl<|iF ?_ rfl;refine eY<|aY<|gC<|ag rfl<|vw hl<|ao<|qe ⟨_,rfl,iT (iT ⟨oA,k _<|au.refl _⟩ rfl) ?_⟩;rw[zqF (by lia)];rfl
 |wd hl hu hb=>exact kx hl hu (.inr ⟨hb,k⟩)
 |ow hl hb=>exact kx hl rfl (.inl ⟨rfl,λH1 s1=>U' hl s1<|.inr ⟨.inl hb,k⟩⟩)
 |nm hl hb=>exact kx hl rfl (.inl ⟨rfl,λH1 s1=>U' hl s1<|.inr ⟨.inr ⟨rfl,.inl hb⟩,k⟩⟩)
 |wh hl hi hb=>exact kx hl rfl (.inl ⟨rfl,λH1 s1=>U' hl s1<|.inr ⟨.inr ⟨rfl,.inr ⟨_,rfl,hi,.inl hb⟩⟩,k⟩⟩)
 |ch hl hi hj hb=>exact kx hl rfl (.inl ⟨rfl,λH1 s1=>U' hl s1<|.inr ⟨.inr ⟨rfl,.inr ⟨_,rfl,hi,.inr ⟨_,rfl,hj.1,hj.2,hb⟩⟩⟩,k⟩⟩)
def Al(M:MS)(H:Hp):Prop:= ∀z,M z->∃o,H z=some o
theorem Al.no(al:Al M H){z:wl}(hz:H z=none):¬M z:=λhm=>by obtain⟨o,ho⟩:=al _ hm;rw[hz] at ho;cases ho
def FP(c:bi)(x:Str):Option bi->Prop
 |none=>∃r,Run x.cps.toList c r/\r.length<=1000000
 |some f=>∃l m,(∀p∈f,bx p)/\chainOk "" f=true/\c.length+f.length<=30000/\bg c+bg f<=100000/\Run l c m/\Run l f x.cps.toList/\x.length+bg c<=1000000
def FQ(c:bi)(x:Str):Option bi->bi->bn->Option bi->Prop
 |none,Z,r,o=>Z=c/\o=none/\Run x.cps.toList c r
 |some f,Z,r,o=>∃l m qs,o=some qs/\Passed c f Z qs l m x.cps.toList/\Run x.cps.toList Z r
theorem dG.weak{M':MS}(S:dG M g H q u e x D A G)(w:∀z,M' z->M z\/H z=none):dG M' g H q u e x D A G:=by
 obtain⟨vf,h1,h2⟩:=S.ob;refine⟨⟨vf,h1,?_⟩,S.he⟩;cases G with
 |none=>exact h2
 |some Z=>
  obtain⟨a,U,e1,ha,pv,na⟩:=h2;exact⟨a,U,e1,ha,pv,λhz=>(w a hz).elim na λy=>by rw[y] at ha;cases ha⟩
inductive FR(g:wl)(B:be)(H:Hp)(Q:VK)(E:XK):Prop|i(M:MS)(q u e:wl)(x:Str)(D A:Nat)(G:Option bi)(a:wl)(U:be)(c:bi)(_:B=[.ref q,.ref a])(_:dG M g H q u e x D A G)(_:Al M H)(_:H a=some (.lst U))(_:bh H U c)(_:(∀p∈c,bx p))(_:chainOk "" c=true)(_:c.length<=10000)(_:good x)(_:FP c x G)(_:∀a' zs Z r o Y,FQ c x G Z r o->bG (· =q) H Y->dG M g Y q u e ⟨r.toArray⟩ D A o->Y a'=some (.lst zs)->bh Y zs Z->(a'=a\/H a'=none)->Q (.ref a') Y)
abbrev PD(K:Frag)(E:XK):aS:=aR K [("passed",vi),("done",mz)] [] (E:=E)
theorem PF(TS:iy K g){E:XK}{a:wl}{c:bi}{r:bn}{u2:sK}(S:dG M g H q u e x D A G)(ha:H a=some (.lst U))(pv:bh H U c)(ok:∀p∈c,bx p)(cc:chainOk "" c=true)(lc:c.length<=100000)(gx:good x)(hr:Run x.cps.toList c r)(lr:r.length<=1000000)
  (k:∀Y zs,bG (· =q) H Y->dG M g Y q u e ⟨r.toArray⟩ D A G->Y a=some (.lst zs)->bh Y zs c->Q (.ref a) Y):aB (PD K E) (Er.drop 1) (Dn Q) [some<|.ref q,some<|.ref a,u2] H:=by
 obtain⟨vf,h1,h2⟩:=S.ob;refine YL<|aY<|br<|ag rfl ⟨q,g,u,_,_,rfl,h1,TS.cl,TS.pQ,Bk,ao<|vp ⟨_,rfl,iF (bU ?_) (by rw[zqT rfl];rfl)⟩⟩
 refine dw<|ba mz rfl<|ak<|br<|ag rfl ⟨q,g,u,_,_,rfl,h1,TS.cl,TS.iV,x4,ak<|ag rfl<|aA ⟨x,a,U,c,r,rfl,gx,ha,pv,ok,cc,lc,hr,lr,λH1 s1=>?_⟩⟩;refine ag rfl ⟨q,g,u,_,rfl,s1 _ _ h1,TS.cl,TS.iV,(by show 6<1000;decide),?_⟩
 rw[FD];have S1:=(S.same s1).put (x':=⟨r.toArray⟩) (kn':=D) (se':=A) (h2.same s1);have gQ:=s1 _ _ h1;have na:a≠q:=λy=>by rw[y,h1] at ha;cases ha
 exact bL<|ag rfl<|k _ U ((bG.same s1).trans bG.upd) S1 (by rw[aC na];exact s1 _ _ ha)<|(pv.mono<|cB s1).mono<|s_ gQ
theorem ae8(TS:iy K g):bP (FR g) (λE=>PD K E) Er Mp:=by
 intro B H Q E h;obtain⟨M,q,u,e,x,D,A,G,a,U,c,rfl,S,al,ha,pv,ok,cc,lc,gx,pre,k⟩:=h;obtain⟨vf,h1,h2⟩:=S.ob;cases G with
 |none=>
  cases (show vf=.av from h2)
  obtain⟨r,hr,lr⟩:=pre;refine YL<|aY<|br<|ag rfl ⟨q,g,u,_,_,rfl,h1,TS.cl,TS.gu,jo,ao<|vp ⟨_,rfl,iF (bU ?_) (by rw[zqT rfl];rfl)⟩⟩
  exact PF TS S ha pv ok cc (by lia) gx hr lr λY zs b S' jQ tm=>k a zs c r none Y ⟨rfl,rfl,hr⟩ b S' jQ tm (.inl rfl)
 |some f=>
  obtain⟨b,R,rfl,hb,pb,nb⟩:=h2;obtain⟨l,m,fo,fc,lf,tf,r1,r2,lx⟩:=pre;refine YL<|aY<|br<|ag rfl ⟨q,g,u,_,_,rfl,h1,TS.cl,TS.gu,jo,ao<|vp ⟨_,rfl,iT ?_ (by rw[qr];rfl)⟩⟩
  refine bq<|ba vi rfl<|ak<|ag rfl<|ak<|br<|ag rfl ⟨q,g,u,_,_,rfl,h1,TS.cl,TS.gu,jo,aA ⟨a,b,U,R,c,f,l,m,x.cps.toList,rfl,ha,hb,pv,pb,ok,fo,cc,fc,lf,tf,r1,r2,λt c' d H2 zs ws Z qs s2 fc' fd gE ht tW hd pz pw P=>?_⟩⟩;refine bq<|a_<|ag rfl<|ao<|bO ht rfl ?_;refine dw<|a_<|ag rfl<|ao<|bO ht rfl<|ag rfl ⟨q,g,u,_,rfl,s2 _ _ h1,TS.cl,TS.gu,(by show 6<1000;decide),?_⟩
  rw[Bl];have FT:=al.no fd;have S2:=(S.same s2).put (x':=x) (kn':=D) (se':=A) (vf:=.ref d) (fl':=some qs) ⟨d,ws,rfl,hd,pw,FT⟩;have iq:=s2 _ _ h1;have nq:c'≠q:=λy=>by rw[y,iq] at tW;cases tW
  obtain⟨r,ra,rb⟩:=P.runs;have lr:=ra.len;have t1:=P.ad2;have lxl:=len_list x;have l1:=P.qi;have ED:upd H2 q (.ins g u<|f6 x D A (.ref d) .av<|.ref e) c'=some (.lst zs):=by rw[aC nq];exact tW
  have FU:=pz.mono (s_ (o:=.ins g u (f6 x D A (.ref d) .av<|.ref e)) iq);exact PF TS S2 ED FU P.Bc P.O8 (by lia) gx ra (by lia) λY zs' b' S' jQ tm=>k c' zs' Z r (some qs) Y ⟨l,m,qs,rfl,P,ra⟩ (((bG.same s2).trans bG.upd).trans b') S' jQ tm (.inr fc')
def tq(C g:wl):Sp:=λB H Q E=>∃(M:MS) (h:zbO) (x:Str) (D A:Nat) (G:Option bi) (a:wl) (U:be) (c:bi) (r:bn),B=[.ref h.p,.ref a]/\cD M C g H h x D A G/\Al M H/\H a=some (.lst U)/\bh H U c/\(∀p∈c,bx p)/\chainOk "" c=true/\c.length<=10000/\good x/\Run x.cps.toList c r/\r.length<=1000000/\
 match G with
 |none=>∀v Y,bG (· =h.q) H Y->cD M C g Y h ⟨r.toArray⟩ D (A+1) (some c)->Q v Y
 |some _=>∀v Y,Q v Y
def FV(C g CC CF:wl):Sp:=λB H Q E=>∃(M:MS) (h:zbO) (x:Str) (D A:Nat) (G:Option bi) (v:V),B=[.ref h.p,v]/\cD M C g H h x D A G/\good x/\((fN v H/\∀Y,au H Y->E (.ref CC) none Y)\/
 ∃c,eK v H c/\c.length<=10000/\(¬ ∃r,Run x.cps.toList c r)/\∀Y,au H Y->E (.ref CF) none Y)
abbrev PH(K:Frag)(C g:wl)(sp:Sp)(E:XK):aS:=aR K [("done",sp),("then",λ_ _ _ _=>False)] [] [] [("take_off",C,Bm C g)] (E:=E)
theorem afa{CT CC CF:wl}(T:jM K C)(TS:iy K g):bP (FV C g CC CF) (λE=>PH K C g (xh CT CC CF) E) Et Es:=by
 intro B H Q E h;obtain⟨M,h,x,D,A,G,v,rfl,S,gx,hh⟩:=h;obtain⟨vf,h1,h2⟩:=S.st.ob;refine bq<|br<|ag rfl ⟨h.p,C,h.dp,_,_,rfl,S.ob,T.cl,T.lu,oy,?_⟩;refine bq<|ba (xh CT CC CF) rfl<|ak<|br<|ag rfl ⟨h.q,g,h.dq,_,_,rfl,h1,TS.cl,TS.iV,x4,ak<|ag rfl<|aA ⟨_,_,rfl,.inr ?_⟩⟩;rcases hh with⟨hn,k⟩|⟨c,⟨a,U,rfl,ha,pv,ok,cc⟩,lc,nr,k⟩
 ·exact .inl ⟨x,rfl,gx,hn,k⟩
 ·exact .inr ⟨x,a,U,c,rfl,rfl,gx,ha,pv,ok,cc,by lia,nr,k⟩
theorem afb(T:jM K C)(TS:iy K g):bP (tq C g) (λE=>PH K C g mz E) Et Es:=by
 intro B H Q E h;obtain⟨M,h,x,D,A,G,a,U,c,r,rfl,S,al,ha,pv,ok,cc,lc,gx,hr,lr,k⟩:=h;have iE:=S.pq;obtain⟨vf,h1,h2⟩:=S.st.ob;refine bq<|br<|ag rfl ⟨h.p,C,h.dp,_,_,rfl,S.ob,T.cl,T.lu,oy,?_⟩;refine bq<|ba mz rfl<|ak<|br<|ag rfl ⟨h.q,g,h.dq,_,_,rfl,h1,TS.cl,TS.iV,x4,ak<|ag rfl<|aA ⟨x,a,U,_,r,rfl,gx,ha,pv,ok,cc,by lia,hr,lr,λH1 s1=>?_⟩⟩
 have S1:=S.same s1;have eV:=s1 _ _ ha;have pv1:=pv.mono (cB s1)
 replace h1:=s1 _ _ h1
 replace h2:=h2.same s1
 refine YL<|aY<|br<|ag rfl ⟨h.q,g,h.dq,_,_,rfl,h1,TS.cl,TS.pQ,Bk,ao<|vp ⟨_,rfl,iF ?_ (by rw[zqT rfl];rfl)⟩⟩
 cases G with
 |some f=>
  obtain⟨b,R,rfl,hb,pb,nb⟩:=h2;refine YL<|aY<|br<|ag rfl ⟨h.q,g,h.dq,_,_,rfl,h1,TS.cl,TS.gu,jo,ao<|vp ⟨_,rfl,iT ?_ (by rw[qr];rfl)⟩⟩
  refine dw<|qo<|ag rfl ⟨_,.inl<|aE.of eV,λb2 fb=>?_⟩;have s2:=sameNew (o:=.lst U) fb;refine ag rfl ⟨h.q,g,h.dq,_,rfl,s2 _ _ h1,TS.cl,TS.pQ,(by show 6<1000;decide),?_⟩
  rw[FE];refine dw<|ag rfl<|ag rfl ⟨h.q,g,h.dq,_,rfl,aw,TS.cl,TS.iV,(by show 6<1000;decide),?_⟩
  rw[FD];exact bL<|qq<|aY<|br<|ag rfl ⟨h.q,g,h.dq,_,_,rfl,aw,TS.cl,TS.gu,jo,ao<|jn ⟨_,rfl,iF (bV<|aA ⟨zqZ _,λL fL=>k _ _⟩) qr⟩⟩
 |none=>
  cases (show vf=.av from h2)
  refine YL<|aY<|br<|ag rfl ⟨h.q,g,h.dq,_,_,rfl,h1,TS.cl,TS.gu,jo,ao<|vp ⟨_,rfl,iF (bU ?_) (by rw[zqT rfl];rfl)⟩⟩
  refine dw<|ag rfl<|ag rfl ⟨h.q,g,h.dq,_,rfl,h1,TS.cl,TS.iV,(by show 6<1000;decide),?_⟩
  rw[FD];have S2:=S1.st.put (x':=⟨r.toArray⟩) (kn':=D) (se':=A) (vf:=.av) (fl':=none) rfl;have iq:upd H1 h.q (.ins g h.dq<|f6 ⟨r.toArray⟩ D A .av .av<|.ref h.e) h.q=some (.ins g h.dq<|f6 ⟨r.toArray⟩ D A .av .av<|.ref h.e):=aw;have b2:bG (· =h.q) H (upd H1 h.q<|.ins g h.dq<|f6 ⟨r.toArray⟩ D A .av .av<|.ref h.e):=(bG.same s1).trans bG.upd;have hV:upd H1 h.q (.ins g h.dq<|f6 ⟨r.toArray⟩ D A .av .av<|.ref h.e) a=some (.lst U):=by rw[aC (λy=>by rw[y,h1] at eV;cases eV)];exact eV
  have PJ:=pv1.mono (s_ (o:=.ins g h.dq (f6 ⟨r.toArray⟩ D A .av .av<|.ref h.e)) h1);generalize upd H1 h.q (.ins g h.dq<|f6 ⟨r.toArray⟩ D A .av .av<|.ref h.e)=H2 at S2 iq b2 hV PJ⊢;have FT:Al M H2:=λz hz=>by
   by_cases y:z=h.q
   ·exact⟨_,by rw[y];exact iq⟩
   ·obtain⟨o,ho⟩:=al z hz;exact⟨o,b2 _ _ ho y⟩
  refine bL<|qq<|aY<|br<|ag rfl ⟨h.q,g,h.dq,_,_,rfl,iq,TS.cl,TS.gu,jo,ao<|jn ⟨_,rfl,iT ?_<|zqT rfl⟩⟩;refine AY C (Bm C g) rfl<|ag rfl ⟨h.p,h.dp,_,rfl,b2 _ _ S.ob iE,cW,ag rfl<|qo<|ag rfl ⟨_,.inl<|aE.of hV,λb fb=>?_⟩⟩;have s3:=sameNew (o:=.lst U) fb;refine⟨M,h.p,h.dp,h.q,h.dq,h.e,h.q,_,h.own,_,D,A,c,none,rfl,s3 _ _<|b2 _ _ S.ob iE,iE,S2.same s3,⟨b,U,rfl,aw,PJ.mono<|cB s3,FT.no fb⟩,λv' H3 b3 S3=>?_⟩;have PK:=(b2.trans<|bG.same s3).trans b3;exact k _ _ PK ⟨PK _ _ S.ob iE,S3⟩
theorem afd{b:RE}(h:aj J a N H λx H1=>∃e,x=.ref e/\zC H1 e/\aj J b N H1 λy H2=>Lc e [y] H2 Q):aj J (.xm Ei a [b]) N H Q:=h
theorem PL{QT:ge}{b:RE}(h:aj J a N H λy H1=>aj J b N H1 λx H2=>∃d o,x=.ref d/\jC H2 d y o/\∃k,V.bl o.isSome=.bl k/\QT k H2):bC J (.wF a b) N H QT:=h
theorem vy{i j:Int}(q:Q (.bl<|decide<|i>j) H):dB K .Gt (.int i) (.int j) H Q:=⟨trivial,q⟩
theorem qu{z:wl}{o0 o:HO}(h:H z=some o0)(n:∀us,o0≠ .tup us):eS H (upd H z o):=λb us eb=>by
 rw[aC (λy=>by rw[y,h] at eb;exact n us (zaj eb))];exact eb
theorem dG.wr{z:wl}{o0 o:HO}(S:dG M g H q u e x D A G)(h:H z=some o0)(m:M z)(n:∀us,o0≠ .tup us)(ne:z≠e)(nq:z≠q):dG M g (upd H z o) q u e x D A G:=by
 obtain⟨vf,h1,h2⟩:=S.ob;refine⟨⟨vf,by rw[aC nq.symm];exact h1,?_⟩,by rw[aC ne.symm];exact S.he⟩
 cases G with
 |none=>exact h2
 |some Z=>
  obtain⟨a,U,e1,ha,pv,na⟩:=h2;have nz:a≠z:=λy=>na (by rw[y];exact m)
  exact⟨a,U,e1,by rw[aC nz];exact ha,pv.mono<|qu h n,na⟩
def afe(M:MS)(C g X:wl)(H:Hp)(Q:VK)(E:XK)(h:zbO)(x:Str)(A d_:Nat)(c:bi)(G:Option bi):Prop:=
 (d_=h.own/\G=none/\∀Y,au H Y->E (.ref X) none Y)\/
 (d_=h.own/\(∃f,G=some f)/\∀t P T q u e Y,bG (· =h.p) H Y->cD M C g Y ⟨h.p,h.dp,q,u,e,h.own⟩ x 1 A none->Y t=some (.tup [.ref P,.ref T])->Y P=some (.lst [])->Y T=some (.lst [])->Q (.ref t) Y)\/
 (d_≠h.own/\FP c x G/\∀t P T a zs Z r o q u e Y,FQ c x G Z r o->bG (· =h.p) H Y->cD M C g Y ⟨h.p,h.dp,q,u,e,h.own⟩ ⟨r.toArray⟩ 1 A o->Y t=some (.tup [.ref P,.ref T])->Y P=some (.lst [])->Y T=some (.lst [.ref a])->Y a=some (.lst zs)->bh Y zs Z->Q (.ref t) Y)
inductive tu(C g X:wl)(B:be)(H:Hp)(Q:VK)(E:XK):Prop|i(M:MS)(h:zbO)(x:Str)(A:Nat)(G:Option bi)(lt b:wl)(d_:Nat)(R:be)(c:bi)(_:B=[.ref h.p,.ref lt])(_:cD M C g H h x 0 A G)(_:Al M H)(_:H lt=some (.tup<|FO h.own 1 d_ b))(_:d_<=7)(_:H b=some (.lst R))(_:bh H R c)(_:(∀p∈c,bx p))(_:chainOk "" c=true)(_:c.length<=10000)(_:good x)(_:afe M C g X H Q E h x A d_ c G)
def FW(C g X:wl):Sp:=λB H Q E=>∃(M:MS) (h:zbO) (x:Str) (D A:Nat) (G:Option bi) (v:V),B=[.ref h.p,v]/\cD M C g H h x D A G/\hZ h.own H v/\∀Y,au H Y->E (.ref X) none Y
abbrev PM(K:Frag)(C g X:wl)(E:XK):aS:=aR K [("twin_of",FK g),("let_in",FR g)] [] [] [("need_took",C,Br C X),("land",C,Bn C g X)] (E:=E)
theorem aff:bP (FW C g X) (λE=>PM K C g X E) Ew Eu:=by
 intro B H Q E h;obtain⟨M,h,x,D,A,G,v,rfl,S,hn,k⟩:=h;exact cZ<|eG C (Br C X) rfl<|ag rfl ⟨h.p,h.dp,_,rfl,S.ob,cW,ag rfl ⟨h.p,h.dp,h.q,h.own,v,rfl,S.ob,.inr ⟨hn,k⟩⟩⟩
theorem afg{t0:wl}:putK [] ((Sum.inl ((1:Nat):Int)):Key) (V.ref t0)=[((Sum.inl ((1:Nat):Int):Key),V.ref t0)]:=rfl
theorem afh(T:jM K C)(TS:iy K g):bP (tu C g X) (λE=>PM K C g X E) Ew Eu:=by
 intro B H Q E h;obtain⟨M,h,x,A,G,lt,b,d_,R,c,rfl,S,al,hl,hw,hb,pv,ok,cc,lc,gx,k⟩:=h;refine cZ<|eG C (Br C X) rfl<|ag rfl ⟨h.p,h.dp,_,rfl,S.ob,cW,ag rfl ⟨h.p,h.dp,h.q,h.own,_,rfl,S.ob,.inl ⟨lt,b,1,d_,c,rfl,hl,zqR _,hw,⟨b,R,rfl,hb,pv,ok,cc⟩,λH1 s1=>?_⟩⟩⟩;have S1:=S.same s1;refine bq<|ba (FK g) rfl<|ak<|br<|ag rfl ⟨h.p,C,h.dp,_,_,rfl,S1.ob,T.cl,T.lu,oy,aA ⟨M,h.q,h.dq,h.e,x,0,A,G,rfl,S1.st,λq u e H2 s2 fq fe S2=>?_⟩⟩;have oB:=s1.trans s2;refine bq<|bV<|aA ⟨zqZ _,λP fP=>?_⟩;have s3:=sameNew (o:=.lst []) fP;have tw:upd H2 P (.lst []) P=some (.lst []):=aw;generalize upd H2 P (.lst [])=H3 at s3 tw⊢;refine bq<|bV<|aA ⟨zqZ _,λTl fT=>?_⟩;have s4:=sameNew (o:=.lst []) fT;have yh:upd H3 Tl (.lst []) Tl=some (.lst []):=aw;have qv:=s4 _ _ tw;generalize upd H3 Tl (.lst [])=H4 at s4 yh qv⊢;have yi:=s3.trans s4;have gF:=oB.trans yi;have Bs:P≠Tl:=aO tw fT;have S4:dG (λz=>M z\/z=P\/z=Tl) g H4 q u e x 0 A G:=(S2.weak λz hz=>hz.elim .inl λy=>.inr (y.elim (λy=>y ▸ fP) λy=>y ▸ s3.free fT)).same yi;have al4:Al (λz=>M z\/z=P\/z=Tl) H4:=λz hz=>by
  rcases hz with hz|rfl|rfl
  ·obtain⟨o,ho⟩:=al z hz;exact⟨o,gF _ _ ho⟩
  ·exact⟨_,qv⟩
  ·exact⟨_,yh⟩
 obtain⟨vf,h1,h2⟩:=S4.ob;have he:=S4.he;have yj:=gF _ _ hl;refine YL<|mH<|aY<|a_<|ag rfl<|ao<|bO yj rfl<|br<|ag rfl ⟨q,g,u,_,_,rfl,h1,TS.cl,TS.lq,qp,vy ⟨_,rfl,iT ?_ (by decide)⟩⟩
 refine adO<|a_<|ag rfl<|ao<|bO yj rfl<|br<|ag rfl ⟨q,g,u,_,_,rfl,h1,TS.cl,TS.pR,vo,e,_,rfl,jC.k (k:=.inl ((1:Nat):Int)) he,_,rfl,iT ?_ rfl⟩;refine adN<|bN<|ak<|a_<|ag rfl<|ao<|bO yj rfl<|ak<|qo<|a_<|ag rfl<|ao<|bO yj rfl ⟨_,.inl<|aE.of<|gF _ _ hb,λa0 fa=>?_⟩;have s5:=sameNew (o:=.lst R) fa;have PN:upd H4 a0 (.lst R) a0=some (.lst R):=aw;generalize upd H4 a0 (.lst R)=H5 at s5 PN⊢;refine aA ⟨bQ,λt0 ft=>?_⟩;have s6:=sameNew (o:=.tup [V.int (d_:Nat),V.ref a0]) ft;have yk:upd H5 t0 (.tup [V.int (d_:Nat),V.ref a0]) t0=some (.tup [V.int (d_:Nat),V.ref a0]):=aw;generalize upd H5 t0 (.tup [V.int (d_:Nat),V.ref a0])=H6 at s6 yk⊢;have gi:=s5.trans s6;have jk:=gF.trans gi;refine br<|ag rfl ⟨q,g,u,_,_,rfl,gi _ _ h1,TS.cl,TS.pR,vo,a_<|ag rfl<|ao<|bO (gi _ _ yj) rfl ⟨e,_,rfl,ud.k (k:=.inl ((1:Nat):Int)) (gi _ _ he) (by show 0<sizeLine;decide),?_⟩⟩
 rw[afg];have xk:=gi _ _ he;have FX:=gi _ _ h1;have FY:q≠e:=λy=>by rw[y,xk] at FX;cases FX
 have b7:bG (· =e) H6 (upd H6 e<|.dK [(.inl ((1:Nat):Int),V.ref t0)]):=bG.upd;have uV:upd H6 e (.dK [(.inl ((1:Nat):Int),V.ref t0)]) e=some (.dK [(.inl ((1:Nat):Int),V.ref t0)]):=aw;have PQ:eS H6 (upd H6 e<|.dK [(.inl ((1:Nat):Int),V.ref t0)]):=qu xk λ_ z=>by cases z
 generalize upd H6 e (.dK [(.inl ((1:Nat):Int),V.ref t0)])=H7 at b7 uV PQ⊢;have vz:=b7 _ _ FX FY;have yd:H e=none:=s1.free fe;have my:H q=none:=s1.free fq;have hp7:H7 h.p=some (.ins C h.dp<|f2 h.own h.q):=b7 _ _ (jk _ _ S.ob) (aO S.ob yd);have iE:h.p≠q:=aO S.ob my;have Bp:h.p≠e:=aO S.ob yd;have afj:∀{z:wl}{us:be},H6 z=some (.lst us)->H7 z=some (.lst us):=λ{z us} ez=>b7 _ _ ez λy=>by rw[y,xk] at ez;cases ez
 have k07:∀z o,H z=some o->H7 z=some o:=λz o ez=>b7 _ _ (jk _ _ ez) (aO ez yd);refine Fe (λm N H8=>(m=1/\N=[some (.ref h.p),some (.ref lt),some (.ref q),some (.ref P),some (.ref Tl),none]/\H8=H7)\/
   (m=0/\(∃u5,N=[some (.ref h.p),some (.ref lt),some (.ref q),some (.ref P),some (.ref Tl),u5])/\∃x' o ws,H8 h.p=some (.ins C h.dp (f2 h.own h.q))/\dG (λz=>M z\/z=P\/z=Tl) g H8 q u e x' 1 A o/\(∀z o,H z=some o->H8 z=some o)/\H8 P=some (.lst [])/\H8 Tl=some (.lst ws)/\
    ∀t Y,bG (· =h.p) H8 Y->eS H8 Y->Y t=some (.tup [.ref P,.ref Tl])->cD M C g Y ⟨h.p,h.dp,q,u,e,h.own⟩ x' 1 A o->Q (.ref t) Y)) ⟨_,.inl ⟨rfl,rfl,rfl⟩⟩ ?_
 rintro m N H8 (⟨rfl,rfl,rfl⟩|⟨rfl,⟨u5,rfl⟩,x',o,ws,qw,S8,k8,hP8,hT8,kk⟩)
 ·refine PL (aV<|br<|ag rfl ⟨q,g,u,_,_,rfl,vz,TS.cl,TS.lq,qp,ao<|cv<|br<|ag rfl ⟨q,g,u,_,_,rfl,vz,TS.cl,TS.pR,vo,e,_,rfl,jC.k (k:=.inl (((0:Nat):Int)+1)) uV,_,rfl,iT ?_ rfl⟩⟩);refine⟨λK' Y=>(∃u5,K'=[some (.ref h.p),some (.ref lt),some (.ref q),some (.ref P),some (.ref Tl),u5])/\∃x' o ws,Y h.p=some (.ins C h.dp (f2 h.own h.q))/\dG (λz=>M z\/z=P\/z=Tl) g Y q u e x' 1 A o/\(∀z o,H z=some o->Y z=some o)/\Y P=some (.lst [])/\Y Tl=some (.lst ws)/\
    ∀t H2,bG (· =h.p) Y H2->eS Y H2->H2 t=some (.tup [.ref P,.ref Tl])->cD M C g H2 ⟨h.p,h.dp,q,u,e,h.own⟩ x' 1 A o->Q (.ref t) H2,λK' Y hh=>⟨0,by decide,.inr ⟨rfl,hh⟩⟩,?_⟩
  refine dw<|aV<|br<|ag rfl ⟨q,g,u,_,_,rfl,vz,TS.cl,TS.lq,qp,ao<|cv<|ag rfl ⟨q,g,u,_,rfl,vz,TS.cl,TS.lq,(by show 6<1000;decide),?_⟩⟩
  rw[show((0:Nat):Int)+1=((1:Nat):Int) from rfl,Pq]
  have b8:bG (· =q) H8 (upd H8 q<|.ins g u<|f6 x 1 A vf .av<|.ref e):=bG.upd;have Bt:upd H8 q (.ins g u<|f6 x 1 A vf .av<|.ref e) q=some (.ins g u<|f6 x 1 A vf .av<|.ref e):=aw;have t8:=s_ (o:=.ins g u (f6 x 1 A vf .av<|.ref e)) vz;generalize upd H8 q (.ins g u<|f6 x 1 A vf .av<|.ref e)=H9 at b8 Bt t8⊢;have Bu:=b8 _ _ uV FY.symm;refine bq<|afd<|br<|ag rfl ⟨q,g,u,_,_,rfl,Bt,TS.cl,TS.pR,vo,e,rfl,.inl ⟨_,.inl Bu⟩,br<|ag rfl ⟨q,g,u,_,_,rfl,Bt,TS.cl,TS.lq,qp,_,.inl ((1:Nat):Int),.ref t0,Bu,rfl,rfl,?_⟩⟩;rw[show uc [((.inl ((1:Nat):Int):Key),V.ref t0)] (.inl ((1:Nat):Int))=[] from rfl]
  have bA:bG (· =e) H9 (upd H9 e<|.dK []):=bG.upd;have PR:upd H9 e (.dK []) e=some (.dK []):=aw;have tA:=qu (o:=.dK []) Bu λ_ z=>by cases z
  generalize upd H9 e (.dK [])=HA at bA PR tA⊢;have FZ:=bA _ _ Bt FY;have vA:∀{z:wl}{us:be},H6 z=some (.lst us)->HA z=some (.lst us):=λ{z us} ez=>by
   have e7:=afj ez;have e9:=b8 _ _ e7 (λy=>by rw[y,vz] at e7;cases e7)
   exact bA _ _ e9 λy=>by rw[y,Bu] at e9;cases e9
  have F1:eS H6 HA:=λz us ez=>tA _ _ (t8 _ _<|PQ _ _ ez);have gU:HA h.p=some (.ins C h.dp<|f2 h.own h.q):=bA _ _ (b8 _ _ hp7 iE) Bp;have kA:∀z o,H z=some o->HA z=some o:=λz o ez=>bA _ _ (b8 _ _ (k07 z o ez)<|aO ez my) (aO ez yd);have SA:dG (λz=>M z\/z=P\/z=Tl) g HA q u e x 1 A G:=by
   refine⟨⟨vf,FZ,?_⟩,PR⟩;cases G with
   |none=>exact h2
   |some f=>
    obtain⟨a,U,e1,ha,tm,na⟩:=h2;exact⟨a,U,e1,vA<|gi _ _ ha,(tm.mono<|cB gi).mono F1,na⟩
  have alA:Al (λz=>M z\/z=P\/z=Tl) HA:=λz hz=>by
   rcases hz with hz|rfl|rfl
   ·obtain⟨o,ho⟩:=al z hz;exact⟨o,kA _ _ ho⟩
   ·exact⟨_,vA<|gi _ _ qv⟩
   ·exact⟨_,vA<|gi _ _ yh⟩
  have PU:HA t0=some (.tup [V.int (d_:Nat),V.ref a0]):=F1 _ _ yk;have haA:HA a0=some (.lst R):=vA (s6 _ _ PN);have mO:=vA (gi _ _ qv);have mP:=vA (gi _ _ yh);have bp:∀{Y:Hp},bG (· =h.p) HA Y->bG (· =h.p) H Y:=λbb z o ez nz=>bb _ _ (kA _ _ ez) nz;refine YL<|aY<|a_<|ag rfl<|ao<|bO PU rfl<|br<|ag rfl ⟨h.p,C,h.dp,_,_,rfl,gU,T.cl,T.uE,x6,gB ⟨_,rfl,?_⟩⟩;rcases k with⟨eo,rfl,k⟩|⟨eo,⟨f,rfl⟩,k⟩|⟨no,pre,k⟩
  ·refine iT ?_ (zqT (by rw[eo]))
   refine cZ<|sH<|ag rfl ⟨.inl ⟨rfl,_,aE.of mO⟩,eG C (Bn C g X) rfl<|ag rfl ⟨h.p,h.dp,_,rfl,gU,cW,ag rfl ⟨_,h.p,q,u,e,x,1,A,none,rfl,SA,k _ kA⟩⟩⟩
  ·refine iT ?_ (zqT (by rw[eo]))
   refine cZ<|sH<|ag rfl ⟨.inl ⟨rfl,_,aE.of mO⟩,eG C (Bn C g X) rfl<|ag rfl ⟨h.p,h.dp,_,rfl,gU,cW,ag rfl ⟨_,h.p,q,u,e,x,1,A,some f,rfl,SA,λL HB bB SB hL=>?_⟩⟩⟩;have ql:∀{z:wl}{us:be},HA z=some (.lst us)-> ¬z=q:=λ{z us} ez y=>by rw[y,FZ] at ez;cases ez
   have vB:=bB _ _ mO (ql mO);have tE:=bB _ _ mP (ql mP);refine⟨[],[],vB,hL,zqZ _,⟨_,rfl⟩,x,none,[],?_,?_,λz o ez=>?_,aw,?_,λt Y bb tt ht S'=>?_⟩
   ·rw[aC (λy=>by rw[y,mO] at gU;cases gU)];exact bB _ _ gU iE
   ·exact SB.wr vB (.inr<|.inl rfl) (λ_ z=>by cases z) (λy=>by have:=SB.he;rw[<-y,vB] at this;cases this) (ql mO)
   ·rw[aC<|aO ez<|oB.free fP];exact bB _ _ (kA _ _ ez) (aO ez my)
   ·rw[aC Bs.symm];exact tE
   ·have eP:=bb P (.lst []) aw (λy=>by rw[<-y,mO] at gU;cases gU)
    have eT:=bb Tl (.lst []) (by rw[aC Bs.symm];exact tE) (λy=>by rw[<-y,mP] at gU;cases gU)
    exact k t P Tl q u e Y (λz o ez nz=>bb _ _ (by rw[aC<|aO ez<|oB.free fP];exact bB _ _ (kA _ _ ez) (aO ez my)) nz) S' ht eP eT
  ·refine iF ?_ (zqF (by lia))
   refine cZ<|sH<|ag rfl ⟨.inl ⟨rfl,_,aE.of mP⟩,ba (FR g) rfl<|ak<|ag rfl<|ak<|a_<|ag rfl<|ao<|bO PU rfl<|aA ⟨_,q,u,e,x,1,A,G,a0,R,c,rfl,SA,alA,haA,((pv.mono<|cB jk).mono F1),ok,cc,lc,gx,pre,λa' zs Z r o HB out bB SB jQ tm Bv=>?_⟩⟩;have ql:∀{z:wl}{us:be},HA z=some (.lst us)-> ¬z=q:=λ{z us} ez y=>by rw[y,FZ] at ez;cases ez
   have vB:=bB _ _ mO (ql mO);have tE:=bB _ _ mP (ql mP);have naT:a'≠Tl:=λy=>by
    rcases Bv with rfl|Bv
    ·rw[y,yh] at fa;cases fa
    ·rw[y,mP] at Bv;cases Bv
   refine⟨[],tE,by show 0<sizeLine;decide,⟨_,rfl⟩,⟨r.toArray⟩,o,[.ref a'],?_,?_,λz o ez=>?_,?_,aw,λt Y bb tt ht S'=>?_⟩
   ·rw[aC (λy=>by rw[y,mP] at gU;cases gU)];exact bB _ _ gU iE
   ·exact SB.wr tE (.inr<|.inr rfl) (λ_ z=>by cases z) (λy=>by have:=SB.he;rw[<-y,tE] at this;cases this) (ql mP)
   ·rw[aC<|aO ez<|(oB.trans s3).free fT];exact bB _ _ (kA _ _ ez) (aO ez my)
   ·rw[aC Bs];exact vB
   ·have eP:=bb P (.lst []) (by rw[aC Bs];exact vB) (λy=>by rw[<-y,mO] at gU;cases gU)
    have eT:=bb Tl _ aw (λy=>by rw[<-y,mP] at gU;cases gU)
    have PV:=bB _ _ gU iE;have ea:=bb a' (.lst zs) (by rw[aC naT];exact jQ) (λy=>by rw[<-y,jQ] at PV;cases PV)
    exact k t P Tl a' zs Z r o q u e Y out (λz o ez nz=>bb _ _ (by rw[aC<|aO ez<|(oB.trans s3).free fT];exact bB _ _ (kA _ _ ez) (aO ez my)) nz) S' ht eP eT ea<|(tm.mono (qu tE λ_ z=>by cases z)).mono tt
 ·obtain⟨vf8,F2,h28⟩:=S8.ob;refine PL<|aV<|br<|ag rfl ⟨q,g,u,_,_,rfl,F2,TS.cl,TS.lq,qp,ao<|cv<|br<|ag rfl ⟨q,g,u,_,_,rfl,F2,TS.cl,TS.pR,vo,e,_,rfl,jC.k (k:=.inl (((1:Nat):Int)+1)) S8.he,_,rfl,iF ?_ rfl⟩⟩;refine dw<|ag rfl<|ag rfl ⟨h.p,C,h.dp,_,rfl,qw,T.cl,T.lu,(by show 2<1000;decide),?_⟩
  rw[aeQ];have b9:bG (· =h.p) H8 (upd H8 h.p<|.ins C h.dp<|f2 h.own q):=bG.upd;have PX:upd H8 h.p (.ins C h.dp<|f2 h.own q) h.p=some (.ins C h.dp<|f2 h.own q):=aw;have t9:=s_ (o:=.ins C h.dp (f2 h.own q)) qw;have S9:dG (λz=>M z\/z=P\/z=Tl) g (upd H8 h.p<|.ins C h.dp<|f2 h.own q) q u e x' 1 A o:=⟨⟨vf8,b9 _ _ F2<|Fa iE,h28.ins qw⟩,b9 _ _ S8.he<|Fa Bp⟩;generalize upd H8 h.p (.ins C h.dp<|f2 h.own q)=H9 at b9 PX t9 S9⊢;refine bL<|bN<|ak<|ag rfl<|ak<|ag rfl<|aA ⟨bQ,λt ft=>?_⟩;have fi:=sameNew (o:=.tup [V.ref P,V.ref Tl]) ft;exact kk t _ (b9.trans<|bG.same fi) (λz us ez=>fi _ _<|t9 _ _ ez) aw ⟨fi _ _ PX,(S9.weak λz hz=>.inl (.inl hz)).same fi⟩
end
abbrev f4(x:Str)(se ch I:wl):cr:=[("signs",.str x),("serials",.ref se),("changes",.ref ch),("makers",.ref I)]
theorem F3{x:Str}{se ch:wl}:(f4 x se ch I).lookup ("signs":Str)=some (.str x):=iX
theorem yl{x:Str}{se ch:wl}:(f4 x se ch I).lookup ("serials":Str)=some (.ref se):=(cT (by decide+kernel)).trans iX
theorem ym{x:Str}{se ch:wl}:(f4 x se ch I).lookup ("changes":Str)=some (.ref ch):=(cT (by decide+kernel)).trans ((cT (by decide+kernel)).trans iX)
theorem PY{x:Str}{se ch:wl}:(f4 x se ch I).lookup ("makers":Str)=some (.ref I):=(cT (by decide+kernel)).trans ((cT (by decide+kernel)).trans<|(cT (by decide+kernel)).trans iX)
theorem cg{x:Str}{se ch:wl}{m:Str}(h:((¬m="signs"/\ ¬m="serials")/\ ¬m="changes")/\ ¬m="makers":=by decide+kernel):(f4 x se ch I).lookup m=none:=
 (cT h.1.1.1).trans ((cT h.1.1.2).trans<|(cT h.1.2).trans<|(cT h.2).trans rfl)
theorem afq{x:Str}{se ch:wl}:aI "makers" (.ref I) (aI "changes" (.ref ch)<|aI "serials" (.ref se)<|aI "signs" (.str x) [])=f4 x se ch I:=by
 have e:∀(f:Str) (v:V),aI f v []=[(f,v)]:=λ_ _=>rfl
 repeat (first|rw[e]|rw[d9 (by decide+kernel)])
theorem afr{x:Str}{se ch:wl}:aI "signs" (.str y) (f4 x se ch I)=f4 y se ch I:=mB
structure Sv where
 p:wl
 dx:wl
 se:wl
 ch:wl
 ma:wl
def Sv.M(s:Sv):MS:=λz=>z=s.se\/z=s.ch\/z=s.ma
def yn(M:MS)(H:Hp)(v:V)(Z:bi):Prop:= ∃a U,v=.ref a/\H a=some (.lst U)/\bh H U Z/\ ¬M a
structure bR (C:wl) (H:Hp) (s:Sv) (x:Str) (B':bn) (tk:List (Nat×bi)):Prop where
 ob:H s.p=some (.ins C s.dx<|f4 x s.se s.ch s.ma)
 jr:H s.se=some (.lst<|nV B')
 cx:∃dy,H s.ch=some (.lst dy)/\Paired (yn s.M H) dy (tk.map (·.2))
 mx:H s.ma=some (.lst (nV (tk.map (·.1))))
 nd:s.se≠s.ch/\s.se≠s.ma/\s.ch≠s.ma
def FS(s:Sv)(H Y:Hp):Prop:= ∀z o,H z=some o->z≠s.p-> ¬s.M z->Y z=some o
section
variable {K:Frag}{C M CV X:wl}{H Y:Hp}{s:Sv}{h:zbO}{x:Str}{g:bn}{G:List (Nat×bi)}{D P:Nat}{d:Option bi}
theorem yn.same{M00:MS}(h:yn M00 H v Z)(s:au H Y):yn M00 Y v Z:=by
 obtain⟨a,U,e,h1,h2,h3⟩:=h;exact⟨a,U,e,s _ _ h1,h2.mono<|cB s,h3⟩
theorem bR.same(S:bR C H s x g G)(t:au H Y):bR C Y s x g G:=by
 obtain⟨dy,h1,h2⟩:=S.cx;exact⟨t _ _ S.ob,t _ _ S.jr,⟨dy,t _ _ h1,Paired.g6 h2 λ_ _ z=>z.same t⟩,t _ _ S.mx,S.nd⟩
theorem bR.but{q D00 d1:wl}{fs:cr}(S:bR C H s x g G)(b:bG (· =q) H Y)(hq:H q=some (.ins D00 d1 fs))(n:fs.length≠4):bR C Y s x g G:=by
 obtain⟨dy,h1,h2⟩:=S.cx;have nl:∀{z:wl}{us:be},H z=some (.lst us)->Y z=some (.lst us):=λ{z us} ez=>b _ _ ez λy=>by rw[y,hq] at ez;cases ez
 have nt:eS H Y:=λz us ez=>b _ _ ez λy=>by rw[y,hq] at ez;cases ez
 refine⟨b _ _ S.ob λy=>?_,nl S.jr,⟨dy,nl h1,Paired.g6 h2 λv Z ⟨a,U,e,g1,g2,g3⟩=>⟨a,U,e,nl g1,g2.mono nt,g3⟩⟩,nl S.mx,S.nd⟩;have:=S.ob;rw[y,hq] at this;cases this;exact n rfl
theorem bR.ml(S:bR C H s x g G):∀z,s.M z->∃us,H z=some (.lst us):=λz hz=>by
 obtain⟨dy,h1,_⟩:=S.cx;rcases hz with rfl|rfl|rfl
 ·exact⟨_,S.jr⟩
 ·exact⟨_,h1⟩
 ·exact⟨_,S.mx⟩
theorem bR.al(S:bR C H s x g G):Al s.M H:=λz hz=>let ⟨us,h⟩:=S.ml z hz;⟨_,h⟩
theorem bR.eg(S:bR C H s x g G)(f:FS s H Y):eS H Y:=λz us ez=>f _ _ ez (λy=>by rw[y,S.ob] at ez;cases ez) λhm=>by obtain⟨B,hv⟩:=S.ml z hm;rw[hv] at ez;cases ez
theorem cD.fs(A:cD s.M C M H h x D P d)(S:bR CV H s y g G)(f:FS s H Y):cD s.M C M Y h x D P d:=by
 obtain⟨vf,h1,h2⟩:=A.st.ob;have nm:∀{z:wl}{o:HO},H z=some o->(∀us,o≠ .lst us)-> ¬s.M z:=λ{z o} ez n hm=>by obtain⟨us,hu⟩:=S.ml z hm;rw[hu] at ez;exact n us (zaj ez).symm
 refine⟨f _ _ A.ob (FF A.ob S.ob (by show 2≠4;decide)) (nm A.ob λ_ z=>by cases z),⟨vf,f _ _ h1 (FF h1 S.ob (by show 6≠4;decide)) (nm h1 λ_ z=>by cases z),?_⟩,f _ _ A.st.he (λy=>by have:=A.st.he;rw[y,S.ob] at this;cases this) (nm A.st.he λ_ z=>by cases z)⟩
 cases d with
 |none=>exact h2
 |some Z=>
  obtain⟨a,U,e,ha,pv,na⟩:=h2;exact⟨a,U,e,f _ _ ha (λy=>by rw[y,S.ob] at ha;cases ha) na,pv.mono<|S.eg f,na⟩
theorem PZ(S:bR C H s x g G){k m:Nat}(h:G[k]?=some (m,Z)):∃dy v,H s.ch=some (.lst dy)/\dy[k]?=some v/\yn s.M H v Z:=by
 obtain⟨dy,h1,h2⟩:=S.cx;have hl:=Db h2;rw[zaf] at hl;have hk:=(zat.mp h).1;have e:dy[k]?=some dy[k]:=zax (by lia)
 obtain⟨y,hy,r⟩:=Bh h2 e;rw[zan,h] at hy;cases hy;exact⟨dy,_,h1,e,r⟩
inductive tF(C CT CN:wl)(B:be)(H:Hp)(Q:VK)(E:XK):Prop|i(p:wl)(v w:V)(_:B=[.ref p,v,w])(_:((iB v H/\E (.ref CT) none H)\/(∃x,v=.str x/\good x/\fR w 1 8 H/\E (.ref CN) none H)\/
 ∃(dx:wl) (x:Str) (n:Nat),v=.str x/\w=.int (n:Nat)/\H p=some (.ins C dx [])/\good x/\1<=n/\n<=8/\
 ∀P ch I Y,H P=none->H ch=none->H I=none->bR C Y ⟨p,dx,P,ch,I⟩ x (List.replicate n 0) []->(∀b o,H b=some o->b≠p->Y b=some o)->Q .av Y))
theorem afs{CT CN:wl}(T:jL K C):bP (tF C CT CN) (λE=>aR K [("need_text",mD CT),("is_between",gh)] [("MOST_HANDS",.int 8)] (et:=[("NoHand",CN)]) (E:=E)) LJ LI:=by
 intro B H Q E h;obtain⟨p,v,w,rfl,⟨hb,k⟩|⟨x,rfl,gx,hn,k⟩|⟨dx,x,h,rfl,rfl,hp,gx,h1,h8,k⟩⟩:=h
 ·exact cZ (ba (mD CT) rfl<|ak<|ag rfl<|aA ⟨v,rfl,.inr ⟨hb,k⟩⟩)
 ·refine cZ (ba (mD CT) rfl<|ak<|ag rfl<|aA ⟨_,rfl,.inl ⟨x,rfl,gx,?_⟩⟩);exact YL<|cN<|eI gh rfl<|ak<|ag rfl<|ak<|ao<|ak<|mE<|aA ⟨w,_,_,rfl,.inr ⟨hn,cU<|iT ⟨oA,k⟩ rfl⟩⟩
 refine cZ<|ba (mD CT) rfl<|ak<|ag rfl<|aA ⟨_,rfl,.inl ⟨x,rfl,gx,?_⟩⟩;refine YL<|cN<|eI gh rfl<|ak<|ag rfl<|ak<|ao<|ak<|mE<|aA ⟨_,_,_,rfl,.inl ⟨_,rfl,by lia,by show(h:Int)<=8;lia,cU<|iF (bU ?_) rfl⟩⟩
 refine dw<|ag rfl<|ag rfl ⟨p,C,dx,[],rfl,hp,T.cl,T.iV,(by show 0<1000;decide),?_⟩
 have dD:upd H p (.ins C dx<|aI "signs" (.str x) []) p=some (.ins C dx<|aI "signs" (.str x) []):=aw;have b1:cm p H (upd H p<|.ins C dx<|aI "signs" (.str x) []):=cm.upd;have P0:H p≠none:=by rw[hp];intro z;cases z
 generalize upd H p (.ins C dx<|aI "signs" (.str x) [])=H1 at dD b1⊢;have fr:∀{z:wl},H1 z=none->H z=none:=λ{z} hz=>by
  cases e:H z with
  |none=>rfl
  |some o=>
   by_cases zp:z=p
   ·rw[zp,dD] at hz;cases hz
   ·rw[b1 _ _ e zp] at hz;cases hz
 refine dw ?_;refine⟨_,rfl,_,rfl,by lia,by lia,Fg (n:=h) (by lia) (λi R H2=>H2=H1/\R=List.replicate i (V.int 0)) ⟨rfl,rfl⟩ ?_ ?_⟩
 ·rintro i R H2 hi s2 ⟨rfl,rfl⟩ Q' kk;refine ao<|kk _ _ (au.refl _) ⟨rfl,?_⟩;rw[List.replicate_succ']
 rintro R H2 P s2 ⟨rfl,rfl⟩ Bw;have t2:=sameNew (o:=.lst (List.replicate h<|V.int 0)) Bw;have jr:upd H2 P (.lst<|List.replicate h<|V.int 0) P=some (.lst<|nV<|List.replicate h 0):=by rw[aw];unfold nV;rw[List.map_replicate];rfl
 have gT:=t2 _ _ dD;have aft:=fr Bw;have vC:P≠p:=λz=>by rw[z,dD] at Bw;cases Bw
 have k2:∀b o,H b=some o->b≠p->upd H2 P (.lst<|List.replicate h<|V.int 0) b=some o:=λb o e nb=>t2 _ _ (b1 _ _ e nb);generalize upd H2 P (.lst<|List.replicate h<|V.int 0)=H3 at t2 jr gT k2⊢;refine ag rfl ⟨p,C,dx,_,rfl,gT,T.cl,T.uB,(by show 1<1000;decide),?_⟩
 have F4:upd H3 p (.ins C dx<|aI "serials" (.ref P)<|aI "signs" (.str x) []) p=some (.ins C dx<|aI "serials" (.ref P)<|aI "signs" (.str x) []):=aw;have b3:cm p H3 (upd H3 p<|.ins C dx<|aI "serials" (.ref P)<|aI "signs" (.str x) []):=cm.upd;generalize upd H3 p (.ins C dx<|aI "serials" (.ref P)<|aI "signs" (.str x) [])=H4 at F4 b3⊢;refine dw<|bV<|aA ⟨zqZ _,λch vD=>?_⟩;have kJ:ch≠p:=λz=>by rw[z,F4] at vD;cases vD
 have nsc:P≠ch:=aO (b3 _ _ jr vC) vD;have afv:H ch=none:=by
  cases e:H ch with
  |none=>rfl
  |some o=>rw[b3 _ _ (k2 _ _ e kJ) kJ] at vD;cases vD
 refine ag rfl ⟨p,C,dx,_,rfl,(by rw[aC<|Fa kJ];exact F4),T.cl,T.uC,(by show 2<1000;decide),?_⟩
 have F5:upd (upd H4 ch<|.lst []) p (.ins C dx<|aI "changes" (.ref ch)<|aI "serials" (.ref P)<|aI "signs" (.str x) []) p=some (.ins C dx<|aI "changes" (.ref ch)<|aI "serials" (.ref P)<|aI "signs" (.str x) []):=aw;have b5:∀b o,H4 b=some o->b≠p->upd (upd H4 ch<|.lst []) p (.ins C dx<|aI "changes" (.ref ch)<|aI "serials" (.ref P)<|aI "signs" (.str x) []) b=some o:=λb o e nb=>by rw[aC nb,aC<|aO e vD];exact e
 have qx:upd (upd H4 ch<|.lst []) p (.ins C dx<|aI "changes" (.ref ch)<|aI "serials" (.ref P)<|aI "signs" (.str x) []) ch=some (.lst []):=by rw[aC kJ];exact aw
 generalize upd (upd H4 ch<|.lst []) p (.ins C dx<|aI "changes" (.ref ch)<|aI "serials" (.ref P)<|aI "signs" (.str x) [])=H5 at F5 b5 qx⊢;refine dw<|bV<|aA ⟨zqZ _,λI tG=>?_⟩;have yo:I≠p:=λz=>by rw[z,F5] at tG;cases tG
 have ncm:ch≠I:=aO qx tG;have nsm:P≠I:=aO (b5 _ _ (b3 _ _ jr vC) vC) tG;have afy:H I=none:=by
  cases e:H I with
  |none=>rfl
  |some o=>rw[b5 _ _ (b3 _ _ (k2 _ _ e yo) yo) yo] at tG;cases tG
 refine ag rfl ⟨p,C,dx,_,rfl,(by rw[aC<|Fa yo];exact F5),T.cl,T.Ej,(by show 3<1000;decide),?_⟩
 have u:∀{z:wl}{o:HO},H5 z=some o->z≠p->upd (upd H5 I<|.lst []) p (.ins C dx<|aI "makers" (.ref I)<|aI "changes" (.ref ch)<|aI "serials" (.ref P)<|aI "signs" (.str x) []) z=some o:=λe nz=>by rw[aC nz,aC<|aO e tG];exact e
 refine k P ch I _ aft afv afy ⟨?_,u (b5 _ _ (b3 _ _ jr vC) vC) vC,⟨[],u qx kJ,.nil⟩,?_,⟨nsc,nsm,ncm⟩⟩ λb o e nb=>u (b5 _ _ (b3 _ _ (k2 _ _ e nb) nb) nb) nb
 ·rw[aw];exact Cl (λl=>some<|HO.ins C dx l) afq
 ·rw[aC yo];exact aw
inductive i0(C:wl)(B:be)(H:Hp)(Q:VK)(E:XK):Prop|i(s:Sv)(x:Str)(g:bn)(G:List (Nat×bi))(_:B=[.ref s.p])(_:bR C H s x g G)(_:Q (.str x) H)
theorem afz(T:jL K C):bP (i0 C) (λE=>aR K [] [] (E:=E)) LM ji:=by
 intro B H Q E h;obtain⟨s,x,g,G,rfl,S,q⟩:=h;exact bL<|br<|ag rfl ⟨s.p,C,s.dx,_,_,rfl,S.ob,T.cl,T.iV,F3,q⟩
inductive df(C:wl)(B:be)(H:Hp)(Q:VK)(E:XK):Prop|i(s:Sv)(x:Str)(g:bn)(G:List (Nat×bi))(_:B=[.ref s.p])(_:bR C H s x g G)(_:Q (.int (G.length:Nat)) H)
theorem afA(T:jL K C):bP (df C) (λE=>aR K [] [] (E:=E)) LO ji:=by
 intro B H Q E h;obtain⟨s,x,g,G,rfl,S,q⟩:=h;obtain⟨dy,h1,h2⟩:=S.cx;have hl:=Db h2;rw[zaf] at hl;refine bL<|gC<|br<|ag rfl ⟨s.p,C,s.dx,_,_,rfl,S.ob,T.cl,T.uC,ym,.inl ⟨_,aE.of h1,?_⟩⟩;rw[hl];exact q
inductive yp(C CL:wl)(B:be)(H:Hp)(Q:VK)(E:XK):Prop|i(s:Sv)(x:Str)(g:bn)(G:List (Nat×bi))(v:V)(_:B=[.ref s.p,v])(_:bR C H s x g G)(_:((fR v 1 (G.length:Nat) H/\E (.ref CL) none H)\/
 ∃(k m:Nat) (Z:bi),v=.int ((k+1:Nat):Int)/\G[k]?=some (m,Z)/\∀l Y,au H Y->Q (.ref l) Y))
theorem afB{CL:wl}(T:jL K C):bP (yp C CL) (λE=>aR K [("is_between",gh)] [] [] [("many",C,df C)] (et:=[("NoLetter",CL)]) (E:=E)) LR LQ:=by
 intro B H Q E h;obtain⟨s,x,g,G,v,rfl,S,⟨hn,k⟩|⟨k,m,Z,rfl,hk,q⟩⟩:=h
 ·exact YL (cN<|eI gh rfl<|ak<|ag rfl<|ak<|ao<|ak<|cq C (df C) rfl<|ag rfl ⟨s.p,s.dx,_,rfl,S.ob,cg,s,x,g,G,rfl,S,aA ⟨v,_,_,rfl,.inr ⟨hn,cU<|iT ⟨oA,k⟩ rfl⟩⟩⟩)
 have hkl:=(zat.mp hk).1;obtain⟨dy,v,h1,h2,a,U,rfl,ha,pv,_⟩:=PZ S hk;refine YL<|cN<|eI gh rfl<|ak<|ag rfl<|ak<|ao<|ak<|cq C (df C) rfl<|ag rfl ⟨s.p,s.dx,_,rfl,S.ob,cg,s,x,g,G,rfl,S,aA ⟨_,_,_,rfl,.inl ⟨_,rfl,by lia,by lia,cU<|iF (bU ?_) rfl⟩⟩⟩
 refine bL<|qo<|a_<|br<|ag rfl ⟨s.p,C,s.dx,_,_,rfl,S.ob,T.cl,T.uC,ym,aV<|ag rfl<|ao<|gR ?_⟩;rw[show(((k+1:Nat):Int) - 1)=((k:Nat):Int) by lia]
 exact iY h1 (fH h2) ⟨_,.inl<|aE.of ha,λl d=>q l _<|sameNew d⟩
def mQ(H:Hp)(v:V)(e:Nat×Nat×Nat):Prop:= ∃t l,v=.ref t/\H t=some (.tup [.str "took",.int (e.1:Nat),.int (e.2.1:Nat),.int (e.2.2:Nat),.ref l])
theorem mQ.same{e:Nat×Nat×Nat}(x:mQ H v e)(s:au H Y):mQ Y v e:=by
 obtain⟨t,l,e1,h1⟩:=x;exact⟨t,l,e1,s _ _ h1⟩
inductive yq(C CL:wl)(B:be)(H:Hp)(Q:VK)(E:XK):Prop|i(s:Sv)(x:Str)(g:bn)(G:List (Nat×bi))(h k m:Nat)(Z:bi)(_:B=[.ref s.p,.int (h:Nat),.int ((k+1:Nat):Int)])(_:bR C H s x g G)(_:G[k]?=some (m,Z))(_:∀t Y,au H Y->mQ Y (.ref t) (h,k+1,m)->Q (.ref t) Y)
theorem afC{CL:wl}(T:jL K C):bP (yq C CL) (λE=>aR K [] [] [] [("change",C,yp C CL)] (E:=E)) LW Ao:=by
 intro B H Q E h;obtain⟨s,x,g,G,h,k,m,Z,rfl,S,hk,q⟩:=h;have am:(nV (G.map (·.1)))[k]?=some (.int (m:Nat)):=by unfold nV;rw[zan,zan,hk];rfl
 refine bL<|bN<|ak<|ao<|ak<|ag rfl<|ak<|ag rfl<|ak<|a_<|br<|ag rfl ⟨s.p,C,s.dx,_,_,rfl,S.ob,T.cl,T.Ej,PY,aV<|ag rfl<|ao<|gR ?_⟩;rw[show(((k+1:Nat):Int) - 1)=((k:Nat):Int) by lia]
 refine iY S.mx (fH am)<|ak<|eG C (yp C CL) rfl<|ag rfl ⟨s.p,s.dx,_,rfl,S.ob,cg,ag rfl ⟨s,x,g,G,_,rfl,S,.inr ⟨k,m,Z,rfl,hk,λl H1 s1=>aA ⟨j0,λt ft=>?_⟩⟩⟩⟩;exact q t _ (s1.trans<|sameNew ft) ⟨t,l,rfl,aw⟩
def kz(hs n:Nat)(u v:V)(H:Hp):Prop:=fR u 0 ((hs:Int) - 1) H\/∃h:Nat,u=.int (h:Nat)/\h<hs/\fR v 0 (n:Nat) H
theorem kz.same{hs n:Nat}{u:V}(k:kz hs n u v H)(s:au H Y):kz hs n u v Y:=by
 rcases k with k|⟨h,e,l,k⟩
 ·exact .inl (k.same s)
 ·exact .inr ⟨h,e,l,k.same s⟩
inductive vE(C:wl)(B:be)(H:Hp)(Q:VK)(E:XK):Prop|i(s:Sv)(x:Str)(g:bn)(G:List (Nat×bi))(u v:V)(_:B=[.ref s.p,u,v])(_:bR C H s x g G)(_:((kz g.length G.length u v H/\Q (.bl false) H)\/∃(h n:Nat),u=.int (h:Nat)/\v=.int (n:Nat)/\h<g.length/\n<=G.length/\Q (.bl true) H))
theorem afD(T:jL K C):bP (vE C) (λE=>aR K [("is_between",gh)] [] [] [("many",C,df C)] (E:=E)) L8 Ao:=by
 intro B H Q E h;obtain⟨s,x,g,G,u,v,rfl,S,hh⟩:=h;have ls:(nV g).length=g.length:=zaf ..;have fst:∀{Q':VK},((fR u 0 ((g.length:Int) - 1) H/\Q' (.bl false) H)\/∃h:Nat,u=.int (h:Nat)/\h<g.length/\Q' (.bl true) H)->aj (aR K [("is_between",gh)] [] [] [("many",C,df C)] (E:=E)) (.call 0 [.v 1,(.c<|.int 0),(.bin .Sub (.blt .len [(.fld (.v 0) "serials")])<|.c<|.int 1)]) [some<|.ref s.p,some u,some v] H Q':=by
  intro Q' hq;refine ba gh rfl<|ak<|ag rfl<|ak<|ao<|ak<|aV<|gC<|br<|ag rfl ⟨s.p,C,s.dx,_,_,rfl,S.ob,T.cl,T.uB,yl,.inl ⟨_,aE.of S.jr,ao<|gR<|aA ⟨_,_,_,rfl,?_⟩⟩⟩;rw[ls];rcases hq with⟨h,q⟩|⟨h,rfl,hl,q⟩
  ·exact .inr ⟨h,q⟩
  ·exact .inl ⟨_,rfl,by lia,by lia,q⟩
 have snd:∀{Q':VK},((fR v 0 (G.length:Nat) H/\Q' (.bl false) H)\/∃n:Nat,v=.int (n:Nat)/\n<=G.length/\Q' (.bl true) H)->aj (aR K [("is_between",gh)] [] [] [("many",C,df C)] (E:=E)) (.call 0 [.v 2,(.c<|.int 0),(.aG 0 "many" (.v 0) [])]) [some<|.ref s.p,some u,some v] H Q':=by
  intro Q' hq;refine ba gh rfl<|ak<|ag rfl<|ak<|ao<|ak<|cq C (df C) rfl<|ag rfl ⟨s.p,s.dx,_,rfl,S.ob,cg,s,x,g,G,rfl,S,aA ⟨_,_,_,rfl,?_⟩⟩;rcases hq with⟨h,q⟩|⟨h,rfl,hl,q⟩
  ·exact .inr ⟨h,q⟩
  ·exact .inl ⟨_,rfl,by lia,by lia,q⟩
 rcases hh with⟨h|⟨h,e,hl,hn⟩,q⟩|⟨h,n,e,e2,hl,hn,q⟩
 ·exact bL (gG<|fst<|.inl ⟨h,_,rfl,iF q rfl⟩)
 ·exact bL (gG<|fst<|.inr ⟨h,e,hl,_,rfl,iT (ou<|snd<|.inl ⟨hn,q⟩) rfl⟩)
 ·exact bL (gG<|fst<|.inr ⟨h,e,hl,_,rfl,iT (ou<|snd<|.inr ⟨n,e2,hn,q⟩) rfl⟩)
variable {A CT f l:wl}
abbrev P6(h R':Nat):be:=[.str "again",.int (h:Nat),.int (R':Nat)]
abbrev tH(h n R':Nat)(b:wl):be:=[.str "ask",.int (h:Nat),.int (n:Nat),.int (R':Nat),.ref b]
def vF(hs n:Nat)(H:Hp)(a:wl):Prop:=(∃us,H a=some (.tup us)/\us.length≠3/\us.length<=1000)\/∃w u v,H a=some (.tup [w,u,v])/\(ku "again" w H\/(w=.str "again"/\kz hs n u v H))
def yr(hs n:Nat)(H:Hp)(a:wl):Prop:=(∃us,H a=some (.tup us)/\us.length≠5/\us.length<=1000)\/∃w u k v c,H a=some (.tup [w,u,k,v,c])/\(ku "ask" w H\/(w=.str "ask"/\(kz hs n u v H\/
 ∃h m:Nat,u=.int (h:Nat)/\v=.int (m:Nat)/\h<hs/\m<=n/\((jS k H\/∃i,k=.int i/\i<1)\/∃i:Int,k=.int i/\1<=i/\fN c H))))
def mR(hs n:Nat)(H:Hp)(v:V):Prop:=fM .tuple v H\/∃a,v=.ref a/\vF hs n H a/\yr hs n H a
theorem yr.same{hs n:Nat}{a:wl}(k:yr hs n H a)(s:au H Y):yr hs n Y a:=by
 rcases k with⟨us,h1,h2⟩|⟨w,u,k,v,c,h1,h2⟩
 ·exact .inl ⟨us,s _ _ h1,h2⟩
 refine .inr ⟨w,u,k,v,c,s _ _ h1,?_⟩;rcases h2 with h|⟨e,h|⟨h,m,e1,e2,l1,l2,hh|⟨i,e3,l3,hh⟩⟩⟩
 ·exact .inl (h.same s)
 ·exact .inr ⟨e,.inl<|h.same s⟩
 ·exact .inr ⟨e,.inr ⟨h,m,e1,e2,l1,l2,.inl<|hh.elim (λz=>.inl<|z.same s) .inr⟩⟩
 ·exact .inr ⟨e,.inr ⟨h,m,e1,e2,l1,l2,.inr ⟨i,e3,l3,hh.same s⟩⟩⟩
inductive Bx(C:wl)(B:be)(H:Hp)(Q:VK)(E:XK):Prop|i(s:Sv)(x:Str)(g:bn)(G:List (Nat×bi))(lt:wl)(_:B=[.ref s.p,.ref lt])(_:bR C H s x g G)(_:((∃h R',H lt=some (.tup<|P6 h R')/\h<g.length/\R'<=G.length/\∀Y,au H Y->Q (.bl true) Y)\/(vF g.length G.length H lt/\∀Y,au H Y->Q (.bl false) Y)))
theorem afE:bP (Bx C) (λE=>aR K [("is_word",p7 K)] [] [] [("is_known",C,vE C)] (E:=E)) En pS:=by
 intro B H Q E h;obtain⟨s,x,g,G,lt,rfl,S,hh⟩:=h;have three:∀{w u v:V},H lt=some (.tup [w,u,v])->((ku "again" w H/\∀Y,au H Y->Q (.bl false) Y)\/(w=.str "again"/\((kz g.length G.length u v H/\∀Y,au H Y->Q (.bl false) Y)\/∃(h n:Nat),u=.int (h:Nat)/\v=.int (n:Nat)/\h<g.length/\n<=G.length/\∀Y,au H Y->Q (.bl true) Y)))->aB (aR K [("is_word",p7 K)] [] [] [("is_known",C,vE C)] (E:=E)) En (Dn Q) [some<|.ref s.p,some<|.ref lt] H:=by
  intro w u v hl hq;refine bL<|gG<|gg<|gC<|ag rfl<|vw hl<|ao<|gB ⟨_,rfl,iT ?_ rfl⟩;rcases hq with⟨hw,q⟩|⟨rfl,hq⟩
  ·exact gG (vx rfl rfl hl<|.inr ⟨hw,λH1 s1=>⟨_,rfl,iF (q _ s1) rfl⟩⟩)
  refine gG<|vx rfl rfl hl<|.inl ⟨rfl,λH1 s1=>⟨_,rfl,iT (ou ?_) rfl⟩⟩;have S1:=S.same s1;have cp:=s1 _ _ hl;refine AY C (vE C) rfl<|ag rfl ⟨s.p,s.dx,_,rfl,S1.ob,cg,a_<|ag rfl<|ao<|bO cp rfl<|a_<|ag rfl<|ao<|bO cp rfl ⟨s,x,g,G,u,v,rfl,S1,?_⟩⟩;rcases hq with⟨hn,q⟩|⟨h,n,e1,e2,l1,l2,q⟩
  ·exact .inl ⟨hn.same s1,q _ s1⟩
  ·exact .inr ⟨h,n,e1,e2,l1,l2,q _ s1⟩
 rcases hh with⟨h,R',hl,l1,l2,q⟩|⟨⟨us,hl,hu,hm⟩|⟨w,u,v,hl,hw|⟨e,hn⟩⟩,q⟩
 ·exact three hl (.inr ⟨rfl,.inr ⟨h,R',rfl,rfl,l1,l2,q⟩⟩)
 ·refine bL (gG<|gg<|gC<|ag rfl<|vw hl<|ao<|gB ⟨_,rfl,iF (q _<|au.refl _) ?_⟩);rw[zqF (by lia)]
 ·exact three hl (.inl ⟨hw,q⟩)
 ·exact three hl (.inr ⟨e,.inl ⟨hn,q⟩⟩)
inductive By(C:wl)(B:be)(H:Hp)(Q:VK)(E:XK):Prop|i(s:Sv)(x:Str)(g:bn)(G:List (Nat×bi))(lt:wl)(_:B=[.ref s.p,.ref lt])(_:bR C H s x g G)(_:((∃(b:wl) (h n R':Nat) (c:bi),H lt=some (.tup<|tH h n R' b)/\h<g.length/\R'<=G.length/\1<=n/\eK (.ref b) H c/\∀Y,au H Y->Q (.bl true) Y)\/(yr g.length G.length H lt/\∀Y,au H Y->Q (.bl false) Y)))
abbrev P7(K:Frag)(C:wl)(E:XK):aS:=aR K [("is_word",p7 K),("is_whole",iC),("is_change",vv)] [] [] [("is_known",C,vE C)] (E:=E)
theorem afF:bP (By C) (λE=>P7 K C E) Em pS:=by
 intro B H Q E h;obtain⟨s,x,g,G,lt,rfl,S,hh⟩:=h;have kx:∀{w u k v c:V},H lt=some (.tup [w,u,k,v,c])->((ku "ask" w H/\∀Y,au H Y->Q (.bl false) Y)\/(w=.str "ask"/\((kz g.length G.length u v H/\∀Y,au H Y->Q (.bl false) Y)\/∃(h m:Nat),u=.int (h:Nat)/\v=.int (m:Nat)/\h<g.length/\m<=G.length/\
   (((jS k H\/∃i,k=.int i/\i<1)/\∀Y,au H Y->Q (.bl false) Y)\/∃i:Int,k=.int i/\1<=i/\((fN c H/\∀Y,au H Y->Q (.bl false) Y)\/∃cs,eK c H cs/\∀Y,au H Y->Q (.bl true) Y)))))->aB (P7 K C E) Em (Dn Q) [some (.ref s.p),some (.ref lt)] H:=by
  intro w u k v c hl hq;refine YL<|eY<|aY<|gC<|ag rfl<|vw hl<|ao<|qe ⟨_,rfl,iF ?_ rfl⟩;rcases hq with⟨hw,q⟩|⟨rfl,hq⟩
  ·exact eY (cN<|Bq<|vx rfl rfl hl<|.inr ⟨hw,λH1 s1=>cU<|iT (iT (bL<|ao<|q _ s1) rfl) rfl⟩)
  refine eY<|cN<|Bq<|vx rfl rfl hl<|.inl ⟨rfl,λH1 s1=>cU<|iF ?_ rfl⟩;have S1:=S.same s1;have cp:=s1 _ _ hl;refine kr<|cN<|yf<|AY C (vE C) rfl<|ag rfl ⟨s.p,s.dx,_,rfl,S1.ob,cg,a_<|ag rfl<|ao<|bO cp rfl<|a_<|ag rfl<|ao<|bO cp rfl ⟨s,x,g,G,u,v,rfl,S1,?_⟩⟩;rcases hq with⟨hn,q⟩|⟨h,m,e1,e2,l1,l2,hq⟩
  ·exact .inl ⟨hn.same s1,cU<|iT (bL<|ao<|q _ s1) rfl⟩
  refine .inr ⟨h,m,e1,e2,l1,l2,cU<|iF (bU ?_) rfl⟩;rcases hq with⟨hn|⟨i,rfl,hi⟩,q⟩|⟨i,rfl,hi,hq⟩
  ·exact bL (gG<|ba iC rfl<|ak<|a_<|ag rfl<|ao<|bO cp rfl<|aA ⟨_,rfl,.inr ⟨hn.same s1,_,rfl,iF (q _ s1) rfl⟩⟩)
  ·refine bL (gG<|ba iC rfl<|ak<|a_<|ag rfl<|ao<|bO cp rfl<|aA ⟨_,rfl,.inl ⟨_,rfl,_,rfl,iT ?_ rfl⟩⟩);exact gG<|gg<|a_<|ag rfl<|ao<|bO cp rfl<|ao ⟨trivial,_,rfl,iF (q _ s1)<|zqF (by lia)⟩
  refine bL<|gG<|ba iC rfl<|ak<|a_<|ag rfl<|ao<|bO cp rfl<|aA ⟨_,rfl,.inl ⟨_,rfl,_,rfl,iT ?_ rfl⟩⟩;refine gG<|gg<|a_<|ag rfl<|ao<|bO cp rfl<|ao ⟨trivial,_,rfl,iT ?_<|zqT (by lia)⟩
  refine ou<|ba vv rfl<|ak<|a_<|ag rfl<|ao<|bO cp rfl<|aA ⟨_,rfl,?_⟩;rcases hq with⟨hn,q⟩|⟨cs,hc,q⟩
  ·exact .inr ⟨hn.same s1,λH2 s2=>q _<|s1.trans s2⟩
  ·exact .inl ⟨cs,hc.same s1,λH2 s2=>q _<|s1.trans s2⟩
 rcases hh with⟨b,h,n,R',c,hl,l1,l2,hn,hc,q⟩|⟨⟨us,hl,hu,hm⟩|⟨w,u,k,v,c,hl,hw⟩,q⟩
 ·exact kx hl (.inr ⟨rfl,.inr ⟨h,R',rfl,rfl,l1,l2,.inr ⟨_,rfl,by lia,.inr ⟨c,hc,q⟩⟩⟩⟩)
 ·refine YL (eY<|aY<|gC<|ag rfl<|vw hl<|ao<|qe ⟨_,rfl,iT (iT (bL<|ao<|q _<|au.refl _) rfl) ?_⟩);rw[zqF (by lia)];rfl
 rcases hw with hw|⟨e,hn|⟨h,m,e1,e2,l1,l2,hh|⟨i,e3,hi,hh⟩⟩⟩
 ·exact kx hl (.inl ⟨hw,q⟩)
 ·exact kx hl (.inr ⟨e,.inl ⟨hn,q⟩⟩)
 ·exact kx hl (.inr ⟨e,.inr ⟨h,m,e1,e2,l1,l2,.inl ⟨hh,q⟩⟩⟩)
 ·exact kx hl (.inr ⟨e,.inr ⟨h,m,e1,e2,l1,l2,.inr ⟨i,e3,hi,.inl ⟨hh,q⟩⟩⟩⟩)
theorem afG{b elt:RE}(h:aj J a N H λu H0=>aj J b N H0 λv H1=>∃i j:Int,[u,v]=[.int i,.int j]/\(-(2 ^ 62)<=i/\i<2 ^ 62/\ -(2 ^ 62)<=j/\j<2 ^ 62)/\∃W1:Nat->Nat->be->Hp->Prop,(∃m,W1 0 m [] H1)/\∀k m R H2,W1 k m R H2->
   ((ik i (j - i).toNat).stop k H2/\∀p,H2 p=none->Q (.ref p) (upd H2 p<|.lst R))\/
   ((ik i (j - i).toNat).go k H2/\∀x H3,(ik i (j - i).toNat).jv k H2 x H3->j6 J.K none x H3 λzs=>nB none (zs.map some++da N fv) H3 λb H5=>
    if b=true then aj J.calm elt (zs.map some++da N fv) H5 λy H6=>R.length<sizeLine/\∃m',m'<m/\W1 (k+1) m' (R++[y]) H6 else ∃m',m'<m/\W1 (k+1) m' R H5)):aj J (.comp none fv .zP [a,b] none elt) N H Q:=h
theorem P8{x elt:RE}(h:aj J x N H λv H1=>∃j:Int,[v]=[.int j]/\ -(2 ^ 62)<=j/\j<2 ^ 62/\∃W1:Nat->Nat->be->Hp->Prop,(∃m,W1 0 m [] H1)/\∀i m R H2,W1 i m R H2->
   ((ik 0 j.toNat).stop i H2/\∀p,H2 p=none->Q (.ref p) (upd H2 p<|.lst R))\/
   ((ik 0 j.toNat).go i H2/\∀x H3,(ik 0 j.toNat).jv i H2 x H3->j6 J.K none x H3 λzs=>nB none (zs.map some++da N fv) H3 λb H5=>
    if b=true then aj J.calm elt (zs.map some++da N fv) H5 λy H6=>R.length<sizeLine/\∃m',m'<m/\W1 (i+1) m' (R++[y]) H6 else ∃m',m'<m/\W1 (i+1) m' R H5)):aj J (.comp none fv .jt [x] none elt) N H Q:=h
theorem P9{k:Nat}(h:k<=U.length):jb U (some (k:Int)) none=U.drop k:=by
 unfold jb;rw[HT.oZ,HT.Ir,Nat.min_eq_left h,zaM (by rw[zaC];exact zqR _)]
theorem P_{n:Nat}(h:j<n):lX n (j:Int)=some j:=by
 unfold lX;rw[BT (by lia),BT (by lia)];rfl
theorem Qa{QQ:be->Hp->wl->Prop}{te:TE}{lo:Int}{n:Nat}(lets:List (Nat×Nat×Nat))(hn:lets.length=n)(hl:n<=1000)
  (step:∀i e H2,lets[i]?=some e->au H H2->∀Q':VK,(∀t H3,au H2 H3->mQ H3 (.ref t) e->Q' (.ref t) H3)->te (some (.int<|lo+(i:Nat))::da N fv) H2 Q')
  (V':∀zs H2 q,au H H2->Paired (mQ H2) zs lets->H2 q=none->QQ zs H2 q):∃W1:Nat->Nat->be->Hp->Prop,(∃m,W1 0 m [] H)/\∀i m R H2,W1 i m R H2->
   ((ik lo n).stop i H2/\∀p,H2 p=none->QQ R H2 p)\/
   ((ik lo n).go i H2/\∀x H3,(ik lo n).jv i H2 x H3->j6 K none x H3 λzs=>nB none (zs.map some++da N fv) H3 λb H5=>
    if b=true then te (zs.map some++da N fv) H5 λy H6=>R.length<sizeLine/\∃m',m'<m/\W1 (i+1) m' (R++[y]) H6 else ∃m',m'<m/\W1 (i+1) m' R H5):=by
 refine Fg (by lia) (λi R H2=>Paired (mQ H2) R<|lets.take i) .nil ?_ ?_
 ·rintro i R H2 hi s2 e2 Q' kk;have Qc:lets[i]?=some lets[i]:=zax (by lia)
  refine step i _ H2 Qc s2 Q' λt H3 s3 hv=>kk _ _ s3 ?_;rw[Bi Qc];exact IN (Paired.g6 e2 λ_ _ z=>z.same s3) hv
 ·rintro R H2 q s2 e2 fq;rw[<-hn,zaO] at e2;exact V' R H2 q s2 e2 fq
def lQ(g:bn)(G:List (Nat×bi))(h:Nat):List (Nat×Nat×Nat):=(List.range g.length).map λk=>(k,G.length+1,h)
def Bz(C:wl)(H:Hp)(s:Sv)(g:bn)(G:List (Nat×bi))(h:Nat)(c:bi)(r:bn)(Q:VK):Prop:= ∀L zs Y,FS s H Y->bR C Y s ⟨r.toArray⟩ (g.set h<|g.getD h 0+1) (G++[(h,c)])->Y L=some (.lst zs)->Paired (mQ Y) zs (lQ g G h)->Q (.ref L) Y
theorem Bz.same{h:Nat}{c:bi}{r:bn}(q:Bz C H s g G h c r Q)(t:au H Y):Bz C Y s g G h c r Q:=λL zs H2 f0=>q L zs H2 λz o ez=>f0 z o (t _ _ ez)
def yt(C l:wl)(H:Hp)(s:Sv)(x:Str)(g:bn)(G:List (Nat×bi))(h R':Nat)(c:bi)(Q:VK)(E:XK):Nat->Prop
 | 0=>R'=G.length/\∃r,Run x.cps.toList c r/\r.length<=1000000/\Bz C H s g G h c r Q
 | 1=>R'=G.length/\(¬ ∃r,Run x.cps.toList c r)/\∀Y,au H Y->E (.ref l) none Y
 |_=>∃m Z,R'+1=G.length/\G[R']?=some (m,Z)/\(∀p∈Z,bx p)/\chainOk "" Z=true/\Z.length<=10000/\(overOf Z).sum=(overOf c).sum/\cb (aH Z) (aH c)/\∀Y,au H Y->E (.ref l) none Y
inductive oC(C l:wl)(i:Nat)(B:be)(H:Hp)(Q:VK)(E:XK):Prop|i(s:Sv)(x:Str)(g:bn)(G:List (Nat×bi))(b:wl)(h R':Nat)(c:bi)(_:B=[.ref s.p,.int (h:Nat),.int (R':Nat),.ref b])(_:bR C H s x g G)(_:good x)(_:h<g.length)(_:g.length<=8)(_:G.length<=100)(_:eK (.ref b) H c)(_:c.length<=10000)(_:¬s.M b)(_:yt C l H s x g G h R' c Q E i)
abbrev tI(K:Frag)(C A:wl)(BA BB:Sp)(E:XK):aS:=aR K [("passed",BA),("done",BB)] [] [] [("took",C,yq C A),("many",C,df C)] (E:=E)
theorem Qd{BA BB:Sp}{E:XK}{D00:Ends}{h:Nat}{b:wl}(T:jL K C)(S:bR C H s x g G)(k:∀H1 u4,au H H1->aB (tI K C A BA BB E) (uF.drop 1) D00 [some<|.ref s.p,some<|.int (h:Nat),some<|.int (G.length:Nat),some<|.ref b,u4] H1):aB (tI K C A BA BB E) uF D00 [some<|.ref s.p,some<|.int (h:Nat),some<|.int (G.length:Nat),some<|.ref b,none] H:=by
 obtain⟨dy,cx,vG⟩:=S.cx;have tJ:=Db vG;rw[zaf] at tJ;refine AZ<|Fw<|br<|ag rfl ⟨s.p,C,s.dx,_,_,rfl,S.ob,T.cl,T.uC,ym,ag rfl ⟨_,rfl,.inl ⟨_,aE.of cx,λW1 fW=>?_⟩⟩⟩;rw[P9 (by lia),<-tJ,zbz]
 have s1:=sameNew (o:=.lst []) fW;have hW:upd H W1 (.lst []) W1=some (.lst []):=aw;generalize upd H W1 (.lst [])=H1 at s1 hW⊢;refine⟨W1,rfl,⟨_,aE.of hW⟩,m4 (K:=K) (a:=W1) (xs:=[]) (λj N H2=>(∃u4,N=[some<|.ref s.p,some<|.int (h:Nat),some<|.int (dy.length:Nat),some<|.ref b,u4])/\H2=H1) ⟨⟨none,rfl⟩,rfl⟩ (λj N H2 _ ⟨_,e⟩=>e ▸ aE.of hW) ?_ ?_⟩
 ·intro j v N H2 hv _;cases hv
 rintro N H2 ⟨⟨u4,rfl⟩,rfl⟩;rw[tJ];exact k _ _ s1
theorem afH(T:jL K C):bP (oC C l 1) (λE=>tI K C A vi (xh CT f l) E) uF Aq:=by
 intro B H Q E h;obtain⟨s,x,g,G,b,h,R',c,rfl,S,gx,hh,ls,lk,ic,lc,nM,rfl,nr,k⟩:=h;obtain⟨U,hb,pv,ok,cc⟩:=ic.at;refine Qd T S λH1 u4 s1=>?_;have S1:=S.same s1;exact dw<|ba (xh CT f l) rfl<|ak<|br<|ag rfl ⟨s.p,C,s.dx,_,_,rfl,S1.ob,T.cl,T.iV,F3,ak<|ag rfl<|aA ⟨_,_,rfl,.inr<|.inr ⟨x,_,U,c,rfl,rfl,gx,s1 _ _ hb,pv.mono<|cB s1,ok,cc,by lia,nr,λY s'=>k _<|s1.trans s'⟩⟩⟩
theorem afI(T:jL K C):bP (oC C l 2) (λE=>tI K C A (Bj f l) mz E) uF Aq:=by
 intro B H Q E h;obtain⟨s,x,g,G,b,h,R',c,rfl,S,gx,hh,ls,lk,ic,lc,nM,m,Z,ea,et,Bc,cc1,l1,ov,cl,k⟩:=h;obtain⟨U,hb,pv,ok,cc⟩:=ic.at;obtain⟨dy,v,cx,hv,a,R,rfl,ha,pa,_⟩:=PZ S et;obtain⟨ajB,afK,vG⟩:=S.cx;have e:=cx.symm.trans afK;cases e;have tJ:=Db vG;rw[zaf] at tJ;refine AZ<|Fw<|br<|ag rfl ⟨s.p,C,s.dx,_,_,rfl,S.ob,T.cl,T.uC,ym,ag rfl ⟨_,rfl,.inl ⟨_,aE.of cx,λW1 fW=>?_⟩⟩⟩;have e1:jb dy (some (R':Int)) none=[.ref a]:=by
  rw[P9 (by lia),zbl (by lia),List.drop_eq_nil_of_le (by lia)]
  exact Cl (λz=>[z])<|zaj<|(zax (by lia)).symm.trans hv
 rw[e1];have s1:=sameNew (o:=.lst [V.ref a]) fW;have hW:upd H W1 (.lst [V.ref a]) W1=some (.lst [V.ref a]):=aw;generalize upd H W1 (.lst [V.ref a])=H1 at s1 hW⊢;refine⟨W1,rfl,⟨_,aE.of hW⟩,m4 (K:=K) (a:=W1) (xs:=[V.ref a]) (λj N H2=>j=0/\N=[some<|.ref s.p,some<|.int (h:Nat),some<|.int (R':Nat),some<|.ref b,none]/\H2=H1) ⟨rfl,rfl,rfl⟩ (λj N H2 _ ⟨_,_,e⟩=>e ▸ aE.of hW) ?_ ?_⟩
 ·rintro j v N H2 hj ⟨rfl,rfl,rfl⟩;cases hj;show aB (tI K C A (Bj f l) mz E) _ _ [some<|.ref s.p,some<|.int (h:Nat),some<|.int (R':Nat),some<|.ref b,some<|.ref a] H2;exact bq<|a_<|ba (Bj f l) rfl<|ak<|ag rfl<|ak<|ag rfl<|aA ⟨_,_,rfl,.inr ⟨a,R,Z,rfl,s1 _ _ ha,pa.mono<|cB s1,Bc,cc1,by lia,.inr ⟨b,U,c,rfl,s1 _ _ hb,pv.mono<|cB s1,ok,cc,by lia,λY s'=>k _<|s1.trans s',.inr ⟨ov,cl⟩⟩⟩⟩
 ·rintro N H2 ⟨z,_⟩;cases z
theorem afL(T:jL K C)(B:be)(H:Hp)(Q:VK)(E:XK)(F6:oC C l 0 B H Q E):aB (tI K C A vi mz E) uF (Dn Q) (start Aq B) H:=by
 obtain⟨s,x,g,G,b,h,R',c,rfl,S,gx,hh,ls,lk,ic,lc,nM,rfl,r,hr,lr,q⟩:=F6;obtain⟨U,hb,pv,ok,cc⟩:=ic.at;refine Qd T S λH1 u4 s1=>?_;have S1:=S.same s1;refine dw<|ba mz rfl<|ak<|br<|ag rfl ⟨s.p,C,s.dx,_,_,rfl,S1.ob,T.cl,T.iV,F3,ak<|ag rfl<|aA ⟨x,_,U,c,r,rfl,gx,s1 _ _ hb,pv.mono<|cB s1,ok,cc,by lia,hr,lr,λH3 s3=>?_⟩⟩
 have km:=s1.trans s3;have S3:=S.same km;have nl:∀{z:wl}{us:be},H3 z=some (.lst us)->z≠s.p:=λ{z us} ez y=>by rw[y,S3.ob] at ez;cases ez
 obtain⟨dy,uN,vG⟩:=S3.cx;have tJ:=Db vG;rw[zaf] at tJ;have Qe:=km _ _ hb;have pv3:=pv.mono (cB km);refine ag rfl ⟨s.p,C,s.dx,_,rfl,S3.ob,T.cl,T.iV,(by show 4<1000;decide),?_⟩
 rw[afr];have b4:bG (· =s.p) H3 (upd H3 s.p<|.ins C s.dx<|f4 ⟨r.toArray⟩ s.se s.ch s.ma):=bG.upd;have yu:upd H3 s.p (.ins C s.dx<|f4 ⟨r.toArray⟩ s.se s.ch s.ma) s.p=some (.ins C s.dx<|f4 ⟨r.toArray⟩ s.se s.ch s.ma):=aw;have t4:=s_ (o:=.ins C s.dx (f4 ⟨r.toArray⟩ s.se s.ch s.ma)) S3.ob;generalize upd H3 s.p (.ins C s.dx<|f4 ⟨r.toArray⟩ s.se s.ch s.ma)=H4 at b4 yu t4⊢;have BC:=b4 _ _ S3.jr (nl S3.jr);have Qg:=b4 _ _ uN (nl uN);have Qh:=b4 _ _ S3.mx (nl S3.mx);have esh:g[h]?=some (g.getD h 0):=by rw[zbe,zax hh];rfl
 have F7:(nV g)[h]?=some (.int ((g.getD h 0:Nat):Int)):=by unfold nV;rw[zan,esh];rfl
 refine O1<|aV<|a_<|br<|ag rfl ⟨s.p,C,s.dx,_,_,rfl,yu,T.cl,T.uB,yl,ag rfl<|iY BC (fH F7)<|ao<|cv<|br<|ag rfl ⟨s.p,C,s.dx,_,_,rfl,yu,T.cl,T.uB,yl,ag rfl ⟨s.se,_,_,h,rfl,rfl,BC,P_ (by unfold nV;rw[zaf];exact hh),?_⟩⟩⟩
 have F8:(nV g).set h (.int ((g.getD h 0:Nat)+1:Int))=nV (g.set h<|g.getD h 0+1):=by
  show _=(g.set h<|g.getD h 0+1).map _;rw[List.map_set];rfl
 rw[F8];have nd:=S.nd;have np:∀{z:wl}{us:be},H4 z=some (.lst us)->s.p≠z:=λ{z us} ez y=>by rw[<-y,yu] at ez;cases ez
 have b5:bG (· =s.se) H4 (upd H4 s.se<|.lst<|nV<|g.set h<|g.getD h 0+1):=bG.upd;have F9:upd H4 s.se (.lst<|nV<|g.set h<|g.getD h 0+1) s.se=some (.lst<|nV<|g.set h<|g.getD h 0+1):=aw;have t5:=qu (o:=.lst (nV<|g.set h<|g.getD h 0+1)) BC λ_ z=>by cases z
 generalize upd H4 s.se (.lst<|nV<|g.set h<|g.getD h 0+1)=H5 at b5 F9 t5⊢;have Qi:=b5 _ _ yu (np BC);have qx:=b5 _ _ Qg nd.1.symm;have F_:=b5 _ _ Qh nd.2.1.symm;have nbs:b≠s.se/\b≠s.ch:=⟨λy=>nM<|.inl y,λy=>nM<|.inr<|.inl y⟩;have hb5:=b5 _ _ (b4 _ _ Qe<|nl Qe) nbs.1;have k5:∀z o,H z=some o->z≠s.p->z≠s.se->H5 z=some o:=λz o e n1 n2=>b5 _ _ (b4 _ _ (km _ _ e) n1) n2;have pv5:=(pv3.mono t4).mono t5;refine cZ<|sH<|br<|ag rfl ⟨s.p,C,s.dx,_,_,rfl,Qi,T.cl,T.uC,ym,⟨.inl ⟨rfl,_,aE.of qx⟩,qo<|ag rfl ⟨_,.inl<|aE.of hb5,λa6 f6=>?_⟩⟩⟩;have s6:=sameNew (o:=.lst U) f6;have yv:upd H5 a6 (.lst U) a6=some (.lst U):=aw;have nA:∀{z:wl}{o:HO},H5 z=some o->a6≠z:=λ{z o} e y=>by rw[y,e] at f6;cases f6
 generalize upd H5 a6 (.lst U)=H6 at s6 yv⊢;have AD:=s6 _ _ qx;refine⟨dy,AD,gb (by lia),?_⟩
 have b7:bG (· =s.ch) H6 (upd H6 s.ch<|.lst<|dy++[.ref a6]):=bG.upd;have Qj:upd H6 s.ch (.lst<|dy++[.ref a6]) s.ch=some (.lst<|dy++[.ref a6]):=aw;have t7:=qu (o:=.lst (dy++[.ref a6])) AD λ_ z=>by cases z
 generalize upd H6 s.ch (.lst<|dy++[.ref a6])=H7 at b7 Qj t7⊢;have Qk:=b7 _ _ (s6 _ _ Qi) (np Qg);have Ga:=b7 _ _ (s6 _ _ F_) nd.2.2.symm;have afR:=b7 _ _ (s6 _ _ F9) nd.1;refine cZ<|sH<|br<|ag rfl ⟨s.p,C,s.dx,_,_,rfl,Qk,T.cl,T.Ej,PY,⟨.inl ⟨rfl,_,aE.of Ga⟩,ag rfl ⟨_,Ga,gb (by unfold nV;rw[zaf,zaf];lia),?_⟩⟩⟩
 have b8:bG (· =s.ma) H7 (upd H7 s.ma (.lst (nV (G.map (·.1))++[.int (h:Nat)]))):=bG.upd;have Ql:upd H7 s.ma (.lst (nV (G.map (·.1))++[.int (h:Nat)])) s.ma=some (.lst (nV ((G++[(h,c)]).map (·.1)))):=by rw[aw,zay];unfold nV;rw[zay];rfl
 have t8:=qu (o:=.lst (nV (G.map (·.1))++[.int (h:Nat)])) Ga λ_ z=>by cases z
 generalize upd H7 s.ma (.lst (nV (G.map (·.1))++[.int (h:Nat)]))=H8 at b8 Ql t8⊢;have k8:FS s H H8:=λz o e n1 n2=>b8 _ _ (b7 _ _ (s6 _ _<|k5 z o e n1 λy=>n2 (.inl y)) λy=>n2 (.inr<|.inl y)) λy=>n2 (.inr<|.inr y);have tt:eS H5 H8:=λz us e=>t8 _ _ (t7 _ _<|s6 _ _ e);have ha8:H8 a6=some (.lst U):=b8 _ _ (b7 _ _ yv<|nA qx) (nA F_);have nM6:¬s.M a6:=λhm=>by
  rcases hm with y|y|y
  ·exact nA F9 y
  ·exact nA qx y
  ·exact nA F_ y
 have S8:bR C H8 s ⟨r.toArray⟩ (g.set h<|g.getD h 0+1) (G++[(h,c)]):=by
  refine⟨b8 _ _ Qk<|np Qh,b8 _ _ afR nd.2.1,⟨dy++[.ref a6],b8 _ _ Qj nd.2.2,?_⟩,Ql,nd⟩;rw[zay];refine IN (Paired.g6 vG λv Z ⟨a,R,e1,e2,e3,e4⟩=>⟨a,R,e1,?_,((e3.mono t4).mono t5).mono tt,e4⟩) ⟨a6,U,rfl,ha8,pv5.mono tt,nM6⟩;exact b8 _ _ (b7 _ _ (s6 _ _<|b5 _ _ (b4 _ _ e2<|nl e2) λy=>e4 (.inl y)) λy=>e4 (.inr<|.inl y)) λy=>e4 (.inr<|.inr y)
 have ua:(g.set h<|g.getD h 0+1).length=g.length:=zaR ..;have Gb:(G++[(h,c)])[G.length]?=some (h,c):=by rw[zaZ<|zqR _,ST];rfl
 have ltk:(G++[(h,c)]).length=G.length+1:=by rw[zqA];rfl
 refine bL<|P8<|gC<|br<|ag rfl ⟨s.p,C,s.dx,_,_,rfl,S8.ob,T.cl,T.uB,yl,.inl ⟨_,aE.of S8.jr,?_⟩⟩;have lnv:(nV<|g.set h<|g.getD h 0+1).length=g.length:=by unfold nV;rw[zaf,ua]
 rw[lnv];refine⟨_,rfl,by lia,by lia,?_⟩
 rw[zaB];refine Qa (lQ g G h) (by unfold lQ;rw[zaf,zaN]) (by lia) ?_ ?_
 ·intro i e H9 hi s9 Q' kk;unfold lQ at hi;have vH:i<g.length:=by have:=(zat.mp hi).1;rw[zaf,zaN] at this;exact this
  rw[zan,zbM vH] at hi;cases hi;have S9:=S8.same s9;show aj (tI K C A vi mz E).calm (.aG 0 "took" (.v 1) [.v 0,(.aG 1 "many" (.v 1) [])]) [some<|.int<|0+(i:Int),some<|.ref s.p] H9 Q';rw[Int.zero_add];refine AY C (yq C A) rfl<|ag rfl ⟨s.p,s.dx,_,rfl,S9.ob,cg,ag rfl<|cq C (df C) rfl<|ag rfl ⟨s.p,s.dx,_,rfl,S9.ob,cg,s,_,_,_,rfl,S9,?_⟩⟩;rw[ltk];exact⟨s,_,_,_,i,G.length,h,c,rfl,S9,Gb,λt kZ fi hv=>kk t kZ fi hv⟩
 ·intro zs H9 L s9 e2 fL;have fi:=sameNew (o:=.lst zs) fL;exact q L zs _ (λz o e n1 n2=>fi _ _<|s9 _ _<|k8 z o e n1 n2) ((S8.same s9).same fi) aw<|Paired.g6 e2 λv e a=>a.same fi
def qy(G:List (Nat×bi))(h R':Nat):List (Nat×Nat×Nat):=(List.range<|G.length - R').map λi=>(h,R'+i+1,(G.getD (R'+i) (0,[])).1)
def CmC(C l X:wl)(H:Hp)(s:Sv)(x:Str)(g:bn)(G:List (Nat×bi))(v:V)(Q:VK)(E:XK):Nat->Prop
 | 0=>mR g.length G.length H v/\∀Y,au H Y->E (.ref X) none Y
 | 1=>∃lt h R',v=.ref lt/\H lt=some (.tup<|P6 h R')/\h<g.length/\R'<=G.length/\G.length<=100/\∀L zs Y,au H Y->Y L=some (.lst zs)->Paired (mQ Y) zs (qy G h R')->Q (.ref L) Y
 | 2=>∃lt b h n R' c,v=.ref lt/\H lt=some (.tup<|tH h n R' b)/\h<g.length/\R'<=G.length/\1<=n/\eK (.ref b) H c/\n≠g.getD h 0+1/\∀L Y,au H Y->Y L=some (.lst [])->Q (.ref L) Y
 |_=>∃lt b h R' c i,v=.ref lt/\H lt=some (.tup<|tH h (g.getD h 0+1) R' b)/\good x/\h<g.length/\g.length<=8/\G.length<=100/\eK (.ref b) H c/\c.length<=10000/\ ¬s.M b/\R'<=G.length/\i<3/\yt C l H s x g G h R' c Q E i
inductive i4(C l X:wl)(B:be)(H:Hp)(Q:VK)(E:XK):Prop|i(s:Sv)(x:Str)(g:bn)(G:List (Nat×bi))(v:V)(i:Nat)(_:B=[.ref s.p,v])(_:bR C H s x g G)(_:CmC C l X H s x g G v Q E i)
theorem yt.same{h R':Nat}{c:bi}{E:XK}(k:yt C l H s x g G h R' c Q E i)(t:au H Y):yt C l Y s x g G h R' c Q E i:=by
 match i,k with
 | 0,⟨e,r,h1,h2,q⟩=>exact⟨e,r,h1,h2,q.same t⟩
 | 1,⟨e,h1,q⟩=>exact⟨e,h1,λH2 s2=>q _<|t.trans s2⟩
 |_+2,⟨m,Z,h1,h2,h3,h4,h5,h6,h7,q⟩=>exact⟨m,Z,h1,h2,h3,h4,h5,h6,h7,λH2 s2=>q _<|t.trans s2⟩
theorem afX{m:Str}{b c:RE}(C:wl)(sp:Sp)(hm:J.ms j=(C,sp))(h:aj J o N H λx H1=>∃p dx fs,x=.ref p/\H1 p=some (.ins C dx fs)/\fs.lookup m=none/\aj J a N H1 λy H2=>aj J b N H2 λz H3=>aj J c N H3 λw H4=>sp [x,y,z,w] H4 Q J.E):aj J (.aG j m o [a,b,c]) N H Q:=by
 have e1:(J.ms j).1=C:=by rw[hm]
 have e2:(J.ms j).2=sp:=by rw[hm]
 show ni (J.ms j).1 m (J.ms j).2 [] J.E (aj J o) (bw J [a,b,c]) N H Q;rw[e1,e2];exact h
abbrev vI(K:Frag)(C X A l:wl)(E:XK):aS:=aR K [] [] [] [("is_again",C,Bx C),("many",C,df C),("took",C,yq C A),("is_ask",C,By C),("take_in",C,eF (oC C l 0)<|eF (oC C l 1)<|oC C l 2)] (et:=[("BadLetter",X)]) (E:=E)
theorem afY(T:jL K C)(B:be)(H:Hp)(Q:VK)(E:XK)(F6:i4 C l X B H Q E):aB (vI K C X A l E) wX (Dn Q) (start pS B) H:=by
 obtain⟨s,x,g,G,v,i,rfl,S,hh⟩:=F6;have Qm:∀{lt:wl}{us:be},H lt=some (.tup us)->vF g.length G.length H lt->(∀H1,au H H1->aB (vI K C X A l E) (wX.drop 2) (Dn Q) [some<|.ref s.p,some<|.ref lt] H1)->aB (vI K C X A l E) wX (Dn Q) [some<|.ref s.p,some<|.ref lt] H:=by
  intro lt us hl hn k;refine YL<|cN<|vh<|ag rfl<|pT hl<|iF (bU ?_) rfl;exact YL<|yf<|eG C (Bx C) rfl<|ag rfl ⟨s.p,s.dx,_,rfl,S.ob,cg,ag rfl ⟨s,x,g,G,lt,rfl,S,.inr ⟨hn,λH1 s1=>cU<|iF (bU<|k _ s1) rfl⟩⟩⟩
 have ask:∀{lt b:wl}{h n R':Nat}{c:bi},H lt=some (.tup<|tH h n R' b)->h<g.length->R'<=G.length->1<=n->eK (.ref b) H c->(∀H1,au H H1->if n≠g.getD h 0+1 then ∀L Y,au H1 Y->Y L=some (.lst [])->Q (.ref L) Y else aj (vI K C X A l E) (.aG 4 "take_in" (.v 0) [(.ix (.v 1)<|.c<|.int 1),(.ix (.v 1)<|.c<|.int 3),(.ix (.v 1)<|.c<|.int 4)]) [some<|.ref s.p,some<|.ref lt] H1 Q)->aB (vI K C X A l E) wX (Dn Q) [some<|.ref s.p,some<|.ref lt] H:=by
  intro lt b h n R' c hl l1 l2 hn ic k;refine Qm hl (.inl ⟨_,hl,by show 5≠3;decide,by show 5<=1000;decide⟩) λH1 s1=>?_
  have S1:=S.same s1;refine YL<|cN<|yf<|eG C (By C) rfl<|ag rfl ⟨s.p,s.dx,_,rfl,S1.ob,cg,ag rfl ⟨s,x,g,G,lt,rfl,S1,.inl ⟨b,h,n,R',c,s1 _ _ hl,l1,l2,hn,ic.same s1,λH2 s2=>cU<|iF (bU ?_) rfl⟩⟩⟩;have dF:=s1.trans s2;have S2:=S.same dF;have o7:=dF _ _ hl;have F7:(nV g)[h]?=some (.int ((g.getD h 0:Nat):Int)):=by unfold nV;rw[zan,zbe,zax l1];rfl
  refine YL<|aY<|a_<|ag rfl<|ao<|bO o7 rfl<|aV<|a_<|br<|ag rfl ⟨s.p,C,s.dx,_,_,rfl,S2.ob,T.cl,T.uB,yl,a_<|ag rfl<|ao<|bO o7 rfl<|iY S2.jr (fH F7)<|ao<|cv<|qe ⟨_,rfl,?_⟩⟩;have kk:=k H2 dF;by_cases en:n=g.getD h 0+1
  ·rw[AT (by simpa using en)] at kk
   refine iF (bU<|bL kk) (by rw[zqT (by lia)];rfl)
  ·rw[BT en] at kk;refine iT (bL<|bV<|aA ⟨zqZ _,λL fL=>kk L _ (sameNew fL) aw⟩) ?_;rw[zqF (by lia)];rfl
 match i,hh with
 | 0,⟨hn,k⟩=>
  rcases hn with hn|⟨a,rfl,ha,hb⟩
  ·exact YL (cN<|vh<|ag rfl<|hn.go<|iT ⟨oA,k _<|au.refl _⟩ rfl)
  have tup:∃us,H a=some (.tup us):=by
   rcases ha with⟨us,h,_⟩|⟨_,_,_,h,_⟩
   ·exact⟨_,h⟩
   ·exact⟨_,h⟩
  obtain⟨us,hl⟩:=tup;refine Qm hl ha λH1 s1=>?_;have S1:=S.same s1;exact YL<|cN<|yf<|eG C (By C) rfl<|ag rfl ⟨s.p,s.dx,_,rfl,S1.ob,cg,ag rfl ⟨s,x,g,G,a,rfl,S1,.inr ⟨hb.same s1,λH2 s2=>cU<|iT ⟨oA,k _<|s1.trans s2⟩ rfl⟩⟩⟩
 | 1,⟨lt,h,R',e,hl,l1,ha,lk,q⟩=>
  subst e;refine YL<|cN<|vh<|ag rfl<|pT hl<|iF (bU ?_) rfl;refine YL<|yf<|eG C (Bx C) rfl<|ag rfl ⟨s.p,s.dx,_,rfl,S.ob,cg,ag rfl ⟨s,x,g,G,lt,rfl,S,.inl ⟨h,R',hl,l1,ha,λH1 s1=>cU<|iT ?_ rfl⟩⟩⟩;have S1:=S.same s1;have cp:=s1 _ _ hl;refine bL<|afG<|aV<|a_<|ag rfl<|ao<|bO cp rfl<|ao<|cv<|aV<|cq C (df C) rfl<|ag rfl ⟨s.p,s.dx,_,rfl,S1.ob,cg,s,x,g,G,rfl,S1,ao<|cv ?_⟩;refine⟨_,_,rfl,⟨by lia,by lia,by lia,by lia⟩,?_⟩
  rw[show((G.length:Int)+1 - ((R':Int)+1)).toNat=G.length - R' by lia]
  refine Qa (qy G h R') (by unfold qy;rw[zaf,zaN]) (by lia) ?_ ?_
  ·intro i e H9 hi s9 Q' kk;unfold qy at hi;have vH:i<G.length - R':=by have:=(zat.mp hi).1;rw[zaf,zaN] at this;exact this
   rw[zan,zbM vH] at hi;cases hi;have S9:=S1.same s9;have hl9:=s9 _ _ cp;have Gb:G[R'+i]?=some (G.getD (R'+i) (0,[])):=by rw[zbe,zax (by lia)];rfl
   show aj (vI K C X A l E).calm (.aG 2 "took" (.v 1) [(.ix (.v 2)<|.c<|.int 1),.v 0]) [some<|.int<|(R':Int)+1+(i:Int),some<|.ref s.p,some<|.ref lt] H9 Q';rw[show(R':Int)+1+(i:Int)=((R'+i+1:Nat):Int) by lia]
   exact AY C (yq C A) rfl<|ag rfl ⟨s.p,s.dx,_,rfl,S9.ob,cg,a_<|ag rfl<|ao<|bO hl9 rfl<|ag rfl ⟨s,_,_,_,h,R'+i,_,_,rfl,S9,Gb,λt kZ fi hv=>kk t kZ fi hv⟩⟩
  ·intro zs H9 L s9 e2 fL;have fi:=sameNew (o:=.lst zs) fL;exact q L zs _ ((s1.trans s9).trans fi) aw<|Paired.g6 e2 λv e a=>a.same fi
 | 2,⟨lt,b,h,n,R',c,e,hl,l1,l2,hn,ic,ne,q⟩=>
  subst e;refine ask hl l1 l2 hn ic λH1 s1=>?_;rw[BT ne];exact λL Y s' hL=>q L Y (s1.trans s') hL
 |_+3,⟨lt,b,h,R',c,i,e,hl,gx,l1,ls,lk,ic,lc,nM,l2,hi,k⟩=>
  subst e;refine ask hl l1 l2 (zbB ..) ic λH1 s1=>?_;rw[AT<|λz=>z rfl];have S1:=S.same s1;have cp:=s1 _ _ hl;refine afX C (eF (oC C l 0)<|eF (oC C l 1)<|oC C l 2) rfl<|ag rfl ⟨s.p,s.dx,_,rfl,S1.ob,cg,a_<|ag rfl<|ao<|bO cp rfl<|a_<|ag rfl<|ao<|bO cp rfl<|a_<|ag rfl<|ao<|bO cp rfl ?_⟩;have k1:=k.same s1
  match i,hi,k1 with
  | 0,_,k1=>exact .inl ⟨s,x,g,G,b,h,R',c,rfl,S1,gx,l1,ls,lk,ic.same s1,lc,nM,k1⟩
  | 1,_,k1=>exact .inr (.inl ⟨s,x,g,G,b,h,R',c,rfl,S1,gx,l1,ls,lk,ic.same s1,lc,nM,k1⟩)
  | 2,_,k1=>exact .inr (.inr ⟨s,x,g,G,b,h,R',c,rfl,S1,gx,l1,ls,lk,ic.same s1,lc,nM,k1⟩)
end
section
variable {J:aS}{D:Ends}{N:St}{H:Hp}{r:ci}{Q:VK}
theorem af0{b:RE}(h:aj J a N H λx H1=>aj J b N H1 λy H2=>Ed x y H2 Q):aj J (.xt Ee [a,b]) N H Q:=h
end
section
variable {K:Frag}{C u g CB CL r CC CF t c:wl}{H Y:Hp}{s:Sv}{h:zbO}{x:Str}{B':bn}{tk:List (Nat×bi)}{kn se:Nat}{fl:Option bi}{f:db}{E:XK}{Q:VK}
structure h9 (K:Frag) (f:db) (c d:wl) (j:Nat):Prop where
 k:uQ K f c d j
 l:j<13
 x:exmOne K (.ref d) (.ref c)=some true
theorem tK{D:Ends}{d:wl}(hw:J.hs 0=xi J.K f c)(e:h9 J.K f c d j)(q:∀Y,au H Y->D.rt (.str<|fO.getD j "") Y):
  De J.K c 2 3 (λea=>aB {J with E:=E0,hv:=some ea} [.ret<|.mi 0<|.v 2]) D (.ref d) none H:=by
 refine⟨e.x,λea ob B K' kW hl rk=>?_⟩;have s1:=sameNew (o:=.bW ob nE) kW;have he:ExcAt (upd H ea<|.bW ob nE) ea d:=⟨ob,B,aw,rk⟩;refine bL ⟨_,(by rw[zbm (by lia)]),⟨ea,d,rfl,he⟩,?_⟩
 show J.hs 0 [.ref ea] _ _ _;rw[hw];exact⟨ea,d,j,rfl,he,e.k,e.l,λH2 s2=>q _<|s1.trans s2⟩
inductive yw(C:wl)(m:Str)(sp:Sp)(ds:List (wl×Nat))(B:be)(H:Hp)(Q:VK)(E:XK):Prop|i(p dx:wl)(fs:cr)(v:V)(_:B=[.ref p,v])(_:H p=some (.ins C dx fs))(_:fs.lookup m=none)(_:∀(Q2:VK) (E2:XK),(∀v Y,Q (.str "") Y->Q2 v Y)->(∀d j Y,(d,j)∈ds->(∀H2,au Y H2->Q (.str<|fO.getD j "") H2)->E2 (.ref d) none Y)->sp [.ref p,v] H Q2 E2)
abbrev af1(m:Str):ci:=[.kS 3 2 0 [.drop<|.aG 0 m (.v 0) [.v 1]] [.ret<|.mi 0<|.v 2],.ret<|.c<|.str ""]
abbrev yx(K:Frag)(C:wl)(m:Str)(sp:Sp)(f:db)(c:wl)(E:XK):aS:=aR K [] [("InkError",.ref c)] [] [(m,C,sp)] (ht:=[("_law_word",xi K f c)]) (E:=E)
theorem BD{m:Str}{sp:Sp}{ds:List (wl×Nat)}(hd:∀e∈ds,h9 K f c e.1 e.2)(B:be)(H:Hp)(Q:VK)(E:XK)(h:yw C m sp ds B H Q E):aB (yx K C m sp f c E) (af1 m) (Dn Q) (start ["a","b","c"] B) H:=by
 obtain⟨p,dx,fs,v,rfl,hp,nf,k⟩:=h;refine⟨c,rfl,cZ<|eG C sp rfl<|ag rfl ⟨p,dx,fs,rfl,hp,nf,ag rfl<|k _ _ (λv Y q=>bL<|ao q) λd j Y hm q=>?_⟩⟩;exact tK rfl (hd _ hm) q
theorem qz{p dx:wl}(fp:H p=none)(fd:H dx=none)(n:dx≠p):au H (upd (upd H dx<|.own p) p<|.ins C dx []):=λb o e=>by rw[aC<|aO e fp,aC<|aO e fd];exact e
inductive yy (H:Hp):Int->V->Nat->Prop
 |t0 {v:_} (_:iB v H):yy H 0 v 0
 |n1 {v:_} (_:fR v 1 8 H):yy H 1 v 11
 |n2 {v:_} (_:fR v 0 7 H):yy H 2 v 11
 |t3 {v:_} (_:iB v H):yy H 3 v 0
inductive vJ(B:be)(H:Hp)(Q:VK)(E:XK):Prop|i(w:Int)(v:V)(j:Nat)(_:B=[.int w,v])(_:yy H w v j)(_:∀Y,au H Y->Q (.str<|fO.getD j "") Y)
inductive BE(B:be)(H:Hp)(Q:VK)(E:XK):Prop|i(w:Int)(v:V)(j:Nat)(_:B=[.int w,v])(_:((w=0/\iB v H/\j=0)\/(w=1/\j=11)))(_:∀Y,au H Y->Q (.str<|fO.getD j "") Y)
abbrev Qn(K:Frag)(g C u r t:wl)(f:db)(c:wl)(E:XK):aS:=aR K [] [("InkError",.ref c)] [] [] [("Server",g,tF g r t),("Hand",C,tj C u r t)] (ht:=[("_law_word",xi K f c)]) (E:=E)
theorem af2:good "ab":=kq (by decide+kernel) (by decide+kernel)
theorem af3(xT:h9 K f c r 0)(xN:h9 K f c t 11):bP (vJ) (λE=>Qn K g C u r t f c E) M3 M1:=by
 intro B H Q E h;obtain⟨w,v,j,rfl,hm,q⟩:=h;refine⟨c,rfl,?_⟩;cases hm with
 |t0 hb=>
  refine YL<|aY<|ag rfl<|ao<|gB ⟨_,rfl,iT ?_ rfl⟩;refine cZ<|qf g (tF g r t) rfl<|ag rfl<|ao λp dx fp fd n=>?_;have s1:=qz (C:=g) fp fd n;exact⟨p,v,_,rfl,.inl ⟨hb.same s1,tK rfl xT λY s'=>q _ (s1.trans s')⟩⟩
 |n1 hb=>
  refine YL<|aY<|ag rfl<|ao<|gB ⟨_,rfl,iF ?_ rfl⟩;refine YL<|aY<|ag rfl<|ao<|gB ⟨_,rfl,iT ?_ rfl⟩;refine cZ<|qf g (tF g r t) rfl<|ao<|ag rfl λp dx fp fd n=>?_;have s1:=qz (C:=g) fp fd n;exact⟨p,_,v,rfl,.inr<|.inl ⟨_,rfl,af2,hb.same s1,tK rfl xN λY s'=>q _ (s1.trans s')⟩⟩
 |n2 hb=>
  refine YL<|aY<|ag rfl<|ao<|gB ⟨_,rfl,iF ?_ rfl⟩;refine YL<|aY<|ag rfl<|ao<|gB ⟨_,rfl,iF ?_ rfl⟩;refine YL<|aY<|ag rfl<|ao<|gB ⟨_,rfl,iT ?_ rfl⟩;refine cZ<|qf C (tj C u r t) rfl<|ag rfl<|ao λp dx fp fd n=>?_;have s1:=qz (C:=C) fp fd n;exact⟨p,v,_,rfl,.inl ⟨hb.same s1,tK rfl xN λY s'=>q _ (s1.trans s')⟩⟩
 |t3 hb=>
  refine YL<|aY<|ag rfl<|ao<|gB ⟨_,rfl,iF ?_ rfl⟩;refine YL<|aY<|ag rfl<|ao<|gB ⟨_,rfl,iF ?_ rfl⟩;refine YL<|aY<|ag rfl<|ao<|gB ⟨_,rfl,iF ?_ rfl⟩;refine cZ<|qf C (tj C u r t) rfl<|ao<|ag rfl λp dx fp fd n=>?_;have s1:=qz (C:=C) fp fd n;exact⟨p,_,v,rfl,.inr<|.inl ⟨1,rfl,by decide,hb.same s1,tK rfl xT λY s'=>q _ (s1.trans s')⟩⟩
theorem af4(xT:h9 K f c r 0)(xN:h9 K f c t 11):bP (BE) (λE=>Qn K g C u r t f c E) Nk Nj:=by
 intro B H Q E h;obtain⟨w,v,j,rfl,⟨rfl,hb,rfl⟩|⟨rfl,rfl⟩,q⟩:=h
 ·refine⟨c,rfl,YL<|aY<|ag rfl<|ao<|gB ⟨_,rfl,iT ?_ rfl⟩⟩;refine cZ<|qf g (tF g r t) rfl<|ag rfl<|ao λp dx fp fd n=>?_;have s1:=qz (C:=g) fp fd n;exact⟨p,v,_,rfl,.inl ⟨hb.same s1,tK rfl xT λY s'=>q _ (s1.trans s')⟩⟩
 ·refine⟨c,rfl,YL<|aY<|ag rfl<|ao<|gB ⟨_,rfl,iF ?_ rfl⟩⟩;refine cZ<|qf C (tj C u r t) rfl<|ao<|ag rfl λp dx fp fd n=>?_;have s1:=qz (C:=C) fp fd n;exact⟨p,_,v,rfl,.inl ⟨.inr ⟨9,rfl,by lia⟩,tK rfl xN λY s'=>q _ (s1.trans s')⟩⟩
end
section
variable {J:aS}{N:St}{g H Y:Hp}{Q:VK}{D:Ends}{r:ci}
structure zbN where
 f:V->Hp->Prop
 st:∀v H Y,f v H->au H Y->f v Y
def zbN.is(w:V):zbN:=⟨λv _=>v=w,λ_ _ _ h _=>h⟩
def zbN.any:zbN:=⟨λ_ _=>True,λ_ _ _ h _=>h⟩
def zbN.pl(lo hi:Int):zbN:=⟨λv H=>fR v lo hi H,λ_ _ _ h s=>h.same s⟩
def zbN.wh:zbN:=⟨λv H=>jS v H\/∃i,v=.int i/\i<1,λ_ _ _ h s=>h.elim (λz=>.inl<|z.same s) .inr⟩
def zbN.nc:zbN:=⟨fN,λ_ _ _ h s=>h.same s⟩
def h_(P:zbN)(g:Hp)(J:aS)(N:St)(e:RE):Prop:= ∀(H:Hp) (Q:VK),au g H->(∀v Y,au H Y->P.f v Y->Q v Y)->aj J e N H Q
variable {P:zbN}
theorem oE{e:RE}(h:xY P.f J N e):h_ P g J N e:=λH Q _ q=>h H Q q
theorem aK(h:∀H,P.f v H):h_ P g J N (.c v):=λH Q _ q=>ao (q v H (au.refl _)<|h H)
theorem dS(e:N[j]?=some (some v))(h:∀H,au g H->P.f v H):h_ P g J N (.v j):=λH Q s q=>ag e (q v H (au.refl _)<|h H s)
theorem kD{e:RE}{i:Int}(hr:∀H1 (Q1:VK),Q1 (.int i) H1->aj J e N H1 Q1)(h:∀H,P.f (.int i) H):h_ P g J N e:=λH Q _ q=>hr H Q (q _ _ (au.refl _)<|h H)
theorem vK{i:Int}(h:∀H,P.f (.int<|-i) H):h_ P g J N (.neg<|.c<|.int i):=λH Q _ q=>A0 (q _ _ (au.refl _)<|h H)
theorem Gd:∀(es:jp) (Ps:List zbN),Paired (λe P=>h_ P g J N e) es Ps->∀(H:Hp) (Q:be->Hp->Prop),au g H->(∀B Y,au H Y->Paired (λv (P:zbN)=>P.f v Y) B Ps->Q B Y)->bw J es N H Q
 |_,_,.nil,H,Q,s,q=>aA (q [] H (au.refl _) .nil)
 |_,_,.cons a b,H,Q,s,q=>ak (a H _ s λv H1 s1 o=>Gd _ _ b H1 _ (s.trans s1) λB H2 s2 hv=>q (v::B) H2 (s1.trans s2) (.cons (zbN.st _ _ _ _ o s2) hv))
theorem dU{es:jp}{Ps:List zbN}(h:Paired (λe P=>h_ P g J N e) es Ps)(hl:Ps.length<=100)(k:∀a B H,au g H->H a=some (.tup B)->Paired (λv (P:zbN)=>P.f v H) B Ps->P.f (.ref a) H):h_ P g J N (.tup es):=λH Q s q=>by
 refine bN<|Gd es Ps h H _ s λB H1 s1 hv=>⟨cK (by have:=Db hv;lia),λa fa=>?_⟩
 have s2:=sameNew (o:=.tup B) fa;exact q _ _ (s1.trans s2)<|k a B _ ((s.trans s1).trans s2) aw<|Paired.g6 hv λv P h=>P.st _ _ _ h s2
theorem BF{es:jp}{Ps:List zbN}(h:Paired (λe P=>h_ P g J N e) es Ps)(hl:Ps.length<=100)(k:∀a B H,au g H->H a=some (.lst B)->Paired (λv (P:zbN)=>P.f v H) B Ps->P.f (.ref a) H):h_ P g J N (.lst es):=λH Q s q=>by
 refine bV<|Gd es Ps h H _ s λB H1 s1 hv=>⟨cK (by have:=Db hv;lia),λa fa=>?_⟩
 have s2:=sameNew (o:=.lst B) fa;exact q _ _ (s1.trans s2)<|k a B _ ((s.trans s1).trans s2) aw<|Paired.g6 hv λv P h=>P.st _ _ _ h s2
theorem yz:∀(es:jp),(∀e∈es,h_ P g J N e)->∀(H:Hp) (Q:be->Hp->Prop),au g H->(∀B Y,au H Y->B.length=es.length->(∀v∈B,P.f v Y)->Q B Y)->bw J es N H Q
 |[],_,H,Q,_,q=>aA (q [] H (au.refl _) rfl (λv hv=>by cases hv))
 |e::es,h,H,Q,s,q=>ak (h e (.head _) H _ s λv H1 s1 o=>yz es (λe' EW=>h e' (.tail _ EW)) H1 _ (s.trans s1) λB H2 s2 ln os=>q (v::B) H2 (s1.trans s2) (by rw[zaz,ln,zaz]) (λw hw=>by
   rcases zad.mp hw with rfl|hw
   ·exact P.st _ _ _ o s2
   ·exact os w hw))
theorem oF{es:jp}{ix:RE}{i:Int}(hm:∀e∈es,h_ P g J N e)(hi:∀(H1:Hp) (Q1:VK),Q1 (.int i) H1->aj J ix N H1 Q1)(h0:0<=i)(h1:i<es.length)(hn:es.length<=100:=by decide):h_ P g J N (.ix (.lst es) ix):=λH Q s q=>by
 refine a_<|bV<|yz es hm H _ s λB H1 s1 hl hv=>⟨cK (by lia),λa fa=>hi _ _ ?_⟩
 obtain⟨k,rfl⟩:=zaK h0;have hk:k<B.length:=by lia
 have s2:=sameNew (o:=.lst B) fa;exact iY (aw (a:=a)) (fH<|zax hk)<|q _ _ (s1.trans s2)<|P.st _ _ _ (hv _<|zby hk) s2
theorem BG{ix:RE}{i:Int}(e:N[j]?=some (some<|.ref L))(hL:g L=some (.lst U))(hx:∀v∈U,P.f v g)(hi:∀(H1:Hp) (Q1:VK),Q1 (.int i) H1->aj J ix N H1 Q1)(h0:0<=i)(h1:i<U.length):h_ P g J N (.ix (.v j) ix):=λH Q s q=>by
 obtain⟨k,rfl⟩:=zaK h0;have hk:k<U.length:=by lia
 exact a_<|ag e<|hi _ _<|iY (s _ _ hL) (fH<|zax hk)<|q _ _ (au.refl _)<|P.st _ _ _ (hx _<|zby hk) s
theorem yA{k:Nat}{es:jp}(P:zbN)(hm:∀e∈es,h_ P H J N e)(q:∀L U Y,au H Y->Y L=some (.lst U)->(∀v∈U,P.f v Y)->U.length=es.length->aB J r D (N.set k<|some<|.ref L) Y)(hn:es.length<=100:=by decide):aB J (.asg k (.lst es)::r) D N H:=by
 refine bq<|bV<|yz es hm H _ (au.refl _) λB H1 s1 hl hv=>⟨cK (by lia),λa fa=>?_⟩
 have s2:=sameNew (o:=.lst B) fa;exact q a B _ (s1.trans s2) aw (λv h=>P.st _ _ _ (hv v h) s2) hl
theorem mS{k:Nat}{es:jp}{l:wl}(P:zbN)(hσ:N[k]?=some (some<|.ref l))(hl:H l=some (.lst U))(ho:∀v∈U,P.f v H)(hm:∀e∈es,h_ P H J N e)(hn:U.length+es.length<=100)
  (q:∀L R Y,au H Y->Y L=some (.lst R)->(∀v∈R,P.f v Y)->R.length=U.length+es.length->aB J r D (N.set k<|some<|.ref L) Y):aB J (.asg k (.bin .Add (.v k)<|.lst es)::r) D N H:=by
 refine bq<|aV<|ag hσ<|bV<|yz es hm H _ (au.refl _) λB H1 s1 ln os=>⟨cK (by lia),λm fm=>?_⟩
 have s2:=sameNew (o:=.lst B) fm;refine .inl ⟨l,m,U,B,rfl,rfl,s2 _ _<|s1 _ _ hl,aw,cK (by lia),λp fp=>?_⟩
 have s3:=sameNew (o:=.lst (U++B)) fp;have Ge:=s2.trans s3;refine q p (U++B) _ (s1.trans Ge) aw (λv hv=>?_) (by rw[zqA,ln])
 rcases zak.mp hv with h|h
 ·exact P.st _ _ _ (ho v h) (s1.trans Ge)
 ·exact P.st _ _ _ (os v h) Ge
theorem oG{c b:Int}(e:N[j]?=some (some<|.int c))(hb:0<b):∀(H1:Hp) (Q1:VK),Q1 (.int<|c % b) H1->aj J (.bin .Mod (.v j)<|.c<|.int b) N H1 Q1:=λH1 Q1 q=>aV (ag e<|ao<|lP hb q)
theorem yB{c a b:Int}(e:N[j]?=some (some<|.int c))(ha:∀c,j3 c a)(hb:0<b):∀(H1:Hp) (Q1:VK),Q1 (.int<|c / a % b) H1->aj J (.bin .Mod (.bin .FloorDiv (.v j)<|.c<|.int a)<|.c<|.int b) N H1 Q1:=λH1 Q1 q=>aV (aV<|ag e<|ao<|sZ (ha c)<|ao<|lP hb q)
theorem fD{c b:Int}(hb:0<b):0<=c % b:=Int.emod_nonneg _ (by lia)
theorem i5{c b:Int}(hb:0<b):c % b<b:=Int.emod_lt_of_pos _ hb
theorem jX{T:Ty}{z:Str}{k:xz->Prop}(q:k (T==.str)):cy T (.str z) H k:=q
inductive tL(B:be)(H:Hp)(Q:VK)(E:XK):Prop|i(c:Int)(_:B=[.int c])(_:∀v Y,au H Y->fN v Y->Q v Y)
theorem af5:Oe "\t"=false:=by decide+kernel
theorem af6{K:Frag}:bP (tL) (λE=>aR K [] [] (E:=E)) rW As:=by
 intro B H Q E h;obtain⟨c,rfl,q⟩:=h;refine yA zbN.nc (λe he=>?_) λL U H1 s1 hL hx lx=>?_
 ·simp only[zad,zae,Fr] at he
  rcases he with rfl|rfl|rfl|rfl|rfl|rfl|rfl
  ·exact aK λH=>.inl rfl
  ·exact aK λH=>.inl (jX rfl)
  ·exact dU (Ps:=[zbN.any]) (.cons (dU (Ps:=[zbN.any,zbN.any]) (.cons (aK λ_=>trivial)<|.cons (aK λ_=>trivial) .nil) (by decide) λ_ _ _ _ _ _=>trivial) .nil) (by decide) λa B H s ha hv=>.inl (pT ha rfl)
  ·exact oE (xZ λb H hb=>qh hb (.inr<|.inr<|.inl ⟨rfl,.inr ⟨_,rfl,by decide⟩⟩))
  ·exact oE (xZ λb H hb=>qh hb (.inr<|.inr<|.inr ⟨.inr rfl,.inr rfl⟩))
  ·exact oE (Pd (.keep 1) (.keep 1) rfl rfl rfl rfl (by show(1:Int)<=1;lia) (by show(1:Int)<=1;lia) rfl rfl)
  ·exact oE aez
 refine bL<|a_<|aV<|ag rfl<|bV<|yz (P:=zbN.nc) _ (λe he=>?_) H1 _ (au.refl _) λB H2 s2 ln os=>⟨cK (by rw[ln];decide),λm fm=>?_⟩
 ·simp only[zad,zae,Fr] at he
  rcases he with rfl|rfl|rfl|rfl
  ·exact oE (Pd (.cut "a") (.put "b") rfl rfl rfl rfl aeA aeB rfl rfl)
  ·exact oE (xZ λb H hb=>qh hb (.inr<|.inr<|.inl ⟨rfl,.inl<|.inl ⟨_,rfl⟩⟩))
  ·exact oE (xZ λb H hb=>qh hb (.inr<|.inl ⟨_,rfl,by decide+kernel,by decide+kernel,by decide+kernel⟩))
  ·exact oE (xZ λb H hb=>qh hb (.inr<|.inr<|.inr ⟨.inr rfl,.inl<|.inl ⟨_,rfl,by decide+kernel,af5⟩⟩))
 have lv:B.length=4:=ln;have lx:U.length=7:=lx;have s3:=sameNew (o:=.lst B) fm;have oH:=s3 _ _ (s2 _ _ hL);refine Fy oH aw (by lia) λd fd=>oG rfl (by decide) _ _ ?_
 have s4:=sameNew (o:=.lst (U++B)) fd;obtain⟨k,hk⟩:=zaK (fD (c:=c) (b:=11) (by decide))
 have hl:=i5 (c:=c) (b:=11) (by decide)
 rw[hk] at hl⊢;have pE:k< (U++B).length:=by rw[zqA];lia
 refine iY (aw (a:=d)) (fH<|zax pE)<|q _ _ (((s1.trans s2).trans s3).trans s4) ?_;have hm:=zby pE;rcases zak.mp hm with h|h
 ·exact(hx _ h).same ((s2.trans s3).trans s4)
 ·exact(os _ h).same (s3.trans s4)
end
section
variable {K:Frag}{C m X:wl}{J:aS}{N:St}{w H Y:Hp}{Q:VK}{s:Sv}{h:zbO}{x:Str}{D:bn}{T:List (Nat×bi)}{P r:Nat}{G:Option bi}
theorem vF.same{hs n:Nat}{a:wl}(k:vF hs n H a)(s:au H Y):vF hs n Y a:=by
 rcases k with⟨us,h1,h2⟩|⟨w0,u,v,h1,h2⟩
 ·exact .inl ⟨us,s _ _ h1,h2⟩
 ·exact .inr ⟨w0,u,v,s _ _ h1,h2.elim (λz=>.inl<|z.same s) λz=>.inr ⟨z.1,z.2.same s⟩⟩
theorem mR.same{hs n:Nat}(k:mR hs n H v)(s:au H Y):mR hs n Y v:=by
 rcases k with k|⟨a,e,k1,k2⟩
 ·exact .inl (fM.same k s)
 ·exact .inr ⟨a,e,k1.same s,k2.same s⟩
theorem hZ.same{own:Nat}(k:hZ own H v)(s:au H Y):hZ own Y v:=by
 cases k with
 |ty a=>exact .ty (fM.same a s)
 |ln a b c=>exact .ln (s _ _ a) b c
 |wd a b c=>exact .wd (s _ _ a) b (c.same s)
 |ow a b=>exact .ow (s _ _ a) (b.same s)
 |nm a b=>exact .nm (s _ _ a) (b.elim (λz=>.inl<|z.same s) .inr)
 |wh a b c=>exact .wh (s _ _ a) b (c.same s)
 |ch a b c d=>exact .ch (s _ _ a) b c (d.same s)
def zbN.lt(hs n:Nat):zbN:=⟨λv H=>mR hs n H v,λ_ _ _ h s=>h.same s⟩
def zbN.to(own:Nat):zbN:=⟨λv H=>hZ own H v,λ_ _ _ h s=>h.same s⟩
section
variable {f g k l n:zbN}{B:be}
theorem Gf(h:Paired (λv (P0:zbN)=>P0.f v H) B [f,g,k]):∃a b c,B=[a,b,c]/\f.f a H/\g.f b H/\k.f c H:=by
 rcases h with _|⟨h1,_|⟨h2,_|⟨h3,_|_⟩⟩⟩
 exact⟨_,_,_,rfl,h1,h2,h3⟩
theorem kE(h:Paired (λv (P0:zbN)=>P0.f v H) B [f,g,k,l,n]):∃a b c d e,B=[a,b,c,d,e]/\f.f a H/\g.f b H/\k.f c H/\l.f d H/\n.f e H:=by
 rcases h with _|⟨h1,_|⟨h2,_|⟨h3,_|⟨h4,_|⟨h5,_|_⟩⟩⟩⟩⟩
 exact⟨_,_,_,_,_,rfl,h1,h2,h3,h4,h5⟩
end
theorem tM{hs n:Nat}{a:wl}{w0 u k c:V}(h:H a=some (.tup [w0,u,k,v,c]))(b:ku "ask" w0 H\/(w0=.str "ask"/\(kz hs n u v H\/∃h m0:Nat,u=.int (h:Nat)/\v=.int (m0:Nat)/\h<hs/\m0<=n/\((jS k H\/∃i,k=.int i/\i<1)\/∃i:Int,k=.int i/\1<=i/\fN c H)))):mR hs n H (.ref a):=
 .inr ⟨a,rfl,.inl ⟨_,h,by show 5≠3;decide,by show 5<=1000;decide⟩,.inr ⟨w0,u,k,v,c,h,b⟩⟩
theorem BH{hs n:Nat}{a:wl}{w0 u:V}(h:H a=some (.tup [w0,u,v]))(b:ku "again" w0 H\/(w0=.str "again"/\kz hs n u v H)):mR hs n H (.ref a):=
 .inr ⟨a,rfl,.inr ⟨w0,u,v,h,b⟩,.inl ⟨_,h,by show 3≠5;decide,by show 3<=1000;decide⟩⟩
theorem BI{hs n:Nat}{a:wl}{us:be}(h:H a=some (.tup us))(l3:us.length≠3)(l5:us.length≠5)(l:us.length<=1000):mR hs n H (.ref a):=.inr ⟨a,rfl,.inl ⟨us,h,l3,l⟩,.inl ⟨us,h,l5,l⟩⟩
theorem BJ{i j:Int}(h:Ci i j)(q:Q (.int<|i ^ j.toNat) H):jd K .Pow (.int i) (.int j) H Q:=⟨h,q⟩
def ia(n:Nat):bi:=if 0<n then [.keep (n:Nat)] else []
theorem Qo{t:RE}(h:aj J t N H λv H1=>kT J.K .int [v] H1 Q):aj J (.blt .int [t]) N H Q:=h
theorem Qp{e t:RE}{n:Nat}(he:∀H1 (Q1:VK),Q1 (.int (n:Nat)) H1->aj J e N H1 Q1)(ht:∀H1 (Q1:VK),Q1 (.bl<|decide<|0<n) H1->aj J t N H1 Q1)(q:∀L R Y,au H Y->H L=none->Y L=some (.lst R)->bh Y R (ia n)->Q (.ref L) Y):
  aj J (.bin .Mult (.lst [(.tup [(.c<|.str "keep"),e])])<|.blt .int [t]) N H Q:=by
 refine aV<|bV<|ak<|bN<|ak<|ao<|ak<|he _ _<|aA ⟨bQ,λb fb=>aA ⟨dz,λa fa=>?_⟩⟩;have s1:=sameNew (o:=.tup [V.str "keep",V.int (n:Nat)]) fb;have hb:=aw (H:=H) (a:=b) (o:=.tup [V.str "keep",V.int (n:Nat)]);have s2:=sameNew (o:=.lst [V.ref b]) fa;have ha:=aw (H:=upd H b (.tup [V.str "keep",V.int (n:Nat)])) (a:=a) (o:=.lst [V.ref b]);refine Qo<|ht _ _ ?_;by_cases hn:0<n
 ·rw[zqT hn];refine Fz (K:=J.K) (n:=1) ha (by decide) λc fc=>?_
  have s3:=sameNew (o:=.lst (List.replicate 1<|V.ref b)) fc;exact q c _ _ ((s1.trans s2).trans s3) ((s1.trans s2).free fc) aw (by unfold ia;rw[BT hn];exact .cons ⟨b,rfl,s3 _ _<|s2 _ _ hb⟩ .nil)
 ·rw[zqF hn];refine Fz (K:=J.K) (n:=0) ha (by decide) λc fc=>?_
  have s3:=sameNew (o:=.lst (List.replicate 0<|V.ref b)) fc;exact q c _ _ ((s1.trans s2).trans s3) ((s1.trans s2).free fc) aw (by unfold ia;rw[AT hn];exact .nil)
theorem Gg{n:Nat}(e:N[j]?=some (some<|.int (n:Nat)))(q:∀L R Y,au H Y->H L=none->Y L=some (.lst R)->bh Y R (ia n)->Q (.ref L) Y):aj J (.bin .Mult (.lst [(.tup [(.c<|.str "keep"),.v j])])<|.blt .int [(.cmp .Gt (.v j)<|.c<|.int 0)]) N H Q:=
 Qp (λH1 Q1 q1=>ag e q1) (λH1 Q1 q1=>gg<|ag e<|ao<|vy (by rw[show decide (((n:Nat):Int) >0)=decide (0<n) by simp];exact q1)) q
inductive Gh(X:wl)(B:be)(H:Hp)(Q:VK)(E:XK):Prop|i(s:Sv)(x:Str)(D:bn)(T:List (Nat×bi))(c:Int)(_:B=[.ref s.p,.int (D.length:Nat),.int c])(_:bR X H s x D T)(_:1<=D.length)(_:D.length<=8)(_:T.length<=100)(_:good x)(_:∀v Y,au H Y->mR D.length T.length Y v->Q v Y)
abbrev mT(K:Frag)(X:wl)(E:XK):aS:=aR K [("_law_no_change",tL)] [] [] [("many",X,df X),("text",X,i0 X)] (E:=E)
theorem af7:bP (Gh X) (λE=>mT K X E) dc jN:=by
 intro B H Q E h;obtain⟨s,x,D,T,c,rfl,S,h1,h8,lk,gx,q⟩:=h;refine bq<|cq X (df X) rfl<|ag rfl ⟨s.p,s.dx,_,rfl,S.ob,cg,s,x,D,T,rfl,S,?_⟩;refine bq<|gC<|cq X (i0 X) rfl<|ag rfl ⟨s.p,s.dx,_,rfl,S.ob,cg,s,x,D,T,rfl,S,⟨cK gx.1,?_⟩⟩;refine bq<|Gg rfl λG0 R H1 s1 _ hG pG=>?_;generalize hn:D.length=hs at h1 h8 q⊢;generalize hm:T.length=n at lk q⊢;have dm:∀{N:St}{H1:Hp} (a b:Int),(∀c,j3 c a)->0<b->N[2]?=some (some<|.int c)->∀(Q1:VK),Q1 (.int<|c / a % b) H1->aj (mT K X E) (.bin .Mod (.bin .FloorDiv (.v 2)<|.c<|.int a)<|.c<|.int b) N H1 Q1:=λa b ha hb e Q1 q1=>yB e ha hb _ _ q1;have mU:∀c,j3 c 16:=λ_=>⟨by decide,by decide⟩
 have yC:∀c,j3 c 64:=λ_=>⟨by decide,by decide⟩
 have m3:=fD (c:=c / 64) (b:=3) (by decide)
 have m9:=fD (c:=c / 64) (b:=9) (by decide)
 have m6:=fD (c:=c / 16) (b:=6) (by decide)
 have l6:=i5 (c:=c / 16) (b:=6) (by decide)
 have m5:=fD (c:=c / 16) (b:=5) (by decide)
 have l5:=i5 (c:=c / 16) (b:=5) (by decide)
 refine yA (zbN.pl 0<|(hs:Int) - 1) (λe he=>?_) λL U H2 s2 hL hx lx=>?_
 ·simp only[zad,zae,Fr] at he
  rcases he with rfl|rfl|rfl|rfl|rfl|rfl
  ·exact kD (i:=(hs:Int)+c / 64 % 3) (λH1 Q1 q1=>aV<|ag rfl<|dm 64 3 yC (by decide) rfl _<|cv q1) λH=>.inr ⟨_,rfl,by lia⟩
  ·exact kD (i:= -1 - c / 64 % 3) (λH1 Q1 q1=>aV<|A0<|dm 64 3 yC (by decide) rfl _<|gR q1) λH=>.inr ⟨_,rfl,by lia⟩
  ·exact aK λH=>.inl (.inl ⟨_,rfl⟩)
  ·exact aK λH=>.inl (.inr rfl)
  ·exact aK λH=>.inl (.inr<|jX rfl)
  ·exact kD (i:=10 ^ 9) (λH1 Q1 q1=>aV<|ao<|ao<|BJ ⟨by decide,by decide,by decide⟩ q1) λH=>.inr ⟨_,rfl,by lia⟩
 show aB (mT K X E) (dc.drop 4) (Dn Q) [some<|.ref s.p,some<|.int (hs:Nat),some<|.int c,some<|.int (n:Nat),some<|.int (x.length:Nat),some<|.ref G0,some<|.ref L,none] H2
 replace lx:U.length=6:=lx
 refine yA (zbN.lt hs n) (λe he=>?_) λL1 zs H3 s3 qA hz lz=>?_
 ·have Qq:h_ (zbN.pl 0<|(hs:Int) - 1) H2 (mT K X E) [some<|.ref s.p,some<|.int (hs:Nat),some<|.int c,some<|.int (n:Nat),some<|.int (x.length:Nat),some<|.ref G0,some<|.ref L,none] (.ix (.v 6)<|.bin .Mod (.bin .FloorDiv (.v 2)<|.c<|.int 16)<|.c<|.int 6):=BG rfl hL hx (λH1 Q1 q1=>dm 16 6 mU (by decide) rfl _ q1) m6 (by lia)
  simp only[zad,zae,Fr] at he
  rcases he with rfl|rfl
  ·refine dU (Ps:=[zbN.is<|.str "ask",zbN.pl 0<|(hs:Int) - 1,zbN.any,zbN.any,zbN.any]) (.cons (aK λ_=>rfl)<|.cons Qq<|.cons (aK λ_=>trivial)<|.cons (dS rfl λ_ _=>trivial)<|.cons (dS rfl λ_ _=>trivial) .nil) (zaq rfl) λa B H s ha hv=>?_;obtain⟨_,_,_,_,_,rfl,e1,e2,_⟩:=kE hv;exact tM ha<|.inr ⟨e1,.inl<|.inl e2⟩
  ·refine dU (Ps:=[zbN.is<|.str "again",zbN.pl 0<|(hs:Int) - 1,zbN.any]) (.cons (aK λ_=>rfl)<|.cons Qq<|.cons (aK λ_=>trivial) .nil) (zaq rfl) λa B H s ha hv=>?_;obtain⟨_,_,_,rfl,e1,e2,_⟩:=Gf hv;exact BH ha<|.inr ⟨e1,.inl e2⟩
 replace lz:zs.length=2:=lz
 have zero:∀{v:V}{H:Hp},fR v 0 (n:Nat) H->kz hs n (.int 0) v H:=λh=>.inr ⟨0,rfl,by lia,h⟩
 show aB (mT K X E) (dc.drop 5) (Dn Q) [some<|.ref s.p,some<|.int (hs:Nat),some<|.int c,some<|.int (n:Nat),some<|.int (x.length:Nat),some<|.ref G0,some<|.ref L,some<|.ref L1] H3;refine mS (zbN.lt hs n) rfl qA hz (λe he=>?_) (by rw[lz];decide) λL2 z2 H4 s4 oI n4 oJ=>?_
 ·rw[zag.mp he];refine dU (Ps:=[zbN.is<|.str "ask",zbN.is<|.int 0,zbN.wh,zbN.is<|.int (n:Nat),zbN.any]) (.cons (aK λ_=>rfl)<|.cons (aK λ_=>rfl)<|.cons (oF (i:=c / 16 % 5) (λe he=>?_) (λH1 Q1 q1=>dm 16 5 mU (by decide) rfl _ q1) m5 (by show c / 16 % 5<5;lia))<|.cons (dS rfl λ_ _=>rfl)<|.cons (dS rfl λ_ _=>trivial) .nil) (zaq rfl) λa B H s ha hv=>?_
  ·simp only[zad,zae,Fr] at he
   rcases he with rfl|rfl|rfl|rfl|rfl
   ·exact aK λH=>.inr ⟨_,rfl,by decide⟩
   ·exact vK λH=>.inr ⟨_,rfl,by decide⟩
   ·exact aK λH=>.inl (.inl ⟨_,rfl⟩)
   ·exact aK λH=>.inl (.inr rfl)
   ·exact aK λH=>.inl (.inr<|jX rfl)
  ·obtain⟨_,_,_,_,_,rfl,e1,e2,e3,e4,_⟩:=kE hv;exact tM ha<|.inr ⟨e1,.inr ⟨0,n,e2,e4,by lia,zqR _,.inl e3⟩⟩
 replace oJ:z2.length=3:=by rw[oJ,lz];rfl
 show aB (mT K X E) (dc.drop 6) (Dn Q) [some<|.ref s.p,some<|.int (hs:Nat),some<|.int c,some<|.int (n:Nat),some<|.int (x.length:Nat),some<|.ref G0,some<|.ref L,some<|.ref L2] H4;refine mS (zbN.lt hs n) rfl oI n4 (λe he=>?_) (by rw[oJ];decide) λL3 z3 H5 s5 oH Gi oK=>?_
 ·rw[zag.mp he];refine dU (Ps:=[zbN.is<|.str "ask",zbN.is<|.int 0,zbN.any,zbN.pl 0 (n:Nat),zbN.any]) (.cons (aK λ_=>rfl)<|.cons (aK λ_=>rfl)<|.cons (aK λ_=>trivial)<|.cons (oF (i:=c / 16 % 5) (λe he=>?_) (λH1 Q1 q1=>dm 16 5 mU (by decide) rfl _ q1) m5 (by show c / 16 % 5<5;lia))<|.cons (dS rfl λ_ _=>trivial) .nil) (zaq rfl) λa B H s ha hv=>?_
  ·simp only[zad,zae,Fr] at he
   rcases he with rfl|rfl|rfl|rfl|rfl
   ·exact kD (i:=(n:Int)+1) (λH1 Q1 q1=>aV<|ag rfl<|ao<|cv q1) λH=>.inr ⟨_,rfl,by lia⟩
   ·exact vK λH=>.inr ⟨_,rfl,by lia⟩
   ·exact aK λH=>.inl (.inl ⟨_,rfl⟩)
   ·exact aK λH=>.inl (.inr rfl)
   ·exact aK λH=>.inl (.inr<|jX rfl)
  ·obtain⟨_,_,_,_,_,rfl,e1,e2,e3,e4,_⟩:=kE hv
   replace e2:_=V.int 0:=e2
   subst e2;exact tM ha<|.inr ⟨e1,.inl<|zero e4⟩
 replace oK:z3.length=4:=by rw[oK,oJ];rfl
 show aB (mT K X E) (dc.drop 7) (Dn Q) [some<|.ref s.p,some<|.int (hs:Nat),some<|.int c,some<|.int (n:Nat),some<|.int (x.length:Nat),some<|.ref G0,some<|.ref L,some<|.ref L3] H5;refine mS (zbN.lt hs n) rfl oH Gi (λe he=>?_) (by rw[oK];decide) λL4 z4 H6 s6 Gj Gk oM=>?_
 ·rw[zag.mp he];refine dU (Ps:=[zbN.is<|.str "again",zbN.is<|.int 0,zbN.pl 0 (n:Nat)]) (.cons (aK λ_=>rfl)<|.cons (aK λ_=>rfl)<|.cons (oF (i:=c / 16 % 5) (λe he=>?_) (λH1 Q1 q1=>dm 16 5 mU (by decide) rfl _ q1) m5 (by show c / 16 % 5<5;lia)) .nil) (zaq rfl) λa B H s ha hv=>?_
  ·simp only[zad,zae,Fr] at he
   rcases he with rfl|rfl|rfl|rfl|rfl
   ·exact kD (i:=(n:Int)+1+c / 64 % 9) (λH1 Q1 q1=>aV<|aV<|ag rfl<|ao<|cv<|dm 64 9 yC (by decide) rfl _<|cv q1) λH=>.inr ⟨_,rfl,by lia⟩
   ·exact vK λH=>.inr ⟨_,rfl,by lia⟩
   ·exact aK λH=>.inl (.inl ⟨_,rfl⟩)
   ·exact aK λH=>.inl (.inr rfl)
   ·exact aK λH=>.inl (.inr<|jX rfl)
  ·obtain⟨_,_,_,rfl,e1,e2,e3⟩:=Gf hv
   replace e2:_=V.int 0:=e2
   subst e2;exact BH ha<|.inr ⟨e1,zero e3⟩
 replace oM:z4.length=5:=by rw[oM,oK];rfl
 show aB (mT K X E) (dc.drop 8) (Dn Q) [some<|.ref s.p,some<|.int (hs:Nat),some<|.int c,some<|.int (n:Nat),some<|.int (x.length:Nat),some<|.ref G0,some<|.ref L,some<|.ref L4] H6;refine mS (zbN.lt hs n) rfl Gj Gk (λe he=>?_) (by rw[oM];decide) λL5 z5 H7 s7 oq Gm oN=>?_
 ·simp only[zad,zae,Fr] at he
  rcases he with rfl|rfl|rfl|rfl|rfl
  ·refine dU (Ps:=[zbN.is<|.str "ask",zbN.is<|.int 0,zbN.is<|.int 1,zbN.is<|.int (n:Nat),zbN.nc]) (.cons (aK λ_=>rfl)<|.cons (aK λ_=>rfl)<|.cons (aK λ_=>rfl)<|.cons (dS rfl λ_ _=>rfl)<|.cons (λH1 Q1 s q1=>ba tL rfl<|ak<|aV<|ag rfl<|ao<|sZ (mU _)<|aA ⟨_,rfl,q1⟩) .nil) (zaq rfl) λa B H s ha hv=>?_;obtain⟨_,_,_,_,_,rfl,e1,e2,e3,e4,e5⟩:=kE hv;exact tM ha<|.inr ⟨e1,.inr ⟨0,n,e2,e4,by lia,zqR _,.inr ⟨1,e3,by decide,e5⟩⟩⟩
  ·exact dU (Ps:=[zbN.any,zbN.any,zbN.any,zbN.any]) (.cons (aK λ_=>trivial)<|.cons (aK λ_=>trivial)<|.cons (aK λ_=>trivial)<|.cons (dS rfl λ_ _=>trivial) .nil) (zaq rfl) λa B H s ha hv=>(by have:=Db hv;exact BI ha (by rw[this];decide) (by rw[this];decide) (by rw[this];decide))
  ·exact dU (Ps:=[zbN.any,zbN.any]) (.cons (aK λ_=>trivial)<|.cons (aK λ_=>trivial) .nil) (zaq rfl) λa B H s ha hv=>(by have:=Db hv;exact BI ha (by rw[this];decide) (by rw[this];decide) (by rw[this];decide))
  ·exact dU (Ps:=[zbN.any]) (.cons (aK λ_=>trivial) .nil) (zaq rfl) λa B H s ha hv=>(by have:=Db hv;exact BI ha (by rw[this];decide) (by rw[this];decide) (by rw[this];decide))
  ·exact dU (Ps:=[]) .nil (zaq rfl) λa B H s ha hv=>(by have:=Db hv;exact BI ha (by rw[this];decide) (by rw[this];decide) (by rw[this];decide))
 replace oN:z5.length=10:=by rw[oN,oM];rfl
 show aB (mT K X E) (dc.drop 9) (Dn Q) [some<|.ref s.p,some<|.int (hs:Nat),some<|.int c,some<|.int (n:Nat),some<|.int (x.length:Nat),some<|.ref G0,some<|.ref L,some<|.ref L5] H7;refine mS (zbN.lt hs n) rfl oq Gm (λe he=>?_) (by rw[oN];decide) λL6 z6 H8 s8 Gn Gp tN=>?_
 ·simp only[zad,zae,Fr] at he
  rcases he with rfl|rfl|rfl|rfl|rfl|rfl
  ·refine dU (Ps:=[zbN.is<|.str "asks",zbN.any,zbN.any,zbN.any,zbN.any]) (.cons (aK λ_=>rfl)<|.cons (aK λ_=>trivial)<|.cons (aK λ_=>trivial)<|.cons (dS rfl λ_ _=>trivial)<|.cons (dS rfl λ_ _=>trivial) .nil) (zaq rfl) λa B H s ha hv=>?_;obtain⟨_,_,_,_,_,rfl,e1,_⟩:=kE hv;exact tM ha<|.inl<|.inr ⟨_,e1,by decide+kernel⟩
  ·refine dU (Ps:=[zbN.is<|.int 1,zbN.any,zbN.any]) (.cons (aK λ_=>rfl)<|.cons (aK λ_=>trivial)<|.cons (aK λ_=>trivial) .nil) (zaq rfl) λa B H s ha hv=>?_;obtain⟨_,_,_,rfl,e1,_⟩:=Gf hv
   replace e1:_=V.int 1:=e1
   subst e1;exact BH ha<|.inl<|.inl rfl
  ·exact aK λH=>.inl rfl
  ·exact aK λH=>.inl (jX rfl)
  ·exact BF (Ps:=[zbN.any,zbN.any,zbN.any]) (.cons (aK λ_=>trivial)<|.cons (aK λ_=>trivial)<|.cons (aK λ_=>trivial) .nil) (zaq rfl) λa B H s ha hv=>.inl (r6 ha rfl)
  ·refine dU (Ps:=[zbN.is<|.str "took",zbN.any,zbN.any,zbN.any,zbN.any]) (.cons (aK λ_=>rfl)<|.cons (aK λ_=>trivial)<|.cons (aK λ_=>trivial)<|.cons (aK λ_=>trivial)<|.cons (dS rfl λ_ _=>trivial) .nil) (zaq rfl) λa B H s ha hv=>?_;obtain⟨_,_,_,_,_,rfl,e1,_⟩:=kE hv;exact tM ha<|.inl<|.inr ⟨_,e1,by decide+kernel⟩
 replace tN:z6.length=16:=by rw[tN,oN];rfl
 show aB (mT K X E) (dc.drop 10) (Dn Q) [some<|.ref s.p,some<|.int (hs:Nat),some<|.int c,some<|.int (n:Nat),some<|.int (x.length:Nat),some<|.ref G0,some<|.ref L,some<|.ref L6] H8;refine bL<|BG (P:=zbN.lt hs n) rfl Gn Gp (λH1 Q1 q1=>oG rfl (by decide) _ _ q1) (fD (c:=c) (b:=16) (by decide)) (by rw[tN];exact i5 (c:=c) (b:=16) (by decide)) H8 _ (au.refl _) λv H9 s9 hv=>q _ _ ?_ hv
 exact((((((s1.trans s2).trans s3).trans s4).trans s5).trans s6).trans s7).trans<|s8.trans s9
theorem yD{Ps:List zbN}(h:Paired (λv (P0:zbN)=>P0.f v H) B Ps):B.length=Ps.length:=Db h
theorem yE{own:Nat}{a:wl}{us:be}{n:Nat}(h:H a=some (.tup us))(e:us.length=n)(l5:n≠5:=by decide)(l:n<=1000:=by decide):hZ own H (.ref a):=.ln h (by rw[e];exact l5) (by rw[e];exact l)
inductive Gq(C m:wl)(B:be)(H:Hp)(Q:VK)(E:XK):Prop|i(M:MS)(h:zbO)(x:Str)(P r:Nat)(G:Option bi)(c:Int)(_:B=[.ref h.p,.int (h.own:Nat),.int c])(_:cD M C m H h x P r G)(_:h.own<=7)(_:good x)(_:∀v Y,au H Y->hZ h.own Y v->Q v Y)
abbrev oO(K:Frag)(C m:wl)(E:XK):aS:=aR K [("_law_no_change",tL)] [] [] [("text",C,jq C m)] (E:=E)
theorem af8:bP (Gq C m) (λE=>oO K C m E) dv ka:=by
 intro B H Q E h;obtain⟨M,h,x,P,r,G,c,rfl,S,ho,gx,q⟩:=h;refine bq<|gC<|cq C (jq C m) rfl<|ag rfl ⟨h.p,h.dp,_,rfl,S.ob,cW,M,h,x,P,r,G,rfl,S,⟨cK gx.1,?_⟩⟩;refine bq<|Gg rfl λG0 R H1 s1 _ hG pG=>?_;generalize ep:h.p=p at S q⊢;generalize h.own=o at ho q⊢;have dm:∀{N:St}{H1:Hp} (a b:Int),(∀c,j3 c a)->0<b->N[2]?=some (some<|.int c)->∀(Q1:VK),Q1 (.int<|c / a % b) H1->aj (oO K C m E) (.bin .Mod (.bin .FloorDiv (.v 2)<|.c<|.int a)<|.c<|.int b) N H1 Q1:=λa b ha hb e Q1 q1=>yB e ha hb _ _ q1;have mU:∀c,j3 c 16:=λ_=>⟨by decide,by decide⟩
 have yC:∀c,j3 c 64:=λ_=>⟨by decide,by decide⟩
 have m9:=fD (c:=c / 64) (b:=9) (by decide)
 have m6:=fD (c:=c / 16) (b:=6) (by decide)
 have l6:=i5 (c:=c / 16) (b:=6) (by decide)
 have m5:=fD (c:=c / 16) (b:=5) (by decide)
 have l5:=i5 (c:=c / 16) (b:=5) (by decide)
 refine yA (zbN.pl (o:Nat) (o:Nat)) (λe he=>?_) λL U H2 s2 hL hx lx=>?_
 ·simp only[zad,zae,Fr] at he
  rcases he with rfl|rfl|rfl|rfl|rfl|rfl
  ·exact kD (i:=(o:Int)+1) (λH1 Q1 q1=>aV<|ag rfl<|ao<|cv q1) λH=>.inr ⟨_,rfl,by lia⟩
  ·exact kD (i:=(o:Int) - 1) (λH1 Q1 q1=>aV<|ag rfl<|ao<|gR q1) λH=>.inr ⟨_,rfl,by lia⟩
  ·exact aK λH=>.inl (.inl ⟨_,rfl⟩)
  ·exact aK λH=>.inl (.inr rfl)
  ·exact aK λH=>.inl (.inr<|jX rfl)
  ·exact kD (i:=10 ^ 9) (λH1 Q1 q1=>aV<|ao<|ao<|BJ ⟨by decide,by decide,by decide⟩ q1) λH=>.inr ⟨_,rfl,by lia⟩
 show aB (oO K C m E) (dv.drop 3) (Dn Q) [some<|.ref p,some<|.int (o:Nat),some<|.int c,some<|.int (x.length:Nat),some<|.ref G0,some<|.ref L,none] H2
 replace lx:U.length=6:=lx
 refine yA (zbN.to o) (λe he=>?_) λL1 zs H3 s3 qA hz lz=>?_
 ·rw[zag.mp he];refine dU (Ps:=[zbN.is<|.str "took",zbN.pl (o:Nat) (o:Nat),zbN.any,zbN.any,zbN.any]) (.cons (aK λ_=>rfl)<|.cons (BG rfl hL hx (λH1 Q1 q1=>dm 16 6 mU (by decide) rfl _ q1) m6 (by lia))<|.cons (aK λ_=>trivial)<|.cons (aK λ_=>trivial)<|.cons (dS rfl λ_ _=>trivial) .nil) (zaq rfl) λa B H s ha hv=>?_
  obtain⟨_,_,_,_,_,rfl,e1,e2,_⟩:=kE hv
  replace e1:_=V.str "took":=e1
  subst e1;exact .ow ha e2
 replace lz:zs.length=1:=lz
 show aB (oO K C m E) (dv.drop 4) (Dn Q) [some<|.ref p,some<|.int (o:Nat),some<|.int c,some<|.int (x.length:Nat),some<|.ref G0,some<|.ref L,some<|.ref L1] H3;refine mS (zbN.to o) rfl qA hz (λe he=>?_) (by rw[lz];decide) λL2 z2 H4 s4 oI n4 oJ=>?_
 ·rw[zag.mp he];refine dU (Ps:=[zbN.is<|.str "took",zbN.is<|.int (o:Nat),zbN.wh,zbN.any,zbN.any]) (.cons (aK λ_=>rfl)<|.cons (dS rfl λ_ _=>rfl)<|.cons (oF (i:=c / 16 % 5) (λe he=>?_) (λH1 Q1 q1=>dm 16 5 mU (by decide) rfl _ q1) m5 (by show c / 16 % 5<5;lia))<|.cons (aK λ_=>trivial)<|.cons (dS rfl λ_ _=>trivial) .nil) (zaq rfl) λa B H s ha hv=>?_
  ·simp only[zad,zae,Fr] at he
   rcases he with rfl|rfl|rfl|rfl|rfl
   ·exact aK λH=>.inr ⟨_,rfl,by decide⟩
   ·exact kD (i:= -1 - c / 64 % 9) (λH1 Q1 q1=>aV<|A0<|dm 64 9 yC (by decide) rfl _<|gR q1) λH=>.inr ⟨_,rfl,by lia⟩
   ·exact aK λH=>.inl (.inl ⟨_,rfl⟩)
   ·exact aK λH=>.inl (.inr rfl)
   ·exact aK λH=>.inl (.inr<|jX rfl)
  ·obtain⟨_,_,_,_,_,rfl,e1,e2,e3,_⟩:=kE hv
   replace e1:_=V.str "took":=e1
   replace e2:_=V.int (o:Nat):=e2
   subst e1 e2;exact .nm ha e3
 replace oJ:z2.length=2:=by rw[oJ,lz];rfl
 show aB (oO K C m E) (dv.drop 5) (Dn Q) [some<|.ref p,some<|.int (o:Nat),some<|.int c,some<|.int (x.length:Nat),some<|.ref G0,some<|.ref L,some<|.ref L2] H4;refine mS (zbN.to o) rfl oI n4 (λe he=>?_) (by rw[oJ];decide) λL3 z3 H5 s5 oH Gi oK=>?_
 ·rw[zag.mp he];refine dU (Ps:=[zbN.is<|.str "took",zbN.is<|.int (o:Nat),zbN.is<|.int 1,zbN.pl 0 7,zbN.any]) (.cons (aK λ_=>rfl)<|.cons (dS rfl λ_ _=>rfl)<|.cons (aK λ_=>rfl)<|.cons (oF (i:=c / 16 % 5) (λe he=>?_) (λH1 Q1 q1=>dm 16 5 mU (by decide) rfl _ q1) m5 (by show c / 16 % 5<5;lia))<|.cons (dS rfl λ_ _=>trivial) .nil) (zaq rfl) λa B H s ha hv=>?_
  ·simp only[zad,zae,Fr] at he
   rcases he with rfl|rfl|rfl|rfl|rfl
   ·exact vK λH=>.inr ⟨_,rfl,by decide⟩
   ·exact aK λH=>.inr ⟨_,rfl,by decide⟩
   ·exact aK λH=>.inl (.inl ⟨_,rfl⟩)
   ·exact aK λH=>.inl (.inr rfl)
   ·exact aK λH=>.inl (.inr<|jX rfl)
  ·obtain⟨_,_,_,_,_,rfl,e1,e2,e3,e4,_⟩:=kE hv
   replace e1:_=V.str "took":=e1
   replace e2:_=V.int (o:Nat):=e2
   replace e3:_=V.int 1:=e3
   subst e1 e2 e3;exact .wh ha (by decide) e4
 replace oK:z3.length=3:=by rw[oK,oJ];rfl
 show aB (oO K C m E) (dv.drop 6) (Dn Q) [some<|.ref p,some<|.int (o:Nat),some<|.int c,some<|.int (x.length:Nat),some<|.ref G0,some<|.ref L,some<|.ref L3] H5;refine mS (zbN.to o) rfl oH Gi (λe he=>?_) (by rw[oK];decide) λL4 z4 H6 s6 Gj Gk oM=>?_
 ·simp only[zad,zae,Fr] at he
  rcases he with rfl|rfl|rfl|rfl
  ·refine dU (Ps:=[zbN.is<|.str "took",zbN.is<|.int (o:Nat),zbN.is<|.int 1,zbN.is<|.int 0,zbN.nc]) (.cons (aK λ_=>rfl)<|.cons (dS rfl λ_ _=>rfl)<|.cons (aK λ_=>rfl)<|.cons (aK λ_=>rfl)<|.cons (λH1 Q1 s q1=>ba tL rfl<|ak<|aV<|ag rfl<|ao<|sZ (mU _)<|aA ⟨_,rfl,q1⟩) .nil) (zaq rfl) λa B H s ha hv=>?_;obtain⟨_,_,_,_,_,rfl,e1,e2,e3,e4,e5⟩:=kE hv
   replace e1:_=V.str "took":=e1
   replace e2:_=V.int (o:Nat):=e2
   replace e3:_=V.int 1:=e3
   replace e4:_=V.int 0:=e4
   subst e1 e2 e3 e4;exact .ch ha (by decide) (by decide) e5
  ·exact dU (Ps:=[zbN.any,zbN.any,zbN.any,zbN.any]) (.cons (aK λ_=>trivial)<|.cons (dS rfl λ_ _=>trivial)<|.cons (aK λ_=>trivial)<|.cons (aK λ_=>trivial) .nil) (by decide) λa B H s ha hv=>yE ha (yD hv)
  ·exact dU (Ps:=[zbN.any]) (.cons (aK λ_=>trivial) .nil) (by decide) λa B H s ha hv=>yE ha (yD hv)
  ·exact dU (Ps:=[]) .nil (by decide) λa B H s ha hv=>yE ha (yD hv)
 replace oM:z4.length=7:=by rw[oM,oK];rfl
 show aB (oO K C m E) (dv.drop 7) (Dn Q) [some<|.ref p,some<|.int (o:Nat),some<|.int c,some<|.int (x.length:Nat),some<|.ref G0,some<|.ref L,some<|.ref L4] H6;have wd:∀{a:wl}{w0:Str}{b d e f:V}{H:Hp},H a=some (.tup [.str w0,b,d,e,f])->w0≠"took"->hZ o H (.ref a):=λh n=>.wd h rfl (.inr ⟨_,rfl,n⟩);refine mS (zbN.to o) rfl Gj Gk (λe he=>?_) (by rw[oM];decide) λL5 z5 H7 s7 oq Gm oN=>?_
 ·simp only[zad,zae,Fr] at he
  rcases he with rfl|rfl|rfl|rfl|rfl|rfl
  ·exact dU (Ps:=[zbN.any,zbN.any,zbN.any]) (.cons (aK λ_=>trivial)<|.cons (dS rfl λ_ _=>trivial)<|.cons (aK λ_=>trivial) .nil) (by decide) λa B H s ha hv=>yE ha (yD hv)
  ·refine dU (Ps:=[zbN.is<|.str "ask",zbN.any,zbN.any,zbN.any,zbN.any]) (.cons (aK λ_=>rfl)<|.cons (dS rfl λ_ _=>trivial)<|.cons (aK λ_=>trivial)<|.cons (aK λ_=>trivial)<|.cons (dS rfl λ_ _=>trivial) .nil) (by decide) λa B H s ha hv=>?_
   obtain⟨_,_,_,_,_,rfl,e1,_⟩:=kE hv
   replace e1:_=V.str "ask":=e1
   subst e1;exact wd ha (by decide+kernel)
  ·refine dU (Ps:=[zbN.is<|.str "take",zbN.any,zbN.any,zbN.any,zbN.any]) (.cons (aK λ_=>rfl)<|.cons (dS rfl λ_ _=>trivial)<|.cons (aK λ_=>trivial)<|.cons (aK λ_=>trivial)<|.cons (dS rfl λ_ _=>trivial) .nil) (by decide) λa B H s ha hv=>?_
   obtain⟨_,_,_,_,_,rfl,e1,_⟩:=kE hv
   replace e1:_=V.str "take":=e1
   subst e1;exact wd ha (by decide+kernel)
  ·exact aK λH=>.ty rfl
  ·exact aK λH=>.ty (jX rfl)
  ·exact aK λH=>.ty rfl
 replace oN:z5.length=13:=by rw[oN,oM];rfl
 show aB (oO K C m E) (dv.drop 8) (Dn Q) [some<|.ref p,some<|.int (o:Nat),some<|.int c,some<|.int (x.length:Nat),some<|.ref G0,some<|.ref L,some<|.ref L5] H7;refine mS (zbN.to o) rfl oq Gm (λe he=>?_) (by rw[oN];decide) λL6 z6 H8 s8 Gn Gp tN=>?_
 ·simp only[zad,zae,Fr] at he
  rcases he with rfl|rfl|rfl
  ·exact BF (Ps:=[zbN.any,zbN.any,zbN.any,zbN.any,zbN.any]) (.cons (aK λ_=>trivial)<|.cons (dS rfl λ_ _=>trivial)<|.cons (aK λ_=>trivial)<|.cons (aK λ_=>trivial)<|.cons (dS rfl λ_ _=>trivial) .nil) (by decide) λa B H s ha hv=>.ty (r6 ha rfl)
  ·exact oE (aey λa H ha=>.ty (adi ha rfl))
  ·exact dU (Ps:=[zbN.any,zbN.any,zbN.any,zbN.any,zbN.any,zbN.any]) (.cons (aK λ_=>trivial)<|.cons (dS rfl λ_ _=>trivial)<|.cons (aK λ_=>trivial)<|.cons (aK λ_=>trivial)<|.cons (dS rfl λ_ _=>trivial)<|.cons (dS rfl λ_ _=>trivial) .nil) (by decide) λa B H s ha hv=>yE ha (yD hv)
 replace tN:z6.length=16:=by rw[tN,oN];rfl
 show aB (oO K C m E) (dv.drop 9) (Dn Q) [some<|.ref p,some<|.int (o:Nat),some<|.int c,some<|.int (x.length:Nat),some<|.ref G0,some<|.ref L,some<|.ref L6] H8;refine bL<|BG (P:=zbN.to o) rfl Gn Gp (λH1 Q1 q1=>oG rfl (by decide) _ _ q1) (fD (c:=c) (b:=16) (by decide)) (by rw[tN];exact i5 (c:=c) (b:=16) (by decide)) H8 _ (au.refl _) λv H9 s9 hv=>q _ _ ?_ hv
 exact((((((s1.trans s2).trans s3).trans s4).trans s5).trans s6).trans s7).trans<|s8.trans s9
structure iG (x:Str):Prop where
 g:good x
 l:x.length<=1000
 n:35∉x.cps.toList
theorem Qr{k:xz}(q:Q (.int (if k then 1 else 0)) H):kT K .int [.bl k] H Q:=q
theorem Qs(c:Nat):∀n:Nat,(List.replicate n [c]).flatten=List.replicate n c
 | 0=>rfl
 |n+1=>by rw[zaF,zaT,Qs c n,zaF];rfl
theorem Qt(n:Nat):(jK "~"<|(n:Int)+1).cps.toList=List.replicate (n+1) 126:=by
 show(List.replicate ((n:Int)+1).toNat [126]).flatten=_;rw[Qs,show((n:Int)+1).toNat=n+1 by lia]
theorem Gr{l:bn}{k:Int}(h:k≠l.length):¬ ∃r0,Run l [.keep k] r0:=by
 rintro⟨r0,hr⟩;cases hr with
 |keep e hr=>cases hr;rw[zac] at h;exact h e
theorem af9{l:bn}{s:Str}(h:s.cps.toList.length≠l.length):¬ ∃r0,Run l [.cut s] r0:=by
 rintro⟨r0,hr⟩;cases hr with
 |cut hr=>cases hr;rw[zac] at h;exact h rfl
theorem Qu{l:bn}(h:35∉l):¬ ∃r0,Run l (.cut "#"::Z) r0:=by
 rintro⟨r0,hr⟩;cases hr with
 |cut hr=>exact h (.head _)
theorem Gs:good "#"/\("#":Str)≠"":=⟨kq (by decide+kernel) (by decide+kernel),by decide+kernel⟩
theorem af_{n:Nat}(h:n<=1000):good (jK "~"<|(n:Int)+1)/\jK "~" ((n:Int)+1)≠"":=by
 have e:=Qt n;have el:=len_list (jK "~"<|(n:Int)+1);rw[e,zba] at el;refine⟨⟨by lia,λc hc=>?_⟩,λz=>?_⟩
 ·rw[e] at hc;rw[List.eq_of_mem_replicate hc];decide+kernel
 ·rw[z] at el;exact absurd el (by show(0:Nat)≠_;lia)
theorem vL{b t:wl}{p:Pt}(hb:H b=some (.lst [.ref t]))(ht:H t=some (.tup [.str p.word,p.val]))(o:bx p):eK (.ref b) H [p]:=
 ⟨b,_,rfl,hb,.cons ⟨t,rfl,ht⟩ .nil,λz hz=>by rw[zag.mp hz];exact o,by cases p<;>rfl⟩
theorem BK{b t u:wl}{p r0:Pt}(hb:H b=some (.lst [.ref t,.ref u]))(ht:H t=some (.tup [.str p.word,p.val]))(hu:H u=some (.tup [.str r0.word,r0.val]))(o:bx p)(o':bx r0)(c:chainOk "" [p,r0]=true):eK (.ref b) H [p,r0]:=
 ⟨b,_,rfl,hb,.cons ⟨t,rfl,ht⟩<|.cons ⟨u,rfl,hu⟩ .nil,λz hz=>by rcases zad.mp hz with rfl|hz;exact o;rw[zag.mp hz];exact o',c⟩
inductive BL(X:wl)(B:be)(H:Hp)(Q:VK)(E:XK):Prop|i(s:Sv)(x:Str)(D:bn)(T:List (Nat×bi))(ct:wl)(c:Int)(sr:Nat)(_:B=[.ref s.p,.ref ct])(_:bR X H s x D T)(_:H ct=some (.tup [.int c,.int (sr:Nat)]))(_:iG x)(_:∀lt b cs Y,au H Y->H b=none->Y lt=some (.tup<|tH 0 (sr+1) T.length b)->eK (.ref b) Y cs->cs.length<=2->(¬ ∃r0,Run x.cps.toList cs r0)->Q (.ref lt) Y)
abbrev yF(K:Frag)(X:wl)(E:XK):aS:=aR K [] [] [] [("text",X,i0 X),("many",X,df X)] (E:=E)
theorem aga:bP (BL X) (λE=>yF K X E) wZ Na:=by
 intro B H Q E h;obtain⟨s,x,D,T,ct,c,sr,rfl,S,hc,hx,q⟩:=h;have lx:=hx.l;have ll:=len_list x;refine bq<|cq X (i0 X) rfl<|ag rfl ⟨s.p,s.dx,_,rfl,S.ob,cg,s,x,D,T,rfl,S,?_⟩;refine bq<|aV<|a_<|ag rfl<|ao<|bO hc rfl<|ao<|cv ?_;refine bq<|gC<|ag rfl ⟨cK hx.g.1,?_⟩;refine bq<|bV<|ak<|bN<|ak<|ao<|ak<|aV<|aV<|ag rfl<|ao<|cv<|aV<|a_<|ag rfl<|ao<|bO hc rfl<|ao<|lP (by decide)<|cv<|aA ⟨bQ,λt ft=>aA ⟨dz,λb fb=>?_⟩⟩
 have I:=fD (c:=c) (b:=5) (by decide)
 have s1:=sameNew (o:=.tup [V.str "keep",V.int<|(x.length:Int)+1+c % 5]) ft;have ht:=aw (H:=H) (a:=t) (o:=.tup [V.str "keep",V.int<|(x.length:Int)+1+c % 5]);generalize upd H t (.tup [V.str "keep",V.int<|(x.length:Int)+1+c % 5])=H1 at s1 ht fb⊢;have s2:=sameNew (o:=.lst [V.ref t]) fb;have hb:=aw (H:=H1) (a:=b) (o:=.lst [V.ref t]);generalize upd H1 b (.lst [V.ref t])=H2 at s2 hb⊢;have dF:=s1.trans s2;have V':∀(b:wl) (cs:bi) (H3:Hp),au H H3->H b=none->eK (.ref b) H3 cs->cs.length<=2->(¬ ∃r0,Run x.cps.toList cs r0)->aB (yF K X E) (wZ.drop 6) (Dn Q) [some<|.ref s.p,some<|.ref ct,some<|.str x,some<|.int<|(sr:Int)+1,some<|.int (x.length:Nat),some<|.ref b] H3:=by
  intro b cs H3 s3 fb ic lc nr;have S3:=S.same s3;refine bL<|bN<|ak<|ao<|ak<|ao<|ak<|ag rfl<|ak<|cq X (df X) rfl<|ag rfl ⟨s.p,s.dx,_,rfl,S3.ob,cg,s,x,D,T,rfl,S3,ak<|ag rfl<|aA ⟨j0,λl G=>?_⟩⟩;have s4:=sameNew (o:=.tup [V.str "ask",V.int 0,V.int<|(sr:Int)+1,V.int (T.length:Nat),V.ref b]) G;exact q l b cs _ (s3.trans s4) fb aw (ic.same s4) lc nr
 have d5:∀c,j3 c 5:=λ_=>⟨by decide,by decide⟩
 have test:∀(k:Int) (H3:Hp) (b:wl) (QT:ge),QT (decide<|c / 5 % 3=k) H3->au H H3->bC (yF K X E) (.cmp .Eq (.bin .Mod (.bin .FloorDiv (.ix (.v 1)<|.c<|.int 0)<|.c<|.int 5)<|.c<|.int 3)<|.c<|.int k) [some<|.ref s.p,some<|.ref ct,some<|.str x,some<|.int<|(sr:Int)+1,some<|.int (x.length:Nat),some<|.ref b] H3 QT:=
  λk H3 b QT qt s3=>aY (aV<|aV<|a_<|ag rfl<|ao<|bO (s3 _ _ hc) rfl<|ao<|sZ (d5 c)<|ao<|lP (by decide)<|ao<|gB ⟨_,rfl,qt⟩)
 show aB (yF K X E) (wZ.drop 4) (Dn Q) [some<|.ref s.p,some<|.ref ct,some<|.str x,some<|.int<|(sr:Int)+1,some<|.int (x.length:Nat),some<|.ref b] H2;by_cases h1:c / 5 % 3=1
 ·refine YL (test 1 H2 b _ (iT ?_<|zqT h1) dF);refine bq<|bV<|ak<|bN<|ak<|ao<|ak<|af0<|ao<|aV<|ag rfl<|ao<|cv ⟨_,_,rfl,rfl,by lia,by lia,by decide+kernel,aA ⟨bQ,λt2 yG=>aA ⟨dz,λb2 mV=>?_⟩⟩⟩
  have s3:=sameNew (o:=.tup [V.str "cut",V.str<|jK "~"<|(x.length:Int)+1]) yG;have jV:=aw (H:=H2) (a:=t2) (o:=.tup [V.str "cut",V.str<|jK "~"<|(x.length:Int)+1]);generalize upd H2 t2 (.tup [V.str "cut",V.str<|jK "~"<|(x.length:Int)+1])=H3 at s3 jV mV⊢;have s4:=sameNew (o:=.lst [V.ref t2]) mV;have jj:=aw (H:=H3) (a:=b2) (o:=.lst [V.ref t2]);generalize upd H3 b2 (.lst [V.ref t2])=H4 at s4 jj⊢;have gF:=(dF.trans s3).trans s4;refine YL<|mH<|test 2 H4 b2 _ (iF (bU ?_)<|zqF (by lia)) gF
  refine V' b2 [.cut<|jK "~"<|(x.length:Int)+1] H4 gF ((dF.trans s3).free mV) (vL jj (s4 _ _ jV)<|af_ lx) (by show 1<=2;decide)<|af9 ?_
  rw[Qt,zba];lia
 refine YL<|test 1 H2 b _ (iF (bU ?_)<|zqF h1) dF;by_cases h2:c / 5 % 3=2/\0<x.length
 ·refine YL (mH<|test 2 H2 b _ (iT ?_<|zqT h2.1) dF);refine aY<|ag rfl<|ao<|vy ⟨_,rfl,iT ?_<|zqT (by lia)⟩
  refine bq<|Pb<|bV<|ak<|bN<|ak<|ao<|ak<|ao<|aA ⟨bQ,λt2 yG=>?_⟩;have s3:=sameNew (o:=.tup [V.str "cut",V.str "#"]) yG;have jV:=aw (H:=H2) (a:=t2) (o:=.tup [V.str "cut",V.str "#"]);generalize upd H2 t2 (.tup [V.str "cut",V.str "#"])=H3 at s3 jV⊢;refine ak<|bN<|ak<|ao<|ak<|aV<|ag rfl<|ao<|gR<|aA ⟨bQ,λt3 ft3=>aA ⟨bQ,λb2 mV=>?_⟩⟩;have s4:=sameNew (o:=.tup [V.str "keep",V.int<|(x.length:Int) - 1]) ft3;have Qw:=aw (H:=H3) (a:=t3) (o:=.tup [V.str "keep",V.int<|(x.length:Int) - 1]);generalize upd H3 t3 (.tup [V.str "keep",V.int<|(x.length:Int) - 1])=H4 at s4 Qw mV⊢;have s5:=sameNew (o:=.lst [V.ref t2,V.ref t3]) mV;have jj:=aw (H:=H4) (a:=b2) (o:=.lst [V.ref t2,V.ref t3]);generalize upd H4 b2 (.lst [V.ref t2,V.ref t3])=H5 at s5 jj⊢;have ko:=((dF.trans s3).trans s4).trans s5;refine aV<|ao<|Qo<|gg<|ag rfl<|ao<|vy ?_;by_cases hn:1<x.length
  ·rw[zqT (by lia)]
   refine Qr<|cv (i:=1) (j:=1) ?_;refine⟨_,rfl,.inl ⟨_,aE.of jj,λb3 yH=>?_⟩⟩;have s6:=sameNew (o:=.lst [V.ref t2,V.ref t3]) yH;refine V' b3 [.cut "#",.keep<|(x.length:Int) - 1] _ (ko.trans s6) (ko.free yH) (BK (t:=t2) (u:=t3) aw (s6 _ _<|s5 _ _<|s4 _ _ jV) (s6 _ _<|s5 _ _ Qw) Gs (by show(1:Int)<=_;lia) rfl) (by show 2<=2;decide)<|Qu hx.n
  ·rw[zqF (by lia)]
   refine Qr<|cv (i:=1) (j:=0) ?_;refine⟨_,rfl,.inl ⟨_,aE.of jj,λb3 yH=>?_⟩⟩;have s6:=sameNew (o:=.lst [V.ref t2]) yH;refine V' b3 [.cut "#"] _ (ko.trans s6) (ko.free yH) (vL (t:=t2) aw (s6 _ _<|s5 _ _<|s4 _ _ jV) Gs) (by show 1<=2;decide)<|Qu hx.n
 have go:aB (yF K X E) (wZ.drop 6) (Dn Q) [some<|.ref s.p,some<|.ref ct,some<|.str x,some<|.int<|(sr:Int)+1,some<|.int (x.length:Nat),some<|.ref b] H2:=V' b [.keep<|(x.length:Int)+1+c % 5] H2 dF (s1.free fb) (vL hb (s2 _ _ ht) (by show(1:Int)<=_;lia)) (by show 1<=2;decide) (Gr (by lia))
 by_cases h3:c / 5 % 3=2
 ·refine YL (mH<|test 2 H2 b _ (iT ?_<|zqT h3) dF);exact aY<|ag rfl<|ao<|vy ⟨_,rfl,iF (bU go)<|zqF (by lia)⟩
 ·exact YL (mH<|test 2 H2 b _ (iF (bU go)<|zqF h3) dF)
theorem eqD{d:zv}{a b:wl}(h1:Is H d (.ref a))(h2:Is H d (.ref b))(ok:SeqAt.shaped d=true)(q:Q (.bl true) H):dB K .Eq (.ref a) (.ref b) H Q:=
 ⟨d,d,h1,h2,ok,ok,by rw[SeqAt.eqv_refl _<|SeqAt.canLay_of_shaped ok];exact q⟩
theorem qB{d:zv}{a b:wl}(h1:Is H d (.ref a))(h2:Is H d (.ref b))(ok:SeqAt.shaped d=true)(q:Q (.bl false) H):dB K .NotEq (.ref a) (.ref b) H Q:=
 ⟨d,d,h1,h2,ok,ok,by rw[SeqAt.eqv_refl _<|SeqAt.canLay_of_shaped ok];exact q⟩
abbrev zc:bi:=[.put "z",.keep 5]
def tO:Option bi->Str
 |none=> "None"
 |some Z=>(PyData.list<|Z.map toD).shown
def ib(o:Nat)(G:Option bi):zv:=.list (.tuple [.str "again",.int (o:Nat),.int ((0:Nat):Int)]::match G with|none=>[]|some Z=>[.tuple [.str "ask",.int (o:Nat),.int ((1:Nat):Int),.int ((0:Nat):Int),.list<|Z.map toD]])
def vM(G:Option bi)(r:Nat):Prop:=G=none\/(G=some zc/\r=1)
theorem Qx{o:Nat}(ho:o<=7)(f:vM G r):(ib o G).showable=true/\(ib o G).depth<=30/\(ib o G).shown.length<=1000/\PyData.strOk (ib o G).shown=true:=by
 have a:∀o:Fin 8,(ib o.1 none).showable=true/\(ib o.1 none).depth<=30/\(ib o.1 none).shown.length<=1000/\PyData.strOk (ib o.1 none).shown=true:=by decide+kernel
 have b:∀o:Fin 8,(ib o.1<|some zc).showable=true/\(ib o.1<|some zc).depth<=30/\(ib o.1<|some zc).shown.length<=1000/\PyData.strOk (ib o.1<|some zc).shown=true:=by decide+kernel
 rcases f with rfl|⟨rfl,_⟩
 ·exact a ⟨o,by lia⟩
 ·exact b ⟨o,by lia⟩
theorem Gu:(PyData.list<|zc.map toD).showable=true/\(PyData.list<|zc.map toD).depth<=30/\(PyData.list<|zc.map toD).shown.length<=1000:=by decide+kernel
theorem agd(f:vM G r):PyData.strOk (tO G)=true:=by
 rcases f with rfl|⟨rfl,_⟩
 ·decide+kernel
 ·decide+kernel
theorem age{own:Nat}(n:Py H own 0 r G L)(f:vM G r):Is H (ib own G) (.ref L):=by
 obtain⟨t0,us,h0,hL,hu⟩:=n;refine⟨L,_,rfl,hL,.ref t0,us,rfl,⟨t0,_,rfl,h0,_,_,rfl,rfl,_,_,rfl,rfl,_,_,rfl,rfl,rfl⟩,?_⟩;rcases f with rfl|⟨rfl,rfl⟩
 ·exact hu
 ·obtain⟨t,rfl,l,U,ht,hl,pv⟩:=hu;exact⟨.ref t,[],rfl,⟨t,_,rfl,ht,_,_,rfl,rfl,_,_,rfl,rfl,_,_,rfl,rfl,_,_,rfl,rfl,_,_,rfl,⟨l,U,rfl,hl,xa pv⟩,rfl⟩,rfl⟩
def Qy(x:Str)(n:Nat)(y:Str)(G:Option bi)(o:Nat):be:=[.str x,.int (n:Nat),.str y,.int ((0:Nat):Int),.str<|tO G,.str (ib o G).shown]
def BM(x:Str)(n:Nat)(y:Str)(G:Option bi)(o:Nat):zv:=.tuple [.str x,.int (n:Nat),.str y,.int ((0:Nat):Int),.str<|tO G,.str (ib o G).shown]
theorem Qz{x:Str}{n o:Nat}{t:wl}(h:H t=some (.tup<|Qy x n y G o)):Is H (BM x n y G o) (.ref t):=⟨t,_,rfl,h,_,_,rfl,rfl,_,_,rfl,rfl,_,_,rfl,rfl,_,_,rfl,rfl,_,_,rfl,rfl,_,_,rfl,rfl,rfl⟩
theorem agf{x:Str}{n o:Nat}(gx:good x)(gy:good y)(ho:o<=7)(f:vM G r):SeqAt.shaped (BM x n y G o)=true:=by
 unfold SeqAt.shaped;have e:(BM x n y G o).canLay0=true:=by
  show(PyData.strOk x && (true && (PyData.strOk y && (true && (PyData.strOk (tO G) && (PyData.strOk (ib o G).shown && true))))))=true;rw[N9 gx.2,N9 gy.2,agd f,(Qx ho f).2.2.2];rfl
 have e2:(BM x n y G o).depth<=64:=by show 0+1<=64;decide
 rw[e,zqT e2];rfl
theorem QC{e:RE}(h:aj J e N H λv H1=>Aj J.K [v] H1 Q):aj J (.xt wW [e]) N H Q:=h
inductive BN(X C m:wl)(B:be)(H:Hp)(Q:VK)(E:XK):Prop|i(M:MS)(s:Sv)(x:Str)(D:bn)(T:List (Nat×bi))(h:zbO)(y:Str)(r:Nat)(G:Option bi)(_:B=[.ref s.p,.ref h.p])(_:bR X H s x D T)(_:cD M C m H h y 0 r G)(_:vM G r)(_:h.own<=7)(_:∀t Y,au H Y->Y t=some (.tup<|Qy x T.length y G h.own)->Q (.ref t) Y)
abbrev QD(K:Frag)(X C m:wl)(E:XK):aS:=aR K [] [] [] [("text",X,i0 X),("many",X,df X),("text",C,jq C m),("seen",C,oz C m),("flight",C,mL C m),("nudge",C,FI C m)] (E:=E)
theorem agg(B:be)(H:Hp)(Q:VK)(E:XK)(hh:BN X C m B H Q E):aB (QD K X C m E) Nd (Dn Q) (start Nc B) H:=by
 obtain⟨M,s,x,D,T,h,y,r,G,rfl,S,A,f,ho,q⟩:=hh;refine bq<|bN<|ak<|cq X (i0 X) rfl<|ag rfl ⟨s.p,s.dx,_,rfl,S.ob,cg,s,x,D,T,rfl,S,ak<|cq X (df X) rfl<|ag rfl ⟨s.p,s.dx,_,rfl,S.ob,cg,s,x,D,T,rfl,S,ak<|cq C (jq C m) rfl<|ag rfl ⟨h.p,h.dp,_,rfl,A.ob,cW,M,h,y,0,r,G,rfl,A,ak<|cq C (oz C m) rfl<|ag rfl ⟨h.p,h.dp,_,rfl,A.ob,cW,M,h,y,0,r,G,rfl,A,aA ⟨G4,λt ft=>?_⟩⟩⟩⟩⟩;have s1:=sameNew (o:=.tup [V.str x,V.int (T.length:Nat),V.str y,V.int ((0:Nat):Int)]) ft;have ht:=aw (H:=H) (a:=t) (o:=.tup [V.str x,V.int (T.length:Nat),V.str y,V.int ((0:Nat):Int)]);generalize upd H t (.tup [V.str x,V.int (T.length:Nat),V.str y,V.int ((0:Nat):Int)])=H1 at s1 ht⊢;have A1:=A.same s1;have U':∀{H2:Hp},au H1 H2->bw (QD K X C m E) [(.xt wW [(.aG 5 "nudge" (.v 1) [])])] [some<|.ref s.p,some<|.ref h.p,some<|.ref t] H2 λU H3=>(V.str (tO G)::U).length<=sizeLine/\∀u,H3 u=none->jd K .Add (.ref t) (.ref u) (upd H3 u<|.tup (V.str (tO G)::U)) Q:=by
  intro H2 s2;have A2:=A1.same s2;refine ak<|QC<|cq C (FI C m) rfl<|ag rfl ⟨h.p,h.dp,_,rfl,A2.ob,cW,M,h,y,0,r,G,rfl,A2,λL H3 s3 nu=>?_⟩;obtain⟨n1,n2,n3,_⟩:=Qx ho f;refine .inr ⟨L,_,rfl,age nu f,n1,n2,by lia,aA ⟨bQ,λu fu=>?_⟩⟩
  have s4:=sameNew (o:=.tup [V.str<|tO G,V.str (ib h.own G).shown]) fu;refine .inr ⟨t,u,_,_,rfl,rfl,aP.of<|s4 _ _<|s3 _ _<|s2 _ _ ht,aP.of aw,(λz=>by cases z),RA,(λz=>by cases z),λ_ w0 fw=>?_⟩
  exact q w0 _ ((((s1.trans s2).trans s3).trans s4).trans<|sameNew fw) aw
 refine bL<|aV<|ag rfl<|bN<|ak<|QC<|cq C (mL C m) rfl<|ag rfl ⟨h.p,h.dp,_,rfl,A1.ob,cW,M,h,y,0,r,G,rfl,A1,?_⟩;rcases f with rfl|⟨rfl,rfl⟩
 ·exact .inl ⟨rfl,U'<|au.refl _⟩
 ·intro l H2 U s2 hl pv;exact .inr ⟨l,.list<|zc.map toD,rfl,⟨l,U,rfl,hl,xa pv⟩,Gu.1,Gu.2.1,zap Gu.2.2 (by decide),U' s2⟩
variable {g d u:wl}
def putL(pl n:Nat)(y:Str):bi:=ia pl++([.put y]++ia (n - pl))
theorem QE{n:Nat}:∀p∈ia n,bx p:=by
 unfold ia
 split
 ·intro p hp;rw[zag.mp hp];show(1:Int)<=_;lia
 ·intro p hp;cases hp
theorem agh{pl n:Nat}(gy:good y)(ny:y≠""):(∀p∈putL pl n y,bx p)/\chainOk "" (putL pl n y)=true/\(putL pl n y).length<=3:=by
 refine⟨λp hp=>?_,?_,?_⟩
 ·rcases zak.mp hp with h|h
  ·exact QE p h
  ·rcases zak.mp h with h|h
   ·rw[zag.mp h];exact⟨gy,ny⟩
   ·exact QE p h
 ·unfold putL ia;by_cases h1:0<pl<;>by_cases h2:0<n - pl<;>simp only[h1,h2,GT,GE] <;>rfl
 ·unfold putL ia;by_cases h1:0<pl<;>by_cases h2:0<n - pl<;>simp only[h1,h2,GT,GE] <;>exact zaq rfl
theorem QF{a l r0:bn}(h:Run l Z r0):Run (a++l) (ia a.length++Z) (a++r0):=by
 unfold ia
 split
 ·exact .keep rfl h
 ·have:a=[]:=zaD.mp (by lia)
  subst this;exact h
theorem agi{pl:Nat}{l:bn}(h:pl<=l.length):Run l (putL pl l.length y) (l.take pl++(y.cps.toList++l.drop pl)):=by
 have e1:l=l.take pl++(l.drop pl++[]):=by rw[zac,zaU]
 have e2:(l.take pl).length=pl:=by rw[zav];lia
 have e3:(l.drop pl).length=l.length - pl:=zaC ..;have k:=QF (a:=l.take pl) (Run.put (s:=y)<|QF (a:=l.drop pl) Run.nil);rw[e2,e3,zac,zac,zaU] at k;exact k
theorem agj{pl:Nat}(hx:iG x)(gy:good y)(h1:y.length=1)(n35:35∉y.cps.toList)(hl:x.length<=900):iG ⟨(x.cps.toList.take pl++(y.cps.toList++x.cps.toList.drop pl)).toArray⟩/\(⟨(x.cps.toList.take pl++(y.cps.toList++x.cps.toList.drop pl)).toArray⟩:Str).length=x.length+1:=by
 have el:(⟨(x.cps.toList.take pl++(y.cps.toList++x.cps.toList.drop pl)).toArray⟩:Str).length=x.length+1:=by
  rw[len_list];show(x.cps.toList.take pl++(y.cps.toList++x.cps.toList.drop pl)).length=_;have a:=len_list x;have b:=len_list y;rw[zqA,zqA,zav,zaC];lia
 refine⟨⟨⟨by lia,λc hc=>?_⟩,by lia,λhc=>?_⟩,el⟩
 ·have hc:c∈x.cps.toList.take pl++(y.cps.toList++x.cps.toList.drop pl):=hc;rcases zak.mp hc with h|h
  ·exact hx.g.2 c (zbA h)
  ·rcases zak.mp h with h|h
   ·exact gy.2 c h
   ·exact hx.g.2 c (zaV h)
 ·have hc:35∈x.cps.toList.take pl++(y.cps.toList++x.cps.toList.drop pl):=hc;rcases zak.mp hc with h|h
  ·exact hx.n (zbA h)
  ·rcases zak.mp h with h|h
   ·exact n35 h
   ·exact hx.n (zaV h)
theorem bR.wrL{k:Int}{zs:be}{o:HO}(S:bR C H s x D T)(hL:H L=some (.lst (.int k::zs)))(nM:¬s.M L):bR C (upd H L o) s x D T:=by
 obtain⟨dy,h1,h2⟩:=S.cx;have t:=qu (o:=o) hL λ_ z=>by cases z
 have ne:∀{z:wl},s.M z->upd H L o z=H z:=λ{z} hz=>aC λy=>nM (y ▸ hz);refine⟨?_,(ne<|.inl rfl).trans S.jr,⟨dy,(ne<|.inr<|.inl rfl).trans h1,Paired.g6 h2 λv Z ⟨a,U,e,g1,g2,g3⟩=>⟨a,U,e,?_,g2.mono t,g3⟩⟩,(ne<|.inr<|.inr rfl).trans S.mx,S.nd⟩
 ·rw[aC (λy=>by have:=S.ob;rw[y,hL] at this;cases this)];exact S.ob
 ·rw[aC (λy=>by
   rw[y,hL] at g1;cases g1;cases g2 with
   |cons a _=>obtain⟨_,e,_⟩:=a;cases e)]
  exact g1
theorem FS.trans{H2:Hp}(a:FS s H Y)(b:FS s Y H2):FS s H H2:=λz o e n m0=>b z o (a z o e n m0) n m0
theorem FS.same(t:au H Y):FS s H Y:=λz o e _ _=>t z o e
inductive Gv(X:wl)(B:be)(H:Hp)(Q:VK)(E:XK):Prop|i(s:Sv)(x:Str)(n:Nat)(cl:wl)(cs:pr)(_:B=[.ref s.p,.ref cl,.int (n:Nat)])(_:bR X H s x (List.replicate n 0) [])(_:H cl=some (.lst<|cs.map V.int))(_:¬s.M cl)(_:cs.length<=5)(_:1<=n)(_:n<=8)(_:iG x)(_:x.length=5)(_:∀L x' D T Y,FS s H Y->bR X Y s x' D T->Y L=some (.lst<|nV D)-> ¬s.M L->D.length=n->T.length<=5->D.getD 0 0<=T.length->iG x'->5<=x'.length->x'.length<=10->Q (.ref L) Y)
abbrev yI(K:Frag)(X d g:wl)(E:XK):aS:=aR K [] [] [] [("text",X,i0 X),("came",X,i4 X d g),("many",X,df X)] (E:=E)
abbrev BO:ci:=[.asg 5 (.bin .Mod (.v 4) (.v 2)),
  .set (.v 3) (.v 5) (.bin .Add (.ix (.v 3)<|.v 5)<|.c<|.int 1),
  .asg 6 (.blt .len [(.aG 0 "text" (.v 0) [])]),
  .asg 7 (.bin .Mod (.bin .FloorDiv (.v 4)<|.c<|.int 8)<|.bin .Add (.v 6)<|.c<|.int 1),
  .asg 8 (.bin .Add (.bin .Mult (.lst [(.tup [(.c<|.str "keep"),.v 7])])<|.blt .int [(.cmp .Gt (.v 7)<|.c<|.int 0)])<|.lst [(.tup [(.c<|.str "put"),(.ix (.c<|.str "xy")<|.bin .Mod (.v 4)<|.c<|.int 2)])]),
  .asg 8 (.bin .Add (.v 8)<|.bin .Mult (.lst [(.tup [(.c<|.str "keep"),(.bin .Sub (.v 6)<|.v 7)])])<|.blt .int [(.cmp .Lt (.v 7)<|.v 6)]),
  .drop (.aG 1 "came" (.v 0) [(.tup [(.c (.str "ask")),.v 5,(.ix (.v 3) (.v 5)),(.aG 2 "many" (.v 0) []),.v 8])])]
theorem agm(c:Int):∃y:Str,(∃k,jx (Str.ofString "xy").cps.toList (c % 2)=some k/\y=⟨#[k]⟩)/\good y/\y≠""/\y.length=1/\35∉y.cps.toList:=by
 have h0:=fD (c:=c) (b:=2) (by decide)
 have h1:=i5 (c:=c) (b:=2) (by decide)
 have:c % 2=0\/c % 2=1:=by lia
 rcases this with e|e
 ·rw[e];exact⟨⟨#[120]⟩,⟨120,by decide+kernel,rfl⟩,kq (by decide+kernel) (by decide+kernel),by decide+kernel,by decide+kernel,by decide+kernel⟩
 ·rw[e];exact⟨⟨#[121]⟩,⟨121,by decide+kernel,rfl⟩,kq (by decide+kernel) (by decide+kernel),by decide+kernel,by decide+kernel,by decide+kernel⟩
theorem agn{E:XK}{D00:Ends}{n:Nat}{cl:wl}{c:Int}{u5 u6 u7 u8:sK}(S:bR X H s x D T)(hL:H L=some (.lst<|nV D))(nM:¬s.M L)(ln:D.length=n)(h1:1<=n)(h8:n<=8)(lk:T.length<=5)(hs:D.getD 0 0<=T.length)(hx:iG x)(lx:x.length<=100)
  (k:∀x' qC yJ u5 u6 u7 u8 Y,(∀z o,H z=some o->z≠s.p-> ¬s.M z->z≠L->Y z=some o)->bR X Y s x' qC yJ->Y L=some (.lst<|nV qC)->qC.length=n->yJ.length=T.length+1->qC.getD 0 0<=T.length+1->iG x'->x'.length=x.length+1->D00.nx [some<|.ref s.p,some<|.ref cl,some<|.int (n:Nat),some<|.ref L,some<|.int c,u5,u6,u7,u8] Y):
  aB (yI K X d g E) BO D00 [some<|.ref s.p,some<|.ref cl,some<|.int (n:Nat),some<|.ref L,some<|.int c,u5,u6,u7,u8] H:=by
 obtain⟨w0,hw⟩:=zaK (fD (c:=c) (b:=(n:Int)) (by lia))
 have hwn:=i5 (c:=c) (b:=(n:Int)) (by lia)
 rw[hw] at hwn;have kQ:w0<D.length:=by lia
 refine bq<|aV<|ag rfl<|ag rfl<|lP (by lia) ?_
 rw[hw];have esw:D[w0]?=some (D.getD w0 0):=by rw[zbe,zax kQ];rfl
 have asw:(nV D)[w0]?=some (.int ((D.getD w0 0:Nat):Int)):=by unfold nV;rw[zan,esw];rfl
 refine O1<|aV<|a_<|ag rfl<|ag rfl<|iY hL (fH asw)<|ao<|cv<|ag rfl<|ag rfl ⟨L,_,_,w0,rfl,rfl,hL,P_ (by unfold nV;rw[zaf];exact kQ),?_⟩
 have F8:(nV D).set w0 (.int ((D.getD w0 0:Nat)+1:Int))=nV (D.set w0<|D.getD w0 0+1):=by
  show _=(D.set w0<|D.getD w0 0+1).map _;rw[List.map_set];rfl
 rw[F8];have hL0:∃k zs,nV D=.int k::zs:=by
  cases D with
  |nil=>exact absurd kQ (Nat.not_lt_zero _)
  |cons a r0=>exact⟨_,_,rfl⟩
 obtain⟨k0,zs0,e0⟩:=hL0;have S1:=S.wrL (o:=.lst (nV<|D.set w0<|D.getD w0 0+1)) (e0 ▸ hL) nM;have qA:=aw (H:=H) (a:=L) (o:=.lst (nV<|D.set w0<|D.getD w0 0+1));have b1:∀z o,H z=some o->z≠L->upd H L (.lst<|nV<|D.set w0<|D.getD w0 0+1) z=some o:=λz o e n=>by rw[aC n];exact e
 generalize upd H L (.lst<|nV<|D.set w0<|D.getD w0 0+1)=H1 at S1 qA b1⊢;have ll:=len_list x;refine bq<|gC<|cq X (i0 X) rfl<|ag rfl ⟨s.p,s.dx,_,rfl,S1.ob,cg,s,x,D,T,rfl,S1,⟨cK hx.g.1,?_⟩⟩;obtain⟨pl,kO⟩:=zaK (fD (c:=c / 8) (b:=(x.length:Int)+1) (by lia))
 have P0:=i5 (c:=c / 8) (b:=(x.length:Int)+1) (by lia)
 rw[kO] at P0;refine bq<|aV<|aV<|ag rfl<|ao<|sZ ⟨by decide,by decide⟩<|aV<|ag rfl<|ao<|cv<|lP (by lia) ?_
 rw[kO];obtain⟨y,⟨ky,hky,ey⟩,gy,ny,y1,y35⟩:=agm c;show aB (yI K X d g E) (BO.drop 4) D00 [some<|.ref s.p,some<|.ref cl,some<|.int (n:Nat),some<|.ref L,some<|.int c,some<|.int (w0:Nat),some<|.int (x.length:Nat),some<|.int (pl:Nat),u8] H1;refine bq<|aV<|Gg rfl λA R H2 s2 _ hA pA=>?_;refine bV<|ak<|bN<|ak<|ao<|ak<|a_<|ao<|oG rfl (by decide) _ _ ?_
 refine .inr<|.inr<|.inl ⟨_,_,ky,rfl,rfl,by decide+kernel,hky,?_⟩
 rw[<-ey];refine aA ⟨bQ,λt ft=>aA ⟨dz,λB0 fB=>?_⟩⟩;have s3:=sameNew (o:=.tup [V.str "put",V.str y]) ft;have ht:=aw (H:=H2) (a:=t) (o:=.tup [V.str "put",V.str y]);generalize upd H2 t (.tup [V.str "put",V.str y])=H3 at s3 ht fB⊢;have s4:=sameNew (o:=.lst [V.ref t]) fB;have hB:=aw (H:=H3) (a:=B0) (o:=.lst [V.ref t]);generalize upd H3 B0 (.lst [V.ref t])=H4 at s4 hB⊢;have QG:=s3.trans s4;have lA:=Db pA;have kl:∀m0,(ia m0).length<=1:=λm0=>by unfold ia;split<;>exact zaq rfl
 have k1:=kl pl;have k2:=kl (x.length - pl);refine Fy (QG _ _ hA) hB (by show R.length+1<=_;lia) λG0 fG=>?_
 have s5:=sameNew (o:=.lst (R++[V.ref t])) fG;have hG:=aw (H:=H4) (a:=G0) (o:=.lst (R++[V.ref t]));generalize upd H4 G0 (.lst<|R++[V.ref t])=H5 at s5 hG⊢;have om:=QG.trans s5;have pG:bh H5 (R++[V.ref t]) (ia pl++[.put y]):=Paired.app (pA.mono<|cB om) (.cons ⟨t,rfl,s5 _ _<|s4 _ _ ht⟩ .nil);show aB (yI K X d g E) (BO.drop 5) D00 [some<|.ref s.p,some<|.ref cl,some<|.int (n:Nat),some<|.ref L,some<|.int c,some<|.int (w0:Nat),some<|.int (x.length:Nat),some<|.int (pl:Nat),some<|.ref G0] H5;refine bq<|aV<|ag rfl<|Qp (n:=x.length - pl) (λH6 Q6 q6=>aV<|ag rfl<|ag rfl<|gR ?_) (λH6 Q6 q6=>gg<|ag rfl<|ag rfl<|ltI ?_) λA2 zs H6 s6 _ hA2 QH=>?_
 ·rw[show((x.length:Int) - (pl:Int))=((x.length - pl:Nat):Int) by lia];exact q6
 ·rw[show decide ((pl:Int) < (x.length:Int))=decide (0<x.length - pl) from decide_eq_decide.mpr (by lia)];exact q6
 have lA2:=Db QH;refine Fy (s6 _ _ hG) hA2 (by rw[zqA];show R.length+1+zs.length<=_;lia) λP1 fP=>?_
 have s7:=sameNew (o:=.lst ((R++[V.ref t])++zs)) fP;have hP:=aw (H:=H6) (a:=P1) (o:=.lst ((R++[V.ref t])++zs));generalize upd H6 P1 (.lst<|(R++[V.ref t])++zs)=H7 at s7 hP⊢;have yK:=s6.trans s7;have tP:=(s2.trans om).trans yK;have pP:bh H7 ((R++[V.ref t])++zs) (putL pl x.length y):=by
  have:=Paired.app (pG.mono<|cB yK) (QH.mono<|cB s7);show bh H7 _ (ia pl++([.put y]++ia (x.length - pl)));rw[<-zam];exact this
 have S7:=S1.same tP;have xS:=tP _ _ qA;obtain⟨ok,cc,lc⟩:=agh (pl:=pl) (n:=x.length) gy ny;have run:Run x.cps.toList (putL pl x.length y) (x.cps.toList.take pl++(y.cps.toList++x.cps.toList.drop pl)):=by
  rw[ll];exact agi (by lia)
 obtain⟨lZ,Gw⟩:=agj (pl:=pl) hx gy y1 y35 (by lia)
 have lr:=len_list (⟨(x.cps.toList.take pl++(y.cps.toList++x.cps.toList.drop pl)).toArray⟩:Str);have lr':(x.cps.toList.take pl++(y.cps.toList++x.cps.toList.drop pl)).length<=1000000:=by
  have:(x.cps.toList.take pl++(y.cps.toList++x.cps.toList.drop pl)).length=_:=lr.symm;lia
 show aB (yI K X d g E) (BO.drop 6) D00 [some<|.ref s.p,some<|.ref cl,some<|.int (n:Nat),some<|.ref L,some<|.int c,some<|.int (w0:Nat),some<|.int (x.length:Nat),some<|.int (pl:Nat),some<|.ref P1] H7;have agw:(nV<|D.set w0<|D.getD w0 0+1)[w0]?=some (.int ((D.getD w0 0+1:Nat):Int)):=by unfold nV;rw[zan,zbm kQ];rfl
 refine cZ<|eG X (i4 X d g) rfl<|ag rfl ⟨s.p,s.dx,_,rfl,S7.ob,cg,bN<|ak<|ao<|ak<|ag rfl<|ak<|a_<|ag rfl<|ag rfl<|iY xS (fH agw)<|ak<|cq X (df X) rfl<|ag rfl ⟨s.p,s.dx,_,rfl,S7.ob,cg,s,x,D,T,rfl,S7,ak<|ag rfl<|aA ⟨j0,λlt gI=>?_⟩⟩⟩;have s8:=sameNew (o:=.tup (tH w0 (D.getD w0 0+1) T.length P1)) gI;have S8:=S7.same s8;have nP:¬s.M P1:=(S1.same<|s2.trans<|om.trans s6).al.no fP;have BP:=tP.trans s8;refine⟨s,x,D,T,_,3,rfl,S8,lt,P1,w0,T.length,putL pl x.length y,0,rfl,aw,hx.g,kQ,by lia,by lia,⟨P1,_,rfl,s8 _ _ hP,pP.mono<|cB s8,ok,cc⟩,by lia,nP,zqR _,by decide,rfl,_,run,lr',?_⟩
 intro M zs H9 f9 S9 _ _;have uO:(D.set w0<|D.getD w0 0+1).getD 0 0<=T.length+1:=by
  cases D with
  |nil=>exact absurd kQ (Nat.not_lt_zero _)
  |cons a r0=>
   have ha:a<=T.length:=hs;cases w0 with
   |zero=>show a+1<=_;lia
   |succ w0=>show a<=_;lia
 refine k _ _ _ _ _ _ _ H9 (λz o e n1 n2 n3=>f9 _ _ (BP _ _<|b1 _ _ e n3) n1 n2) S9 (f9 _ _ (BP _ _ qA) (λy=>by have:=S1.ob;rw[<-y,qA] at this;cases this) nM) (by rw[zaR];exact ln) (by rw[zqA];rfl) uO lZ Gw
theorem agx(B:be)(H:Hp)(Q:VK)(E:XK)(hh:Gv X B H Q E):aB (yI K X d g E) Nh (Dn Q) (start Ng B) H:=by
 obtain⟨s,x,n,cl,cs,rfl,S,hc,nc,lc,h1,h8,hx,lx,q⟩:=hh;refine bq<|aV<|bV<|ak<|ao<|aA ⟨dz,λa fa=>ag rfl ?_⟩;have s1:=sameNew (o:=.lst [V.int 0]) fa;refine Fz (K:=K) (n:=n) aw (by lia) λL fL=>?_
 have s2:=s1.trans (sameNew (o:=.lst (List.replicate n<|V.int 0)) fL);have hL:upd (upd H a<|.lst [V.int 0]) L (.lst<|List.replicate n<|V.int 0) L=some (.lst<|nV<|List.replicate n 0):=by rw[aw];unfold nV;rw[List.map_replicate];rfl
 have QI:=s1.free fL;generalize upd (upd H a<|.lst [V.int 0]) L (.lst<|List.replicate n<|V.int 0)=H1 at s2 hL⊢;have S1:=S.same s2;have nL:¬s.M L:=S.al.no QI;refine AZ<|ag rfl ?_;refine⟨cl,rfl,⟨_,aE.of<|s2 _ _ hc⟩,m4 (K:=K) (a:=cl) (xs:=cs.map V.int) (λi N H2=>∃(x':Str) (D:bn) (T:List (Nat×bi)) (u4 u5 u6 u7 u8:sK),N=[some<|.ref s.p,some<|.ref cl,some<|.int (n:Nat),some<|.ref L,u4,u5,u6,u7,u8]/\FS s H H2/\bR X H2 s x' D T/\H2 L=some (.lst<|nV D)/\D.length=n/\T.length=i/\D.getD 0 0<=i/\iG x'/\x'.length=5+i) ⟨x,_,[],none,none,none,none,none,rfl,FS.same s2,S1,hL,zba,rfl,by cases n<;>exact zqR _,hx,lx⟩ (λi N H2 _ ⟨_,_,_,_,_,_,_,_,_,f2,S2,_⟩=>aE.of (f2 _ _ hc (λy=>by have:=S.ob;rw[<-y,hc] at this;cases this) nc)) ?_ ?_⟩
 ·rintro i v N H2 hi ⟨x',D,T,u4,u5,u6,u7,u8,rfl,f2,S2,oI,ln,lk,iL,pB,qD⟩;have vH:=(zat.mp hi).1;rw[zaf] at vH;rw[zan,zax vH] at hi;cases hi;refine agn S2 oI nL ln h1 h8 (by lia) (by lia) pB (by lia) λx3 agy tk3 v5 v6 v7 v8 H3 f3 S3 oH ln3 lk3 wx hx3 lx3=>?_
  exact⟨x3,agy,tk3,_,v5,v6,v7,v8,rfl,λz o e n1 n2=>f3 _ _ (f2 _ _ e n1 n2) n1 n2<|aO e QI,S3,oH,ln3,by lia,by lia,hx3,by lia⟩
 ·rintro N H2 ⟨x',D,T,u4,u5,u6,u7,u8,rfl,f2,S2,oI,ln,lk,iL,pB,qD⟩;rw[zaf] at lk qD iL;exact bL<|ag rfl<|q L x' D T H2 f2 S2 oI nL ln (by lia) (by lia) pB (by lia) (by lia)
variable {M:MS}{S:wl}{y:Str}
abbrev lR(X d g:wl):Sp:=yw X "came" (i4 X d g) [(g,9),(d,2)]
abbrev vN(C m g:wl):Sp:=yw C "came" (eF (tu C m g)<|FW C m g) [(g,9)]
abbrev qE(X u:wl):Sp:=yw X "change" (yp X u) [(u,10)]
abbrev mW(C m S d:wl):Sp:=yw C "do" (eF (tq C m)<|FV C m S d) [(S,1),(d,2)]
theorem Gx(S1:bR X H s x D T)(n:mR D.length T.length H v)(q:∀Y,au H Y->Q (.str "letter") Y){E:XK}:lR X d g [.ref s.p,v] H Q E:=
 ⟨s.p,s.dx,_,v,rfl,S1.ob,cg,λQ2 E2 _ hE=>⟨s,x,D,T,v,0,rfl,S1,n,λH1 s1=>hE g 9 H1 (.head _) λH2 s2=>q _ (s1.trans s2)⟩⟩
theorem agC(A:cD M C m H h y P r G)(n:hZ h.own H v)(q:∀Y,au H Y->Q (.str "letter") Y){E:XK}:vN C m g [.ref h.p,v] H Q E:=
 ⟨h.p,h.dp,_,v,rfl,A.ob,cW,λQ2 E2 _ hE=>.inr ⟨M,h,y,P,r,G,v,rfl,A,n,λH1 s1=>hE g 9 H1 (.head _) λH2 s2=>q _ (s1.trans s2)⟩⟩
theorem QJ(S1:bR X H s x D T)(n:fR v 1 (T.length:Nat) H)(q:∀Y,au H Y->Q (.str "gone") Y){E:XK}:qE X u [.ref s.p,v] H Q E:=
 ⟨s.p,s.dx,_,v,rfl,S1.ob,cg,λQ2 E2 _ hE=>⟨s,x,D,T,v,rfl,S1,.inl ⟨n,hE u 10 H (.head _) q⟩⟩⟩
theorem agD(A:cD M C m H h y P r G)(gy:good y)(n:fN v H)(q:∀Y,au H Y->Q (.str "change") Y){E:XK}:mW C m S d [.ref h.p,v] H Q E:=
 ⟨h.p,h.dp,_,v,rfl,A.ob,cW,λQ2 E2 _ hE=>.inr ⟨M,h,y,P,r,G,v,rfl,A,gy,.inl ⟨n,λH1 s1=>hE S 1 H1 (.head _) λH2 s2=>q _ (s1.trans s2)⟩⟩⟩
theorem QK{b:wl}{c:bi}(A:cD M C m H h y P r G)(gy:good y)(i:eK (.ref b) H c)(lc:c.length<=10000)(n:¬ ∃r0,Run y.cps.toList c r0)(q:∀Y,au H Y->Q (.str "fit") Y){E:XK}:mW C m S d [.ref h.p,.ref b] H Q E:=
 ⟨h.p,h.dp,_,_,rfl,A.ob,cW,λQ2 E2 _ hE=>.inr ⟨M,h,y,P,r,G,_,rfl,A,gy,.inr ⟨c,i,lc,n,λH1 s1=>hE d 2 H1 (.tail _<|.head _) λH2 s2=>q _ (s1.trans s2)⟩⟩⟩
theorem js{QT:ge}{w0:Str}(q:QT false H):dB K .NotEq (.str w0) (.str w0) H λv H1=>∃k,v=.bl k/\QT k H1:=xu ⟨_,rfl,by
 have:(w0 !=w0)=false:=by show(!(w0==w0))=false;rw[FA];rfl
 rw[this];exact q⟩
theorem qG{w0:Str}(q:Q (.bl true) H):dB K .Eq (.str w0) (.str w0) H Q:=sI (by rw[FA];exact q)
def zbN.tx:zbN:=⟨iB,λ_ _ _ h s=>h.same s⟩
inductive Gy(X C m:wl)(B:be)(H:Hp)(Q:VK)(E:XK):Prop|i(M:MS)(s:Sv)(x:Str)(D:bn)(T:List (Nat×bi))(h:zbO)(y:Str)(P r:Nat)(G:Option bi)(f:Int)(_:B=[.ref s.p,.ref h.p,.int f])(_:bR X H s x D T)(_:cD M C m H h y P r G)(_:good y)(_:y.length<=1000)(_:∀Y,au H Y->Q (.bl true) Y)
abbrev QL(K:Frag)(X C m u S d:wl)(E:XK):aS:=aR K [("_law_made_refused",vJ),("_law_first_refused",BE),("_law_number_refused",qE X u),("_law_change_refused",mW C m S d),("_law_no_change",tL)] [] [] [("many",X,df X),("text",C,jq C m)] (E:=E)
theorem agE(B:be)(H:Hp)(Q:VK)(E:XK)(hh:Gy X C m B H Q E):aB (QL K X C m u S d E) fk (Dn Q) (start lE B) H:=by
 obtain⟨M,s,x,D,T,h,y,P,r,G,f,rfl,S2,A,gy,ly,q⟩:=hh;have d7:∀c,j3 c 7:=λ_=>⟨by decide,by decide⟩
 have m6:=fD (c:=f) (b:=6) (by decide)
 have l6:=i5 (c:=f) (b:=6) (by decide)
 have m9:=fD (c:=f / 7) (b:=9) (by decide)
 have m5:=fD (c:=f / 7) (b:=5) (by decide)
 have m3:=fD (c:=f) (b:=3) (by decide)
 refine bq<|oF (P:=zbN.tx) (i:=f % 7) (g:=H) (λe he=>?_) (λH1 Q1 q1=>oG rfl (by decide) _ _ q1) (fD (by decide)) (by show f % 7<7;exact i5 (by decide)) (by decide) H _ (au.refl _) λT0 H1 s1 hT=>?_
 ·simp only[zad,zae,Fr] at he
  rcases he with rfl|rfl|rfl|rfl|rfl|rfl|rfl
  ·exact aK λH=>.inr rfl
  ·exact aK λH=>.inr rfl
  ·exact aK λH=>.inl ⟨_,rfl,by decide+kernel,by decide+kernel⟩
  ·exact aK λH=>.inl ⟨_,rfl,by decide+kernel,by decide+kernel⟩
  ·exact BF (Ps:=[zbN.any]) (.cons (aK λ_=>trivial) .nil) (by decide) λa B H s ha hv=>.inr (r6 ha rfl)
  ·exact aK λH=>.inr rfl
  ·exact dU (Ps:=[zbN.any]) (.cons (aK λ_=>trivial) .nil) (by decide) λa B H s ha hv=>.inr (pT ha rfl)
 refine bq<|oF (P:=zbN.pl 0 7) (i:=f % 6) (g:=H1) (λe he=>?_) (λH1 Q1 q1=>oG rfl (by decide) _ _ q1) m6 (by show f % 6<6;lia) (by decide) H1 _ (au.refl _) λN0 H2 s2 hN=>?_
 ·simp only[zad,zae,Fr] at he
  rcases he with rfl|rfl|rfl|rfl|rfl|rfl
  ·exact kD (i:= -1 - f / 7 % 9) (λH1 Q1 q1=>aV<|A0<|yB rfl d7 (by decide) _ _<|gR q1) λH=>.inr ⟨_,rfl,by lia⟩
  ·exact aK λH=>.inl (.inl ⟨_,rfl⟩)
  ·exact aK λH=>.inl (.inr rfl)
  ·exact aK λH=>.inl (.inr<|jX rfl)
  ·exact kD (i:=8+f / 7 % 9) (λH1 Q1 q1=>aV<|ao<|yB rfl d7 (by decide) _ _<|cv q1) λH=>.inr ⟨_,rfl,by lia⟩
  ·exact BF (Ps:=[zbN.any]) (.cons (aK λ_=>trivial) .nil) (by decide) λa B H s ha hv=>.inl (.inr<|r6 ha rfl)
 have Gz:iB T0 H2:=iB.same hT s2;have hN2:fR N0 0 7 H2:=hN;have oB:=s1.trans s2;show aB (QL K X C m u S d E) (fk.drop 2) (Dn Q) [some<|.ref s.p,some<|.ref h.p,some<|.int f,some T0,some N0] H2;refine YL<|eY<|aY<|ba vJ rfl<|ak<|ao<|ak<|ag rfl<|aA ⟨_,T0,0,rfl,.t0 Gz,λH3 s3=>ao<|js<|iF ?_ rfl⟩;refine kr<|aY<|ba vJ rfl<|ak<|ao<|ak<|ag rfl<|aA ⟨_,T0,0,rfl,.t3<|Gz.same s3,λH4 s4=>ao<|js<|iF (bU ?_) rfl⟩;have yi:=s3.trans s4;refine YL<|aY<|bV<|ak<|ba BE rfl<|ak<|ao<|ak<|ag rfl<|aA ⟨_,T0,0,rfl,.inl ⟨rfl,Gz.same yi,rfl⟩,λH5 s5=>?_⟩;refine ak<|ba BE rfl<|ak<|ao<|ak<|ag rfl<|aA ⟨_,T0,11,rfl,.inr ⟨rfl,rfl⟩,λH6 s6=>?_⟩;refine aA ⟨bQ,λa fa=>?_⟩;have s7:=sameNew (o:=.lst [V.str<|fO.getD 0 "",V.str<|fO.getD 11 ""]) fa;have ha:=aw (H:=H6) (a:=a) (o:=.lst [V.str<|fO.getD 0 "",V.str<|fO.getD 11 ""]);generalize upd H6 a (.lst [V.str<|fO.getD 0 "",V.str<|fO.getD 11 ""])=H7 at s7 ha⊢;refine bV<|ak<|ao<|ak<|ao<|aA ⟨bQ,λb fb=>?_⟩;have s8:=sameNew (o:=.lst [V.str "text",V.str "hand"]) fb;refine qB (d:=.list [.str "text",.str "hand"]) ⟨a,_,rfl,s8 _ _ ha,_,_,rfl,rfl,_,_,rfl,rfl,rfl⟩ ⟨b,_,rfl,aw,_,_,rfl,rfl,_,_,rfl,rfl,rfl⟩ (by decide+kernel) ⟨_,rfl,iF (bU ?_) rfl⟩
 have QM:=((yi.trans s5).trans<|s6.trans s7).trans s8;generalize upd H7 b (.lst [V.str "text",V.str "hand"])=H8 at QM⊢;refine YL<|aY<|ba vJ rfl<|ak<|ao<|ak<|oF (P:=zbN.pl 1 8) (i:=f % 6) (g:=H8) (λe he=>?_) (λH1 Q1 q1=>oG rfl (by decide) _ _ q1) m6 (by show f % 6<6;lia) (by decide) H8 _ (au.refl _) λv H9 s9 hv=>aA ⟨_,v,11,rfl,.n1 hv,λkZ fi=>ao<|js<|iF (bU ?_) rfl⟩
 ·simp only[zad,zae,Fr] at he
  rcases he with rfl|rfl|rfl|rfl|rfl|rfl
  ·exact aK λH=>.inr ⟨_,rfl,by decide⟩
  ·exact kD (i:=9+f / 7 % 5) (λH1 Q1 q1=>aV<|ao<|yB rfl d7 (by decide) _ _<|cv q1) λH=>.inr ⟨_,rfl,by lia⟩
  ·exact vK λH=>.inr ⟨_,rfl,by decide⟩
  ·exact aK λH=>.inl (.inl ⟨_,rfl⟩)
  ·exact aK λH=>.inl (.inr rfl)
  ·exact aK λH=>.inl (.inr<|jX rfl)
 have QN:=QM.trans (s9.trans fi);refine YL<|aY<|ba vJ rfl<|ak<|ao<|ak<|ag rfl<|aA ⟨_,N0,11,rfl,.n2<|hN2.same QN,λGA GB=>ao<|js<|iF (bU ?_) rfl⟩;have QO:=QN.trans GB;have SB:=S2.same (oB.trans QO);refine YL<|aY<|ba (qE X u) rfl<|ak<|ag rfl<|ak<|oF (P:=zbN.pl 1 (T.length:Nat)) (i:=f % 6) (g:=GA) (λe he=>?_) (λH1 Q1 q1=>oG rfl (by decide) _ _ q1) m6 (by show f % 6<6;lia) (by decide) GA _ (au.refl _) λv H12 dF hv=>aA ?_
 ·simp only[zad,zae,Fr] at he
  rcases he with rfl|rfl|rfl|rfl|rfl|rfl
  ·exact aK λH=>.inr ⟨_,rfl,.inl (by decide)⟩
  ·intro H1 Q1 t1 q1;have S1:=SB.same t1;exact aV<|cq X (df X) rfl<|ag rfl ⟨s.p,s.dx,_,rfl,S1.ob,cg,s,x,D,T,rfl,S1,ao<|cv<|q1 _ _ (au.refl _)<|.inr ⟨_,rfl,by lia⟩⟩
  ·exact vK λH=>.inr ⟨_,rfl,.inl (by decide)⟩
  ·exact aK λH=>.inl (.inl ⟨_,rfl⟩)
  ·exact aK λH=>.inl (.inr rfl)
  ·exact aK λH=>.inl (.inr<|jX rfl)
 refine QJ (SB.same dF) hv λH13 iZ=>?_;refine ao<|js<|iF (bU ?_) rfl;have QP:=QO.trans (dF.trans iZ);refine YL<|aY<|ba (mW C m S d) rfl<|ak<|ag rfl<|ak<|ba tL rfl<|ak<|ag rfl<|aA ⟨f,rfl,λv H14 yL hv=>aA ?_⟩;refine agD (A.same<|oB.trans<|QP.trans yL) gy hv λQR yM=>?_;refine ao<|js<|iF (bU ?_) rfl;have QS:=oB.trans (QP.trans<|yL.trans yM);have AF:=A.same QS;have ll:=len_list y;refine bL<|gg<|ba (mW C m S d) rfl<|ak<|ag rfl<|ak<|bV<|ak<|bN<|ak<|ao<|ak<|aV<|aV<|gC<|cq C (jq C m) rfl<|ag rfl ⟨h.p,h.dp,_,rfl,AF.ob,cW,M,h,y,P,r,G,rfl,AF,⟨cK gy.1,ao<|cv<|oG rfl (by decide) _ _<|cv<|aA ⟨bQ,λt ft=>aA ⟨dz,λb fb=>?_⟩⟩⟩⟩
 have tQ:=sameNew (o:=.tup [V.str "keep",V.int<|(y.length:Int)+1+f % 3]) ft;have ht:=aw (H:=QR) (a:=t) (o:=.tup [V.str "keep",V.int<|(y.length:Int)+1+f % 3]);generalize upd QR t (.tup [V.str "keep",V.int<|(y.length:Int)+1+f % 3])=H16 at tQ ht fb⊢;have tP:=sameNew (o:=.lst [V.ref t]) fb;refine aA ?_;refine(QK ((AF.same tQ).same tP) gy (vL (p:=.keep ((y.length:Int)+1+f % 3)) aw (tP _ _ ht) (by show(1:Int)<=_;lia)) (by show 1<=10000;decide) (Gr (by lia)) λH18 BP=>?_)
 exact ao<|qG<|q _<|QS.trans<|(tQ.trans tP).trans BP
inductive GC(X:wl)(B:be)(H:Hp)(Q:VK)(E:XK):Prop|i(s:Sv)(x:Str)(D:bn)(T:List (Nat×bi))(_:B=[.ref s.p])(_:bR X H s x D T)(_:1<=D.length)(_:∀Y,au H Y->Q (.bl true) Y)
abbrev GEa(K:Frag)(X u d g:wl)(E:XK):aS:=aR K [("_law_number_refused",qE X u),("_law_server_refused",lR X d g)] [] [] [("many",X,df X)] (E:=E)
theorem QU{hs n:Nat}(h:1<=hs):kz hs n (.int 0) (.int<|(n:Int)+1) H:=.inr ⟨0,rfl,by lia,.inr ⟨_,rfl,by lia⟩⟩
theorem agH(B:be)(H:Hp)(Q:VK)(E:XK)(hh:GC X B H Q E):aB (GEa K X u d g E) Ny (Dn Q) (start Nx B) H:=by
 obtain⟨s,x,D,T,rfl,S2,h1,q⟩:=hh;refine bq<|cq X (df X) rfl<|ag rfl ⟨s.p,s.dx,_,rfl,S2.ob,cg,s,x,D,T,rfl,S2,?_⟩;refine YL<|aY<|ba (qE X u) rfl<|ak<|ag rfl<|ak<|aV<|ag rfl<|ao<|cv<|aA<|QJ S2 (.inr ⟨_,rfl,by lia⟩) λH1 s1=>?_
 refine ao<|js<|iF (bU ?_) rfl;have S1:=S2.same s1;refine YL<|aY<|ba (lR X d g) rfl<|ak<|ag rfl<|ak<|bN<|ak<|ao<|ak<|ao<|ak<|aV<|ao<|ao<|BJ ⟨by decide,by decide,by decide⟩<|ak<|aV<|ag rfl<|ao<|cv<|ak<|bV<|ak<|bN<|ak<|ao<|ak<|ao<|aA ⟨bQ,λt ft=>aA ⟨dz,λb fb=>aA ⟨j0,λl G=>?_⟩⟩⟩
 have s2:=(sameNew ft).trans ((sameNew fb).trans<|sameNew (o:=.tup [V.str "ask",V.int 0,V.int<|10 ^ (6:Int).toNat,V.int<|(T.length:Int)+1,V.ref b]) G);refine aA ?_;refine Gx (S1.same s2) (tM aw<|.inr ⟨rfl,.inl<|QU h1⟩) λH3 s3=>?_;refine ao<|js<|iF (bU ?_) rfl;have iZ:=s2.trans s3;refine bL<|gg<|ba (lR X d g) rfl<|ak<|ag rfl<|ak<|bN<|ak<|ao<|ak<|ao<|ak<|aV<|ag rfl<|ao<|cv<|aA ⟨yU,λl2 yN=>?_⟩;have s4:=sameNew (o:=.tup [V.str "again",V.int 0,V.int<|(T.length:Int)+1]) yN;refine aA ?_;refine(Gx ((S1.same iZ).same s4) (BH aw<|.inr ⟨rfl,QU h1⟩) λH5 s5=>?_);exact ao<|qG<|q _<|s1.trans<|iZ.trans<|s4.trans s5
theorem agI{c:Nat}{l:bn}(h:x.cps.toList=c::l):j7 x (some 1) none=⟨l.toArray⟩:=by
 unfold j7 mf;rw[show(some (1:Int))=some ((1:Nat):Int) from rfl,HT.oZ,HT.Ir,h]
 show(⟨((((c::l).drop<|min 1<|l.length+1).take<|l.length+1 - min 1 (l.length+1))).toArray⟩:Str)=_;rw[show min 1 (l.length+1)=1 by lia]
 show(⟨(l.take<|l.length+1 - 1).toArray⟩:Str)=_;rw[Nat.add_sub_cancel,zaO]
theorem agJ{c:Nat}{l:bn}(hx:iG x)(h:x.cps.toList=c::l):iG ⟨l.toArray⟩/\(⟨l.toArray⟩:Str).length+1=x.length/\good ⟨#[c]⟩/\c≠35:=by
 have e:=len_list x;have e2:=len_list (⟨l.toArray⟩:Str);rw[h,zaz] at e;have e3:(⟨l.toArray⟩:Str).cps.toList=l:=rfl;rw[e3] at e2;have hl:=hx.l;refine⟨⟨⟨by lia,λd1 hd=>hx.g.2 d1<|h ▸ .tail _ hd⟩,by lia,λhd=>hx.n<|h ▸ .tail _ hd⟩,by lia,⟨by show 1<=1000000;decide,λd1 hd=>?_⟩,λz=>hx.n (by rw[h,z];exact .head _)⟩
 have hd:d1∈ [c]:=hd;rw[zag.mp hd];exact hx.g.2 c (h ▸ .head _)
theorem QV{c:Nat}:(⟨#[c]⟩:Str)≠"":=λz=>absurd (Cl Str.length z) (by show(1:Nat)≠0;decide)
abbrev tR(c n:Nat):bi:=[.cut ⟨#[c]⟩,.keep (n:Nat)]
inductive GD(X:wl)(B:be)(H:Hp)(Q:VK)(E:XK):Prop|i(s:Sv)(x:Str)(D:bn)(T:List (Nat×bi))(_:B=[.ref s.p,.int ((D.getD 0 0:Nat)+1:Int)])(_:bR X H s x D T)(_:iG x)(_:2<=x.length)(_:1<=D.length)(_:D.length<=8)(_:T.length<=50)(_:∀x' c Y,FS s H Y->bR X Y s x' (D.set 0<|D.getD 0 0+1) (T++[(0,c)])->iG x'->x'.length+1=x.length->Q (.bl true) Y)
abbrev QW(K:Frag)(X d g:wl)(E:XK):aS:=aR K [("_law_server_refused",lR X d g)] [] [] [("many",X,df X),("text",X,i0 X),("came",X,i4 X d g)] (E:=E)
theorem GF{a:Nat}(h:1<=D.length):(D.set 0 a).getD 0 0=a:=by
 cases D with
 |nil=>exact absurd h (Nat.not_succ_le_zero _)
 |cons b r0=>rfl
theorem agK(B:be)(H:Hp)(Q:VK)(E:XK)(hh:GD X B H Q E):aB (QW K X d g E) Nn (Dn Q) (start Nm B) H:=by
 obtain⟨s,x,D,T,rfl,S1,hx,lx,h1,h8,lk,q⟩:=hh;obtain⟨c,l,ex⟩:∃c l,x.cps.toList=c::l:=by
  have:=len_list x;cases e:x.cps.toList with
  |nil=>rw[e] at this;have:x.length=0:=this;lia
  |cons c l=>exact⟨c,l,rfl⟩
 obtain⟨lZ,Gw,gc,nc⟩:=agJ hx ex;have ee:=len_list (⟨l.toArray⟩:Str);have el:(⟨l.toArray⟩:Str).cps.toList=l:=rfl;rw[el] at ee;have hl:=hx.l;refine bq<|cq X (df X) rfl<|ag rfl ⟨s.p,s.dx,_,rfl,S1.ob,cg,s,x,D,T,rfl,S1,?_⟩;refine bq<|cq X (i0 X) rfl<|ag rfl ⟨s.p,s.dx,_,rfl,S1.ob,cg,s,x,D,T,rfl,S1,?_⟩;refine cZ<|eG X (i4 X d g) rfl<|ag rfl ⟨s.p,s.dx,_,rfl,S1.ob,cg,bN<|ak<|ao<|ak<|ao<|ak<|ag rfl<|ak<|ag rfl<|ak<|bV<|ak<|bN<|ak<|ao<|ak<|a_<|ag rfl<|ao ?_⟩;refine .inr<|.inr<|.inl ⟨x,_,c,rfl,rfl,cK hx.g.1,by rw[ex];exact fH (j:=0) rfl,?_⟩
 refine aA ⟨bQ,λt ft=>?_⟩;have s1:=sameNew (o:=.tup [V.str "cut",V.str ⟨#[c]⟩]) ft;have ht:=aw (H:=H) (a:=t) (o:=.tup [V.str "cut",V.str ⟨#[c]⟩]);generalize upd H t (.tup [V.str "cut",V.str ⟨#[c]⟩])=H1 at s1 ht⊢;refine ak<|bN<|ak<|ao<|ak<|aV<|gC<|ag rfl ⟨cK hx.g.1,ao<|gR<|aA ⟨bQ,λu1 fu=>aA ⟨bQ,λb fb=>aA ⟨j0,λlt gI=>?_⟩⟩⟩⟩;rw[show((x.length:Int) - 1)=((l.length:Nat):Int) by lia] at*
 have s2:=sameNew (o:=.tup [V.str "keep",V.int (l.length:Nat)]) fu;have hu:=aw (H:=H1) (a:=u1) (o:=.tup [V.str "keep",V.int (l.length:Nat)]);generalize upd H1 u1 (.tup [V.str "keep",V.int (l.length:Nat)])=H2 at s2 hu fb gI⊢;have s3:=sameNew (o:=.lst [V.ref t,V.ref u1]) fb;have hb:=aw (H:=H2) (a:=b) (o:=.lst [V.ref t,V.ref u1]);have nb:¬s.M b:=(S1.same<|s1.trans s2).al.no fb;generalize upd H2 b (.lst [V.ref t,V.ref u1])=H3 at s3 hb gI⊢;have s4:=sameNew (o:=.tup [V.str "ask",V.int 0,V.int ((D.getD 0 0:Nat)+1:Int),V.int (T.length:Nat),V.ref b]) gI;have bY:=aw (H:=H3) (a:=lt) (o:=.tup [V.str "ask",V.int 0,V.int ((D.getD 0 0:Nat)+1:Int),V.int (T.length:Nat),V.ref b]);generalize upd H3 lt (.tup [V.str "ask",V.int 0,V.int ((D.getD 0 0:Nat)+1:Int),V.int (T.length:Nat),V.ref b])=H4 at s4 bY⊢;have gF:=((s1.trans s2).trans s3).trans s4;have S4:=S1.same gF;have ic:eK (.ref b) H4 (tR c l.length):=BK (s4 _ _ hb) (s4 _ _<|s3 _ _<|s2 _ _ ht) (s4 _ _<|s3 _ _ hu) ⟨gc,QV⟩ (by show(1:Int)<=_;lia) rfl
 have run:Run x.cps.toList (tR c l.length) l:=by
  rw[ex];have k:=Run.keep (a:=l) (n:=(l.length:Nat)) rfl Run.nil;rw[zac] at k;exact Run.cut (s:=⟨#[c]⟩) k
 refine⟨s,x,D,T,_,3,rfl,S4,lt,b,0,T.length,tR c l.length,0,rfl,bY,hx.g,by lia,h8,by lia,ic,by show 2<=10000;decide,nb,zqR _,by decide,rfl,l,run,by lia,?_⟩
 intro L zs H5 f5 S5 _ _;have GG:FS s H H5:=(FS.same gF).trans f5;refine bq<|bN<|ak<|ao<|ak<|ao<|ak<|aV<|ag rfl<|ao<|cv<|ak<|ag rfl<|ak<|bV<|ak<|bN<|ak<|ao<|ak<|ao<|aA ⟨bQ,λt2 yG=>?_⟩;have s6:=sameNew (o:=.tup [V.str "cut",V.str "#"]) yG;have jV:=aw (H:=H5) (a:=t2) (o:=.tup [V.str "cut",V.str "#"]);generalize upd H5 t2 (.tup [V.str "cut",V.str "#"])=H6 at s6 jV⊢;refine ak<|bN<|ak<|ao<|ak<|aV<|gC<|ag rfl ⟨cK hx.g.1,ao<|gR<|aA ⟨bQ,λu2 fu2=>aA ⟨bQ,λb2 mV=>aA ⟨j0,λl2 yN=>?_⟩⟩⟩⟩;rw[show((x.length:Int) - 1)=((l.length:Nat):Int) by lia] at*
 have s7:=sameNew (o:=.tup [V.str "keep",V.int (l.length:Nat)]) fu2;have QX:=aw (H:=H6) (a:=u2) (o:=.tup [V.str "keep",V.int (l.length:Nat)]);generalize upd H6 u2 (.tup [V.str "keep",V.int (l.length:Nat)])=H7 at s7 QX mV yN⊢;have s8:=sameNew (o:=.lst [V.ref t2,V.ref u2]) mV;have jj:=aw (H:=H7) (a:=b2) (o:=.lst [V.ref t2,V.ref u2]);have nb2:¬s.M b2:=(S5.same<|s6.trans s7).al.no mV;generalize upd H7 b2 (.lst [V.ref t2,V.ref u2])=H8 at s8 jj yN⊢;have s9:=sameNew (o:=.tup [V.str "ask",V.int 0,V.int ((D.getD 0 0:Nat)+1+1:Int),V.int (T.length:Nat),V.ref b2]) yN;have o7:=aw (H:=H8) (a:=l2) (o:=.tup [V.str "ask",V.int 0,V.int ((D.getD 0 0:Nat)+1+1:Int),V.int (T.length:Nat),V.ref b2]);generalize upd H8 l2 (.tup [V.str "ask",V.int 0,V.int ((D.getD 0 0:Nat)+1+1:Int),V.int (T.length:Nat),V.ref b2])=H9 at s9 o7⊢;have yO:=((s6.trans s7).trans s8).trans s9;have S9:=S5.same yO;have ic2:eK (.ref b2) H9 [.cut "#",.keep (l.length:Nat)]:=BK (s9 _ _ jj) (s9 _ _<|s8 _ _<|s7 _ _ jV) (s9 _ _<|s8 _ _ QX) Gs (by show(1:Int)<=_;lia) rfl
 have tx:∀{H2:Hp}{Q2:VK},au H9 H2->Q2 (.bl true) H2->aj (QW K X d g E) (.cmp .Eq (.aG 1 "text" (.v 0) [])<|.sl (.v 3) (some<|.c<|.int 1) none) [some<|.ref s.p,some<|.int ((D.getD 0 0:Nat)+1:Int),some<|.int (T.length:Nat),some<|.str x,some<|.ref l2] H2 Q2:=by
  intro H2 Q2 s2 q2;have S2:=S9.same s2;refine gg<|cq X (i0 X) rfl<|ag rfl ⟨s.p,s.dx,_,rfl,S2.ob,cg,s,_,_,_,rfl,S2,Fw<|ag rfl<|ao ⟨_,rfl,cK hx.g.1,?_⟩⟩;rw[agI ex];exact qG q2
 refine bL<|gG<|tx (au.refl _) ⟨_,rfl,iT ?_ rfl⟩;refine gG<|gg<|ba (lR X d g) rfl<|ak<|ag rfl<|ak<|ag rfl<|aA ?_;have lO:(T++[(0,tR c l.length)]).length=T.length+1:=by rw[zqA];rfl
 have et1:(T++[(0,tR c l.length)])[T.length]?=some (0,tR c l.length):=by rw[zaZ<|zqR _,ST];rfl
 refine⟨s.p,s.dx,_,_,rfl,S9.ob,cg,λQ2 E2 _ hE=>⟨s,_,_,_,_,3,rfl,S9,l2,b2,0,T.length,[.cut "#",.keep (l.length:Nat)],2,rfl,?_,lZ.g,by rw[zaR];lia,by rw[zaR];exact h8,by rw[lO];lia,ic2,by show 2<=10000;decide,nb2,by rw[lO];lia,by decide,0,tR c l.length,lO.symm,et1,λp hp=>?_,rfl,by show 2<=10000;decide,rfl,.here nc,λkZ fi=>hE d 2 kZ (.tail _<|.head _) λGA GB=>?_⟩⟩
 ·rw[GF h1];exact o7
 ·rcases zad.mp hp with rfl|hp
  ·exact⟨gc,QV⟩
  ·rw[zag.mp hp];show(1:Int)<=_;lia
 ·have GH:=fi.trans GB;refine ao<|qG ⟨_,rfl,iT (ou<|tx GH ?_) rfl⟩;exact q _ _ _ (GG.trans<|FS.same<|yO.trans GH) (S9.same GH) lZ Gw
theorem agQ{α β γ:Type}{R00:β->γ->Prop}{f:α->β}{g0:α->γ}(h:∀a,R00 (f a)<|g0 a):∀l:List α,Paired R00 (l.map f) (l.map g0):=λl=>by
 induction l with
 |nil=>exact .nil
 |cons a l ih=>exact .cons (h a) ih
theorem yP{α:Type}{R00:V->α->Prop}{f:α->zv}(h:∀v a,R00 v a->Is H (f a) v):∀{B:be}{W:List α},Paired R00 B W->IsL H (W.map f) B
 |_,_,.nil=>rfl
 |_,_,.cons a r0=>⟨_,_,rfl,h _ _ a,yP h r0⟩
theorem QY{α:Type}{f:α->zv}(h:∀a,(f a).canLay0=true/\(f a).depth<=1)(W:List α):SeqAt.shaped (.list<|W.map f)=true:=by
 have key:PyData.canLayAll0 (W.map f)=true/\PyData.depthAll (W.map f)<=1:=by
  induction W with
  |nil=>exact⟨rfl,zqZ _⟩
  |cons a W ih=>
   refine⟨?_,?_⟩
   ·show((f a).canLay0 && PyData.canLayAll0 (W.map f))=true;rw[(h a).1,ih.1];rfl
   ·show max (f a).depth (PyData.depthAll<|W.map f)<=1;have:=(h a).2;have:=ih.2;lia
 unfold SeqAt.shaped;have e:(PyData.list<|W.map f).canLay0=true:=key.1;have e2:(PyData.list<|W.map f).depth<=64:=by show PyData.depthAll (W.map f)+1<=64;have:=key.2;lia
 rw[e,zqT e2];rfl
abbrev Lt:=Nat×Nat×Nat
def nD(e:Lt):zv:=.int (e.2.1:Nat)
def tD(e:Lt):zv:=.tuple [.str "took",.int (e.1:Nat),.int (e.2.1:Nat),.int (e.2.2:Nat)]
theorem agR(e:Lt):(nD e).canLay0=true/\(nD e).depth<=1:=⟨rfl,zqZ _⟩
theorem agS(e:Lt):(tD e).canLay0=true/\(tD e).depth<=1:=⟨by
 show(PyData.strOk (Str.ofString "took") && (true && (true && (true && true))))=true
 decide+kernel,by show 0+1<=1;decide⟩
def T4(H:Hp)(v:V)(e:Lt):Prop:= ∃b,v=.ref b/\H b=some (.tup [.str "took",.int (e.1:Nat),.int (e.2.1:Nat),.int (e.2.2:Nat)])
theorem T4.same{e:Lt}(a:T4 H v e)(s:au H Y):T4 Y v e:=let ⟨b,e1,h⟩:=a;⟨b,e1,s _ _ h⟩
theorem T4.is{e:Lt}(a:T4 H v e):Is H (tD e) v:=let ⟨b,e1,h⟩:=a;⟨b,_,e1,h,_,_,rfl,rfl,_,_,rfl,rfl,_,_,rfl,rfl,_,_,rfl,rfl,rfl⟩
theorem QZ{zs:be}{es:List Lt}(e:N[j]?=some (some<|.ref L))(hL:H L=some (.lst zs))(pz:Paired (mQ H) zs es)(ln:es.length<=1000)(q:∀P0 ws Y,au H Y->Y P0=some (.lst ws)->Paired (λv (e:Lt)=>v=.int (e.2.1:Nat)) ws es->Q (.ref P0) Y):aj J (.comp none [] .list [.v j] none<|.ix (.v 0)<|.c<|.int 2) N H Q:=by
 have lz:=Db pz;refine O0<|ag e ⟨L,rfl,⟨_,aE.of hL⟩,OY (K:=J.K) hL (by lia) (λi R H2=>Paired (λv (e:Lt)=>v=V.int (e.2.1:Nat)) R<|es.take i) .nil (λi v R H2 hi s2 hp Q' kk=>?_) λR H2 P0 s2 hp fP=>?_⟩
 ·obtain⟨e,he,t,l,rfl,ht⟩:=Bh pz hi;refine a_<|ag rfl<|ao<|bO (s2 _ _ ht) rfl<|kk _ _ (au.refl _) ?_;rw[Bi he];exact IN hp rfl
 ·rw[lz,zaO] at hp;exact q P0 R _ (s2.trans<|sameNew fP) aw hp
theorem Q0{b:RE}{n:Nat}(ha:∀H1 (Q1:VK),au H H1->Q1 (.int<|(i:Int)+1) H1->aj J a N H1 Q1)(hb:∀H1 (Q1:VK),au H H1->Q1 (.int<|(i:Int)+1+(n:Nat)) H1->aj J b N H1 Q1)(li:i<=1000)(ln:n<=1000)(q:∀P0 Y,au H Y->Y P0=some (.lst<|lp ((i:Int)+1) 1 n)->Q (.ref P0) Y):aj J (.xt Am [a,b]) N H Q:=by
 show bw J [a,b] N H λU H1=>Ak J.K U H1 Q;refine ak<|ha _ _ (au.refl _)<|ak<|hb _ _ (au.refl _)<|aA ⟨_,_,n,rfl,small_one (by lia) (by lia) (by lia) (by lia),?_,by lia,λl G=>q l _ (sameNew G) aw⟩
 rw[rangeSize_one]
 split<;>lia
theorem Q3{n:Nat}{T:List (Nat×bi)}{h:Nat}(hn:T.length - i=n):Paired (λv (e:Lt)=>v=V.int (e.2.1:Nat)) (lp ((i:Int)+1) 1 n) (qy T h i):=by
 unfold lp qy;rw[hn];exact agQ (λk=>by show V.int _=V.int _;congr 1;lia) _
theorem Q4{P0 P2:wl}{ws:be}{es:List Lt}(h1:H P0=some (.lst ws))(h2:H P2=some (.lst B))(p1:Paired (λv (e:Lt)=>v=V.int (e.2.1:Nat)) ws es)(p2:Paired (λv (e:Lt)=>v=V.int (e.2.1:Nat)) B es)(q:Q (.bl true) H):dB K .Eq (.ref P0) (.ref P2) H Q:=
 eqD (d:=.list (es.map nD)) ⟨P0,ws,rfl,h1,yP (λv e h=>h) p1⟩ ⟨P2,B,rfl,h2,yP (λv e h=>h) p2⟩ (QY agR es) q
theorem agU:good "w"/\("w":Str)≠"":=⟨kq (by decide+kernel) (by decide+kernel),by decide+kernel⟩
inductive GI(X:wl)(B:be)(H:Hp)(Q:VK)(E:XK):Prop|i(s:Sv)(x:Str)(D:bn)(T:List (Nat×bi))(_:B=[.ref s.p,.int (D.length:Nat),.int ((D.getD 0 0:Nat)+1:Int)])(_:bR X H s x D T)(_:iG x)(_:1<=x.length)(_:x.length<=900)(_:1<=D.length)(_:D.length<=8)(_:T.length<=50)(_:∀x' c Y,FS s H Y->bR X Y s x' (D.set 0<|D.getD 0 0+1) (T++[(0,c)])->Q (.bl true) Y)
abbrev BQ(K:Frag)(X d g:wl)(E:XK):aS:=aR K [] [] [] [("many",X,df X),("text",X,i0 X),("came",X,i4 X d g)] (E:=E)
theorem agV(B:be)(H:Hp)(Q:VK)(E:XK)(hh:GI X B H Q E):aB (BQ K X d g E) Au (Dn Q) (start Nr B) H:=by
 obtain⟨s,x,D,T,rfl,S1,hx,l1,l9,h1,h8,lk,q⟩:=hh;refine bq<|cq X (df X) rfl<|ag rfl ⟨s.p,s.dx,_,rfl,S1.ob,cg,s,x,D,T,rfl,S1,?_⟩;refine bq<|cq X (i0 X) rfl<|ag rfl ⟨s.p,s.dx,_,rfl,S1.ob,cg,s,x,D,T,rfl,S1,?_⟩;refine bq<|eG X (i4 X d g) rfl<|ag rfl ⟨s.p,s.dx,_,rfl,S1.ob,cg,bN<|ak<|ao<|ak<|ao<|ak<|ag rfl<|ak<|ag rfl<|ak<|bV<|ak<|bN<|ak<|ao<|ak<|ao<|aA ⟨bQ,λt ft=>?_⟩⟩;have s1:=sameNew (o:=.tup [V.str "put",V.str "w"]) ft;have ht:=aw (H:=H) (a:=t) (o:=.tup [V.str "put",V.str "w"]);generalize upd H t (.tup [V.str "put",V.str "w"])=H1 at s1 ht⊢;refine ak<|bN<|ak<|ao<|ak<|gC<|ag rfl ⟨cK hx.g.1,aA ⟨bQ,λu1 fu=>aA ⟨bQ,λb fb=>aA ⟨j0,λlt gI=>?_⟩⟩⟩⟩;have s2:=sameNew (o:=.tup [V.str "keep",V.int (x.length:Nat)]) fu;have hu:=aw (H:=H1) (a:=u1) (o:=.tup [V.str "keep",V.int (x.length:Nat)]);generalize upd H1 u1 (.tup [V.str "keep",V.int (x.length:Nat)])=H2 at s2 hu fb gI⊢;have s3:=sameNew (o:=.lst [V.ref t,V.ref u1]) fb;have hb:=aw (H:=H2) (a:=b) (o:=.lst [V.ref t,V.ref u1]);have nb:¬s.M b:=(S1.same<|s1.trans s2).al.no fb;generalize upd H2 b (.lst [V.ref t,V.ref u1])=H3 at s3 hb gI⊢;have s4:=sameNew (o:=.tup [V.str "ask",V.int 0,V.int ((D.getD 0 0:Nat)+1:Int),V.int (T.length:Nat),V.ref b]) gI;have bY:=aw (H:=H3) (a:=lt) (o:=.tup [V.str "ask",V.int 0,V.int ((D.getD 0 0:Nat)+1:Int),V.int (T.length:Nat),V.ref b]);generalize upd H3 lt (.tup [V.str "ask",V.int 0,V.int ((D.getD 0 0:Nat)+1:Int),V.int (T.length:Nat),V.ref b])=H4 at s4 bY⊢;have gF:=((s1.trans s2).trans s3).trans s4;have S4:=S1.same gF;have ll:=len_list x;have ic:eK (.ref b) H4 [.put "w",.keep (x.length:Nat)]:=BK (s4 _ _ hb) (s4 _ _<|s3 _ _<|s2 _ _ ht) (s4 _ _<|s3 _ _ hu) agU (by show(1:Int)<=_;lia) rfl
 have run:Run x.cps.toList [.put "w",.keep (x.length:Nat)] ((("w":Str)++x).cps.toList):=by
  rw[app_list];have k:=Run.keep (a:=x.cps.toList) (n:=(x.length:Nat)) (by rw[ll]) Run.nil
  rw[zac] at k;exact Run.put (s:="w") k
 have lw:(("w":Str)++x).cps.toList.length<=1000000:=by
  rw[app_list,zqA];have:("w":Str).cps.toList.length=1:=by decide+kernel
  lia
 refine⟨s,x,D,T,_,3,rfl,S4,lt,b,0,T.length,[.put "w",.keep (x.length:Nat)],0,rfl,bY,hx.g,by lia,h8,by lia,ic,by show 2<=10000;decide,nb,zqR _,by decide,rfl,_,run,lw,?_⟩
 intro L zs H5 f5 S5 hL pz;have GG:FS s H H5:=(FS.same gF).trans f5;have lzs:=Db pz;have lT:(lQ D T 0).length=D.length:=by unfold lQ;rw[zaf,zaN]
 have ex:(⟨(("w":Str)++x).cps.toList.toArray⟩:Str)=("w":Str)++x:=gP rfl;rw[ex] at S5;show aB (BQ K X d g E) (Au.drop 3) (Dn Q) [some<|.ref s.p,some<|.int (D.length:Nat),some<|.int ((D.getD 0 0:Nat)+1:Int),some<|.int (T.length:Nat),some<|.str x,some<|.ref L,none] H5;refine YL<|aY<|O0<|ag rfl ⟨L,rfl,⟨_,aE.of hL⟩,OY (K:=K) hL (by lia) (λi R H6=>Paired (T4 H6) R<|(lQ D T 0).take i) .nil (λi v R H6 hi s6 hp Q' kk=>?_) λR H6 P0 s6 hp fP=>?_⟩
 ·obtain⟨e,he,t,l,rfl,ht⟩:=Bh pz hi;refine Pb<|ag rfl<|ao ⟨_,rfl,.inr ⟨_,aP.of<|s6 _ _ ht,(by show ¬(HT.bu 5 0 none=0/\HT.bu 5 5 (some 4)=5);decide),λa fa=>kk _ _ (sameNew fa) ?_⟩⟩
  rw[Bi he];exact IN (Paired.g6 hp λ_ _ z=>z.same (sameNew fa)) ⟨a,rfl,aw⟩
 rw[lzs,zaO] at hp;have s7:=sameNew (o:=.lst R) fP;have hP:=aw (H:=H6) (a:=P0) (o:=.lst R)
 replace hp:=Paired.g6 hp λ_ _ z=>T4.same z s7
 have yK:=s6.trans s7;generalize upd H6 P0 (.lst R)=H7 at s7 hP hp yK⊢;refine P8<|ag rfl ⟨_,rfl,by lia,by lia,?_⟩
 rw[zaB];refine Fg (by lia) (λi R H8=>Paired (T4 H8) R<|(lQ D T 0).take i) .nil (λi R H8 hi s8 qw Q' kk=>?_) λws H8 P2 s8 qw GJ=>?_
 ·have he:(lQ D T 0)[i]?=some (i,T.length+1,0):=by unfold lQ;rw[zan,zbM hi];rfl
  show aj (BQ K X d g E).calm (.tup [(.c<|.str "took"),.v 0,(.bin .Add (.v 1)<|.c<|.int 1),(.c<|.int 0)]) [some<|.int<|0+(i:Int),some<|.int (T.length:Nat)] H8 Q';rw[Int.zero_add];refine bN<|ak<|ao<|ak<|ag rfl<|ak<|aV<|ag rfl<|ao<|cv<|ak<|ao<|aA ⟨G4,λa fa=>kk _ _ (sameNew fa) ?_⟩;rw[Bi he];exact IN (Paired.g6 qw λ_ _ z=>z.same (sameNew fa)) ⟨a,rfl,aw⟩
 rw[<-lT,zaO] at qw;have s9:=sameNew (o:=.lst ws) GJ;have GK:=s8.trans s9;refine qB (d:=.list ((lQ D T 0).map tD)) ⟨P0,R,rfl,GK _ _ hP,yP (λv e h=>T4.is h)<|Paired.g6 hp λ_ _ z=>z.same GK⟩ ⟨P2,ws,rfl,aw,yP (λv e h=>T4.is h)<|Paired.g6 qw λ_ _ z=>z.same s9⟩ (QY agS _) ⟨_,rfl,iF (bU ?_) rfl⟩;have yO:=yK.trans GK;have S9:=S5.same yO;have Q5:=GG.trans (FS.same yO);generalize upd H8 P2 (.lst ws)=H9 at S9 Q5⊢;have lO:(T++[(0,[Pt.put "w",.keep (x.length:Nat)])]).length=T.length+1:=by rw[zqA];rfl
 refine bq<|eG X (i4 X d g) rfl<|ag rfl ⟨s.p,s.dx,_,rfl,S9.ob,cg,bN<|ak<|ao<|ak<|ao<|ak<|ao<|aA ⟨yU,λla fla=>?_⟩⟩;have sA:=sameNew (o:=.tup [V.str "again",V.int 0,V.int 0]) fla;have ot:=aw (H:=H9) (a:=la) (o:=.tup [V.str "again",V.int 0,V.int 0]);generalize upd H9 la (.tup [V.str "again",V.int 0,V.int 0])=HA at sA ot⊢;have SA:=S9.same sA;refine⟨s,_,_,_,_,1,rfl,SA,la,0,0,rfl,ot,by rw[zaR];lia,zqZ _,by rw[lO];lia,λL2 z2 HB sB oI Fi=>?_⟩
 have SB:=SA.same sB;show aB (BQ K X d g E) (Au.drop 5) (Dn Q) [some<|.ref s.p,some<|.int (D.length:Nat),some<|.int ((D.getD 0 0:Nat)+1:Int),some<|.int (T.length:Nat),some<|.str x,some<|.ref L,some<|.ref L2] HB;have w1:("w":Str).length+x.length<=1000000:=by
  have:("w":Str).length=1:=by decide+kernel
  lia
 refine bL<|gG<|gg<|cq X (i0 X) rfl<|ag rfl ⟨s.p,s.dx,_,rfl,SB.ob,cg,s,_,_,_,rfl,SB,aV<|ao<|ag rfl<|Pp w1<|qG ⟨_,rfl,iT (ou ?_) rfl⟩⟩;refine gg<|QZ rfl oI Fi (by unfold qy;rw[zaf,zaN,lO];lia) λP3 w3 HC sC tw p3=>?_
 refine Q0 (i:=0) (n:=T.length+1) (λH1 Q1 _ q1=>ao q1) (λH1 Q1 _ q1=>aV<|ag rfl<|ao<|cv ?_) (by decide) (by lia) λP4 HD sD qv=>?_
 ·rw[show((T.length:Nat):Int)+2=((0:Nat):Int)+1+((T.length+1:Nat):Int) by lia];exact q1
 refine Q4 (sD _ _ tw) qv p3 (Q3 (by rw[lO];lia)) ?_
 have Q7:=((sA.trans sB).trans sC).trans sD;exact q _ _ _ (Q5.trans<|FS.same Q7)<|S9.same Q7
inductive GL(X:wl)(B:be)(H:Hp)(Q:VK)(E:XK):Prop|i(s:Sv)(x:Str)(D:bn)(T:List (Nat×bi))(m0:Nat)(_:B=[.ref s.p,.int (m0:Nat)])(_:bR X H s x D T)(_:m0+2=T.length)(_:1<=D.length)(_:D.getD 0 0<=1000)(_:T.length<=100)(_:∀Y,au H Y->Q (.bl true) Y)
abbrev GLa(K:Frag)(X u d g:wl)(E:XK):aS:=aR K [("_law_number_refused",qE X u)] [] [] [("came",X,i4 X d g),("many",X,df X)] (E:=E)
theorem agY:good "q"/\("q":Str)≠"":=⟨kq (by decide+kernel) (by decide+kernel),by decide+kernel⟩
theorem agZ(B:be)(H:Hp)(Q:VK)(E:XK)(hh:GL X B H Q E):aB (GLa K X u d g E) NB (Dn Q) (start NA B) H:=by
 obtain⟨s,x,D,T,m0,rfl,S2,hm,h1,hs,lk,q⟩:=hh;refine YL<|aY<|ba (qE X u) rfl<|ak<|ag rfl<|ak<|aV<|ag rfl<|ao<|cv<|aA ?_;have hk:T[m0]?=some (T.getD m0 (0,[])):=by rw[zbe,zax (by lia)];rfl
 refine⟨s.p,s.dx,_,_,rfl,S2.ob,cg,λQ2 E2 hQ _=>⟨s,x,D,T,_,rfl,S2,.inr ⟨m0,_,_,rfl,hk,λl H1 s1=>hQ _ _ ?_⟩⟩⟩;refine ao<|js<|iF (bU ?_) rfl;have S1:=S2.same s1;refine YL<|aY<|eG X (i4 X d g) rfl<|ag rfl ⟨s.p,s.dx,_,rfl,S1.ob,cg,bN<|ak<|ao<|ak<|ao<|ak<|aV<|ao<|ao<|BJ ⟨by decide,by decide,by decide⟩<|ak<|aV<|ag rfl<|ao<|cv<|ak<|bV<|ak<|bN<|ak<|ao<|ak<|ao<|aA ⟨bQ,λt ft=>aA ⟨dz,λb fb=>aA ⟨j0,λl G=>?_⟩⟩⟩⟩
 have s2:=sameNew (o:=.tup [V.str "put",V.str "q"]) ft;have ht:=aw (H:=H1) (a:=t) (o:=.tup [V.str "put",V.str "q"]);generalize upd H1 t (.tup [V.str "put",V.str "q"])=H2 at s2 ht fb G⊢;have s3:=sameNew (o:=.lst [V.ref t]) fb;have hb:=aw (H:=H2) (a:=b) (o:=.lst [V.ref t]);generalize upd H2 b (.lst [V.ref t])=H3 at s3 hb G⊢;have s4:=sameNew (o:=.tup [V.str "ask",V.int 0,V.int<|10 ^ (6:Int).toNat,V.int<|(m0:Int)+1,V.ref b]) G;have hl:=aw (H:=H3) (a:=l) (o:=.tup [V.str "ask",V.int 0,V.int<|10 ^ (6:Int).toNat,V.int<|(m0:Int)+1,V.ref b]);generalize upd H3 l (.tup [V.str "ask",V.int 0,V.int<|10 ^ (6:Int).toNat,V.int<|(m0:Int)+1,V.ref b])=H4 at s4 hl⊢;have yL:=(s2.trans s3).trans s4;have S4:=S1.same yL;refine⟨s,x,D,T,_,2,rfl,S4,l,b,0,1000000,m0+1,[.put "q"],rfl,hl,by lia,by lia,by decide,vL (s4 _ _ hb) (s4 _ _<|s3 _ _ ht) agY,by lia,λL H5 s5 hL=>?_⟩
 refine bV<|aA ⟨zqZ _,λL2 fL2=>?_⟩;have s6:=sameNew (o:=.lst []) fL2;refine qB (d:=.list []) ⟨L,[],rfl,s6 _ _ hL,rfl⟩ ⟨L2,[],rfl,aw,rfl⟩ (by decide+kernel) ⟨_,rfl,iF (bU ?_) rfl⟩
 have tQ:=(yL.trans s5).trans s6;have S6:=S1.same tQ;generalize upd H5 L2 (.lst [])=H6 at tQ S6⊢;refine bq<|eG X (i4 X d g) rfl<|ag rfl ⟨s.p,s.dx,_,rfl,S6.ob,cg,bN<|ak<|ao<|ak<|ao<|ak<|aV<|ag rfl<|ao<|cv<|aA ⟨yU,λla fla=>?_⟩⟩;have s7:=sameNew (o:=.tup [V.str "again",V.int 0,V.int<|(m0:Int)+1]) fla;have ot:=aw (H:=H6) (a:=la) (o:=.tup [V.str "again",V.int 0,V.int<|(m0:Int)+1]);generalize upd H6 la (.tup [V.str "again",V.int 0,V.int<|(m0:Int)+1])=H7 at s7 ot⊢;have S7:=S6.same s7;refine⟨s,_,_,_,_,1,rfl,S7,la,0,m0+1,rfl,ot,by lia,by lia,lk,λL3 z3 H8 s8 oH FU=>?_⟩
 have S8:=S7.same s8;refine bL<|gg<|QZ rfl oH FU (by unfold qy;rw[zaf,zaN];lia) λP3 w3 H9 s9 tw p3=>?_
 have S9:=S8.same s9;refine Q0 (i:=m0+1) (n:=1) (λH1 Q1 _ q1=>aV<|ag rfl<|ao<|cv ?_) (λH1 Q1 t1 q1=>?_) (by lia) (by decide) λP4 HD sD qv=>?_
 ·rw[show((m0:Nat):Int)+2=((m0+1:Nat):Int)+1 by lia];exact q1
 ·have T1:=S9.same t1;refine aV<|cq X (df X) rfl<|ag rfl ⟨s.p,s.dx,_,rfl,T1.ob,cg,s,_,_,_,rfl,T1,ao<|cv ?_⟩;rw[show((T.length:Nat):Int)+1=((m0+1:Nat):Int)+1+((1:Nat):Int) by lia];exact q1
 exact Q4 (sD _ _ tw) qv p3 (Q3 (by lia))<|q _<|s1.trans<|tQ.trans<|((s7.trans s8).trans s9).trans sD
abbrev t0:Str:="ab\ncd"
abbrev t1:Str:="zab\ncd"
abbrev vc(k:Nat):bi:=[.put "v",.keep (k:Nat)]
abbrev F0:MS:=λ_=>False
theorem vO:good t0:=kq (by decide+kernel) (by decide+kernel)
theorem BR:good t1:=kq (by decide+kernel) (by decide+kernel)
theorem GN:good "z"/\("z":Str)≠"":=⟨kq (by decide+kernel) (by decide+kernel),by decide+kernel⟩
theorem BS:good "v"/\("v":Str)≠"":=⟨kq (by decide+kernel) (by decide+kernel),by decide+kernel⟩
theorem GO{l:bn}{k:Int}(h:k=l.length):Run l [.put y,.keep k] (y.cps.toList++l):=by
 have a:=Run.put (s:=y) (Run.keep (a:=l) h Run.nil);rw[zac] at a;exact a
theorem ag1{l r0:bn}{k:Int}(h:Run l [.put y,.keep k] r0):r0=y.cps.toList++l:=by
 cases h with
 |put h=>
  cases h with
  |keep e h=>cases h;rfl
theorem GP:Run t0.cps.toList zc t1.cps.toList:=by
 have a:=GO (y:="z") (l:=t0.cps.toList) (k:=5) (by decide+kernel)
 have e:("z":Str).cps.toList++t0.cps.toList=t1.cps.toList:=by decide+kernel
 rw[e] at a;exact a
theorem yQ{k:Nat}(g0:good y/\y≠"")(h:1<=k):(∀p∈ [Pt.put y,.keep (k:Nat)],bx p)/\chainOk "" [Pt.put y,.keep (k:Nat)]=true:=by
 refine⟨λp hp=>?_,rfl⟩;rcases zad.mp hp with rfl|hp
 ·exact g0
 ·rw[zag.mp hp];show(1:Int)<=_;lia
theorem ag2{os ts:dl}(h:fA (aH<|vc 5) (aH zc) os ts):nb os=nb (aH<|vc 6):=by
 have e1:aH (vc 5)=[.P 118,.K,.K,.K,.K,.K]:=by decide+kernel
 have e2:aH zc=[.P 122,.K,.K,.K,.K,.K]:=by decide+kernel
 have e3:aH (vc 6)=[.P 118,.K,.K,.K,.K,.K,.K]:=by decide+kernel
 rw[e1,e2] at h;rw[e3];cases h with
 |p2 n _=>exact absurd rfl (n _ _)
 |p1 h=>
  cases h with
  |p2 _ h=>
   cases h with
   |kk h=>cases h with
    |kk h=>cases h with
     |kk h=>cases h with
      |kk h=>cases h with
       |kk h=>cases h;rfl
theorem ag3{qs:bi}{l m0 n:bn}(P0:Passed (vc 5) zc Z qs l m0 n):Z=vc 6:=by
 obtain⟨os,ts,h,e,_⟩:=P0.ad3;obtain⟨o,c⟩:=yQ (k:=6) BS (by decide)
 exact OJ Z (vc 6) "" "" P0.O8 c P0.Bc o<|e.trans<|ag2 h
theorem BU{a b:Str}{k:Nat}{e:RE}(he:∀H1 (Q1:VK),au H H1->Q1 (.int (k:Nat)) H1->aj J e N H1 Q1)(q:∀L U Y,au H Y->H L=none->Y L=some (.lst U)->bh Y U [.put b,.keep (k:Nat)]->Q (.ref L) Y):aj J (.lst [(.tup [(.c<|.str "put"),(.c<|.str b)]),(.tup [(.c<|.str "keep"),e])]) N H Q:=by
 refine bV<|ak<|bN<|ak<|ao<|ak<|ao<|aA ⟨bQ,λt ft=>?_⟩;have s1:=sameNew (o:=.tup [V.str "put",V.str b]) ft;have ht:=aw (H:=H) (a:=t) (o:=.tup [V.str "put",V.str b]);generalize upd H t (.tup [V.str "put",V.str b])=H1 at s1 ht⊢;refine ak<|bN<|ak<|ao<|ak<|he _ _ s1<|aA ⟨bQ,λu1 fu=>aA ⟨bQ,λc fc=>?_⟩⟩;have s2:=sameNew (o:=.tup [V.str "keep",V.int (k:Nat)]) fu;have hu:=aw (H:=H1) (a:=u1) (o:=.tup [V.str "keep",V.int (k:Nat)]);generalize upd H1 u1 (.tup [V.str "keep",V.int (k:Nat)])=H2 at s2 hu fc⊢;have s3:=sameNew (o:=.lst [V.ref t,V.ref u1]) fc;exact q c _ _ ((s1.trans s2).trans s3) ((s1.trans s2).free fc) aw<|.cons ⟨t,rfl,s3 _ _<|s2 _ _ ht⟩<|.cons ⟨u1,rfl,s3 _ _ hu⟩ .nil
inductive GQ(C m:wl)(B:be)(H:Hp)(Q:VK)(E:XK):Prop|i(h:zbO)(r:Nat)(_:B=[.ref h.p,.int (h.own:Nat)])(_:cD F0 C m H h t0 0 r none)(_:h.own<=7)(_:∀q dq e Y,bG (λz=>z=h.p\/z=h.q) H Y->cD F0 C m Y ⟨h.p,h.dp,q,dq,e,h.own⟩ t1 1 (r+1) none->Q (.bl true) Y)
abbrev Q8(K:Frag)(C m g:wl)(E:XK):aS:=aR K [] [] [] [("do",C,tq C m),("came",C,tu C m g),("seen",C,oz C m),("text",C,jq C m),("flight",C,mL C m)] (E:=E)
theorem ag4(B:be)(H:Hp)(Q:VK)(E:XK)(hh:GQ C m B H Q E):aB (Q8 K C m g E) Nv (Dn Q) (start Nu B) H:=by
 obtain⟨h,r,rfl,A,ho,q⟩:=hh;refine cZ<|eG C (tq C m) rfl<|ag rfl ⟨h.p,h.dp,_,rfl,A.ob,cW,BU (a:="") (k:=5) (λH1 Q1 _ q1=>ao q1) λL U H1 s1 fL hL pv=>?_⟩;obtain⟨ok,cc⟩:=yQ (k:=5) GN (by decide)
 refine⟨F0,h,t0,0,r,none,L,U,zc,t1.cps.toList,rfl,A.same s1,λz hz=>hz.elim,hL,pv,ok,cc,by show 2<=10000;decide,vO,GP,by decide+kernel,λv H2 b2 A2=>?_⟩
 have e1:(⟨t1.cps.toList.toArray⟩:Str)=t1:=gP rfl;rw[e1] at A2;refine YL<|aY<|eG C (tu C m g) rfl<|ag rfl ⟨h.p,h.dp,_,rfl,A2.ob,cW,bN<|ak<|ao<|ak<|ag rfl<|ak<|ao<|ak<|ag rfl<|ak<|bV<|ak<|bN<|ak<|ao<|ak<|ao<|aA ⟨bQ,λt ft=>aA ⟨dz,λb fb=>aA ⟨j0,λl G=>?_⟩⟩⟩⟩;have s3:=sameNew (o:=.tup [V.str "keep",V.int 5]) ft;have ht:=aw (H:=H2) (a:=t) (o:=.tup [V.str "keep",V.int 5]);generalize upd H2 t (.tup [V.str "keep",V.int 5])=H3 at s3 ht fb G⊢;have s4:=sameNew (o:=.lst [V.ref t]) fb;have hb:=aw (H:=H3) (a:=b) (o:=.lst [V.ref t]);generalize upd H3 b (.lst [V.ref t])=H4 at s4 hb G⊢;have s5:=sameNew (o:=.tup [V.str "took",V.int (h.own:Nat),V.int 1,V.int (h.own:Nat),V.ref b]) G;have hl:=aw (H:=H4) (a:=l) (o:=.tup [V.str "took",V.int (h.own:Nat),V.int 1,V.int (h.own:Nat),V.ref b]);generalize upd H4 l (.tup [V.str "took",V.int (h.own:Nat),V.int 1,V.int (h.own:Nat),V.ref b])=H5 at s5 hl⊢;have A5:=A2.same ((s3.trans s4).trans s5);refine⟨F0,h,t1,r+1,some zc,l,b,h.own,_,[.keep 5],rfl,A5,λz hz=>hz.elim,hl,ho,s5 _ _ hb,.cons ⟨t,rfl,s5 _ _<|s4 _ _ ht⟩ .nil,λp hp=>by rw[zag.mp hp];show(1:Int)<=5;lia,rfl,by show 1<=10000;decide,BR,.inr<|.inl ⟨rfl,⟨_,rfl⟩,λtt P0 T0 q' cJ e' H6 b6 A6 GR hP hT=>?_⟩⟩
 refine bN<|ak<|bV<|aA ⟨zqZ _,λa fa=>ak<|bV<|aA ⟨zqZ _,λc fc=>aA ⟨bQ,λd1 fd=>?_⟩⟩⟩;have s7:=sameNew (o:=.lst []) fa;have ha:=aw (H:=H6) (a:=a) (o:=.lst []);generalize upd H6 a (.lst [])=H7 at s7 ha fc fd⊢;have s8:=sameNew (o:=.lst []) fc;have hc:=aw (H:=H7) (a:=c) (o:=.lst []);generalize upd H7 c (.lst [])=H8 at s8 hc fd⊢;have s9:=sameNew (o:=.tup [V.ref a,V.ref c]) fd;have qH:=(s7.trans s8).trans s9;refine qB (d:=.tuple [.list [],.list []]) ⟨tt,_,rfl,qH _ _ GR,_,_,rfl,⟨P0,[],rfl,qH _ _ hP,rfl⟩,_,_,rfl,⟨T0,[],rfl,qH _ _ hT,rfl⟩,rfl⟩ ⟨d1,_,rfl,aw,_,_,rfl,⟨a,[],rfl,s9 _ _<|s8 _ _ ha,rfl⟩,_,_,rfl,⟨c,[],rfl,s9 _ _ hc,rfl⟩,rfl⟩ (by decide+kernel) ⟨_,rfl,iF (bU ?_) rfl⟩
 have A9:=A6.same qH;have b9:bG (λz=>z=h.p\/z=h.q) H (upd H8 d1<|.tup [V.ref a,V.ref c]):=λz o ez n=>qH _ _ (b6 _ _ (((s3.trans s4).trans s5) _ _<|b2 _ _ (s1 _ _ ez) λy=>n (.inr y)) λy=>n (.inl y));generalize upd H8 d1 (.tup [V.ref a,V.ref c])=H9 at A9 b9⊢;refine bL<|gG<|gg<|cq C (oz C m) rfl<|ag rfl ⟨h.p,h.dp,_,rfl,A9.ob,cW,F0,⟨h.p,h.dp,q',cJ,e',h.own⟩,_,_,_,_,rfl,A9,ao<|gB ⟨_,rfl,iT ?_ rfl⟩⟩;refine gG<|gg<|cq C (jq C m) rfl<|ag rfl ⟨h.p,h.dp,_,rfl,A9.ob,cW,F0,⟨h.p,h.dp,q',cJ,e',h.own⟩,_,_,_,_,rfl,A9,ao<|qG ⟨_,rfl,iT ?_ rfl⟩⟩;refine ou<|gg<|cq C (mL C m) rfl<|ag rfl ⟨h.p,h.dp,_,rfl,A9.ob,cW,F0,⟨h.p,h.dp,q',cJ,e',h.own⟩,_,_,_,none,rfl,A9,?_⟩;show aj (Q8 K C m g E) (.c .av) _ H9 _;exact ao<|jn<|q _ _ _ _ b9 A9
theorem ag5(k:Fin 7):SeqAt.shaped (.list [.list<|(vc k.1).map toD])=true:=by
 have:∀k:Fin 7,SeqAt.shaped (.list [.list<|(vc k.1).map toD])=true:=by decide+kernel
 exact this k
def oP(y:Str)(G:Option bi):Prop:=(G=none/\y=t0)\/(G=some zc/\y=t1)
theorem oP.good(t:oP y G):good y/\(y.length=5\/y.length=6):=by
 rcases t with⟨_,rfl⟩|⟨_,rfl⟩
 ·exact⟨vO,.inl (by decide+kernel)⟩
 ·exact⟨BR,.inr (by decide+kernel)⟩
theorem oP.pre(t:oP y G):FP (vc 5) y G:=by
 rcases t with⟨rfl,rfl⟩|⟨rfl,rfl⟩
 ·exact⟨_,GO (y:="v") (by decide+kernel),by decide+kernel⟩
 ·obtain⟨ok,cc⟩:=yQ (k:=5) GN (by decide)
  exact⟨t0.cps.toList,_,ok,cc,by decide,by decide+kernel,GO (y:="v") (by decide+kernel),GP,by decide+kernel⟩
theorem oP.out(t:oP y G){r0:bn}{o:Option bi}(h:FQ (vc 5) y G Z r0 o):Z=vc y.length/\(⟨r0.toArray⟩:Str)=("v":Str)++y:=by
 have key:∀{k:Nat},Run y.cps.toList (vc k) r0->(⟨r0.toArray⟩:Str)=("v":Str)++y:=λhr=>gP (by rw[app_list];exact ag1 hr)
 rcases t with⟨rfl,rfl⟩|⟨rfl,rfl⟩
 ·obtain⟨rfl,_,hr⟩:=h;exact⟨by rw[show t0.length=5 by decide+kernel],key hr⟩
 ·obtain⟨l,m0,qs,_,P0,hr⟩:=h;have e:=ag3 P0;subst e;exact⟨by rw[show t1.length=6 by decide+kernel],key hr⟩
inductive BV(C m:wl)(B:be)(H:Hp)(Q:VK)(E:XK):Prop|i(h:zbO)(y:Str)(r:Nat)(G:Option bi)(_:B=[.ref h.p,.int (h.own:Nat)])(_:cD F0 C m H h y 0 r G)(_:oP y G)(_:h.own<=7)(_:∀q dq e o Y,bG (λz=>z=h.p\/z=h.q) H Y->cD F0 C m Y ⟨h.p,h.dp,q,dq,e,h.own⟩ (("v":Str)++y) 1 r o->Q (.bl true) Y)
abbrev GLc(K:Frag)(C m g:wl)(E:XK):aS:=aR K [] [] [] [("text",C,jq C m),("came",C,tu C m g),("seen",C,oz C m)] (E:=E)
theorem ag7(B:be)(H:Hp)(Q:VK)(E:XK)(hh:BV C m B H Q E):aB (GLc K C m g E) NF (Dn Q) (start ND B) H:=by
 obtain⟨h,y,r,G,rfl,A,t,ho,q⟩:=hh;obtain⟨gy,ly⟩:=t.good;refine bq<|cq C (jq C m) rfl<|ag rfl ⟨h.p,h.dp,_,rfl,A.ob,cW,F0,h,y,0,r,G,rfl,A,?_⟩;obtain⟨w0,hw⟩:=zaK (fD (c:=(h.own:Int)+1) (b:=8) (by decide))
 have hw8:=i5 (c:=(h.own:Int)+1) (b:=8) (by decide)
 have nw:w0≠h.own:=by lia
 refine aew<|eG C (tu C m g) rfl<|ag rfl ⟨h.p,h.dp,_,rfl,A.ob,cW,bN<|ak<|ao<|ak<|ag rfl<|ak<|ao<|ak<|aV<|aV<|ag rfl<|ao<|cv<|ao<|lP (by decide)<|ak<|BU (a:="") (k:=5) (λH1 Q1 _ q1=>ao q1) λL U H1 s1 fL hL pv=>aA ⟨j0,λl G=>?_⟩⟩
 rw[hw] at*;have s2:=sameNew (o:=.tup [V.str "took",V.int (h.own:Nat),V.int 1,V.int (w0:Nat),V.ref L]) G;have hl:=aw (H:=H1) (a:=l) (o:=.tup [V.str "took",V.int (h.own:Nat),V.int 1,V.int (w0:Nat),V.ref L]);generalize upd H1 l (.tup [V.str "took",V.int (h.own:Nat),V.int 1,V.int (w0:Nat),V.ref L])=H2 at s2 hl⊢;have A2:=A.same (s1.trans s2);obtain⟨ok,cc⟩:=yQ (k:=5) BS (by decide)
 refine⟨F0,h,y,r,_,l,L,w0,U,vc 5,rfl,A2,λz hz=>hz.elim,hl,by lia,s2 _ _ hL,pv.mono<|cB s2,ok,cc,by show 2<=10000;decide,gy,.inr<|.inr ⟨nw,t.pre,λtt P0 T0 a zs Z r0 o q' cJ e' H3 out b3 A3 GR hP hT ha pz=>?_⟩⟩
 obtain⟨rfl,er⟩:=t.out out;rw[er] at A3;refine aex GR ?_;refine YL<|eY<|aY<|ag rfl<|bV<|aA ⟨zqZ _,λc fc=>?_⟩;have s4:=sameNew (o:=.lst []) fc;refine qB (d:=.list []) ⟨P0,[],rfl,s4 _ _ hP,rfl⟩ ⟨c,[],rfl,aw,rfl⟩ (by decide+kernel) ⟨_,rfl,iF ?_ rfl⟩
 have A4:=A3.same s4;generalize upd H3 c (.lst [])=H4 at s4 A4⊢;refine kr<|aY<|ag rfl<|bV<|ak<|BU (a:="") (k:=y.length) (λH1 Q1 _ q1=>gC<|ag rfl ⟨cK gy.1,q1⟩) λL5 x5 H5 s5 f5 h5 p5=>aA ⟨dz,λd1 fd=>?_⟩;have s6:=sameNew (o:=.lst [V.ref L5]) fd;have gi:=s4.trans (s5.trans s6);have k7:y.length<7:=by lia
 refine qB (d:=.list [.list<|(vc y.length).map toD]) ⟨T0,_,rfl,gi _ _ hT,_,_,rfl,⟨a,zs,rfl,gi _ _ ha,xa<|pz.mono<|cB gi⟩,rfl⟩ ⟨d1,_,rfl,aw,_,_,rfl,⟨L5,x5,rfl,s6 _ _ h5,xa<|p5.mono<|cB s6⟩,rfl⟩ (ag5 ⟨y.length,k7⟩) ⟨_,rfl,iF (bU ?_) rfl⟩;have A6:=A4.same (s5.trans s6);have b6:bG (λz=>z=h.p\/z=h.q) H (upd H5 d1<|.lst [V.ref L5]):=λz o ez n=>gi _ _ (b3 _ _ ((s1.trans s2) _ _ ez) λy=>n (.inl y));generalize upd H5 d1 (.lst [V.ref L5])=H6 at A6 b6⊢;have w1:("v":Str).length+y.length<=1000000:=by
  have:("v":Str).length=1:=by decide+kernel
  lia
 refine bL<|gG<|gg<|cq C (oz C m) rfl<|ag rfl ⟨h.p,h.dp,_,rfl,A6.ob,cW,F0,⟨h.p,h.dp,q',cJ,e',h.own⟩,_,_,_,_,rfl,A6,ao<|gB ⟨_,rfl,iT ?_ rfl⟩⟩;exact ou<|gg<|cq C (jq C m) rfl<|ag rfl ⟨h.p,h.dp,_,rfl,A6.ob,cW,F0,⟨h.p,h.dp,q',cJ,e',h.own⟩,_,_,_,_,rfl,A6,aV<|ao<|ag rfl<|Pp w1<|qG<|q _ _ _ _ _ b6 A6⟩
variable {l n:wl}{p:bn}{sc L:wl}{c:pr}{E:XK}
theorem ag8(c:pr)(lo hi:Int):∃ms:pr,jb (c.map V.int) (some lo) (some hi)=ms.map V.int/\(0<=lo->lo<=hi->ms.length<= (hi - lo).toNat):=by
 refine⟨(c.drop<|HT.bu c.length 0<|some lo).take<|HT.bu c.length c.length (some hi) - HT.bu c.length 0 (some lo),?_,λh0 h1=>?_⟩
 ·unfold jb;rw[zaf,<-List.map_drop,<-List.map_take]
 ·obtain⟨l0,rfl⟩:=zaK h0;obtain⟨h,rfl⟩:=zaK (Int.le_trans h0 h1);rw[zav,zaC,HT.oZ,HT.oZ];lia
structure LS (K:Frag) (X C m:wl) (w H:Hp) (sc:wl) (c:pr) (s:Sv) (h:zbO) (x:Str) (D:bn) (T:List (Nat×bi)) (y:Str) (r:Nat) (G:Option bi) (L:wl) (p:bn):Prop where
 sm:au w H
 sc:aE K w sc (c.map V.int)
 sv:bR X H s x D T
 ha:cD s.M C m H h y 0 r G
 t:oP y G
 f:vM G r
 ho:h.own<=7
 hL:H L=some (.lst<|nV p)
 nL:¬s.M L
 hx:iG x
 f0:w s.p=none/\∀z,s.M z->w z=none
 l1:1<=D.length
 l8:D.length<=8
theorem LS.same(A:LS K X C m w H sc c s h x D T y r G L p)(t:au H Y):LS K X C m w Y sc c s h x D T y r G L p:=
 {A with sm:=A.sm.trans t,sv:=A.sv.same t,ha:=A.ha.same t,hL:=t _ _ A.hL}
theorem LS.fs(A:LS K X C m w H sc c s h x D T y r G L p){x':Str}{qC:bn}{yJ:List (Nat×bi)}(f:FS s H Y)(S1:bR X Y s x' qC yJ)(hx:iG x')(e:qC.length=D.length):LS K X C m w Y sc c s h x' qC yJ y r G L p:=
 {A with sm:=λz o ez=>f _ _ (A.sm _ _ ez) (aO ez A.f0.1) (λhm=>by have:=A.f0.2 z hm;rw[ez] at this;cases this),sv:=S1,ha:=A.ha.fs A.sv f,hL:=f _ _ A.hL (λy=>by have:=A.sv.ob;have:=A.hL;rw[y,A.sv.ob] at this;cases this) A.nL,hx:=hx,l1:=e ▸ A.l1,l8:=e ▸ A.l8}
theorem vP{k:Int}(hf:J.fs 0=Av K)(e:N[0]?=some (some<|.ref sc))(hs:aE K H sc (c.map V.int))(hk:0<=k)(q:Q (.int<|cell c k.toNat) H):aj J (.call 0 [.v 0,(.c<|.int k)]) N H Q:=ba (Av K) hf (ak<|ag e<|ak<|ao<|aA ⟨sc,c,k,rfl,hs,hk,q⟩)
abbrev eZ(K:Frag)(X C m d g u S l n:wl)(E:XK):aS:=aR K [("_law_cell_at",Av K),("_law_taken",Gv X),("_law_all",BN X C m),("_law_server_refused",lR X d g),("_law_no_ask",Gh X),("_law_hand_refused",vN C m g),("_law_no_took",Gq C m),("_law_unfit",BL X),("_law_others_refused",Gy X C m),("_law_early",GC X),("_law_cut",GD X),("_law_goes_on",GI X),("_law_later",GL X),("_law_change_refused",mW C m S d),("_law_own_comes",GQ C m),("_law_letter_comes",BV C m)] [] [] [("do",C,tq C m),("flight",C,mL C m),("came",X,i4 X d g),("many",X,df X),("text",C,jq C m)] [("Server",X,tF X l n),("Hand",C,tj C m l n)] (E:=E)
theorem cD.f0{M:MS}(A:cD M C m H h y P r G):cD F0 C m H h y P r G:=⟨A.ob,A.st.weak λ_ hz=>hz.elim⟩
theorem ag9{b t:wl}{k:Nat}(A:cD F0 C m H h y P r G)(gy:good y)(hb:H b=some (.lst [.ref t]))(ht:H t=some (.tup [.str "keep",.int (k:Nat)]))(hk:k=y.length)(h1:1<=k)(q:∀Y,Q (.str "") Y){E:XK}:mW C m S d [.ref h.p,.ref b] H Q E:=by
 have ll:=len_list y;have g1:=gy.1;have run:Run y.cps.toList [.keep (k:Nat)] y.cps.toList:=by
  have a:=Run.keep (a:=y.cps.toList) (n:=(k:Nat)) (by lia) Run.nil
  rw[zac] at a;exact a
 refine⟨h.p,h.dp,_,_,rfl,A.ob,cW,λQ2 E2 hQ _=>.inl ⟨F0,h,y,P,r,G,b,_,[.keep (k:Nat)],y.cps.toList,rfl,A,λz hz=>hz.elim,hb,.cons ⟨t,rfl,ht⟩ .nil,λp0 hp=>by rw[zag.mp hp];show(1:Int)<=_;lia,rfl,by show 1<=10000;decide,gy,run,by lia,?_⟩⟩
 cases G with
 |none=>exact λv Y _ _=>hQ v Y (q Y)
 |some _=>exact λv Y=>hQ v Y (q Y)
theorem v1:("v":Str).length=1:=by decide+kernel
theorem GS{F t:wl}{k:Nat}{u1 u2 u3 u5 u6 u7 u8 u9:sK}(A:cD F0 C m H h y P r G)(gy:good y)(hF:H F=some (.lst [.ref t]))(ht:H t=some (.tup [.str "keep",.int (k:Nat)]))(hk:k=y.length)(h1:1<=k)(q:∀Y,Q (.bl true) Y):
  aB (eZ K X C m d g u S l n E) (bJ.drop 21) (Dn Q) [some<|.ref sc,u1,u2,u3,some<|.ref h.p,u5,u6,u7,u8,u9,some<|.ref F,some<|.bl true] H:=by
 refine bL<|gG<|ag rfl ⟨_,rfl,iT (ou<|gg<|ba (mW C m S d) rfl<|ak<|ag rfl<|ak<|ag rfl<|aA ?_) rfl⟩;refine ag9 A gy hF ht hk h1 λY=>?_;exact ao<|qG<|q Y
theorem ag_{F t:wl}{u1 u3 u5 u6 u7 u8 u9 i6:sK}(sq:aE K H sc (c.map V.int))(A:cD M C m H h y 0 r G)(T0:oP y G)(ho:h.own<=7)(hF:H F=some (.lst [.ref t]))(ht:H t=some (.tup [.str "keep",.int ((y.length+1:Nat):Int)]))(q:∀Y,Q (.bl true) Y):
  aB (eZ K X C m d g u S l n E) (bJ.drop 20) (Dn Q) [some<|.ref sc,u1,some<|.int (h.own:Nat),u3,some<|.ref h.p,u5,u6,u7,u8,u9,some<|.ref F,i6] H:=by
 obtain⟨gy,ly⟩:=T0.good;have np:F≠h.p:=λe=>by have:=A.ob;rw[<-e,hF] at this;cases this
 have GU:t≠h.p:=λe=>by have:=A.ob;rw[<-e,ht] at this;cases this
 obtain⟨_,hq,_⟩:=A.st.ob;have nq:F≠h.q:=λe=>by rw[<-e,hF] at hq;cases hq
 have GV:t≠h.q:=λe=>by rw[<-e,ht] at hq;cases hq
 have aha:aB (eZ K X C m d g u S l n E) [.asg 11<|.call 15 [.v 4,.v 2]] {nx:=aB (eZ K X C m d g u S l n E) (bJ.drop 21) (Dn Q),rt:=(Dn Q).rt} [some<|.ref sc,u1,some<|.int (h.own:Nat),u3,some<|.ref h.p,u5,u6,u7,u8,u9,some<|.ref F,i6] H:=by
  refine bq<|ba (BV C m) rfl<|ak<|ag rfl<|ak<|ag rfl<|aA ⟨h,y,r,G,rfl,A.f0,T0,ho,λq' cJ e' o Y b A'=>?_⟩;have lv:(("v":Str)++y).length=y.length+1:=by rw[n_,v1];lia
  exact GS (h:=⟨h.p,h.dp,q',cJ,e',h.own⟩) A' (Ow BS.1 gy (by rw[v1];lia)) (b _ _ hF λz=>z.elim np nq) (b _ _ ht λz=>z.elim GU GV) lv.symm (zbB ..) q
 rcases T0 with⟨rfl,rfl⟩|⟨rfl,rfl⟩
 ·refine YL (mH<|aY<|cq C (mL C m) rfl<|ag rfl ⟨h.p,h.dp,_,rfl,A.ob,cW,M,h,_,_,_,none,rfl,A,?_⟩);show aj (eZ K X C m d g u S l n E) (.c .av) _ H _;refine ao<|jn ⟨_,rfl,iT ?_<|zqT rfl⟩;refine aY<|aV<|aV<|vP rfl rfl sq (by decide)<|ao<|sZ ⟨by decide,by decide⟩<|ao<|lP (by decide)<|ao<|gB ⟨_,rfl,kR (λhc=>?_)<|λhc=>aha⟩
  refine bq<|ba (GQ C m) rfl<|ak<|ag rfl<|ak<|ag rfl<|aA ⟨h,r,rfl,A.f0,ho,λq' cJ e' Y b A'=>?_⟩;exact GS (h:=⟨h.p,h.dp,q',cJ,e',h.own⟩) A' BR (b _ _ hF λz=>z.elim np nq) (b _ _ ht λz=>z.elim GU GV) (by decide+kernel) (by decide+kernel) q
 ·refine YL (mH<|aY<|cq C (mL C m) rfl<|ag rfl ⟨h.p,h.dp,_,rfl,A.ob,cW,M,h,_,_,_,some zc,rfl,A,?_⟩);intro l0 H1 U s1 hl pv;show aj (eZ K X C m d g u S l n E) (.c .av) _ H1 _;refine ao<|jn ⟨_,rfl,iF ?_ qr⟩;refine bq<|ba (BV C m) rfl<|ak<|ag rfl<|ak<|ag rfl<|aA ⟨h,t1,r,some zc,rfl,(A.same s1).f0,.inr ⟨rfl,rfl⟩,ho,λq' cJ e' o Y b A'=>?_⟩;have lv:(("v":Str)++t1).length=t1.length+1:=by decide+kernel
  exact GS (h:=⟨h.p,h.dp,q',cJ,e',h.own⟩) A' (Ow BS.1 BR (by decide+kernel)) (b _ _ (s1 _ _ hF) λz=>z.elim np nq) (b _ _ (s1 _ _ ht) λz=>z.elim GU GV) lv.symm (zbB ..) q
theorem LS.smf(A:LS K X C m w H sc c s h x D T y r G L p)(f:FS s H Y):au w Y:=λz o ez=>f _ _ (A.sm _ _ ez) (aO ez A.f0.1) (λhm=>by have:=A.f0.2 z hm;rw[ez] at this;cases this)
theorem vQ(h:1<=D.length):(nV D)[0]?=some (.int ((D.getD 0 0:Nat):Int)):=by
 cases D with
 |nil=>exact absurd h (Nat.not_succ_le_zero _)
 |cons a r0=>rfl
theorem ahc{u7 u8 u9 kI i6:sK}{u6:sK}(A:LS K X C m w H sc c s h x D T y r G L D)(lt:T.length<=5)(hs:D.getD 0 0<=T.length)(lx:5<=x.length)(qD:x.length<=10)(q:∀Y,Q (.bl true) Y):
  aB (eZ K X C m d g u S l n E) (bJ.drop 15) (Dn Q) [some<|.ref sc,some<|.int (D.length:Nat),some<|.int (h.own:Nat),some<|.ref s.p,some<|.ref h.p,some<|.ref L,u6,u7,u8,u9,kI,i6] H:=by
 have l1:=A.l1;have l8:=A.l8;refine bq<|cq X (df X) rfl<|ag rfl ⟨s.p,s.dx,_,rfl,A.sv.ob,cg,s,x,D,T,rfl,A.sv,?_⟩;refine YL<|eY<|cN<|eI (GC X) rfl<|ak<|ag rfl<|aA ⟨s,x,D,T,rfl,A.sv,l1,λH1 s1=>cU<|iF ?_ rfl⟩;have A1:=A.same s1;refine kr<|cN<|eI (GD X) rfl<|ak<|ag rfl<|ak<|aV<|a_<|ag rfl<|ao<|iY A1.hL (fH (j:=0)<|vQ l1)<|ao<|cv<|aA ⟨s,x,D,T,rfl,A1.sv,A1.hx,by lia,l1,l8,by lia,λx2 c2 H2 f2 S2 pB ajM=>cU<|iF (bU ?_) rfl⟩
 have GW:(D.set 0<|D.getD 0 0+1).length=D.length:=zaR ..;have A2:=A1.fs f2 S2 pB GW;have g2:=GF (a:=D.getD 0 0+1) l1;have xX:(T++[(0,c2)]).length=T.length+1:=by rw[zqA];rfl
 generalize D.set 0 (D.getD 0 0+1)=yR at S2 GW A2 g2;generalize T++[(0,c2)]=GX at S2 xX A2;show aB (eZ K X C m d g u S l n E) (bJ.drop 17) (Dn Q) [some<|.ref sc,some<|.int (D.length:Nat),some<|.int (h.own:Nat),some<|.ref s.p,some<|.ref h.p,some<|.ref L,u6,u7,u8,some<|.int (T.length:Nat),kI,i6] H2;have ev:[V.ref s.p,.int (D.length:Nat),.int ((D.getD 0 0:Nat)+2:Int)]=[.ref s.p,.int (yR.length:Nat),.int ((yR.getD 0 0:Nat)+1:Int)]:=by rw[GW,g2];congr 3
 refine YL<|eY<|cN<|eI (GI X) rfl<|ak<|ag rfl<|ak<|ag rfl<|ak<|aV<|a_<|ag rfl<|ao<|iY A2.hL (fH (j:=0)<|vQ l1)<|ao<|cv<|aA ⟨s,x2,yR,GX,ev,S2,pB,by lia,by lia,by lia,by lia,by lia,λx3 c3 H3 f3 S3=>cU<|iF ?_ rfl⟩
 have sm3:=A2.smf f3;have ha3:=A2.ha.fs S2 f3;have lt3:(GX++[(0,c3)]).length=GX.length+1:=by rw[zqA];rfl
 have g3:=GF (a:=yR.getD 0 0+1) (D:=yR) (by lia)
 refine kr<|cN<|eI (GL X) rfl<|ak<|ag rfl<|ak<|ag rfl<|aA ⟨s,x3,_,_,T.length,rfl,S3,by lia,by rw[zaR];lia,by rw[g3];lia,by lia,λH4 s4=>cU<|iF (bU ?_) rfl⟩
 have GY:=ha3.same s4;have BW:=sm3.trans s4;obtain⟨gy,ly⟩:=A.t.good;refine bq<|bV<|ak<|bN<|ak<|ao<|ak<|aV<|gC<|cq C (jq C m) rfl<|ag rfl ⟨h.p,h.dp,_,rfl,GY.ob,cW,s.M,h,y,0,r,G,rfl,GY,⟨cK gy.1,ao<|cv<|aA ⟨bQ,λt ft=>aA ⟨dz,λF fF=>?_⟩⟩⟩⟩;have s5:=sameNew (o:=.tup [V.str "keep",V.int<|(y.length:Int)+1]) ft;have ht:=aw (H:=H4) (a:=t) (o:=.tup [V.str "keep",V.int<|(y.length:Int)+1]);generalize upd H4 t (.tup [V.str "keep",V.int<|(y.length:Int)+1])=H5 at s5 ht fF⊢;have s6:=sameNew (o:=.lst [V.ref t]) fF;have hF:=aw (H:=H5) (a:=F) (o:=.lst [V.ref t]);generalize upd H5 F (.lst [V.ref t])=H6 at s6 hF⊢;have gi:=s5.trans s6;have yv:=GY.same gi;have yk:=s6 _ _ ht;refine YL<|aY<|ba (mW C m S d) rfl<|ak<|ag rfl<|ak<|qo<|ag rfl ⟨_,.inl<|aE.of hF,λG0 fG=>aA ?_⟩;have s7:=sameNew (o:=.lst [V.ref t]) fG;have ll:=len_list y;refine QK (yv.same s7) gy (vL (p:=.keep ((y.length:Int)+1)) aw (s7 _ _ yk) (by show(1:Int)<=_;lia)) (by show 1<=10000;decide) (Gr (by lia)) λH8 s8=>?_
 refine ao<|js<|iF (bU ?_) rfl;have BX:=s7.trans s8;exact ag_ (((BW.trans gi).trans BX).seq A.sc) (yv.same BX) A.t A.ho (BX _ _ hF) (BX _ _ yk) q
theorem ahf{u7 u9 kI i6:sK}{u6:sK}{c6:Int}(e6:u6=some (.int c6))(A:LS K X C m w H sc c s h x D T y r G L D){D00:Ends}{r0:ci}(lt:T.length<=5)(k:∀u8 Y,au H Y->aB (eZ K X C m d g u S l n E) r0 D00 [some<|.ref sc,some<|.int (D.length:Nat),some<|.int (h.own:Nat),some<|.ref s.p,some<|.ref h.p,some<|.ref L,u6,u7,u8,u9,kI,i6] Y):
  aB (eZ K X C m d g u S l n E) (.nG 8 .list [(.lst [(.jD (.cmp .Gt (.ix (.v 5)<|.c<|.int 0)<|.c<|.int 0) (.blt .max [(.c<|.int 0),(.bin .Sub (.ix (.v 5)<|.c<|.int 0)<|.c<|.int 1)])<|.c<|.int 1),(.bin .Add (.ix (.v 5)<|.c<|.int 0)<|.c<|.int 1)])] [.ite (.cmp .NotEq (.aG 2 "came" (.v 3) [(.call 7 [.v 3,(.tup [.v 6,.v 8])])])<|.lst []) [.ret<|.c<|.bl false] []]::r0) D00 [some<|.ref sc,some<|.int (D.length:Nat),some<|.int (h.own:Nat),some<|.ref s.p,some<|.ref h.p,some<|.ref L,u6,u7,none,u9,kI,i6] H:=by
 subst e6;have l1:=A.l1;have l8:=A.l8;have two:∀(Q1:VK),(∀a:Nat,a≠D.getD 0 0->Q1 (.int (a:Nat)) H)->aj (eZ K X C m d g u S l n E) (.jD (.cmp .Gt (.ix (.v 5)<|.c<|.int 0)<|.c<|.int 0) (.blt .max [(.c<|.int 0),(.bin .Sub (.ix (.v 5)<|.c<|.int 0)<|.c<|.int 1)])<|.c<|.int 1) [some<|.ref sc,some<|.int (D.length:Nat),some<|.int (h.own:Nat),some<|.ref s.p,some<|.ref h.p,some<|.ref L,some<|.int c6,u7,none,u9,kI,i6] H Q1:=by
  intro Q1 q1;refine qq<|aY<|a_<|ag rfl<|ao<|iY A.hL (fH (j:=0)<|vQ l1)<|ao<|vy ⟨_,rfl,kR (λhg=>?_)<|λhg=>?_⟩
  ·have hg:=IO hg;show bw (eZ K X C m d g u S l n E) [(.c<|.int 0),(.bin .Sub (.ix (.v 5)<|.c<|.int 0)<|.c<|.int 1)] _ H λU H1=>kT (eZ K X C m d g u S l n E).K .max U H1 Q1;refine ak<|ao<|ak<|aV<|a_<|ag rfl<|ao<|iY A.hL (fH (j:=0)<|vQ l1)<|ao<|gR<|aA ?_;show Q1 (.int (if ((D.getD 0 0:Nat):Int) - 1>0 then ((D.getD 0 0:Nat):Int) - 1 else 0)) H
   rw[show(if ((D.getD 0 0:Nat):Int) - 1>0 then ((D.getD 0 0:Nat):Int) - 1 else 0)=((D.getD 0 0 - 1:Nat):Int) by split<;>lia]
   exact q1 _ (by lia)
  ·have hg:=of_decide_eq_false (Bool.eq_false_iff.mpr hg);exact ao<|q1 1 (by lia)
 refine AZ<|bV<|ak<|two _ λa na=>?_;refine ak<|aV<|a_<|ag rfl<|ao<|iY A.hL (fH (j:=0)<|vQ l1)<|ao<|cv<|aA ⟨bQ,λW1 fW=>?_⟩;have s1:=sameNew (o:=.lst [V.int (a:Nat),V.int ((D.getD 0 0:Nat)+1:Int)]) fW;have hW:=aw (H:=H) (a:=W1) (o:=.lst [V.int (a:Nat),V.int ((D.getD 0 0:Nat)+1:Int)]);generalize upd H W1 (.lst [V.int (a:Nat),V.int ((D.getD 0 0:Nat)+1:Int)])=H1 at s1 hW⊢;refine⟨W1,rfl,⟨_,aE.of hW⟩,m4 (K:=K) (a:=W1) (xs:=[V.int (a:Nat),V.int ((D.getD 0 0:Nat)+1:Int)]) (λi N H2=>∃u8,N=[some<|.ref sc,some<|.int (D.length:Nat),some<|.int (h.own:Nat),some<|.ref s.p,some<|.ref h.p,some<|.ref L,some<|.int c6,u7,u8,u9,kI,i6]/\au H1 H2) ⟨_,rfl,au.refl _⟩ (λi N H2 _ ⟨_,_,s2⟩=>aE.of (s2 _ _ hW)) ?_ ?_⟩
 ·rintro i v N H2 hi ⟨u8,rfl,s2⟩;obtain⟨b,rfl,nb⟩:∃b:Nat,v=.int (b:Nat)/\b≠D.getD 0 0:=by
   match i,hi with
   | 0,hi=>cases hi;exact⟨a,rfl,na⟩
   | 1,hi=>cases hi;exact⟨D.getD 0 0+1,rfl,by lia⟩
  have A2:=A.same (s1.trans s2);show aB (eZ K X C m d g u S l n E) _ _ [some<|.ref sc,some<|.int (D.length:Nat),some<|.int (h.own:Nat),some<|.ref s.p,some<|.ref h.p,some<|.ref L,some<|.int c6,u7,some<|.int (b:Nat),u9,kI,i6] H2;refine YL<|aY<|eG X (i4 X d g) rfl<|ag rfl ⟨s.p,s.dx,_,rfl,A2.sv.ob,cg,ba (BL X) rfl<|ak<|ag rfl<|ak<|bN<|ak<|ag rfl<|ak<|ag rfl<|aA ⟨bQ,λct GZ=>aA ?_⟩⟩;have s3:=sameNew (o:=.tup [V.int c6,V.int (b:Nat)]) GZ;have A3:=A2.same s3;refine⟨s,x,D,T,ct,c6,b,rfl,A3.sv,aw,A3.hx,λlt b' cs H4 s4 fb bY ic lc nr=>?_⟩;have A4:=A3.same s4;refine⟨s,x,D,T,_,2,rfl,A4.sv,lt,b',0,b+1,T.length,cs,rfl,bY,by lia,zqR _,zbB ..,ic,by lia,λP0 H5 s5 hP=>?_⟩
  refine bV<|aA ⟨zqZ _,λP2 GJ=>?_⟩;have s6:=sameNew (o:=.lst []) GJ;exact qB (d:=.list []) ⟨P0,[],rfl,s6 _ _ hP,rfl⟩ ⟨P2,[],rfl,aw,rfl⟩ (by decide+kernel) ⟨_,rfl,iF (bU ⟨_,rfl,(((s2.trans s3).trans s4).trans s5).trans s6⟩) rfl⟩
 ·rintro N H2 ⟨u8,rfl,s2⟩;exact k _ _<|s1.trans s2
theorem ahg{lt b:wl}{R:be}{c0:bi}(A:cD M C m H h y 0 r none)(al:Al M H)(ho:h.own<=7)(hl:H lt=some (.tup<|FO h.own 1 h.own b))(hb:H b=some (.lst R))(pv:bh H R c0)(ok:∀p0∈c0,bx p0)(cc:chainOk "" c0=true)(lc:c0.length<=10000)(gy:good y)(q:∀Y,au H Y->Q (.str "letter") Y){E:XK}:vN C m g [.ref h.p,.ref lt] H Q E:=
 ⟨h.p,h.dp,_,_,rfl,A.ob,cW,λQ2 E2 _ hE=>.inl ⟨M,h,y,r,none,lt,b,h.own,R,c0,rfl,A,al,hl,ho,hb,pv,ok,cc,lc,gy,.inl ⟨rfl,rfl,λH1 s1=>hE g 9 H1 (.head _) λH2 s2=>q _ (s1.trans s2)⟩⟩⟩
theorem ahh{lt b:wl}{cs:bi}(S1:bR X H s x D T)(gx:good x)(l1:1<=D.length)(l8:D.length<=8)(lk:T.length<=100)(hl:H lt=some (.tup<|tH 0 (D.getD 0 0+1) T.length b))(ic:eK (.ref b) H cs)(lc:cs.length<=10000)(nb:¬s.M b)(nr:¬ ∃r0,Run x.cps.toList cs r0)(q:∀Y,au H Y->Q (.str "fit") Y){E:XK}:lR X d g [.ref s.p,.ref lt] H Q E:=
 ⟨s.p,s.dx,_,_,rfl,S1.ob,cg,λQ2 E2 _ hE=>⟨s,x,D,T,_,3,rfl,S1,lt,b,0,T.length,cs,1,rfl,hl,gx,by lia,l8,lk,ic,lc,nb,zqR _,by decide,rfl,nr,λH1 s1=>hE d 2 H1 (.tail _<|.head _) λH2 s2=>q _ (s1.trans s2)⟩⟩
theorem Q9{u9 kI i6:sK}{u6 u7:sK}(A:LS K X C m w H sc c s h x D T y r G L D)(lt:T.length<=5)(hs:D.getD 0 0<=T.length)(lx:5<=x.length)(qD:x.length<=10)(q:∀Y,Q (.bl true) Y):
  aB (eZ K X C m d g u S l n E) (bJ.drop 6) (Dn Q) [some<|.ref sc,some<|.int (D.length:Nat),some<|.int (h.own:Nat),some<|.ref s.p,some<|.ref h.p,some<|.ref L,u6,u7,none,u9,kI,i6] H:=by
 have l1:=A.l1;have l8:=A.l8;obtain⟨gy,ly⟩:=A.t.good;refine bq<|vP rfl rfl (A.sm.seq A.sc) (by decide) ?_
 generalize cell c (1:Int).toNat=c6;refine bq<|ba (BN X C m) rfl<|ak<|ag rfl<|ak<|ag rfl<|aA ⟨s.M,s,x,D,T,h,y,r,G,rfl,A.sv,A.ha,A.f,A.ho,λt7 H1 s1 h7=>?_⟩;have A1:=A.same s1;show aB (eZ K X C m d g u S l n E) (bJ.drop 8) (Dn Q) [some<|.ref sc,some<|.int (D.length:Nat),some<|.int (h.own:Nat),some<|.ref s.p,some<|.ref h.p,some<|.ref L,some<|.int c6,some<|.ref t7,none,u9,kI,i6] H1;refine YL<|aY<|ba (lR X d g) rfl<|ak<|ag rfl<|ak<|ba (Gh X) rfl<|ak<|ag rfl<|ak<|ag rfl<|ak<|ag rfl<|aA ⟨s,x,D,T,c6,rfl,A1.sv,l1,l8,by lia,A1.hx.g,λv H2 s2 hv=>aA ?_⟩
 refine Gx (A1.sv.same s2) hv λH3 s3=>?_;refine ao<|js<|iF (bU ?_) rfl;have iZ:=s2.trans s3;have A3:=A1.same iZ;refine YL<|aY<|ba (vN C m g) rfl<|ak<|ag rfl<|ak<|ba (Gq C m) rfl<|ak<|ag rfl<|ak<|ag rfl<|ak<|ag rfl<|aA ⟨s.M,h,y,0,r,G,c6,rfl,A3.ha,A3.ho,gy,λv H4 s4 hv=>aA ?_⟩;refine agC (A3.ha.same s4) hv λH5 s5=>?_;refine ao<|js<|iF (bU ?_) rfl;have yM:=iZ.trans (s4.trans s5);have A5:=A1.same yM;have next:∀H6,au H1 H6->aB (eZ K X C m d g u S l n E) (bJ.drop 11) (Dn Q) [some<|.ref sc,some<|.int (D.length:Nat),some<|.int (h.own:Nat),some<|.ref s.p,some<|.ref h.p,some<|.ref L,some<|.int c6,some<|.ref t7,none,u9,kI,i6] H6:=by
  intro H6 s6;have A6:=A1.same s6;refine YL<|aY<|ba (lR X d g) rfl<|ak<|ag rfl<|ak<|ba (BL X) rfl<|ak<|ag rfl<|ak<|bN<|ak<|ag rfl<|ak<|a_<|ag rfl<|ao<|iY A6.hL (fH (j:=0)<|vQ l1)<|aA ⟨bQ,λct GZ=>aA ?_⟩;have s7:=sameNew (o:=.tup [V.int c6,V.int ((D.getD 0 0:Nat):Int)]) GZ;have A7:=A6.same s7;refine⟨s,x,D,T,ct,c6,D.getD 0 0,rfl,A7.sv,aw,A7.hx,λlt' b cs H8 s8 fb hl ic lc nr=>aA ?_⟩;have A8:=A7.same s8;refine ahh A8.sv A8.hx.g l1 l8 (by lia) hl ic (by lia) (A7.sv.al.no fb) nr λH9 s9=>?_
  refine ao<|js<|iF (bU ?_) rfl;have qH:=(s7.trans s8).trans s9;refine ahf rfl (A6.same qH) lt λu8 HA sA=>?_;have Q_:=s6.trans (qH.trans sA);have AA:=A1.same Q_;refine YL<|cN<|eI (Gy X C m) rfl<|ak<|ag rfl<|ak<|ag rfl<|ak<|vP rfl rfl (AA.sm.seq AA.sc) (by decide)<|aA ⟨s.M,s,x,D,T,h,y,0,r,G,_,rfl,AA.sv,AA.ha,gy,by lia,λHB sB=>cU<|iF (bU ?_) rfl⟩
  have Ra:=Q_.trans sB;have AB:=A1.same Ra;refine YL<|aY<|ag rfl<|ba (BN X C m) rfl<|ak<|ag rfl<|ak<|ag rfl<|aA ⟨s.M,s,x,D,T,h,y,r,G,rfl,AB.sv,AB.ha,AB.f,AB.ho,λt8 HC sC h8=>?_⟩;have Rb:=Ra.trans sC;refine qB (Qz<|Rb _ _ h7) (Qz h8) (agf A.hx.g gy A.ho A.f) ⟨_,rfl,iF (bU ?_) rfl⟩;exact ahc (A1.same Rb) lt hs lx qD q
 rcases A.t with⟨e1,e2⟩|⟨e1,e2⟩
 ·subst e1;refine YL<|mH<|aY<|cq C (mL C m) rfl<|ag rfl ⟨h.p,h.dp,_,rfl,A5.ha.ob,cW,s.M,h,_,_,_,none,rfl,A5.ha,?_⟩;show aj (eZ K X C m d g u S l n E) (.c .av) _ H5 _;refine ao<|jn ⟨_,rfl,iT ?_<|zqT rfl⟩;refine aY<|ba (vN C m g) rfl<|ak<|ag rfl<|ak<|bN<|ak<|ao<|ak<|ag rfl<|ak<|ao<|ak<|ag rfl<|ak<|bV<|ak<|bN<|ak<|ao<|ak<|ao<|aA ⟨bQ,λt ft=>aA ⟨dz,λb fb=>aA ⟨j0,λl0 G=>aA ?_⟩⟩⟩;have s6:=sameNew (o:=.tup [V.str "keep",V.int 5]) ft;have ht:=aw (H:=H5) (a:=t) (o:=.tup [V.str "keep",V.int 5]);generalize upd H5 t (.tup [V.str "keep",V.int 5])=H6 at s6 ht fb G⊢;have s7:=sameNew (o:=.lst [V.ref t]) fb;have hb:=aw (H:=H6) (a:=b) (o:=.lst [V.ref t]);generalize upd H6 b (.lst [V.ref t])=H7 at s7 hb G⊢;have s8:=sameNew (o:=.tup [V.str "took",V.int (h.own:Nat),V.int 1,V.int (h.own:Nat),V.ref b]) G;have hl:=aw (H:=H7) (a:=l0) (o:=.tup [V.str "took",V.int (h.own:Nat),V.int 1,V.int (h.own:Nat),V.ref b]);generalize upd H7 l0 (.tup [V.str "took",V.int (h.own:Nat),V.int 1,V.int (h.own:Nat),V.ref b])=H8 at s8 hl⊢;have Rc:=(s6.trans s7).trans s8;have A8:=A5.same Rc;refine ahg A8.ha A8.sv.al A8.ho hl (s8 _ _ hb) (.cons ⟨t,rfl,s8 _ _<|s7 _ _ ht⟩ .nil:bh _ _ [.keep 5]) (λp0 hp=>by rw[zag.mp hp];show(1:Int)<=5;lia) rfl (by show 1<=10000;decide) gy λH9 s9=>?_
  refine ao<|js<|iF (bU ?_) rfl;exact next _ (yM.trans<|Rc.trans s9)
 ·subst e1;refine YL<|mH<|aY<|cq C (mL C m) rfl<|ag rfl ⟨h.p,h.dp,_,rfl,A5.ha.ob,cW,s.M,h,_,_,_,some zc,rfl,A5.ha,?_⟩;intro l0 H6 U s6 hl pv;show aj (eZ K X C m d g u S l n E) (.c .av) _ H6 _;refine ao<|jn ⟨_,rfl,iF (bU ?_) qr⟩;exact next _ (yM.trans s6)
inductive BY(K:Frag)(B:be)(H:Hp)(Q:VK)(E:XK):Prop|i(a:wl)(c:pr)(_:B=[.ref a])(_:aE K H a (c.map V.int))(_:∀Y,Q (.bl true) Y)
theorem ahi:iG t0:=⟨vO,by decide+kernel,by decide+kernel⟩
theorem ahj(B:be)(H:Hp)(Q:VK)(E:XK)(hh:BY K B H Q E):aB (eZ K X C m d g u S l n E) bJ (Dn Q) (start eE B) H:=by
 obtain⟨sc,c,rfl,yS,q⟩:=hh;have k8:=fD (c:=cell c 0) (b:=8) (by decide)
 have l8:=i5 (c:=cell c 0) (b:=8) (by decide)
 obtain⟨n0,hn⟩:=zaK (show 0<=1+cell c 0 % 8 by lia)
 obtain⟨o,ho⟩:=zaK (fD (c:=cell c 0 / 8) (b:=(n0:Int)) (by lia))
 have lo:=i5 (c:=cell c 0 / 8) (b:=(n0:Int)) (by lia)
 refine bq<|aV<|ao<|aV<|vP rfl rfl yS (by decide)<|ao<|lP (by decide)<|cv ?_
 show aB (eZ K X C m d g u S l n E) (bJ.drop 1) (Dn Q) [some<|.ref sc,some<|.int<|1+cell c 0 % 8,none,none,none,none,none,none,none,none,none,none] H;rw[hn];refine bq<|aV<|aV<|vP rfl rfl yS (by decide)<|ao<|sZ ⟨by decide,by decide⟩<|ag rfl<|lP (by lia) ?_
 show aB (eZ K X C m d g u S l n E) (bJ.drop 2) (Dn Q) [some<|.ref sc,some<|.int (n0:Nat),some<|.int<|cell c 0 / 8 % (n0:Int),none,none,none,none,none,none,none,none,none] H;rw[ho];refine bq<|qf X (tF X l n) rfl<|ao<|ag rfl λp0 dx fp fd nd=>?_;have s1:=qz (C:=X) fp fd nd;refine⟨p0,_,_,rfl,.inr<|.inr ⟨dx,t0,n0,rfl,rfl,aw,vO,by lia,by lia,λr ch I H1 f1 f2 f3 S1 b1=>⟨rfl,?_⟩⟩⟩
 have G0:au H H1:=λz o ez=>b1 _ _ (s1 _ _ ez) (aO ez fp);refine bq<|qf C (tj C m l n) rfl<|ag rfl<|ao λp2 d2 Rf fd2 nd2=>?_;have s2:=qz (C:=C) Rf fd2 nd2;refine⟨p2,_,_,rfl,.inr<|.inr ⟨d2,o,t0,rfl,rfl,aw,by lia,vO,λq2 dq e H2 fq2 b2 A2=>⟨rfl,?_⟩⟩⟩
 have dF:au H1 H2:=λz o ez=>b2 _ _ (s2 _ _ ez) (aO ez Rf);have S2:=S1.same dF;obtain⟨ms,ems,G1⟩:=ag8 c 4 9;have G1:ms.length<=5:=G1 (by decide) (by decide)
 refine bq<|ba (Gv X) rfl<|ak<|ag rfl<|ak<|adP<|ag rfl<|ao ⟨_,rfl,ao ⟨_,rfl,.inl ⟨_,(G0.trans dF).seq yS,λcl Rg=>ak<|ag rfl<|aA ?_⟩⟩⟩;have s3:=sameNew (o:=.lst (jb (c.map V.int) (some 4)<|some 9)) Rg;rw[ems] at s3⊢;have nC:upd H2 cl (.lst<|ms.map V.int) cl=some (.lst<|ms.map V.int):=aw;generalize upd H2 cl (.lst<|ms.map V.int)=H3 at s3 nC⊢;have S3:=S2.same s3;refine⟨⟨p0,dx,r,ch,I⟩,t0,n0,cl,ms,rfl,S3,nC,S2.al.no Rg,G1,by lia,by lia,ahi,by decide+kernel,λL x D T H4 f4 S4 hL nL ln lt hs hx lx qD=>?_⟩
 have A2':cD (Sv.M ⟨p0,dx,r,ch,I⟩) C m H3 ⟨p2,d2,q2,dq,e,o⟩ t0 0 0 none:=by
  have:=A2.same s3;obtain⟨v,g1,g2⟩:=this.st.ob;exact⟨this.ob,⟨⟨v,g1,g2⟩,this.st.he⟩⟩
 have A4:=A2'.fs S3 f4;have g1:H p0=none:=fp;have gM:∀z,Sv.M ⟨p0,dx,r,ch,I⟩ z->H z=none:=λz hz=>by
  have fr:upd (upd H dx<|.own p0) p0 (.ins X dx []) z=none:=by
   rcases hz with rfl|rfl|rfl
   ·exact f1
   ·exact f2
   ·exact f3
  exact s1.free fr
 have BW:au H H4:=λz o ez=>f4 _ _ (s3 _ _<|dF _ _<|G0 _ _ ez) (aO ez g1) λhm=>by have:=gM z hm;rw[ez] at this;cases this
 have B0:LS K X C m H H4 sc c ⟨p0,dx,r,ch,I⟩ ⟨p2,d2,q2,dq,e,o⟩ x D T t0 0 none L D:=⟨BW,yS,S4,A4,.inl ⟨rfl,rfl⟩,.inl rfl,by show o<=7;lia,hL,nL,hx,⟨g1,gM⟩,by lia,by lia⟩
 subst ln;show aB (eZ K X C m d g u S l n E) (bJ.drop 5) (Dn Q) [some<|.ref sc,some<|.int (D.length:Nat),some<|.int (o:Nat),some<|.ref p0,some<|.ref p2,some<|.ref L,none,none,none,none,none,none] H4;refine YL<|aY<|aV<|vP rfl rfl (BW.seq yS) (by decide)<|ao<|lP (by decide)<|ao<|gB ⟨_,rfl,kR (λhc=>?_)<|λhc=>bU<|Q9 B0 lt hs lx qD q⟩
 refine cZ<|eG C (tq C m) rfl<|ag rfl ⟨p2,d2,_,rfl,A4.ob,cW,BU (a:="") (k:=5) (λH1 Q1 _ q1=>ao q1) λG2 U H5 s5 fG hG pG=>?_⟩;obtain⟨ok,cc⟩:=yQ (k:=5) GN (by decide)
 have B5:=B0.same s5;refine⟨Sv.M ⟨p0,dx,r,ch,I⟩,⟨p2,d2,q2,dq,e,o⟩,t0,0,0,none,G2,U,zc,t1.cps.toList,rfl,B5.ha,B5.sv.al,hG,pG,ok,cc,by show 2<=10000;decide,vO,GP,by decide+kernel,λv H6 b6 A6=>?_⟩
 have e1:(⟨t1.cps.toList.toArray⟩:Str)=t1:=gP rfl;rw[e1] at A6;have sv5:=B5.sv;obtain⟨_,mM,_⟩:=B5.ha.st.ob;have sm6:au H H6:=λz o ez=>b6 _ _ (B5.sm _ _ ez) λy=>by
  have fz:H2 q2≠none:=λw0=>by obtain⟨_,g0,_⟩:=A2.st.ob;rw[w0] at g0;cases g0
  have e3:=s2 _ _ (G0 _ _ ez);rw[y,fq2] at e3;cases e3
 have nqL:L≠q2:=λy=>by have:=B5.hL;rw[y,mM] at this;cases this
 exact Q9 {B5 with sm:=sm6,sv:=sv5.but b6 mM (by show 6≠4;decide),ha:=A6,t:=.inr ⟨rfl,rfl⟩,f:=.inr ⟨rfl,rfl⟩,hL:=b6 _ _ B5.hL nqL} lt hs lx qD q
end
section
variable {K:Frag}{C g k f l m n CT CN c:wl}{d:db}
theorem xD{a:wl}(x:h9 K d c a j):∀e∈ [(a,j)],h9 K d c e.1 e.2:=λe he=>by rw[zag.mp he];exact x
theorem hd2{a b:wl}(x:h9 K d c a i)(y:h9 K d c b j):∀e∈ [(a,i),(b,j)],h9 K d c e.1 e.2:=λe he=>by
 rcases zad.mp he with rfl|he
 ·exact x
 ·exact xD y e he
theorem ahs(x9:h9 K d c f 9)(x2:h9 K d c l 2)(B:be)(H:Hp)(Q:VK)(E:XK)(h:lR k l f B H Q E):aB (yx K k "came" (i4 k l f) d c E) MT (Dn Q) (start MR B) H:=BD (hd2 x9 x2) B H Q E h
theorem aht(x9:h9 K d c f 9)(B:be)(H:Hp)(Q:VK)(E:XK)(h:vN C g f B H Q E):aB (yx K C "came" (eF (tu C g f)<|FW C g f) d c E) MT (Dn Q) (start MW B) H:=BD (xD x9) B H Q E h
theorem ahu(x:h9 K d c m 10)(B:be)(H:Hp)(Q:VK)(E:XK)(h:qE k m B H Q E):aB (yx K k "change" (yp k m) d c E) M6 (Dn Q) (start M5 B) H:=BD (xD x) B H Q E h
theorem ahv(x1:h9 K d c n 1)(x2:h9 K d c l 2)(B:be)(H:Hp)(Q:VK)(E:XK)(h:mW C g n l B H Q E):aB (yx K C "do" (eF (tq C g)<|FV C g n l) d c E) M9 (Dn Q) (start M8 B) H:=BD (hd2 x1 x2) B H Q E h
end
def yT:Sp:=λ_ _ _ _=>False
theorem ahw{K:Frag}{et:em}(B:be)(H:Hp)(Q:VK)(E:XK)(h:yT B H Q E):aB (aR K [] [] (et:=et) (E:=E)) K3 (Dn Q) (start K2 B) H:=h.elim
theorem ahx{K:Frag}(B:be)(H:Hp)(Q:VK)(E:XK)(h:yT B H Q E):aB (aR K [("part_size",rZ),("cut_behind",yT)] [] [] [("word",C,u0 C),("take",C,sE C),("left",C,u_ C)] (E:=E)) K5 (Dn Q) (start K4 B) H:=h.elim
theorem ahy{K:Frag}{et:em}(B:be)(H:Hp)(Q:VK)(E:XK)(h:yT B H Q E):aB (aR K [("sizes",kd),("parts_behind",yT),("neat",uK)] [] [] [("word",C,u0 C),("take",C,sE C),("left",C,u_ C)] [("Walk",C,kj C)] (et:=et) (E:=E)) K8 (Dn Q) (start K7 B) H:=h.elim
section
open PySem.W (Frag nsIn findIn isFn keepIn codeIn fnOf mg_of mg_none_of)
def iH(st:wS):ac:=(jz st).args.map (·.arg)
structure Top (P:ww) (w:wE) (K:Frag) (mg:bv) (base:wT):Prop where
 X:K.In base
 G:base.Ns mainGlobals mg
def bS(K:Frag)(x:Str)(st:wS):Prop:= ∃f fd,nsIn K mainGlobals x=some (some<|.ref f)/\o9 K x x st f fd
def dJ(K:Frag)(C:wl)(x q:Str)(st:wS):Prop:= ∃f fd,findIn K (.ref C) x=some (some<|.ref f)/\isFn K (.ref f)=true/\o9 K x q st f fd
structure vR (K:Frag) (x:Str) (C:wl):Prop where
 g:nsIn K mainGlobals x=some (some<|.ref C)
 m:makesIn K C=true
 k:keepIn K (.ref C)=true
structure gj (K:Frag) (p:Str×V):Prop where
 ex:∃u,nsIn K mainGlobals p.1=some (some u)/\RelV p.2 u
structure qI (K:Frag) (p:Str×wl):Prop where
 g:nsIn K mainGlobals p.1=some (some<|.ref p.2)
 x:PySem.W.excIn K p.2 [.type "ValueError",.type "Exception",.type "BaseException",.type "object"] "ValueError.__new__"=true
section
variable {P:ww}{w:wE}{K:Frag}{n:bv}{z:wT}{x q:Str}{m:wS}{f C:wl}{g:x0}{k:Nat}{d:Sp}
theorem dfk{oc:wv}{od an:lm}{il:Array pp}{kV T' pm bI ct:wv}(a:nsIn K mainGlobals x=some (some<|.ref f))(l:K.lookup f=some ⟨oc,od,.func<|fnOf x x (jz m) (ej m) (e_ m) .none kV T' pm an bI ct,il⟩)
  (c:codeIn K bI x=true) (k:keepIn K (.ref f)=true):bS K x m:=⟨f,_,a,IQ l c k⟩
theorem dmk{oc:wv}{od an:lm}{il:Array pp}{kV T' pm bI ct:wv}(a:findIn K (.ref C) x=some (some<|.ref f))(i:isFn K (.ref f)=true)(l:K.lookup f=some ⟨oc,od,.func<|fnOf x q (jz m) (ej m) (e_ m) .none kV T' pm an bI ct,il⟩)
  (c:codeIn K bI q=true) (k:keepIn K (.ref f)=true):dJ K C x q m:=⟨f,_,a,i,IQ l c k⟩
theorem ahB{t:Tok}(h:nsIn K mainGlobals x=some (some<|.str y t)):gj K (x,.str y):=⟨_,h,⟨_,rfl⟩⟩
theorem ahC{y:Int}{t:Tok}(h:nsIn K mainGlobals x=some (some<|.int y t)):gj K (x,.int y):=⟨_,h,⟨_,rfl⟩⟩
theorem ahD{y:wl}(h:nsIn K mainGlobals x=some (some<|.ref y)):gj K (x,.ref y):=⟨_,h,rfl⟩
theorem ahE(h:findIn K (.ref C) y=some none):eh K C y:=h
theorem Top.gv{p:Str×V}(Z00:Top P w K n z)(h:gj K p):wQ n p:=by
 obtain⟨u,a,b⟩:=h.ex;exact⟨u,mg_of Z00.X Z00.G a,b⟩
theorem Top.no(Z00:Top P w K n z)(h:nsIn K mainGlobals x=some none):n x=none:=mg_none_of Z00.X Z00.G h
theorem Top.exc{p:Str×wl}(Z00:Top P w K n z)(h:qI K p):Ah n z p:=adj Z00.X Z00.G h.g h.x
structure gV (P:ww) (w:wE) (K:Frag) (n:bv) (z:wT) (k:Nat) (m:wS) (d:Sp):Prop where
 ok:∀{x q:Str}{f:wl}{g:x0},o9 K x q m f g->c_ P w K n z (fh P w) k f g (iH m) d
theorem gV.or{a b:Sp}(A:gV P w K n z k m a)(C:gV P w K n z k m b):gV P w K n z k m (eF a b):=⟨λF=>(A.ok F).or<|C.ok F⟩
theorem Rh{N0 P:ac}{sc:Scope}(a:sc.kind=.function:=by kernel_rfl)(b:sc.isCoroutine=false:=by kernel_rfl)(c:sc.isGenerator=false:=by kernel_rfl)(d1:N0.Nodup:=by decide+kernel)(e:N0.take P.length=P:=by kernel_rfl)(f:∀x∈P,sc.names.lookup x=some .local\/sc.names.lookup x=some .cell:=by decide+kernel)(g0:∀y∈sc.names,y.2≠ .free:=by decide+kernel):oX N0 P sc:=⟨a,b,c,d1,e,f,g0⟩
theorem dL{N5 N0 bl:ac}{tab:le}{gt:cr}{dk:List (wl×ii)}{mt kt:List (Str×wl×Sp)}{et:em}{ht:le}{body:ci}(Z00:Top P w K n z)
  (rR:∀B H Q E,d B H Q E->aB (aR K tab gt dk mt kt et ht E) body {nx:=λ_ Y=>Q .av Y,rt:=Q} (start N0 B) H)
  (hm:∀{CX:cE}{J:aS}{X:Cx},di CX (uz N5 (e_ m) (tab.map (·.1)) (gt.map (·.1)) bl (mt.map (·.1)) (kt.map (·.1)) (et.map (·.1)) (ht.map (·.1))) J X->dg X (ej m) (aB J body)) (k:Nat)
  (len:∀B H Q E,d B H Q E->B.length=(iH m).length:=by intro _ _ _ _ h;first|(cases h;subst_eqs;show List.length (_::_)=_;kernel_rfl)|repeat (first|(obtain⟨rfl,_⟩:=h;kernel_rfl)|(obtain⟨_,h⟩:=h)))
  (DU:∀p∈tab,iu P w K n z k p.1 p.2:=by repeat (first|exact mF|refine mG (iu.mono (by assumption) (by first|decide|lia)) ?_))
  (rP:∀p∈gt,wQ n p:=by repeat (first|exact mF|refine mG (Top.gv (by assumption) (by assumption)) ?_))
  (rQ:∀y∈bl,n y=none:=by repeat (first|exact mF|refine mG (Top.no (by assumption) (by assumption)) ?_))
  (DV:∀q∈dk,Ko P w K q:=by repeat (first|exact mF|refine mG (by assumption) ?_))
  (DW:∀p∈mt,jI P w K n z k p:=by repeat (first|exact mF|refine mG (jI.mono (by assumption) (by first|decide|lia)) ?_))
  (DX:∀p∈kt,rO P w K n z k p:=by repeat (first|exact mF|refine mG (rO.mono (by assumption) (by first|decide|lia)) ?_))
  (het:∀p∈et,Ah n z p:=by repeat (first|exact mF|refine mG (Top.exc (by assumption) (by assumption)) ?_))
  (DY:∀p∈ht,pN P w K n z k p.1 p.2:=by repeat (first|exact mF|refine mG (pN.mono (by assumption) (by first|decide|lia)) ?_))
  (S:oX N5 (iH m) (e_ m):=by exact Rh) (hN:N0.length=N5.length:=by kernel_rfl):gV P w K n z (k+1) m d:=
 ⟨λF=>YI F S tab gt bl mt kt et ht body hm DU rP rQ dk DV DW DX het DY len λB H Q E h=>by
  have r:=rR B H Q E h;unfold start at r⊢;rw[hN] at r;exact r⟩
def Bd(x q:Str)(m:wS):Prop:= ∀(kV T' pm:wv) (an:lm) (bI ct:wv) (us:ce),us.length=(iH m).length->bindArgs (fnOf x q (jz m) (ej m) (e_ m) .none kV T' pm an bI ct) ⟨us,[]⟩=pure ((iH m).zip us)
theorem ahF(hp:(iH m).length=1)(h:∀(kV T' pm:wv) (an:lm) (bI ct a0:wv),bindArgs (fnOf x q (jz m) (ej m) (e_ m) .none kV T' pm an bI ct) ⟨[a0],[]⟩=pure ((iH m).zip [a0])):Bd x q m:=λkV T' pm an bI ct us hl=>by
 have e:=hl.trans hp;rcases us with _|⟨a0,_|⟨_,_⟩⟩ <;>first|exact h kV T' pm an bI ct _|exact absurd e (by simp)
theorem ahG(hp:(iH m).length=2)(h:∀(kV T' pm:wv) (an:lm) (bI ct a0 a1:wv),bindArgs (fnOf x q (jz m) (ej m) (e_ m) .none kV T' pm an bI ct) ⟨[a0,a1],[]⟩=pure ((iH m).zip [a0,a1])):Bd x q m:=λkV T' pm an bI ct us hl=>by
 have e:=hl.trans hp;rcases us with _|⟨a0,_|⟨a1,_|⟨_,_⟩⟩⟩ <;>first|exact h kV T' pm an bI ct _ _|exact absurd e (by simp)
theorem ahH(hp:(iH m).length=3)(h:∀(kV T' pm:wv) (an:lm) (bI ct a0 a1 a2:wv),bindArgs (fnOf x q (jz m) (ej m) (e_ m) .none kV T' pm an bI ct) ⟨[a0,a1,a2],[]⟩=pure ((iH m).zip [a0,a1,a2])):Bd x q m:=λkV T' pm an bI ct us hl=>by
 have e:=hl.trans hp;rcases us with _|⟨a0,_|⟨a1,_|⟨a2,_|⟨_,_⟩⟩⟩⟩ <;>first|exact h kV T' pm an bI ct _ _ _|exact absurd e (by simp)
theorem ahI(hp:(iH m).length=4)(h:∀(kV T' pm:wv) (an:lm) (bI ct a0 a1 a2 a3:wv),bindArgs (fnOf x q (jz m) (ej m) (e_ m) .none kV T' pm an bI ct) ⟨[a0,a1,a2,a3],[]⟩=pure ((iH m).zip [a0,a1,a2,a3])):Bd x q m:=λkV T' pm an bI ct us hl=>by
 have e:=hl.trans hp;rcases us with _|⟨a0,_|⟨a1,_|⟨a2,_|⟨a3,_|⟨_,_⟩⟩⟩⟩⟩ <;>first|exact h kV T' pm an bI ct _ _ _ _|exact absurd e (by simp)
theorem BZ(hb:Bd x q m:=by first|exact ahF (by kernel_rfl) λ_ _ _ _ _ _ _=>rfl|exact ahG (by kernel_rfl) λ_ _ _ _ _ _ _ _=>rfl|exact ahH (by kernel_rfl) λ_ _ _ _ _ _ _ _ _=>rfl|exact ahI (by kernel_rfl) λ_ _ _ _ _ _ _ _ _ _=>rfl|exact ajO (by kernel_rfl) λ_ _ _ _ _ _ _ _ _ _ _=>rfl|exact ajP (by kernel_rfl) λ_ _ _ _ _ _ _ _ _ _ _ _=>rfl|exact ajQ (by kernel_rfl) λ_ _ _ _ _ _ _ _ _ _ _ _ _=>rfl|exact ajR (by kernel_rfl) λ_ _ _ _ _ _=>rfl):Bd x q m:=hb
theorem dT(Z00:Top P w K n z)(D:bS K x m)(R00:gV P w K n z k m d)(hb:Bd x x m:=by exact BZ):iu P w K n z k x d:=by
 obtain⟨f,g,a,F⟩:=D;exact⟨f,g,_,R00.ok F,mg_of Z00.X Z00.G a,F.kp,F.binds hb⟩
theorem dM(D:dJ K C x q m)(c:fE K C)(R00:gV P w K n z k m d)(hb:Bd x q m:=by exact BZ):jI P w K n z k (x,C,d):=by
 obtain⟨f,g,a,i,F⟩:=D;exact⟨c,f,g,_,⟨a,i,F.kp⟩,R00.ok F,F.binds hb⟩
theorem dI{cn:Str}(Z00:Top P w K n z)(D:dJ K C "__init__" q m)(M:vR K cn C)(R00:gV P w K n z k m d)(hb:Bd "__init__" q m:=by exact BZ):rO P w K n z (k+1) (cn,C,d):=by
 obtain⟨f,g,a,i,F⟩:=D;exact⟨k,f,g,_,zqR _,⟨M.m,a,i,M.k⟩,R00.ok F,mg_of Z00.X Z00.G M.g,F.binds hb⟩
theorem dH{N5 N0 bl:ac}{gt:cr}{body:ci}(Z00:Top P w K n z)(D:bS K x m)
  (rR:∀B H Q,d B H Q E0->aB (aR K [] gt) body {nx:=λ_ Y=>Q .av Y,rt:=Q} (start N0 B) H)
  (hm:∀{CX:cE}{J:aS}{X:Cx},di CX (uz N5 (e_ m) [] (gt.map (·.1)) bl (md:=1)) J X->dg X (ej m) (aB J body)) (k:Nat)
  (len:∀B H Q E,d B H Q E->B.length=(iH m).length:=by intro _ _ _ _ h;first|(cases h;subst_eqs;show List.length (_::_)=_;kernel_rfl)|repeat (first|(obtain⟨rfl,_⟩:=h;kernel_rfl)|(obtain⟨_,h⟩:=h)))
  (rP:∀p∈gt,wQ n p:=by repeat (first|exact mF|refine mG (Top.gv (by assumption) (by assumption)) ?_))
  (rQ:∀y∈bl,n y=none:=by repeat (first|exact mF|refine mG (Top.no (by assumption) (by assumption)) ?_))
  (S:oX N5 (iH m) (e_ m):=by exact Rh) (hb:Bd x x m:=by exact BZ) (hN:N0.length=N5.length:=by kernel_rfl):pN P w K n z (k+1) x d:=by
 obtain⟨f,g,a,F⟩:=D;exact YJ F S (mg_of Z00.X Z00.G a) (F.binds hb) gt bl body hm rP rQ len λB H Q h=>by
  have r:=rR B H Q h;unfold start at r⊢;rw[hN] at r;exact r
theorem iu.l{a b:Sp}(T:iu P w K n z k x (eF a b)):iu P w K n z k x a:=T.weak λ_ _ _ _ h=>.inl h
theorem iu.r{a b:Sp}(T:iu P w K n z k x (eF a b)):iu P w K n z k x b:=T.weak λ_ _ _ _ h=>.inr h
theorem jI.l{a b:Sp}(T:jI P w K n z k (x,C,eF a b)):jI P w K n z k (x,C,a):=T.weak λ_ _ _ _ h=>.inl h
theorem ahJ{h:wT}{fa:wl}(X:K.In h)(G:h.Ns mainGlobals n)(G3:n x=some (.ref fa))(D:bS K x m)
  (R00:∀z,Top P w K n z->gV P w K n z k m d) (hp:iH m=[y]:=by kernel_rfl)
  (hb:∀(kV T' pm:wv) (an:lm) (bI ct a0:wv),bindArgs (fnOf x x (jz m) (ej m) (e_ m) .none kV T' pm an bI ct) ⟨[a0],[]⟩=pure [(y,a0)]:=by exact λ_ _ _ _ _ _ _=>rfl):
  ∃g:x0,(∀(s:wn) (v:wv),BindsTo s g ⟨[v],[]⟩ [(y,v)])/\∀z:wT,K.In z->z.Ns mainGlobals n->c_ P w K n z wm k fa g [y] (λB H Q _=>d B H Q E0):=by
 obtain⟨f,g,e,F⟩:=D;cases G3.symm.trans (mg_of X G e);have F':=F;obtain⟨oc,od,kV,T',pm,an,bI,ct,il,rfl,lk,i8⟩:=F'.ex;refine⟨_,λs v=>.of_eq<|hb kV T' pm an bI ct v,λz X2 G2=>?_⟩;have r:=(R00 z ⟨X2,G2⟩).ok F;rw[hp] at r;exact c_.top r
def Ri(K:Frag)(cs:db)(bz D:wl)(j:Nat):xz:=(cs.zipIdx.all λc=>kitOne K (.ref D) (.ref c.1)==some (decide<|c.2=j)) && kitOne K (.ref D) (.ref bz)==some true && kitOne K (.ref D) (.type "ValueError")==some true
structure mX (K:Frag) (cs:db) (bz D:wl) (j:Nat):Prop where
 c:ug K D
 b:Ri K cs bz D j=true
 x:exmOne K (.ref D) (.ref bz)=some true
theorem mX.vS{cs:db}{bz D:wl}(h:mX K cs bz D j):uQ K cs bz D j:=by
 have b:=h.b
 simp only[Ri,zaa,KB,zbk] at b
 refine⟨h.c,λi c e=>b.1.1 (c,i) ?_,b.1.2,b.2⟩;rw[List.mem_zipIdx_iff_getElem?];exact e
end
end
section
open PyProof.Rows
theorem all_mk{P:ww}{w:wE}{K:Frag}{h:wT}{mg:bv}{fa oR i7 vT ie qJ jY ig e8 qK qL qM qN qO qP gX gY lS qQ:wl}(X:K.In h)(G:h.Ns mainGlobals mg)(G3:mg "law"=some (.ref fa))
  (ajS:gj K ("InkError",.ref qJ))
  (ajT:gj K ("BadText",.ref jY))
  (ajU:gj K ("BadChange",.ref ig))
  (ajV:gj K ("BadFit",.ref e8))
  (ajW:gj K ("NoPlace",.ref qK))
  (ajX:gj K ("BadSide",.ref qL))
  (ajY:gj K ("NoMark",.ref qM))
  (ajZ:gj K ("NoNode",.ref qN))
  (aj0:gj K ("NoCursor",.ref qO))
  (aj1:gj K ("BadDeed",.ref qP))
  (aj2:gj K ("BadLetter",.ref gX))
  (aj3:gj K ("NoLetter",.ref gY))
  (aj4:gj K ("NoHand",.ref lS))
  (aj5:gj K ("NoNote",.ref qQ))
  (ahK:vR K "Walk" oR)
  (ahL:vR K "Server" i7)
  (ahM:vR K "Stand" vT)
  (ahN:vR K "Hand" ie)
  (oS:pO K oR)
  (gH:jL K i7)
  (jZ:iy K vT)
  (fS:jM K ie)
  (aj6:qI K ("BadText",jY))
  (aj7:qI K ("BadChange",ig))
  (aj8:qI K ("BadFit",e8))
  (aj9:qI K ("BadLetter",gX))
  (aj_:qI K ("NoLetter",gY))
  (aka:qI K ("NoHand",lS))
  (Rj:mX K [jY,ig,e8,qK,qL,qM,qN,qO,qP,gX,gY,lS,qQ] qJ jY 0)
  (Rk:mX K [jY,ig,e8,qK,qL,qM,qN,qO,qP,gX,gY,lS,qQ] qJ ig 1)
  (Rl:mX K [jY,ig,e8,qK,qL,qM,qN,qO,qP,gX,gY,lS,qQ] qJ e8 2)
  (Rm:mX K [jY,ig,e8,qK,qL,qM,qN,qO,qP,gX,gY,lS,qQ] qJ gX 9)
  (Rn:mX K [jY,ig,e8,qK,qL,qM,qN,qO,qP,gX,gY,lS,qQ] qJ gY 10)
  (Ro:mX K [jY,ig,e8,qK,qL,qM,qN,qO,qP,gX,gY,lS,qQ] qJ lS 11)
  (w_y:mX K [] ig ig 0)
  (a0:bS K "is_whole" Le)
  (a1:bS K "is_between" Lf)
  (a2:bS K "is_word" Lg)
  (a3:bS K "is_text" Lh)
  (a4:bS K "need_text" Li)
  (a5:bS K "is_part" Lj)
  (a6:bS K "may_follow" Lk)
  (a7:bS K "need_change" Ll)
  (a8:bS K "is_change" Lo)
  (a9:bS K "part_size" Lp)
  (a10:bS K "sizes" Lq)
  (a11:dJ K oR "__init__" "Walk.__init__" Ls)
  (a12:dJ K oR "word" "Walk.word" Lu)
  (a13:dJ K oR "left" "Walk.left" Lv)
  (a14:dJ K oR "take" "Walk.take" Lw)
  (a15:bS K "add_keep" Lx)
  (a16:bS K "add_texts" Ly)
  (a17:bS K "neat" Lz)
  (a18:bS K "done" LA)
  (a19:bS K "put_first" LC)
  (a20:bS K "share" LD)
  (a21:bS K "passed" LG)
  (a22:dJ K i7 "__init__" "Server.__init__" LL)
  (a23:dJ K i7 "text" "Server.text" LN)
  (a24:dJ K i7 "many" "Server.many" LP)
  (a25:dJ K i7 "change" "Server.change" LV)
  (a26:dJ K i7 "took" "Server.took" LX)
  (a27:dJ K i7 "is_ask" "Server.is_ask" LZ)
  (a28:dJ K i7 "is_again" "Server.is_again" L7)
  (a29:dJ K i7 "is_known" "Server.is_known" L9)
  (a30:dJ K i7 "came" "Server.came" L_)
  (a31:dJ K i7 "take_in" "Server.take_in" Mb)
  (a32:bS K "cut_behind" Mc)
  (a33:bS K "parts_behind" Md)
  (a34:bS K "then" Me)
  (a35:dJ K vT "__init__" "Stand.__init__" Mh)
  (a36:bS K "twin_of" Mm)
  (a37:bS K "copied" Mo)
  (a38:bS K "let_in" Mq)
  (a39:dJ K ie "__init__" "Hand.__init__" Mt)
  (a40:dJ K ie "text" "Hand.text" Mv)
  (a41:dJ K ie "seen" "Hand.seen" Mx)
  (a42:dJ K ie "flight" "Hand.flight" Mz)
  (a43:dJ K ie "ask" "Hand.ask" MC)
  (a44:dJ K ie "take_off" "Hand.take_off" ME)
  (a45:dJ K ie "do" "Hand.do" MG)
  (a46:dJ K ie "need_took" "Hand.need_took" MI)
  (a47:dJ K ie "land" "Hand.land" MK)
  (a48:dJ K ie "came" "Hand.came" ML)
  (a49:dJ K ie "nudge" "Hand.nudge" MP)
  (a50:bS K "_law_cell_at" MQ)
  (a51:bS K "_law_word" gw)
  (a52:bS K "_law_server_refused" MV)
  (a53:bS K "_law_hand_refused" M0)
  (a54:bS K "_law_made_refused" M4)
  (a55:bS K "_law_number_refused" M7)
  (a56:bS K "_law_change_refused" M_)
  (a57:bS K "_law_no_change" rX)
  (a58:bS K "_law_no_ask" d6)
  (a59:bS K "_law_no_took" eN)
  (a60:bS K "_law_unfit" Nb)
  (a61:bS K "_law_all" Nf)
  (a62:bS K "_law_taken" Ni)
  (a63:bS K "_law_first_refused" Nl)
  (a64:bS K "_law_others_refused" fK)
  (a65:bS K "_law_cut" Nq)
  (a66:bS K "_law_goes_on" Nt)
  (a67:bS K "_law_own_comes" Nw)
  (a68:bS K "_law_early" Nz)
  (a69:bS K "_law_later" NC)
  (a70:bS K "_law_letter_comes" NG)
  (a71:bS K "law" bZ)
  (akb:gj K ("SIGNS",.str SG))
  (akc:gj K ("MOST_HANDS",.int 8))
  (akd:nsIn K mainGlobals "ValueError"=some none)
  (ake:nsIn K mainGlobals "bool"=some none)
  (akf:nsIn K mainGlobals "dict"=some none)
  (akg:nsIn K mainGlobals "int"=some none)
  (akh:nsIn K mainGlobals "isinstance"=some none)
  (aki:nsIn K mainGlobals "len"=some none)
  (akj:nsIn K mainGlobals "list"=some none)
  (akk:nsIn K mainGlobals "max"=some none)
  (akl:nsIn K mainGlobals "min"=some none)
  (akm:nsIn K mainGlobals "range"=some none)
  (akn:nsIn K mainGlobals "repr"=some none)
  (ako:nsIn K mainGlobals "str"=some none)
  (akp:nsIn K mainGlobals "sum"=some none)
  (akq:nsIn K mainGlobals "tuple"=some none)
  :∃fd:x0,(∀(s:wn) (v:wv),BindsTo s fd ⟨[v],[]⟩ [("_law_script",v)])/\∀base:wT,K.In base->base.Ns mainGlobals mg->c_ P w K mg base wm 10 fa fd ["_law_script"] (λB H Q _=>(BY K) B H Q E0):=by
 have Rp:=Rj.vS;have Rq:=Rj.x;have aiP:=Rk.vS;have aiQ:=Rk.x;have Rr:=Rl.vS;have Rt:=Rl.x;have Ru:=Rm.vS;have Rv:=Rm.x;have aiR:=Rn.vS;have aiS:=Rn.x;have Rw:=Ro.vS;have Rx:=Ro.x;have X_y:=w_y.x;refine ahJ X G G3 a71 λbase Z00=>?_;have T0:=dT Z00 a0 (dL Z00 acQ @Zm 0);have T1:=dT Z00 a1 (dL Z00 adK @Zn 1);have T2:=dT Z00 a2 (dL Z00 acV @Zo 0);have T3:=dT Z00 a3 (dL Z00 acR @Zp 0);have T4:=dT Z00 a4 (dL Z00 acT @Zq 1);have akr:=T4.weak (a:=EM) λ_ _ _ _ h=>acU h;have T5:=dT Z00 a5 (dL Z00 acW @Zr 1);have aks:=T5.weak (a:=Ey) λ_ _ _ _ h=>acY h;have T6:=dT Z00 a6 (dL Z00 abU @Zs 0);have T7:=dT Z00 a7 (gV.or (dL Z00 (ab3 (et:=[("BadChange",ig)])) @Lm 2)<|dL Z00 ac0 @Lm 2);have akt:=T7.l;have aku:=T7.r;have T8:=dT Z00 a8 (dL Z00 (ae6 X_y) @Zu 3);have T9:=dT Z00 a9 (dL Z00 abV @Zv 0);have T10:=dT Z00 a10 (gV.or (dL Z00 ab5 @Lr 3)<|dL Z00 ac2 @Lr 3);have akv:=T10.l;have T11:=dI Z00 a11 ahK (dL Z00 (adA oS) @Zw 0);have T12:=dM a12 oS.cl (dL Z00 (adB oS) @Zx 0);have T13:=dM a13 oS.cl (dL Z00 (adC oS) @Zy 1);have aky:=T13.weak (a:=vd oR) λ_ _ _ _ h=>adD h;have T14:=dM a14 oS.cl (dL Z00 (adE oS) @Zz 2);have T15:=dT Z00 a15 (dL Z00 aca @ZA 0);have T16:=dT Z00 a16 (dL Z00 ab7 @ZC 0);have T17:=dT Z00 a17 (dL Z00 acg @ZD 1);have Ry:=dT Z00 a18 (gV.or (dL Z00 (acL (et:=[("BadFit",e8)])) @LB 4)<|dL Z00 ac4 @LB 4);have akD:=Ry.l;have akE:=Ry.r;have T19:=dT Z00 a19 (dL Z00 adR @ZE 3);have T20:=dT Z00 a20 (gV.or (dL Z00 (adT (et:=[("BadFit",e8)])) @LF 0)<|dL Z00 aeG @LF 0);have akG:=T20.l;have Rz:=dT Z00 a21 (gV.or (dL Z00 (ad5 (et:=[("BadFit",e8)]) oS) @LH 4)<|dL Z00 (aeI oS) @LH 4);have akH:=Rz.l;have akI:=Rz.r;have T22:=dI Z00 a22 ahL (dL Z00 (afs gH) @ZH 2);have T23:=dM a23 gH.cl (dL Z00 (afz gH) @ZI 0);have T24:=dM a24 gH.cl (dL Z00 (afA gH) @ZJ 0);have T25:=dM a25 gH.cl (dL Z00 (afB gH) @ZL 2);have T26:=dM a26 gH.cl (dL Z00 (afC gH) @ZM 3);have T29:=dM a29 gH.cl (dL Z00 (afD gH) @ZR 2);have T27:=dM a27 gH.cl (dL Z00 afF @ZO 4);have T28:=dM a28 gH.cl (dL Z00 afE @ZQ 3);have T31:=dM a31 gH.cl (gV.or (dL Z00 (afL (A:=gY) (l:=e8) gH) @Ep 5)<|gV.or (dL Z00 (afH (A:=gY) (CT:=jY) (f:=ig) gH) @Ep 5)<|dL Z00 (afI (A:=gY) (f:=ig) gH) @Ep 5);have T30:=dM a30 gH.cl (dL Z00 (afY (A:=gY) gH) @ZU 6);have T32:=dT Z00 a32 (dL Z00 (ahw (et:=[("BadFit",e8)])) @ZX 0);have T33:=dT Z00 a33 (dL Z00 (ahx (C:=oR)) @ZY 3);have T34:=dT Z00 a34 (dL Z00 (ahy (et:=[("BadFit",e8)]) (C:=oR)) @ZZ 4);have T35:=dI Z00 a35 ahM (dL Z00 (ae1 jZ) @Z0 0);have T36:=dT Z00 a36 (dL Z00 (ae3 jZ) @Z2 2);have T37:=dT Z00 a37 (dL Z00 aeT @Z3 0);have T38:=dT Z00 a38 (dL Z00 (ae8 jZ) @Z4 5);have T39:=dI Z00 a39 ahN (dL Z00 (ae5 fS) @Z6 2);have T40:=dM a40 fS.cl (dL Z00 (aeR fS jZ) @Z7 0);have T41:=dM a41 fS.cl (dL Z00 (aeS fS jZ) @Z8 0);have T42:=dM a42 fS.cl (dL Z00 (aeU fS jZ) @Z_ 1);have T43:=dM a43 fS.cl (dL Z00 (aeV fS jZ) @aaa 0);have T44:=dM a44 fS.cl (dL Z00 (aeW fS jZ) @aac 1);have T45:=dM a45 fS.cl (gV.or (dL Z00 (afb fS jZ) @MH 5)<|dL Z00 (afa (CT:=jY) fS jZ) @MH 5);have ak6:=T45.l;have T46:=dM a46 fS.cl (dL Z00 (ae7 fS) @aaf 4);have T47:=dM a47 fS.cl (dL Z00 (aeY (C:=ie) jZ) @aag 2);have T48:=dM a48 fS.cl (gV.or (dL Z00 (afh fS jZ) @MM 6)<|dL Z00 aff @MM 6)
 have ak9:=T48.l;have T49:=dM a49 fS.cl (dL Z00 (aeZ fS jZ) @aak 1);have T50:=dT Z00 a50 (dL Z00 abW @aal 0);have T51:=dH (d:=xi K [jY,ig,e8,qK,qL,qM,qN,qO,qP,gX,gY,lS,qQ] qJ) Z00 a51 adh @aau 0;have T52:=dT Z00 a52 (dL Z00 (ahs ⟨Ru,by decide,Rv⟩ ⟨Rr,by decide,Rt⟩) @aav 7)
 have T53:=dT Z00 a53 (dL Z00 (aht ⟨Ru,by decide,Rv⟩) @aaw 7)
 have T54:=dT Z00 a54 (dL Z00 (af3 (g:=i7) (C:=ie) (u:=vT) ⟨Rp,by decide,Rq⟩ ⟨Rw,by decide,Rx⟩) @aax 4)
 have T55:=dT Z00 a55 (dL Z00 (ahu ⟨aiR,by decide,aiS⟩) @aay 3)
 have T56:=dT Z00 a56 (dL Z00 (ahv ⟨aiP,by decide,aiQ⟩ ⟨Rr,by decide,Rt⟩) @aaA 6)
 have T57:=dT Z00 a57 (dL Z00 af6 @aaD 0);have T58:=dT Z00 a58 (dL Z00 af7 @aaP 1);have T59:=dT Z00 a59 (dL Z00 af8 @aa0 1);have T60:=dT Z00 a60 (dL Z00 aga @aa2 1);have T61:=dT Z00 a61 (dL Z00 agg @aa5 2);have T62:=dT Z00 a62 (dL Z00 (agx (d:=e8) (g:=gX)) @aa7 7);have T63:=dT Z00 a63 (dL Z00 (af4 (g:=i7) (C:=ie) (u:=vT) ⟨Rp,by decide,Rq⟩ ⟨Rw,by decide,Rx⟩) @aa8 4)
 have T64:=dT Z00 a64 (dL Z00 (agE (u:=gY) (S:=ig) (d:=e8)) @abh 7);have T65:=dT Z00 a65 (dL Z00 (agK (d:=e8) (g:=gX)) @abj 8);have T66:=dT Z00 a66 (dL Z00 (agV (d:=e8) (g:=gX)) @abl 7);have T67:=dT Z00 a67 (dL Z00 (ag4 (g:=gX)) @abn 7);have T68:=dT Z00 a68 (dL Z00 (agH (u:=gY) (d:=e8) (g:=gX)) @abp 8);have T69:=dT Z00 a69 (dL Z00 (agZ (u:=gY) (d:=e8) (g:=gX)) @abu 7);have T70:=dT Z00 a70 (dL Z00 (ag7 (g:=gX)) @abw 7);exact dL Z00 (ahj (X:=i7) (C:=ie) (m:=vT) (d:=e8) (g:=gX) (u:=gY) (S:=ig) (l:=jY) (n:=lS)) @abT 9
theorem walk{l:PySem.W.OpenLaw}{q:ww}{loose:ac}{XP:(bv)->wT->Prop}{YP:wE->wT->Prop}{d:DefRec}{K:Params->Frag}(hn:l.most=some 63)(wk:d.params.defaults=[])
  (hY:∀(w:wE) (h:wT),YP w h->(K w.params).In h)
  (F:∀(w:wE) (mg:bv) (fa:wl) (h:wT),(K w.params).In h->h.Ns mainGlobals mg->mg d.name=some (.ref fa)->
   ∃fd:x0,(∀(s:wn) (u:wv),BindsTo s fd ⟨[u],[]⟩ [("_law_script",u)])/\∀base:wT,(K w.params).In base->base.Ns mainGlobals mg->c_ l.prog w (K w.params) mg base wm 10 fa fd ["_law_script"] ((λK=>(λB H Q _=>(BY K) B H Q E0)) (K w.params))):
  PySem.W.WalkO q loose XP YP l.row.toRowW d [] (λf B=>PySem.call f B):=
 UZ (n:=63) (k:=10) (x:="_law_script") (CX:=λ_=>wm) (sp:=λw=>(λK=>(λB H Q _=>(BY K) B H Q E0)) (K w.params)) hn (by decide) wk ⟨rfl,by decide,by decide,rfl⟩ hY F (λ_ _ a ns hl _ hS=>⟨a,ns,rfl,hS,λ_=>rfl⟩) λ_ _ _ _ _ z=>z
end
end Internal
structure PySem.W.Fast:Prop where(tw9787127101791836510 tw4887484132569483828 tw11281252434703335736 tw4408844860620171864 tw1706499346079972392 tw13379784715203924823 tw5302294788398145069 tw10793219503890031147 tw305747344394321767 tw14846213957582350077 tw10292693293544041110 tw15867224196907026693 tw4868406851163846617 tw5212803554954187892 tw17141972294450704339 tw12097304596790157201 tw7423424793552066239 tw429565843019839567 tw4266751671404578968 tw12520664146520082460 tw6031154089694300596 tw7242577776433924426 tw14164121337574405838 tw16078436941121442998 tw11977326800382122225 tw3681577568513962536 tw4441136516175852634 tw630436707702403857 tw13208015702581130701 tw7029648881094013224 tw9698523764352232621 tw5299480339385332985 tw3649813406572314889 tw7657867268200606133 tw147248007394293448 tw16936297014761162857 tw1670184816813305289 tw3353519455742866265 tw8084268103952568009 tw10123759929540091082 tw10872323607870374765 tw1693293184691021894 tw7398517948834458249 tw1672832192792956795 tw3208615495573864935 tw11531987815365847067 tw1799031019264329970 tw6720853262404065694 tw9803147341228872097 tw13723909238964510194 tw10140017691011931604 tw7808137866558313375 tw8415664821376334585 tw17435306601502214548 tw2108321644131689064 tw12762066472644841713 tw1168569528032763703 tw12163281577933278327 tw15224189101319546386 tw1197011717696313922 tw4097602019674018917 tw13597396095213696743 tw15743548668552388994 tw4357951510528192515 tw10606036459811080060 tw13670996361023056173 tw15135730896748387124 tw9006935348505940925 tw12000221239811636469 tw450367918976571706 tw8757087751052104680 tw2518717038486547353 tw8594787796515308285 tw12114976293715160876 tw4624384205695552798 tw8566256805435710465 tw17195493544024449293 tw17633688063334445443 tw6137634855395226070 tw14074985756281154899 tw4880064090342231596 tw7777747483595136310 tw514824185932951467 tw5883118737865740582 tw10113797116910963143 tw5314643950309910014 tw3687293449873160291 tw3605452522401707258 tw4499074100093623597 tw14325472359072613097 tw5148378094184369040 tw6045106851235743342 tw13564819126940258198 tw17442072107116637076 tw9142252722823483369 tw8873259016255512241 tw16216334841958405578 tw576677356804380280 tw6353564977511675204 tw1960355928020601705 tw3175384376453920955 tw14564713803637656124 tw2690782543447572060 tw8773272174296864664 tw18276645845182827060 tw12212505088266221328 tw14937627197092825023 tw1583162843482888720 tw1247116232457376493 tw16387511916468304831 tw3104565710041762215 tw3012854327470019983 tw17289466956442888605 tw4322075836504070872 tw16091460715964356246 tw6846966420763755693 tw8358886289225193194 tw14529697982760555967 tw7695094529015886630 tw16029319635888772553 tw14277078945490048629 tw195693948252278540 tw16688085283822737296 tw10581293940748724008 tw7753330895576273685 tw7883444981791043280 tw16797693898660882818 tw324384553308616686 tw13187023614072170155 tw12203255520436416810 tw12309241141907195916 tw13169360910124091858 tw14437779524398462325 tw17459803330762600954 tw5802164057173652044 tw2261077098197224216 tw9413181334804850297 tw7711940344679903397 tw12469795641513065294 tw16332142460129583852 tw17566978756863960824 tw11783289109241594528 tw11394578221347503954 tw11300680915465230565 tw3264283357686808729 tw9450308347180312429 tw12362319078842730286 tw7670679040649231597 tw17629119546562346310 tw4542443506528914008 tw12478190282593202952 tw9704985369858117233 tw16543273807839161932 tw5538522468320600348 tw1659145116485723501 tw14321386775366796764 tw3859241853675598825 tw3239463874906514948 tw10356431490618227832 tw4078429027610922938 tw2129586210508505631 tw16410192417933037298 tw8368244257569546824 tw218436983160391270 tw194477969764026573 tw17621305933298749688 tw7460626015387788604 tw16040246247811880000 tw15036961391439449330 tw8515731928376424938 tw8623813261165385853 tw12328623614993260047 tw18159992394729602649 tw17237600348362454541 tw15747461042752313982 tw3124634287163829357 tw11924373876076754068 tw682918867895403340 tw1210631133595404051 tw2982859421969725693 tw14345155356274124937 tw7671115518115292841 tw4175826130653720023 tw18182896644760660493 tw18160531484103786067 tw2950565543672431388 tw7144635305644110651 tw204217857177012707 tw2223830238718313857 tw6159657135740425538 tw13794215535568579439 tw14000652246067976271 tw12975067923018058959 tw13648464659164310226 tw15321972709337556045 tw14860333934029496716 tw490365997070329470 tw16910791765811895854 tw13446453337275802501 tw5796182408898810635 tw16054859329794220130 tw13717125052696806121 tw8871248275104483593 tw14847169574393965122 tw3576011044658863169 tw13413265118334836936 tw1616111662171144998 tw4615204748527662701 tw1761204039853940445 tw5057111075266418950 tw9872550347725497498 tw14670505403646010605 tw8601060200057059378 tw8503111029249189836 tw13940897679608769181 tw4246917445050855660 tw8753377041038116451 tw6089611936712938837 tw6121725955586796294 tw239452520975868775 tw18340337693810520932 tw1331994852674150906 tw14239323366765374818 tw18140812908529926199 tw11250373118929506988 tw86958019940313405 tw8130947790951846771 tw6209987067163971335 tw8629014753577417217 tw11411564328120317917 tw8957972027321977693 tw3538518269486463200 tw5765823724083802097 tw6771169126080330027 tw14893526345017309005 tw4949634039155654717 tw16658310404785939860 tw16880988428506713838 tw7444648206950245591 tw10426275985458250493 tw15054684257524995003 tw15406093226470583499 tw10786869796091284481 tw4679674805706324920 tw8459905812023881485 tw2276680034968000807 tw7208480462991997317 tw5891626217569496053 tw18201232404379293162 tw3513480062202606174 tw18331139336928995115 tw7735102467661696904 tw11819168666287161924 tw1110019033474643634 tw2509502897904934450 tw5870015156232029549 tw346882242104896883 tw10395043008813881498 tw9632359903471928760 tw14408556556435537148:True)
open PySem PySem.W PyProof.Rows
set_option maxRecDepth 100000 in
set_option maxHeartbeats 0 in
theorem PySem.Challenge.cw_inkloom_k39_letters_refused_holds : PySem.Challenge.rw_inkloom_k39_letters_refused.Holds := by
 w_on;o_law;k_head;(case hw=>w_witness2)
 k_fill
 refine Internal.walk (l:=PySem.Challenge.rw_inkloom_k39_letters_refused) rfl rfl (λw h Y=>PySem.W.kIn_of Y) ?F
 case F=>
  intro w mg fa h KX G jy
  refine' Internal.all_mk KX G jy ..
  all_goals try first | refine' Internal.dfk .. | refine' Internal.ahD .. | refine' Internal.vR.mk .. | refine' Internal.dmk .. | refine' Internal.ahC .. | refine' Internal.ahB .. | refine' Internal.qI.mk .. | refine' Internal.mX.mk (Internal.ug.mk ..) .. | refine' Internal.pO.mk (Internal.fE.mk ..) .. | refine' Internal.jL.mk (Internal.fE.mk ..) .. | refine' Internal.iy.mk (Internal.fE.mk ..) .. | refine' Internal.jM.mk (Internal.fE.mk ..) ..
  all_goals try refine' Internal.ahE ..
  all_goals try first | k_is | k_exc | kernel_rfl
